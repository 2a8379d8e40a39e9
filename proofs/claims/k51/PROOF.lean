import PyProof.Rows.All
import Wide.All
import OpenK.AllK
import Wide.FinOn
import Lean
import PyProof.EqAt
import PyProof.EqKinds
import PyProof.TupleCall
import PyProof.NeData
import PyProof.DictItems
import PyProof.JoinWalk
import PyProof.CallStr
import OpenK.KOwn
import KE.KTryMore
import PyProof.EnumMake
import KE.KLam
import KE.KNestM
import KE.KEqDict
import PyProof.Conv_int
import PyProof.StrWalks
import PyProof.StrCalls2
import PyProof.StrLawsIn
import PyProof.SliceStr2
import PyProof.StrBlock2
import PySem.Challenge.RW_lastwaltz_k51_names_and_dances_at_the_de
set_option Elab.async false
set_option linter.all false
set_option compiler.extract_closed false
set_option hygiene false
set_option maxRecDepth 100000
set_option maxHeartbeats 4000000
local macro_rules|`(command|#check[$ns,*])=>return Lean.mkNullNode (<-ns.getElems.mapM fun n=>do
 let x:=Lean.mkIdent (.mkSimple s!"tw{n.raw.isNatLit?.getD 0}")
 `(theorem $x:ident:True:=⟨⟩))
def Zi:Nat->Lean.Syntax->StateM (List Lean.Syntax) Lean.Syntax
|n+1,.node i k a=>if k==`Lean.Parser.Term.cdot then modifyGet fun|x::l=>(x,l)|_=>(.missing,[]) else return .node i k (<-a.mapM (Zi n))
|_,s=>return s
def Zc (c:Char):Nat:=let v:=c.toNat;if v>96 then v-97 else if v==95 then 62 else if v>64 then v-39 else if v==39 then 63 else v+4
def Zn:List Char->Option Nat
|[a,b]=>some (Zc a*64+Zc b)
|[a,b,c]=>some (3328+(Zc a*64+Zc b)*64+Zc c)
|_=>none
def Zs (t:Array Lean.Syntax):Nat->Lean.Syntax->Lean.Syntax
|n+1,.node i k a=>
 if k==`«term#[_,]» then let b:=a[1]!.getSepArgs.toList;match b.head?.bind fun x=>if b.length>1&&x.isIdent then Zn x.getId.toString.toList else none with
  |some m=>if m<t.size&&t[m]!.isNatLit? !=some 0 then ((Zi 9999 t[m]!).run (b.tail.map (Zs t n))).1 else .node i k (a.map (Zs t n))
  |_=>.node i k (a.map (Zs t n))
 else .node i k (a.map (Zs t n))
|_,.ident i r n p=>match n.toString.toList with
 |'Z'::l=>match Zn l with
  |some m=>if m<t.size&&t[m]!.isNatLit? !=some 0 then t[m]! else .ident i r n p
  |_=>.ident i r n p
 |_=>.ident i r n p
|_,.ident _ r n p=>.ident .none r n p
|_,.atom _ v=>.atom .none v
|_,s=>s
def Zt (c:Lean.Syntax):Array Lean.Syntax:=c[1][1].getSepArgs.foldl (fun t x=>t.push (Zs t 9999 (if x.getKind==`Lean.Parser.Term.paren&&(x[1].getKind==`Lean.Parser.Term.byTactic||x[1][1].getKind==`Lean.Parser.Term.byTactic) then x[1] else x))) #[]
def Zx (b:Array (Array Lean.Syntax))(x:Lean.Syntax):Option (Array Lean.Syntax):=if x.isOfKind `Lean.Parser.Term.instBinder then x[2].isNatLit?.map (b[·]!) else none
def Zb (b:Array (Array Lean.Syntax)):Nat->Lean.Syntax->Lean.Syntax
|n+1,.node i k a=>.node i k (a.flatMap fun x=>(Zx b x).getD #[Zb b n x])
|_,s=>s
def Zv (c:Lean.Syntax):Array (Array Lean.Syntax):=c[1][1].getSepArgs.foldl (fun b x=>b.push (x[1].getArgs.flatMap fun x=>(Zx b x).getD #[x])) #[]
def Zd (x:Lean.Syntax):Lean.Syntax:=let d:=x[1];let k:=d.getKind
 if k==`Lean.Parser.Command.definition then x.setArg 1 (.node .none `Lean.Parser.Command.theorem #[.atom .none "theorem",d[1],.node .none `Lean.Parser.Command.declSig #[d[2][0],d[2][1][0]],d[3]])
 else if k==`Lean.Parser.Command.abbrev&&x[0][4].getNumArgs==0 then (x.setArg 1 (.node .none `Lean.Parser.Command.definition #[.atom .none "def",d[1],d[2],d[3],Lean.mkNullNode])).setArg 0 (x[0].setArg 4 (Lean.mkNullNode #[.node .none `Lean.Parser.Command.noncomputable #[.atom .none "noncomputable"]]))
 else x
local macro_rules|`(mutual $c:command $cs:command* end)=>do
 if !c.raw.isOfKind `Lean.Parser.Command.check then Lean.Macro.throwUnsupported
 let t:=Zt c
 let cs:=cs.raw.map (Zs t 9999)
 let b:=Zv cs[0]!
 return Lean.mkNullNode (<-(cs.extract 1 cs.size).mapM fun x=>do
  if x.isOfKind `Lean.Parser.Command.where then return (<-`(command|end)).raw
  if x.isOfKind `Lean.Parser.Command.print then return (<-`(command|end $(⟨x[1]⟩):ident)).raw
  return Zd (Zb b 9999 x))
mutual
#check[Prop,
some,
none,
(by lia),
true,
.str,
.int,
(Zad),
.ref,
(Zai ·),
(pv 0),
(by decide +kernel),
.inl,
.nil,
(pv 1),
.inr,
dL K · · · f fd,
V.int,
0,
0,
· = Zab ·,
pins,
(by decide),
s.heap.objs.size,
.none,
false,
(by simp),
Y9 rfl,
.cons,
(pv 2),
(by rw[·];exact ·),
fun z=>·,
"row",
.non,
st.worn,
V.str,
s.heap,
xs.length,
(pv 3),
Za _,
base,
look,
H ·=Zab ·,
⟨_,·⟩,
X.env,
upd · · · ·=Zab ·,
"back",
aA · · (am ·),
·.length,
#[aW,(· ·)],
(Zaw),
H ·=Zac,
Paired,
.fields,
.seq,
((·:Nat):Int),
.type,
.done,
V.ref,
(ZaA),
#[aR,rfl],
#[aZ,b],
(by rw[·,·]),
"line",
(ak),
aO P w K mg ZaO · · · ·,
· b=Zab o,
#[aW,·]<=·,
I.hok,
fun _=>·,
qual,
show · from ·,
aV P w K mg ZaO dR · f fd · ·,
(#[aE,·,·]),
(n:Int),
fun q=>·,
(by rw[·];rfl),
List,
Zbn Str,
Zbn Int,
Zbn Nat,
Zbn V,
bN.of,
(upd H · ·),
(Za _),
Zbn Expr,
.lst,
hr.m,
0,
Zab #[aj,·],
outer,
2000,
Str.ofString,
· x=Zab ·,
d8 hr,
1000,
A.dx,
"name",
bP hi,
its.toArray,
z.length,
aU.of,
B.dx,
⟨_,·,·⟩,
#[bN,rfl,·],
#[aj,a],
ZbL e1,
⟨Zaw,Zaw⟩,
"_law_cell",
scope,
aD H H',
Zai a,
(.dK (dk ·)),
aN (j:=0) rfl,
af (aq ·),
(#[aF,·]),
H' ·=Zab ·,
#[au,mg ·,#[aj,·]],
Zk e,
Bool,
s.toks,
"hall",
"pair",
aQ X Zav σ · ·,
ZC X G ·,
Zbn ay,
Value,
Zbn Zb_,
pure,
wpAny,
l.length,
"star",
ZA _,
(i+1),
(wr W),
#[aE,ai ·,·],
⟨·,·,rfl,·,·⟩,
fun e=>·,
X.prog,
this,
"all",
· (Zad),
[Zag ·,Zag ·],
H b=Zab ·,
(· ·).trans,
⟨·,·,?_⟩,
Zai p,
Zm _ rfl,
Zbn BE,
Zbn aX,
Zi.mp,
if · then · else ·,
fun x=>·,
Zf.mp,
Zcz z,
(by rw[·,·];exact ·),
S.ob,
"come",
(by rw[·,·];rfl),
bH bs f,
Y8 h,
Y9 h,
x::xs,
X.mg,
(aY es),
Zaf z,
#[aF,?_],
#[aj,Zax],
#[bi,1,·,·],
· (cH I q (ZaA)),
"exchange",
.tup,
(ZcR ·),
upd · · (ZcR ·),
(by simpa using hb),
rest,
.Call,
fun b hb=>·,
l.drop,
ay.namesL,
"quad",
U.cl,
·->·->Zaa,
Zab (· ·),
#[c3,Zag,·],
(.dK []),
(k+1),
⟨·,?_⟩,
(pv 4),
Zbn Env,
(by rw[<-·];exact ·),
(· b hb),
(ZbC ·),
⟨rfl,·⟩,
ai (Zw ·),
(bg · Zbx rfl ·),
(· b o e),
#[bc,H],
(cu Zak rfl),
_::_,
(fun i σ HK=>·),
Y9 hj,
name,
.dict,
es.length,
st.hold,
0,
B.fp,
18446744073709551616,
g.drop,
.name,
⟨·,·,·,rfl,·⟩,
(e::es),
#[au,·,x],
(aj),
#[cX,?_],
Zag i,
Y8 (Zal),
ZZ X G ·,
mg · = Zac,
X.stack,
s'.heap,
"list",
Za4 ZdE,
fun b o e=>·,
2147483647,
Zu.mp,
f.word,
"_law_figure_here",
UO.f.cl,
(Zd _ ·),
ZaJ ·=ZaJ ·,
(0:Int),
bK g,
#[bN,·,rfl],
(aS P w),
(az · (az · ·)),
·->·->·->Q · H',
⟨·,·,rfl⟩,
·<Zax,
(j+1),
(n+1),
·<Zdq,
Zbn α,
Y8 Zo,
#[aT,H,·,·,·,·],
us.length,
X.env.locals,
keep,
s.heap.get?,
#[bc,Zd5],
"zip",
kvs.length,
(by rw[·]),
st.circ,
c.cA,
c.cS,
A.d1,
"_law_worn",
⟨·,rfl,·,·⟩,
∀ b o,·->·->·,
#[ee,·,b≠·,·],
#[aQ,a,·],
#[aj,l],
⟨·,[]⟩,
#[cS,xs],
Zai t,
· · (Zad),
Y8 z,
.pl f,
Gl X x,
h.get?,
#[bc,Zep],
fs.length,
.bool,
h'.get?,
ps.length,
z.cps.toList,
fun _ _ h=>·,
Zn.mp,
s2.heap.objs.size,
(· : Str),
show · by lia,
fun g hg=>·,
show · from rfl,
A.d2,
Zbn (·×·),
#[eE,Int,Int],
(Zbw ·),
(.dK kvs),
(upd H1 · ·),
#[dt,_,rfl,_,·],
aD H HK,
bE x v,
#[cx,·=Zae,·,·],
HH ·=Zab ·,
Y9 z,
Zds w,
Str->V,
iq r,
hf it (ZaA),
.Name,
namesL,
"figure",
"word",
Sum.inl,
Addr,
Zbn ZeY,
#[eE,ZeY,Obj],
.tbl,
.cell,
V.bl,
s1.heap.objs.size,
r.length,
"guest",
W.length,
x.length,
(by have:=·;lia),
"_law_k",
"_law_told",
(aH _),
(Zab ·),
#[aR,Zbs ·],
⟨·,·.2⟩,
⟨_,rfl,·,rfl,·,·⟩,
#[aQ,p,·],
(pv 5),
#[cx,·,Zab ·,·],
ai hb,
A.handled=Zac,
bE v u,
(c5 bp),
f::fs,
ns.length,
.ins,
(by rw[·];simp),
X.base,
body,
call,
·.lookup,
l.prog,
w.length,
"__init__",
c.cM,
∀ x∈·,·,
g.length,
figM,
"self",
[ZfB],
#[c2,·,Shared],
#[fD,Zb_],
Zcb · A · · E s,
(#[bf,·]),
ZbC ·,
ZbL (· _ _ ·),
(bc (eI · ·)),
⟨·,rfl⟩,
#[aj,p],
#[bz,p],
#[eA,·-·=·],
#[bc,H'],
· (#[c_,·,·]),
Zaf _,
(· _ _ e),
bF xs us,
sQ c l,
X.calm=Zae,
#[fD,Unit],
KL rfl,
Option,
Sum.inr,
.ret,
0,
"str",
"tuple",
Za4 Zf2,
.free,
·.toArray,
items.size,
(by rw[·,·];lia),
fun x hx=>·,
#[f8,?_],
.builtin,
c.cT,
c.cN,
y.length,
fun h=>·,
(by show ·;lia),
s2.trans,
"_law_drawn",
UO.e.cl,
ZfX ·,
#[gh,V],
#[gh,ZeY],
#[gh,Int],
ah (o:=·) ·,
#[gl,ZcR ·,·],
(aZ z),
#[gn,0].drop,
(Zgo a),
#[c2,·,Hp],
#[gq,St],
(·)=Zae,
(ax bA · (ak) Zfa),
(#[bh,·,·]),
(·,Za6 ·),
#[aZ,l],
(#[cx,·,·,·]),
ZaP · ·=Zab ·,
#[bc,Zet],
(wr ZaI),
#[aV,·,[·],·],
s3 _ _ ·,
Zag _,
Y8 hj,
aM k,
Y6 ?_,
Zt pr,
Int×Int,
∃ v:Zgi,σ=·/\·/\·,
∀ b∈·,·,
rawInt,
List.range,
(by rw[·];lia),
∀ H',·,
"plan",
fun c hc=>·,
rs.map,
fun u=>·,
defO,
q.w0,
"text",
"_law_state",
A0.c,
s1.trans,
UO.k.cl,
(Zbw (· ·)),
(ie P w),
aV P w K mg ZaO Zg1 · f fd · ·,
(upd H2 · ·),
#[aj,x],
#[g0,·,ZaJ],
∀ b o,·->·->·->·,
#[ed,_,·,·],
#[gs,· == ·],
I.tok _,
Z8 · · (x:=·) rfl ·,
#[gN,Y5],
#[bz,l],
(a:Int),
#[bN,·,?_],
aR ZaI,
#[cl,0].1,
bE y u,
gI w=Zae,
ZgY s2,
(ax · · · Zfa),
p::ps,
PE X e te,
PA X Zdu t,
o.data,
.set,
·.isSome,
"enumerate",
I.kIn,
Value.ref,
args,
ns.map,
"go",
L.length,
numW,
A.d3,
"keeper",
.come,
Zhz g,
ar #[bN,·,ar #[bN,·,·]],
#[aW,(· (· ·))],
#[g0,·,Zar],
#[hD,·.map],
ZeX ·,
(Zfo · dx ·),
⟨_,rfl,·,·,·,·,·⟩,
Zcb _ _ · _ _ _,
#[bt,l,·],
GK H H',
(Zbw (·++[·])),
#[aX,ZbC,·]=·,
Zbn cQ,
(Zam rfl),
· a=Zab o,
#[hI,(· >>= _)],
(.dK (uo ·)),
#[aj,C],
(eI · Zao),
#[ft,·] #[ez,·]=Zab ·,
fun u s1 zz=>?_,
(Y7 _ e),
⟨o,·⟩,
· · (Zaw),
.bl _,
#[db,rfl],
· (#[aE,·,·]),
(PW.pt (· · ·)),
#[ed,Zac,·,·],
Zam (Zbs ·),
[Zac],
#[bO,?_],
#[gm,·,ht],
(ZaC · Zan),
[ZbV],
(upd #[bt,·,·] · ·),
Zam #[aR,·],
aZ w,
⟨·,rfl,·⟩,
fun q hq=>?_,
ig X (Za4 ·) ·,
#[gQ,?_],
0,
Zab o,
Zbn Stmt,
oK z,
Y8 e,
Y9 e,
#[eE,Int,Zbp],
#[eg,o],
0,
aR W,
#[eE,cQ,V],
a::l,
Zag hi u,
0,
0,
Zag lo t,
gH CX X E,
Array,
Ziw Zb_,
Z4.mpr,
.own,
.frz,
fun i=>·,
pl.isList,
(by simp at h),
s₁,
vs.length,
Zd8=ZiF,
hlen,
"dict",
Za4 ZiI,
"set",
cpos,
False,
A.in1,
ds.length,
K.lookup,
(by show ·;decide),
#[iQ,ZdO<·],
Str.empty,
x.ob,
"done",
∀ g∈·,·,
ws.map,
IsPair,
"lengths",
ay.dtL,
likeStep,
fun u hu=>·,
w.params,
"_law_script",
(aK · · (au)),
#[b7,H,·],
#[i5,s],
⟨_,rfl,·,_,·,_,rfl,rfl,·,·,rfl,_,rfl,?_⟩,
(· (Zai ·)),
⟨_,·,·,·⟩,
ZbL hp,
ar #[i7,p,0,Zi_,ZbX],
Y7 _ e,
Zaz=Zae,
⟨·,ac,·⟩,
(fun i σ HK _ ·=>·),
¬ (#[ez,·]=·),
fun v s1 zz=>?_,
(af (bh ·)),
(K Zi2),
#[cS,[Zaf ·,·,·]],
#[aF,· (· z)],
Zax+1,
#[ho,·]=Zae,
(Zhz g),
sp vs H Q E,
#[a_,·,ac],
(Zq (Zk e)),
(ji),
(pv 6),
fx h,
ZbL e2,
b=it,
dC P w K mg ZaO · · · ·,
Zes Zaz,
gB f N g,
aU K H a xs,
k _ _ ZhO e,
#[aj,r],
Y9 hb,
(Zaf w),
d6 k X.A,
Hp->Zaa,
W i m σ H,
bf st d=Za5,
Nat->Nat->Zgr,
af (aq (bc (eI · ·))),
t::ts,
∀ l,Zgw->Q Zeh #[hJ,·],
Type,
h.objs.size,
8589934592,
X.fs,
I.ok.kind,
Value.none,
fun _ _ z=>·,
#[jR,· _ _ z],
∀ b∈fp,·,
"max",
fun y hy=>·,
eval,
ZjW · ZaS,
(Zaz,#[jX,·]),
∀ y∈·,·,
ws.length,
HT.sIx,
its.toArray.size,
·.flatten,
s₁.heap,
bs.map,
"deeds",
"circles",
word,
G.ow,
G.wh,
ts.length,
"danced",
ps.map,
"figures",
.row,
Zkd fs,
fs.map,
.Constant,
B.ob,
gs.length,
#[a3,Zki],
f.txt,
A.bk,
l8.nd,
(· Zav · σ · _ · ·),
#[kn,·,s,H,I,h],
(ZcR (· ·)),
(Za4 ·),
#[eG,[]],
Zc (#[eA,·]),
#[c',·].1,
· c=Zab o,
Zam ⟨·,·⟩,
Zb (#[eA,¬ ·]),
#[aE,Y5,·],
(ZjW · ZaS),
(upd (upd · · ·) · ·),
Zcb _ _ · _ _ s,
(i:Int),
(#[iQ,·]),
(s2 _ _ ·),
(Zal),
[Zai ·,Zai ·,·],
#[au,·,y],
aW P w K mg ZaO Zg1 · · · · ·,
(j:Int),
Zdq*·,
#[hH,_,rfl,_,rfl,?_],
Zag a,
#[ko,ha],
⟨_,rfl,·,·,rfl,·,·,·⟩,
#[aW,(·++·)],
Zam rfl,
((·:Int)-·),
#[ee,·,b∉·,·],
#[hD,(· ·).map],
Zbn Dt,
Za0 · · (· ·),
b≠e,
#[ko,he],
bE x u,
(Zg ?_),
#[eE,ay,Nat],
0,
⟨·,?_,·⟩,
Zai l,
Y8 hm,
#[aR,q],
#[aV,·,ZfC,·],
#[ed,·,#[fc,·],·],
x=ZbV,
Zt rel,
ZdI hx,
Y6 (· (Zg ·)),
bU (fJ 18) ·,
#[eE,κ,V],
p.1=k,
bN K H a xs,
(∃ m,W 0 m σ H),
(dO ZY rfl · (fG · ·) ·),
Nat->St->Hp->Zaa,
⟨[],[],[],[]⟩,
#[g8,apos.endLine,cpos.line],
ar #[i7,p,0,ZbQ,rfl],
wW bs w,
ZipApart z TI TO i1 i2 l1 l2,
"state",
cLine,
Keyed,
Ziw Zln,
st.deeds,
.met,
∀ b u,·,
.local,
mainGlobals,
fun p hp=>·,
I.pin,
decide,
Zlw (·),
Zlw (·)=·,
#[ly,·,Zae],
#[ly,·,Zaz],
#[lA,#[dN,·,·]],
X.xe,
fun i j=>·,
sizeLine,
·<=ZlE,
h'.objs.size,
{ s with heap:=· },
#[lH,h'],
names,
(by simp[oy,Ia]at e),
toString,
A.cs,
"holders",
st.worn.length,
A.fp,
Zu.mpr,
2870177450012600261,
params,
x.cps.toList,
ay.lenL,
us.map,
"rings",
numAt,
f.gs,
show · by decide +kernel,
"other",
"bracket_at",
"_law_deed",
"_law_kind",
D.dx,
"dance",
(cE (pv ·)),
#[l6,1],
#[l6,0],
#[l6,2],
[ZfB,·],
#[l_,Ze6],
#[l_,ZeV],
⟨_,rfl,·,·,·,?_⟩,
#[mb,rfl,_,rfl],
ar Zmc,
⟨#[f5,·]⟩,
(· i).map,
d7 c,
bQ Zck X.w · · · ·,
#[lZ,(·:Zbo).Nodup],
#[dt,Zai ·,·,·,·],
lU z · #[ew,·],
#[g0,·,Za6],
⟨·,_,rfl,·,rfl,_,_,rfl,_,_,rfl,rfl,?_⟩,
ZfY w,
Pv i σ H,
#[gu,#[mh,·,·,·,·],·],
Q (Zaf ·) H',
rdF z=Zab f,
#[gl,Zbw ·,·],
Y7 _ q,
Zb4+1,
#[aE,·,q],
eE.k (k:=·) ·,
#[eG,xs],
·<ZlE,
ar #[bN,rfl,·],
#[fJ,Zba,·],
⟨Zad,·⟩,
(1:Int),
#[aQ,t,·],
#[fb,v],
Y6 (· ?_),
#[dt,·,H,I,·],
#[i7,t,_,T0,rfl],
#[dG,Zja],
Zai C,
Ziw Nat,
Zep a=Zab ·,
Zep ·=Zab ·,
Zag b,
Ck g,
(aI bz Zba ·),
(Zax+1),
x.n<=ZbB,
#[bj,ai ·,·],
Zap (Zam ·),
· σ H1 fun y H2=>·,
(a::l),
rdF z=Zac,
vi K H · #[kq,·],
em · · (Zaw),
[w,m,ls],
EP X Zav σ Q · ·,
⟨?_,·⟩,
fun _ _ x=>x,
#[bf,rfl],
#[cK,0].worn,
Zai d,
(d+1),
#[aZ,a],
Zbs #[kD,·],
p.1=g,
#[eJ,ar ·],
#[kA,(· >>= _)],
(Zm _ rfl),
#[fe,_,two,·],
(az · bp),
(iA (gL ·)),
(ZjW · env),
(#[a_,·,·]),
fun H' k σ' _=>#[bN,·,·],
Zab v,
Ln z,
Zcw z,
Y8 hb,
(m+1),
(s3 _ _ ·),
#[aR,e],
0,
.go g,
#[lF,ZbK],
#[fD,Result],
Y8 (Zad),
#[aV,·,#[l_,·],·],
y4 w,
vs=[Zai ·],
#[dv,X.N[i]?],
Zap (Zap ·),
Zex hc,
Pv 0 σ H,
bU (fJ 69) ·,
bF vs us,
#[mk,·,· T U VM UO h ·],
#[lB,·.word,·],
#[hX,e],
(qR W i).1,
jS st,
cz es,
ZaC r t,
Zbn (ZfX Nat),
#[gO,#[mq,·]->E' #[aj,·] Zac H'],
I n s,
(F6 ea C Zac),
(.fresh 0 0 led),
HZ (ZeU 12 cn) es,
⟨_,rfl,_,rfl,·,_,rfl,·,·⟩,
∀(_:·),0,
pos',
"_law_many",
997852516353,
prog,
items,
·.objs.size,
K.In,
ZnX ZaK,
I.ok.above,
I.hok.fresh,
D.nx,
I.tuple,
Zn2 hq,
assign,
A.units,
kindOf,
aQq.mp,
eq_of_beq,
ys.length,
value,
its.length,
.compLoop,
"worn",
.already,
.same,
.noguest,
0,
Zn.mpr,
field,
.exch,
Zoi a b,
ds.map,
#[hD,Zok],
2147483648,
0,
TabI,
"breaking",
arr.size,
0,
numV,
∀ c∈·,·,
ys.size,
h1.objs.size,
gs.map,
"rows",
.back,
Zoy f,
f.dt,
ay.dt,
V.int.inj,
absurd,
ZoD · ·,
#[oE,rfl,·],
ZoD (· ·) ·,
"book",
ay.txtL,
g.dK,
x.ne,
x.f0,
lN.k,
"deep",
de.nd,
(af (aq ·)),
#[i4,·,#[oP,·]],
#[oQ,#[gt,·],·],
#[oQ,·,Zba],
(·)=Zaz,
#[oT,· == ·],
(· (Zad)),
#[oV,hr.mono],
(bg · ZoW rfl ·),
#[eE,Str,·],
#[oY,V],
#[oY,ZeY],
ZoD · (·),
· (Zal),
#[o2,p7],
#[o2,vI],
#[gh,Zb_],
Str->Zo5,
#[i8,Zab,·],
#[lF,(·:Nat)],
#[o8,2],
·.2.2.2.2.1,
Zn1 σ ·,
H' b=Zac,
(fun cl C s2 H2 ex=>·),
· T U VM UO h,
∀ b o,#[bc,·]->·,
(Zl ·).symm,
(· (i+1)),
ZbK-·,
H' b=Zab ·,
#[cn,bT],
ar (ar ·),
#[pj,Zmc],
#[ks,(·:Int)<=·],
#[pl,2,Zkj],
⟨two,·⟩,
#[aj,f],
Zap (ZbL ·),
#[hG,ze,·],
(bS #[ko,·] ·),
#[cS,#[co,·,·]],
#[mm,·,ZbL ·],
#[i9,_,·,_],
· (eX X sc cl C N' s H ex) · ·,
q.1.1,
Zab (Zag (·)),
Zd5 ·=Zab ·,
#[au,·,c],
H1 ·=Zac,
Zap ⟨·,·,·,·⟩,
ai (ao e ·),
·≠Za5,
#[cS,ys],
#[fF,M,·,Q],
#[me,(aZ ·)],
#[ei,us],
(#[c_,·,·]),
(#[gN,·]),
p9 x,
#[hG,C,fs],
⟨Zce,·⟩,
#[lZ,#[hM,·,·]],
b≠Zd3,
#[lu,?_],
#[cE,ZE,·],
#[eA,·=·],
ar (ZcV _ _ ·),
(· _ _ z),
q.2.1,
(#[cx,·,·,·])=·,
ZeX b,
x.2=1,
ig X (Zf_ ·) ·,
#[hC,ZbC,ZlL,·],
bQ P w H h a ·,
· (cH I q ·),
[ZeW],
⟨·,·,rfl,·,·,·⟩,
ok.2.1,
#[da," "],
upd · · (Zbw ·),
2 ^ 63,
#[bt,a,o],
#[pu,s2],
⟨·,H,Zg9,Za8,q⟩,
ZeU 12 cn,
[Zb5,·],
hf.1,
∀ fs:Zb9,·,
#[aj,t],
(s4 _ _ ·),
b≠x,
ai n,
#[oE,z,·],
#[dQ,e],
Kp · H H1,
#[kx,Zpi],
(.dT kvs),
fK ZcK ps=Za5,
(vs++dvs),
(ps++[y]),
∀ f,Zmr->·->·,
∀ p,#[aZ,p]->Q ZfL #[bt,p,·],
(au),
fun _ _ _=>ZiM,
(a,b),
#[aj,b],
Zai c',
Y8 hx,
Y9 kn,
(· _ _ ac),
ZbL ht,
ZnX h,
#[oE,·,(aXa _)],
Zbs h1,
#[l6,3],
#[cn,Zb],
Zd5 ·=Zab o,
#[db,?_],
Zex hx,
o7 _ _,
(· _ _).upd _ _,
#[dd,·,(uY · · ·)],
Zfz<=60,
bU (fJ 31) ·,
(ay.pl f),
#[g7,·,?_],
Zex he,
Sem Zb3,
fA K ck ·,
u::us,
ZF Zcl,
ZaP ZaI g,
#[aQ,l,Zmx],
#[b7,H',s'],
b9 W,
len u,
(j9 · (fT rfl (aT (fG · ·) (aT (fG · ·) dE)))),
#[i7,p,0,Zi_,ZbX],
HY X.K C,
(by rw[aXr,aQJ];kernel_rfl),
fun f h=>(no h).elim,
rG (fun σ HH=>·),
bF dvs ds,
iB X.K fd ps ds,
(oZ src σ),
ar #[hH,_,·,rfl,· qz,?_],
"length",
"row_of",
"wears",
(by simpa using e),
aQn.mpr,
X.outer,
X.ex,
s.heap.FunFrames,
free,
I.free,
Zj.mp,
(Zrh ·).1,
I.cell,
.next,
.BoolOp,
I.kept,
fun x y H Q=>·,
I.laid,
"int",
codeAny,
k.toNat,
valueAt,
xs.map,
bs.length,
"list_reverseiterator",
0,
hacc,
"reversed",
l.map,
l.take,
(by rw[·,·,·];lia),
s1.toks,
st.circ.length,
after,
∀ x∈xs,·,
h.kl,
tupleKeyHash,
fun e he=>·,
base.get?,
.Lambda,
b.size,
V.str.inj,
.line,
f.row,
once,
"abcdefghijklmnopqrstuvwxyz",
∀ e∈bs,·,
fs.take,
HO.dK,
∀ u∈us,·,
A.kp,
r.map,
s1.free,
ZM.mp,
x.yB,
x.dY,
"one",
[ZfB,Zr1,Zl0],
"guests",
"_law_word_here",
"_law_names_here",
"_law_due_here",
U.nW,
tI.same,
cx.nd,
td.mono,
bX.nd,
gF z · #[ew,·],
#[sa,·,· T U VM UO h ·],
#[sa,·,#[pc,·]],
⟨rfl,·,·⟩,
Zam #[sd,_,Zbs ·],
#[bf,?_],
KM Zsf,
ZbK<=·,
kv.1,
fun kv=>#[lx,Zsi=·],
(aI cI · (aj)),
aM ⟨_,rfl,Zaw,_,rfl,·,rfl,·,#[jV,·]⟩,
(aI dq · (aj)),
#[au,·,v],
0,
PE X (· · · pos) ·,
ZeX g,
(Zsq:cQ),
∃ m,m<n/\·,
·<=ZbK,
#[st,a],
#[hF,a],
tv e.w,
(Zn0 (Za _)),
#[mj,Zax,_,·,·],
Ic B (Zal),
fun B=>Zsz,
(·::ZcV),
standAt ·,
Zar g,
#[aQ,d,·],
[Zcs,Zag ·],
e.n<=ZbB,
#[oY,Zb_],
#[kw,(·:Int)<=·],
· T U VM UO h · ·,
#[bD,ZcJ,·],
#[lA,ZaJ · = ZaJ ·],
#[fb,dx],
#[o7,f],
#[pe,Zcl],
(dU Zd_ a b),
[(y,cy)],
#[f7,Y5,·],
(I.tok _),
#[cS,[Zaf ·,·]],
#[a3,Zer],
(bd · · #[dd,·,·]),
Zc (#[eC,·]),
⟨_,rfl,_,rfl,·,·,rfl,·,·,·⟩,
(toS Zkk),
(i:Nat),
(m:Int),
Zai q,
Zag g,
#[lF,Zd8],
Zc rfl,
(dZ e),
(ZgY (ah ·)),
ai (#[aF,·]),
(Zfs (Zf_ ·) ·),
(Zdr 1).map,
Zq (Zk e),
(ZaC · (ZaC · ·)),
oQ P w H ·,
#[aE,·,e],
(ZbK:Int),
fun r hr=>?_,
(pv 7),
Zaf y,
#[a3,0],
· Zfu w K mg ZaO · · · ·,
(aQ2 _ _),
#[bW,ZaI],
∀ b o,Zdf->·,
(Ziz x),
es≠[],
#[gy,ZaI,·,m],
0,
(qR ZaI i).1,
(vH ry),
#[bN,#[b8,·],Za8],
#[cl,0].2,
(Zsv:cQ),
#[rI,?_],
h.2.2,
b≠S,
#[c3,Zaf,·],
#[cn,Zs],
(·+·)%ZdH,
#[hH,·,·,rfl,·,·],
(ZfA d),
ZcJ · = Zac,
#[g5,ZiW],
u.2.2.2,
#[hT,Zak],
(· b u q),
t σ H Q,
Z6 List.length ·,
#[sy,·,q _ Zsx],
#[oE,(Zl z).symm,·],
aXm hp (bS · ·),
Cn P w K · · [it] it (fun i h=>·),
(#[d9,·]),
(fun i σ HH=>·),
#[iV,·,ZdP],
⟨·,#[aE,·,·]⟩,
#[bm,ZR],
(k:Int),
#[cB,·,ai ·,·],
(· ZaJ),
Zab _,
Zab (· _),
ai z,
Y8 c,
Y8 h1,
Y8 h2,
Y9 c,
Y9 hm,
(Zax+·),
Zam h,
#[aZ,q],
aD H HH,
#[ly,·,#[lx,·=·]],
oK w,
#[l6,5],
#[cn,lG],
b=P0,
#[l_,Zb5],
Zg ?_,
.bl b,
Zt r,
Q (Zag ·) H,
#[o1,·,Zaw],
Zc (#[d9,·]),
#[dv,xs[k1]?],
#[fG,rfl],
Tr H H',
ND H H',
Zcw hx,
#[dc,n3],
#[eg,ZpL],
2 ^ 40,
#[o2,Dg],
Zcw hc,
#[sa,·,#[sJ,·,·,·]],
#[o',H1],
bU (fJ 73) ·,
#[eE,ZhN,V],
#[g2,·,#[l_,·],·],
iL hj,
#[mk,·,#[pc,·]],
(dU ci a b),
#[pj,ZmH],
Ap Zbe e,
Ar Zbe e,
(bV c l),
(ah hp),
#[jg,(ii ZJ ZO ZP cY · ·)],
2<=Zfz,
#[kH,·,·,·,#[l_,·],·],
Cj xs,
tS xs,
(cJ Zcg g ·),
PE X o to,
ay->Nat,
h.Ns Zlt mg,
Zag 1 v,
Sb bs,
⟨h1,h2⟩,
#[h3,ah hq,ac],
I.lstM hH,
(show False from r).elim,
#[f7,Zh,ZS],
(gu (xP ·)),
h · (by simp[bB.gs]),
(iC e).1,
#[gl,.dK [],·],
· fun _ _ _ _ _ _ _ q=>· q,
X.K=K,
env.frame=Zab L,
fC · gs=Zac,
#[o1,(show #[ez,·]=· from w),Zal],
#[jc,[],Zan],
[u1,u2,Zai f],
(uq H ts ps),
fun a h=>ZF (ZrY · a h),
Ziw (ZfX Zb_),
⟨0,0,0,0⟩,
(fT rfl (aT (fG · ·) (aT (fG · ·) dE))),
hN σ7 H7 n7,
(show False from ‹bR 0 _ _ _›),
nd · · ZaY ZaY ZaY ZaY ZaY,
∀(x:·),0,
∀(xs:·),0,
"range",
Za4 Zvd,
∀(h:·),0,
us.drop,
(Zvg j).map,
Zvg j,
.ext,
Heap,
0,
h2.get?,
∀ a o,·,
#[vn,·->a≠·->·],
Paired.mapP,
Zvp · ·,
#[vq,·,#[jR,·]],
bI (Zvp · ·) ·,
I.os,
I.freeC,
I.list,
Zvv hq,
False.elim,
Zvx hq,
fun D σ H=>·,
#[vz,· σ H ·],
fun b H1=>·,
s2.heap,
p.isList,
1000000,
#[sh,ZvE],
·<=ZvE,
Heap.SameBut,
(by simpa using h),
ps.zip,
List.replicate,
S.kind,
scope.names.lookup,
vs.toArray,
slice,
(by rw[·,<-·];exact ·),
hbase,
ks.map,
(by simpa using ·),
more,
tupleKind,
.func,
model,
(ZvW ZnU w),
#[fF,ZvX,·,Q],
(ZvW P w),
Zrq ZvX A · R s,
.all,
NameKind.free,
fun _ _=>·,
(#[v3,ZiM]),
(#[v3,rfl]),
#[v3,ZiM],
(aJ · · (aj) Zv5),
#[v7,aB,·],
#[v8,ZaD],
#[v8,Zak],
#[v8,Zao],
#[oR,Zv_,·],
#[oR,Zv',·],
(cE Zv_),
acc',
"ValueError.__new__",
hdct,
.masked,
st.deeds.length,
"NoGuest",
c.fN,
ks.length,
again,
ts.map,
1921,
1755844984,
(by omega),
14029467366897019727,
fun b o e n=>·,
a.size,
fun o e=>·,
(· #[wt,·]),
g5.objs.size,
f.gs.map,
ay.rowL,
ay.row_len,
kindsL,
ay.txt,
es.take,
t1.trans,
Y.d1,
Y.d2,
Y.d3,
I.ev.ob,
x.wB,
p.good,
"at",
"words",
"_law_met",
"_law_guest_here",
S.cs,
s4.trans,
g2.trans,
s12.trans,
UO.mF,
"parts_at",
"figure_at",
D0.kp,
fZ.nd,
three,
gO.nd,
"_law_figure_text",
M.on,
"_law_names_of",
Wz.KT,
(· Zck X.w),
#[w2,ZvW],
#[fF,Zw3,·,Q],
Zcb Zw3 X.A · · ZlC s,
#[w2,aS],
Zcb Zw3 X.A · · ZlC ·,
#[gO,ZbU->·],
#[w8,E #[aj,·] Zac H'],
#[w8,Q · H'],
(ZeT x ·),
#[w',p],
PE X (ZcW Zxa Zdu [] pos) ·,
ZfY e.w,
(Zxc:cQ),
Zaf #[me,·],
#[xe,[32]],
#[xe,Zgn],
Pv (i+1),
· (so:=·) (N:=·) (N':=·) (src:=·) rfl rfl · rfl · ·,
#[xi,dv,am ·,·,·,·,Ci,·,#[pb,⟨fG 0 (#[mi,·]),cZ,·⟩]],
(cE (#[xj,·,·,·,·,·,·,·])),
Y6 (· (Y6 ·)),
#[kp,·,Zar],
#[oE,(·),Zo],
#[xn,show Zjb from hs],
#[bY,Zba],
(gA rfl · (fun ea oe=>Zxp) ·),
(ax · · (aj) Zfa),
#[xr,bA,·],
(b,o),
Q ZaH H',
(put ZaI a mb),
(Zk e),
bR · H p f,
·<Zom,
-2147483648<·/\#[xy,·],
fun o=>(·,o),
#[xA,x],
sE H0 · w m ls · ·,
#[f8,· x ·],
#[cE,·,Zp],
#[xE,ac],
·+Zdq*·,
#[jX,o],
#[o_,·.2.2],
#[cp,·]->#[ph,·],
#[ms,[],·],
#[xK,hl],
o.cls=Za4 ·,
Num z ds,
∃ ds,ZxN,
Zhr ·,
(show · from rx),
(ca (pv ·)),
kN ZdC,
kN ZbA,
ZfX (·×Zbq),
(put Zdn mb a),
(b9 W),
(c:Int)-a,
(show · from r),
(ax kJ · (ak) Zfa),
#[sh,12],
Sem Zb_,
sIx Zf6 0 lo,
(fun i σ H2=>·),
(pv 9),
#[bz,d],
·=Zax+1,
bR · H' p f,
(.bl Zae),
.at (Zaf ·),
#[gx,·,[·],[]],
#[jV,?_],
(ZrX ·),
#[bc,H5],
b≠C,
(ZgM ·).map,
#[bz,q],
b∉Zdp,
es++Zkb dZ,
(ZrS i),
#[g7,two,·],
(ZiA o u),
#[fI,s1,e1],
(.dT []),
(Zht Zar),
RD X.K H n · d,
∃ sl,· b=Zab { o with slots:=sl },
k _ _ s1,
KV kvs vs,
aQ X Zav σ' H' s',
aS Zck X.w,
fun _ q=>q,
#[aE,e,·],
#[gN,ic],
(#[me,·]:Str),
Zai Zax,
u.2.1,
#[l6,4],
#[eG,ys],
Q (.bl (·)) H,
∀ b o,Zd6->·,
(kQ (pv 1)),
Zet b=Zab u,
#[xM,Zf2],
GK H H1,
(gq Zak · rfl),
af (bh (ii ZJ ZO ZP cY · ·)),
(aI dH Zao (aj)),
(c5 (cE ·)),
(bV 32 Zev).2.2,
fun n:Nat=>Zbk,
[u.w,u.m,u.ls],
#[pn,fun r h3=>fin · _ r (·) · h3],
⟨_,rfl,#[se,·],_,rfl,·,_,_,rfl,rfl,·,·,?_⟩,
·<ZjN,
#[bf,Zac],
#[oE,ZsO,·],
Zbs ac,
#[oQ,#[xZ,·],·],
(aY ds),
Zar b,
#[c4,c],
Zar a,
#[fH,"__next__"],
Zcz hb,
rel.val k,
#[pg,e],
#[xl,Zg,·],
#[hY,aQL,·],
(r9 K),
FO st,
ZgT bs w f=Za5,
cR H l ps,
#[ee,·,Zd6,Zgz],
bF xs its,
[Zaf ZcD,Zag g],
[x,y],
#[iB,#[lx,#[pz,·]]],
[ZgV,ZwJ],
∀ n:Nat,n<=9->·,
Y8 (#[lZ,¬ #[ez,·]=·]),
#[co,a,b],
(hs.2 b (Zq (Zz Zxw ·))).trans,
(∀ c o,·)->Q · ZlI,
y=kV k,
(put ZxV ma b),
aW Zfu w K mg ZaO · cb · · Zma ·,
lS ns 0%3,
oM c ck ze · e A D B st q · ·,
ZdJ≠·,
·≠Zax,
⟨·,ZaA,·⟩,
∃ o,Zdf,
#[aE,·,h],
#[bm,z],
fun y=>?_,
∀ k:Nat,·,
#[e9,· ·],
#[gc,?_],
(by rw[·];show ·<ZbF;decide),
(Zb5,h),
∀ l:Zbq,·,
if ·=x.w then v else ·,
Zab j,
Zbn Zb3,
(ZA _),
Zag c,
Zag j,
Y9 h1,
Zaf x,
(Zcc+1),
r=Zae,
Zoe g,
Zcw h,
#[cS,#[sF,·]],
R.2.1,
Y8 (Zaw),
Y8 (ZaA),
#[i4,·,(af ·)],
#[aq,Zfw,·,·],
i<ZaL,
#[i5,s'],
#[i5,ZlI],
b=Ze4,
b∉ch,
Zt hp,
b∈fs,
b∈ZxS,
Q v H,
#[dM,z],
#[dM,hb],
Str->Nat,
aN (j:=1) rfl,
#[dc,n2],
x::os,
2 ^ 64,
#[o2,BG],
#[ri,hg],
ZdI hc,
j7 a b,
·=Zax+·,
(Vm x),
#[w8,Zxu],
Kp Zdp H ·,
aZ ZbH,
#[oR,Zao,·],
[Zaf ·,ZaH],
(ay.back f),
Zam (Zam ·),
jr c l,
Y9 (Zaw),
#[hP,H'],
#[hG,C,[]],
[Zai l],
#[je,Zb5,·],
Nat->Zb3,
#[sp,Zrl,·,·,·],
ZgL pos.col,
(bW Zb5 h []),
f.isP=Zaz,
ah hl,
(ZlV ·).sum,
PE X o ta,
#[sC,apos.atName],
(h x Ze),
⟨t,ev⟩,
Zag 2 v,
⟨q,hq⟩,
(Zap (Zap ·)),
#[aq,x,Zbg,st],
(Vx d o kvs),
(Vy d o kvs),
· Zfu w K mg ZaO ·,
c::cs,
#[jT,b<Zey],
Zhr (Zjk),
Zd5 S,
ltl b o e z,
ZaP ZaI a,
ZfY x.w,
Mu H b,
V->Zbr->#[c2,Hp,VK],
Un fs ex H · h ·,
sm _ _ q,
cntF fs u,
oe.data=Za1 us,
(F6 ea C ZsM),
[a,b],
ZcJ x=Zac,
PE X b tb,
bS h7 fun _ s8 zz=>?_,
bo K x st,
es++#[pf,ps.take].map dZ,
PySem.W.isFn K Zpo=Zae,
#[kv,Zad,Zad],
Y6 (aXo hT · ?_),
PI X tg bJ wi,
Zwl I10 q10,
hA.mono (#[jS,s2]),
Zb_->Zb_->Zx1,
(Vi ZaK a b).get? ·=Zab _,
(dQ cs ci),
fun f=>#[lx,f=u],
(put l g m),
Y9 (#[eC,·.word=ZbC ·]),
hl i σ H hi p,
I8.pinned (stat fr8) (T.obj _ _ st8),
turn i n σ6 H6 w6,
Zcb ZvX A · Q E ·,
⟨_,rfl,_,_,rfl,rfl,·,_,_,rfl,rfl,#[iR,·],_,_,rfl,rfl,?_⟩,
⟨r,_,rfl,ZbL hr,rfl,_,_,rfl,_,_,rfl,rfl,ZkK⟩,
.Attribute,
(ZBh · · apos),
#[Bi,o,m],
Or.inr,
"word_at",
∀(r:·),0,
"dress",
"read_number",
"is_name",
B.StaysIn,
ZBq ZaK,
us.take,
(ZBs j).map,
IsTup,
fun b u q n _=>·,
builtinsNs,
.function,
sc.kind=ZBx,
X.env.cells.lookup,
∀ x c,#[bD,ZBz,c]->·,
I.base.free,
Nat.le_of_lt,
I.ok.frf,
(by rw[·];decide),
I.ok.bsz,
X.s₀.heap.get?,
I.len,
isTrue,
ZBI c env (ZjW c env),
its.size,
target,
σ.set,
pyIter,
fun g h=>·,
I1.laid,
A.deeper,
I.bare,
BindsTo,
I.ok.mod.kin,
sc.names,
e0.bs,
hr.hd,
getItem,
i.toNat,
"len",
trivial,
e.symm,
atKey,
dd.mapOf,
.NotIn,
s₁.heap.get?,
(by simpa using hx),
compTurn,
fun b z=>·,
fun a b=>·,
I1.hok.fresh,
2147483646,
Zmg/ZB',
dy.mpr,
fun b u e=>·,
"object",
excClassObj,
newId,
hx.new,
{ s' with heap:=· },
st.hold.length,
"Same",
(by simp[HA.fp]),
I.ok.glob,
ds.take,
es++ZCm i,
Txt.join,
614540362697595703,
11400714785074694791,
839798700976720815,
Builtin.Tuple.tupleHashOf,
1082452398,
fun vs H1=>·,
fun w hw=>·,
x.cps.toList.length,
"0123456789",
b1.extBut,
fun t ht=>·,
#[Cz,?_],
(ZCA),
xs.zip,
(ZCC ts).map,
.star,
.quad,
ZCF a b c d,
rs.length,
Builtin.Range.rangeSize,
argBest,
f.rowF,
(ZCK (j3 bs)),
ZCK (j3 bs),
RD.up,
its.toList,
rdNum,
bB.line,
·.txt.length,
linesD,
.dance,
"dance ",
mG.pre,
"parts",
"<lambda>",
"twin",
"rest",
"_law_other",
"_law_step",
"_law_shelf",
"_law_draws_here",
"_law_line",
"met",
"acquaint",
s3.free,
fun l hl=>·,
#[C8,?_],
g1.trans,
T.list,
UO.f.nF,
B2.ob,
f.len,
ZDc (gW bs),
ZDd<=ZbB,
ZbB<ZDd,
"check_names",
UO.eF,
"figure_of",
hf.mono,
I.kp.ob,
S.mono,
iW.nd,
UO.e.nK,
s0.free,
q.ns.map,
D0.dx,
s3.trans,
T.range,
hZ.nd,
.pair,
ZDu a b,
"_law_flat",
(by show ·;decide +kernel),
Y8 (#[Dx,¬ ZbC · = #[fH,·]]),
starEach,
ay.Good,
ZDA · f,
#[DB,8],
#[DB,n],
ZDA x.2 x.1,
ZDA · (· ·),
as.map,
ZDG Za6,
#[ml,ZDG],
ZDz · ZaS=·,
#[DJ,·,#[jY,·]::ZDz · ZaS],
#[DK,Zdu,e,es],
#[DK,[e],e,[]],
#[mf,ps.take],
es++ZDN dZ,
(aY (ZDO)),
Zb (#[aF,·]),
#[DQ,#[o1,(ZrM z),by dsimp only[bB.word];decide +kernel]],
#[DQ,· (ZrM z)],
#[lA,ZaJ #[da,·]=ZaJ (ZbC ·)],
#[Dx,#[DT,·,·]],
(am st),
#[aW,([]:·)],
#[i4,·,(af (·))],
#[DX,·,dJ · dw rfl ZBW rfl · ·],
#[c',hf3],
(fj st),
#[kn,·,s1,H1,I1,·],
#[D1,·,q1],
(n,k),
·+·*Zwq,
#[D4,ZlR,·],
(Zfo c.C ZbM (bL ·)),
#[D6,{ B with w:=lw,h:=lh }],
#[D6,{ B with w:=lw }],
ZlJ d,
(ZcW · · [] ZiL),
PE X #[D_,#[Bi,o,·],·] ·,
#[hC,eQ,Zgo,a],
a+ZEa,
(jX kvs k ·),
#[Ec,v],
· c ck ze cb P0 lp ql · H · ·,
#[Ee,jk,[Zai ·,·,·],Q,E],
{ nx:=fun _ H'=>·,rt:=· },
#[gl,Zbw (· ·),·],
#[Eh,·,Zar,·],
(.dK ((Zj5 #[cj,·])++[·])),
y6 · P w K mg ZaO N Zbg · f · A ZbA · · E,
[·,ZbS],
#[lH,g],
#[aX,ZbC,·],
#[lF,#[En,·]+·],
(ZcY 1),
#[iV,ZD9,g∈L/\ZdP],
d/60%3,
#[jT,nu X Zav · b],
fun g=>32::·,
Zai b,
y=ZEu,
#[fG,Zac],
(env::ZbA),
k b u q,
#[i9,·,rfl,rfl],
#[Ez,Zct],
iB K fd · [],
[#[hF,·],#[hF,·]],
Zcb _ ZiN (· >>= _) _ _ s,
iX H d · tv,
#[EE,bs],
IsZip · z TI TO ·,
bS (· Y rfl rfl rfl hc i · s6 σ6 H6 _ I6 (stat fr6) st6 ·) fun r s7 zz=>?_,
(#[lZ,·]),
#[EI,#[sL,·,ZiU]],
#[iQ,#[lF,·]],
#[w',pos],
af (aq (pv ·)),
#[EM,2],
(Zxd,Zsw),
[a,b,c,d],
#[EP,0].Nodup,
#[aQ,q,#[xm,·]],
fun r=>j4 r c,
#[aX,eQ,l],
#[c_,·,#[mw,·,·]],
(2:Nat),
#[cE,·,ZK],
#[iQ,#[o8,·]],
#[bD,·,Zf4],
#[DJ,·,[#[jY,·]]],
(assignEach · ZaS),
#[sd,rfl,·],
#[ku,Zet],
PySem.W.plainGet K · ·=Zae,
wr ZaI ·=·,
foldedSetIterable · · x,
∀ x,#[E5,bJ,ZaS]=Zca x,
fun a (·:Int×Zbp)=>·,
(.dK (Zj5 #[cj,·])),
(wr ZaI a),
(g i j),
(d:Int)-b,
#[kv,·,hd σ H p],
(put Zxv b ma),
(·)*u+(·)*v+(·)*s+(·)*t,
(·)*k0+(·)*k1+(·)*k2+(·)*k3,
#[aj,it],
#[bt,Zax,·],
#[xl,aQD,·],
(ah hl),
⟨_,_,·,rfl,·,·,·⟩,
o8 #[fG,?_] (Zsf),
(put ZaI g g),
(Zag i t),
sIx Zf6 Zf6 hi,
W i m σ' H',
Cm c ck ze · e A D B · H',
ZrK ZlS Zfr ZbT lpos,
hsm.1,
#[bm,e],
#[iQ,·<=60],
Ze8+1,
#[bz,w],
#[gt,Zv'],
(kH d),
1<=ZbK,
(f,[]),
sE ZEw · w m ls · ·,
#[xx,n],
#[pf,Zdr].map,
#[xY,∃ t,u=·],
#[aW,·]<ZbB,
(aI dH Zdw ·),
(bs++[x]),
#[g6,·,b≠·,b≠·,#[bc,·]],
(exOb C t ·),
⟨·,H2,I2,·,q2⟩,
⟨·,·,·,fun b o e hx=>?_,·,·,·⟩,
Zbk-m,
(dZ p),
RD.tup (ZbL ·) ·,
#[EC,p.1,p.2],
PS X (.Assign [·] · pos) ·,
dm · Zak Zc1 · fb #[dS,·,·,bp],
(· a b c d),
⟨_,·,·,_,rfl,·,?_⟩,
· · · (#[Cv,·]) #[mG,ZhZ,?_],
· (fun n s'=>·) ?_ m0 ·,
(#[wr,·]),
[ZdK],
(pj z).mp,
#[f5,(·++·)],
fun i v=>#[sn,·],
∃ k:Bool,(·)/\·,
(ZvK · ·),
· · (#[eA,·]),
#[bz,t],
Q Zx8 H',
u.2.2.1,
b∉F,
#[bO,h],
aQS ?_,
Zar d,
Zar c',
(Ziz a),
0<=·/\·<Zom,
#[w',np],
32::Zkk,
1<=Zer,
#[fK,t],
#[hP,Zep],
(Zoi a b),
(j7 a b),
(Oe (m8 bC)),
#[pJ,Zv],
bJ f i g,
#[Eh,·,ZaJ,·],
[e,f],
(Zap (Zam ·)),
#[EK,2],
#[au,kvs[i]?,p],
#[E1,rfl],
#[ef,#[bc,·],·,#[aT,·,·,·,b,o]],
#[gl,ZcR (· Zar),·],
(Zl e).symm,
(Y6 (· ?_)),
(put Zdn g g),
⟨_,_,_,_,·,_⟩,
(cE (cu Zak rfl)),
fun i H x H'=>H'=H/\·,
(X.wish E),
· (Zge s3),
[a,b,d,e],
·=#[xG,3250076511083954176*u+ZCr*v,·],
PySem.W.mroIn K · #[kq,·]=Zab Zae,
(#[cB,·,·,·]),
(fun ds N=>·),
[ZwM],
·<=Zcc,
∀ d∈es,ZEq,
(ZpW:cQ),
⟨·,ZaA⟩,
⟨·,fun f=>·⟩,
#[aE,z,·],
#[fp,e],
#[aF,Zad],
∃ c,#[bD,·,c],
#[dG,?_],
#[a_,Z2,·],
#[Cc,?_],
∃ (o:Obj)(its:Zix)(n:Nat),·,
(kk:Int),
#[bh,·,Zs4],
fun iv s2 zz=>?_,
(by rw[<-hs3]),
(0,0),
#[da,·].cps.toList,
#[gp,0].drop,
Zgn[e],
(Kp.of_same ·),
ZgY (·),
#[aj,z],
(pv 8),
Ze4+1,
Zai ZjM,
· Zax (·),
ZdI z,
(Zj_ x m).mp z,
(Zj_ x m).mpr z,
aXd _,
Zhz _,
I2.tok _,
Zag d,
Y8 hc,
Y8 hd,
Y8 hk,
Y8 kn,
Y9 h2,
Y9 hc,
Y9 hx,
Y9 hd,
Y9 hk,
Zaf w,
(M+1),
ok=Zae,
b≠a,
b≠ZgX,
ZbL hq,
(ZaJ z),
ZrM h,
ay.dt_word h,
#[bz,b],
Zam k,
Zam q,
Za4 "dict_items",
Za4 "tuple_iterator",
aD H H1,
#[fD,Nat],
Q v H',
x.2.1,
h.2.1,
#[v8,Zc8],
Option.bind_eq_some_iff.mp e,
#[cn,Y9],
#[cn,aQW],
#[cn,aQ5],
i<ZCw,
Zap x,
theTreesLotGoes x,
b∉ex,
aQd ?_,
wpAny_noted ?_,
Zes b,
#[oY,Int],
(·++[Zcc]),
id st',
id I7.loc,
#[hD,ZgR],
Zcz q,
#[fG,ZaH],
GL H H',
#[dc,n1],
#[dc,n4],
oR.new _ _,
#[bZ,?_],
#[o2,zD],
Zl hc,
#[ch,(nn _ ·),·],
#[o8,0],
#[lz,ZaJ · = ZaJ ·],
s _ _ e1,
s _ _ ZiT,
f2' y,
u=Value.bool ·,
#[gv,#[ez,·],·],
Zg h₁,
aZ Zl5,
#[DT,·,Zb6],
· vs H Q E_,
#[fK,m],
Zex hd,
Zex hy,
ZdI hy,
bP hj,
#[dV,b],
q _ h2,
#[mk,·,· T U VM UO h · · · ·],
#[ml,Zwm],
#[gB,·,ZdK,·],
d6 k A,
#[dY,x],
a≠b,
(ca (pv 1)),
ZDl s1,
Zr8 s1,
(f,M+1),
hf3 b hb,
#[xn,show Zjb from fx],
w=Zcm,
w=Zcd,
(cE Zv'),
(dk l),
#[cq,df,s2],
PA X es t,
af (aq (pv 1)),
2<=Zki,
(ay.name w),
#[kG,ys[k2]?],
qS x=Zae,
Nat->Nat->Zb3,
#[my,Zd8],
f∈fs,
#[pA,a],
#[xx,9],
Zfn<=n,
l∉Zdp,
#[mB,Zad],
h _ ZsS,
#[sB,b],
#[oQ,#[h2,Hf,·,·],·],
#[xI,·.2.2],
u1.there b o e hx,
Zl e1,
#[El,Ze_],
Tr H H1,
#[xR,3],
#[xR,5],
(hf b z),
#[sK,ZhS],
(Se K a),
(Vz K a),
ao ac hd,
cR H l r,
Zn0 (Za _),
#[Es,H],
(n+3),
(n+4),
ds++[d],
Zaf x t,
#[pY,·,(· X.K)],
Zbe p _ hp,
V->Hp->VK->Zaa,
tn 0 h4,
#[Dy,Zcm,·],
#[p0,o],
Zcw hy,
Zag i tk,
d6 2 X.A,
d6 Zc6 X.A,
#[x6,ZlG],
(gz st d),
#[x7,n],
ZiX h' Zax x y,
#[ta,h],
Zvv q',
Zn2 q',
x.1=a,
Zmg%5=4,
-(2 ^ 40)<=·,
Zfv<=900,
⟨·.1,Zad⟩,
w::vs,
· _ _ p Zah,
· _ _ ZvD Zah,
HY K C,
Zg #[db,h₃],
ZlU e fs,
(Vl lo n),
(LH lo n),
Zlv p hp,
#[ss,I m s₃],
bN X.K H a xs,
aU X.K H a xs,
Int->Int->Zb3,
oU c ck H k A B · s ·,
#[DY,·,ZDh,ZwR,Zba],
w∈kK,
Zj8 d≠ZcD,
⟨sl2,e3⟩,
(rm Zv_),
bN K H p xs,
#[dU,Zac,rfl],
ZaP ZaI b,
#[pr,ho,ZhV],
cJ f g m,
Zoo H P pos Zbg,
Zre B (env::ZbA),
(bW f v fs),
40::(aZ ·++(·++[41])),
Y6 (m:=Builtin.Tuple.tupleExact _) ·,
(tH ci a),
Y9 (Zc z),
bf ZDP Zs5=Za5,
#[wu,·,oth2 _ _ e],
#[pl,1,ZsU],
(es++Zkb dZ),
#[dG,hsb4.extBut b o Zjp ZhW],
S.fre y hy hf,
[#[xP,ea],u],
[p.1,p.2],
h2.2.symm,
o::os,
#[a_,e3,Z2],
(aR ·).Nodup,
(t::ts),
PE X a ta,
Zg ⟨aXu aXh _,·⟩,
Zrj x c e,
#[kC,0<ZbF],
f8 kvs k,
ZbC (ZlL i),
#[sI,2,Zkj],
(bJ Zcg j g),
#[pN,ZCU,6],
fz c ck ze H' e A D B st,
Zbq->#[xU,α],
(f8 kvs k),
Y6 (Y6 (aQj ?_)),
(gu (· hu Zao Zdg)),
gZ cb H Zkl Y bs,
.sq Zae [#[x9,·],·],
rR (es:=es) he,
(dU ZsP b a),
N'.zip src,
· (ZcA▸hb),
(fun h4 hns4 hsb4=>?_),
X.N=N,
i.natAbs.log2<1920,
H6 C=Zac,
hR _ hfr,
#[aX,kH,d],
#[cp,#[kp,k.map,kV]],
#[cq,ZgY,s2],
(ZiA oc (Ziz c')),
Zag 0 0,
·*t+ZdH*·,
(ZiA o #[E8,ZEO]),
[ZfB,ZeW,ZeV],
(a::b::ZcV),
ZCo (ZbC ·) (· ·),
#[sp,Zkg,·,j,·],
#[pt,b,hbK],
obj=Zai Zax,
#[py,T,oT],
aW P w K mg ZaO dR cb · · Zma ·,
o8 #[fG,Zyp] (#[bf,·]),
#[xA,g.headD 0],
Zro (t':=·) · Zbu #[mp,_,h',_,·,·],
oj c=Zaz,
Zq (flt3 b hb),
bN K H a Zym,
Za0 F l m,
#[p1,·,(Z6 not ·)],
#[EG,ZaK,Zay],
Km Pi hj,
#[EU,jq,Zmn,·],
aZ (gn g),
#[EZ,[e],e],
#[ed,rfl,rfl,rfl],
bS #[ko,hl] Zjf,
(neC b o e hx),
k H1 s1,
#[a3,sIx n 0 lo],
Zcw (I3.stkSub b z),
aW P w K mg ZaO dR ck · · ZfC (· ck),
m _ (ZCk) _ ·,
gW bs w=x.n,
(acc+(n ^^^ (p5 ^^^ 3527539)))%m,
(x.r e he).1,
(Cg a b c),
R (.ok Zrk) ZiE,
48<=c/\c<58,
xc I hu' rx hx hp r,
⟨_,rfl,p,c.C,A0.dx,_,_,rfl,·,Zc1,·,· A0,·,_,rfl,·,·⟩,
(· (x,t)).1=ZfY z,
zE hep (Zbe d _ hH),
∀ b ys,#[xJ,ZpE,ZpE],
∀ b xs,#[xJ,Zej,Zej],
#[dG,Zq (Zz Zxw ZnZ)],
#[B8,ZoD z (noA b)],
∀ ps,s.plan=Zab ps->·,
fun f' h kn=>#[oE,(Zjs▸kn),un],
ZoM (k:=Zmn) (v:=·) · (Zg'),
· (aQY (·) fun r s' hq=>?_),
2+2*i,
2<=Zki/\Zki<=60,
p6 H p f,
(Ib h k b),
behindInMarks op b=Zaz,
ups b _ e1 hnf,
fin h' tk k,
⟨_,_,_,s2,_⟩,
["a","b","c","d"],
fun B=>no B _ Za7,
bq c.C H · B st,
#[ff,#[ji,Zb6,ZkL,ZmN]],
⟨_,rfl,_,rfl,·,_,rfl,·,_,rfl,?_⟩,
SP · Zav D f s',
Z9 (jN I hg hm ?_ hdb),
· Zav s1 σ H1 · I1 q1,
wpAny_Call_method m.base m.few m.line aXb · · ·,
· Zck X.w X.K ZcJ Zfq ·,
(bh (ii ZJ ZO ZP cY · ·)),
⟨_,rfl,x,c.C,ZbM,_,rfl,·,Zc1,·,EE _,?_⟩,
#[Ek,Zg1,sc,cd,s0,H0],
bW · Zeh (bL A)=bL ·,
⟨·,Zvt,ZBR,I.base,I.loc,Zrj,Zrg,Zvu,·,Zbe,ZBH⟩,
codeAny_loop rfl I (fun n s hI=>?_) n h,
⟨_,rfl,_,_,rfl,rfl,·,_,_,rfl,rfl,·,?_⟩,
#[aQ,e,(Zfo ze ZbG (Ib #[aj,A.x] #[aj,ZrV] #[aj,Zkl]))],
⟨e1,t1,A1,D1,w1,m1,l1⟩,
IR Zbg ZbT s f c' y cy,
"_law_guest",
"_law_size",
"_law_draws",
"_law_base",
"_law_after",
9148689060682678900,
"_law_due",
"quadrille",
"_law_cell_at",
"_law_more",
"read_figure",
"_law_key",
"inner_figures",
hashInt,
Sum.inl.inj,
Sum.inr.inj,
h1.get?,
u.keep,
fun b xs q=>·,
env.kindOf,
X.H₀,
I.base.keep,
I.base.slot,
I.ok.exfs,
I.ok.has,
ZMg y.1 Zcl,
I.ok.inj,
fun _ _ q=>·,
#[Mj,q],
h.elim,
fun x H1=>·,
fun s3 I3=>·,
∃ σ' H',·,
"dict_itemiterator",
1073741824,
aQ7.mp,
.call,
fs.lookup,
PySem.W.instObj,
Nat.le_of_eq,
"isinstance",
A.depth,
.Tuple,
.error,
I.ok.frames,
r.append,
F.run,
I2.kIn,
I1.kIn,
vs[i]?,
#[sn,ZMF],
ps[i]?,
S.par,
V.non,
ws.toArray,
(by simpa using hv),
IsPart,
·.filterMap,
s3.heap.objs.size,
#[jT,b<ZMO],
ZMO=Zey+1,
xs[j]?,
subscripted,
typeIs_str,
(by simp only[Zv]<;>lia),
h'.push,
hline,
r.get,
Nat.mul_comm,
(by simp[e]),
aQE.mp,
ZM0 e2,
.Subscript,
#[sp,ZM2,·,·,·],
fun v H1=>·,
"get",
Or.inl,
(ZM6 rfl),
(iM (i:=·) db.nd rfl ZM7 ·),
env.cells.lookup,
cl.lookup,
I.ok.noex,
its.toArray[i]?,
∀ h' tk,·,
(by simpa using hl),
(by simpa using e1),
"sorted",
acc.toList,
p1.isList,
p2.isList,
rv.get,
aQn.mp,
ns.getD,
#[iB,ZNk i 0],
dy.mp,
m.length,
l[i]?,
g.get?,
B.get?,
ZNq e=Zac,
ob.data,
g1.get?,
wpAny_setField,
fun g a1 a2 a3 a4=>·,
"BaseException",
"type",
"__getattribute__",
(by rw[<-·,·];exact ·),
s1.heap.get?,
s0.heap.get?,
slot2,
I.base.there,
ZND b o e hx,
I1.kept,
I1.hok,
fun b u q=>·,
joinParts,
∃ (f:Addr)(fd:FuncData),·,
∀ b∈A.fp,·,
fun b hb o e=>·,
∀ b∈cs,·,
∀ x∈st.circ,·,
"Hall",
"AlreadyIn",
"Masked",
"Met",
ci.length,
RD.flat,
(ZNT rfl 1),
I.ok.cab,
I.ok.hd,
(ZNW hc),
I.ok.bs,
(by simp[hi]),
ds.foldl,
es.size,
holding,
wpAny_of_eq,
fun r s'=>·,
∀ x∈ks,·,
show · by rw[·];exact ·,
P.inj,
wpAny_setField_rec,
sep.length,
wpAny_dictEntries,
entryOfKey,
(by clear hs;lia),
sc.names.lookup,
#[bD,ZOb,·],
∀ vs H Q E,·,
#[Od,Zjn->ZiF=Zeu],
{ s with heap:=·,toks:=· },
#[Of,h',·],
#[Og,tk],
#[Og,t'],
callerA,
World,
∀ w:ZOk,·,
acc.length,
ps.drop,
s.trans,
fun H' s'=>r H' (ZOo s'),
"Keeper",
Tr.of_same,
I1.bk,
dd.typeIs,
fun a ha=>·,
xs[i]?,
#[dv,ZOv],
D.l1z,
b2.extBut,
D.l2z,
D.l2i1,
b4.extBut,
b5.extBut,
b3.extBut,
itb.length,
g.map,
(#[aX,ZOF,Zar]:Nat)-1,
RD.succ,
"FigureBook",
"default",
[(ZOJ,d)],
List.getElem_mem,
ay.names,
fs.flatMap,
fs.foldl,
∀ f∈fs,·,
aQN.mpr,
fun e he h=>·,
.taken,
.unknown,
kindsL.map,
fun v hv=>·,
jc.mp,
Builtin.Str.strSub,
"Evening",
"no: ",
xs.lookup,
List.mem_of_mem_drop,
bB.star,
16030,
funext,
aD.refl,
(ZO5 _),
#[sl,_,Zaw,#[ed,y,hy,#[cy,k2 nn H ZO6]]],
#[mz,ZO7],
kk HK ZO6,
.rings,
.state,
"name ",
(by rw[·];decide +kernel),
"no: NoFigure",
"inner",
"end",
"_law_row",
"_law_one",
"_law_part",
[ZPh],
"_law_j",
"_law_evening",
S1.ob,
T.dict,
A0.cs,
"turned_row",
"single_length",
"single_row",
UO.f.nL,
"define",
hf2.nd,
"told",
"spread",
M_FigureBook_check_names,
M_FigureBook_length,
fun _ _ y=>·,
fun l2 h2=>·,
if · then _ else _,
(#[PA,·]),
"number_at",
eY.nd,
fun t2 ht2=>·,
#[PE,?_],
"do_deed",
"read_line",
"strays",
ks.take,
(ZPJ i).filter,
"ring_with",
"rings_of",
"hall_behind",
UO.k.nH,
row.mono,
"rings_line",
eJ.nd,
"_law_wrong",
"_law_rings",
"_law_names",
jY.nd,
"_law_word",
jZ.nd,
"_law_ranks",
"_law_plain",
"_law_small",
"_law_wrapped",
ws[j],
"_law_figure",
"_law_plain_pairs",
"_law_together",
"_law_deed_answer",
"_law_rings_text",
"_law_said",
"_law_dance_answer",
"_law_name_answer",
"_law_some_word",
"_law_line_due",
cO.nd,
#[sV,·,ZQb,·,·],
"law",
X.mono,
ZQe s3,
PySem.W.tabIn,
M_FigureBook_row_of,
{ cls:=·,data:=· },
#[Qi,·,Za2 ·],
pyNext,
(ZQk it),
show · by decide,
kK.map,
ZQn ZaJ,
hs₁.extBut,
step_dedup,
ZW.mp,
PySem.W.nsIn K · ·,
#[Qs,Zlt,·],
#[au,#[Qt,·],·],
#[Qu,·,#[o7,·]],
#[Qu,·,Zac],
#[Qu,·,(Zab (Zag · ·))],
Zoo · P0 lp ql,
#[Qy,H],
#[Qy,H'],
#[gO,ZhK->ZQA->·],
#[QB,E #[aj,·] Zac H'],
#[Qy,H1],
#[QC,cF],
#[ft,·] #[ez,·]=Zac,
∀ [185],#[QF,(Cg x y z),·],
#[QF,(bL B),·],
∀ B:HA,#[QH,·],
u=Zhr ·,
#[QJ,a],
#[xQ,ZQK],
(.ListComp elt · · pos),
#[QM,[⟨tg,bJ,ifs,0⟩],sc],
(· X Zav σ Q),
#[QO,EP],
#[w5,·,ZQP],
#[dM,hy],
#[jV,· y ZQR],
#[QS,h],
[ZgV,ZwJ,·],
#[QU,ZoN],
s.heap.IsTupleIter · · ·,
#[QW,i1,l1,·],
#[QX,k1],
#[QW,i2,l2,·],
#[QZ,k2],
#[jT,Zpa],
∃ i σ' H',·/\tn i ·/\(ZQ1)/\·,
#[o',H],
∀ σ H,Pv · σ H->ZQ3,
#[QM,[⟨·,·,·,0⟩,⟨t1,i1,c1,0⟩],·],
#[Q5,t0,i0,c0,ZbT],
(· ZQ6 1 · acc env),
#[lZ,#[DT,·,·]],
#[Q8,·,Zb6],
#[Q8,·,Zc0],
#[Q8,·,ZaU],
#[o1,(·),ZaA],
· _ (Zaw),
#[Rb,Nat.mod_lt],
(Zab (Zf_ ·)),
∃ o',· b=Zab o',
#[Re,ZNq],
ZiX ZaK · · ·,
#[Rg,TI,#[aj,i1],#[aj,i2]],
#[Rg,TO,a,b],
·*·%Zdq,
#[Rj,·,ZCq],
#[Rk,sP x],
(ZvK k ·),
#[j3,#[Rm,·]],
(backToKw · (keywordEach · ZaS)),
#[Ro,ZiL,[]].all (#[cy,#[ho,x.1]]),
Zru<=·,
#[Rq,50],
· C H b A bs,
#[Rs,gZ],
#[cX,#[kt,·]],
#[Ru,hf],
Zca (ForInStep.yield ·),
#[Rw,r],
#[Rw,ok],
Zbn (Zbn ·),
#[Rz,Int],
[·,Ze'],
{ cls:=·,dict:=Zac,data:=· },
#[c2,·,Zvk],
#[RD,Nat],
([]:ZeZ),
#[Ra,show b∈ZRF from z],
#[B8,ZRG],
(ZiA o ZeH),
#[cq,df,s],
(ZRJ g),
· == Zv2&&env.scope.kind == ZBx&&ZMb n == Zab Ze2,
#[sk,#[sm,·]],
#[RM,Zak],
(bW Zb5 Zg4 []),
#[pq,ZRO],
#[pq,(bW Zhy #[aj,kp] ZRO)],
#[fI,s2,e2],
#[jd,·,ZRR],
fun g=>#[lx,wr · g≠g],
#[RT,ZaI],
#[RT,w],
d/5%12,
#[hC,eQ,ZcY,1],
Zj1 · 0 lo,
T.obj _ _ · b hb,
#[RZ,st8],
#[RZ,st2],
Zag e.2,
Zag e.1,
(szL q),
#[hU,ZR4,·,·],
(x.rw e he h),
#[R6,0].1,
Zd2=Zeu->·,
(hsb.2 b #[de,neC]).trans,
(#[rF,·]),
#[R_,ZpK],
#[i8,ZQk,·],
#[c4,d],
#[pg,Ze5],
#[a3,ZSc],
[Zac,Zab ·],
#[Se,1],
X.pn++Zav,
∀ p∈ZSg,p.1≠·,
#[mp,H,ZaK,·,·,·],
#[Si,a,·,Zbe a _ ea],
#[xC,·,st,ml],
#[Sk,H],
fun (a:Addr)(e:Dt)=>·,
(· (· · 0 lo)).take,
#[hC,ZCK,j3,bs],
#[cr,fun i m σ H=>m=·-i/\i<=·/\Zmo,⟨·,ZaA,Zce,h0⟩],
#[pB,·,Zxh,fun σ' H' p'=>#[ci,·-Zcf,Zad,hlt,p'],·],
(show · from ry),
#[Sr,#[QJ,b]],
(#[eA,·]),
#[aF,#[e9,·]],
fun _ _ e=>e,
(ZSv),
#[xW,0].take,
(ZSx i),
(Zf_ ·),
#[bD,·,Zls],
(bL A),
#[hU,ZSB,·,#[aj,·]],
Zet a=Zab ·,
∃ q,#[SD,q],
· _ (ZaA),
#[ku,Zd5],
c≠z->c≠i1->c≠i2->ZSG->ZE2,
toS Zkk,
fun f=>ZSI,
(ZvU ZdR),
#[SK,0].is,
(getMethod · · pl),
· (toS Zkk),
(tW N vs),
(#[vS,·]),
#[aE,ai (Zq ·),·],
#[nW,(· ZaK a b)],
#[cX,#[fd,·,#[c',·]]],
#[SS,#[SQ,#[c',flt],#[kt,f2]],f2],
#[c_,·,z],
#[NH,Zmt],
∃ (v:Zgi),·,
#[x3,#[SW,·]],
(Zhr ·),
#[bc,·.get?],
ZbL h1,
⟨l,_,rfl,ZS0,rfl,_,_,rfl,_,_,rfl,_,_,rfl,rfl,?_⟩,
ZBq g,
#[bz,a],
#[a3,ZEb],
#[oV,ih],
#[gs,#[RL,k]],
· _ (Zad),
#[pe,h],
#[gc,by rw[rd]at h;exact ZS8],
#[sE,ZRI],
(.pl (· gs)),
(bV c Zev),
(u1.free b o e n hx),
(Zj8 (Zoi a b)),
(.dK (dQ · Zd_)),
(ZiA oo #[Td,ZPn]),
(im (aR ZaI)),
#[hE,ZTf],
#[Sq,·,·,fun x H' y=>?_],
Value.int i t,
#[aF,(mu _ z).tup ·],
W i n σ' H',
⟨_,rfl,·,·,?_⟩,
#[Tl,·,Zam #[dQ,·]],
!#[lx,Zar ·=ZsD],
⟨_,rfl,_,_,rfl,rfl,·,rfl,_,rfl,·⟩,
#[To,Zaw,ZFj],
[j4 0 c,j4 1 c],
(A.under (Zf_ "type.__call__" ·)),
#[Tr,⟨ZmJ::us,kw⟩],
j4 ((ZRW+(1+ZEr)*(0+·))%12) c,
#[cS,#[kF,w,m,Zai ls]],
#[lr,· b=Zab u->·],
#[aE,#[dc,·],·],
#[jR,ah · _ _ z],
fun us s1 zz=>?_,
fun u s2 zz=>?_,
∀ d∈·,ZEq,
#[i8,ZBN,·],
#[c4,g],
#[fb,1],
(Zgo e),
#[kp,·,Za6],
(iU d),
s _ _ z,
(QG x),
es1≠[],
ZDp Zar,
wpAny_loadPart_at · ?_,
#[kq,ZNx],
#[hJ,Zc5],
#[bb,·,·,[ZdK],·],
d6 k (ZBQ (·)),
(ZgL L),
X.fn x=Zae,
#[Rb,aQc],
#[Rb,Z5],
· Zd_ a b,
fK ZcK ZCL=Za5,
#[RB,ZdK],
#[lF,ZaL]/\·,
(ZgY s2),
(t1.same s2),
ZBz y=Zab ·,
#[hL,ZDH,Zek],
(toS (eQ l)),
(tK 0),
#[E0,es],
#[Qj,ZdF,ZvN],
Zhm≠Za1 ·,
#[cS,[p.1,p.2]],
Za0 (#[Sm,·]) as ds,
#[BA,c≠b],
(rH P0 aL aG cF · · ·),
#[f5,(· Zhr)],
lt x y=Zae,
ZfA 8 Zgn,
dncE es bs f=·,
#[cy,32::tx x],
{ worn:=·,hold:=·,circ:=·,deeds:=Zlp++[·] },
(.dT (AX ·)),
ZrY · c hc,
PySem.W.codeIn K cdv ·=Zae,
(w0::ws).map,
#[g6,·,b≠·,Zd6,Zgz],
(ZC_ (df s2)),
(p++c::r),
#[g3,lh,#[bW,Zdn]],
[Zai w2,Zai m2],
Zro (t':=·) (o:=·) (·) Zbu ·,
· (xs:=xs) #[pI,ex,e] ·,
¬ (#[au,·,48]/\·≠[48]),
(bc (uY Zba · ·)),
⟨0,_,_,·,·,#[Ru,·],w0⟩,
¬ ZcF,
(#[hF,·]:cQ),
#[cx,·,·,lR c E H ·],
⟨nil0,·⟩,
#[gp,0].take,
fun b ob q=>Zmt,
#[cE,Zh,·],
(by rw[z,·]at e;exact ·),
(Zvp · ·),
Zab m,
· (#[eA,·]),
· (fun j=>?_),
#[aj,e],
Zcc+1,
Zwk+1,
Zai TI,
ZO5 _,
Zag ZE_,
Zaf rs,
Zaf bl,
Zaf ZP2,
#[aZ,T],
#[lF,ZaL],
#[a3,ZDd],
#[a3,d+1],
i<Zd8,
#[bO,Zg h],
b∈ks,
#[hD,ZrW],
Zap Zpw,
#[fG,True],
10 ^ 15,
#[c7,e],
#[bD,ZM9,c],
#[QO,TP],
#[QB,#[mq,·]],
#[aW,·]=Zeu,
p∈ml,
∀ x c,#[bD,ZM_,c]->·,
#[pC,h],
#[mA,Zjq],
41::ZcV,
.at (Zag ·),
#[xs,#[sk,·]],
(Zvu x c e),
(QY (m8 bC)),
(QZ (m8 bC)),
#[sR,Y5],
#[EB,ps],
#[RY,n],
(ZgM ·).all,
cz (ZDO),
Zbs (#[EW,·]),
(ZrE st d),
Zdm+i,
⟨ds,N⟩,
#[ya,hl],
(dncE es bs f),
(dncS es bs f),
qS v=Zae,
(Ew h H),
#[jl,(ZaP ZaI g)],
k=Zae↔d=e,
#[Ef,e,·,Zaf ·],
Zaf · Zb4,
(us++ds),
#[S7,aQc],
#[dt,u.e,_,_,·],
gZ C H' b A ·,
[ZaJ w0],
(ie Zfu w),
(Zhn S n),
#[kC,#[lF,3]],
#[D4,X1,b],
bF (Zht Zar) ·,
#[sT,ZdJ,Zs1],
Nl c ck H k A · B st,
h.Ns N mN,
(exOb C t Zac),
· Zck X.w X.K ZcJ Zfq · · · ·,
vg B ZdC ea ZhS od ·,
· (Zcz z).symm,
ZmK×Zb3,
fun kv=>if Zsi=k then · else kv,
[ZgV,ZwJ,·,·,·],
fun j:Nat=>#[Tt,ZkI],
(ZcR (Zaf ·::·)),
Tl H u,
((p,w)::P.zip vs),
#[aX,qK,g],
k _ _ x.tt #[Tj,x.tt],
Ix y x,
YP w h,
(Zn4 · env v),
ZaC · (ZaC · Zan),
[x1,x2,Zai f],
Zj1 n n hi,
#[g5,(PM f).map],
Z9 (j8 I hg hm · ?_ ZaY ZaY),
(hi-lo).toNat,
1<=ZbK/\Zx0,
[ZwJ,Zr1,Zl0,Zr3],
(#[Ek,CX,ZbT,·,s,H]),
Ze5<=64/\∀ g∈r,ZdP,
(j7 a b).1,
fun p=>#[lx,p.1=g],
AK x.ta k mu,
Nb rfl (k H' g t),
[ZwD,ZwE,ZwF,d],
I.lset (its':=·) hH e · · ?_,
(rn · · ZgZ Zbx fb),
#[kn,·,s2,H2,I2,q2],
(.dT (AX (gf es))),
bS (· _ s10 σ9 H10 _ I10 q10) ·,
· Zav s1 σ H1 · · Q I1 r1 q1,
[ZcW (ZeT · p2) · [] pos2],
· · Zav s1 σ H1 · I1 ·,
(ZCI lo hi 2).toNat,
fun f a b H' g=>· f a b H' ZRK,
FR cb cF cU cB cT P0 lp ql · · Y bs w z Q E,
PySem.W.any_some ·,
(fun _ s'=>·),
(ZvI),
·=Zax,
ZOm+·,
#[rF,ZpK],
#[rF,ZDE],
#[bl,Zad],
f.nw.1,
#[cx,·,Za5,·],
#[aE,·,Ze],
#[aF,#[oF,z]],
#[gK,ZxS,·],
#[bm,aXR],
#[c_,·,F.len _ _ _ _ ·],
#[jR,z],
#[aW,ZmV],
#[bf,Bd],
(0:Nat),
(u:Int),
#[gN,ZI],
#[eB,?_],
#[cE,·,· fs],
(by rw[isSubtype_type];kernel_rfl),
fun b y e=>?_,
∀ g m,#[tn,g]->·,
#[lZ,#[lz,ZaJ #[da,·]=ZaJ (ZbC ·)]],
fun x c h=>?_,
(ZgP,p),
#[gQ,#[Ug,·]],
∀ (HK:Hp),ZeK->·->Qf HK,
#[ot,·,c<128],
fun u2 h2 t2 p2 k2=>?_,
fun f hf=>?_,
∀ [344],ZFA->·,
#[Dx,#[lz,ZaJ #[da,·]=ZaJ (ZbC ·)]],
#[TY,0].free,
#[TE,0].head?,
∀ p∈ps,Nm p,
fun lw hlw=>?_,
fun lq hlq=>?_,
fun t1 ht1=>?_,
fun l1 hl1=>?_,
Zab 1,
Zab i,
Zab dx,
Zbn β,
Zbn ExceptHandler,
Zbn FP,
#[aj,W],
Zai ea,
Zai Zyy,
Zex z,
I1.tok _,
(aXE _),
(BY _),
Zag k,
Y8 hm2,
Y8 q.1,
Y8 ZpU,
#[bc,H3],
Y9 hm2,
#[c2,ZeY,·],
Zaf r,
(oth2 _ _ ·),
b≠it,
#[aR,h],
#[aR,#[bm,ZoB]],
#[gh,ay],
aM Zcl,
Zap h,
Ziy h,
Zvx h,
aQ7.mpr h,
ZQr h,
ZdI h,
Zbs h,
#[aZ,Zax],
#[aZ,ea],
#[lF,ZiF],
#[lF,Zf6],
#[lF,Zn9],
#[lF,Zou],
#[lx,x=a],
#[cS,ZUn],
#[bz,m],
Zam #[fK,·],
Za4 Zhp,
Za4 Zd7,
Za4 "slice",
aD H H2,
#[b7,·,#[Of,·,·]],
#[oE,w.symm,·],
#[fD,Zo5],
f.nw.2.1,
ZDc e,
Ziw GenState,
Ziw DictEntry,
#[cn,List.getElem?_take_of_lt],
#[cn,Zc],
#[cn,aQG],
(.dK kv),
i<ZiF,
#[i5,ZOh],
#[i5,ZOi],
#[oP,Zc8],
ZeX x,
p.2.2.1,
q.2.2.1,
#[l_,Za'],
(aY []),
Y7 _ (Y7 _ (Y7 _ ·)),
b∉ZjO,
#[bO,r],
aQw ?_,
JoinedStr_many ?_,
Zoe b,
Zt hqp,
b∈ZlP,
Str->ZeF,
#[oY,Tok],
#[c4,e],
id I.loc,
id hat,
id hit,
id row,
ZD3::r,
(k,x)::r,
#[gq,It],
Zvv q,
Zn2 q,
#[gs,#[Tn,·]],
Zap rfl,
Zap ZbR,
(Zaf x),
g∈Zhd,
ZNi hx,
l6.mp hx,
#[dc,hne],
#[eg,ZeH],
u.len (gW bs),
2 ^ 62,
#[ri,hi],
#[ri,hx],
#[ri,he],
Zcz hc,
n _ rfl,
#[dQ,he],
#[dQ,hz],
#[o8,3],
(zS d),
s _ _ e2,
j4 k c,
ds≠[],
ZOF Zar,
Zn'-1,
10 ^ 100,
#[hJ,o],
Zg Zh6,
32::aZ z,
#[eE,V,V],
#[ks,Zkj<=60],
Zrd=[],
d.params.defaults=[],
Zam (Zap ·),
#[g5,ZUi],
#[bD,ZBz,c],
Zoe a,
qs.map Za6,
k=Zaz,
#[fK,z],
(ZOX x · ·),
(aY (ZCn)),
#[xe,(aZ r)],
#[DB,d],
Zex hp,
ZdI hv,
ZCw<=i,
#[pd,ZrJ,·],
#[el,ZCN,·],
#[gB,·,ZeV,·],
#[gB,·,Zec,·],
#[gB,·,Zb5,·],
#[kw,Zkj<=60],
#[hP,ZiP],
¬ m=Zj6,
¬ m=Zj7,
¬ m=ZlN,
¬ m=Zob,
kh vs H Q E,
xS vs H Q E,
#[pf,ZrS],
#[oU,x,#[ez,"__classdict__"]],
Zd2-i,
#[iR,12],
#[iR,5],
(dU c a b),
#[oF,h2],
tn i ZaK,
#[xm,Zs9],
#[xm,ZFB],
zI Zbe e,
Ki Zbe e,
#[pn,ZpP],
#[pn,Ztd],
#[pp,e2],
(bW · #[aj,·] []),
#[je,Zob,·],
Zge s3,
s02.trans s3,
Int->Zb3,
i=ZaL,
(im l),
#[sn,its[i]?],
bf st Zjm=Za5,
Zes Zae,
(Pc K),
#[fR,s05],
eZ c=Zae,
oj c=Zae,
#[h4,h1],
#[h4,ac],
#[pZ,i]<=ZbF,
(dN z).symm,
(aQt ?_),
qT x=Zae,
#[aV,·,[·,ZbS],·],
wr w g≠g,
∃ t,u=ZTi,
sc.isCoroutine=Zaz,
sc.isGenerator=Zaz,
#[st,e],
f∈us,
t≠it,
#[jo,#[dc,·]],
#[pA,dx],
#[hc,#[bY,·]],
(Zrz ·).sum,
(JP ck),
#[mD,ZTu],
#[mD,ZTG],
#[aQ,l,ZDI],
#[Oc,Zf4],
#[pG,w],
#[pG,ZbH],
#[pG,Zl5],
#[mF,Zg],
#[mF,aXF],
#[xs,ZaD],
#[xs,ZaM],
k b ob q,
-(2 ^ 64),
#[Rs,Vt],
#[Rs,Vj],
#[sC,i1.pos],
Zhv<=100,
I7.base.there b o e hx,
Kp F H H',
Kp fp H H',
#[Rz,Nat],
#[D2,he],
#[Rk,sP y],
#[QG,ZDg],
#[QG,Zq9],
#[QG,Zq_],
#[El,ZnS],
#[Rn,fs],
#[RD,ZOk],
#[RD,(Zo6)],
#[sK,u],
(Np K a),
ao ac hc,
#[DQ,· (ZoC z)],
Zbn (ZfX V),
#[mP,Zx4],
ZMe b o e n hb hx,
I7.base.slot b o e n hb hx,
[e,it],
ZlO<64,
#[Et,xE g],
es++[d],
(#[PA,·])=_,
#[mT,h],
Zbe p _ hk,
cR H' l r,
X.A.in1.units+n<Zlm+1,
#[sj,k],
#[Dy,Zcd,·],
ZQr nd,
α->β,
(HL 0),
cz (Zyg),
s1 _ _ ob,
(x::os),
vs=[ZcL],
(bV c ZUl),
#[gy,ZFb,x,m],
#[gy,ZFk,x,m],
#[ER,ZOF],
(ZBB b o e n hx),
Zet S,
lT.mp kn,
dx≠x,
#[EX,6],
aD H1 HK,
#[E3,·,ZiS],
#[Eg,Q ZbP H',Zv6],
#[yn,ZbP],
Int->Int->Int,
#[Se,0],
#[Q4,ZaL],
#[Sk,H'],
J6 H F,
(No h a),
#[SF,dY],
#[SF,dY2],
aU K H p xs,
aXs F.entry_extend_loop ?_,
aXs F.entry_max_loop ?_,
min v.toNat n,
(Ew Zj4 H),
#[jl,(ZaP l g)],
vs=[Zai e,ZcL],
wQ f g m,
(x a o e),
#[yH,gJ],
#[hQ,Zoh #[aj,z] 3],
#[hQ,Zoh #[aj,z] 2],
Y6 (#[g_,hz,rfl,Zjw,?_]),
Ey w k x os j,
#[SN,aZ],
#[SN,Ln],
aQQ i0,
Zvx hq',
#[SP,#[St,·]],
s'.os=s.os,
x.n=ZDd,
#[SR,Xd],
#[Fs,ZEV],
h x Ze,
aQ9 aXc _,
aQ9 aXh _,
(PySem.W.methodObj #[aj,f] ·),
#[hM," ",1],
Of L st,
Th L st,
(hk b o q),
cw s2 hl,
we · g os Zc6,
fz c ck ze H e A D B ZcK,
⟨o',ZR9 q⟩,
⟨sl,ZR9 q⟩,
Mk X.K C f,
Zw1 K · #[co,2,60],
bindL Zn6 · m x,
bindC Zn6 · m x,
Rd H a (.dK kvs),
Rd H a (.dT kvs),
#[Mo,Zyr/\· σ' H'],
Nq s H H',
Nat×Nat,
[e2,ZFp],
x == n,
⟨·,Zad,Zad,·⟩,
Zab (Zaf z),
ZiP ·=Zab o/\ZyF/\·,
ar #[pM,ZC9],
(Zdm+i),
#[aQ,x,o],
PE X ZEL (tC v),
#[bt,x,o],
#[i4,ZFv,(gj)],
¬ q.1=k,
#[TL,hC],
ZaP l h,
(aI dH Zao aj),
Qq L es,
#[pt,t,ac],
#[T0,cy],
Y6 (aQs hS rfl ?_),
gB Zcg Ze7 g,
#[Su,ZoC z],
(vo xs lo hi),
(ka · ZoW rfl bZ ·),
G.sm x m h,
Zaf (p8 wd ZsY),
#[Uc,es],
#[Uh,Zbg],
(qR W i).2,
Zet Zax,
g.ins ZiT,
KasT α,
Int->Int,
z∈Zwz,
a == b,
Zj2*Zrr,
(ZFN:ZhN),
⟨q1,ZFq⟩,
(m g).mp,
∃ w,f=Zds w,
(ZDr s4),
ZNB b=Zab o2,
Q Zeh #[hJ,·],
l.most=Zab n,
((n,c)::cs),
#[lF,#[aW,ZEd]],
PE X (.JoinedStr · pos) ·,
#[bt,d,u],
rX a S1.cs,
#[kn,h,s,H,I,hw],
sQ c Zev,
PS X st t,
#[eI,a,Zkr],
#[fd,q2,hsm],
tH ci a,
#[pd,ZNB,ZpO],
ah ht _ _ ac,
#[hR,(Q0.1++cJ Zcg g ZdW)],
#[aW,Zgn]=ZbK,
upd · B.h #[bW,·],
#[iV,ZlJ x,g∈Zp'/\ZdP],
#[py,e,oe],
Zhm=Za1 vs,
(bJ ZgA i g),
(jg hu Zak Zv9 Zv5),
PA X [a] ta,
m3 t ht,
dQ cs ci,
vA d _ rfl,
ZNC b o hf e (ZBD b hf),
#[gm,[Zaf ·,Zxf,·],hl],
(aK · (af (dJ · dw rfl ZBW rfl · (jh (cG ZyD (cG ak ·))))) au),
Za2 #[T',acc'.map] c',
#[Fo,H,st'],
Zn5+1<Zlm,
qr H c' Zbg,
lo+ZsZ*2,
bS #[D2,ho] ZTz,
(ZeU 12 cn),
ud c ck ze H e A D B st,
(ZgT bs w f),
bq C H' p A st,
0<=i/\i<62,
bq c.C H p A st,
Zhm=Zdl es ep,
gv f N ks S,
r.inj r',
·.andThen .now,
AutoSeq1.wpAny_loadPart' et,
(∀ k,o≠· k),
(fun j t e=>?_),
Zbp×ZRA,
#[bD,·,Ze2]\/#[EY,·],
u=ZjQ,
acc'.length=Zou,
[Zi3,Ze_],
[ZPg,ZC0],
[ZeW,ZCW],
Zou<xs.size,
#[iV,·,g∈L],
(x.r e he).2,
⟨zC g,Zyv⟩,
∀ (i j:Int)(t u:Tok)(s:Shared)(Q:ZfE)(E:ZfE),·,
#[cy,⟨ZTS,ZTT⟩],
∀ w' s',·->·->Q w' s',
{ s2 with heap:=h',toks:=tk },
#[iQ,ZEV<=2],
∀ x∈S,f x∈S,
fun b o z nb=>#[ch,nb,·],
fun hd H2 s2=>· f hf hd H2 ZUk ZTZ,
(ZDG Za6),
(uw w3),
(· (ZgR ZES)),
fr4 (sM.free ·),
ZaC _ t,
(sz _ Zah),
Y9 ⟨kn,le⟩,
k H ZO6,
#[Qt,x]=Zab ZsN,
(S++Zjx),
PE X e2 t2,
Zj_ x m,
(Zaf x t),
bS ZkM Zjf,
vs=#[co,·,c],
Zaf y u,
bH bs u,
operate · (ZBX · ·),
· a=Zab #[hR,y.2],
J5 X E,
#[cr,t1,t2],
(CY H a),
#[kp,ZiW,Zhw],
#[aX,·,l]=Zcc,
k _ _ · (dj _ Za7),
(az Zak bp),
aU K H t xs,
#[vY,#[Sa,z]],
Zhn S n,
#[eI,lw,Ztj],
jV · fs=Zac,
(iU (dZ e)),
#[bb,·,·,[Zb5],(· c)],
fA K C f,
#[ps,a,b],
#[hH,_,_,rfl,rfl,?_],
(d::l).map,
(q::qs).map,
Ez I1 d,
V->Zgk->Zgk->Hp->VK->Zaa,
Zwl I7 n7,
gf (ZwB i),
#[bi,·,[Zb5],(· c)],
bE (kV k) u,
#[dG,· b o #[de,s0] (ao e ·)],
nf us hd,
#[s7,#[h1,n,z,Zf.mpr rfl]],
#[gy,(jt ZaI g),x,m],
(Zq (Zz hc Zti)),
qX ZwI p.of,
Zb_->Zgj->TS,
[Zai t2,Zai t3],
#[oX,eR,(uY Zao Zba (ak))],
bJ Zcg j g,
#[E4,a,ma],
#[E4,b,mb],
w∈[#[ez,ZaG],ZaU],
⟨ob,h1,h2.2.1⟩,
#[j3,(· #[bl,·++aZ q])],
(f.gs.flatMap #[Et,xE g]),
bS #[ko,hi] fun iv s1 zz=>?_,
0<=j/\j<62,
f8 kvs k=Zac,
aZ #[da,")"]=[41],
b=e\/Zju,
ZMM vl lo,
ZMM vu hi,
(f v u),
(iV es Zjm),
VD (H x),
Zj1 · 0 (Zab ·),
#[pF,(setFlight #[aj,e] Zac)],
#[ED,ZQk #[aj,z]],
iX H' d bs tv,
CZ st ml,
(upd H7 d #[Ej,ZEO,(Zmn,v)]),
aM (k2 · H1 s1),
#[aT,ZUm,x,ZD7,·,·],
#[mY,(ZRW+(1+ZEr)*(0+·)),12],
⟨v,H,I,r,h⟩,
Za0 (bR n H) as fs,
(sliceBounds lo hi Zac n),
#[Ur,Zfg,Zjr],
kN ZdC=Zd3::ZxT,
#[dt,ZaH,_,·,q],
Rd H a u,
sp e (Zy he),
(put (put wl a zb) b za),
(ZmR->x.r=ZCM),
f8 kvs k=Zab v,
(I7.hok b ob e).stay (fun c w' hc' q=>(hsb.2 c ?_).trans q) (Zyt) ZMk,
oQ Zck X.w H6 h',
(k B H' (#[yu,x.gk g t])),
(fun x1 x2=>x1++x2),
h.Ns1 dx mA,
EM hw ln,
[a,b,c],
∃ u,Zet e=Zab u,
∀ f,ZUb≠Zab ZFy,
∀ x:Int,0<=x%·/\x%·<·,
#[dG,#[cB,#[pC,·],#[pC,·],e]],
#[eB,· g (p.of.1 g hg)],
∀ o' u',·≠Zab (ZiA o' u'),
wV (st:=aY (ZDO)) he,
zJ (B:=·) (Zx') ?_,
(by have:=#[mw,·,·];rw[lA,·]at this;exact Zcl),
fun hn=>Vr · #[ew,· T U VM UO h · · Zah ZS5],
(j6 (toS Zkk)),
· (xp (xs:=·) · · pl fun I' St s2 hs2 hI W st kp fin=>?_),
Y9 ⟨ok.1,Zp4⟩,
(· · (T8 hr ZaY)),
#[ez,·++ZbC ")"]=toS ·.txt,
aQ X · σ H s,
#[oE,⟨ZaN,ZaN⟩,c],
#[aV,N,ps,st],
w=ZaG\/w=ZaU,
e=x\/#[aQ,e,Ztl],
#[cT,·,·,[Zaf ZcQ,ZR3,ZR2]],
bq C H p A st,
·.txt++r=40::(aZ ·++(·++41::r)),
#[ji,ZcQ,ZR3,ZR2],
k b o #[bZ,hc (by simp[z])] e,
aW P w K mg ZaO dR c.C · 1 · (· c.C),
#[pD,bf st (Zhz g)],
cC K C m q st,
(j9 · (fT rfl (aT (fG 2 ·) (aT (fG 3 ·) (aT (fG 4 ·) dE))))),
PS X (.Raise #[fb,#[D_,·,[e]]] Zac pos) ·,
(tP st ml d),
#[Fa,⟨xs,q,ZaN⟩],
#[Sp,n,n,n],
#[Sp,ZaL,ZaL,ZaL],
#[St,· = -1\/·=0\/·=1],
rS w i j,
Z9 (j8 I hg hm hv ?_ hn hdb),
#[gK,[Y1.d1,Y1.d2,Y1.d3],·],
(e1::e2::es),
#[D5,a]=#[kJ,zx]+x,
#[sX,_,_,rfl,·,?_],
Za0 (Ea H) ts xs,
k HK t1 hq2,
∀ k,0<k->k<m->bJ f k g≠g,
aZ (vT w z),
Y6 (Z8 he hd h1 ?_),
⟨_,rfl,p,c.C,dx,_,rfl,(#[jo,ai ·]),Zc1,·,#[kC,·<ZbF],?_⟩,
PE X (ZcW (ZeT · p) [] [] pos) (DM · · [] E0 qg),
Ig ZaK x dx C mA,
⟨ZaN,#[iQ,1<=7],#[bf,·]⟩,
#[bh,#[pV,Zjb,!·,·,#[lx,·]],·],
∀ {f':ay},rdF ZsY=Zab f'->f'=f,
(W9 r ta tb),
aM (k H ZO6),
k1 S _ nW hS,
#[lx,#[au,N[j]?,p.1]/\ZOb p.1=Zab Zf4],
#[mj,Zey,H6,J7,qn],
#[pD,ZgT bs w f],
(Qk h p d b),
#[Fi,rfl,_,rfl,?_],
⟨v,σ',H',·,r,q⟩,
⟨m1++m2,#[a_,e2,Array.append_assoc]⟩,
(fL Zck X.w z t),
(ZNV x c hfn hc),
#[rx,0].2 i v (#[c_,aXn,e2]),
⟨_,rfl,_,·,·,rfl,·,_,_,rfl,rfl,·,rfl,?_⟩,
ZFx/\Zx0/\(#[ot,aZ z,tL c=Zae])/\#[Uq,#[gn,0].head?,aZ z],
s.heap.IsSliceOf sl vl vu Zay,
#[eC,bW f v ((k,x)::r)=#[gx,k=f,(k,v)::r,(k,x)::bW f v r]],
[ZgW,Ze',Zi3,Ze_,ZbS],
PySem.int_text_length_le10 (a:=i) (k:=100) ZaY hi,
(Fx c ck ze cb),
(f ZFl (Zag j u)),
⟨e,·,_,_,_,_,h0,·⟩,
#[sX,z,a,zl,al,ZCA],
wk r · _ (fun g hg r hr=>·) (by have:=vB · ·;rw[Zh];lia),
(#[Sn,items.toList.drop,sIx,Zf6] (ZFm-Zx2)),
⟨a,b,c,·,e,f,g⟩,
NT lk hcd S len fun A outer s H vs Q E hr hsp=>·,
fun H4 g4 t4=>#[bO,#[pS,⟨B,es,bs,tv,_,_,rfl,X.gk g4 t4,e5,b5,Zad⟩]],
(Xp X Zav σ tg R),
#[cp,(Zfo C ZbG (Cg #[aj,Zeb] #[aj,ZeD] #[aj,Zhx]))],
Zwl (Zoa ZQ6 · it acc env),
CmpOf ZnU w ZiN .Gt P bt,
⟨·,·,·,·,#[rI,·],#[OR,#[fd,·,ZR6]],x.nd,x.ln,x.d12,x.d13,x.d23⟩,
bS (qL (X:=Y) I11 hys ZiH ry) fun _ s12 I12=>Zwl I12 q11,
D8 c H p A st · Q E,
⟨_,rfl,_,_,rfl,rfl,·,_,_,rfl,rfl,?_⟩,
By M G hr hg · hb Zan fb,
ii PySem.F.plainAttrs_str · · · ho (az he bp hs) ZvQ hfew ZMW hs hplain,
Walks ZnU w ZiN I fp wr n P St,
X.A.units,
ZagD+n<Zlm,
sysModules,
#[oU,·,ZagF],
#[agG,a],
us'.length,
∀ b∈B.fp,·,
Value.float,
us[i]?,
(by simpa using h1),
bF.append,
xs.drop,
Un.kept,
ZagP hk,
fun b u q _=>·,
#[agR,⟨u,ZEy⟩],
fun b u xs q=>·,
PySem.W.hideAll,
aXl.mp,
aXl.mpr,
PySem.W.hideAll_none,
X.env.scope.kind,
X.env.kindOf,
s.heap.Ns,
X.base.get?,
#[pd,Zag1,·],
X.K.In,
I.ok.funs,
Heap.get?_none_of_le,
fun b xs e=>·,
I.base.tups,
I.base.frzs,
u.free,
u.there,
I.stkSub,
{ s with toks:=· },
#[aha,Zmu],
spliced,
fun σ H Q=>·,
#[ahd,· σ H ·],
#[ahe,·,#[Mm,·]],
#[ahf,ta,·],
#[ahf,te,·],
#[ahe,ty,fun y H1=>·],
#[ahe,t,fun c H1=>·],
#[ahe,t,#[Cu,·]],
fun _ H Q=>·,
#[ahl,Q · H],
I.ok.blt,
fun _ _ _ H _ I h=>·,
#[aho,· ·],
compareOp,
tG X (Zahq ·) ·,
#[ahr,·,(SG #[lD,.bl (Zlw (·))])],
#[ahr,ZB4,·],
o.dict,
fun σ' H'=>·,
aM #[cr,#[ahv,·],·],
pos.line,
ZgL Zahx,
σ[i]?,
show · from p,
I.tuple_inj,
T.done,
#[EH,ZahC,[],stop],
T.item,
#[EH,ZahE,[],go],
I7.unpinned,
i.natAbs,
ZahH<10 ^ 100,
ZahH=0,
getAttr,
List.lookup,
ZahL · ·=Zab ·,
e.trans,
Zi.mpr,
PySem.W.emptyDict,
"bool",
PySem.W.specialIn,
I.ok.mod,
I.stkFree,
.of_eq,
ZahU rfl,
PySem.W.callWith_K,
N.length,
envOfC,
ZahY Zbg · Zax f ·,
#[ahZ,ZbT,cd],
e0.frames,
e0.funs,
e0.frf,
Builtin.Slice.slicePlaces,
ht.typeIs,
Subscript_,
s3.toks,
s5={ s3 with heap:=h4,toks:=Zah7+#[DW,ZsH] },
vE (h':=h4) I3 hso S q1 q3 hf3 flt3 (by simpa using hns4) kp4 (Zah7+#[DW,ZsH]),
typeIs_int,
I.write,
Builtin.List.listTooLong,
"list.append",
kvs.any,
kvs.map,
z.symm,
o.isSome,
o.getD,
vs.map,
Nat.lt_trans,
tupleKind_room_in1,
rel.put,
d.name,
mg Zail=Zab #[aj,fa],
if · then none else ·,
IntsAre,
Zaio · ns,
#[aip,vs],
(by simpa using hk),
Eq.trans,
Zais ih ?_,
S.nocell,
σ[j]?,
bs.getD,
#[iB,Zaiw i Zaz],
X.A.in1,
out.toList,
RD.inj,
"__length_hint__",
xs.reverse,
if · then · else 0,
z.symm.trans,
m.erase,
List.length_pos_of_mem,
paired_get,
ZaiH · ·,
#[aiI,pr,ha],
oe.cls,
oe.dict,
ob.dict,
fun b o q nf=>·,
#[aiN,?_],
o.slots,
⟨ZaiP,·⟩,
Obj.data_mapFields,
"__setattr__",
.ellipsis,
PySem.W.Looks,
codeAny_call_builtin,
fun b o n q=>·,
typeLookup,
ZaiX (Za4 ·) · = Zca Zac,
#[aiY,Zf1,·],
"function",
PySem.W.typeIn · ·=#[c3,Za4,Zai0],
oI.cls=Za4 Zai0,
fun b o e n hf hx=>·,
{ s1 with heap:=· },
z.elim,
strLen_append,
Zai6 _ _,
fun a q z=>·,
⟨as,·,#[vq,p,#[ai8,·]]⟩,
∀ x∈ci,·,
ml.length,
fun g m h=>·,
show · by simp,
X.tried,
I1.untried,
I2.hok.fresh,
Zaje (Za Zey),
(by rfl),
(Zajg),
bw bO Zajh T.len Z0 ·,
(bw (· rfl) Zajh · · ·),
(jW Zajh ·),
(bM gi Zajh T.tuple aQR ·),
(bw · Zajh T.len Z0 ·),
#[ajm,bO,·],
#[ajj,og,T.all,aXt,·],
wm (v:=Zai ·) Zajh · rfl,
#[ajn,Zl8],
ps.getD,
(by simp;lia),
(Zajs),
fun x c e=>·,
#[aju,· x c (q1 x c e)],
#[aju,?_],
∀ p∈ml,·,
∀ d∈ds,·,
Int.sub_mul,
Int.toNat_of_nonneg,
l6.mpr,
P.ring,
P.ord_le,
strValues,
-317073092351089884073562638,
-490739042303951060969702305,
7683057188801249888269000591591303500,
1000000000001,
ZnT<=·/\·<ZajI,
es.toList,
ZajK=Zrt (ZN' (ZvU ZdR)),
Heap.SameBut.update,
vs.getD,
ZajN · Zay=·,
s'.heap.get?,
fun b o e n _=>·,
fun b o e _=>·,
#[ajR,e],
#[ajR,· b o e],
I.ok.funs.mem,
ZajU hf,
fd.code,
s₁.heap.Ns,
failedOf,
if · then · else es,
l.toArray,
Txt.split,
Builtin.Str.strKind,
Zaj2 x,
x.cps.toList[i]?,
s1.heap,
#[mp,H1,Zaj5,·,·,·],
Nat.toDigits,
Nat.digitChar,
z.cps.toList.length,
ZbK=Zaj9,
Zaj9=ZbK,
"StopIteration",
.of_wp,
Heap.IsTuple,
fun i h h' st k=>·,
#[akd,st.at #[wt,k it Za7 o e]],
s1.heap.IsTuple,
wpAny_newTuple,
F.args_zip_next_1,
h'.IsTupleIter,
Zaki · · ·,
#[akj,i1,l1,(k1+1)],
#[akj,i2,l2,(k2+1)],
hs₄.extBut,
hs₂.extBut,
∀ t∈acc',·,
arr.push,
hl1.at,
hl2.at,
Heap.size_update,
I1.tuple,
f.gs.length,
∀ [237](j:Nat),·,
fun b o b1 b2 z=>·,
wpAny_rule,
#[xl,Zakx,·],
fun vs H Q E h=>·,
#[akz,?_],
bR.mono,
ay.rowF,
ay.dt_inj,
fs.countP,
aXI.mp,
ay.row_lenL,
List.take_append_drop,
e2.mono,
ay.row,
(ZakJ fs),
wpAny_mkStr,
z.cps.toList.drop,
joinParts_cons,
JoinOk,
as.length,
"wears ",
if · then · else none,
#[akR,·,Zab ·],
#[akS,gI ZT2=Zae,(Zds (toS (eQ l)),ZcY ZET)],
l.head?,
#[au,ZakU,·],
#[akV,40],
ZakU≠Zab ·,
#[akV,32],
intKind,
(ZakZ P w),
fun b o hb e=>·,
(#[ak1,·]),
bB.all,
gs.flatMap,
f.txt.length,
Zak5<=·,
#[ak6,150000],
Zak5+1,
fun f=>Zak8,
200000,
"(back ",
"(row ",
h1.symm.trans,
Zalb e,
"none",
"none 0",
"no: Unknown",
x.td.h,
x.bk.f1,
x.bk.f2,
x.bk.f3,
"mask",
[ZfB,Ze6,Zalk],
"deed",
"ring",
[Zaln],
"_law_deeds",
"_law_first",
"_law_guests",
Tr.refl.upd,
sT.trans,
s4.free,
T.bset,
PyProof.Rows.boot_set,
g6.trans,
s12.free,
show · by rw[·];rfl,
UO.f.nR,
fun kn H2 s2=>·,
bs.filter,
(ZalC kg).map,
B.mono,
ZalE s1,
z.mono,
#[jR,ZalG ·],
s03.trans,
s03.free,
(by rw[·];show ·;lia),
s05.trans,
fun i σ HH _ ·=>·,
E.same,
"pairs_left",
"left",
I.hall,
fun b o e'=>·,
UO.e.nH,
fun b o e' n=>·,
fun b hb z=>·,
· · mu #[alU,·],
UO.e.nB,
fun y o e' n=>·,
"answer",
"number_line",
"dance_line",
"name_line",
z0.cps.toList,
fun H1 s1=>·,
fun i σ H2 _ ·=>·,
fun l2 hl2=>·,
td.okr,
"danced ",
"come ",
#[fH,Zal8],
"hey ",
Cquadrille,
backTo,
(Zama · (ZDz · ZaS)),
#[amb,ZiL,[]].any,
#[amb,pos,·].any,
#[amd,es],
#[amb,ZiL,·].all (#[cy,! x.1]),
Zama · (ZDz · ZaS)=·,
s.heap.IsTuple,
Zamh · ·,
#[ami,l1,xs],
#[ami,l2,ys],
#[ami,t,xs],
s.heap.push,
Zamm ·,
(Zamm ZahP),
(by simp[names]),
· · (Zamp),
s.TypeIs,
Zamr #[aj,·] ·,
#[ams,z,Zd7],
AllBare,
Zamu s'.gens,
X.env.scope,
VJ Zamw x,
Zamw=so,
To Zamw x,
X.env.scope.names.lookup,
#[SA,ZamA],
ZTR\/ZamB,
s3.heap,
tn 0 ZamD,
letOwnedTupleGo,
(ZamF · it v),
fun σ H R=>·,
#[amH,tl σ H #[Mm,·]],
.FormattedValue,
#[jX,(ZamJ · (-1) Zac ·)],
ZamJ · (-1) Zac ·,
leaving,
#[hI,(ZamM _ _)],
∀ i σ H,·,
h2'.objs.size,
· · (ZakA) (fun cdv A outer s H vs Q E hr h=>?_),
#[amQ,F.ok,·],
#[amQ,F.okX,·],
fun _ _ h'=>h'.elim,
Y6 (ZN · (·) ZamT),
(ZN · (·) ZamT),
#[amU,h₁,fun _ s₁' h₁'=>?_],
#[amU,h₁',fun _ s₂ h₂=>#[amU,h₂,fun ok s₃ h₃=>?_]],
#[Fg,#[amV,(turn n s hI),fun r s₁ h₁=>?_]],
(·+·)%Zdq,
#[amZ,·,·*Zwq],
{ D with nx:=·,ct:=·,bk:=Zn1 },
fun σ2 H2=>tb #[am1,·,·] σ2 H2,
#[am2,Zxh,Zxh],
#[g3,Zey,·],
#[am4,Zkr],
#[am4,Zc5],
#[Es,Zam5],
eX X sc cl C N' s3 Zam5 fp,
hb cl C s3 Zam5 fp,
Za6 u.1,
#[gS,Zam_],
#[g0,Zvh,Zam'],
#[aX,ZlV,Zam'],
aM ⟨_,rfl,_,_,rfl,rfl,·,·,·⟩,
0,
#[anc,_,rfl,?_],
·*1234567891%ZB',
#[anf,Zmg],
k*(1+Zang),
Zbn Keyword,
#[lx,#[aW,·]+#[DW,Zani]+(if ([]:Zani).isEmpty then 0 else 1)<30],
PySem.W.fnOf · · · · · · kV doc pm an cdv ct,
#[ank,·,·,(iG st),ZD0,ZDV,Zay],
#[anl,x,Zbg],
(ZB _ (ZB _ (dG hb e))),
(I7.pin Zxt Zann).2.1,
ar #[i7,t,_,T0,·],
#[anp,at0],
#[anp,rfl],
∃ N:Zgr,(∀ σ' H',N σ' H'->∃ m',m'<m/\·)/\·,
·*ZCq,
#[ant,(·*Zom+·)],
ai (ao q hn),
#[mv,Zanv],
(· pos Zav s σ H _ I ·),
#[anx,ha,h],
(bS Zany ZTy),
· Zck X.w X.K ZcJ Zfq CX · · · ps sp,
#[anA,aV,k,f,fd],
(· i H/\ZQ3)\/(· i H/\#[ans,W Zcf m' σ' H',·]),
#[RC,ZdF,Za2 #[f5,([]:Zb')]],
#[anC,·,·,∀ x H',· i H x H'->g x σ H' #[am2,N,N]],
#[anE,·.stop,·.go,·.yld],
Qm · z TI TO (ZgL T) ·,
#[anG,ZaK,b],
#[anG,h',Zae],
show p∈· from hp,
#[lu,#[Ra,#[anJ,([]:Ze0)]]],
⟨hn b hb,?_,ZcM,Zam hb,#[ajv,f4],ZanK⟩,
(n,NameKind.cell),
#[Ep,0].drop,
#[aj,Zey],
#[dM,hx],
#[xD,·,ZanP],
#[anQ,h],
#[pd,s3.heap.get?,·],
#[anS,Zyc],
#[anS,#[bc,h4.get?]],
(ZB_ (Za _)),
I1.fpOk Zbu ZanV,
(jr c l),
#[anX,0].map,
(loop _ rfl),
T.keep _ _ _ · fun b _ o e=>·,
#[an0,st2,#[aE,e3,Zja]],
#[an0,st3,kp4 b o e],
(ZrZ _ Za7),
#[an3,0].2,
#[an3,0].1,
(wr ZaI b),
Zca (ZvJ us),
⟨_,rfl,_,rfl,·,_,rfl,·,_,_,rfl,rfl,_,rfl,?_⟩,
#[an8,q,#[pp,hq]],
#[fp,z],
#[bZ,n (Zan_)],
#[f8,#[e9,·]],
#[aoa,· x hx],
#[bz,nm],
[#[bz,s],ZSb,Zaoc,#[px,d%4],·,·,·,·,·],
#[aod,#[c4,mn],Zye,#[px,1+M],v,·],
ZeY×Zb_,
#[eE,ZhN,Zaof],
Zaih Zab,
(Zaoh++[Zab vy]),
zV so sc · N' src,
#[aoj,N],
#[cX,#[aE,·,·]],
#[aol,sz3,aQx (flt b hb)],
#[Qm,·>0],
#[aon,ZmC],
{ s7 with heap:=h' },
#[b7,H6,Zaop],
fun x m h=>?_,
⟨·,fun x m=>?_,Zaor,Zaor,·⟩,
show x∈· from hx,
ou.mp (#[aot,·]),
#[bc,ZNB],
#[kR,Zaov,ZxT,ZRf],
g.binds hb,
#[hR,x.2],
(rel.val k),
#[aoz,0].isSome_eq,
ZiP f=Zab ·,
#[aoB,⟨oc,od,ZvV (·),osl⟩],
fun v s1 h1=>bS h1 ·,
∀ [438],(ZQ1)->·,
(nn b hc),
k b o #[aoF,0].1 #[aoF,0].2 q,
ok f fd g,
(firstMet (ZNl) ·),
#[aoI,ZBK],
(dI · (#[aX,·,·]+1) ·).bind #[bl,· fun f=>(f,q.2)],
(by rw[Y5,Y5,·];exact Zpi),
#[aoL,ZL],
ZaiH · (Zs hi),
#[aoN,ZwN],
aV P w K mg ZaO CX k f fd ps ·,
#[aoP,sp],
(nr b o q nf),
(ot b ZaoR).trans,
rS w k j,
#[x_,ZaoT=Zae,(x,o)]++Ey w k x os ZdW,
#[hB,·.2.1,·.2.2.1,#[hB,·.2.2.2.1,#[o_,·],·]],
#[aoV,·,·,·,·,#[hB,#[o_,·.2],#[xI,·],#[hB,#[o_,·.2.2.2],·,·]]],
⟨y,rfl,hy,_,rfl,Zaw,·⟩,
#[jV,#[aoX,·]],
#[aoY,ZcM],
⟨m',hm,i+1,σ7,H7,ZahG,T.keep _ _ _ · #[NL,(I7.pin Zxt Zann).1],Zdx,w7⟩,
#[ao0,st8],
#[aE,·,Zo],
Y8 (#[ao2,·]),
#[c_,hC,·],
#[dG,#[ao4,Zs_]],
fun _ s9 zz=>?_,
fun ok s10 zz=>?_,
bS (ht _ s9 σ9 H9 _ I9 q9) Zao7,
Zaf ZbH,
s.heap.UpToSlots g,
∀ g,·->Zao_->Q () ZEm,
#[c4,cn],
#[fG,Zaz],
(Zhn Zapb 0),
Zar e.n,
#[fI,s1,e2],
⟨_,rfl,p,_,1,_,rfl,rfl,Zyk,rfl,t,rfl,#[aR,Zape],?_⟩,
base.Ns Zlt mg,
(toS (eQ Zgp)),
(s1 _ _ e2),
#[pp,Zapi],
wM mg ZaO,
∀ base:Zvk,· ZaO->Zapg->Zapk->·,
#[amf,[e]],
#[gs,Zapm&&ZRp&&#[anj,[e]]],
#[aoD,fun itv s2 h2=>?_],
(#[Qm,#[lF,·]]),
#[app,1],
⟨fun i H=>·,·,fun i H=>·⟩,
(10:Int) ^ (18:Int).toNat,
(Zmg-Zaps),
(Zanh+ZCa),
oQ Zck X.w H' ·,
#[apv,h'],
#[bh,#[lA,ZaJ ·=ZaJ _],dS (s:=·) ZkE],
#[apx,(mH.come g).w0,ZcD],
Za0 (#[E7,x,·]) cs ci,
ZN2 [ov] #[SM,ov,·],
#[apA,m],
ZlU (gW bs) ·,
#[apC,Zyh],
0<=d/\d<b,
#[ajy,ZapE],
(dm · Zak ZdL ZoW fb ·),
#[apG,ZPx,·],
bM qM Zajh T.str aQ4 ·,
D9 P w K mg ZaO · ZbA s H,
#[apJ,A],
#[aoE,#[jT,nu Y · H' b]],
#[apL,[]],
callWith pos f first #[amb,pos,·] #[Ro,pos,[]],
#[apN,Zdu],
∀ [103],aQ Y (·++pz fp s8.heap) σ7 H7 s'->Nx σ7 H7->#[ss,·],
#[apP,[],#[Q2,aQ Y [] σ' H' s',ZdD,ZFn]],
hg _ s8 σ6 H8 x u _ I8' r8 (step x H8 y8),
bS (ZapR) Zao6,
["sign"],
#[cx,·,·,Za5],
#[aE,en,·],
#[apV,hW di hj],
#[dG,Y7 _ ·],
#[apX,ZhW],
#[dG,#[de,·].1],
#[apZ,ZBV],
#[rn,∃ i j,·],
(#[ap1,x=Zaf i/\y=Zaf j/\·]),
(Zj2:Int),
#[nW,(s1.heap.push (revObj a (Zap3-1)))],
#[ai3,?_],
∀ g∈f.gs,ZmO,
f.Ok/\Zap6,
#[aj,fI],
#[au,mN Zfw,Zap8],
#[w2,ZakZ],
s.heap.SetOf Zap_ p S n,
b∉Zrd,
∀ b,Zaqa,
Zamh a ·,
#[eg,Zaoy],
#[apz,Zaqd],
H0 b=Zac,
#[g6,b∈ZxT,Zaov,Zaqf,#[yo,Zvm]],
(ZlJ d),
#[aqh,0].take,
(Zag d),
Zer<=60,
ZaL<=i,
#[apr,∃ xs x,·/\ZOw,·,∃ xs,·/\Zaql],
#[pf,Zdr],
(·++we w g Zaqn Zcf),
(put ZaI a Zan6),
(bB.pair a b),
#[sW,#[dN,#[aqq,0].word,Zb6]],
(put Zdn Zan6 a),
#[Ue,put Zaqp b ZE9,put Zaqs ZE9 b,dU ZsP b a,Zoj],
so.names.lookup y.1=Zab ·,
#[Oc,Ze2],
#[Ej,(Zxd,Zapd),·],
#[RB,"_law_name"],
(g24.trans (df ·)),
#[pT,ht],
k _ _ z Zaqz,
#[RY,ZaL],
(ZMT _ _ _),
s5 _ _ hq2,
fun H5 s5=>#[FR,ZaqD,·,·],
#[gv,Zxd,e.l],
Za2 its n,
Zhm=ZaqG/\#[lF,ZBK]/\·,
ah hp _ _ hq,
#[jc,q,ZaqI],
#[Eg,Qf H',Zv6],
#[Q2,aQ Y [] σ' H' s',ZdD,ZTk],
oU c ck H k A B · mI ·,
#[gO,#[aqM,·,H']->Zxu],
(ZT _ _ (Z1 (Zk e))),
(No ZaK a),
⟨m,·,fun h' hsb=>?_⟩,
#[aqQ,hn],
(ZMu C ·),
#[aqS,dx],
b∈Zdp\/Za9,
cw (ZwC ·) hq,
#[aqV,s5],
#[c',sb.2].trans e,
∀ p∈ZCM,Nm p,
ZcF->ZDe->ZaqY,
#[bt,q,Zkr],
· ZgA ZlO g,
#[aq1,gB],
((by rw[ea];show ·;rw[·];rfl)),
show #[mL,_] from x,
∀ (cl:Zo0)(C:Addr)(s:Shared)(H:Hp)(ex:ZeZ),·,
#[gd,·+1+n<Zlm+1],
#[aq6,ZagD],
fun a x=>#[eg,(iU x)],
#[gS,#[lx,∃ a,u=ZbV/\·]],
#[aq9,RD X.K H2 n ZbP d],
(ZvJ us),
· Zapu (#[Qm,·]),
(ZgR ZES).map,
#[xm,Zarb],
Zj'=ZaL/\·,
#[co,ZkB,x],
#[eI,d,ZRI],
#[pr,hi,Zapo],
#[cS,[Zdy,x]],
#[Ff,Zarh],
#[ps,ZkB,x],
[Zaf Zaph,Zag ZS4],
#[h7,Zark],
Num w ds,
#[oG,jy.mp,·,(ZOW e)],
#[arn,kn],
Y6 (#[g_,ei,di,·,?_]),
#[Ej,#[gv,Zxd,e.p],·],
#[arq,#[gv,Zmn,p]],
((· ZQp ·).extBut Zakn ·),
Un (kN ZbA) [] H0 · s0.heap ·,
#[ajJ,b,b],
(a<Zom/\b<Zom)\/(ZnT<=a/\a<ZajI/\Zaru),
#[hL,·.map Zar,Zar (bJ · · g)],
#[arw,(cJ ZgA g i),ZgA,i],
#[pv,PG,tg,g],
#[pv,Si,ifs,tt],
aXP (fun hab=>#[o1,hab,Zal]) (·),
#[arA,Zsf],
⟨Ze4,[Ze4],_,_,·,rfl,·,·,·,Zdx,·⟩,
#[arC,H1,ZNF (t':=ZrC) ZmI,·,ZEA,q],
(gv f N ks S),
#[j3,ZarE],
∀ g,ZS2->·->·->·->Q () ZEm,
#[e9,m9 kvs k ·],
#[arH,v],
LD (h1:=·) · · · · (fun b o hf e n=>·) fun b o hf e=>?_,
∃ (fI:Addr)(fd:FuncData),Mk K · fI/\·/\#[EB,·],
#[arK,·,aV P w K mg ZaO dR 1 fI fd · ·,·],
(xg Zbe eb),
· (Zaij hu) ZarM · · ?_,
x.1∈L/\x.2.Nodup/\·,
IM (ZaJ ·) (· ZaJ),
(gK Fo Zak (fU (pv 1)) ·),
#[arQ,(fU ZyJ)],
#[fH,Zal7]++gn ZSo,
I2.laid (t':=s2.toks) (ZSV) Zbu ·,
#[arT,⟨Zce,[],0,Zan,Zct⟩],
(Qk · ZaH (Zag 0) ZaH),
#[aoK,·,ZanN,ZRX,(ZanN ZRX),·],
#[ahM,x,(#[gx,ZS6,ZanM,ZD3]::_),·],
∀ f,Zmr->ZcF->ZDe->·->·,
#[ft,(names.map fun ZD3=>#[cx,(#[RL,k]),ZanM,ZD3])],
∀ (j:Nat)(t:Addr),#[au,·,t]->∃ x y,#[dv,ZMR]/\#[kG,ys[j]?]/\·,
Zar (ZDc (gW bs)),
#[aqw,(Zmn,Zar1)],
t #[Eg,Zxu,Q] ZSO H,
(toS (eQ (ZcY 1))),
· k mu · (ro fun n=>ZoK (· n)),
(.DictComp kx vx [⟨·,bJ,ifs,0⟩] · pos),
· ZanZ (T.self _ 0 _ _ _ st4 ZanZ),
#[ar7,codeAny_compStart_list],
⟨f,fd,ZaoH,·,g.kp,Zaox⟩,
I3.call' (ch:=fp) (s':=·) I7.os · · I7.bare #[cX,⟨#[DZ,0].2.2.2.1,#[DZ,0].2.1,#[o_,ZDZ],#[DZ,0].2.2.2.2.2⟩],
#[ar_,Zaop,un,hok],
⟨_,rfl,rfl,·,32,rfl,#[d9,oJ],Zad,ZC9⟩,
#[asa,z0],
[ZS3,#[bz,e1],#[bz,t1],Zx5,Zapa,v5,·,·,·,·,·],
σ=#[asc,·,v7,v8,·,·]/\·/\·,
(compPost Zw3 X.A ZlC · · ZanO C),
#[ase,Zac,ZQP],
(· c ck ze cb P0 aL aG),
Bool.eq_false_iff.mpr ·,
(fun u HK Q' hu sK kk=>·),
#[rF,ZpX],
(Zal:·),
#[Mj,Zmt],
#[aE,·,h2],
#[nW,(No · b)],
fun b o e n hx=>?_,
#[lu,#[yi,·]],
#[Cc,Zja],
fun h' st' sb=>?_,
(ZdH:Int),
(Zos ds:Int),
#[gN,ZL],
#[amo,0].push,
fun h' dd' hs=>h _ ?_,
fun b q=>?_,
(Zaiv).join,
fun y s11 zz=>?_,
(by rw[·,Zaks,·]),
fun h2 fl2 ups=>?_,
(by show ·;exact Zce),
fun b x e=>?_,
fun x y=>ZUa,
{ s1 with heap:=·,toks:=ZrC },
#[OR,(· e he h).2],
(ZbK+1),
#[a3,Zeu],
#[a3,Zx2],
Y8 (#[BE,·]),
Y8 (#[eA,·]),
PySem.W.noTabs ·=Zae,
ZSo<=ZbB,
#[dM,hv],
Zamh b ·,
(Zag g),
(aQI _ _),
#[bW,Zxv],
es++#[CL,0].map dZ,
#[dQ,hS],
#[ei,Zh9],
#[w',px],
#[g5,ZQn],
ZrA n,
Zcz hg,
#[kx,h.1],
Zep b=Zab u,
Dt->Zb3,
(ZajE l),
Zag (1+M),
Zgb<=ZbF,
#[Rd,"type.__getattribute__"],
[a,b,c',d],
(Ziz kp),
#[xU,ay],
ZaP _ h,
#[RM,Zao],
Zn5+n<Zlm+1,
(z.cps.toList.map ·).all,
#[s8,Zaib,·],
#[ER,Zww],
wpAny_formatField_int hd ·,
#[Sz,id],
(ZT _ _ (Zw b2)),
#[pr,ho,Zjf],
#[ch,n,e'],
Y6 (Y6 #[amV,h₃,·]),
#[FQ,bB.quad],
#[Tv,Zd5,·],
#[TA,ZDO],
(Ze1 ps),
(PySem.W.looks_clsIn X ·),
#[v7,jL,ZaM],
xs.all qT=Zae,
(Qn cn).1,
#[TF,ZDG],
#[TP,#[ahZ,ZDV,·]],
#[pr,he,ZhV],
(jg hu Zdg Zao Zv5),
(dm · Zak Zgg Zbx bZ ·),
(#[hF,p.1],Zar p.2),
#[amO,i<=ZaL->Zmo->·],
#[alV,x.ev.kp,k,·],
(Str×ZeY),
aO Zfu w K mg b · 1 Zp2 ·,
#[apI,Zl8],
(noEx b),
#[ch,h1,e],
#[c7,aXu aXc _],
Zcb ZvX A · (·) Zv4 s₄,
(aY (ZwB i)),
#[Oc,Zls]\/Zaqv,
#[FM,e1,#[s',·,·,Zan]],
#[arO,#[jZ,x.2,y∈L]],
(fun u:FP=>Zam_),
Ztm/\ZTJ,
(x,NameKind.free)∈·,
(b x hx).2,
#[Qi,Zay,Za1 ps],
#[Qi,ZdF,Za2 ZbJ n],
∀ f,· · ·=Zab ·->∀ (p:Addr)(H':Hp),·,
#[a_,aQH ·,(Zrh ·).2],
·-(638699622168397319)*·,
n9.some_of (v:=v) (o:=·) ·,
#[gd,ZdO<m+1],
∀ (s:Shared)(u:Value),ZBS s fd #[ei,[u]] [·],
(p.1.push d,true),
fun a o e n=>· a o · n,
(Shared.heap ⟨·,g,d,tk,os⟩),
Zar (·)=Zar 4,
(gL (pv 10)),
(ZQr nd).1,
Zd8<ZlE/\·,
#[gv,Zsv,l],
·*Zwo+·*ZCt,
(ZBM i ZmE),
ZvH a ZaK ·,
(ZQr nd).2,
(ZkB+Zs0*1).toNat,
aQT.mpr ⟨·,ZaA,·⟩,
#[ps,e.1,e.2],
#[pD,fK (aY es) ·],
#[aq,m,q,st],
#[anl,m,q],
(ZfY a:cQ)=· b,
#[mS,nwm,hm],
(.pl (ZrN ZTq)),
(#[aX,Zgo,a]+1),
#[g3,B.w,#[bW,ZFb]],
(Builtin.«zip.__next__» #[ei,[Zai z]]),
(Bz Zajh T.enumerate ·),
#[ee,Zd6,(∀ vs,#[T6,vs]),·],
#[pv,PE,elt,te],
(SP X Zav D),
[ZFu,#[bz,sn],#[bz,lr],·,·,·],
(a x o e n),
#[Uj,b∉wr,S],
(Ak ZaO h f cy),
(upd H3 a (.dK #[Ec,z])),
v=.bl Zae,
KT H kvs xs,
#[ci,1,·,ZaN,ZkP],
#[g6,Zdf,Zyf,b≠k,·],
#[FG,Zyb,w2,m2,·],
#[Up,S.tup,(by rw[z];simp[HA.fp])],
p.1∈L/\p.2∈L,
#[aq5,Zary/\Zarz/\·],
#[ar0,acc'[j]?,ZiX h' t x y],
vm ZwN #[NL,·],
fun ys hy=>#[aE,· hy hq,hx],
PySem.W.methodCall_KW (pl:=pl) · ht,
#[cB,ai (ao e' ·),ai (ao e' ·),e'],
#[akw,k2 b o b1 b2 ·],
StateT SortSt Sem (· ·),
hp (#[Dx,#[ez,·]≠ZcD]) · (Zamp),
(Zfo ck kdx #[arV,Zg4]),
[Zaf Za',Zaf Zcd,Zaf Zcm],
(k1 b o b1 z),
(vo ZFw ZTD Zac),
#[w_,(Zaf (rq (fV ·)))],
ZaiX (Za4 ·) · = Zca (Zab (Zf_ ·)),
#[gm,[Zaf ZcQ,ZR3,ZR2],·],
#[dS,·,Zba,#[dS,Zba,Zba,bp]],
EQ #[p3,q,_,·,·,fun r hr1=>?_],
n9 (ZMt f) (mA f),
∃ t,FK (#[Ek,·,·,·,s,H]) · t/\Zar3,
Un (kN ZdC) fp · H6 ZamD h',
⟨·,_,rfl,·,rfl,rfl,_,rfl,?_⟩,
[⟨Zab ZOJ,Zkg Zaqj cj cp,kp⟩],
⟨xs,xs[i],q,by simp[hlt]⟩,
fun c v _ q=>k c v q,
Zrt (ZN' (ZvU ZdR)),
ai (hm b _ q #[aF,z]),
#[pq,(Ib Zg4 #[aj,kp] #[aj,b])],
⟨_,rfl,_,rfl,_,_,rfl,rfl,_,rfl,·⟩,
#[Sn,·,Zj1,ZaL] (Zj1 ZaL ZaL hi-ZaqB),
aXi F.slot_str_split ZaqC F.entry_str_split (F.args_str_split_2 _ _) · ·,
#[au,ds[j]?,d1]->#[au,ds'[j]?,d2]->·,
fK ZcK ps=fK ZDP (ZOn i),
wZ b5.sm 8 f g,
#[FT,·,ZaqL,#[Us,I4,st4,hf3]],
#[arJ,ZdD,·,fl.1,fl2.1,·,ZNC b o hf e n],
Dm (s:=ZlI) e c · ZaY ·,
∃ ys,H2 a=Zab ZyA/\#[my,Zn9]/\#[o',#[g3,a,#[hL,ys,y]]],
#[kz,G,w,Zc5,m,Zyl],
(· ZCX Zbg ZlS Zfr ZbT ZsQ pm · ct),
#[Nv,hq g ⟨a1,f2,a2,a3⟩ a4],
#[C8,k l · _ hl ZFh ac ·],
(ZahY Zbg ZbT Zax f cd),
qH · ZT3 (Nn zB te q) ZaqK #[sB,Zac] Zaq0,
⟨_,rfl,_,rfl,_,_,rfl,rfl,_,_,rfl,rfl,·,?_⟩,
· x c m Zc6 arr Zrf Zah Zah ·,
· q loose XP YP l.row.toRowW d [] (fun f vs=>PySem.call f vs),
hbody A ZbA s H vs Q E · hsp,
⟨ea,C,od,·,B,rfl,·,?_,Ex · · · trB,·,·,h0B,trB,hE⟩,
(Zamp),
[ZgV],
[Zi3],
Zax<=·,
∀(_:·)(_:Zy6),0,
#[lH,#[amn,#[Qj,Zf3,#[f5,·]]]],
∀(ho:PE X o ·),0,
∀ b∈B1.fp,ZaqU,
(#[agJ,Za9]),
∃ o,ZGe,
#[aE,ZU6,·],
#[aE,ZasZ,·],
#[aE,·,hz],
#[Ma,Zanw],
#[agT,Zanw],
#[nW,ZaqP],
#[dG,ao e ·],
#[Of,·,tk],
#[cX,Zam hb],
#[aqO,0].trans,
#[ahl,#[qq,·]],
#[jR,ZTH],
#[aW,Ztp],
#[aW,ZaoJ],
#[T4,0].findIdx?,
#[bf,Zaz],
#[bf,Zau6],
#[wt,Zja],
(ZtE:Int),
#[amH,t σ H ·],
fun y=>ZVU,
∀ x∈P,ZatI,
#[akR,·,#[c3,·,·]],
fun j=>Zasy,
(show T=· from ty),
#[F0,·,its].flatten.toArray,
#[f8,ZatO],
#[e9,#[ri,e]],
#[GA,0].Nodup,
#[as7,0].Nodup,
bs[i]' Zah,
∀ {ns:Zbp}[17],·,
#[gd,#[FD,·]],
fun f=>ZGb,
#[iQ,2<=·],
#[iQ,·<=ZbF],
#[gc,∃ t,#[mM,·,#[FH,·]]],
fun _ σ H=>te σ H ·,
#[NN,#[bd,x.2,·]],
#[DP,0].worn,
#[atH,0].worn,
(Zhb).natAbs,
∃ p,ZGo,
fun r s₆=>r=.ok Zrk/\·,
#[ajx,Zauy],
fun n=>bJ f n g,
∀ (l:Addr)(as:ZeZ)(H':Hp),·,
∀ a∈as,Zm7,
∀ y∈ts,Zgb<=B,
∀ a∈ks,∀ b∈ks,·->a=b,
#[aq',0].reverse.lookup,
∀ (s:Shared)(us:Zb'),·,
(fun v _=>Zaus),
{ s with brk:=ZUC },
∀ b∈B'.fp,ZaqU,
∀ d∈l,d<10,
∀ e∈ds,e<10,
∀ w∈ws,Zhg,
∀ w∈ws,∃ ds,Zarm,
∀ r∈rs,ZV6,
∀ (fs acc:Zb9),·,
#[OP,ZcF],
fun a o e _=>· a o e,
x.1.names.length,
∀ [69][467],ZDD->·,
#[CR,ZakK],
∀ g∈L,ZdP,
fun _ H' g t=>ZV_,
#[al3,Zh6],
fun kb hkb=>Zh6,
#[alK,·,·+(·+0)<=_],
show #[oT,#[Tn,·]] by rw[·];simp,
#[alT,Zati],
∀ (ds:Zbp)(z:Int),·,
∃ (v1 v2 v3:Zgi),·,
ZCs ·=·,
Zbn Zln,
Zbn Tok,
Zbn WData,
#[aj,sl],
#[aj,c'],
#[aj,kp],
#[aj,l'],
#[aj,C1],
#[aj,c0],
#[aj,Zwv],
#[aj,fw],
#[aj,ZmQ],
Zfv+1,
ZOm+1,
Zai q.1.2,
f.nw.2.2,
ZMr z,
choose z,
so.mpr z,
ZO0 z,
SeqAt.EqAt.same _,
(PySem.F.typeCall_list_1 _),
(List.takeWhile_sublist _),
#[bc,ZBG],
#[bc,ZNt],
#[bc,ZajP],
Zaf ZiS,
Zaf ZaU,
Zaf ZVn,
(ZjM+1),
(Zwn+1),
(Ze8+1),
f.isP=Zae,
ZbL hT9K,
ZbL hrt2,
ZbL hT9L,
ZbL hU.1,
#[aR,e1],
#[aR,ZB1],
#[aR,Zalg],
#[aR,Zalh],
#[aR,Zali],
#[aR,Zalj],
#[aR,Zjt],
#[aR,Zty],
#[aR,(Zaq4)],
#[gh,Expr],
#[gh,HO],
(ZfY z),
#[aZ,ZlG],
#[aZ,lr],
#[lF,Zfn],
#[lF,rest.length],
#[lx,x=b],
#[lx,ZUU],
#[lx,ZU4],
#[cS,Zy'],
#[cS,ZVy],
#[cS,ZauL],
aD H ZTN,
#[fD,Zb3],
#[fD,Fin],
#[a3,ZVe],
#[a3,ZVZ],
#[a3,ZV2],
#[a3,ZWi],
#[v8,Zte],
(if ZVq then Eb.already else Eb.done)=·,
Y8 (by simp[h]),
Y8 (fun e:g=f=>·),
Zbs h2,
Zbs hn,
Zbs hl1,
Zbs hq2,
Zbs hq1,
PySem.W.handedIn ·=Zae,
#[c3,Value.builtin,·],
#[w2,ie],
Ziw UInt8,
(.dK xs),
(.dK ZEd),
i<Zfn,
i<ZiO,
i<Zws,
i<ZCH,
Za6 e.p,
b=Zax,
ha.2.2.1,
#[eG,vs],
#[eG,ZaiC],
#[eG,ZauJ],
(aY es2),
Y7 _ hoc,
Y7 _ htb,
b∉ZlM,
Zd5 b,
Zakf a ·,
ZUQ<=ZbB,
ZVS<=ZbB,
b∈ZjO,
#[dM,ha],
I1.list hq,
Zakt hq,
#[db,fin],
#[db,ih2],
(Zoe g),
(PySem.F.args_tuple_add_2 _ _),
(xy _ _),
(Dh _ _),
Zc (ZFr),
#[c4,ZkB],
([]:Zb9),
Za4 a::r,
#[me,#[Ta,0].1],
#[gq,Nat],
#[gq,Zbr],
#[gq,Zgk],
#[bW,Zdn],
#[bW,Zm4],
Zvx q,
#[dv,P[i]?],
#[dv,ZMH],
Zap Zh0,
(Zaf ZiU),
#[gt,Zv9],
#[bY,Zatv],
#[fb,Zhb],
ZM6 rfl,
#[mf,rs.take],
Zvv hx,
Zn2 hx,
Zcz hx,
0<ZNn,
0<Zou,
#[dc,cP],
#[eg,Zej],
#[eg,Zmx],
#[eg,Zql],
ZNj hi,
Zoi _ _,
ZDu _ _,
x∈Zdp,
#[cr,fun m σ H'=>·,·],
· _ (Zal),
ZMc b=Zac,
#[o2,wj],
#[ri,e2],
#[ri,hc],
#[ri,hd],
#[ri,hj],
#[ri,hr0],
#[o7,Zax],
#[de,ZNY],
#[de,ZM'],
#[de,neL],
#[de,oth],
ZakF hc,
(Zag i),
(ZlL i),
#[dQ,h1],
#[dQ,ho],
#[dQ,ho2],
#[fH," "],
#[b8,Rf],
#[b8,n_kd],
ZajU hb,
Zcw hb,
s _ _ x.h,
s _ _ x.f2,
s _ _ x.f3,
s _ _ h.1,
(ZiO:Int)<=·,
(Zw B.d12),
(Zap x),
(Zag x),
(ZBN x),
j<ZaL,
ZfT≠[],
([pa,pb]:Zbo),
ZvR Zar,
Zok Zar,
ZrW Zar,
wpAny_pyIter_list · ?_,
wpAny_isSubtype_exc · ?_,
n<=out.size,
#[kq,ZNw],
(Y7 _ ZhW),
(Y7 _ Zna),
#[hJ,Zol],
bF [x] us,
bF Zza us,
Gl X ZdE,
#[c7,e1],
#[Og,Zmu],
(I1.ok.hd hc),
#[fc,h3],
#[fc,hq],
#[fc,hq4],
(Zrz f),
#[g5,Zht],
(aY (Zyg)),
#[xe,#[Ta,0].2.2],
#[xe,#[Ta,0].2.1],
Zex ht,
ZdI ha,
ZdI hf,
ZdI hd,
ZdI hg,
ZdI hen,
#[dV,it],
#[dV,i1],
#[dV,i2],
#[kt,csx],
#[sh,900],
Y9 (ZaA),
#[ku,ZiP],
#[ff,ZVA],
#[hP,H5],
#[hG,C,xs],
#[hG,C,(bW f y fs)],
d6 k ZOj,
B1.mono s2,
Zvk->Zaa,
Zb'->Zaa,
a≠Zeb,
a≠ZeD,
(Jv (pv 1)),
ok.mono s1,
bk.mono s1,
#[kx,hl],
#[pg,(e+1)],
#[iR,ZdH],
(Zakp k),
#[ph,Zej],
trY b hb,
#[QB,ZF3],
Zer<ZbF,
Zd5 b=Zab u,
H2 b=Zab u,
#[oF,h1],
#[oF,(SeqAt.ne_of_list_tuple · ·)],
#[sk,Zak],
#[se,h1],
#[se,hd],
#[se,ac],
w=Zb6,
w=Za',
w=Zc0,
#[pn,ZCA],
#[agG,Zax],
(sQ c l),
(JS c l),
#[sm,Zak],
#[sm,Zao],
#[sm,Zc8],
#[je,ZlN,·],
#[je,Zkc,·],
kp.tup h1,
ZMX ha,
ZPP s3,
i=Zd8,
#[mv,ZauZ],
#[sn,ZMR],
#[gC,h1],
#[gC,S.c],
#[gC,hl2],
#[gC,hr1],
PE X e ty,
#[pq,[]],
#[cq,df,s1],
#[fI,s1,ht],
bf st ZGf=Za5,
ZrA i,
ZMX h2,
(ZfY w),
(htab w),
ZakD _ _ e,
#[h4,hl2],
ZCH<=ZbF,
(aQ6 _ z),
#[h7,Zzf],
#[amd,[]],
#[h8,rfl],
Zd8=Zfn,
#[my,ZaL],
#[Re,Zet],
(.bl Zaz),
#[pz,Zaj4],
#[pz,x.cps.toList[k]?],
#[pA,Ze4],
ZaP wl g,
#[mA,Zba],
#[mA,ZaM],
(B2.rw e he h),
#[xx,ZdX],
Zalu hl,
ZmJ::ZcV,
(PB c.C),
(PN c.C),
(ZrP fs),
#[lF,ZaL+·],
#[b7,H',s2],
#[b7,H',ZOi],
#[mF,Zakx],
-(2 ^ 40),
af (aq (bc ZtF)),
Zrq ZvX A · R s',
#[QI,Zq'],
#[QI,ZC5],
e0.hok.kept hk,
ZNj hk,
a<ZjM,
a<Ze4,
(· _).names.length<=_,
Zj0<=100,
#[sE,Zyj],
(ok x Ze),
(okn x Ze),
#[mL,ZatP],
Kp [d] H H',
Kp ZmZ H H',
#[xK,hlr],
#[xK,hl0],
#[D2,hb],
#[xQ,∃ t,u=· y t],
#[RB,ZbS],
#[El,Zgf],
#[El,"_law_rank"],
ZbB<x.n,
#[Rn,its],
ZamA y=Zab ·,
ZvM y=Zab ·,
Builtin.List.listSameRef · ·=Zaz,
s4 _ _ ac,
s4 _ _ hs3,
#[sL,ZcQ,·],
ao ac hh,
Heap.get?_update_ne _ _ _ _ ·,
ZB_ (Za _),
#[xU,Int],
Zamu s.gens,
Zamu g',
Ze7<64,
ZrD<ZbB,
#[Es,H'],
#[pQ,hx],
jK (ZVC),
(vs++ws),
Zlp++[d],
(bs++[y']),
#[wa,Zdw],
#[hL,Zwm Za6,Zek],
#[RM,Zfg],
Zbr->Hp->VK->Zaa,
#[pZ,ZasI],
#[EG,·,ZaiT],
ww.mpr hf,
Zcz hy,
niff.mpr nd,
#[vG,Ze5],
#[vG,Zgb],
#[m1,Ztu],
Za6 (Zjk),
#[akV,41],
#[au,ZMH,p],
s2 _ _ h1,
(es++ds),
#[aV,·,[·,·,ZdK],·],
#[aV,·,[·,·,Zr5],·],
#[b0,l,ZDI],
#[x6,ZamP],
#[m_,?_],
#[s6,h2],
#[s6,hp],
#[s7,Zaux],
#[p_,ZfQ],
#[p_,ZUK],
ZiX h' TO x y,
#[nc,Zao],
#[ER,#[EP,0].map],
#[ne,elt],
#[i7,p,0,#[fI,s1,hp],ZbX],
I.lstM hB,
ZoJ x.h,
Zep P0,
om.mp kn,
se.mpr kn,
#[R_,ZpX],
#[R_,ZDE],
#[qa,Zalm],
[Za6 td],
[Za6 tt],
ZrD<=900,
#[EW,ZK],
(Zamm oi),
#[qe,hw],
#[yd,Zru],
#[yd,26],
#[EY,ZamA],
#[EY,ZarZ],
#[bi,·,[·,·,Zr5],·],
#[Sa,it],
bF xs ZCO,
(Hx c ck),
ai (Zq lti),
#[kp,ZvR,kV],
#[tk,ZfO],
#[tk,ZRf],
Zg #[db,h₆],
#[qj,fp],
aD H1 H2,
Zwx e fs,
ah hp _ _ ac,
⟨o,e,ex⟩,
⟨o,e,ex.2.1⟩,
#[RS,Zp9],
#[ss,I m s₆],
(aI bz Zx4 (ak)),
#[yo,Zet],
#[Q4,Zd8],
#[tr,n_ml],
#[tr,n_mt],
#[Fa,ZaN],
#[Fa,⟨q,ZaN⟩],
ZwZ s03,
ZwZ s02,
Zge sT,
ZPP sT,
wpAny_formatField_str · · Zah,
c<Ze4,
ZjM<=a,
Zax<=a,
⟨sl2,e2⟩,
#[yw,ZyL],
t1 _ _ hFz,
#[yB,if neg then · else ·],
e.nfp b z,
#[yC,Zgz],
#[yC,#[bc,ZL_]],
#[ft,(bL B)] m=Zac,
#[ft,ZSB] m=Zac,
#[tC,ZdE],
ZakN (bS · ZhV),
#[amb,ZiL,es].any,
#[tG,nit],
#[cS,[kV p.1,p.2]],
vs=[Zai e,Ztf],
Za0 (Zaq8) as ds,
Zoo H' P pos Zbg,
#[yK,Zao],
· K Zi2 a xs,
Y6 (#[g_,hz,rfl,ZUI,?_]),
Za2 Zwd c',
#[ajk,UO.mp],
#[tK,hm],
Zcz ht,
PlainAttrs T,
os'=s.os,
seqIndex_neg Zah ·,
#[de,ZNY].1,
#[SR,Xb],
#[SY,Zax],
(Zes Zae),
(Zge s3),
Zd5 a=Zac,
#[SZ,ZVp],
#[SZ,Zauq],
#[lx,·<Zaj2 y],
#[yS,hm],
#[bj,z,hb],
#[bj,z,q1],
(tH Zd_ a),
#[b0,t,ZT7],
bf ZcK d=Za5,
bf ZyV d=Za5,
b5.nm e he,
#[hM,")",1],
#[pl,1,Ztc],
(i-j)*(1+t0),
Mod K mg ZaO,
fz c ck ze H e A D B st,
#[FC,ZTi],
#[FD,x.2],
cw (Zge ·) hq,
#[c',hsb.2].trans e,
#[FE,ZRN],
#[FE,Zas'],
#[S',Zv1],
#[S',ZrN],
#[S',ZCE],
(es++ZDN dZ),
#[y9,Zqf],
fA X.K C f,
(hU3 u (du u hu)),
#[Mo,Zyr/\Q σ' H'],
#[zb,Zaj4],
#[aob,ft.k],
Z6 (ZyM) h1,
Z6 (ZyM) h3,
#[FH,#[fb,Zax]],
Zcb Zw3 X.A #[ky,ZEL] Q E s,
(.xd [(f,Zs2)]),
(.xd [(f,y)]),
q3 y hy hf,
bB.rl ok,
bk.gk g1,
ZrW gn,
ZDp gn,
#[FU,?_],
(#[mi,ZV4]),
[Ze6,Zb5],
Zax<=t,
ZamP<=t,
#[Tx,hl5],
#[f7,fS,fS],
Zab (Zag z),
B7 ZlR ·=·,
ZT _ _ (Zw n),
PE X ZEL (HL i),
#[bt,x,o'],
#[bD,ZarZ,Ze2],
#[bO,ar ?_],
#[TB,Zax],
#[TB,it],
#[co,ZkI,o],
¬ p.1=k,
k _ _ z fun y=>·.tup z,
ZaC ?_ ih,
ZaC Zh0 ih,
tb σ H1 Q,
#[TO,Zw0,·,·],
#[TO,ZwY,·,·],
Zn5+n<Zlm,
#[pt,t,ht],
bR 9 H1 p f,
bR 9 H2 p f,
X.env.code=Zai c0,
ZajW=Zai c0,
#[TU,o9],
#[TU,vL],
(du u hu),
#[TX,∃ (its:Zb')(n:Nat),·],
(jg hu Zdg Zv' Zv5),
#[Gm,hx],
Y6 (aQs hTI rfl ?_),
#[mX,ZbP,ZdE],
#[mX,ZbP,ZiI],
(Zar p.1,Zar p.2),
CO Zcg Ze7 g,
#[E3,C,Zdk],
#[E3,C,ZiS],
⟨h',g,d,t,os⟩,
Kw h1 h2,
#[alV,x.md.kp,k,·],
(Str×Int),
ZNF (t':=tk) ZmI,
#[Gt,Zg],
Zj9 x m h,
#[Gz,ZgY],
#[g2,Zc6,ps,sp],
(qR ZaI i).2,
#[apv,ZdD],
⟨σ',H',Zajd,q⟩,
#[apC,fs],
#[apG,ZQh,·],
#[apN,[]],
x.mono s,
T.keeps ZOs,
hN.keeps ZOs,
ZajD gk,
Builtin.List.listItems ZcN,
Tok×Tok,
ZatA×Tok,
Zb_->Zx1,
ZmW->ZQE,
ZkZ->Nat,
ZaL=Zd2,
Zj'=ZaL,
ZBY=j,
[ZgW,Zl2],
[ZgW,Zalp],
k*Zer,
op≠.In,
op≠ZB4,
∀ ds,¬ ZxN,
#[alH,up],
-(Zp7:Int),
#[UE,IN],
#[CR,x.1]+1,
· h (Zal),
ZMt m=Zac,
(cne _ fw),
(cne _ fh),
X _ _ ho,
hk _ _ e1,
ZOs _ _ hC,
(b0::bs),
(b0::suite),
(Zaf ZgU::ZTK),
(ZaJ ZgU::ZTK),
(i+Zgb),
#[aX,b9,W],
#[aX,fV,W],
#[ao3,Zb z],
Y8 (#[bl,z (ZF q)]),
X.fn y=Zae,
qT y=Zae,
w.cps.toList.all eZ=Zae,
(aXv.mp h1).1,
(aXv.mp h3).1,
(ZoK h).1,
#[eG,[Za6 td]],
#[eG,[Za6 tt]],
#[aqc,xs],
#[aqc,ZbJ],
#[oU,op,CmpOp.In],
#[oU,op,CmpOp.NotIn],
bF ys its,
(cs++[l]),
(B.cs++[l]),
(rV c z),
(qc ks b),
Y6 (aQj #[amV,h₄,·]),
#[fJ,Zao,ZaD],
Kp fp H H2,
Kp fp H Zp8,
aD H3 H7,
#[U3,ZVu],
(xV cb n),
(sw cb n),
#[aiI,hqp,hb],
#[U5,ZU0],
bN X.K H a xs',
aU X.K H a xs',
(Zkf len).sum,
(Zkf Zak9).sum,
#[U_,Zfg],
Zev=[48],
(du u um),
#[sI,1,ZsU],
#[sI,1,Ztc],
(I2.env0.make C · []),
#[kS,b9,ZaI],
#[kS,#[mf,ZgM],·],
Y6 (aQV hS rfl ?_),
#[EG,·,(ZgL Zwv)],
ZUt->#[w9,cU],
#[Vh,hc2],
aU K H p ys,
Z3 _ hx1 rfl,
(xV cb 9),
(sw cb 9),
(#[aX,(ZCQ g).gs.map,Zar]:Nat)-1,
(#[aX,(ZO2 g).gs.map,Zar]:Nat)-1,
hf1.mono #[jS,s2],
(ZON #[Et,g.txt]),
([f].flatMap #[Et,g.txt]),
#[jd,Zp9,#[m8,hl1]],
bV 32 (aZ r)=(Zia,[32],aZ z),
r x xs H Q,
#[Vt,ZiS],
∀ f fd,#[aq,x,x,st]->#[g2,k,ps,sp],
∀ f fd,#[aq,x,x,st]->#[bi,k,ps,sp],
(fK ZcK ZCL),
Y6 (aQs · rfl (Y6 (wpAny_updateSeq_pair · ·))),
bN X.K H b xs',
aU X.K H b xs',
eE H a y ZmE,
#[Vx,ZFF],
HK q=Zab #[g0,Zj5,Ze3],
#[FI,y,r2],
#[FI,y,ry],
Sj g B e c od Zay,
Sj g B e c od ZTQ,
#[jX,(ZcW ZBj [] [] pos)],
#[jX,(ZcW ZBj Zdu [] pos)],
#[dd,cV,#[hT,Zdw]],
#[dd,cV,#[hT,Zatp]],
ZaP ZaI g=Zac,
(bh (#[FP,fR,hr1,·,·])),
(bh (#[FP,iF,hr1,·,·])),
#[VD,us],
Ad es ps L,
#[VF,mI],
uZ Zjh c0 P0,
aQ ZGy Zav σ H s,
#[VJ,ZdD],
#[VK,llr],
#[VM,(Zsi,y)],
b1 b o' e',
b2 b o' e',
OwnTail h bmB bm,
#[arp,Zek],
#[arp,Zag i 0],
#[VW,ZBL],
#[amG,ZBL],
#[V1,boot_list],
#[ar9,#[b8,a]],
#[Wj,x.un],
#[asg,kh],
#[asg,jk],
Zrm ZmI,
Ih ZaI,
s04.trans s5,
(∀ f,ZauR),
(#[rU,ZVQ]),
cQ×Zb_,
Zd2=ZagI,
ZoA=g.dt,
x.r.length=x.n,
[Zl0,Zr3],
Zhv<=15,
Zdm<=400,
ZUG<=640,
Zd6/\Za9,
ys[k2]? = Zac,
(List.append_eq_nil_iff.mp z).1,
(by rw[Zanv,q];simp),
#[asn,ZaqP],
(a::p)::ps,
#[gK,ZmZ,ZF5],
#[asp,ZCA],
x/ZjN,
#[eB,yP hg],
#[asC,#[lF,0]],
#[asG,B.rw],
(Zq hlt),
(df s12),
HH b=Zab Zat',
(gf (ZDO)),
#[au,us[1]?,Zay],
#[au,its.toArray[·]?,u],
#[au,Zahz,ZmE],
(code_list_new _ Zh0),
hC3 _ _ e3',
#[eE,κ,Zb_],
#[eE,Tok,Tok],
(sT _ _ hd),
(acc++its),
(ZVY++[]),
ai #[de,ltH],
#[b7,Zp8,ZOi],
#[oE,h,ne],
#[asK,nm],
#[asL,¬ (M+1=1)],
#[c3,Zf_,Zwe],
jr c ZlT,
s.heap.IsCell c v,
(eI ZaM Zc8),
#[asP,ys],
(xs++[x]),
#[dv,Zqo[i]?],
(aI uJ Zao (aj)),
¬ p.1=h,
oB _ (#[cE,jq,e]),
ao hd ht,
Y6 (wpAny_attempt (·)),
VF X es t,
Z6 Zab e,
(wr ZaI g),
B7 ZlR a,
Nat->Zbq->Zas9,
⟨o,h1,h2.1⟩,
Y9 (Zalb e),
#[kA,(ZNI ZiS ·)],
ZfX (Int×Tok),
vs=[Zai b,Zcs],
#[pt,T,hTT],
St 0 ZvC,
u1.slot b o e n hf hx,
#[h',Zam S.c],
dU ci a b,
#[jv,ZwT,·,ZQV,·],
(.pl (ZDu a b)),
#[v0,#[Q7,Zoa,it]],
#[amn,#[Qj,ZdF,#[f5,Zas3]]],
wM ZcJ Zfq,
Ztt=ZeX b,
cw (Zge ·) hl,
#[sT,ZbH,ZUN],
upd H l1 ZasX,
#[wa,#[yK,Zv_]],
#[mU,te,Zau_],
#[atb,tL],
#[qc,· fs=ZON ·],
Mod X.K ZcJ Zfq,
#[Rm,·].flatten.length=k*·,
Zdr k=os,
un.tbls b _ e1,
#[yI,ZaD,Zyz],
bN K H' a xs,
∀ o,Zdf->ZfO,
ZfX (Ziw Nat),
#[au,Zaoi[i]?,ZmE],
(aI cI (aI ri Zte aj) aj),
Zap (Zap (Zap Za8)),
iX H' d ZFF tv',
#[ze,Zcm,Zcd],
x∈Zdp\/#[aZ,x],
#[atl,ZyE],
#[f7,fS,#[pN," ",1]],
#[ato,hcd],
(Zag (Zos ds)),
(xX wok).2.1,
#[att,cdv],
unS.slot b o e n hf Za7,
⟨l,_,rfl,#[kv,ZyT,·]⟩,
pC dn nm Zdm,
#[aty,Zjy],
#[Gr,Zs9,hr1],
ZvH C ZdD h',
⟨H,Zg9,#[mv,AH r]⟩,
#[GC,C,ZCd],
#[cB,Y5,sj,Zpi],
(uv (gf es)),
(upd H' l o),
(hn g hg).1,
#[kH,cb,ZDg,·,Zma,·],
(#[fh,p.1=h,p.2,Zas_])=_,
(iH hu Zdg Zao ZaD rfl),
#[b0,r,#[cS,[·,Zaf ZPc]]],
#[atJ,(ZNT rfl _),·],
okU u (du u hu),
#[Wk,H,Zkl],
xY xs ok,
#[atN,ZBU],
#[atW,(x,u)],
ay.Good.up (n:=n) (f:=f) ·,
#[atZ,hp],
im (aR ZaI),
#[at0,Zmg%5],
Wv x y=Zae,
E #[aj,e] ZlI,
#[at7,h'],
w1 g (Zy hg),
#[at_,·,fun a ha b hb e=>·],
(ZrT (_++#[PA,ZDe])),
_::_::Zdh,
#[aud,ZfY],
#[auj,Zl9],
aQe ?_ hs2 rfl,
#[auk,b≠T],
#[lr,ZkV->Zas1->ZyE],
k l _ hl ZFh ac,
#[eC,uq H · (p::ps)=·],
#[auv,#[bc,H1]],
#[auw,HH],
#[auz,Zaul],
#[auD,Zatu],
b≠i1->b≠i2->Zd6->Zgz,
#[auH,ZcQ,·],
wW bs w=Zab e,
(gq Zak (gJ) rfl),
wQ f g (CO f N g),
#[auM,ZaI],
#[auO,htt],
#[auT,Zam5],
nm d z g hg,
#[au1,?_],
#[au2,r.drop],
#[au7,jT],
#[ave,(Se K lr)],
#[avf,ZatV],
#[avh,PySem.W.WalkO],
#[avi,(hr.deeper _)],
ZQk it,
ZalE s12,
· #[OV,Zat2 (aXM hv).1],
(#[ai_,ZatK]),
(#[sR,hal]),
Zix->Zix,
its=its',
ZiF=Zeu,
ZjN*·+·=Zwq*·+Zdq*·,
Zck=P,
acc.toList.length=ZiF,
[ZbV,ZEu],
e<ZbK,
t<ZamP,
ZCH<=64,
#[lr,#[cp,u]->·],
∀ b xs,#[cp,Zej]->·,
32∉Zia,
(iC e).2,
(Zrh hc).2,
(h u Ze).2,
(aS ZnU w).is,
⟨·,#[cn,Zrb],·⟩,
⟨·,Zx',fun k hk=>·⟩,
⟨#[aE,·,h1],#[asm,·],·⟩,
(Zac:Zgj),
fun b=>f b == n,
⟨d,hd⟩,
#[aE,ZR,#[rx,0].1],
fun c v hc r=>k c v ?_ r,
(fun b o _ hb _ e n=>· b o e n hb Za7),
(Zcw z).elim,
st.1.elim fun old he=>·,
(Zex hp).elim,
(no vs H Q E h).elim,
#[cX,ZDo (· b hb)],
{ D with nx:=u D },
#[aW,(a::b::r)],
#[aW,(b::r)],
I2.kept (t':=ZrC) ·,
∃ x,#[dv,ZNo]/\·,
#[akd,k it Za7 _ st],
y%ZdH,
(h.push #[Qj,Zf3,rest.toArray]).push,
(fun b q hb z=>#[c',·.2].trans z),
fun g=>#[U9,g],
#[rI,#[o1,he,ZaA]],
#[B8,ZT _ _ (Zw z)],
#[B8,#[o1,z,ZaA]],
· #[Cv,h w #[dM,hw]],
#[OV,h v ZasO],
fun b _ _=>noA b,
fun _ H'=>∀ x:Str,#[mq,x],
∀ [333],ZfS->Zatq->·,
∃ ob,·/\ZaiM=Zac,
#[e9,(Qn 0).1],
(aR l).Nodup,
(cJ f g m).Nodup,
· >>= fun cs=>Zca cs,
fun p=>if Zm9 then (p.1,m) else p,
· (p:=Zatx) (r:=dk r) ·,
if S i then n else n+1,
(1+t0).natAbs,
(ZgM N).find?,
if · then 1546275796 else #[cx,·,#[a3,·],#[a3,·]-·],
∀ (w:World)(h:Heap),ZVV->#[jh,0].In h,
∃ w∈ws,∀ ds,¬ Zarm,
fun acc p=>acc++·++p.cps,
#[Cz,⟨#[EX,1],ZC9⟩],
∀ j,ZaoT=Zae↔·,
∀ [237][283],·->we · g os k=·,
∃ z:Str,x=ZcL/\#[sh,ZbF]/\·,
#[rR,ZsG->∀ p∈e.r,Nm p],
∀ (w:Str)(H':Hp),·->ZbU->#[mq,w],
(fun H=>qr H c1 ·),
fun a H' g t=>i _ _ (s.nf a H' g t),
fun h n l ps r=>· · (NF _ ·) r,
∀ [467],Zmr->ZiM,
fun H' s=>· H' (#[EI,Ri ·=ZbC ·]▸k H' s),
fun t2 h2=>#[nb,fun t3 h3=>·],
fun a o z n=>#[Nz,·,Zqg,z],
#[Py,ah hp _ _ y],
fun b o z=>up b o · (ao z lr0),
show #[lB,(Zj8 (Zhz g)),ZcQ] from ce,
show #[lB,(Zj8 (.go g)),ZcD] from gc,
show #[lB,(Zj8 (.go g)),ZcQ] from ge,
show #[lB,ZTc,ZcD] from ec,
show #[lB,ZTc,Zhu] from eg,
fun z m h=>⟨ZVv,Z5 _ h⟩,
∃ a b,f=ZDv,
fun e n z=>#[UA,·,n _ ZGs],
(PM f)[j],
(FC Zea),
(ZMB r2),
(P.zip vs),
(l.any ZV8),
(ZOL hjl),
(ZalC kg),
(ZCQ ZTq),
(ZFW ZVk),
(Zfs #[Sz,ZjU] · ·),
(· (ZDr s4)),
Zk (Zaq4),
(dk (p::r)),
#[au,vs[11]?,#[aj,P]],
Nat.le_mul_of_pos_right _ e2,
Y8 #[Su,Zn8 z],
#[bN,_,#[aE,·,·]],
(ZNu · · (·) ?_),
X.env.frame=Zab Zd3,
#[c2,α,β],
#[c2,Int,Int],
(hd0::hdl),
(Zal9++gn g),
(aZ z).map,
(ZlJ d).map,
(AX ml).map,
(#[yd,4] ZVO).map,
#[aQ,m,#[Uf,ml]],
#[aQ,dx,ZF_],
#[aQ,nm,ZtD],
aM (k _ _ s1),
#[aX,ZcZ,fs],
PE X Zn_ tv,
PE X f tx,
PE X e1 t1,
#[b7,Zarf,#[asF,Zaj5]],
#[oE,(ZNm (ZFr)),·],
#[fD,Zb_×Zb'],
kvs++[(k,v)],
(hch _ z).2.1,
#[bt,d1,Zc5],
(·)=fun m=>xs[i+m]?,
Y8 (by exact Zo),
Y8 (#[Su,z.2]),
#[bD,Zd5,ZVH],
N8 z=Zae,
((·+z3)-5843264246394176785560967236497869100),
#[ed,r,#[aR,ZbL hr2],·],
vs=#[sF,g],
#[oQ,Zat1,#[fJ,·,Zba]],
Zb (#[bl,· (ZoC q)]),
#[oU,z,x.1],
Q (Zag (if · then j else i)) H,
Q (tv x.w) H,
-8589934592<·/\#[yQ,·],
(jr c ZlT),
#[co,b,a],
#[gm,Zare,hT],
#[bj,l,Zy1],
Zj'=ZaL->·,
PySem.W.set_plain X J · ·,
#[bb,ZDw,·,ZTW,·],
W m σ H,
x::y::rt,
ZB5 a=Zab ZT5,
PySem.W.tail_of_in X ht,
#[cr,Zaz,ZaA],
#[cr,u',r'],
#[cr,Zyx,rfl],
(B7 ZlR a),
(.UnaryOp · a pos),
#[bZ,#[qh,c]],
(ZiA ZT5 #[hD,Zht]),
·-Ztg=ZCI lo hi ·,
#[lx,e.w=w],
ZaJ ·.word=ZaJ (ZbC Zb6),
Zag q.1.2 q.2.2,
ZaC e r,
ZaC h t,
ZND b o e ZatD,
[Zai e,ZcL],
#[hJ,#[hL,xs,y]],
#[fJ,Zv_,Zv_],
#[oX,dP,(eI Zak Zdw)],
(Zq (aXd _)),
#[b1,"KINDS",kd],
#[vY,(setAttr Zg4 · v)],
#[ami,t,ZbJ],
#[dU,a,b],
#[dU,0,R.1],
#[dU,ZUW,fL P w Zpw ·],
#[eI,ls,ZT1],
#[g8,z,x.1],
(Zi0 acc g),
Zca (Za5 Zrk),
Nt asc a,
(p.getD i 0),
#[pd,H',ZRf],
(ZalD #[cj,ZaqF]),
#[el,room,ds],
(bf ZcK d),
(B0 cF d),
#[Bi,ZGa,Zfw],
(ZjW e env),
(ot e (Zw ne)),
#[pj,#[yO,Za5,·,s1]],
#[aW,ZT4]=n,
#[aF,nS (W.sub _ z)],
PS X (.Return · pos) ·,
Zd _ (ih h),
i8 H l ds,
(aI OK aj aj),
#[pl,ZbK,12],
Zamr v T,
y∈qc (tH c x) b,
·<=Zki/\Zki<=·,
lk x c h,
StrLaws.subAt_one x c k,
#[fN,Zcc,(Zcc-(e+k)),·],
(bh (ka · Zbx rfl bZ #[hT,Zdg])),
#[hY,Int.ediv_nonneg,q0],
Q (!c) H1,
#[jg,(dm · Zak ZgZ Zbx bZ ·)],
u1.tbls b ps q,
sl1.2.2 b o q,
(nt b y q),
aZ Zp5=[32],
#[ps,b,a],
#[ps,ZkI,o],
#[ahr,op,r],
(B.rw e z h),
Lc g rfl,
NO r f.1,
(x::xs2).map,
#[D4,Y1,d],
#[h7,[Zcs,Zas4]],
#[pt,t3,ht3],
#[h8,(up _ _ · llr)],
(List.map_inj_right (·)).mp Zcl,
v=Zai b,
Ee ZaI d,
(ZB2 xs k),
(ID xs z),
#[py,l,ZatQ],
eE H w · (Zab (Zar ·)),
#[Ro,pos,ZauV],
ZDA y.2 y.1,
(FA K P0),
V->V->Zb3,
#[mD,#[kp,kH,d]],
Za0 (Zaq8) as Zlp,
∃ m',m'<Zy2/\_,
#[ajm,kL,Zl8],
(aR ·).map ZeX,
#[pI,hlv,hz],
ZvW ZnU w,
gI w=Zaz,
Zag (g i),
HT K mg c,
#[sI,ZbK,12],
#[id,T,r],
#[am0,b,k],
Zcw (Zag' b hb),
#[R7,0].mono s,
⟨t,#[cE,aQ1,Zs hi]⟩,
(#[aX,qK,g]:Nat),
#[mM,fI,oI],
#[kQ,yh,xh],
#[kQ,yl,xl],
oQ Zck X.w H ·,
len _ _ _ _ hsp,
#[Ee,kh,vs,Q,E],
kk H' s',
#[pR,Zd2,ZiO],
#[pR,a+(e-a),e],
(ca #[oX,fm,Zl7]),
ZMt f=Zab v,
aQ X Zav Zat6 H s',
(aI bz Zba (#[apI,·])),
(· ZQ6 0 it acc env),
#[EC,ZV7,#[Gg,0].2],
(Zaf f Zb4),
(Ztv f hf),
(x.gk g t),
(ZNT rfl 0),
(p.getD j 0),
eQ (p++r)=p,
PT X c tc,
Heap.get?_push_ne _ _ _ hb,
#[bb,·,14,[·,·,ZdK],·],
Zhq a o hk,
#[D',·,ZGl,(· td ty tx)],
#[sW,#[dN,#[atk,0].word,Zc0]],
#[xz,ZxX,ZxX],
#[xz,ZE',ZE'],
#[xz,ZFK,ZFK],
#[x_,a=c,0],
bw kL Zajh T.len Z0 Zl8,
qX Pi.good Pi.of,
(Li cb cU),
zF d _ hd,
Zxd=ZfY w,
#[fH,·]++toS Zkk,
#[bi,14,[·,·,ZdK],·],
#[EZ,#[Wg,·,·],(ZcW (ZeT · p2) · [] pos2)],
ui X.K C fI,
HT X.K ZcJ c,
#[RS,#[Gv,s2]],
(uq H1 ts (ZCC ys)),
(okU u (du u um)),
ZDj #[jS,s1],
r.repl k ry,
⟨q,Zd _ hq,e⟩,
#[amO,i<n->Zmo->g (Zag (·)) σ H Zam3],
#[j3,(fV ZaI)],
Zdr i=x::Zdr (i+1),
FK X Zfr tb,
#[tz,Zanh,ZCa],
0<=k/\k<62,
0<=l/\l<62,
#[ams,r,Zrv],
#[dU,Zab (i,t),rfl],
aZ #[da,·]=40::(aZ ·++[32]),
([],ZcY 1),
R (.ok (ZfZ res)) ZlI,
#[xb,(W8 r t)],
aU K H1 a xs,
(· Zav s σ H (fun v H'=>v=·/\H'=H) I Zh0),
(El z lo hi),
(gu (oz hu · Zao)),
Un fs [] H H' h ·,
#[yO,·,by simp[dF,ea,eb,hab,uv,hmt],s2],
Zwy · u (kn u um) ·,
#[aol,Zy0,#[h',·]],
#[amH,ta σ H #[Cu,·]],
(12-Zzl).toNat,
∀ f fd,Zaub->ZaoQ,
#[Ol,#[asM,Zjh]],
#[Ol,PySem.W.codeHdIn Zjh c0 P0=Zae],
(fK st ps),
(ZrE st Zjm),
(upd H4 s #[hL,(ZBt Zam'),Zek]),
(upd H4 m2 ZWd),
#[a3,sIx n n hi],
1<=Zer/\Zaqk,
#[yU,#[Wb,da,Zak],·],
Y6 (aQV hS1 rfl ·),
Y9 ((h j).mpr z),
#[b0,t,#[cS,[·,Zag ZSd]]],
(fC w gs).map,
#[ahh,∃ i:Int,x=Zdy/\ZahI/\·],
b∈Zdp\/b∈ZyN\/b∈ZV',
⟨as,·,#[vq,hp,fun t x e=>?_]⟩,
#[aW,(l.foldl ZQq acc)],
#[th,aO,ZDw,·,ZTW,·],
#[Th,hlt,n],
#[Th,ZauW,ZaL],
#[Th,⟨q,hlt⟩,Zd8],
#[zd,#[th,aO,·,ZdX,ZFV,·]],
(PL cb cU cL),
j3 bs w=x.r,
vg B ZEx e c od ZaK,
#[zk,ZVz,ZDg,·,·],
ZV ZBF I.sz,
ZamF · it v,
⟨kdx,x,kp⟩,
(ZgM ZjM).filter,
(Zag (d7 c)),
#[zg,·] (ZMd b o e n hb hx),
List.getElem?_set_ne (Zw hj),
VC X id r,
#[F1,aQc,·,m+1≠0],
ar #[pM,fun l0 hl0=>?_],
vs=[ZcL,Zag a],
Zb (#[bh,¬ (ZV3),#[bl,· ·]]),
#[bZ,h (ZL8 z)],
(up _ _ hS1.symm z'),
(ZlJ d).map Zar,
#[F',u,u],
#[mj,ZlG,_,·,q _ ZanV],
#[Gk,ZQn,h1],
Ov X G rW #[ew,#[pc,uE]],
Ov X G wP #[ew,#[pc,Bu]],
pC di nm #[kO,es,ZDN dZ],
#[amO,i<=Zd8->Zmo->ZS_],
#[T8,RD X.K H n ZbP e],
#[oQ,#[h2,jC,#[gt,ZaD],(iI ·)],#[atw,·,Zyz]],
Za0 (At H') · xs,
Za0 (bR d H) ps fs,
#[Uf,(wU ml d)],
#[ai9,s _ _ h,ZTH],
(.Slice lo hi Zac p2),
(Ak Zfq ZaK f cy),
#[apz,H' a=Zab Zaoy],
ZmW->#[U2,ZPc],
o8 · #[bf,#[pS,#[auu,ZUJ]]],
Iw es ZCL,
[Zhb,(b:Int)],
[e,e2,e3],
[e1,e2,ZFp],
⟨ZCO,r,·,?_⟩,
#[apU,#[ho,(ZaP · g)],Zoc],
#[Uv,Zqm,·,(fK ZcK ps)],
#[Uw,fun lr hlr=>?_],
#[ahp,·,⟨·,H,Zg9,Za8,h⟩],
fun (m:Nat)=>xs[Zat9]?,
#[N4,r=w/\#[m0,r,s']],
#[N4,r=Zay/\Q · s'],
#[UD,List.length_eq_one_iff.mp,·=1],
Zbp->Nat->ZeF,
ZVL->Nat->ZfX (ZmK×Zb3),
Zag (Zos ds),
PG X tg g,
PG X ZEL (tK i),
uZ K c P,
uZ K c0 P0,
(upd H5 lq ZV0),
kindsL.all (fun s=>·)=Zae,
Y8 (#[aF,kn z.1]),
Y8 (#[bl,z ((h j).mp q)]),
ZakO sep ts=Zae,
seqIndex? i ·=Zab j,
(#[ako,·])->(ZauA)->·,
0<=k/\k<m,
· (bS ZkM fun c s1 zz=>?_),
((ZwO ·) b o z),
ui K C fI=Zae,
RD K H ZdX ZbP (.sq · ds),
⟨z,H,I,rw',q⟩,
⟨ZcL,H,I,ZGd,q⟩,
Ea H' t x,
At H' v x,
#[w4,(Zahq · u ZbP)],
#[EG,h',(ZgL Zax)],
#[p6,H1,lr,[]],
#[sW,#[dN,(Zak3 g).word,Zcm]],
rd l=Zab (a,r),
hsB b o' e' ?_,
un.there b o' e' hx,
#[Vs,Ztf,ZPc],
Zwy Zal6 f kn ·,
Y6 (aQs hS rfl ZkY),
#[kN,_,_,rfl,·,?_],
k b u (hb b n) q,
⟨s,_,_,rfl,rfl,·,Zg',?_⟩,
#[VN,ZoN,ZeW,·],
(Zajc Zav (Xe X Zav E)),
#[ara,aQc,Zass≠0],
#[ara,Z5,ZdO<ZdH],
#[wu,i1'.at,up _ _ hS2.symm e],
#[wu,i2'.at,up _ _ hS3.symm e],
#[lF,Zgb]/\k=((Zgb:Int) != 0),
#[lF,y.size]/\k=((y.size:Int) != 0),
#[art,H,ZaK],
#[art,H',ZdD],
#[amK,e2,p3],
#[arP,w,ZQn],
#[arP,z,ZOU],
#[arW,·,(jV Zar4 q.1).map],
#[arW,·,(fC Zar4 q.1).map],
#[arY,#[aua,ZCL],·],
#[ajp,cs,UO.msz],
#[ar5,x.td.kp,·,Zap],
#[We,he,Zasz],
#[ar6,tg,sc],
#[ash,#[jj,kn,se.mp]],
s.heap.IsList d ZnV,
vt ZaK I.big,
ay.dtL_inj fs gs ·,
Lw PySem.F.slot_dict_getitem.lookup hs ·,
Zyf/\b∉ZyN,
[Ze_,Zgf,ZC1],
#[a3,Zfz]*((Zfz:Nat)-1),
[ZfB,·,Zr1,Zl0],
#[bl,#[fP,hnr,q,ha]],
(ZgM (ZUH)).map,
⟨·,h1,h2,fun b o e n n'=>·,·,·⟩,
⟨#[bf,Zad],Zm3⟩,
(Zp7-1)/8,
∀ us:Zb',Zd2=·->P us,
#[cB,aXH,ZlU,Zce],
∃ q,#[ff,ZVE]/\Zatd,
(List.mem_erase_of_ne (#[bh,·,·])).mpr,
#[asA,eh2,sz],
(by rw[ac,uL,Zp];rfl),
fun hn=>Ov X G · #[ew,#[sJ,·,Zah,ZS5]],
(Pj a4 b4),
ZbL (#[ch,nwt,ht]),
Zln->Zln->Zb3,
P.of.1 _ (ZNm (#[bm,·])),
ar #[kN,p,f,Zqb,hf.2,·],
#[bN,hns,fun i x v h1 h2 h3=>?_],
#[aQ,ZeD,#[E8,(Zxc,Zar e.n)]],
#[Vf,Zru] (Zaix)=· id,
h _ _ ZsS ?_,
b8.extBut _ _ · (b7.extBut _ _ · ·),
#[jX,(Zkg (Zaf b) j p2)],
k1 b o b1 z,
Zb (#[bl,e (ZL9 q).symm]),
#[bi,2,ZfC,(· ck)],
#[cr,ZasU,PySem.F.args_list_init_2 _ _],
Hp->V->α->Zaa,
0<=v/\v<ZjN,
#[gv,#[hF,x.1],a],
#[ahf,td,∃ a,x=ZbV/\W0 H1 a/\#[mU,ty,·]],
(gB ZgA ZlO g),
#[fN,ZVj,Zdm,i],
(aI bz (aI bz #[mP,(pv 11)] (ak)) Zx4),
Za0 (fun a (r:Zbp)=>HH a=Zab ZUV) as ·,
bF (ZDG Za6) us,
Zd4 b _ ZaoR z,
#[bd,(ZCo Zp5 ·),Zak_],
jK (#[anu,xl,xh]),
(gq Zao (bM oW Zajh ZPm aXj ZGw) rfl),
aQu rfl (aQt (aQf ·)),
#[EU,lA,Zsq,S.w],
#[yP,hl2,l,hl2,·],
· Ztq hd ZB3 ?_,
∀ x,x∈out->∀ y,y∈·->R x y,
upd H d u b,
r6 P.cl hg i,
(ZsG->∃ l,·)/\(ZbB<e.n->·),
⟨_,q2,·,rfl,rfl,·,·,?_⟩,
#[mj,_,_,I.lnew (t':=Zb4) · ·,q _ I.fresh],
aQw ⟨H1,I1,q⟩,
(cE (bc (eI #[mA,·] Zjr))),
#[atB,ZBp,wC],
aR (put Zxv b ma),
ZaiU Zw3 h #[i8,·,·] ·,
aU K #[bt,w,#[bW,·]] t (kH (Zoi a b)),
#[kA,#[PB,#[g8,#[xP,t],ZjQ]]],
eQ l=ZasY++eQ (ZcY n),
#[atG,#[atc,[acc,x]],fun _ s₅=>#[ss,I m s₅]],
plainObj_wpAny_Assign_Attribute (bS #[ko,hv] ZhV) hs,
rV 32 z=w0::ws,
(En hl hd (Zaik k rv) dd'),
[ZeX (j4 i c),ZeX (j4 j c)],
#[atS,hil,hx],
#[atU,Zrs vs k,·],
fun t (p:V×V)=>uq H ts ps t=Zab ZT7,
#[atY,t,(· a o e n)],
Zbw ((· Zam')++[Zek]),
(· st (Zoi a b)),
vo xs · Zac=ZagO ·,
Zro (fun b o q=>Zmt) Zbu ⟨ZGn,·,#[VX,·,·],#[ci,_,Zct,_,rfl]⟩,
#[at5,e,f],
#[fh,g=f,u,mA g],
#[auE,nb,nbd],
#[auF,(#[atg,0].trans ZauK)],
ZBS s fd · (ZvJ us),
#[gO,C5 c.C H p A ZVi H'->Zxu],
(Bx rfl · Zajh ZC' Zajh T.reversed),
#[au8,unS,h0B],
#[avg,sk,ha],
#[aoz,0].getD rd,
h.mono #[jR,k.tup z],
(fun z:Str=>ZaJ z),
(zO (i:=6) db.nd rfl ZM7),
toS (eQ (ZcY 1))=ZaG\/toS (eQ (ZcY 1))=ZaU,
#[arX,Ze2]\/#[arX,Zf4],
vy=Zag ZUR,
nf ts dT,
Zamr ZbP ZiI,
pw rv rv',
[Za6 ea,ZsD],
bK p.1/\bK p.2,
ZVo/\d=.at v,
[ZwD,ZwE,ZwF],
[Zl3,Ze_,ZPj],
[ZPd,ZfB,ZeV],
#[gO,#[xC,H',·,·]->(#[ef,Zdf,w,b≠m->b≠ls->ZfO])->·],
∀(h1:·=#[kJ,z1]+X1),0,
X.env.qual++ZCX = Zbg,
⟨H1,I1,q1⟩,
⟨ZOt,Zasx,hd⟩,
⟨Zaw,Zaw,Zaw⟩,
#[cx,a=b,Zod,#[apU,·,Zlq]],
#[aE,hj,aN (j:=j) (#[pQ,Zs jl])],
∀ b o u,#[xJ,Zyj,Zyj],
#[aF,#[h1,h,z,Ze]],
∃ m,n=m+1,
#[dG,#[aqO,0].trans ZhW],
#[c_,e1,vw · _],
#[jT,∃ o,·/\∀ v,Zhm≠Ze2 v],
∃ xs,#[ff,#[VP,ZdJ,xs]],
#[ak1,#[aE,eh2,(ZT _ _ (#[aF,hb Zaie])).trans e]],
∀ b:ZeY,b∉·.ex,
∀ b o',Zd5 b=Zab o'->Zet b=Zab o',
∀ k:Zb3,(·)->#[yB,if neg then !k else k],
· (p:=#[gv,#[Uu,x.1],c]) ·,
∀ y∈names,y.2=Zf4->∃ c,· y.1=Zab c,
fun k=>S k||#[lx,k=i],
(∀ y,· y=#[lx,y∈·]),
∀ b y,#[cp,(iU y)]->·,
∀ σ HH,C σ HH->P σ HH,
∀ ps,o≠Ze1 ps,
∃ e,e<10/\c=e+48,
∃ z,#[gy,wl,·,z],
(Str.cps ZrQ).toList,
fun c o e=>#[tb,out c (ZNG c o e).lt],
fun h u hu=>h u (· hu),
∀ [39],(Zasj)->· xs=·*ZaL,
fun h w hw=>· (h w hw),
∀ [422],Zyb->(∀ kv,o≠· kv)->b≠·,
fun a H' g t=>eF H' (sd.nf a H' g t),
(fun f hf p H5 s5 hF=>#[yi,fun t5 ht5=>?_]),
show #[lz,#[dN,(Zj8 (Zhz g)),ZcD]] from cc,
show #[lz,#[dN,(Zj8 (.go g)),Zhu]] from gg,
show #[lz,#[dN,ZTc,ZcQ]] from ee,
∀ z m:Int,0<m->0<=z%m/\z%m<m,
(· fun g=>Dt.at (Zag g)),
(Zag ZE_ Zb4),
(UW Zga Ze6),
(Zoi e.1 e.2),
(oA rfl ZDs ·),
(· #[avd,0].kindOf Zaq' ZyR),
ZcY n=c::ZcY (n+1),
Zhr a=ZEu,
N.take P.length=P,
typeOf Zatf=Zca (Za4 "method_descriptor"),
(Classical.choose_spec (ex j)),
Zlo->Zlo->#[auG,Ziw,Zln],
ZGc/\Zaqk/\#[OP,·],
ZQq acc x=·,
ZV ZasR (Zasu),
(upd Zauh B.h #[bW,Zzj]),
· (intBits_le_64 h1 h2),
#[aQ,lr,#[g0,ZgR,g]],
#[aQ,Zhx,(.dK (ZalD #[cj,#[gv,Zxc,e.l]]))],
k · (ZgY s2),
#[lx,p.1<q.1\/(p.1=q.1/\·)],
· xs ts (ZvI),
mkStr (ZOX x · ·),
hh _ _ (sm _ ·) (sm _ ·),
kp _ _ hq2 hqs,
(#[xP,C]::bm).contains ·=Zae,
k · (#[aE,ne,·]) (·),
⟨_,rfl,·,_,rfl,#[kv,Zbs ·,·]⟩,
Ztp++r.take j,
(cne y c e),
(sb2.2 b n1).trans ?_,
#[hC,aZ,gn,g],
#[hC,g.zip,Zdr,1],
E ZhS od H,
Zap ⟨·,·,·,·,fun b H' nd k k'=>?_⟩,
(∃ o,#[bc,ZrJ])\/b=f\/b=cy,
(ZrT (_++[(·,tv ·)])),
upd · dx (.xd [(f,Zs2)]),
(RD.tup (ZbL e2) ·),
defaultsOf ZlS ZaS=([],[]),
(bW Zkc a []),
⟨_,rfl,·,_,rfl,·,_,rfl,?_⟩,
(ZMy elts kk pos),
NV l c k,
#[au,ZahR K #[aj,·] ZNy,Zas6],
0<=r/\r<12,
#[mh,·,ZaK,b,v],
(ZB2 xs k).map,
(Zaj1 z y).map,
d/4%(Zj0:Int),
k+m=Ze8+1,
· Zn6 ZVR m p=_,
· (fun a e=>a*10+e) 0,
ih nd2.2 h,
#[cT,HK,T,Zare],
(Zfs #[aj,fI] #[sB,Zai e]),
R x y H2,
Y9 (#[ajb,#[gs,#[xP,T] != ZjQ]]),
wW bs w=Zac,
#[aX,toS,Zkk]<=150000,
uZ X.K c0 P,
#[QW,it,t,i],
#[jc,cs++ds,#[vs,pc,·,#[UB,pd,·]]],
Y6 (wpAny_lookBehind hoD #[bj,hdD,pastItsLine_dict (ZV hcD ·)] ?_),
Y6 (aQs et dt ?_),
(c5 #[dS,Zba,Zba,#[auP,Zba]]),
ja C H k A s,
#[xr,Bw,#[ajm,Da,(cE (·))]],
· X.K X.w.params a xs,
hap t (Zy e),
#[sp,.Dict,[],[],·],
#[jg,(dm · Zak ZdL ZoW bZ ·)],
#[ji,ZgU,ZUM,ZUL],
wr W x=x,
eE H B.w ZasQ ((ZaP ZaI g).map Zar),
bM gi Zajh T.tuple aQR ·,
o9 c x y,
_<=ZUY*10 ^ 85,
(Z3 _ hS1 rfl),
#[pF,(ZamM env ZUF)],
PI X tg (ZcW (ZeT Zvd p) · [] pos) (· ta),
bJ f (i+(j-i)) g=ZGj,
(· pos Zav s1 σ H1 _ I1 ·),
#[xD,·,(xu.mp (#[aot,aR (jt · g)])).1],
· (kd/35) (#[Qm,·]),
#[bi,(n+1+1),[ZdK],(· (n+1))],
#[QQ,#[s8,id,(v::us)]],
ja C H' k A s,
((PySem.W.clsIn K ·).any fun cd=>oy cd.mro)=Zae,
(Zab (Zn4 ZasW ZaS)),
#[bd,(Builtin.Str.glued sep ·),_],
#[bd,(· w z),ZvE],
(bM kM Zajh ZC' aQZ ·),
DH · k m (r (List.ne_nil_of_mem he) _ _ ·),
(ea,oe)::(X.pn++Zav),
(.dK (Aq kvs k)),
#[pV,v<0,max (v+Zbk) 0,min v Zbk,·],
#[ahe,t,fun xs H1=>#[TX,∀ p,#[pA,p]->Q ZfL #[eI,p,·]]],
(· Zav · σ H1 (fun v H'=>v=·/\H'=H1) · Zh0),
#[vG,#[hC,toS,eQ,Zgp]],
∃ xs,Zaut/\h.DictOfH ZSK a xs,
List.filter (ZRU) [g]=·,
#[cS,#[kF,w1,m1,Zai l1]],
#[aV,·,[Zec,ZwL,Zl2],·],
⟨_,rfl,p,n,·,rfl,hn,·,·⟩,
(dm c8 Zak Zc1 hr bZ ·),
#[anE,J.stop,J.go,J.yld],
hN σ3 H3 n3,
Zrx j t e,
(os.drop (k+1-j)),
PySem.W.takerIn K C ·=Zab Zac,
#[Si,p,ZeH,Zbe p _ hH],
#[Sp,Zd8,Zd8,Zd8],
allEq ks hk Zah,
∃ o,Zet e=Zab o/\#[xM,Zaka],
ZUx (e-a),
(Y6 (Zakg (Zg ZF6) ZVB)),
bf ZDP (dZ e),
#[dd,lD,(eI Zv9 Zv9)],
oQ P w H' ZdD,
(jh (cG ak (cG · (cG ak lZ)))),
ZeX (bJ Zcg j g),
#[Fi,ds++[·],app ds _,#[Uz,ZiH],·],
#[yI,Zdg,(az (bc #[dS,Zba,Zao,·]) bp)],
#[oQ,#[h2,jC,#[gt,Zv9],(iI (gu (rj hu · ·)))],ZU7],
hs i σ _ hlt p,
.ask i j k,
#[gK,[ZwD,ZwE,ZwF],·],
(((· ZCy ·).extBut ZOy ·).extBut ZOD ·),
k _ ac Zaue fun b o e h1 _=>ZatE,
#[y3,(Y6 (wpAny_loadPart hx (Y6 (PySem.W.Looks.here (s:=Zahb) · ?_))))],
#[Fz,H,ZcK,(gf es)],
⟨_,_,ex,ey,up _ _ (Z1 hSn) pn⟩,
⟨as,#[Tw,·,hd],#[vq,hp,ZasD]⟩,
aQ #[V5,·] [] ZSO H s1,
#[aoK,·,ZcY,ZET,(ZcY ZET),·],
Call_ (j8 I hg hm boot_range ·),
ZV (yD xs lo hi) hz,
Zrx j T hj,
F6 ea C Zac,
⟨p,#[cE,ai ts',ac],·⟩,
#[bO,k l ds hl hds Zah],
σ=·/\·/\ZVg/\(Zatm)/\Zau5,
(bd 2 fW.nd (bM kM Zajh ZC' aQZ ·)),
#[D5,c]=#[kJ,zy]+y,
(#[Sn,·,Zj1,·] (Zj1 · · hi-#[RY,·])),
(aJ jL ZaD (aI cI · (#[aji,Zl9])) Zv5),
#[T_,d,d,ZtB],
#[T_,8,8,(ZfA 8)],
[ZfM,#[bz,lp],#[bz,lr],·,·,v5],
aO Zfu w K mg b ZBl 1 Zzc xW,
#[apr,ZS_/\ZUS,·,ZS_/\Zd8<=i],
#[ahi,td σ H1 fun x H2=>∃ a o,x=ZbV/\eE H2 a y o/\Q · H2],
#[ahi,∃ z,y=ZcL/\·],
(Zaic #[sj,k])=#[ho,·],
aA N ps ZbT,
FQ ps y ZbT,
Calls.Name_function_global ZjP hg · hd,
⟨o,es,ep,·,r⟩,
(PD c ck ze),
hk _ _ (ZBV _ _ hoc).1,
k a _ ZhO e,
aM #[pM,#[avc,[],Zan]],
ZQg Zjh nm=Zab (c0,P0),
#[mh,#[Ff,Zc5],_,Zax,Zc5],
(Zag (ZDc (gW bs))),
(#[yh,0].flatMap (ZakC (j3 bs))),
aQf (bS #[Wc,hf] fun fv s3 ·=>ZF7),
1<=Zfv/\Zfv<=12,
dm c8 Zak Zc1 Zbx bZ ·,
#[kN,_,rfl,_,rfl,?_],
⟨·,_,_,rfl,rfl,#[ch,td,hd],#[kx,bT (by have:=ft.d;lia)],?_⟩,
#[zm,H,Q,(E #[aj,Zd'] Zac)],
Kt (P:=Zck) g #[gu,Zag3 ZvC,fun a o e=>I2.bk a o (I2.mod.kin a o e)],
#[aj6,d,ZeH,ZNG d _ hH],
∀ f,Zmr->ZcF->ZDe->Ad es ZCL L/\ZasN,
(L0 _ _ _ _ ZSw (Y6 (·))),
#[ar5,x.bk.kp,⟨·,·,·⟩,Zam],
#[Wf,hc,vs,us],
R Zgp=Zac->ZQE,
sR l (0,q),
rY ns [] aQo,
dI rd ZdX l,
[ZfM,ZTC,Zha,#[c4,·]],
dh (k:=k) (v:=key) hk,
⟨ts++[t],·,#[vs,pr,·,#[h8,·]]⟩,
#[ask,#[Eo,ZOZ,#[hC,Fc,Zoe,0]]],
∃ its:Zb',Zy_/\· ZaK a ZbJ/\ZUP,
s5.trans (#[gm,#[sF,ZSd],ht5]),
#[au,ZQg (K Zi2) Zl1,(c0,P0)],
.of_isNs (PySem.W.isNs_of_in X hok),
IM (ZaJ w) [ZaJ ZaG,ZaJ ZaU],
ZN2 [v] (truthy v),
s.heap.IsRevIter r d ((Zf6:Int)-1),
#[dt,.bl ·,H1,I1,q1],
#[gu,ZDA · Zauf,⟨lok,lg⟩],
#[ahf,to,Yg K T x H1/\·],
Un ZjO [] H · ZaK ·,
#[ib,u,#[au9,d,⟨x,H,I1,ru,#[db,#[auC,·]],st',ZRv⟩]],
⟨rfl,_,rfl,·,rfl,#[fc,·],·⟩,
e1 x o e · (nl x o e),
⟨?_,?_,·,·,?_,?_,?_⟩,
#[bb,·,2,[Zec,ZwL,Zl2],·],
#[s',Za8,Za8,#[h8,Za8]],
#[bi,2,[Zec,ZwL,Zl2],·],
#[yP,hr6,lr,hr6,Zqk],
(SB MH U Zbx rfl),
#[kU,(#[Sm,RD K HK 18 ZbP e]),·,·,·],
PC X · a (Zkg Zay j ZnR) (· ta),
#[FO,ZeT x ZnR,e,(UY te (tK i))],
#[aX,ZrW,gn]*·<=64*·,
Zi6->ZtH->#[w5,(ZBI e ZaS ·),ZU1],
(· (qU Ou)).on (qU Ot),
un.free b o' e' ZTb hx,
bM (yA rfl) Zajh ZC' aQZ Zl7,
ZaC (hRS _ Ze _ r) (ih #[i1,hRS u #[dM,hu]]),
⟨l,l3,_,_,rfl,rfl,·,·,ZVc,·⟩,
#[Wh,hb,wh,Q,q1],
(0<=m/\m<=ZbF),
IF xs ts z hl,
#[atR,·,w,·,f,ZbU->#[x7,Zm6]->Q ZfL H'],
ZNi (i:=i) (x:=Zar ns[i]) (#[pQ,Zs hi]),
#[aun,ZTC,Zha,#[c4,·]],
AB I1 ea c hm l ?_,
#[auQ,Zjt,xD 1 (Zaw) (Zg')],
#[auS,Zg1,ZDV,·,ZD0],
#[auU,·,Zap (Zam (Rd.of ac))],
⟨z,H3,I3,r3,k,e,q3⟩,
CE ZbA P w H s Q u s',
Slot T Zdk id,
Qa I1 r1 ty,
en∈ZCD (· Zi2),
[ZyY,ZyW,ZF9,ZF8],
∃ u,us=[u]/\ZkX,
⟨PyData.keyHash p Zpw,Zaf Zpw ·,·⟩,
⟨z.1,ht _ _ z.2.1,z.2.2⟩,
⟨fun i _=>i<n,#[Gx,x=Zag (·)],fun i _=>n<=i⟩,
∀ [333][42],ZfS->bF (· n) (· n),
#[cx,bf st ZFL=Za5,fK (gz st ZFL) ·,bf st (dZ p)],
⟨od,es,ep,·,c⟩,
#[Qi,ZiJ,Zdl #[f5,(ZCD (· p))] n],
∀ a b,o9 Zd_ a b=·,
#[aF,z.imp (fun y=>y.symm) id],
(NY tI2 bt).trans,
#[cj,#[h1,h,e,Ze]],
∀ [2](D:nZ),Zi6->t D σ H->#[w5,(· st ZaS),Zaum],
∀ i x σ H,ZOw->Zmo->g x σ H #[am2,Zxh,Zxh],
#[ajb,its.toArray.any ZTI=its.any (QG x)],
· (hsz:=hz) Ztq dd Zasw,
∀ j d1 d2,#[au4,(ks j=Zae↔d1=d2)],
∀ {l m:·},l.Nodup->(∀ x∈l,x∈m)->Zcc<=ZNn,
∃ bm N nm qn bs hdct sn sub ab col dd k0 k1 k2 k3 k5 mN,#[mM,C,(·)]/\ZVG/\·/\OwnTail h Ia bm,
fun o=>{ cls:=o.cls,dict:=Zab ·,data:=Zhm,slots:=ZaiP },
∀ ψ,u≠Zvj ψ,
∀ y:Str,Zas5->Q (Zaf y) H1,
∀ dx H',ZbU->#[b0,dx,(.xd [(Ze6,Zs2)])]->E #[aj,Zga] ZsM H',
fun x o e n=>b x o Zauo n,
∀ t,#[aZ,t]->Q Zqd #[bt,t,·],
· (knd:=Zys) st hat hq ·,
(fun xs H Q=>(∃ s,xs=·/\Q · H)\/∃ i:Int,xs=[·]/\ZahI/\Q · H),
∃ ts n,#[ard,ZiP a=Zab (· p xs ts n)],
zN (c:=c) (l:=l) (p:=·) #[bj,hs,·],
∀ u h' tk,P (ZCJ bt (n-1)) u->(Zaup)->R (.ok (ZfZ u)) ZOh,
fun b o b1 e=>hk b o b1 Zjp ZhW,
fun H' x=>i _ _ (h H' x),
fun H' x=>h H' (ZOo x),
fun _ l H' hl s1 r1=>k l H' hl s1 r1,
fun w e=>q ⟨w,e⟩,
fun no H1 g1 t1=>ok.nf (BF no) H1 · t1,
K9 (ax kJ · Zak Zfa),
ZrJ b=Zac/\b≠f/\b≠cy,
FL [Za6 w,Zai m,Zai ls] ·=·,
(upd H6 Zhx (.dK ((ZalD #[cj,ZaqF])++[#[gv,Zmn,l]]))),
ar #[fe,z,asc,Zic],
.bl (g i j),
d7 (lS ns k),
· P w (ZCC ts),
· (ZNW hc) fun h' tk k=>⟨_,H,Zrm k,?_,q⟩,
kn g (aXD hg),
p.1=q.1/\#[aQ,ZpU,#[kp,p.1.map,kV]]/\bE p.2 q.2.2,
· _ _ c3 (Zakn _ _ c2 (ZQp _ _ c1 ·)),
Ziy (Zw (Zq hb)),
Y8 (#[bl,z (so.mp ⟨q.1.2,q.2⟩)]),
eQ l=ZrA n,
Data.fields _=Data.cell v,
toS l++toS m,
ZV · (ZV (Nat.mul_le_mul_left ZbF ·) ZaY),
#[bb,x,k,ps,sp],
b≠TO->b≠i1->b≠i2->Zd6->·,
(aQd (Zg ZUT) htake),
(Ep (xG w) rfl),
#[jY,·]::Zama pos (ZDz · ZaS),
#[gx,ZTV,ZarS,Ri (fK ZcK ZCL)],
sp (Zai x::Zqn) · (fun v H2=>v=ZaH/\Q Zg4 H2) E,
List.Pairwise.map _ (fun x y ne e=>ne (ZL9 e)) g.nd,
#[jc,as.reverse,lY (Zvp pr #[Tx,h2])],
(cE (dm ZQh Zak ZdL ZoW fb ·)),
#[Q5,tg,bJ,ifs,sc],
aQV hS' rfl (Zg ZatF) · (·),
(bh (dm ZPw Zak ZdL ZoW bZ ·)),
gZ C H' b Y bs,
⟨_,es',ep',hL,r'⟩,
(ZamF tg #[aj,it] u),
PI X (ZMy elts kk tpos) · ·,
#[D6,{ B with w:=lw,h:=lh,c:=lc }],
#[h_,t,(iU x),A.d,ZT1],
#[jv,x,k,ps,sp],
⟨Zag Zn9,H,Zg9,⟨Zmu,#[a_,Zv,ZiH]⟩,q⟩,
#[v0,(V6 I S d)],
PA X · (mD t (mD t2 ·)),
#[anA,aW,C,m,k],
· xs ts z (ZvI),
#[ahg,∃ c,x=.bl c/\·],
xQ · _ _ p.1 p.2 e1,
PG X (ZMy es k pos) ·,
#[bh,#[yw,Zgn]=z,iz z],
(gv Zcg Ze7 ZSy []),
(x=a/\y=b)\/(x=b/\y=a),
(· b u e).stay (ZauX) (fun c q=>Zanw) fun c xs q=>Zanw,
(ka Zal' Zbx rfl K0 #[dS,·,·,#[dS,·,·,bp]]),
⟨_,rfl,_,rfl,·,_,·,_,rfl,rfl,·,rfl,·,_,rfl,·,?_⟩,
(DE ME UO.e ZoW rfl),
#[aT,H1,lr,Zkr,lr,#[ml,#[RF,0].map]],
Un (kN ZbA) [] H H' ZaK ZdD,
(acc+(h%Zs0).toNat*p2)%m,
⟨cl,?_,q1,·,fun y hy hf=>?_⟩,
(py (py (py (py ·)))),
(upd #[eI,B.w,ZasS] B.h #[bW,ZxV]),
#[aT,HK,T,Zarj,T,Zarj],
Za0 (RD K H n) xs ds,
#[kO,x,y]=Ze8+Zgb,
#[fF,ZvX,Zaui,(fun fin s'=>∃ v,fin=Za5 (ZfZ v)/\Q v s')],
Zs3/\#[agG,p]/\∃ vs,Zyq/\s.heap.DictOf Zw6 p vs,
flatCase f1 f2 ry rx,
zG f1 f3 f4 Zavb,
⟨rfl,(·+·).toNat,#[bm,#[cn,ZajA]],Zad,Zad⟩,
isSubtype #[kq,Zf2] #[kq,·]=Zca Zaz,
(upd #[g3,kdx,Zas8] kp ZauI),
ZQg K x=Zab (c,P),
k2 (#[cE,ea,hn]) H4 · t4,
#[VI,·,x,k,ps,sp],
wpAny_execs_cons (bS (h1 Zav s σ H · I h) fun f s1 q=>?_),
· (bS (ha Zav s σ H Q I h) fun c s1 e=>?_),
#[amI,∃ d kvs,x=Zm5/\H1 d=Zab ZeH/\∀ o:Obj,R · Zarf],
(Hz P0 aL aG cF · ZUX ZlX Vs),
#[ar9,ZC z.X z.G a],
(· (toS (eQ l))).map fun n=>(n,ZcY ZET),
ZB7 ZQ6 · it acc env,
floordiv_int Zah #[bj,#[el,Int.fdiv_eq_ediv_of_nonneg,i],q] (Zam (· ·)),
· st · (x:=u) (by simpa using hu) Zasr,
∀ y o,· y=Zab o->y≠e->#[aT,H5,e,Zau0,y,o],
∀ i j,lo<=i->i<j->j<hi->lt (el xs ·) (el xs ·)=Zae,
dI rd ZdX l=Zac,
bS #[D1,ha,q] fun ov s2 zz=>?_,
ZaC (ZCN a.rd Zah) ih,
Y6 (GO hz hT fun h₁ hz₁ hs₁=>?_),
⟨#[ch,·,ZcC],S.nd,·,·,#[Tw,·,S.c],#[auB,#[tb,ai (fun z:b=·=>#[fP,·,z,hb])]],?_⟩,
(W.frame _ _ _ st1 fun b hb o z=>(ZT _ _ (fun y:S=b=>#[h1,nS,y,hb])).trans z),
#[FO,ZBh o f ZnR,Zn_,·],
#[fN,k+1,j,(k+1-ZdW)+1],
⟨#[atz,·],ZVT,·,·,·,ZV9,ZwH,ZrZ,Zr0,·,KG x.g0 k #[cX,ZoL b ·],ZoL⟩,
#[Wa,its++[u],Za7,(ZMB (ZaC ru Zan))],
#[h_,B.w,#[bW,ZFk],B.h,#[bW,ZGu]],
lE ZatL (rs:=Zvi) (f:=#[gS,·]) hc · Zah #[asi,·] (·),
PassesOwn Zw3 X.A ZaS ZlC,
AQ hstk rfl fl ZasB,
(jr 32 ZyL).take 1=[]↔·,
PySem.W.excIn K C Ia Zwe = Zae,
· i1 i2 (Kx hx1) (Ss hx2) · ·,
#[lH,Zasv (ZMu C Zax)],
⟨f,fd,ZaoH,⟨a,i,g.kp⟩,Zaox⟩,
∀ [368],Za0 F l₁ l₂->(∀ a b,·)->Za0 G l₁ l₂,
⟨⟨o,e,ex.1⟩,fun a e2=>?_⟩,
∀ b ps,#[cp,Zatn]->∃ more,#[ph,(Ze1 (ps++ZvT))],
#[rn,· K x y H Q],
PySem.W.kdl_dict (knd:=Zys) (kvs:=vs) (ep:=ep) lo,
(by rw[#[pR,i+(j-i),j],e2',e1']),
∀ p d,d<10->f p (d+48)=Zab ZatX,
∀ l:·,Pairs ZdR (Zrz (· Zi2)) (Zrz ·),
∀ {b:Zcu},(b≠[]->ZatM)->b≠[]->∀ l ps,Zy8->·,
fun a H' g=>x.nf a H' (ZRJ g),
(Lp P0 aL aG cF),
(ZrK ZlS Zfr ZbT lpos),
(BZ cb cU cB cT),
ar ⟨_,rfl,_,rfl,p,d,bs,tv,f,rfl,·,ZDj (#[jS,·]),kn,·,·⟩,
Y9 #[fd,⟨⟨·,hf⟩,s2.1⟩,s2],
dI R Zaug (Zgo a),
aM ⟨_,rfl,p,_,1,_,rfl,rfl,ZbQ,rfl,#[EX,1],·⟩,
·->Zmo->ZUO->g #[aj,T] σ #[bt,T,·] Zam3,
aV P w K mg ZaO CX Zc6 f · ps sp,
wpAny_pyIter_range (IsRange.new ..) (· h1 h2 h3 h4) ?_,
ItemsOf (#[FY,items[Zf6-1-i]?]) Zwd Zf6,
wT ml (j7 a b),
(hch c z).2.2.1 x c e rfl,
#[mj,Ze4,·,ZBP (t':=ZrC) (Zasq) Zbu ?_,q _ hf],
bS (ho Zav s2 σ H2 x y v u _ I2 r1 r2 q2) ·,
sE ZEw · u.w u.m u.ls · (gf ·),
⟨_,rfl,·,_,1,_,rfl,rfl,·,rfl,·⟩,
∃ t,ZoA=.sq Zae (#[x9,ZdJ]::t),
#[kz,Zau',ls,Zkr,t,ZTu],
· c ck ze H u.e u.A u.D B ZcK,
(af (j9 · (fT rfl (aT (fG 4 ZPD) (aT (fG 1 ZPD) dE))))),
#[b7,H',{ s with heap:=h',gens:=g',drawn:=d',toks:=t' }],
(· #[QM,[⟨ZBL,bJ,ifs,0⟩],ZbT] 0 it acc env),
⟨Zyx,_,I2,rfl,⟨Zax,·,·,·,rfl,·⟩,·,Zdx⟩,
#[oS,#[nd,#[ajo,#[xk,·,·,Zaqx,·,(ca #[dd,c6,Zl9]),Zaqx,Ju (rj hu Zak Zao)]]]],
SP X Zav D Zrk s',
#[RS,⟨_,_,_,_,_,s2,_⟩],
#[tA,z,ds,N,k1 ds H1 N s1],
·=ZN' (ZvU ZdR) x::ZauY,
· h n _ q.1 q.2 e3,
#[Fz,H',(aY ZVm),(gf (dncE es bs f))],
#[aoB,⟨oc,od,ZvV fd,osl⟩],
k l _ ZVl #[s6,hl] #[jc,[t],ZaC (ah hl _ _ ac) Zan],
hs i x σ _ (y xs q) p,
#[Gq,HK,lr,HK,lr,#[hL,ZDH,Za6 l]],
[ZfM,#[tx,w],Zye,Zha,·,·,v6,v7],
#[CR,(ZakJ #[j3,(ZvK n (Zvh #[gS,ZF4]))])]+1,
#[w5,#[ky,a],(fun v s₁=>Zcb Zw3 X.A (ZjW b ZaS) (fun u s₂=>#[w7,·,·,s₂]) ZlC ZiE)],
(PH P0 aL aG cF d fl c1 vy),
#[arY,ZTV,∀ H1 H',#[dT,ZyG,ZQD,#[Fo,H1,(aY (ZasT))],(Zaf (ZarS))]],
ZaC (fL P w Zpw ·) rfl (· P w l),
· c o (I.cne x c e) hc nch ho ZU',
tv σ H2 fun z H3=>∃ kvs k,H3 a=Zab ZeH/\Zzi/\#[at3,#[o',Zaur]],
hl j y v' e1 e2 e3,
Walks.range (prog:=Zck) (w:=X.w) ZNX it lo · n,
wpAny_Call_method_late ZvQ hfew ZMW rfl Zath,
∀ es ep',Zhm=Zdl es ep'->ep'=ep,
fun e s'=>Zcb ZvZ (ZBQ (·)) (ZamM · e) (fun _ s''=>CX ZbA H s E e s'') (fun e' s''=>CX ZbA H s E e' s'') s',
zG (s:=ZEm) a1 a2 a3 fun g2 b1 b2 b3 b4=>·,
∀ h' e,Heap.MadeExcOf h h' e ZhS ZcV->·,
∃ ix:Zbq,ix.Perm (ZgM ZiF)/\out=ix.map (#[iB,ZajN i ZjQ])/\(ix.map #[iB,Zajr i ·]).Pairwise (#[B9,· a b=Zae]),
∀ [219][252],#[sn,ZNa]->∃ t,v=Zag (ZNk i 0) t,
∃ ds,Num (gn g) ds/\Zast=g,
∀ (r:α)(HK:Hp)(Q':VK),r∈rs->ZeK->(·)->te #[sB,#[c3,g,r]] HK Q',
K6 (n:=2) K rfl (aT (fG 0 ·) (aT (fG 1 ·) dE)),
fun H' s=>Nb rfl (k H' s),
sr K Zba (#[xi,dv,_,·,·,Zh5,VN,(He K Zak),#[pb,⟨fG 0 (#[mi,·]),cZ,ZatC⟩]]),
PE X (ZamJ e (-1) Zac pos) (· te),
#[oE,⟨a,b,c,d,rfl⟩,cU],
(Zkb dZ).filter xf=Zkb dZ,
#[atT,(ZCr)*z,e]+(-519024139352440027)*u,
aW P w K mg ZaO CX C m k ps sp,
un.slot b _ e1 ZTb #[bj,frS,Zd _ hf] hx,
#[kz,ZTN,B.c,(.dK (dQ B.cs Zd_++[Zat4])),l,#[hR,[b]]],
uK c ZlT 0 (ZFt-0) (by show ZFt=_;rw[ZR];rfl),
Gb Pi.good Pi.of Zah Pi.sz (#[e9,Oi di nm hL l60]),
(· #[ar6,ZBL,ZbT] 0 it #[aj,acc] env),
oU c ck H ZrV D B st' · H',
#[ank,Zdk,Zbg,ZlS,Zfr,ZbT,dV],
⟨Z1 hzlt,Z1 hi1lt,Z1 hi2lt,Z1 hSn⟩,
#[py,p.1,p.2]/\#[aZ,p.1]/\p.1≠Zd3/\p.1∉ZjO/\∀ v,p.2.data≠Ze2 v,
M2 X o · apos e f ZiL,
#[qp,Zy7,∀ H1 p,ZyG->ZQD->Ti cb H1 bk Y bs w f p (Q (Zaf ZiU))],
#[tJ,#[Uo,Zb4,· (vo xs lo hi),ZUy,?_]],
un.keep b o (u1.keep b o e n hf hx) ZTb ?_ hx,
Builtin.Builtins.bindParams ZjU ["key",ZOJ] 0 ⟨[],ZOK⟩,
#[xk,·,·,ZPi,Zh5,·,ZPi,aJ Zy5 Zak Zdw Zv5],
#[apl,#[jh,0].In,aV Zfu w Zjh mg ZaO · · fa fd · ·],
B0 cF d vs H Q E,
⟨1+(ZRX+k),by rw[<-e4,hk,aQh,aQh]⟩,
(eX X sc cl · N' s H ·),
kd0 · _ rfl rfl rfl rfl · ?_ (·),
aXi F.slot_list_append Zqi F.entry_list_append (F.args_list_append_2 _ _) (PySem.list_append l ZbJ n u ZGi) ZUZ,
#[au3,·,(fin [(z,t)] Zb4 (#[EK,1]) ·)],
⟨_,_,rfl,rfl,_,rfl,_,_,rfl,rfl,_,rfl,·⟩,
wpAny_Dict_empty #[sy,Zro (a:=Zax) (o:=· []) (t':=Zb4) (Zasl) Zbu ·,h _ Zsx],
· hr.depth (· _ _ ·) rfl S.co S.gen rfl · (hb _ _ _ _ ?_),
⟨z,y,·,·,ob,es,ep,Zjz,c⟩,
ZahW (h₀:=Zfq) ZBT · (bS Zany fun us s1 ⟨vs,H1,I1,r,q⟩=>#[c7,ZME]) he hpl,
∀ [350],(∀ v,(x,v)∉binds)->·=m x,
fun J1 H2=>qH J1 g1 (Nn tt1 te a) { nx:=Zn1,rt:=Zv6 } σ H2,
cD (K:=K) (a:=lr) (xs:=ZgR g) · · · ?_ ?_,
fun nn=>#[oE,(ok.2.2 a b c d rfl),nn],
(fun hn H5 s5=>k2 #[aq3,· _=Zac,hn] H5 #[aqy,s5] (t4.same s5)),
gD (ht r HK _ (Zy hr0) t1 ·),
#[bO,pD (w:="") (z:=·) (ev1.gk ·).ob (bk1.gk ·) b50 · w0 · · ZkE ·],
#[gs,ZasJ == 0&&ZmC == 1&&(ZFm-Zx2) == Zf6],
· (bS #[anx,h,hq] fun us s1 ⟨xs,H1,I1,r,z,q⟩=>#[c7,#[SU,Ze5]]),
· d _ o kvs ep (fun es' ep' e=>?_),
#[oE,(by rw[<-l1,l3,h,<-l4,l2]),hl],
#[kz,(upd G1 w1 Zc5),m1,Zyl,l1,Zkr],
#[x3,∃ (z:Int)(v:Zgi)(ds:Zbp),σ=[ZyX,#[c4,m],#[c4,b],·,Zha,·,v,·]/\H2=upd H l Zol/\ZiO=i/\ZapF],
Ev.fits Zah Zah (by have:=z.c;lia) (#[aob,z.k]) (by have:=z.d;lia),
#[zh,c≠z->c≠TO->c≠i1->c≠i2->ZSG->ZE2,·],
rule i j t t' s _ _ ·,
#[FX,[head,Zai L,Zay,ZgL L,Zay],(if pl.isEmpty then ZvK 6 ZjQ else pl)],
[ZF2,Zx5,ZfM,Zha,#[bz,t9],v1,v2,v3],
#[Vw,.ask u.e u.A u.D B ZcK _ · rfl (x.desk · · Zatr (Qn cn).2 ·) · ·],
#[xk,·,·,ZapT,Zh5,(O6 (pv 0)),ZapT,kP xN Zak #[ajk,·] rfl],
⟨v,H',J.os,J.bare,J.base,J.hok,rv,q⟩,
K4 G hr hg hm hk hb Zan · ha hdb he hpl,
· · Zwd c' (·) s3 l3 n3 ZCB p3,
∀ [204],(#[rU,∀ q,R u q->S u q])->Za0 R us qs->Za0 S us qs,
ar ⟨_,rfl,_,_,rfl,rfl,_,_,rfl,?_⟩,
(IR Zbg ZbT s f c' y cy),
#[bO,Dm (s:=ZOh) (n:="range_iterator") st' rfl rfl ZaY ⟨Zag (·),H,I1,·,Zh0,st',ZRv⟩],
Zap ⟨a,t,xs,ds,e1,e2,q,·⟩,
#[FJ,Zap5,Zap5,Zaso,#[Ma,un.tups b xs (u1.tups b xs q)],fun b o u q=>un.frzs b o u (u1.frzs b o u q),fun b ps q=>?_],
W.item i s _ _ hg st fun v h' tk hv st' kk=>?_,
C4 ZaO Zbg ZlS Zfr ZbT y vy f c' cy pm ct,
⟨_,rfl,z,rfl,zl,_,_,rfl,rfl,_,rfl,?_⟩,
⟨_,rfl,p,_,0,_,rfl,rfl,Zi_,ZbX,?_⟩,
(· D hz · · h1 h2 hl1 hl2 hx hy ·),
Mod K mg ·->·->C4 · aG ZVa ZVb ZGh ZoN vy fl c1 cy pm ct->·,
k1 f r #[aq3,·,hf] t5 p _ #[aqy,s6] (t4.same s6) ac (hF.mono #[Py,ah ht5 _ _ y]),
⟨_,rfl,k,ZbM,_,rfl,ZcC,Zo4,k,B,rfl,S,rfl,_,rfl,·⟩,
(Ps c ck ze cb cF cU cL P0 aL aG),
DL (f:=·) hq Zah (fun c HK Q' sK kk=>?_) (fun H1 s1 hq1=>?_),
aM ⟨_,rfl,·,_,_,_,rfl,rfl,·,·,_,_,rfl,rfl,ll,?_⟩,
call_list_seq p · ho hc hd (fun h' c' kp e=>fin its r' hz h' c' kp e) (ZMU),
Tn X Zav σ H ea C od B s',
⟨ts,hl,_,_,_,k _ _ e,ZGp,rfl,fun en hen=>?_,?_,?_⟩,
#[avj,H',fl2,hok,fl.1,fl2.1,os.trans Zvt,bare],
Hz P0 lp ql cF fl · · · vs H Q E,
(K7 (ix:=·) (so:=am ·) (N:=·) (N':=·) (src:=Zh5) rfl rfl Ci rfl · #[pb,⟨fG 0 (#[mi,·]),cZ,·⟩] · rfl rfl),
Y6 (· (A:=ZiN) D hz · · h1 h2 hl1 hl2 ex ey ·),
(Pz ze cb cF cU cB cT P0 aL aG),
⟨_,rfl,p,_,·,_,rfl,rfl,·,·,_,rfl,rfl,_,rfl,?_⟩,
W7 X G qB #[ew,vX T U VM UO h (lv:=·) · gG i7],
(xS c ck ze cb cF cU cL cB cT P0 aL aG),
hbody cdv A ZbA s H vs Q E hr hsp,
∃ k0 k1 k2 k3:Int,u=#[Fd,500607328,-2450766760,-2125074059,2123783508]/\v=#[Fd,-293911445,-4242304441,-940908900,-13313502988]/\D=#[Fd,71179813,1011272585,-2202935132,-659352884]/\e=#[Fd,-2676812896,920967912,-1341154653,-604195060],
Zrq · ZOj (ZMs #[aj,fa] ZasV) (#[N4,r=.ok (ZfZ (Zes Zae))/\OldK Zj4 ZdD/\s'.os=s₁.os/\Zamv]) ZiE,
#[tL,(· X rfl rfl rfl hc i Zav s3 σ3 H3 ZlC I3 (stat fr3) st3 ·),fun r s4 zz=>?_],
⟨#[Fc,-5916852691,-3986570727,4759283498,-6872842267],#[Fc,289801547,-127279498,4798753234,-565338757],#[Fc,-1578328259,-620054596,-5647371940,-593478036],#[Fc,149822886,172386789,-1235055683,373812579],Zad,Zad,Zad,Zad⟩,
I1.write (by rw[hH];trivial) ZhO (fun b u _ e=>e) #[aR,ho] ⟨ho,hz,lo,vs,rel,dd⟩,
NameKind,
#[oY,Za1P],
@List.length_map,
@PySem.wpAny_bind,
@PySem.Heap.get?_push_of_some,
@Nat.le_refl,
@decide_eq_false,
@decide_eq_true,
@List.mem_cons_of_mem,
@List.mem_cons_self,
@List.mem_singleton,
@PySem.wpAny_pure,
@List.length_append,
@List.mem_cons,
@List.getElem?_eq_some_iff,
@PySem.Heap.lt_size,
@Option.some.inj,
@PySem.Heap.get?_push_size,
@List.mem_append,
@Bool.false_ne_true,
@List.map_append,
@Nat.ne_of_lt,
@List.map_cons,
@List.getElem?_eq_getElem,
@PySem.Paired.length,
@List.mem_map,
@List.size_toArray,
@Ne.symm,
@List.length_cons,
@List.mem_of_getElem?,
@Nat.lt_of_lt_of_le,
@Nat.zero_le,
@List.mem_append_right,
@PySem.W.mg_of,
@List.take_length,
@List.getElem?_map,
@of_decide_eq_true,
@Option.toList_some,
@List.take_add_one,
@List.length_drop,
@PySem.F.plainAttrs_list,
@List.map_map,
@List.length_take,
@List.all_eq_true,
@PySem.wpAny_mono,
@PySem.F.slot_list_append,
@PySem.F.type_list_append,
@PySem.sizeLine_eq,
@Array.length_toList,
@List.length_singleton,
@PySem.Heap.get?_update_other,
@List.lookup_cons,
@Nat.le_trans,
@List.nodup_cons,
@List.not_mem_nil,
@PySem.PassesOwn.never,
@PySem.W.mg_none_of,
@PySem.boot_len,
@Nat.ne_of_gt,
@PySem.Heap.size_push,
@PySem.Heap.get?_update_self,
@beq_eq_false_iff_ne,
@Int.emod_lt_of_pos,
@congrArg,
@Bool.and_eq_true,
@PySem.wpAny_field,
@PySem.wpAny_Call_Name_kw,
@List.mem_map_of_mem,
@List.append_assoc,
@Int.emod_nonneg,
@PySem.wpAny_newObj_type,
@PyProof.Rows.callWith_type1,
@PySem.Calls.spliced_cons,
@List.append_nil,
@List.drop_drop,
@List.replicate_succ,
@PySem.wpAny_holding,
@List.flatten_cons,
@List.length_range,
@List.take_of_length_le,
@List.mem_range,
@List.nodup_nil,
@List.find?_cons,
@Option.isSome_iff_exists,
@List.map_congr_left,
@PySem.wpAny_seqItems,
@PySem.Calls.evalArgs_plain,
@PySem.Calls.callWith_builtin,
@or_false,
@PySem.wpAny_truthy_bool,
@Nat.lt_succ_of_lt,
@List.sum_cons,
@PySem.W.kia_one,
@List.zip_cons_cons,
@PySem.wpAny_callSpecial?_slot,
@List.filter_cons,
@PySem.wpAny_standAt,
@Option.map_eq_some_iff,
@PySem.mem_of_lookup,
@List.getElem?_range,
@List.drop_eq_getElem_cons,
@List.length_filter_le,
@PySem.builtinLookup_eq_fast,
@PySem.wpAny_call_entry,
@Nat.lt_of_le_of_lt,
@List.filter_append,
@decide_eq_decide,
@List.any_cons,
@if_true,
@Int.eq_ofNat_of_zero_le,
@PyProof.Rows.boot_tuple,
@PySem.Calls.spliced_nil,
@List.nodup_append,
@List.foldl_cons,
@PySem.wpAny_updateSeq,
@Nat.min_eq_left,
@List.getElem_of_mem,
@PySem.codeAny_mono,
@PyProof.Rows.boot_list,
@List.getElem?_append_right,
@List.getD_eq_getElem?_getD,
@Nat.le_add_right,
@Bool.false_eq_true,
@PyProof.Rows.boot_str,
@Array.getElem?_eq_getElem,
@List.mem_append_left,
@beq_iff_eq,
@List.getElem?_of_mem,
@PySem.Around.under_plainId,
@Nat.lt_irrefl,
@PySem.F.plainAttrs_dict,
@PySem.F.plain_extend_loop,
@Nat.lt_succ_self,
@List.cons_append,
@List.drop_length,
@List.drop_zero,
@PySem.F.plain_max_loop,
@PySem.call_meets,
@PyProof.Rows.boot_dict,
@PySem.wpAny_pyIter_tuple,
@List.mem_filter,
@PySem.wpAny_passesOwn,
@Array.getElem?_toList,
@PySem.wpAny_specialOf,
@PySem.F.slot_dict_get,
@List.forIn_cons,
@PySem.typeLookup_type,
@PySem.codeAny_builtin,
@PyProof.Rows.boot_all,
@PySem.plainId_quiet,
@Array.getElem?_eq_some_iff,
@PySem.F.excBase_ValueError,
@PySem.F.slot_tuple_iterator_next,
@Int.toNat_natCast,
@decide_eq_true_eq,
@List.getElem?_append_left,
@PySem.wpAny_newFunctionEnv,
@List.mem_of_mem_take,
@Nat.le_succ,
@PySem.wpAny_letGo,
@Nat.mul_le_mul,
@List.take_zero,
@List.mem_flatMap,
@PySem.F.called_set,
@List.drop_succ_cons,
@PySem.wpAny_call,
@List.of_mem_zip,
@List.nil_append,
@PySem.wpAny_ite_split,
@Int.natCast_add,
@PySem.F.slot_zip_next,
@List.foldl_append,
@Nat.add_comm,
@if_false,
Value.isInt,
((by show Za4x i ZFl=Zae;simp[Value.isInt])),
Value.isStrOf,
SeqAt.EqAt.int_str,
SeqAt.EqAt.str_int,
Value.bytes,
ob.slots,
fun b ob q _ _ _=>·,
fun b u q n _ _=>·,
PySem.W.hideAll_size,
PySem.W.of_hideAll,
Za4H _ ·,
X.env.globals,
X.A.handled,
Za4K=Zac,
X.A.frames,
(Za4M:ZfX (Zbn Env))=Zab (ZaS::ZbA),
X.s₀.heap.objs.size,
Za4O<=·,
b∈Zrd\/#[a4P,b],
∀ b∈ch,(Za4Q)/\ZpO/\(ZT9)/\#[Sh,b],
X.s₀.heap.FunFrames,
fun b o _ _ hc e _=>·,
I.hok.kept,
e1.trans,
σ.length,
fun j y v' e1 e2 e3=>·,
List.getElem?_set_self,
z.sameBut,
hn.sameBut,
wpAny_loadName_local,
wpAny_loadName_cell,
wpAny_Name,
Za43 (· ZjP hk · · fin) hd,
wpAny_Constant_int,
Constant_none,
Za46 (· ⟨ZhZ,H1,I1,#[bm,r1.none_iff],q1⟩),
h1.keeps,
fun pins s σ H Q I hw=>·,
wpAny_Compare1,
isTrue_and,
isTrue_or,
(by simpa using hs),
ok.above,
ok.frames,
I.unwish,
⟨σ',H',Za5e,q⟩,
fun _ _ σ H _ I h=>·,
wpAny_execs_nil,
Za5h ⟨·,·,·,·⟩,
inplaceOp,
wpAny_assign_Name,
(by simpa using rv),
storeName,
#[pF,(Za5m ZaS x u)],
"dict_reverseitemiterator",
"odict_iterator",
"itertools.zip_longest",
"itertools.pairwise",
I.list_inj,
h.IsTupleIter,
Za5t it t i,
(by rw[·];split<;>lia),
List.mem_filterMap.mpr,
fun _ _ _ _ _ _ _ hc q=>·,
.Compare,
(Za5y a [op] [b] pos),
!kvs.isEmpty,
!its.toArray.isEmpty,
!xs.isEmpty,
(∃ xs,·/\k = Za5C)\/·,
#[a5D,·,#[a5D,·,∃ kvs,#[ff,ZeH]/\k = Za5A]],
(by simp only[Zv];lia),
j.length,
PySem.W.InstAt,
PySem.W.plainGet_of,
(Za5I hg).1,
PySem.W.lookIn,
∃ od,·/\∀ name,Za5K Zdk od=#[c3,mA,Zdk],
wpAny_nsSet1,
fun h' hn2 hs2=>·,
hn2.count,
PySem.Within.cons,
PySem.W.looks_findIn,
(by simp[bW]),
Heap.Ns1.of_empty,
True.intro,
attributeBase,
Za5U · · ZaS #[ky,·]=·,
#[a5V,o,·,o,ZxH],
#[a5W,Zdk],
"object.__class__",
#[Sz,Za5Y],
PySem.W.kitOne,
Value.str,
Za51 x t,
∃ t,u=Za52,
#[FC,Za52],
recursionLimit,
(by have:=r.dp;lia),
(by have:=r.un;lia),
A.frames,
Za58=Zab ZEx,
bindArgs,
∀ (kV doc pm:Value)(an:Zgj)(cdv ct:Value)(us:Zb'),#[R8,Za5_ (·) ZpH=Zan7],
#[a5',#[anl,x,x]],
#[a5',Zauc],
r2.length,
PySem.W.callWith_K0,
cellsFrom,
(Za6e ZmQ scope.names []),
PySem.W.cellsFrom_some,
Around.frames_deeper,
(by simpa using hi),
e0.hok.fresh,
Za6j (Za _),
fun A outer s H args us vs Q E hr e0 hb r hsp=>·,
e0.mod.nolimit.keeps,
binaryOp,
tG X (Za6n ·) ·,
#[a6o,.Add,·],
#[a6o,·,(rI · #[lD,Zag (·)])],
#[a6q,.FloorDiv,·,i/j],
Builtin.Slice.sliceAdjust,
Prod.ext,
slicePart_none,
pick_run,
"__getitem__",
#[auN,T,Za6w,id],
subscriptTail,
seqIndex_of,
fun v u s2 x y H2 I2 rx ry q=>·,
#[a6A,ho Zav s2 σ H2 x y v u Q I2 rx ry q],
(by rw[·];simpa using ew),
SeqAt.in_listAt,
SeqAt.in_tupleAt,
o.ExactDict,
wpAny_Call_method0_late,
PySem.evalArgs_none,
xs.dropLast,
acc.toArray,
Obj.mapSeq,
its2.toArray.size,
its2.toArray,
(by simp[f8,aQp,e]),
(by simp[valueAt,aQp,e']),
Paired.snoc,
(by simp[atKey,aQp,e']),
I.mod.glob.keeps,
#[bj,ZCl,Za6R I.bk],
wpAny_getItem_of,
!o.isSome,
wpAny_notIn_of,
"dict.pop",
fun w' s3 I3 rw'=>·,
PySem.F.type_dict_get,
WData.int,
pre_splitW,
{ posonlyargs:=·,args:=·,vararg:=·,kwonlyargs:=·,kw_defaults:=·,kwarg:=·,defaults:=· },
.FunctionDef,
Za62 _ · · _ _ _ _ _ _ _,
{ kind:=·,names:=·,isGenerator:=·,isCoroutine:=· },
if · then A else B,
Option.none,
compEnvC,
(Zoa · 0 ZFe ZanO (Za67 sc cl C ZaS)),
#[a68,ZQN],
cs.lookup,
closureFor,
Za6' ZbT ZaS=Zca ZsQ,
N'.length,
src.length=Za7b,
swapsWith,
Za7d · · Zahx ZaS=Zca Zaz,
#[a7e,Zn_,#[fb,·]],
wpAny_comprehension_free,
Za7g (use:=Zac) rfl hs hcl ZvL S.loc Zarg,
1152921504606846976,
List.all_map,
pl.isList.at,
(by simpa using e2),
(by simp at hl),
acc.toList.toArray,
fun d1 d2 e1 e2=>·,
us.toArray.size,
us.toArray,
#[amn,#[Qj,Zf3,Za7q]],
"__len__",
"list_reverseiterator.__length_hint__",
Builtin.List.listExtendWith,
Za7u #[aj,Zax] · Zay,
old.toList.reverse,
spliced_cons,
Za7x (Z9 (j8 I hg2 hm2 · ?_ ZaY ZaY)),
spliced_nil,
Za7z ?_,
acc'.toList,
List.length_erase_of_mem,
g1.objs.size,
#[SY,Za7D],
Obj.isFreed_of_fields,
Z3 _ · (Za7F (ZaiR · _)),
hl.of_keeps,
(Za7H #[aiN,#[dU,o,ZaoS q]]),
Obj.cls_mapFields,
"BaseException.__getattribute__",
"__getattr__",
"object.__setattr__",
Heap.get?_push_at,
"ValueError.__init__",
#[au,·,(.val (Zf_ Za7O))],
ExcBaseFacts,
fun b o q _ _ _=>·,
PySem.W.hideAll_get,
T.hasType,
hx.keeps,
I1.unheld,
I1.fresh0,
PySem.W.readsIn,
Za7X K · ZTM=Zae,
PySem.W.findCls,
#[a7P,Za7Z K #[aj,·] ZTM Zfw],
s2.heap.get?,
#[bc,Za71],
#[ee,b∉wr,Za72,Zgz],
s'.heap.UpToSlots,
I.stack.mem,
I.unmarked,
⟨σ',H',Za76 ok,q⟩,
"__debug__",
#[oU,x,#[ez,Za78]],
PySem.W.exmOne,
Za7_ K #[aj,·] #[aj,·]=Zab ·,
#[a7',·,·,Zaz],
#[a7',·,·,Zae],
∀ a∈·,#[a8a,·,a],
(·.all fun a=>#[lx,#[a8a,·,a]])=Zae,
#[a8a,Zga,·],
#[a8a,Zf',·],
#[a8a,cU,cB],
#[a8a,cL,cU],
#[a8b,cU,cU],
#[a8b,cF,cF],
#[a8b,cB,cB],
#[a8b,cT,cT],
#[a8b,cL,cL],
PySem.W.Looks.ld,
X.marked,
(Za8o ea oe),
aQ Za8p Zav σ H s,
evalEach,
joinParts_nil,
#[ate,#[mB,#[el,Za8s,⟨ZfQ,H5,(I5.tok _).tok _,Za8,q5⟩]]],
show · by simpa using hm,
"WaltzError",
∃ fd:FuncData,·,
#[a8w,(·)/\·],
(by simp[dU]),
cs.Nodup,
"setdefault",
rel.length,
#[SU,Za8B],
(by simp[aR]at h),
(by simp[aR]),
I.ok.stk,
I.ok.exf,
X.N.length,
Za4W=Za8H,
fun b o _ _ hc q _=>·,
fun x s₄ h₄=>·,
#[atj,#[a8K,#[amU,h₄,fun _ s₅ h₅=>Zg (Zg #[db,h₅])]]],
.compStart,
#[Q7,Za8M,it1],
codeAny_of_tree,
aXL (Za8O ?_),
And.intro,
Zg (Za8Q rfl ·),
(ZN h (fun it' s' h'=>#[a8R,h']) Zm2),
List.getElem?_eq_none,
ks.Nodup,
fun x hx y hy e=>·,
if · then 1 else 0,
#[a8W,f=u],
List.mergeSort_perm,
(Za8Y l _),
(by simp[gv]),
List.mem_flatten.mp,
List.mem_flatten.mpr,
Nat.le_succ_of_le,
⟨#[Ou,Zd _ (Zhe a ha)],Za83 Zts⟩,
List.length_pos_iff.mpr,
loadIfAlive,
(by assumption),
Builtin.SmallTypes.ownedTupleIsFree,
#[hQ,Za88 #[aj,z]],
ts.Nodup,
PySem.F.slot_dict_itemiterator_iter,
PySem.F.slot_dict_items,
call_meetsIn,
Za9b aXp · PySem.F.entry_dict_get · · ·,
#[a9c,ZOt,(PySem.F.args_dict_get_3 _ _ _),·,·],
cs.length,
Za9e=ZNS->·,
Nat.succ.inj,
∀ (q:Addr)(B:HA)(H':Hp),·,
Nat.log2_lt,
(Za9i h0).mpr,
Za9j (Zz hi ZkE),
List.eq_nil_of_length_eq_zero,
16777216,
ZlE=Za9m,
(by rw[Y5];have sl:Za9n:=ZQ;lia),
Nat.mul_le_mul_right,
Za9p _ (Zas0),
s'.heap.Ns,
-1114595852176638264772398099,
-14029467366897019727,
· = Za9t*·+Zdq*·,
862499473087128762802838249,
862499473087128762802838250,
3484413306444098645847115629,
3484413306444098645847115630,
2410371294093258740978389387193132715,
#[GB,a+Za9z,s],
15576566623696079691,
·≠Za9B,
h1.trans,
#[jj,e,Za9D],
Y8 (Za9E),
9223372036854775808,
2870177450013471924,
#[amZ,·,Za9H],
#[a9I,r],
ks.filter,
specialOf,
wpAny_isInstance,
Y6 (Za9M (T:=·) (b:=Zae) · · ?_),
#[a9N,Zaka,⟨o,ho,·⟩,isSubtype_stop],
Obj.data_mapDictKeys,
reduceHash,
18446744073709551615,
#[g8,·,Za9R],
2305843009213693951,
·<Za9T,
Int.mul_left_comm,
Za9V f · ·,
-1755844984,
-1082452398,
(·=·/\·=·)\/(·=ZCt/\· = Za9X)\/(· = Za9Y/\·),
#[a9Z,c,a,d,b,ZxX,ZE',ZxX,(d:Int)-b=Zwo],
PySem.W.kla_fn,
h.FunFrames,
base'.get?,
I2.after,
Za94 hq',
PySem.W.CodeHd,
Za96 h c P,
PySem.W.Frag,
acc.Nodup,
gallopOf,
List.mem_reverse.mp,
ds.head?,
List.cons.inj,
x.cps.toList[i],
Array.getElem?_eq_none,
numbered,
Builtin.Str.partsBetween,
ne_true_of_eq_false,
(Y8 (Za_g h1)).trans,
(by simpa using z),
arr.toList,
x.cps.size,
(by simpa using hen),
Char.toNat,
String.ofList,
a.eq.symm.trans,
z.cps.toList.head?,
∀ c∈z.cps.toList,·,
#[a_q,tL c=Zae],
List.map_id,
y.cps.toList,
h.choose,
Nat.succ_le_succ,
· ZNX · (ns:=ns) #[SP,kO rv] (#[vP,Zv,hl,#[y4,(Za_v hz)]]) fun h' tk hS hk=>?_,
(by simp[sQ]),
w.cps.toList,
ps.foldl,
a.toList,
(Za_A++b.toList),
(∃ q,r=Zab q/\Fn (ZasE) Za_B q.toList)\/(·),
(by size_fits),
(Za_D),
callType_new,
F.slot_enumerate_next,
fun _ _ _ _ _ st h=>·,
#[a_H,· st h],
#[a_I,wpAny_pyIter_rangeiter],
wpAny_pyIter_enum,
wpAny_onRaise,
h1.extBut,
hl1.extBut,
Y6 (jz (Za_M ZQp D.i1z) (Za_N ZQp ZOx) hx fun h₂ h1₂ hs₂=>Zg (Zg ?_)),
h2.extBut,
D.i12.symm,
#[ars,Za_P,D.i2z,Za_Q],
D.TOi2.symm,
hl2.extBut,
#[ars,Za_T,ZOz,ZOA],
D.TOz.symm,
D.i2z.symm,
D.i1z.symm,
g5.IsTupleIter,
D.TOi1.symm,
F.entry_zip_next,
Heap.IsTuple.at,
(Za_1 · #[wt,k1 _ _ e]),
h₄.objs.size,
Array.size_push,
#[pJ,Za_4],
fun b o b0 b1 b2 b3 e=>·,
hS6.symm,
hS4.symm,
hS5.symm,
fun h3 acc' c' k3 s3 l3 n3 m3 p3 f3=>·,
fun b o b0 b1 b2 b3 b4 e=>·,
"list.extend.loop",
#[v0,(Zf_ Za'a #[ei,#[kF,S,z,res]])],
f.row.length,
(by simp[Ey]),
"max.loop",
(ZlL ZjU++ZlL ".loop" : String)=Za'e,
tryCatch,
#[ED,Za'g #[Sa,I] _],
wpAny_tryCatch,
Y6 (Za'i ·),
#[a'j,(W.done s _ _ · fun h1 t1 k1=>?_)],
#[a'j,(W.item · s _ _ Zah st fun u h1 t1 pu st1 k1=>?_)],
fun A outer s H args us vs Q E hr e0 hb r h=>·,
ds.countP,
∃ (as:ZeZ)(d:Dt)(ds:ZkT),H2 p=Zab Zats/\·/\#[T8,·]/\∀ c:Nat,(∀ f:Zas2,(∀ x,f x=Zae↔x=d)->c=Za'n f)->Q (Zag c) H2,
Prod.mk.inj,
(Za'p ·).1,
List.countP_congr,
z.cps.toList.all,
"MOST_PAIRS",
"Unknown",
"BadName",
f.names.length,
Za'w<=200,
List.map_nil,
List.replicate_zero,
List.flatten_nil,
Nat.zero_mul,
Nat.succ_mul,
"TooLong",
Array.eq_empty_of_size_eq_zero,
∀ (l:Addr)(H':Hp),·,
#[a'F,#[dT,Zgw,ZbU,·,Zeh]],
#[a'G,#[b0,l,·]],
#[a'G,cR H' l ·],
#[a'I,ZCL],
newTuple,
strSub_length_le,
z.cps.toList.take,
z.cps.size,
"partition",
mI.nextD,
b.length,
x.ki.kp.ob,
Builtin.Str.strSliceIndices,
partValue,
slicePicked,
(Za'U z l u Zac),
#[MN,Za'V],
Nat.min_eq_right,
#[cn,Za'X],
Array.toList,
#[vS,Z6 Za'Z d1],
"NoFigure",
"MOST_DIGITS",
"DIGITS",
"DEEPEST",
List.drop_eq_nil_of_le,
#[cn,Za'5],
Code.quiet_builtin,
(Za'7 _ ·),
xs.flatMap,
(Za'9 ZUd),
(Za'_++ZU8),
List.sum_append,
g.natAbs,
Zbab<10 ^ 100,
DecidableEq,
Zbad κ,
es.filter,
#[aX,Zbaf,xf],
"NoPlan",
"NoText",
"LINE_SIZES",
"NotNew",
(by injection z),
a.length,
"no: TooLong",
"no: AlreadyIn",
"abcdefghijklm",
[ZaJ "",Zaf Zb6,Zaf ZaG,Zao9,Zaf "Hey",Zaf Zbap],
#[eG,Zbaq],
#[p6,H,l1,Zbaq],
fun _ l ps r z=>·,
"no: Same",
"no: Met",
"no: NoGuest",
Ri ·=ZbC Zbaw,
fun f a b H' g t=>·,
#[bay,i _ _ (· f a b H' g t)],
"circle",
[Ze6,ZbaA],
(#[mi,ZbaB]),
"read_part",
#[QU,ZbaD],
"_law_left",
"_law_rings_here",
"_law_ring",
[ZbaH],
"_law_found",
"NoGuest.__init__",
"Hall.__init__",
"Hall.come",
(by simp[bf,e]),
"Hall.exchange",
∀ (B:HA)(m:Str),·,
(by simp[bf,ea,eb,eab,em]),
"Hall.dress",
"Hall.acquaint",
"Hall.guests",
T.sorted,
PyProof.Rows.boot_sorted,
"Hall.wears",
"Hall.met",
"Hall.twin",
st.circ.take,
List.getElem?_inj,
Wz.Paired.mapP',
"FigureBook.__init__",
"FigureBook.define",
"FigureBook.told",
"FigureBook.spread",
"FigureBook.check_names",
M_FigureBook_told,
"FigureBook.length",
"FigureBook.row_of",
(by have:=·;rw[·]at this;exact ·),
w1.trans,
"source",
fun A outer s H vs Q E hr h=>·,
fun f r hr t p H' g t' ht hf=>·,
fun hn H4 g4 t4=>·,
fun ls H3 hls s3 h3=>·,
PassesOwn.leaving,
af (dO Zbbf rfl · · ·),
(by simpa using dn),
(by simpa using nm0),
"Keeper.__init__",
"Keeper.state",
"Keeper.pairs_left",
"Keeper.left",
"Keeper.due",
"Keeper.come",
I.hall.ob,
"Keeper.exchange",
"Keeper.dance",
"Evening.__init__",
"Evening.say",
M_Evening_answer,
"Evening.answer",
M_Evening_dance_line,
M_Evening_name_line,
M_Evening_number_line,
r.cps.toList,
"Evening.dance_line",
M_FigureBook_spread,
fun f hf p H1 g1 t1 hF=>·,
"Evening.name_line",
M_FigureBook_define,
"Evening.number_line",
ki.kp.ob,
mH.rings.w0,
#[apx,ZbbH,ZlW],
(by simp[dF,e]),
(by simp[dF,e,hz]),
sA.trans,
#[cq,ZbbL,sB] s3,
Nat.add_sub_cancel_left,
fun b o e _ _ _=>·,
of_decide_eq_false,
PyProof.Rows.boot_min,
kp.trans,
Str.length,
List.length_eq_zero_iff.mp,
M_Evening_say,
fun z HK Q' hz sK kk=>·,
fun b o h1 h2 h3=>·,
∀ (v:V)(H7:Hp),·,
td5.mono,
s06.trans,
fun wd H7 wok s7=>·,
X1.ki.hall.tracked,
X.g0.seq,
"LONGEST_NAME",
∃ u,#[au,mg Zbb3,u]/\bE (Zag 12) u,
"LETTERS",
∃ u,#[au,mg Zbb5,u]/\bE (Zaf ZrQ) u,
PySem.W.findIn,
#[au,Zbb7 K #[aj,·] ·,·],
#[bb8,·,·,Zac],
#[bb8,·,·,#[Rd,·]],
#[bb_,·,ZaiS,Za7M],
Zbb7 K #[aj,C] ·=Zab ·,
#[bb',C],
#[bca,f,Zac],
#[bca,m,ZsN],
#[bb8,C,Zfw,ZsN],
PySem.W.keepIn,
Zbcf K ·=Zae,
#[bcg,Zpo],
#[bcg,#[aj,·]],
#[bcg,ZhS],
Zbcf X.K ·=Zae,
#[NJ,·/\#[bD,mg,Zpo]/\Zbch/\ZVd],
I.turned,
Zbcm (t':=·) · f0 f1 f3 f4 f5,
fun h' eb=>#[db,#[bcn,Zb4,#[ak2,eb b o hb e]]],
#[bcn,Zb4,#[ak2,ZaqX]],
wpAny_pyNext_range_end ZNX st (by have:n<=i:=hg;lia) Zbco,
· (knd:=Zys) ZNX st hat Zajt Zbco,
Zbcm #[ak2,kk b o (ZcU) e] f0 f1 f3 f4 f5,
Value.type,
Zbct ·,
#[oU,#[bcu,·],#[bcu,·]],
#[bcv,Zrv,·],
u=Zbct n,
∀ y∈sc.names,·,
#[bcy,y.2=·->·],
#[bcz,Zls,ZOb y.1=Zab Zls],
#[bcy,y.2≠·],
#[bcB,Ze2],
#[bcB,Zf4],
#[bcz,Zf4,∃ c,ZM_ y.1=Zab c],
#[bcz,Zf4,#[aqu,Ze2]\/#[aqu,Zf4]],
fun b o e n hb hx=>·,
#[bcG,?_],
#[bcG,ZR9 (I7.base.keep b o e n hb hx)],
"__name__",
x≠ZbcJ,
Builtin.SmallTypes.nextOf,
#[hQ,ZbcL #[aj,·]],
#[bcM,i1],
#[bcM,i2],
#[vY,#[i8,ZbcL,it]],
s2.heap.push,
ZamD=ZbcQ ZanD,
{ s2 with heap:=ZbcQ ZanD },
(ZbcS:Shared),
#[b7,Zam5,ZbcS],
SeqAt.EqAt,
ZbcV A s u v ·,
#[rU,#[bcW,·]],
ZbcV ZiN s us[j] us'[j] ·,
Zata->#[yn,y]->RD X.K H n x e->Zhf->ZeL->#[FZ,ZVr,#[bcW,k]],
bootBuiltins,
#[bD,Zbc0,·],
#[bc1,#[kq,T]],
∀ x:Str,ZbcK->mb x=Zbc0 x,
PySem.W.hasDictIn,
Zbc4 K C=Zae,
Zbc4 K ·=Zae,
noteFrame,
Zbc7 x env,
#[pF,(Zbc7 #[aj,e] env)],
List.range',
(Zbc_ k m),
#[bc',0].filter,
(Zbc_ · ·).filter,
(by simpa using hw),
h1 w (Zbdc),
(Zbdc),
#[FS,·,_,ZiC,Zbdd],
#[FS,·,ZTI,·,AW rx fx r fs w Zbde],
Nat.succ_pos,
Zbdh _,
(Zbdh _),
h2'.get?,
#[bc,Zbdk],
#[ee,Ztw,Zgz,Zbdl],
((by show Zbdk S=_;rw[eh2];exact Z3 _ hS' rfl)),
Builtin.Str.occurrences,
Zbdo x y 0 Ze8 1,
(Zbdo · · 0 · ·),
#[bdq,z,y,ZbK,ZasH],
!#[bdq,j,i,Za5G,1].isEmpty,
ns.foldl,
#[aW,(Zbdt ZQq [])],
#[aoI,Zj2]=Zbdt ZQq [],
#[sy,#[Uo,tk,Zhn _ Zbdu,#[Cc,hk b u Zxw e],(show #[mh,_,_,_,(Zhn _ Zbdu)] from hS)],q _ _ _ Zsx (by simpa using d1) (by simpa using d2)],
e.r.length,
#[rR,ZsG->Zbdx=e.n],
Zbdx=e.n,
#[rR,ZsG->cR H e.l e.r/\Zbdz],
fun b u q _ _ _=>·,
#[bdB,ZEy],
#[bdB,⟨u.slots,ZEy⟩],
PySem.W.plainOver,
ZbdE K ·=Zae,
ZbdE K C=Zae,
PySem.W.makesIn,
ZbdH K ·=Zae,
ZbdH K C=Zae,
g.FunFrames,
ZbdK B l,
#[arG,ZbdK B (env::ZbA),·,W3 ZaK g],
#[bdM,Sj g B e ZaiK ZaiL ZTQ],
wpAny_typeOf,
Y6 (ZbdO (T:=·) · ?_),
Y6 (ZbdO · ?_),
18131465553559158967,
11281517459552600064,
e=#[xG,ZbdR*u+ZbdS*v,·],
ZbdR*u+ZbdS*v,
b-ZajH=#[xG,ZbdU,t],
seqItems?,
#[ED,ZbdW #[aj,S]],
#[m',ZbdW #[aj,t]],
h.DictOf,
Zs3/\ZagH/\∃ vs,Zyq/\ZbdZ ZdR a vs,
∃ ts:·,#[ard,ZbdZ ZdR a (ZCD ·)],
FormattedValue_plain,
ZakN (Zbd2 (bS · ·)),
Zbd2 (bS ZkW ZhV),
#[mB,#[bd3,·,fun u5 s5 zz=>?_]],
PySem.W.kla_obj,
Zbd6 ZCX Zbg ZlS Zfr ZbT ZsQ ((ZcJ ZbcJ).getD Zay) c' ctv,
#[SZ,(ZMV (Zbd7))],
· f=Zab #[ava,Zbd6,c'],
(by have:=·;simpa using this),
#[bd_,#[ri,·]],
#[bd_,#[tI,hk]],
{ s with toks:=·,heap:=· },
#[beb,·,#[amn,#[Qj,Zf3,#[f5,·]]]],
#[m0,ZcN,#[beb,k,·]],
if _ then _ else _,
#[hI,(Zbee)],
(Zbee)=_,
IsRangeIter,
Zbeh _ _ · (·-Ztg) ·,
#[tM,tg,·,Zbeh h it · (Zbk-ZsZ) ·],
I.base.tbls,
Zbek b ps e,
⟨I.ok,Zvt,ZBR,#[FJ,ZbcH,ZbcH,ZBB,Zag7,Zag8,Zbek],·,·,Zrg,Zvu,ZpP,tracked ⟨·,·,·⟩ hs,by simpa using I.len⟩,
pendingOf,
Zben st'=Zben st,
(by simpa using h2),
· (i:=i) Zat8 (ZagM) (Zbep) hk,
fun j h1 h2=>#[vS,he j (ZagM) (Zbep)],
hI.typeIs,
Y6 (aQB (name:=ZyZ) Zbes aXx (aQK aXx Zbes F.entry_tuple_iterator_next ?_ (F.args_tuple_iterator_next_1 _)))]
#check[∀(vs:Zbr)(H:Hp)(Q:VK),0,
∀(K:PySem.W.Frag),0,
∀(pins:Ze0)(s:Shared)(σ:St)(H:Hp),0,
∀(I:Zi6),0,
∀{pins:Ze0}{σ:St}{H:Hp}{s:Shared},0,
∀(P:Program)(w:World)[1](mg:Zo6)(base:Heap),0,
#[vb,mG c ck ze cb P0 lp ql H0 H u B es es1 Y d bs bs1 tv],
∀{K:PySem.W.Frag},0,
∀(hf:ZamC:=by first | exact ZkP | exact ZYp | assumption),0,
∀{P:Program}{w:World},0,
∀{kvs:Zla}{vs:ZaH'}(r:Zyq),0,
∀(xs:Zbr)(H:Hp)(Q:VK),0,
∀[0](E_:XK),0,
∀{α:ZjL}{rd:ZKn},0,
∀(l:ZeF),0,
∀(M_FigureBook_check_names:#[aJr,12,(DJ cb cU 9)])(M_FigureBook_length:#[KQ,Zq9,12,ZaGQ])(M_FigureBook_row_of:#[KQ,Zq_,13,ZaGR]),0,
∀{H H':Hp},0,
∀{us:Zb'},0,
∀(pins:Ze0),0,
∀{ml:ZeF},0,
∀{bs:Zcu},0,
∀(_:Zadg)(_:ZnG)(_:ZaaH)(_:(#[tP,Zhd])),0,
∀(e:Addr)(A:EA)(D:KA)(B:HA),0,
∀{e:Addr}{A:EA}{D:KA}{B:HA},0,
∀(h_q:bV 32 (aZ y)=(ZAe,[32],aZ r))(h_1:ZLR)(h_2:ZKr)(h_3:ZQz)(h_4:Zni)(h_r:ZaCh)(h_p:ZaGY),0,
∀(mg:Zo6),0,
∀(p:Addr)(A:HA)(st:dM),0,
∀{kvs:Zuu}{xs:Zaog}(r:Zaut),0,
∀(dn:ZnH)(nm:ZGH),0,
∀{L:Zbp},0,
∀(bs:Zcu),0,
∀{xs:Zbr},0,
∀(H:Hp),0,
∀(ml:ZeF),0,
∀(l:Zbq),0,
∀{cs:ZeZ}{ci:Zil},0,
∀(h_0:ZaDE)(h_y:ZaCi)(h_p:bV 32 (aZ y)=(ZIc,[32],aZ z))(h_1:ZabO)(h_2:ZKr)(h_3:ZQz)(h_4:Zni),0,
∀(lt:ZaRG),0,
∀{H:Hp},0,
∀{xs:ZkZ},0,
#[vb,ZaEa],
∀{a:Addr},0,
∀(n:Nat),0,
#[vc,Zbr],
∀{ps:ZeF},0,
∀{b:Addr},0,
∀{d:Addr}[20]{tv:ZeQ}(x:ZEF),0,
∀(c6:#[aEY,10,(sv 9)])(fM:#[aMz,13,(uR 9)]),0,
∀(w m t:Addr)(wl ml:ZeF)(d:aX)(_:vs=#[kF,w,m,Zek])(_:#[aQ,w,#[bW,wl]])(_:ZaL3)(_:ZZ7),0,
∀{Q:ZfE}(hu:Zac9)[3](g:eE H a y o)(ry:Zhf),0,
∀{E:ZfE},0,
∀(E:ZfE),0,
∀{A:Around},0,
∀(hd:Za79:=by decide),0,
∀(C:Addr),0,
∀[0](E:XK),0,
∀(k:Addr)(A:KA)(_:#[nv,k])(_:ja ck H k A mI),0,
∀(P:Program)(w:World),0,
∀(ps:ZeF),0,
∀(c8:#[kH,c.C,Zq',3,Zl',(wD c)]),0,
∀{X:Cx},0,
∀(k:#[Tv,Zep,ZyE]),0,
#[nQ,xs=[Zcs]],
#[nQ,vs=[Zcs]],
∀{W:ZeF},0,
∀(P0:Addr)(lp:Pos)(ql:Str)(cF:Addr),0,
∀(_:Zfn<=ZbF)(_:∀ l S (n:Nat),Zgw->n<=Zfn->(n=Zfn↔ns.Nodup)->#[acD,ZVA]),0,
∀(cV:#[bb,ZLU,2,ZIX,zT]),0,
∀{t':Nat}[3](k:ZaI'),0,
∀{n:Nat},0,
∀(lo hi:Zgk),0,
∀(es:Zcv),0,
∀{op:CmpOp}{t:TE}(h:PC X op a b t)(h1:ZLw:=by first | exact GI _ (Zaw) (Zaw) | rfl),0,
∀(h_0:ZaDE)(h_y:ZaCi)[24](h_s:32∈aZ r)(h_w:Zt8)(h_l:ZJv)(h_b:ZRr),0,
∀(A:Around)(outer:Zc9)(s:Shared)[32],0,
∀{mg:Zo6},0,
∀{st:dM},0,
∀(h3:ZVC=#[kJ,z3]+V)(h4:ZaNI=#[kJ,z4]+V),0,
∀{α:ZjL},0,
∀(hN:X.N.Nodup)(hi:Znw)(hx:Zamz),0,
∀(L:Zbp),0,
∀(fs:Zb9),0,
∀(ha:ZAw)(hv:ZaL8)(hs:#[a7f,(ZBh o f ZnR)]),0,
∀{tl:TE}(hl:PE X l tl),0,
∀(a:Addr),0,
∀(da:#[K_,Zll,1,Lj]),0,
∀(us:Zb'),0,
∀{kvs:Zip},0,
∀{c:HX}{ck ze:Addr},0,
∀(k:ZaAl),0,
∀{kindOf:Str->#[gh,Za1P]}{x:Str},0,
∀{f:Zact},0,
∀{es:Zcv},0,
∀{p:Addr}{f:ay}(h:ZFA),0,
∀(fO:#[bb,ZLV,1,[ZbS],FD]),0,
∀{op:CmpOp}{r:R2}(ho:ZaND)(ha:ZKd)(hb:ZAX)(hm:ZLw),0,
∀(src:ZnJ),0,
∀(hi:Znw:=by rfl)(hx:Zamz:=by first | exact ZayF | exact ZBk rfl),0,
∀(z:Str),0,
∀(gG:#[bb,ZBl,1,Zzc,xW]),0,
∀(elt t0 i0:Expr)(c0:Zbv)(t1 i1:Expr)(c1:Zbv)(scope:Scope)(pos:Pos)(it acc:Value),0,
∀(b p:Addr)(A:BA)[30](f:ay)(_:ZaIE),0,
∀(w:Addr)(W:ZeF)(_:#[nv,w])(_:#[aQ,w,#[bW,W]])(_:ZaB2)(_:Ih W),0,
∀{s':Shared}{σ7:St}{H7:Hp},0,
∀(S:Zafx),0,
∀(d it:Addr)(o:Obj)(kvs:Zip)(ep:Nat)(hep:Za0f),0,
∀(he:Zhk),0,
∀[22](st:dM)[98](q:mH)(h_0:Zabn)(h_1:Zadc)(h_2:vh z q),0,
∀{w m ls:Addr}[76][19](e:ZSl),0,
#[vc,Zo0],
∀(s:ZbU),0,
∀{p:Addr}{A:HA}[76],0,
∀(hc:ZfU),0,
∀(od:Zgj),0,
∀(f:Zact),0,
∀(kvs:Zla)(k:κ),0,
#[vc,ZHR],
∀[26](a b:Int)(_:vs=[Zcs,ZkL,ZmN]),0,
∀{fp:ZeZ},0,
∀{kvs:Zuu},0,
∀(_:ZqV)(_:#[cp,#[eG,zs]])(_:#[aBm,zs.length]),0,
∀(_:ZZ6)(_:#[xC,H,ZcK,(gf es)]),0,
∀(k:Zaam)(m:Zabd),0,
∀(eC:#[kH,c.C,ZcQ,4,Zr2,(JN c)]),0,
∀(iT:#[bb,ZLW,2,[ZbS,ZnS,ZLX],Fv]),0,
∀(iS:#[aWK,ZLY,Ft]),0,
∀(hs:#[a7e,e,(Zab (ZeT x ZnR))]:=by rfl)[8],0,
∀(lt:ZIJ),0,
∀{g:Int}(h:ZmO),0,
∀{r:ZeF},0,
∀[78](J:ZjE)(R:ZKn)(At:ZaRT)[55],0,
∀{α β:ZjL}{F:ZaLV},0,
∀(h3:ZVC=#[kJ,z3]+ZLZ),0,
∀(lC:#[aWK,ZL0,Pt]),0,
∀(e:ZYw),0,
∀(hu:ZagD+1<Zlm),0,
∀(h1:ZafP),0,
∀{l:Zbq}{n c:Nat}(h:ZaSl)(hc:#[pz,l[n]?]),0,
∀(h:Heap),0,
#[Bm,ZAP],
∀(hq:#[ao',vg B l e c od g]),0,
#[aSZ,#[anu,xl,xh]],
∀(fR:#[afB,ZBn,Zall,Fw]),0,
∀(Cquadrille:#[jv,ZL1,2,ZLA,ZaLD]),0,
∀(Q:#[gq,Zb3]),0,
∀(dP:#[bb,ZL2,1,Zads,(JL K)]),0,
∀{m:Zo6},0,
∀[37](a b:Zlo),0,
∀(ha:ZKd),0,
∀{k:Addr}{A:KA},0,
∀[54][32](b:Addr)(A:BA)[30],0,
∀(c:HX)(ck ze:Addr)[32][22],0,
∀(jv:#[bb,ZL3,3,ZaFK,JQ]),0,
∀{h:Heap},0,
∀(s:Shared),0,
∀(s':Shared),0,
∀{pos:Pos},0,
∀(sp:Sp)(dvs:Zbr)(E:XK),0,
∀(p:Addr),0,
∀(ok:ZJp),0,
∀(hG:#[jv,ZL4,38,Zavl,ZaZx]),0,
∀[75]{base:Heap}{CX:Cf}{k:Nat}{f:Addr}{fd:FuncData}{ps:Zbo},0,
∀(lD:#[bb,ZL5,1,Zadt,Py]),0,
∀(c:Zil),0,
∀{u:Value},0,
∀(ps:Zbo),0,
∀(ns:Zbp),0,
∀(g:Int),0,
∀{l:ZeF},0,
∀(w:ZeF),0,
∀(ds:Zcv),0,
∀{ds:Zcv},0,
∀(p:ZgI),0,
∀[29][69][76](G:ZnG)(o:ZabJ)(hL:Zaak)(z:Sz n st),0,
∀(W:ZeF),0,
∀{fs:Zb9},0,
∀[32](Q:VK),0,
∀{ta:TA}{p pos:Pos}(hg:Gl X Zvd)(hm:#[tC,Zvd]),0,
#[avq,td],
∀(st:dM),0,
∀{ts:ZeZ},0,
∀(a b:Int),0,
∀(kvs:Zip),0,
∀(hK:ZuZ:=by rfl),0,
∀(ck:Addr),0,
∀{x y z:V},0,
∀(e:ZayP),0,
∀{Q:ZfV},0,
∀(e:#[cp,Zej]),0,
∀(x:Str),0,
∀{e:Expr}{te:TE},0,
∀[9][7]{tg:Expr},0,
∀{ks:Zbp}(hk:∀ g∈ks,f g∈ks){g:Int}(hg:g∈ks),0,
∀{c:HX}{ck:Addr},0,
∀[38]{p:Addr}{f:bB}(h:ZLu),0,
∀[16](k:ZhK),0,
∀{C:Addr}[16],0,
∀(X:Cx)[18](σ:St),0,
∀[41]{D:nZ}{σ:St}[38],0,
∀(ks:Zbp),0,
#[nQ,Zafx],
∀{m c g:Int}(h:g∈ZeU m c),0,
∀(g:ZhK),0,
∀(fm:#[bb,ZL6,1,[ZeV],Pw]),0,
∀{us:ZeZ}{qs:ZYR}{R S:#[Xj,V×V]},0,
∀(s:ZLk),0,
∀[38]{a b:Addr},0,
∀(hi:PE X i ty),0,
∀[147][42](r:ZfX (Ziw Zln))(out:Zlo),0,
#[nQ,ZFA],
∀[2](x y:V)(v u:Value)(Q:VK),0,
∀[60]{pins:Ze0},0,
#[vc,Zlo],
∀(f1:Zavr)(t1:ZIY),0,
∀(c:Nat),0,
∀(fQ:#[bb,ZBo,1,[ZeW],Ll]),0,
∀[98](_:ZaaX)(_:Zii)(_:ZvF),0,
∀{H0:Hp}{w m ls:Addr}[19](x:ZSl),0,
∀(_:ZKr)(_:ZQz)(_:Zni),0,
∀(i:Nat),0,
∀[158][43](i:Int)(v:V)(e1:x=Zcs)(e2:y=Zdy),0,
∀{l:Addr},0,
∀[62](_:#[ff,ZeH]),0,
∀[91](hf:Vk f){K:Zbp}(hk:∀ g∈K,f g∈K),0,
∀(hN:N0=0\/N0=ZnT),0,
∀(s:ZHA),0,
∀{z:Str}{ds es:Zbq}(a:ZxN)(b:Num z es),0,
∀[60][41]{xs:Zo0}{i o:Expr}{ty:TE},0,
∀(X:Cx),0,
∀(CX:Cf)[5](N:Zbo)(qual:Str)(scope:Scope),0,
∀(neg:Bool)(x:V)(y:V)[176],0,
∀(p:_)(ys:_)[62](_:(bN K H p ys\/ZaGO)),0,
∀(ci:Zil),0,
∀{ci:Zil},0,
∀[149]{s:uX}{B:HA}[76](x:#[VF,s]),0,
∀[116](ts:ZaIa),0,
∀(gs:Zbp),0,
∀(os:Zbp),0,
∀(i7:#[bb,ZBp,1,[ZeW],wC]),0,
∀[69](hn:n<=9),0,
∀(fs:ZoZ),0,
∀{y x:V}{u v:Value},0,
∀{P:Addr}[156]{qual:Str}(x:ZJV),0,
#[Bm,Zaei],
∀(w:Str),0,
∀{C:Addr}[38][45]{A:BA}[20](B:ZRt),0,
∀(M:ZSl),0,
∀(B:Heap)(l:Zc9)(e:Addr)(c:Value)[113],0,
∀(prog:Program)(w:World),0,
#[vb,ZJp],
∀{i:Nat}{x:Str},0,
∀(ha:PT X a tA),0,
∀(v:Value),0,
∀(ry:Zhf),0,
#[vb,Zafx],
#[nQ,Zaz4],
∀[179](d:aX),0,
∀(hj:ZaD6),0,
∀[158][166][62](_:bN K H p Zym),0,
∀(k:Addr)(A:KA),0,
∀{c:Nat}(hc:c<256),0,
∀{x:ay×Nat},0,
∀(e:Addr)(A:EA)(Y:BA)[30](y r w z:Str)[73],0,
∀{s:Shared},0,
∀(x:V)(lo:Zgk)(hi:Zgk)[176],0,
∀{H H1 H2:Hp},0,
∀(ht:#[aKr,b∉fp]),0,
∀[64](P:Ih W),0,
∀[78](rd:ZKn),0,
∀(e:Zk7)(o:Zun),0,
∀{P:Zbo}{vs:Zb'}{i:Nat}[146],0,
∀[9][38][138](hb:ZagF<ZjM),0,
∀{g:Int},0,
∀{l:ZdZ}{m:ZW5},0,
∀{w:Str},0,
∀[22][71](Y:BA)[30][80],0,
∀(new:#[mh,Zp8,h',a,o]),0,
∀(Q:Zgr),0,
∀{its:Zb'},0,
∀[52]{C:Addr}[17]{kw:ZsH},0,
∀(tt0:TT)(wi1:TI)(g1:TG)(tt1:TT)(te:TE),0,
#[Bm,bs≠[]->∀ l ps,Zy8->l∉F],
∀[32](bk:Addr)(Y:BA)[30](w z:Str)(Q:VK),0,
∀(k:Nat),0,
∀[180]{ps:ZYR},0,
∀{C b:Addr}{Y:BA}[20](x:gZ C H b Y bs),0,
∀(l b:Addr)(xs zs:Zbr)(_:x=Zk2),0,
∀[186](eb:ZKD),0,
∀[38][180][39](h:ZafR),0,
∀(vs:Zbr),0,
∀(σ:St)[32],0,
∀(g:Int->Int->V),0,
∀(i j:Int)(e1:x=Zdy)(e2:y=ZzF),0,
∀(outer:Zc9)[57][32][154](Q:VK),0,
∀(l:Addr),0,
∀[60][4][41],0,
∀{names:Za1Q}{x:Str},0,
∀(wi:TI)(g:TG)(tt:TT),0,
∀(rs:ZRA),0,
∀{elts:Zbv}{kk},0,
∀(c:HX)[184],0,
∀{z:Str},0,
∀[158](f:bB)[63](_:ZLu)(_:f.Ok),0,
∀(ok:ZWq),0,
∀(hk:k=1\/(k<=20/\Zasj)),0,
∀[13][69]{l:Zbq},0,
#[vf,ZaOh],
∀(ta:ZQz),0,
∀(k:#[w_,Zx8]),0,
∀(b1:ZBq h1)(b2:ZBq h2),0,
#[aSZ,gX],
∀(m k:Nat)(arr:ZmK)(free:Nat),0,
#[avo,ZaHl],
∀{v:Value},0,
∀{α β:ZjL},0,
∀[9][38][153],0,
∀(H H':Hp),0,
∀(e:Zeq),0,
∀{x:Str}{v:V}[164][156](hg:Zeo),0,
∀(x y:V)[176],0,
∀[38][27](k:ZhN),0,
∀[178](he:ZaAR),0,
∀(h1:j<Zd2)(h2:j<ZagI),0,
∀{c:HX}[38][111]{d:aX}{Q:VK}{E:XK},0,
∀{w:ZeF},0,
∀[60]{tg:Expr}[1]{l:Expr}[83][183],0,
∀[114](N:Nat),0,
∀{x:Nat}(h:ZIq),0,
∀{base h:Heap}{f cy b:Addr}{o:Obj},0,
∀[274]{k:Nat}{x:Int},0,
∀[196][45]{A:BA}[20],0,
#[vf,#[zm,H,Q,R]],
∀(ev:fz c ck ze H e A D B ZX5),0,
∀[31][17],0,
∀(i:_)(j:_)(_:xs=#[co,i,j]),0,
∀[52](r:ZIp),0,
∀{as:ZeZ},0,
∀(hn:ZEq),0,
#[vf,ZaYS],
∀(te:TE),0,
∀{p:κ×V}{r:Zla}{k:κ},0,
∀[7][38][41][31]{ds:ZkT}[69],0,
∀[26][167](_:ZaMm),0,
∀{fs:ZoZ},0,
∀[69]{p:Addr}{f:ay},0,
∀[274](h:Zhg),0,
∀[109](ts:ZawH),0,
∀[41]{o:HO},0,
∀(hn:ZbcK:=by decide),0,
∀[54][86](kw:ZsH),0,
∀{binds:ZsH}[146],0,
∀[228](o:Expr)(m:Str)(apos:Pos),0,
∀(p:Params),0,
∀[301]{ds:Zbq}(h:ZxN),0,
∀(ne:Zlp≠[])(x:ZI6),0,
∀[32][22][71][30][80][98](Q:VK),0,
∀(S:ZZD)[42],0,
∀[45]{o:Obj},0,
∀{s' σ7 H7},0,
∀[14](g m:Int),0,
∀[283][165](sp:Sp),0,
∀[221]{o:HO},0,
∀(ea C:Addr)[113](B:Heap)[155],0,
∀{ea:Addr}{oe:Obj},0,
∀(B:HA)[179],0,
∀[171]{d:aX},0,
∀(κ:SortKind)(a0:Zlo),0,
∀{kv:Zip},0,
∀{l₁:ZdZ}{l₂:ZW5},0,
∀{o:Zgi}{u:Zo5},0,
#[avo,Zadg],
∀(a:ZaF'),0,
∀(R:ZYl),0,
#[vc,Zix],
∀[2](x:V)[43][252][86](Q:VK),0,
∀(a:FL xs i=Zab v)(h:Zz0),0,
∀(its:Zb'),0,
#[Bm,ZaYJ],
#[nQ,ZKW],
∀{prog:Program}{w:World}[52],0,
∀(h:PE X e t)(h2:ZadR),0,
∀(hX:#[dY,X]),0,
∀(f c':Addr)(y:Str)(cy:Addr),0,
∀[301](h:ZaFO),0,
∀[88][38][23][76],0,
∀[189](t:Tok),0,
∀[32][84],0,
∀(e:Expr),0,
∀{e:Expr}{t:TE}(h:PE X e t),0,
∀(lo:Int)[42],0,
#[vc,ZdZ],
∀[3](hH:ZqV),0,
∀[294][43](y:V)(_:x=Zk2),0,
∀[42](hu:ZagE),0,
∀(d:Addr),0,
∀{l:Zc9},0,
∀[199](b:Int),0,
∀[54][12],0,
∀(hn:#[adw,ZD9]),0,
#[vf,#[dY,a]],
∀(g:Zbp),0,
∀[16][221][129](h:ZI6),0,
∀[88][16][23],0,
∀(g:#[aUE,GR]),0,
∀[1][25],0,
∀(sc:Scope),0,
∀[228](es:Zbv)(t:TA),0,
∀(x:V)[32],0,
∀{D:nZ}{f:Flow}{s':Shared},0,
∀(f:Str),0,
∀{k:Nat}[52](r:d6 Zc6 A),0,
∀[1](T:String)[139](to:TE),0,
∀[10](k:κ),0,
∀{y:V}[164],0,
∀(vs:Zb'),0,
#[vf,Zlc],
∀(a b:Addr),0,
∀[14][167],0,
∀(X:ZqA),0,
∀(c:HX),0,
∀[104](w':ZeF),0,
∀(ks S:Zbp),0,
∀[45]{o:HO},0,
∀{f:bB}(ok:f.Ok),0,
∀(f:ay)[63][209],0,
#[avq,#[i8,tC,a]],
∀[16](k:ZHY),0,
#[Bm,ZaCb],
∀(hl:ZIK),0,
∀(q:ZaFk×ZaFB),0,
∀(h_0:vs=[Zaf w,Zs1]),0,
#[vb,ZnO],
∀(ln:Zni)(hn:ZmW),0,
∀[314]{F G:ZaLV},0,
∀[61](hp:ZaDo),0,
∀(fp:ZeZ),0,
∀(Q:ZfE),0,
∀{σ:St}[38],0,
∀{H':Hp},0,
∀(C:ZaLW)[291],0,
∀[54](m:Str),0,
∀(l:ZdZ),0,
∀{Q:ZfE},0,
∀(hu:Zac9)[3],0,
∀{es:Zbv},0,
∀(cs:ZeZ),0,
∀(k:#[agy,d]),0,
∀{st st':dM},0,
∀[127](p:ZmK)[283],0,
∀{N:Nat}(hN:K.length<=N),0,
∀[267][272](hg:g∈Zio),0,
∀(A:HA)[294],0,
∀(h3:x=xh*ZjN+xl),0,
∀(d:Nat)[34],0,
#[vb,ay×Nat],
∀{vs:Zbr},0,
∀(dj:#[agJ,ZF5]),0,
∀{q:mH}{s:Str}(h:s∉Nu),0,
∀(MH:WZ P w K mg ZaO c),0,
∀{mA:Zo6},0,
#[nQ,Znq],
#[nQ,ZqV],
∀(c:Int)(_:vs=[ZzE]),0,
#[vf,ZaDW],
∀(d:aX),0,
∀(R:#[c2,Zln,Zln]),0,
∀[147](out:Zlo),0,
∀{f:ay},0,
∀(n2:ZatM),0,
∀(bk:ZKr),0]
def Y5:type_of% Za1R:=Za1R
def Y6:type_of% Za1S:=Za1S
def Y7:type_of% Za1T:=Za1T
def Y8:type_of% @if_neg:=@if_neg
def Y9:type_of% @if_pos:=@if_pos
def Za:type_of% Za1U:=Za1U
def Zb:type_of% Za1V:=Za1V
def Zc:type_of% Za1W:=Za1W
def Zd:type_of% Za1X:=Za1X
def Ze:type_of% Za1Y:=Za1Y
def Zf:type_of% Za1Z:=Za1Z
def Zg:type_of% Za10:=Za10
def Zh:type_of% Za11:=Za11
def Zi:type_of% Za12:=Za12
def Zj:type_of% Za13:=Za13
def Zk:type_of% Za14:=Za14
def Zl:type_of% Za15:=Za15
def Zm:type_of% Za16:=Za16
def Zn:type_of% Za17:=Za17
def Zo:type_of% Za18:=Za18
def Zp:type_of% Za19:=Za19
def Zq:type_of% Za1_:=Za1_
def Zr:type_of% Za1':=Za1'
def Zs:type_of% Za2a:=Za2a
def Zt:type_of% Za2b:=Za2b
def Zu:type_of% Za2c:=Za2c
def Zv:type_of% Za2d:=Za2d
def Zw:type_of% Za2e:=Za2e
def Zx:type_of% Za2f:=Za2f
def Zy:type_of% Za2g:=Za2g
def Zz:type_of% Za2h:=Za2h
def ZA:type_of% Za2i:=Za2i
def ZB:type_of% Za2j:=Za2j
def ZC:type_of% Za2k:=Za2k
def ZD:type_of% Za2l:=Za2l
def ZE:type_of% Za2m:=Za2m
def ZF:type_of% Za2n:=Za2n
def ZG:type_of% Za2o:=Za2o
def ZH:type_of% Za2p:=Za2p
def ZI:type_of% Za2q:=Za2q
def ZJ:type_of% Za2r:=Za2r
def ZK:type_of% Za2s:=Za2s
def ZL:type_of% Za2t:=Za2t
def ZM:type_of% Za2u:=Za2u
def ZN:type_of% Za2v:=Za2v
def ZO:type_of% Za2w:=Za2w
def ZP:type_of% Za2x:=Za2x
def ZQ:type_of% Za2y:=Za2y
def ZR:type_of% Za2z:=Za2z
def ZS:type_of% Za2A:=Za2A
def ZT:type_of% Za2B:=Za2B
def ZU:type_of% Za2C:=Za2C
def ZV:type_of% Za2D:=Za2D
def ZW:type_of% Za2E:=Za2E
def ZX:type_of% Za2F:=Za2F
def ZY:type_of% Za2G:=Za2G
def ZZ:type_of% Za2H:=Za2H
def Z0:type_of% Za2I:=Za2I
def Z1:type_of% Za2J:=Za2J
def Z2:type_of% Za2K:=Za2K
def Z3:type_of% Za2L:=Za2L
def Z4:type_of% Za2M:=Za2M
def Z5:type_of% Za2N:=Za2N
def Z6:type_of% Za2O:=Za2O
def Z7:type_of% Za2P:=Za2P
def Z8:type_of% Za2Q:=Za2Q
def Z9:type_of% Za2R:=Za2R
def aQa:type_of% Za2S:=Za2S
def aQb:type_of% Za2T:=Za2T
def aQc:type_of% Za2U:=Za2U
def aQd:type_of% Za2V:=Za2V
def aQe:type_of% Za2W:=Za2W
def aQf:type_of% Za2X:=Za2X
def aQg:type_of% Za2Y:=Za2Y
def aQh:type_of% Za2Z:=Za2Z
def aQi:type_of% Za20:=Za20
def aQj:type_of% Za21:=Za21
def aQk:type_of% Za22:=Za22
def aQl:type_of% Za23:=Za23
def aQm:type_of% Za24:=Za24
def aQn:type_of% Za25:=Za25
def aQo:type_of% Za26:=Za26
def aQp:type_of% Za27:=Za27
def aQq:type_of% Za28:=Za28
def aQr:type_of% Za29:=Za29
def aQs:type_of% Za2_:=Za2_
def aQt:type_of% Za2':=Za2'
def aQu:type_of% Za3a:=Za3a
def aQv:type_of% Za3b:=Za3b
def aQw:type_of% Za3c:=Za3c
def aQx:type_of% Za3d:=Za3d
def aQy:type_of% Za3e:=Za3e
def aQz:type_of% Za3f:=Za3f
def aQA:type_of% Za3g:=Za3g
def aQB:type_of% Za3h:=Za3h
def aQC:type_of% Za3i:=Za3i
def aQD:type_of% Za3j:=Za3j
def aQE:type_of% Za3k:=Za3k
def aQF:type_of% Za3l:=Za3l
def aQG:type_of% Za3m:=Za3m
def aQH:type_of% Za3n:=Za3n
def aQI:type_of% Za3o:=Za3o
def aQJ:type_of% Za3p:=Za3p
def aQK:type_of% Za3q:=Za3q
def aQL:type_of% Za3r:=Za3r
def aQM:type_of% Za3s:=Za3s
def aQN:type_of% Za3t:=Za3t
def aQO:type_of% Za3u:=Za3u
def aQP:type_of% Za3v:=Za3v
def aQQ:type_of% Za3w:=Za3w
def aQR:type_of% Za3x:=Za3x
def aQS:type_of% Za3y:=Za3y
def aQT:type_of% Za3z:=Za3z
def aQU:type_of% Za3A:=Za3A
def aQV:type_of% Za3B:=Za3B
def aQW:type_of% Za3C:=Za3C
def aQX:type_of% Za3D:=Za3D
def aQY:type_of% Za3E:=Za3E
def aQZ:type_of% Za3F:=Za3F
def aQ0:type_of% Za3G:=Za3G
def aQ1:type_of% Za3H:=Za3H
def aQ2:type_of% Za3I:=Za3I
def aQ3:type_of% Za3J:=Za3J
def aQ4:type_of% Za3K:=Za3K
def aQ5:type_of% Za3L:=Za3L
def aQ6:type_of% Za3M:=Za3M
def aQ7:type_of% Za3N:=Za3N
def aQ8:type_of% Za3O:=Za3O
def aQ9:type_of% Za3P:=Za3P
def aXa:type_of% Za3Q:=Za3Q
def aXb:type_of% Za3R:=Za3R
def aXc:type_of% Za3S:=Za3S
def aXd:type_of% Za3T:=Za3T
def aXe:type_of% Za3U:=Za3U
def aXf:type_of% Za3V:=Za3V
def aXg:type_of% Za3W:=Za3W
def aXh:type_of% Za3X:=Za3X
def aXi:type_of% Za3Y:=Za3Y
def aXj:type_of% Za3Z:=Za3Z
def aXk:type_of% Za30:=Za30
def aXl:type_of% Za31:=Za31
def aXm:type_of% Za32:=Za32
def aXn:type_of% Za33:=Za33
def aXo:type_of% Za34:=Za34
def aXp:type_of% Za35:=Za35
def aXq:type_of% Za36:=Za36
def aXr:type_of% Za37:=Za37
def aXs:type_of% Za38:=Za38
def aXt:type_of% Za39:=Za39
def aXu:type_of% Za3_:=Za3_
def aXv:type_of% Za3':=Za3'
def aXw:type_of% Za4a:=Za4a
def aXx:type_of% Za4b:=Za4b
def aXy:type_of% Za4c:=Za4c
def aXz:type_of% Za4d:=Za4d
def aXA:type_of% Za4e:=Za4e
def aXB:type_of% Za4f:=Za4f
def aXD:type_of% Za4g:=Za4g
def aXE:type_of% Za4h:=Za4h
def aXF:type_of% Za4i:=Za4i
def aXG:type_of% Za4j:=Za4j
def aXH:type_of% Za4k:=Za4k
def aXI:type_of% Za4l:=Za4l
def aXJ:type_of% Za4m:=Za4m
def aXK:type_of% Za4n:=Za4n
def aXL:type_of% Za4o:=Za4o
def aXM:type_of% Za4p:=Za4p
def aXN:type_of% Za4q:=Za4q
def aXP:type_of% Za4r:=Za4r
def aXR:type_of% Za4s:=Za4s
def aXS:type_of% Za4t:=Za4t
def aXU:type_of% Za4u:=Za4u
def aXW:type_of% Za4v:=Za4v
def aXZ:type_of% Za4w:=Za4w
namespace L2
open PySem PySem.Spec PyProof.Rows
noncomputable abbrev cQ:=Sum Int Str
abbrev Ds:cQ->Zb_->Zb3
 | ZHw,v=>Za4x k v
 | ZHL,v=>Za4z x v
abbrev XD (w:World):cQ->Int
 | ZHw=>ZL7 k
 | ZHL=>hashStr w x
def dh:∀ {k:cQ}[313],Ds k v=Zae->(∃ i t,k=ZeX i/\v=ZTi)\/(∃ x t,k=ZfY x/\v=Za52)
 | Zam i,v,h=>by
  obtain⟨t,e⟩:=Value.isInt_shape (k:=i) (v:=v) h;exact Zam ⟨i,t,rfl,e⟩
 | ZHL,v,h=>by
  obtain⟨t,e⟩:=Value.isStrOf_shape (x:=x) (v:=v) h;exact #[pB,x,t,rfl,e]
def Mf (i:Int)(t:Tok):Ds (Zam i) ZFl=Zae:=by simp[Ds,Value.isInt]
def Mg [385]:Ds Zazn ZadT=Zae:=by simp[Ds,Value.isStrOf]
def Uc [181]:#[ly,ZaIP,(a == b)]:=by
 by_cases e:a=b
 ·subst e;simp
 ·have h:¬ ZaIP:=#[bl,e (ZL8 q)]
  rw[Zb h];exact (Ziy e).symm
def Uf (a b:Str):#[t7,ZaJM,a,b]:=by
 by_cases e:a=b
 ·subst e;simp
 ·have h:¬ ZaJM:=#[bl,e (ZL9 q)]
  rw[Zb h,Zb e]
def Ud (a:Int)(b:Str):#[lA,Ztt=ZfY b]:=Zb (fun q=>nomatch q)
def Ue (a:Str)(b:Int):#[lA,#[aud,ZeX]]:=Zb (fun q=>nomatch q)
abbrev aS [248]:PySem.KeyKind ZnU w cQ where
 is:=Ds
 hash:=XD w
 inj:=fun v a b ha hb=>by
  rcases dh ha with ⟨i,t,rfl,rfl⟩ | ⟨x,t,rfl,rfl⟩
  ·rcases dh hb with ⟨j,u,rfl,e⟩ | ⟨y,u,rfl,e⟩
   ·injection e with e1 _;rw[e1]
   ·exact nomatch e
  ·rcases dh hb with ⟨j,u,rfl,e⟩ | ⟨y,u,rfl,e⟩
   ·exact nomatch e
   ·injection e with e1 _;rw[e1]
 byValue:=fun k v h=>by
  rcases dh h with ⟨i,t,rfl,rfl⟩ | ⟨x,t,rfl,rfl⟩<;>rfl
 pyHash:=fun hv h=>by
  rcases dh hv with ⟨i,t,rfl,rfl⟩ | ⟨x,t,rfl,rfl⟩
  ·exact wpAny_pyHash_int h
  ·exact wpAny_pyHash_str h
 eqBool:=fun hu hv h=>by
  rcases dh hu with ⟨i,t,rfl,rfl⟩ | ⟨x,t,rfl,rfl⟩
  ·rcases dh hv with ⟨j,u,rfl,rfl⟩ | ⟨y,u,rfl,rfl⟩
   ·rw[Uc]at h;exact wpAny_eqBool_int h
   ·rw[Ud]at h;exact Za4A i t y u _ _ _ _ h
  ·rcases dh hv with ⟨j,u,rfl,rfl⟩ | ⟨y,u,rfl,rfl⟩
   ·rw[Ue]at h;exact Za4B x t j u _ _ _ _ h
   ·rw[Uf]at h;exact wpAny_eqBool_str h
 «strs»:=fun k x t v h=>by
  rcases dh h with ⟨i,u,rfl,e⟩ | ⟨y,u,rfl,e⟩
  ·exact nomatch e
  ·injection e with e1 _
   subst e1;cases v<;>rfl
def Go [248](i:Int)(t:Tok):ZaKw (Zam i) ZFl=Zae:=Mf i t
def fL [248][385]:ZaKw Zazn ZadT=Zae:=Mg x t
inductive V where
 | non | bl (b:Bool) | int (i:Int) | str [189] | byt (b:ZaxU) | flt (b:UInt64) | ref [84] | ty (n:String)
 deriving DecidableEq
abbrev bE:#[c2,V,Zb_]
 | ZaH,u=>Zadq
 | Zuc,u=>#[H',b]
 | Zdy,u=>ZZV
 | ZzH,u=>Za53
 | .byt b,u=>∃ t,u=Za4C b t
 | .flt b,u=>∃ t,u=ZagK b t
 | ZbV,u=>ZQK
 | .ty n,u=>Zbcx
noncomputable abbrev bF:#[c2,Zbr,Zb']:=Za0 bE
def bF.length [333](r:ZfS):ZaFG:=Zud
def bF.get:∀ [333]{i:Nat}{x:V},ZfS->ZOw->∃ u,#[au,ZagL,u]/\ZkX
 | _,_,_,_,Zan,e=>by simp at e
 | _,_,0,_,ZaC r _,e=>by simp at e;subst e;exact ZX8
 | _,_,i+1,x,ZadL,e=>by
  obtain⟨u,h1,h2⟩:=bF.get (i:=i) (x:=x) t (Zra);exact⟨u,ZagM,h2⟩
def bF.append:∀ {xs ys:Zbr}{us ws:Zb'},ZfS->bF ys ws->bF (xs++ys) (us++ws)
 | _,_,_,_,Zan,s=>s
 | _,_,_,_,ZnI,s=>ZaC r (ZagN t s)
def bF.take:#[aXh,xs.take,ZBs]
 | _,_,0,_=>Zan
 | _,_,_+1,Zan=>Zan
 | _,_,n+1,ZnI=>ZaC r (bF.take n t)
def bF.drop:#[aXh,ZagO,Zvg]
 | _,_,0,r=>r
 | _,_,_+1,Zan=>Zan
 | _,_,n+1,ZadL=>bF.drop n t
abbrev n9:#[c2,Zgi,Zo5]
 | Znh,Zab u=>Zfk
 | none,none=>True
 | _,_=>False
abbrev KV {κ:ZjL}:#[c2,Zla,ZaH']:=Za0 fun (p:κ×V)(q:κ×Zb_)=>p.1=q.1/\bE p.2 q.2
abbrev kV:cQ->V
 | Zam i=>Zdy
 | ZHL=>ZzH
inductive HO where
 | lst [43]
 | tup [43]
 | dK [182] | dT (kvs:Zuu)
 | set [356]
 | ins (C dx:Addr)[240]
 | own (x:Addr)
 | xd [240]
 | met (f x:Addr)
 | rng (lo hi:Int)
 | frz (o:Obj)(u:HO)
 | tbl (ps:Zix)
 | ext (φ:Zaz_)
noncomputable abbrev Hp:=ZeY->Zaxp
abbrev upd [386](o:HO):Hp:=fun b=>#[fh,b=a,o,H b]
def ac [38][347]:#[d1,a,o,a,o]:=by unfold upd;rw[ZaB]
def ai [206]{o:HO}(h:ZHp):upd H a o b=H b:=by unfold upd;rw[ZcG]
def lj [38][41]{o u:HO}:upd Zp8 a u=upd H a u:=by
 funext b;unfold upd;split<;>rfl
def dD [206]{o u:HO}(h:Zim)(h':#[cp,u])(d:o≠u):ZIr:=by
 intro e;subst e;rw[h]at h';exact d (Zl h')
def ao [206]{o:HO}(h:Zim)(h':Za9):ZIr:=by
 intro e;subst e;rw[h]at h';cases h'
abbrev oR [138][84](items:Zix):Zaa:=∃ o,ZGe/\ZyF/\∃ n,(Zhm,o.dict)=(Data.seq ZnV n,ZaKA)
def oR.old [153][41]{items:Zix}(x:oR h a ZnV):ZBu h a ZnV:=let ⟨o,e,c,n,d⟩:=x;⟨o,e,c,n,#[a'q,d]⟩
def oR.new [138](items:Zix):oR (h.push #[Qj,Zf3,ZnV]) ZjM ZnV:=#[ci,_,Zct,_,rfl]
section
variable (P:Program)(w:World)
abbrev bQ [32][138][84]:HO->Zaa
 | Zbw xs=>#[aE9,Zy_/\#[mL,ZatQ]]
 | ZcR xs=>#[TX,∃ its:Zb',Zy_/\oR h a ZbJ]
 | .dK kvs=>Zbd0
 | .dT kvs=>Zs3/\ZagH/\∃ xs:Zaog,
   Za0 (fun (p:ZhN×V)(q:ZhN×Zaof)=>ZaXX) kvs xs /\
   ∃ o es ep,ZGe/\o.ExactDict/\Zadh/\ZajL/\(xs.map (·.1)).Nodup
 | Zad9=>h.SetOf Zak0 a S n
 | Zfo C dx fs=>ZaL4/\Zer<=ZbF/\dx≠a/\#[mL,ZaqT] /\
   ∃ mA,Zae'/\ZaHG/\PySem.Within mA (fs.map (·.1))
 | Ziz _=>Zavt
 | .xd fs=>∃ mA,h.Ns1 a mA/\∀ f,ZauR
 | .rng lo hi=>∃ t u v,Zep a=some { cls:=Zve,data:=Za1 #[Ziu,Zir,ZuN] }
 | ZiA o u=>ZGe/\bQ H h a u
 | Ze1 ps=>ZaBE
 | Zlq f x=>#[mL,#[abH,Zg4]]
 | Zvj φ=>φ h/\(Zavt)/\∀ h1 h2:Zvk,φ h1->(∀ o,#[hP,ZL_]->#[hP,Zvm])->φ h2
abbrev oQ [32][138]:Zaa:=#[vn,Zim->ZJg]
#where
section
variable {P:Program}{w:World}{H H':Hp}{h h':Heap}{a:Addr}{o:HO}
def bQ.lt (x:ZJg):ZaBx:=by
 cases o with
 | lst xs=>obtain⟨_,_,_,_,e⟩:=x;exact Zb2
 | tup xs=>obtain⟨_,_,_,p⟩:=x;exact p.old.lt
 | dK kvs=>obtain⟨_,_,_,_,o,_,_,e,_⟩:=x;exact Zb2
 | dT kvs=>obtain⟨_,_,_,_,o,_,_,e,_⟩:=x;exact Zb2
 | set S n=>obtain⟨o,_,_,_,e,_⟩:=x;exact Zb2
 | ins C dx fs=>obtain⟨_,_,_,e,_⟩:=x;exact Zb2
 | own y=>obtain⟨_,e⟩:=x;exact Zb2
 | xd fs=>obtain⟨_,⟨_,_,_,e,_⟩,_⟩:=x;exact Zb2
 | rng lo hi=>obtain⟨_,_,_,e⟩:=x;exact Zb2
 | frz ob u=>obtain⟨e,_⟩:=x;exact Zb2
 | tbl ps=>exact ZaLN
 | met f y=>exact ZaLN
 | ext φ=>obtain⟨_,⟨_,e⟩,_⟩:=x;exact Zb2
def Paired.mapP [433]:#[aZn,F a b->G a b]
 | _,_,Zan,_=>Zan
 | _,_,ZnI,f=>ZaC (f _ _ r) (Zvp t f)
def bQ.stay (x:ZJg)(k:#[lr,(b=a\/#[cp,ZF_])->Zas1->ZyE])
  (ho:∀ b,#[xJ,ZF_,ZF_]) (ht:ZLl):bQ P w H' h' a o:=by
 induction o with
 | lst xs=>obtain⟨z,its,n,r,e⟩:=x;exact⟨z,its,n,r,Zjz⟩
 | tup xs=>obtain⟨z,its,r,ob,e,c⟩:=x;exact⟨z,its,r,ob,Zjz,c⟩
 | dK kvs=>obtain⟨z,y,vs,r,ob,es,ep,e,c⟩:=x;exact#[a0U,vs,r]
 | dT kvs =>
  obtain⟨z,y,xs,r,ob,es,ep,e,c⟩:=x;exact#[a0U,xs,#[vq,r,fun p q z=>ZaXf]]
 | set S n=>obtain⟨ob,es,ep,t,e,c⟩:=x;exact⟨ob,es,ep,t,Zjz,c⟩
 | ins C dx fs =>
  obtain⟨d,z,ne,e,mA,⟨od,es,ep,e2,c⟩,r⟩:=x;exact⟨ho _ d,z,ne,Zjz,mA,#[aXj,k _ _ (Zap d) e2],r⟩
 | own y=>obtain⟨ob,e⟩:=x;exact⟨ob,Zjz⟩
 | xd fs=>obtain⟨mA,⟨od,es,ep,e,c⟩,r⟩:=x;exact⟨mA,#[aXj,Zjz],r⟩
 | rng lo hi=>obtain⟨t,u,v,e⟩:=x;exact⟨t,u,v,Zjz⟩
 | frz ob u ih=>obtain⟨e,q⟩:=x;exact⟨Zjz,ih q⟩
 | tbl ps =>
  have e:ZaBE:=x
  show #[SD,ZatP]
  exact ZaV7
 | met f y =>
  have e:#[mL,#[abH,#[aj,y]]]:=x
  show #[SD,#[abH,#[aj,y]]]
  exact ZaV7
 | ext φ=>obtain⟨p,⟨o,e⟩,st⟩:=x;exact⟨st _ _ p fun o q=>k _ _ ZhO q,#[hX,Zjz],st⟩
def oQ.lt [249](e:Zim):ZaBx:=#[abp,0].lt
def oQ.fresh [249](e:ZaDo):Zm7:=by
 cases q:H a with
 | none=>rfl
 | some u=>exact #[qB,(Zz (x.lt q) e)]
def oQ.kept [249][61]:#[ta,h']:=fun a o e =>
 #[abp,0].stay (fun b u _ q=>ZEy) (Zyt) ZMk
def oQ.laid [249][434](new:bQ P w Zp8 h' a o):oQ P w Zp8 h':=fun b u e=>by
 have hn:=x.fresh hp
 by_cases hb:b=a
 ·subst hb;rw[ac]at e;cases e;exact new
 ·rw[Zfi]at e
  exact #[aYy,x]
#where
abbrev Rd [386](u:HO):Zaa:=#[eg,u]\/∃ o,#[eg,Zyj]
def Rd.of [38][41]{u:HO}(h:#[eg,u]):Zae2:=Zt4
def Rd.ok [315][41]{u:HO}(r:Zae2)[249]:#[p0,u]:=by
 rcases r with r | ⟨o,r⟩
 ·exact x a u r
 ·obtain⟨_,q⟩:=x a _ r
  exact q
abbrev VD:Zaxp->Zaa
 | #[tW,Zbw]=>True
 | #[tW,.dK]=>True
 | #[tW,.dT]=>True
 | Zab (Zhn _ _)=>True
 | Zab (Zfo _ _ _)=>True
 | #[tW,Zvj]=>True
 | _=>False
section
variable {P:Program}{w:World}{H:Hp}{h h':Heap}{x e:Addr}{o':HO}
def oQ.write (ok:ZJp)(mu:ZaeM)(he:Zafv)(k:ZaJQ)(heo:Zafc)
  (new:bQ P w ZaEN h' x o'):oQ P w ZaEN h':=fun b u q=>by
 have nown:∀ c y,#[aQ,c,(Ziz y)]->c≠x:=fun c y r z=>by subst z;rw[r]at mu;exact mu
 have ntup:∀ c xs,#[aQ,c,Zej]->c≠x:=fun c xs r z=>by subst z;rw[r]at mu;exact mu
 by_cases hb:b=x
 ·subst hb;rw[ac]at q;cases q;exact new
 ·rw[Zfi]at q
  by_cases hbe:b=e
  ·have q':#[cp,Ztl]:=by
    rcases he with z | z
    ·exact #[oG,hbe.trans,z,hb]
    ·rw[hbe];exact z
   rw[q]at q';cases q';obtain⟨v,hv⟩:=heo;exact#[tQ,v,hbe,hv]
  ·refine #[tG,ok].stay (ZaKE) (fun c r=>#[ch,(nown c b r),r]) fun c xs r=>#[ch,(ntup c xs r),r]
   rcases hc with rfl | hc
   ·exact hbe
   ·rintro rfl
    rcases he with z | z
    ·exact nown c b hc z
    ·rw[hc]at z;cases z;exact hb rfl
#where
structure Un (fs ex:ZeZ)[316](h h':Heap):Zaa where
 keep:#[ee,Zeq,Za9,b∉fs->ZHN->Zgz]
 slot:#[ee,Zeq,Za9,ZzY->ZHN->ZaDc]
 free:#[g6,Zeq,Za9,ZHN,Zpa]
 there:#[kR,Zeq,ex,ZaA9]
 tups:ZLl
 frzs:ZaS6
 tbls:ZaZp
section
variable {fs fs' ex ex':ZeZ}{H H1 H2:Hp}{h h1 h2 h':Heap}{a x e:Addr}{o:HO}
def Un.any (u:#[AQ,H1,h1])[45]{ob:Obj}(q:Zep b=Zab ob)(n:Za9)(hx:ZHN):∃ sl,ZL_ b=Zab { ob with slots:=sl }:=by
 by_cases hb:ZzY
 ·exact u.slot b ob q n hb hx
 ·exact⟨Za4D,ZL' b ob q n hb hx⟩
def Un.kept [61]:#[AQ,H,h'] :=
 ⟨#[a4E,Zaaf],#[a4E,⟨Za4D,Zaaf⟩],fun _ _ _ n _=>n,fun b ob q _=>⟨ob,Zaaf⟩,ZMk,fun _ _ _ q=>q,fun _ ps q=>⟨#[],#[fp,q]⟩⟩
def Un.refl:#[AQ,H,h]:=ZagP ZMk
def Un.laid [434](hn:Zm7):#[AQ,Zp8,h'] where
 keep:=ZbdC
 slot:=ZbdD
 free:=#[Bv,#[SQ,(Zz (Zk q) hp),n]]
 there:=ZagS
 tups:=Zavx
 frzs:=Zavy
 tbls:=fun b ps q=>⟨#[],ZaHT⟩
def Un.write (mu:ZaeM)(he:Zafv)(k:ZaJQ)(heo:Zafc):#[AQ,Zab9,h']:=by
 have hx:∀ b,Za9->Zqf:=fun b n z=>by subst z;rw[n]at mu;exact mu
 have hb:∀ b,Za9->ZkV:=fun b n z=>by
  subst z;rcases he with r | r
  ·exact hx b n r
  ·rw[n]at r;cases r
 have hm:#[lr,#[cp,u]->¬ VD (Zab u)->Zqf]:=fun b u q nm z=>by subst z;rw[q]at mu;exact nm mu
 refine⟨#[a4F,ZaQZ],#[a4F,⟨u.slots,ZaQZ⟩],#[Bv,#[aE,ai (hx b n),n]],#[agR,?_],
  #[Ma,ZaAL],#[agT,ZaAL],fun b ps q=>⟨#[],by rw[ZauZ,q];simp⟩⟩
 by_cases hbe:b=e
 ·subst hbe;exact heo
 ·exact⟨u,k b u hbe q⟩
#where
abbrev Xa [138][32]:ZeZ:=ZaPM fun a=>#[ho,(H a)]
abbrev Ew [138][32]:Heap:=ZagU h (Xa h H)
def Mc [138][32]:#[nW,ZVp]=ZjM:=Za4G _ _
def AE [153][38][357][317](n:Za9):ZaDX :=
 PySem.W.hideAll_get _ e fun hm=>by
  have q:#[jl,(H b)]:=(ZagV hm).2;rw[n]at q;simp at q
def Rn [153][38][357](e:ZaDX):Zeq/\Za9:=by
 have e':Zeq:=Za4H (Xa h H) e;refine#[c7,e']
 cases q:H b with
 | none=>rfl
 | some x =>
  have hm:b∈Xa h H:=ZagW ⟨Zrb (Zk e'),by simp[q]⟩;have z:#[Vp,0].get? b=Zac:=ZagX (Xa h H) hm;rw[z]at e;cases e
structure Mod [404](base:Heap):Zaa where
 kin:ZnX ZaO
 glob:Zapg
 blt:∃ mb,base.Ns ZBw mb/\Zbc3
 nolimit:base.NoLimit
structure Cx where
 prog:Program
 w:World
 K:PySem.W.Frag
 mg:Zo6
 base:Heap
 A:Around
 N:Zbo
 s₀:Shared
 H₀:Hp
 env:Env
 outer:Zc9
 stack:Zc9
 ex:ZeZ
 fn:Str->Zb3
 calm:Bool
 pn:Ze0
 xe:ZfE
abbrev kN (l:Zc9):ZeZ:=l.filterMap (·.frame)
noncomputable abbrev Cx.fs [228]:ZeZ:=kN Zrc
abbrev VJ [405][189]:Zaa:=#[Oc,Zls]\/#[Oc,Ze2]\/ZZ9
abbrev To [405][189]:Zaa:=ZatI
abbrev Xn (env:Env)[138](m:Zo6)[189](u:Value):Zaa :=
 (#[SA,ZMb]/\#[bD,m,u])\/((#[adp,ZMb,ZMb])/\∃ c,ZU0/\h.IsCell c (Zab u))
structure Cx.Ok [228]:Zaa where
 mod:ZaIX
 kind:ZagY=ZBx
 glob:Za4J=Zlt
 blt:X.env.builtins=ZBw
 above:#[a4P,Zd3]
 inj:∀ x y c,ZYX->#[T0,c]->x=y
 has:∀ x,(#[adp,ZagZ,ZagZ])->#[GO,ZBz]
 cab:∀ x c,ZTR->ZYX->#[a4P,c]
 hd:ZfU->Za4K=Zac
 frames:Za4M=Zab ZdC
 stk:ZdC=Zrc\/(ZdC=ZaS::Zrc/\ZaLU)
 exf:∀ b∈X.ex,ZpO/\ZT9
 bs:#[ag2,Zaw3/\ZayW]
 bsz:X.base.objs.size<=Za4O
 noex:#[ag2,Zaqa]
 exfs:∀ b∈X.ex,ZX7
 funs:Za4S Zfq Zrc
 frf:∀ b∈X.fs,ZayW
structure aQ [228][18](σ:ZaaC)[32][154]:Zaa where
 ok:X.Ok
 os:s.os=X.s₀.os
 bare:ZaB0
 base:Un ZjO Zrd ZMc H X.s₀.heap ZaK
 loc:∃ m,Zag0 Zd3 m/\∀ [219][189](v:V),Znw->ZaH8->Zamx->∃ u,Zfk/\Xn ZaS ZaK m x u
 cell:#[BA,∃ v,ZaIl]
 free:#[aZ,Zd3]
 freeC:#[BA,#[aZ,c]]
 pin:∀ p∈ZSg,Za0D
 hok:#[aOf,ZaK]
 len:Za8I
section
variable {X:Cx}{pins:Ze0}{σ:ZaaC}{H H':Hp}{s:Shared}{h':Heap}
def Cx.Ok.nofr (ok:X.Ok)[357](e:#[bc,Zag1]):ZX7:=fun hb=>by
 have:=(ok.funs.mem hb).1;rw[e]at this;cases this
def aQ.bs [3]:#[ag2,ZaHQ]:=fun b o e =>
 ⟨ZMd b o ZaDR #[ay4,0].2 (I.ok.nofr e) Zay5,ZBB b o ZaDR #[ay4,0].2 Zay5⟩
def aQ.bk [3]:#[ag2,Zd6]:=#[apZ,I.bs]
def aQ.mod [3]:ZaIX:=I.ok.mod
def aQ.kIn [3]:Zag3 ZaK:=I.ok.mod.kin.keeps I.bk
def aQ.lt [3]:#[dV,Zd3]:=let ⟨_,hn,_⟩:=I.loc;hn.lt
def aQ.sz [3]:#[a4P,Zax]:=ZV ZnZ (ZBC I.lt)
def aQ.nofs [3][41](h:ZaDp):a∉ZjO:=fun hb=>by
 obtain⟨_,o,ho,_⟩:=Zazf;exact #[qB,(Zz (Zk ho) (ZV I.sz h))]
def aQ.cne [3]:#[BA,c≠Zd3]:=fun x c e z=>by
 obtain⟨v,o,ho,hd⟩:=ZKf;obtain⟨m,⟨o',es,ep,ho',hd',_⟩,_⟩:=I.loc;rw[z,ho']at ho;cases ho;rw[hd']at hd;cases hd
def aQ.funs [3]:Zre Zfq Zrc:=by
 have all:∀ (l:Zc9),(#[gK,kN l,Zayd])->Za4S Zfq l->Zre Zfq l:=by
  intro l
  induction l with
  | nil=>intro _ _;trivial
  | cons env r ih =>
   intro hs hl;obtain⟨hk,⟨L,o,hf,hn,ho,hd⟩,hr⟩:=hl;have hL:L∈ZjO:=hs L (by unfold kN;rw[List.filterMap_cons,hf];exact Ze);obtain⟨sl,e⟩:=ZMe L o ho (ZBD L hL) hL #[aF,ZMf L z hL];exact⟨hk,⟨L,_,hf,hn,e,hd⟩,ih (fun b hb=>hs b (by unfold kN;rw[List.filterMap_cons,hf];exact Zd _ hb)) hr⟩
 exact all Zrc (fun _ hb=>hb) Zag4
def aQ.stack [3]:Zre Zfq ZdC:=by
 rcases I.ok.stk with e | ⟨e,hf⟩
 ·rw[e];exact I.funs
 ·rw[e]
  obtain⟨m,hn,_⟩:=I.loc;refine ZaC (#[BE,ZjP]) hf hn ?_ I.funs;exact Zag5 (ZV ZBF ZnZ)
def aQ.stkSub [3]:#[Wx,b∈Zd3::ZjO]:=fun b hb=>by
 rcases I.ok.stk with e | ⟨e,hf⟩
 ·rw[e]at hb;exact Zd _ hb
 ·rw[e]at hb
  unfold kN at hb;rw[List.filterMap_cons,hf]at hb;exact hb
def aQ.stkFree [3]:#[Wx,Za9]:=fun b hb=>by
 rcases ZaN_ with e | hb
 ·rw[e];exact I.free
 ·obtain⟨_,o,ho,_⟩:=Zazf
  exact ZBB b o ho #[c',ZBD] #[aF,ZMf b z hb]
def aQ.step {g':ZXR}{t':Nat}{d':Drawn}{ch:ZeZ}(I:Zi6)
  (hch:Za4R)
  (keep:#[kR,ZpO,ZjO,ZzW->Zd6->Za9->Zgz])
  (slot:#[ee,ZpO,Zayd,ZzW->Zd6->Za9->ZaDc]) (free:#[g6,ZzW,Zd6,Za9,Zpa])
  (there:#[ee,ZzW,Zd6,ZaA9])
  (tups:ZLl) (frzs:ZaS6) (tbls:ZaZp)
  (ns:∀ m,Zag0 Zd3 m->h'.Ns Zd3 m) (hok:Zapw) (hg:ZaB1) :
  ZaZS:=by
 have neL:#[pd,ZBG,ZpO]:=ZLm
 have neC:#[kR,Zaw3,Zrd,ZzW]:=fun b o e hx hb=>by
  rcases #[kt,hch] with z | z
  ·exact hx z
  ·exact #[qB,(Zz Zxw z)]
 have cellK:#[BA,∀ v,ZaIl->h'.IsCell c v]:=fun x c e v ⟨o,ho,hd⟩=>by
  have nch:c∉ch:=#[aF,ZaZJ]
  by_cases hc:c∈ZjO
  ·obtain⟨sl,q⟩:=#[a0a,slot]
   exact#[bN,q,hd]
  ·exact⟨o,#[a0a,Zd4],hd⟩
 refine⟨I.ok,Zvt,hg,#[FJ,ZbcH,ZbcH,Zaso,#[ag6,tups b xs (Zag7 b xs e)],fun b o xs e=>frzs b o xs (Zag8 b o xs e),fun b ps e=>?_],?_,Zajw,?_,Zajw,ZpP,hok,ZBH⟩
 ·exact Zd4 b o Zay6 hb ZK6 (ZMd b o e n hb hx) Zaa2
 ·obtain⟨sl,e1⟩:=ZaaE
  obtain⟨sl',e2⟩:=slot b _ Zay6 hb ZK6 e1 Zaa2;exact⟨sl',e2⟩
 ·obtain⟨o',e1⟩:=ZNE
  exact Zrf b o' ZK6 e1 Zaa2
 ·obtain⟨o',e1⟩:=ZNE
  exact there b o' ZK6 e1
 ·obtain⟨m1,e1⟩:=Zbel
  obtain⟨m2,e2⟩:=tbls b _ e1;exact Zaf'
 ·obtain⟨m,hn,hl⟩:=I.loc
  refine⟨m,ns m hn,fun i x v e1 e2 e3=>?_⟩;obtain⟨u,r,l⟩:=hl i x v e1 e2 e3;refine#[cr,u,r];rcases l with l | ⟨k,c,e,z⟩
  ·exact Zam l
  ·exact #[pB,k,c,e,cellK x c e _ z]
 ·obtain⟨v,z⟩:=ZKf
  exact⟨v,cellK x c e v z⟩
 ·obtain⟨m,⟨o,_,_,ho,_⟩,_⟩:=I.loc
  exact Zrf _ o #[bZ,ZaMd rfl] ho Zrg
 ·obtain⟨v,o,ho,hd⟩:=ZKf
  exact Zrf c o #[bZ,ZaZJ] ho ZU'
 ·obtain⟨e,n,ne,nf,d⟩:=ZJF
  have nch:p.1∉ch:=#[aF,(hch p.1 z).2.2.2 p hp rfl];exact⟨Zd4 p.1 p.2 ne nf nch e n,Zrf p.1 p.2 nch e n,ne,nf,d⟩
def aQ.un {t':Nat}[3](u:#[aWF,H',h'])(hok:Zapw):ZaBo:=by
 obtain⟨m,⟨o,es,ep,ho,r⟩,_⟩:=ZYf;obtain⟨sl,hL⟩:=u.any ho Zrg (ZaA)
 exact I.step (g':=s.gens) (d':=s.drawn) (ch:=[]) (fun _ z=>nomatch z) #[aKF,ZL'] #[aKF,u.slot] (fun b o _ e n=>Zag9 b o e n Za7) (fun b o _ e=>Zag_ b o e Za7) u.tups u.frzs u.tbls (fun m' hm=>by
  obtain⟨o',es',ep',ho',r'⟩:=hm;rw[ho]at ho';cases ho'
  exact ZaYh) hok I.bare
def aQ.call {g':ZXR}{t':Nat}{d':Drawn}{ch:ZeZ}(I:Zi6)(u:Un (kN ZdC) ch H H' ZaK h')(hok:Zapw)(hg:ZaB1)
  (hch:Za4R) :
  ZaZS:=by
 obtain⟨m,⟨o,es,ep,ho,r⟩,_⟩:=ZYf;obtain⟨sl,hL⟩:=u.any ho Zrg #[aF,ZaMd rfl]
 exact I.step (ch:=ch) hch (fun b o hL hb hc e n=>ZL' b o e n #[bZ,(Zcw (Zag' b z)).elim hL hb] hc) (fun b o _ _ hc e n=>u.any e n hc) (fun b o hc e n=>Zag9 b o e n hc) (fun b o hc e=>Zag_ b o e hc) u.tups u.frzs u.tbls (fun m' hm=>by
  obtain⟨o',es',ep',ho',r'⟩:=hm;rw[ho]at ho';cases ho'
  exact ZaYh) hok hg
def aQ.turned {t':Nat}{it:Addr}(I:Zi6)(k:#[y9,ZXm])(hn:#[aZ,it])(hL:it≠Zd3)
  (h1:it∈Zrd\/#[a4P,it]) (h2:#[BA,c≠it]) (h3:#[Sh,it]):ZXZ:=by
 have nit:#[aKq,ZXm]:=fun b u e z=>by rw[z,hn]at e;cases e
 refine I.step (g':=s.gens) (d':=s.drawn) (ch:=[it]) (Zdx) (#[a4T,ZafA]) (#[a4T,#[aiQ,ZafA]]) (fun _ _ _ _ n=>n)
  (fun b o hc e=>#[hX,ZafA]) ZSw (fun _ _ _ e=>e) (fun b ps e=>⟨#[],ZGM⟩) (fun m hm=>?_) (ZGR) I.bare
 ·have e:Zju:=ZcU
  subst e;exact⟨h1,hL,h2,h3⟩
 ·obtain⟨o,es,ep,ho,r⟩:=hm
  exact#[aV4,k _ o (Zw hL) ho]
 ·refine (Zbe b u e).stay (fun c v hc q=>k c v ?_ q) (Zyt) ZMk
  rcases hc with z | z
  ·rw[z];exact nit b u e
  ·exact nit c _ z
def aQ.tok [3](t:Nat):#[i5,#[aha,t]]:=I.un (h':=ZaK) (t':=t) Un.refl Zbe
def aQ.kept [68]:ZXZ:=I.un (ZagP k) (Za4U k)
def aQ.laid [347][68](hp:ZaDp)[276] :
  ZaIf:=I.un (Un.laid k hp (Zn0 hp)) (I.hok.laid k hp new)
def aQ.write {x e:Addr}{o:HO}{t':Nat}(I:Zi6)(mu:ZaeM)(he:Zafv)(k:#[lr,ZkV->ZaAn->ZyE])(heo:Zafc)
  (new:#[mh,Zab9,h',x,o]):#[b7,Zab9,ZOi]:=I.un (Un.write mu he k heo) (I.hok.write mu he k heo new)
def aQ.pins_of {pins':Ze0}[3](h:∀ p∈pins',Za0D):#[afr,pins'] :=
 #[LO,I.ok,#[lu,ZaKI #[bZ,Zlv p ZaA3] (h p)]]
def GJ {N:Zbo}(hN:N.Nodup){i j:Nat}{x:Str}(a:#[dv,N[i]?])(b:#[dv,N[j]?]):i=j:=by
 obtain⟨h1,e1⟩:=Zrh a;obtain⟨h2,e2⟩:=Zrh b;exact (List.getElem_inj hN).mp (Za4V e2.symm)
def DK {M:Model}{A:Around}{E:ZfE}{i:Nat}{x:Str}{v:V}{u:Value}{Q:ZfV}(I:Zi6)(hN:X.N.Nodup)(hi:Znw)(hx:Zamz)(r:Zfk)
  (h:∀ s',ZaOn->(∃ a,#[at7,ZdD]/\(a=Zd3\/#[bD,ZBz,a]))->Q () s') (hf:ZamC:=by first | exact ZkP | exact ZYp | assumption):Za5n:=by
 obtain⟨m,hn,hl⟩:=ZYf
 have hcls:#[oT,ZagY == .class||(ZagY == .module&&Zd3 != Za4J)]:=#[bm,ZjP]
 have hiσ:i<Za4W:=#[aE,ZBH,ZYz]
 have cne:=I.cne
 have tracked:∀ [41]{h':Heap},(∃ o,#[hP,Zd5]/\Zm7)->ZaJH->#[aOf,h']:=fun {a h'} ha hs b ob e=>by
  obtain⟨_,_,hfree⟩:=ha;refine (Zbe b ob e).stay (fun c w' hc q=>(hs.2 c ?_).trans q) (Zyt) ZMk;rintro rfl;rcases hc with rfl | hc
  ·rw[hfree]at e;cases e
  ·rw[hfree]at hc;cases hc
 rcases hx with hk | hk
 ·refine wpAny_storeName_local hk hn (fun h' hn' hs=>?_) hcls
  obtain⟨oL,_,_,hoL,_⟩:=id hn;refine h _ #[bem,#[bN,hn',#[a4X,?_]],fun y c e=>?_,oL,hoL,Zrg] #[bN,hs,ZkP]
  ·exact #[aPO,ZnZ]
  ·obtain⟨sl,e1⟩:=ZaaE
   exact⟨sl,#[zg,ZnZ] e1⟩
  ·obtain⟨o',e1⟩:=ZNE
   exact⟨o',#[zg,ZnZ] e1⟩
  ·by_cases hj:j=i
   ·subst hj
    rw[hi]at e1;cases e1;rw[Za4Y hiσ]at e2;cases e2;exact⟨u,r,#[kv,hk,ZaA]⟩
   ·rw[ZaPP]at e2
    obtain⟨u',r',q⟩:=Za0c;refine ZaMF;rcases q with ⟨k,e⟩ | ⟨k,c,e,z⟩
    ·refine Zam #[c7,k]
     have:y≠x:=#[cj,hj (GJ hN e1 (e▸hi))];simp[this,e]
    ·exact #[pB,k,c,e,Za4Z hs ZaT3]
  ·obtain⟨w',z⟩:=Zrj y c e
   exact⟨w',Za4Z hs ZaT3⟩
  ·obtain⟨e,n,ne,nf,d⟩:=ZJF
   exact⟨(hs.2 p.1 ne).trans e,n,ne,nf,d⟩
 ·have hfn:ZTR:=by
   rcases hf with z | z
   ·exact z
   ·rw[z]at hk;cases hk
  obtain⟨c,hc⟩:=ZMg x (Zam hk);obtain⟨w',z⟩:=Zrj x c hc;refine wpAny_storeName_cell ZjP hk hc z (fun h' hc' hs=>?_);obtain⟨oc,hoc,hocd⟩:=id z;refine h ZlI #[bem,⟨m,Za40 hs (Zw (cne x c hc)),#[a4X,?_]⟩,fun y c' e=>?_,oc,hoc,Zvu x c hc] ⟨c,hs,Zap hc⟩
  ·exact #[aPO,Zagb]
  ·obtain⟨sl,e1⟩:=ZaaE
   exact⟨sl,#[zg,Zagb] e1⟩
  ·obtain⟨o',e1⟩:=ZNE
   exact⟨o',#[zg,Zagb] e1⟩
  ·by_cases hj:j=i
   ·subst hj
    rw[hi]at e1;cases e1;rw[Za4Y hiσ]at e2;cases e2;exact⟨u,r,#[pB,Zam hk,c,hc,hc']⟩
   ·rw[ZaPP]at e2
    obtain⟨u',r',q⟩:=Za0c;refine ZaMF;rcases q with q | ⟨k,c',e,z'⟩
    ·exact ZHx
    ·refine #[pB,k,c',e,z'.sameBut hs ?_]
     rintro rfl;exact hj (GJ hN e1 (ZMi _ _ _ e hc▸hi))
  ·by_cases hcc:c'=c
   ·subst hcc;exact#[aR,hc']
   ·obtain⟨w2,z2⟩:=Zrj y c' e
    exact⟨w2,z2.sameBut hs hcc⟩
  ·obtain⟨e,n,ne,nf,d⟩:=ZJF
   refine⟨(hs.2 p.1 ?_).trans e,n,ne,nf,d⟩;intro q;rw[q,hoc]at e;have q':oc=p.2:=Zl e;exact d w' (#[c_,q',hocd])
def B9 {M:Model}{A:Around}{E:ZfE}{i:Nat}{x:Str}{v:V}{u:Value}{Q:ZfV}(I:Zi6)(hN:X.N.Nodup)(hi:Znw)(hx:Zamz)(r:Zfk)
  (h:∀ s',ZaOn->Q () s') (hf:ZamC:=by first | exact ZkP | exact ZYp | assumption):Za5n :=
 DK I hN hi hx r (fun s' I' _=>h s' I') hf
def aQ.call' {s':Shared}{ch:ZeZ}(I:Zi6)(ho:ZabA)(u:Un (kN ZdC) ch H H' ZaK ZdD)(hok:ZaFr)(hg:Zamv)
  (hch:Za4R):ZqW:=by
 obtain⟨h',g',d',t',o'⟩:=s';have e:o'=s.os:=ho;subst e;exact I.call (g':=g') (t':=t') (d':=d') u hok hg hch
#where
noncomputable abbrev XK:=Zb_->Zgj->Hp->Zaa
noncomputable abbrev St:=ZaaC
noncomputable abbrev VK:=#[gq,V]
noncomputable abbrev TE:=St->Hp->VK->Zaa
noncomputable abbrev TT:=St->Hp->(#[gq,Zb3])->Zaa
noncomputable abbrev TA:=St->Hp->(#[gq,Zbr])->Zaa
structure nZ where
 nx:Zgr
 rt:VK
 bk:Zgr:=Zv6
 ct:Zgr:=Zv6
noncomputable abbrev TS:=nZ->St->Hp->Zaa
abbrev EP [197](Q:VK)(u:Value)[155]:Zaa:=∃ v H',ZqW/\Zfk/\ZHC
abbrev TP [197][144](b:Bool)[155]:Zaa:=∃ H',ZqW/\Q b H'
abbrev AP [197](Q:Zayt)[86][155]:Zaa:=∃ vs H',ZqW/\ZnB/\Q vs H'
abbrev SP [228][18](D:nZ)(f:Flow)[155]:Zaa :=
 match f with
 | Zrk=>#[abX,Zn1]
 | .brk=>#[abX,D.bk]
 | .cont=>#[abX,D.ct]
 | ZfZ u=>∃ v σ' H',Zyr/\Zfk/\D.rt v H'
abbrev PE [228][387](t:TE):Zaa :=
 ∀ [2](Q:VK),Zi6->ZtH->#[QQ,#[ky,e]]
abbrev PT [228][387](t:TT):Zaa :=
 ∀ [2][144],#[aWT,#[ky,e]]
abbrev PW [228][387](t:TT):Zaa :=
 ∀ (whole:Zx1)[2][144],#[aWT,whole]
def PW.pt [60]{e:Expr}{t:TT}(h:PW X e t):PT X e t:=h _
abbrev PA [406]:Zaa :=
 ∀ (pos:Pos)[2](Q:Zayt),Zi6->ZtH->#[w5,(Zahc #[amb,pos,es]),#[QO,AP]]
abbrev PS [228](st:Stmt)(t:TS):Zaa :=
 #[aXp,exec]
abbrev FK [228](st:Zih)(t:TS):Zaa :=
 #[aXp,execs]
def bS [78]{t:Sem α}{Q Q':#[fD,α]}{M:Model}[52][50][263](h:#[pF,t])(hQ:∀ a s,Q a s->Q' a s):#[fF,M,t,Q']:=ZN h hQ Zm2
section
variable {X:Cx}
inductive TV [219](σ:St)[176]:Zaa
 | mk (v:V)(e:ZaH8)(h:Zz0)
abbrev HL [219]:TE:=#[ahd,TV i σ H Q]
abbrev tC (v:V):TE:=#[ahl,Zz0]
def O4 [250][156](hN:Znw)(hv:Zamx)[53](hcd:ZZl:=by decide):ZaEM:=by
 intro pins s σ H Q I h;obtain⟨v,e,h⟩:=h;obtain⟨m,hn,hl⟩:=I.loc;obtain⟨u,r,l⟩:=hl i x v hN e hv;have fin:#[m0,u,s]:=ZaeW;rcases l with ⟨hk,hm⟩ | ⟨hk,c,hc,hcell⟩
 ·exact #[a44,Za41,hn,hm]
 ·rcases hk with hk | hk
  ·exact #[a44,Za42,hc,hcell]
  ·exact Za43 (wpAny_loadName_free ZjP hk hc hcell fin hcd) hd
def aj {i j pos}:#[KM,Zay9,(tC (Zag i))]:=#[aQm,Za45,Zdy]
def tQ {b j pos}:#[KM,(Zes b),(tC (.bl b))]:=#[ahp,Constant_bool,#[mG,Zuc,h]]
def ji {j pos}:#[KM,Zay,(tC ZaH)]:=#[ahp,Za46,#[mG,ZaH,h]]
def ak {x j pos}:#[KM,ZYr,(tC (Zaf x))]:=#[aQm,Calls.Constant_str,ZzH]
abbrev Gl [228][189]:Zaa:=#[bD,ZagZ,.globalImplicit]
def jN {E:ZfE}{pins:Ze0}{s:Shared}{σ:St}{H:Hp}{x:Str}{u:Value}{pos:Pos}{Q:ZfE}(I:Zi6)(hg:Zeo)(hm:Zaay)(h:Q u s)
  (hd:Za79:=by decide):ZaEu :=
 #[aV3,(Calls.loadGlobal_global Za6S hm h)]
def j8 {E:ZfE}{pins:Ze0}{s:Shared}{σ:St}{H:Hp}{x:Str}{u:Value}{pos:Pos}{Q:ZfE}(I:Zi6)(hg:Zeo)(hm:ZAW)(hv:#[bc1,u])(h:Q u s)
  (hn:ZbcK:=by decide) (hd:Za79:=by decide):ZaEu:=by
 obtain⟨mb,h1,h2⟩:=I.mod.blt;exact #[aV3,(Calls.loadGlobal_builtin Za6S hm #[bj,Zahn,Za48 I.bk] ((h2 x hn).trans hv) h)]
def wm [318](hm:Zaay)(r:Zfk)[53]:Zab8 :=
 #[aho,jN I hg hm ZaeW hd]
def Ru [318](hm:ZAW)(hv:#[bc1,u])(r:Zfk)[348][53]:Zab8 :=
 #[aho,j8 I hg hm hv ZaeW hn hd]
variable {a b:Expr}{ta tb:TE}{pos:Pos}
abbrev PC [228](op:CmpOp)(a b:Expr)(t:TE):Zaa :=
 ∀ [2](Q:VK),Zi6->ZtH ->
  #[aZ8,(Zahq op v u),ZQP]
def GI (b:Expr){op:CmpOp}(h:ZaFM)(h2:ZaFN):ZLw:=by
 have e1:ZaGh:=by cases op<;>first | rfl | exact #[oF,h]
 have e2:ZaGi:=by cases op<;>first | rfl | exact ZZq
 cases b<;>simp[behindInMarks,e1,e2]
abbrev Ya (ta:TE):TE:=#[ahg,Q (.bl (Zlw (x=ZaH))) H1]
abbrev WP (ta:TE):TE:=#[ahg,Q (.bl (!#[lx,x=ZaH])) H1]
def bE.none_iff {x:V}[313](r:ZeL):(v == ZjQ)=#[lx,x=ZaH]:=by
 cases x with
 | non=>cases r;rfl
 | bl _=>cases r;rfl
 | int _=>obtain⟨t,rfl⟩:=r;rfl
 | str _=>obtain⟨t,rfl⟩:=r;rfl
 | byt _=>obtain⟨t,rfl⟩:=r;rfl
 | flt _=>obtain⟨t,rfl⟩:=r;rfl
 | ref _=>cases r;rfl
 | ty _=>cases r;rfl
def xP {j pos'}[148]:#[aWQ,.Is,Ya]:=by
 intro pins s σ H Q I h;refine ZadU;obtain ⟨x,H1,I1,r1,q1⟩:=zz;exact #[a47,is_none_gen]
def Rt {j pos'}[148]:#[aWQ,.IsNot,WP]:=by
 intro pins s σ H Q I h;refine ZadU;obtain ⟨x,H1,I1,r1,q1⟩:=zz;exact #[a47,isnot_none_gen]
inductive Yl [144][407]:Zaa
 | mk (c:Bool)(e:x=.bl c)(h:Q c H)
abbrev tB (t:TE):TT:=#[ahf,t,Yl Q x H1]
def Ju [72]:PE X Za5z t:=#[a49,Za4_ (h Zav s σ H Q I hw) h1]
def gu [72]:PT X Za5z (tB t):=by
 intro pins s σ H Q I hw;refine wpAny_isTrue_Compare1 (bS ZacK #[aoD,fun u s2 h2=>bS h2 fun c s3 zz=>?_]) h1;obtain ⟨x,H1,I1,r1,q1⟩:=zz;obtain⟨d,rfl,q⟩:=q1;cases r1;exact ZaSe
def gL [388](he:∀ whole,ZBI e ZaS whole=(do let v <-whole;#[sC,e.pos];ZaWA):=by intro _;rfl):PT X e (tB t):=by
 intro pins s σ H Q I hw;refine isTrue_plain (bS ZacK Zjf) (he _);obtain ⟨x,H1,I1,r1,q1⟩:=zz;obtain⟨d,rfl,q⟩:=q1;cases r1;exact ZaSe
variable {tA tB':TT}{rest:Zbv}
abbrev XW (t u:TT):TT:=#[ahj,#[eM,c,u σ H1 Q,Q Zaz H1]]
abbrev YU (t u:TT):TT:=#[ahj,#[eM,c,Q Zae H1,u σ H1 Q]]
abbrev Yc (t:TT):TT:=#[ahj,ZaNv]
def iI [251]:PW X (Zrl .And [a] pos) tA:=by
 intro wh pins s σ H Q I h;refine #[aYW,Za4']
 cases c with
 | true=>exact isTrue_and_nil e
 | false=>exact e
def BD [251]:PW X (Zrl .Or [a] pos) tA:=by
 intro wh pins s σ H Q I h;refine #[aYW,Za5a]
 cases c with
 | false=>exact isTrue_or_nil e
 | true=>exact e
def jC [251](hb:PW X (Zrl .And ZIS pos) tB'):PW X (Zrl .And ZKK pos) (XW tA tB'):=by
 intro wh pins s σ H Q I h;refine #[aQG,Za4'];obtain ⟨H1,I1,q1⟩:=zz
 cases c with
 | true=>exact ZaWZ
 | false=>exact ZaS1
def Hf [251](hb:PW X (Zrl .Or ZIS pos) tB'):PW X (Zrl .Or ZKK pos) (YU tA tB'):=by
 intro wh pins s σ H Q I h;refine #[aQG,Za5a];obtain ⟨H1,I1,q1⟩:=zz
 cases c with
 | true=>exact ZaS1
 | false=>exact ZaWZ
def iA [251]:PT X #[aMI,.Not] (Yc tA):=by
 intro pins s σ H Q I h;exact isTrue_not (ha Zav s σ H (fun c H1=>ZaNv) I h)
abbrev WI (ta tb:TE):TE:=#[aYs,#[eM,c,ZaEX,Q ZaA_ H1]]
abbrev Yd (ta tb:TE):TE:=#[aYs,#[eM,c,Q Zx8 H1,ZaEX]]
def Fd {op}{t:TE}(h:PE X a t):#[Aq,op,[a],t]:=#[a49,BoolOp_one (h Zav s σ H Q I hw)]
def OT [148](hb:#[Aq,.And,ZIS,tb]):#[Aq,.And,ZKK,(WI ta tb)]:=by
 intro pins s σ H Q I h;refine BoolOp_and (bS ZkM Zjf);obtain ⟨x,H1,I1,r1,q1⟩:=zz;obtain⟨c,rfl,q1⟩:=q1;cases r1;refine ZX9
 cases c with
 | true=>exact #[LH,hb,Q]
 | false=>exact#[aWC,Zaz]
def SD [148](hb:#[Aq,.Or,ZIS,tb]):#[Aq,.Or,ZKK,(Yd ta tb)]:=by
 intro pins s σ H Q I h;refine BoolOp_or (bS ZkM Zjf);obtain ⟨x,H1,I1,r1,q1⟩:=zz;obtain⟨c,rfl,q1⟩:=q1;cases r1;refine ZX9
 cases c with
 | false=>exact #[LH,hb,Q]
 | true=>exact#[aWC,Zae]
#where
abbrev bN [1][386][43]:Zaa :=
 Rd H a (Zbw xs) \/
  #[GS,ZZd/\#[xM,ZdE]/\Zahu=Zac/\Zhm=ZaqG/\#[lF,ZBK]/\ZaCY]
abbrev aU [1][386][43]:Zaa :=
 Rd H a (ZcR xs) \/
  #[GS,ZZd/\ZyF/\#[aqH,ZaCY]]
abbrev Xt:Zb_->Zgi
 | Zay=>Zab ZaH
 | ZHQ=>#[c3,.bl,b]
 | Zag i _=>#[c4,i]
 | Zaf x _=>#[tx,x]
 | .bytes b _=>#[c3,.byt,b]
 | .float b _=>#[c3,.flt,b]
 | ZbV=>ZS3
 | Za4 n=>#[c3,.ty,n]
 | _=>none
def bE.abs {x:V}[164](r:ZkX):Xt u=Zab x:=by
 cases x with
 | non=>cases r;rfl
 | bl _=>cases r;rfl
 | int _=>obtain⟨t,rfl⟩:=r;rfl
 | str _=>obtain⟨t,rfl⟩:=r;rfl
 | byt _=>obtain⟨t,rfl⟩:=r;rfl
 | flt _=>obtain⟨t,rfl⟩:=r;rfl
 | ref _=>cases r;rfl
 | ty _=>cases r;rfl
def bE.inj {x y:V}[164](r:ZkX)(q:Zhf):x=y:=Zl (r.abs.symm.trans q.abs)
def bF.inj:∀ {xs ys:Zbr}[17],ZfS->bF ys us->xs=ys
 | _,_,_,Zan,Zan=>rfl
 | _,_,_,ZnI,ZaC r' t'=>#[a_,Zadj,bF.inj t t']
section
variable {X:Cx}{pins:Ze0}{σ:St}{H:Hp}{s:Shared}{a:Addr}{xs ys:Zbr}
def bN.of [7](h:ZayO):Zlc:=#[Ai,h]
def aU.of [7](h:ZayN):Zjy:=#[Ai,h]
def aQ.list [3](h:ZJH):#[aWv,PlainL]:=by
 rcases h with h | ⟨o,its,n,hk,hc,hd,hs,hz,r⟩
 ·obtain⟨z,its,n,r,e⟩:=h.ok Zbe
  exact⟨its,r,⟨_,n,e,rfl,rfl,rfl⟩,z⟩
 ·refine#[aQi,⟨o,n,ZaOA,hc,hd,Za5b⟩]
  have e:=r.length;simp only[ZR]at e
  lia
def aQ.tuple [3](h:ZJI):#[aWv,ZBu]:=by
 rcases h with h | ⟨o,its,n,hk,hc,hs,hz,r⟩
 ·obtain⟨z,its,r,p⟩:=h.ok Zbe
  exact⟨its,r,p.old,z⟩
 ·refine#[aQi,⟨o,ZaOA,hc,n,Za5b⟩]
  have e:=r.length;simp only[ZR]at e
  lia
def aQ.list_inj [3](h:ZJH)(h':bN X.K H a ys):xs=ys:=by
 obtain⟨its,r,⟨o,n,e,_,_,d⟩,_⟩:=Zvv h;obtain⟨its',r',⟨o',n',e',_,_,d'⟩,_⟩:=Zvv h';rw[e]at e';cases e';rw[d]at d';injection d' with d1 _
 have:ZaKh:=Za'0
 subst this;exact Zadj
def aQ.tuple_inj [3](h:ZJI)(h':aU X.K H a ys):xs=ys:=by
 obtain⟨its,r,⟨o,e,_,n,d⟩,_⟩:=Zn2 h;obtain⟨its',r',⟨o',e',_,n',d'⟩,_⟩:=Zn2 h';rw[e]at e';cases e';rw[d]at d';injection d' with d1 _
 have:ZaKh:=Za'0
 subst this;exact Zadj
#where
noncomputable abbrev Cx.wish [228][51]:Cx:={ X with xe:=E }
noncomputable abbrev Cx.nox [228]:Cx:=X.wish Zv6
def Cx.Ok.wish [60](ok:X.Ok)[51]:#[Gy,0].Ok :=
 ⟨ok.mod,ok.kind,ok.glob,ok.blt,Za5c,ok.inj,ok.has,ok.cab,ok.hd,Za5d,ok.stk,ok.exf,ok.bs,ok.bsz,ok.noex,ok.exfs,ok.funs,ok.frf⟩
def Cx.Ok.unwish [60][50](ok:#[Gy,0].Ok):X.Ok :=
 ⟨ok.mod,ok.kind,ok.glob,ok.blt,Za5c,ok.inj,ok.has,ok.cab,ok.hd,Za5d,ok.stk,ok.exf,ok.bs,ok.bsz,ok.noex,ok.exfs,ok.funs,ok.frf⟩
section
variable {X:Cx}{pins:Ze0}{σ:St}{H:Hp}{s:Shared}{E:ZfE}
def aQ.wish [3][51]:ZaHn:=#[LO,I.ok.wish E,Zlv]
def aQ.unwish (I:ZaHn):Zi6:=#[LO,I.ok.unwish,Zlv]
def SP.unwish [408](h:#[LF,ZGy]):#[LF,X]:=by
 cases f with
 | next=>obtain⟨σ',H',I,q⟩:=h;exact Za5f
 | brk=>obtain⟨σ',H',I,q⟩:=h;exact Za5f
 | cont=>obtain⟨σ',H',I,q⟩:=h;exact Za5f
 | ret u=>obtain⟨v,σ',H',I,r,q⟩:=h;exact#[af_,Za5e]
def FK.nox {st:Zih}{t:TS}(h:FK X.nox st t):FK X st t:=fun pins s σ H D I hw =>
 ZN (h Zav s σ H D (I.wish _) hw) (#[Mj,q.unwish]) #[jR,Zvx z]
#where
section
variable {X:Cx}{st:Stmt}{rest:Zih}{t u:TS}{e:Expr}{te:TE}{pos:Pos}
abbrev WO:TS:=#[vz,ZQ3]
abbrev Ye (t u:TS):TS:=#[vz,t ZaKL σ H]
def au:FK X [] WO:=#[a5g,#[a5i,σ,H,I,h]]
def ae (h1:ZacM)(h2:FK X ZcV u):FK X #[sB,st] (Ye t u):=by
 intro pins s σ H D I h;refine #[aYV,ZaKL]
 cases f with
 | next =>
  obtain⟨σ',H',I',q⟩:=q;exact h2 Zav s1 σ' H' D I' q
 | ret v=>exact q
 | brk=>exact q
 | cont=>exact q
def af (h1:ZacM):FK X [st] t:=by
 intro pins s σ H D I h;refine #[aYV,D]
 cases f with
 | next=>exact Za5h q
 | ret v=>exact q
 | brk=>exact q
 | cont=>exact q
def aQ.quiet [4][3]:interactive ZaS=Zaz:=by simp[interactive,I.ok.kind]
abbrev WL [339]:TS:=#[vA,te,fun _ H1=>Zus]
def bh [106](hs:#[a7e,e,Zac]:=by rfl):PS X (.Expr e pos) (WL te):=by
 intro pins s σ H D I h;exact wpAny_Expr_any (bS ZkW fun v s1 zz=>by obtain ⟨x,H1,I1,r1,q1⟩:=zz;exact ⟨σ,H1,I1,q1⟩) I.quiet hs
abbrev WQ [339]:TS:=#[vA,te,D.rt]
def aq [106]:#[aNi,#[fb,e],(WQ te)]:=by
 intro pins s σ H D I h;exact wpAny_Return_some (bS ZkW fun v s1 zz=>by obtain ⟨x,H1,I1,r1,q1⟩:=zz;exact ⟨x,σ,H1,I1,r1,q1⟩)
abbrev WR:TS:=fun D _ H=>D.rt ZaH H
def K8:#[aNi,Zac,WR]:=#[a5g,wpAny_Return_none ⟨ZaH,σ,H,I,rfl,h⟩]
abbrev X9 (c:TT)(t u:TS):TS:=#[vA,c,#[vB,#[eM,b,t D σ H1,u D σ H1]]]
def aK {c:Expr}{a b:Zih}{tc:TT}(hc:ZaOx)(ha:FK X a t)(hb:FK X b u):PS X (.If c a b pos) (X9 tc t u):=by
 intro pins s σ H D I h;refine wpAny_If (bS #[ko,hc] fun d s1 zz=>?_);obtain ⟨H1,I1,q1⟩:=zz
 cases d with
 | true=>exact #[LH,ha,D]
 | false=>exact #[LH,hb,D]
abbrev U8:TS:=Zqs
def gj {sts:Zih}:FK X sts U8:=fun _ _ _ _ _ _ h=>ZMl
#where
noncomputable abbrev TG:=V->St->#[c2,Hp,(Zgr)]
noncomputable abbrev Qj:=Zbr->St->#[c2,Hp,(Zgr)]
abbrev PG [228](target:Expr)(t:TG):Zaa :=
 ∀ [2](v:V)(u:Value)[277],Zi6->Zfk->t v σ H Q ->
  #[w5,(Zn4 ZBL ZaS u),(fun _ s'=>ZaEo)]
abbrev VF [228](ts:Zbv)(t:Qj):Zaa :=
 ∀ [2][289][86][277],Zi6->ZnB->t vs σ H Q ->
  wpAny Zw3 X.A (assignInOrder (#[E0,ts].map (·.2)) us) #[Wm,ZaEo] X.xe s
noncomputable abbrev W5:=V->V->#[c2,Hp,VK]
abbrev Yj [228](op:Operator)(t:W5):Zaa :=
 ∀ [210],Zi6->ZeL->Zhf->t x y H Q ->
  #[QQ,(Za5j op v u)]
section
variable {X:Cx}{pos:Pos}
abbrev tK [219]:TG:=fun v σ H Q=>Q Zat6 H
def zO [250][79][8]:ZaQv:=by
 intro pins s σ H v u Q I r h;exact Za5k (B9 I hN hi hx r (fun s' I'=>#[i9,H,I',h]) hf)
abbrev Xz:Qj:=fun vs σ H Q=>vs=[]/\Q σ H
inductive GC (t:TG)(u:Qj)[289][290][277]:Zaa
 | mk (v:V)(r:Zbr)(e:vs=v::r)(h:t v σ H #[ahv,u r σ' H' Q])
abbrev VT (t:TG)(u:Qj):Qj:=fun vs σ H Q=>GC t u vs σ H Q
def dE:VF X [] Xz:=by
 intro pins s σ H vs us Q I r h;obtain⟨e,h⟩:=h;subst e;cases r;exact assignInOrder_nil ⟨σ,H,I,h⟩
def aT {e:Expr}{es:Zbv}{t:TG}{u:Qj}(h1:PG X e t)(h2:VF X es u)
  (hs:#[E0,Zdu].map (·.2)=Zn4 e ZaS::#[T4,0].map (·.2):=by rfl):VF X Zdu (VT t u):=by
 intro pins s σ H vs us Q I r h;obtain⟨v,vr,e1,h⟩:=h;subst e1
 cases r with
 | cons r rr =>
  rw[hs];refine assignInOrder_cons (bS (h1 Zav s σ H _ _ _ I r h) fun _ s1 zz=>?_);obtain ⟨σ1,H1,I1,q1⟩:=zz;exact h2 Zav s1 σ1 H1 _ _ Q I1 rr q1
inductive GT [1][42](t:Qj)(v:V)[290][277]:Zaa
 | mk [84][43](e:v=ZbV)(q:Zjy)(l:ZaL=n)(h:t xs σ H Q)
abbrev VV [1][42](t:Qj):TG:=fun v σ H Q=>GT K n t v σ H Q
def fT {es:Zbv}{k:Nat}{t:Qj}{n:Nat}(hc:ZfU)(h:ZaIv)
  (hn:ZaNg:=by rfl) (hst:ZavI (·.1)=none:=by rfl):#[aYu,(VV X.K n t)]:=by
 intro pins s σ H v u Q I r hw;obtain⟨a,xs,e1,hq,hl,hw⟩:=hw;subst e1;cases r;obtain⟨its,rv,ht,hz⟩:=Zn3;refine assign_Tuple_tuple ZNX ht (by simp[hn,<-hl,rv.length]) hst fun h' hx=>?_;have I1:ZzU:=Zrm (t':=Zb4) #[dG,hx b o Zjp e];exact h Zav _ σ H xs _ Q I1 (Za5l) hw
abbrev UY [339](g:TG):TS:=#[vA,te,#[Mm,g x σ H1 Zn1]]
def j9 {tg e:Expr}{te:TE}{g:TG}(he:Zhk)(hg:ZaQu)(hs:swapsWithSole [tg] e Zahx ZaS=Zca Zaz:=by rfl)(hw:swappedStores [tg] e ZaS=Zca Zac:=by rfl)
  (h1:#[E0,[tg]].map (·.2)=[Zn4 tg ZaS]:=by rfl):#[FO,tg,e,(UY te g)]:=by
 intro pins s σ H D I h;refine wpAny_Assign_stores #[pr,he,Zjf] hs hw;obtain ⟨x,H1,I1,r1,q1⟩:=zz;rw[h1];exact bS (hg Zav s1 σ H1 x v _ I1 r1 q1) fun _ s2 q=>q
def iM [250][190]{pos':Pos}[79][106][126] :
  ZaWR:=by
 intro pins s σ H D I h;refine wpAny_Assign_Name (bS ZkW Zjf) hs;obtain ⟨y,H1,I1,r1,q1⟩:=zz;exact B9 I1 hN hi hx r1 (fun s2 I2=>#[i9,H1,I2,q1]) hf
abbrev XX [219][339](ti:W5):TS:=#[vz,∃ x,#[au,Zahz,#[fb,x]]/\te σ H fun y H1=>ti x y H1 fun z H2=>Zn1 (ZBM i (Zab z)) H2]
def UL [250][190]{op:Operator}{ti:W5}{pos':Pos}[79][106](ho:Yj X op ti)[8] :
  PS X (.AugAssign #[w',ZnR] op e pos) (XX i te ti):=by
 intro pins s σ H D I h;obtain⟨v,e1,h⟩:=h;obtain⟨m,hn,hl⟩:=I.loc
 have vis:Zamx:=by rcases hx with k | k;exact ZHw;exact #[mT,k]
 obtain⟨u,r,l⟩:=hl i x v hi e1 vis;refine wpAny_AugAssign_Name ?_
 have go:#[w5,#[ky,e],(fun w s₂=>Zcb Zw3 X.A (Za5j op u w) (fun r s₃=>#[w7,(Za5m ZaS x r),#[fG,SP X Zav D Zrk],s₃]) ZlC s₂)]:=by
  refine bS ZkW fun w s1 zz=>?_;obtain ⟨y,H1,I1,r1,q1⟩:=zz;refine bS (ho Zav s1 σ H1 v y u w _ I1 r r1 q1) fun z s2 zz=>?_;obtain ⟨zv,H2,I2,r2,q2⟩:=zz;exact B9 I2 hN hi hx r2 (#[Mn,#[i9,H2,I3,q2]]) hf
 rcases l with ⟨hk,hm⟩ | ⟨hk,c,hc,hcell⟩
 ·exact Za41 ZjP hk hn hm go
 ·rcases hk with hk | hk
  ·exact Za42 ZjP hk hc hcell go
  ·rcases hx with k | k
   ·have:ZaCU:=hk
    rw[k]at this;cases this
   ·have:ZaCU:=hk
    rw[k]at this;cases this
abbrev YH (f:Zaa'):W5:=#[ap1,x=Zdy/\y=ZzF/\Q (Zag (f i j)) H]
def Ub:Yj X .Add (YH #[lD,i+j]):=by
 intro pins s σ H x y v u Q I r1 r2 h;obtain⟨i,j,e1,e2,q⟩:=h;subst e1;subst e2;obtain⟨t,rfl⟩:=r1;obtain⟨t',rfl⟩:=r2;exact iadd_int #[p_,ZgD]
#where
section
variable {X:Cx}{pos:Pos}
abbrev Va (c:TT)(tb:TS):TS:=fun D σ H=>∃ W:Zlf,(∃ m,ZaMA)/\∀ m σ H,ZaMA ->
 c σ H #[vB,#[eM,b,#[ans,W m' σ' H',tb #[am1,N,N] σ H1],Zus]]
def wu {c:Expr}{body:Zih}{tc:TT}{tb:TS}(hp:ZaZg)(hc:ZaOx)(hb:ZaO0):PS X (.While c Zfr [] pos) (Va tc tb):=by
 intro pins s σ H D I h;obtain⟨W,⟨m0,w0⟩,turn⟩:=h;refine wpAny_While (#[FT,codeAny_whileLoop,#[Mo,Zyr/\W n σ' H'],⟨σ,H,I,w0⟩]);rintro n s1 ⟨σ1,H1,I1,w1⟩;refine #[tL,(hc Zav s1 σ1 H1 _ I1 (turn n σ1 H1 w1)),fun b s2 zz=>?_];obtain ⟨H2,I2,q2⟩:=zz
 cases b with
 | true =>
  obtain⟨N,hN,q2⟩:=q2;rw[ZaB];refine #[tL,(hb Zav s2 σ1 H2 _ I2 q2),fun f s3 q3=>?_]
  cases f with
  | next =>
   obtain⟨σ3,H3,I3,n3⟩:=q3;obtain⟨m',hm,w3⟩:=ZaVf;exact⟨m',hm,σ3,H3,I3,w3⟩
  | cont =>
   obtain⟨σ3,H3,I3,n3⟩:=q3;obtain⟨m',hm,w3⟩:=ZaVf;exact⟨m',hm,σ3,H3,I3,w3⟩
  | brk=>exact q3
  | ret v=>exact q3
 | false =>
  rw[Zd0];exact #[a5i,σ1,H2,I2,q2]
#where
structure It where
 go:Zays
 yld:Nat->Hp->#[gq,V]
 stop:Zays
abbrev nu [228][18][32](b:Addr):Zaa :=
 Za9/\ZpO/\ZX7/\(Za4Q)/\(ZT9)/\#[Sh,b]
def aQ.fpOk [211]{σ:St}[16][263][45][3](hb:#[avn,b])(hn:Zpa):nu X Zav H' b:=by
 refine⟨hn,Z1 (Zz I.lt hb),I.nofs hb,Zap (ZV I.sz hb),fun x c e z=>?_,fun p hp z=>?_⟩
 ·obtain⟨v,q⟩:=ZKf
  exact #[qB,(Zz q.lt ZaD1)]
 ·exact #[qB,(Zz (Zk (Zlv p hp).1) ZaD1)]
structure Cn [57][1](tg:Expr)(J:It)[435](it:Addr)(tn:ZRE):Zaa where
 mem:it∈fp
 obj:∀ i h,tn i h->#[aS',Zeq]
 keep:∀ i h h',tn i h->(#[jT,∀ o,Zeq->Zgz])->tn i h'
 item:∀ [228],ZaKk->X.w=w->ZuZ->ZfU->∀ [219][2][51],Zi6->(ZI8)->ZZr->J.go i H ->
  wpAny ZvZ X.A ZaCX (fun r s1=>∃ u,r=Zab u /\
   Zcb ZvZ X.A ZaYi (fun _ s2=>∃ x H',ZaBn/\ZkX/\J.yld i H x H'/\tn Zcf ZvC/\ZQ1) E s1) E s
 done:∀ [228],ZaKk->X.w=w->ZuZ->ZfU->∀ [219][2][51],Zi6->(ZI8)->ZZr->J.stop i H ->
  Zcb ZvZ X.A ZaCX (fun r s1=>r=Zac/\#[i5,s1]) E s
 self:∀ (A:Around)[219][154][436][51],ZZr->Q ZFe s->#[fF,ZvZ,ZaER,Q]
noncomputable abbrev TI:=St->Hp->(#[gq,It])->Zaa
abbrev Xp [197](tg:Expr)[372](itv:Value)(s2:Shared):Zaa :=
 ∃ (it:Addr)(fp:ZeZ)(tn:ZRE)(J:It)(H':Hp),itv=Zai it/\ZaBn/\Cn Zck X.w X.K tg J fp it tn/\tn 0 ZvC/\(ZaB4)/\R J H'
abbrev PI [228](tg bJ:Expr)(wi:TI):Zaa :=
 ∀ [2][372],Zi6->wi σ H R ->
  #[w5,#[ky,bJ],(fun v s1=>#[w7,(ZBN v),Zags,s1])]
def Dm {M:Model}{A:Around}{E:ZfE}{s:Shared}{tg:Expr}{it:Addr}{u:Value}{o:Obj}{n:String}{vs:Zix}{Q:ZfV}(ho:#[qF,it])(hc:#[xM,n])(hd:ZacX)
  (hn:[Zhp,Zd7,ZMp,Za5o,Za5p,Za5q,Za5r].contains n=Zaz) (hQ:Q () s):#[pF,ZaYi]:=by
 unfold letOwnedTupleGo
 cases tg<;>first
  | exact Zg hQ
  | (cases u<;>first
    | exact Zg hQ
    | (refine Y6 (wpAny_load ho ?_)
       rw[hc,hd]
       show #[pF,#[PB,#[gs,[Zhp,Zd7,ZMp,Za5o,Za5p,Za5q,Za5r].contains n&&vs[0]? == #[tW,ZgL]]]]
       rw[Y8 (by intro h;rw[hn,Bool.false_and]at h;cases h)]
       exact Zg hQ))
abbrev Se [1][84]:It :=
 #[aqm,Zlc,#[Gx,∀ xs,Zlc->ZOw],Zlc]
abbrev Vz [1][84]:It :=
 #[aqm,Zjy,#[Gx,∀ xs,Zjy->ZOw],Zjy]
abbrev Vl [389]:It:=#[aXg,lo+i]
def Nd [191](a it:Addr):#[tM,tg,ZI3,h.IsListIter it a i] where
 mem:=ZaA
 obj:=fun i h st b hb=>by
  have e:Zju:=ZcU
  subst e;obtain⟨o,e,c,d⟩:=st;exact⟨o,e,fun v z=>by rw[d]at z;cases z⟩
 keep:=Zake
 item:=by
  intro X hP hw hK hc i pins s σ H E I hf st hg;subst hP hw hK;obtain⟨xs,x,hq,hx⟩:=hg;obtain⟨its,rv,p,hz⟩:=Zvw;obtain⟨u,hu,ru⟩:=ZYt;obtain⟨f0,f1,f2,f3,f4,f5⟩:=ZeS;refine #[aY3,wpAny_pyNext_list_item,ZvD];have I1:ZzU:=Zbcp;obtain⟨o,e,c,d⟩:=ZHT;exact#[aWG,Za5s]
 done:=by
  intro X hP hw hK hc i pins s σ H E I hf st hg;subst hP hw hK;obtain⟨xs,hq,hx⟩:=hg;obtain⟨its,rv,p,hz⟩:=Zvw;obtain⟨f0,f1,f2,f3,f4,f5⟩:=ZeS;have hl:=rv.length;exact wpAny_pyNext_list_end ZNX st ZvD Zajt Zbco
 self:=#[a_I,wpAny_pyIter_listiter]
def JY [191](a it:Addr):#[tM,tg,ZI4,Za5t it a i] where
 mem:=ZaA
 obj:=fun i h st b hb=>by
  have e:Zju:=ZcU
  subst e;obtain⟨o,e,c,d⟩:=st;exact⟨o,e,fun v z=>by rw[d]at z;cases z⟩
 keep:=Zake
 item:=by
  intro X hP hw hK hc i pins s σ H E I hf st hg;subst hP hw hK;obtain⟨xs,x,hq,hx⟩:=hg;obtain⟨its,rv,p,hz⟩:=Zn3;obtain⟨u,hu,ru⟩:=ZYt;obtain⟨f0,f1,f2,f3,f4,f5⟩:=ZeS;refine #[aY3,wpAny_pyNext_tuple_item,(#[ahA,ZaGg])];have I1:ZzU:=Zbcp;obtain⟨o,e,c,d⟩:=ZHT;exact#[aWG,ZahB]
 done:=by
  intro X hP hw hK hc i pins s σ H E I hf st hg;subst hP hw hK;obtain⟨xs,hq,hx⟩:=hg;obtain⟨its,rv,p,hz⟩:=Zn3;obtain⟨f0,f1,f2,f3,f4,f5⟩:=ZeS;have hl:=rv.length;exact wpAny_pyNext_tuple_end ZNX st (#[ahA,ZaGg]) Zajt Zbco
 self:=#[a_I,wpAny_pyIter_tupleiter]
def JX [191](it:Addr)[389]:#[bej,ZJD,(lo+ZsZ*1),1] where
 mem:=ZaA
 obj:=fun i h st b hb=>by
  have e:Zju:=ZcU
  subst e
  exact⟨_,st,fun v z=>by
   have z':ZaX2:=z
   cases z'⟩
 keep:=ZaKQ
 item:=by
  intro X hP hw hK hc i pins s σ H E I hf st hg;subst hP hw hK;obtain⟨f0,f1,f2,f3,f4,f5⟩:=ZeS;have W:=#[a0d,1];refine Za1n;obtain⟨t,rfl⟩:=hv;have I1:ZXY:=Zbcs;refine#[a1k,lo+i,#[c7,t]];rw[Int.mul_one]
 done:=by
  intro X hP hw hK hc i pins s σ H E I hf st hg;subst hP hw hK;obtain⟨f0,f1,f2,f3,f4,f5⟩:=ZeS;exact Zbcq
 self:=Za_J
section
variable {X:Cx}{tg:Expr}
inductive Yx [1][372][407]:Zaa
 | mk [84](e:Zk7)(q:∃ xs,Zlc)(h:R (Se K a) H)
abbrev N5 [1](tl:TE):TI:=#[amI,Yx K R x H1]
abbrev V4 [1](tl:TE):TI:=#[amI,∃ a,x=ZbV/\(∃ xs,ZaO_)/\R (Vz K a) H1]
def ca {l:Expr}[83]:PI X tg l (N5 X.K tl):=by
 intro pins s σ H R I h;refine ZK5;obtain ⟨x,H1,I1,r1,q1⟩:=zz;obtain⟨a,e,⟨xs,hq⟩,q⟩:=q1;subst e;cases r1;obtain⟨its,rv,p,hz⟩:=Zayf;refine #[azw,ZvD];refine#[arD,Nd a _]
 have e:ZzV:=ZcU
 subst e;exact ZanW
def rm {l:Expr}[83]:PI X tg l (V4 X.K tl):=by
 intro pins s σ H R I h;refine ZK5;obtain ⟨x,H1,I1,r1,q1⟩:=zz;obtain⟨a,e,⟨xs,hq⟩,q⟩:=q1;subst e;cases r1;obtain⟨its,rv,p,hz⟩:=Zayg;refine aXk (#[ahA,#[aya,ZbJ]]) ?_;refine#[arD,JY a _]
 have e:ZzV:=ZcU
 subst e;exact ZanW
def Pe {pins:Ze0}{σ:St}{H:Hp}{s:Shared}{R:ZYl}{E:ZfE}{lo hi:Int}{t u v:Tok}{tk:Nat}(I:Zi6)(h1 : -(2 ^ 62)<=lo)(h2:lo<ZYy)(h3 : -(2 ^ 62)<=hi)(h4:hi<ZYy)
  (q:R (Vl lo ZV2) H):wpAny Zw3 X.A ZaEQ Zags E { s with heap:=s.heap.push { cls:=Zve,data:=Za1 #[Ziu,Zir,ZuN] },toks:=tk }:=by
 refine #[aZG,small_one];have I1:aQ X pins σ H { s with heap:=s.heap.push { cls:=Zve,data:=Za1 #[Ziu,Zir,ZuN] },toks:=tk }:=ZaHD
 refine⟨(s.heap.push { cls:=Zve,data:=Za1 #[Ziu,Zir,ZuN] }).objs.size,[(s.heap.push { cls:=Zve,data:=Za1 #[Ziu,Zir,ZuN] }).objs.size],_,_,H,rfl,
  ZaFl,JX _ lo ZV2,?_,Zdx,q⟩
 ·have e1:lo+Ztg*1=lo:=ZaA
  have e2:#[aML,ZaxG,1]:=#[a5v,rangeSize_one]
  show #[bei,(lo+Ztg*1),ZaxG,1]
  rw[e1,e2];exact Zct
 ·have e:b=(s.heap.push { cls:=Zve,data:=Za1 #[Ziu,Zir,ZuN] }).objs.size:=ZcU
  subst e;exact ZanW
abbrev V2 (ta:TA):TI:=#[aPg,∃ j:Int,vs=[ZzF]/\-(2 ^ 62)<=j/\j<ZYy/\R (Vl 0 j.toNat) H1]
def oA {a:Expr}[177](ha:Zac0)(hs:#[EZ,[a],a]:=by rfl):#[aUQ,[a],V2]:=by
 intro pins s σ H R I h;refine #[aVI,(aQe Zanz hs rfl)];obtain ⟨vs,H1,I1,r1,q1⟩:=zz;obtain⟨j,e,q1,q2,q⟩:=q1;subst e
 cases r1 with
 | cons r rr =>
  cases rr;obtain⟨t,rfl⟩:=r;exact call_range_1 (Pe I1 Zah Zah q1 q2 (by simpa using q))
abbrev X7 (wi:TI)(g:TG)(tb:TS):TS:=fun D σ H=>wi σ H fun J H1=>∃ W:ZjH,(∃ m,W 0 m σ H1)/\∀ i m σ H,ZjF ->
 ZaVe
abbrev pz [435][138]:Ze0:=fp.filterMap fun b=>(Zep b).map fun o=>Zxt
def dG [118][153][357](hb:b∈fp)[317]:Zxt∈pz fp h:=Za5w ⟨b,hb,ZFr⟩
def MB [118][153]{p:ZeY×Obj}(hp:p∈pz fp h):p.1∈fp/\#[mM,p.1,p.2]:=by
 obtain⟨b,hb,e⟩:=List.mem_filterMap.mp hp
 cases q:Zep b with
 | none=>rw[q]at e;cases e
 | some o =>
  rw[q]at e;have e':Zxt=p:=Zl e;subst e';exact⟨hb,q⟩
def aQ.pinned [4][118][3](hf:ZI8)(ho:#[aS',Zd6]):#[afr,(Zav++pz fp ZaK)] :=
 I.pins_of fun p hp=>ZaKI #[bZ,Zlv p (ZB _ z)] fun z=>by
  obtain⟨hb,e⟩:=MB z;obtain⟨f0,f1,f2,_⟩:=hf p.1 hb;obtain⟨o,e',d⟩:=ho p.1 hb;rw[e]at e';cases e';exact⟨e,f0,f1,f2,d⟩
def aQ.unpinned {pins pl:Ze0}[437][263](I:#[afr,(Zav++pl)]):Zi6:=I.pins_of #[lu,Zlv p (ZB _ (aQ6 _ hp))]
def dO {bJ:Expr}{body:Zih}{wi:TI}{g:TG}{tb:TS}{pos:Pos}(hp:ZaZg)(hc:ZfU)(hi:ZA4)(hg:ZaQu)(hb:ZaO0)
  (hs:ZE6:=by intro _;rfl):PS X (.For tg bJ Zfr [] pos) (X7 wi g tb):=by
 intro pins s σ H D I h;refine wpAny_For (bS #[ko,hi] Zapo) hs;obtain⟨it,fp,tn,J,H2,e,I2,T,st2,f2,W,⟨m0,w0⟩,turn⟩:=h2;subst e;have stat:#[aoE,ZaB4]:=fun hn b hb=>#[fd,hn b hb,#[c',f2]];refine #[FT,codeAny_forLoop_any,#[Q2,Zyr,ZdD,ZTk],⟨0,σ,H2,I2,st2,#[Ru,f2],w0⟩];rintro n s3 ⟨i,σ3,H3,I3,st3,fr3,w3⟩;rcases turn i n σ3 H3 w3 with ⟨stop,qn⟩ | ⟨go,N,hN,step⟩
 ·refine #[a1M,ZahC,stop]
  obtain ⟨hr,I4⟩:=zz;subst hr;exact #[a5i,σ3,H3,I4,qn]
 ·refine #[a1M,ZahE,go]
  obtain ⟨u,hr,h4⟩:=zz;subst hr;refine #[tL,h4,fun _ s5 zz=>?_];obtain ⟨x,H5,I5,r5,y5,st5,fr5⟩:=zz;have I5':=I5.pinned (stat fr5) (T.obj _ _ st5);refine #[tL,(hg _ s5 σ3 H5 x u _ I5' r5 (step x H5 y5)),fun _ s6 zz=>?_];obtain ⟨σ6,H6,I6,q6⟩:=zz;refine #[tL,(hb _ s6 σ6 H6 _ I6 q6),fun f s7 q7=>?_]
  have again:∀ {σ7:St}{H7:Hp},aQ X (Zav++pz fp s5.heap) σ7 H7 s7->N σ7 H7->#[ss,#[Q2,aQ X Zav σ' H' s7,s7.heap,ZFn]]:=fun {σ7 H7} I7 n7=>by
   obtain⟨m',hm,w7⟩:=Zu_;refine#[ao0,st5];obtain⟨o,e,d⟩:=#[RZ,st5];exact Zano
  cases f with
  | next=>obtain⟨σ7,H7,I7,n7⟩:=q7;exact Zaej
  | cont=>obtain⟨σ7,H7,I7,n7⟩:=q7;exact Zaej
  | brk=>obtain⟨σ7,H7,I7,q7⟩:=q7;exact⟨σ7,H7,ZahG,q7⟩
  | ret v=>obtain⟨x7,σ7,H7,I7,r7,q7⟩:=q7;exact⟨x7,σ7,H7,ZahG,r7,q7⟩
#where
def cD {K:PySem.W.Frag}{a:Addr}{xs:Zbr}{g:TG}{tb:TS}{D:nZ}{σ:St}{H:Hp}(Pv:Zlf)(h0:Znz)(hl:#[aty,Zlc])
  (hs:ZaXq) (hd:Zabb) :
  ∃ W:ZjH,Zld/\∀ i m σ H,ZjF ->
   #[anF,ZI3,ZI3,ZI3]:=by
 refine ZafJ;rintro i m σ H ⟨rfl,hi,p⟩;have q:=ZBb
 by_cases hlt:ZzS
 ·refine ZaPC
  obtain⟨e,y⟩:=y;subst e;exact ZaZ4
 ·have e:ZZE:=Zad
  subst e;exact ZafH
def m7 {K:PySem.W.Frag}{a:Addr}{xs:Zbr}{g:TG}{tb:TS}{D:nZ}{σ:St}{H:Hp}(Pv:Zlf)(h0:Znz)(hl:ZaJi)
  (hs:ZaXq) (hd:Zabb) :
  ∃ W:ZjH,Zld/\∀ i m σ H,ZjF ->
   #[anF,ZI4,ZI4,ZI4]:=by
 refine ZafJ;rintro i m σ H ⟨rfl,hi,p⟩;have q:=ZBb
 by_cases hlt:ZzS
 ·refine ZaPC
  obtain⟨e,y⟩:=y;subst e;exact ZaZ4
 ·have e:ZZE:=Zad
  subst e;exact ZafH
def oh {lo:Int}{n:Nat}{g:TG}{tb:TS}{D:nZ}{σ:St}{H:Hp}(Pv:Zlf)(h0:Znz)
  (hs:#[aOX,lo+i]) (hd:#[Q4,n]) :
  ∃ W:ZjH,Zld/\∀ i m σ H,ZjF ->
   #[anF,ZJD,ZJD,ZJD]:=by
 refine ZafI;rintro i m σ H ⟨rfl,hi,p⟩
 by_cases hlt:i<n
 ·refine ZaPB
  obtain⟨e,y⟩:=y;subst e y;exact ZaVx
 ·have e:i=n:=Zad
  subst e;exact ZaDg
noncomputable abbrev R2:=V->V->#[c2,Hp,VK]
abbrev tG [228](f:ZA7)(r:R2):Zaa :=
 ∀ [210],Zi6->ZeL->Zhf->r x y H Q ->
  #[QQ,ZaeK]
abbrev Xs [228](f:ZaFD)(r:ZJd):Zaa :=
 ∀ [2](x:V)[252](Q:VK),Zi6->ZeL->r x H Q ->
  #[QQ,(f v)]
abbrev ig [228](f:Value)[427]:Zaa :=
 ∀ [2][43][86](Q:VK),Zi6->ZfS->r xs H Q ->
  #[QQ,(Zfs f us)]
abbrev Xr [228](r:V->Hp->(#[gq,Zb3])->Zaa):Zaa :=
 ∀ [2](x:V)[252][144],Zi6->ZeL->r x H Q ->
  #[w5,(truthy v),ZU1]
abbrev W9 (r:R2)(ta tb:TE):TE:=#[ahg,#[mU,tb,r x y H2 Q]]
abbrev YV (r:ZJd)(ta:TE):TE:=#[ahg,r x H1 Q]
inductive RI [439][319]:Zaa
 | mk [292](c:C i j)(h:Q ZE_ H)
abbrev rI [439]:R2:=#[rn,RI C g x y H Q]
inductive YA [291][319]:Zaa
 | mk [292](h:Q ZE_ H)
abbrev SG [291]:R2:=#[rn,YA g x y H Q]
abbrev rU (g:Int->V):ZJd:=fun x H Q=>∃ i,x=Zdy/\Q (g i) H
section
variable {X:Cx}{a b c:Expr}{ta tb tc:TE}{pos:Pos}
def Tv (ha:ZKd)(hb:ZAX){pins:Ze0}{s:Shared}{σ:St}{H:Hp}{R:V->V->Hp->Zaa}(I:Zi6)
  (h:ta σ H #[Mm,#[mU,tb,ZaUs]]) {Q:ZfE} {f:ZA7}
  (hf:∀ v u s2 x y H2,#[b7,H2,s2]->ZeL->Zhf->ZaUs->#[w7,ZaeK,Q,s2]) :
  #[aZ8,ZaeK,Q]:=by
 refine ZadU;obtain ⟨x,H1,I1,r1,q1⟩:=zz;refine bS #[D2,hb] ZTz;obtain ⟨y,H2,I2,r2,q2⟩:=zz;exact hf v u s2 x y H2 I2 r1 r2 q2
def aI {op:Operator}{r:R2}(ho:#[a6o,op,r])[148](hb:ZAX):PE X (.BinOp a op b pos) Zaf2:=by
 intro pins s σ H Q I h;exact wpAny_BinOp (Tv ha hb I h Za6B)
def Wk {op:UnaryOp}{r:ZJd}(ho:Xs X (unaryOp op) r)[148]:PE X #[aMI,op] (YV r ta):=by
 intro pins s σ H Q I h;exact UnaryOp_ (bS ZkM fun v s1 zz=>by obtain ⟨x,H1,I1,r1,q1⟩:=zz;exact #[Wf,ho,x,v])
def Wf {f:ZA7}{C:ZaLW}{g:Zaa'}
  (rule:#[adz,C i j->Q ZaTB Zahb->Zcb Zw3 X.A Zagk Q E s]) :
  tG X f (rI C #[lD,ZUK]):=by
 intro pins s σ H x y v u Q I rx ry h;obtain⟨i,j,rfl,rfl,hc,q⟩:=h;obtain⟨t,rfl⟩:=rx;obtain⟨t',rfl⟩:=ry;exact rule i j t t' s _ _ hc ZaCy
def Wg {f:ZA7}{g:Zaa'}
  (rule:#[adz,Q ZaTB Zahb->Zcb Zw3 X.A Zagk Q E s]) :
  tG X f (SG #[lD,ZUK]):=by
 intro pins s σ H x y v u Q I rx ry h;obtain⟨i,j,rfl,rfl,q⟩:=h;obtain⟨t,rfl⟩:=rx;obtain⟨t',rfl⟩:=ry;exact #[a0',ZaCy]
def Rq {f:ZA7}{g:ZJJ}
  (rule:#[adz,Q (Zes (g i j)) s->Zcb Zw3 X.A Zagk Q E s]) :
  tG X f (SG #[lD,ZaXS]):=by
 intro pins s σ H x y v u Q I rx ry h;obtain⟨i,j,rfl,rfl,q⟩:=h;obtain⟨t,rfl⟩:=rx;obtain⟨t',rfl⟩:=ry;exact #[a0',#[mG,ZaXS,q]]
abbrev Xg (i j:Int):Zaa:=0<j/\j<ZMq
abbrev Xh (i j:Int):Zaa:=0<=j/\j<=ZvE/\ZahH<Zz7
abbrev Tg (i j:Int):Zaa:=(Zaag<i/\i<Zz7)\/(Zaag<j/\j<Zz7)
def Tg.ok {i j:Int}(h:Tg i j):IntMulOk i j:=by
 rcases h with ⟨h1,h2⟩ | ⟨h1,h2⟩
 ·exact #[aTQ,.of_left]
 ·exact #[aTQ,.of_right]
def dH:#[a6p,(SG #[lD,Zag (i+j)])]:=#[uY,Wg,add_int]
def uJ:#[a6o,.Sub,(SG #[lD,Zag (i-j)])]:=#[uY,Wg,sub_int]
def ri:#[a6q,.Mult,Tg,i*j]:=Wf #[a5x,mul_int q hc.ok]
def dq:#[a6r,Xg]:=Wf fun i j _ _ _ _ _ hc q=>by
 have h1:ZdO<j:=hc.1;have h2:j<ZMq:=hc.2;exact #[aY2,PyProof.noPylong_small,Zah]
def cI:#[a6o,.Mod,(rI (fun _ j=>0<j) #[lD,Zag (i%j)])]:=Wf fun i j _ _ _ _ _ hc q=>by
 have h1:ZdO<j:=hc;exact mod_int' Zah (#[mv,#[el,Int.fmod_eq_emod_of_nonneg,i]])
def OK:#[a6q,.Pow,Xh,i ^ j.toNat]:=Wf #[a5x,pow_int_small hc.1 hc.2.1 hc.2.2 q]
def YX {f:ZaFD}{g:Zact}
  (rule:∀ (i:Int)(t:Tok)(s:Shared)(Q:ZfE)(E:ZfE),Q (Zag (g i) Zb4) Zahb->Zcb Zw3 X.A (f (Zag i t)) Q E s) :
  Xs X f (rU #[iB,ZaN5]):=by
 intro pins s σ H x v Q I rx h;obtain⟨i,rfl,q⟩:=h;obtain⟨t,rfl⟩:=rx;exact rule i t s _ _ #[p_,ZaN5]
def Ve:Xs X (unaryOp .USub) (rU #[iB,Zag (-i)]):=YX fun _ _ _ _ _ q=>neg_int q
#where
abbrev Wv:ZaNW
 | ZaH,ZaH=>true | ZaH,ZgD=>true | ZgD,ZaH=>true | ZaH,ZhZ=>true | ZhZ,ZaH=>true | ZaH,ZfQ=>true | ZfQ,ZaH=>true
 | ZgD,ZgD=>true | ZhZ,ZhZ=>true | ZfQ,ZfQ=>true | .byt _,.byt _=>true
 | ZgD,ZfQ=>true | ZfQ,ZgD=>true | ZhZ,ZfQ=>true | ZfQ,ZhZ=>true
 | _,_=>false
abbrev YN:R2:=#[rn,ZaJF/\Q (.bl (Zlw (x=y))) H]
abbrev YQ:R2:=#[rn,ZaJF/\#[yB,!#[lx,x=y]]]
def Kg {i j:Int}:#[ly,Zar i=Zar j,(i == j)]:=by
 rw[Bool.eq_iff_iff];simp
def NH {i j:Bool}:#[ly,Ze3 i=Ze3 j,(i == j)]:=by
 rw[Bool.eq_iff_iff];simp
def Kh {i j:Str}:#[ly,#[dN,i,j],(i == j)]:=by
 rw[Bool.eq_iff_iff];simp
def Kf {i j:ZaxU}:#[ly,V.byt i=V.byt j,(i.toList == j.toList)]:=by
 rw[Bool.eq_iff_iff];cases i;cases j;simp
section
variable {X:Cx}{a b c:Expr}{ta tb tc:TE}{pos:Pos}
def cH [4]{Q:VK}{k k':Bool}[3](q:Q (.bl k) H)(e:k=k'):#[m0,(Zes k'),s]:=by
 subst e;exact#[mG,.bl k,q]
def bA:#[ahr,.Eq,YN]:=by
 intro pins s σ H x y v u Q I rx ry h;obtain⟨hs,q⟩:=h
 cases x with
 | non =>
  cases rx
  cases y with
  | non=>cases ry;exact #[cP,PySem.EqNone.eq_none_none]
  | bl j=>cases ry;exact #[cP,PySem.EqNone.eq_none_bool]
  | int j=>obtain⟨t',rfl⟩:=ry;exact #[cP,PySem.EqNone.eq_none_int]
  | str j=>obtain⟨t',rfl⟩:=ry;exact #[cP,PySem.EqNone.eq_none_str]
  | _=>exact Zxo
 | bl i =>
  cases rx
  cases y with
  | non=>cases ry;exact #[cP,PySem.EqNone.eq_bool_none]
  | bl j=>cases ry;exact #[p1,eq_bool,NH]
  | str j=>obtain⟨t',rfl⟩:=ry;exact #[cP,PySem.EqMixed.eq_bool_str]
  | _=>exact Zxo
 | int i =>
  obtain⟨t,rfl⟩:=rx
  cases y with
  | non=>cases ry;exact #[cP,PySem.EqNone.eq_int_none]
  | int j=>obtain⟨t',rfl⟩:=ry;exact #[p1,eq_int,Kg]
  | str j=>obtain⟨t',rfl⟩:=ry;exact #[cP,PySem.EqMixed.eq_int_str]
  | _=>exact Zxo
 | str i =>
  obtain⟨t,rfl⟩:=rx
  cases y with
  | non=>cases ry;exact #[cP,PySem.EqNone.eq_str_none]
  | bl j=>cases ry;exact #[cP,PySem.EqMixed.eq_str_bool]
  | int j=>obtain⟨t',rfl⟩:=ry;exact #[cP,PySem.EqMixed.eq_str_int]
  | str j=>obtain⟨t',rfl⟩:=ry;exact #[p1,eq_str,Kh]
  | _=>exact Zxo
 | byt i =>
  obtain⟨t,rfl⟩:=rx
  cases y with
  | byt j=>obtain⟨t',rfl⟩:=ry;exact #[p1,PySem.W.eq_bytes,Kf]
  | _=>exact Zxo
 | _=>cases y<;>exact Zxo
def kJ:#[ahr,.NotEq,YQ]:=by
 intro pins s σ H x y v u Q I rx ry h;obtain⟨hs,q⟩:=h
 cases x with
 | non =>
  cases rx
  cases y with
  | non=>cases ry;exact #[cP,PySem.EqNone.ne_none_none]
  | bl j=>cases ry;exact #[cP,PySem.EqNone.ne_none_bool]
  | int j=>obtain⟨t',rfl⟩:=ry;exact #[cP,PySem.EqNone.ne_none_int]
  | str j=>obtain⟨t',rfl⟩:=ry;exact #[cP,PySem.EqNone.ne_none_str]
  | _=>exact Zxo
 | bl i =>
  cases rx
  cases y with
  | non=>cases ry;exact #[cP,PySem.EqNone.ne_bool_none]
  | bl j=>cases ry;exact #[KY,ne_bool,NH]
  | str j=>obtain⟨t',rfl⟩:=ry;exact #[cP,PySem.EqMixed.ne_bool_str]
  | _=>exact Zxo
 | int i =>
  obtain⟨t,rfl⟩:=rx
  cases y with
  | non=>cases ry;exact #[cP,PySem.EqNone.ne_int_none]
  | int j=>obtain⟨t',rfl⟩:=ry;exact #[KY,ne_int,Kg]
  | str j=>obtain⟨t',rfl⟩:=ry;exact #[cP,PySem.EqMixed.ne_int_str]
  | _=>exact Zxo
 | str i =>
  obtain⟨t,rfl⟩:=rx
  cases y with
  | non=>cases ry;exact #[cP,PySem.EqNone.ne_str_none]
  | bl j=>cases ry;exact #[cP,PySem.EqMixed.ne_str_bool]
  | int j=>obtain⟨t',rfl⟩:=ry;exact #[cP,PySem.EqMixed.ne_str_int]
  | str j=>obtain⟨t',rfl⟩:=ry;exact #[KY,ne_str,Kh]
  | _=>exact Zxo
 | byt i =>
  obtain⟨t,rfl⟩:=rx
  cases y with
  | byt j=>obtain⟨t',rfl⟩:=ry;exact #[KY,PySem.W.ne_bytes,Kf]
  | _=>exact Zxo
 | _=>cases y<;>exact Zxo
def Bw:#[ahs,.Lt,i<j]:=#[uY,Rq,lt_int]
def yR:#[ahs,.LtE,i<=j]:=#[uY,Rq,le_int]
def KY:#[ahs,.Gt,j<i]:=#[uY,Rq,gt_int]
def Wh:#[ahs,.GtE,j<=i]:=#[uY,Rq,ge_int]
def xN:#[ahr,.In,#[ap2,#[yB,Zbds]]]:=by
 intro pins s σ H x y v u Q I rx ry h;obtain⟨i,j,rfl,rfl,q⟩:=h;obtain⟨t,rfl⟩:=rx;obtain⟨t',rfl⟩:=ry;exact #[p1,in_str,rfl]
def Fb:#[aht,#[ap2,#[yB,!(Zbds)]]]:=by
 intro pins s σ H x y v u Q I rx ry h;obtain⟨i,j,rfl,rfl,q⟩:=h;obtain⟨t,rfl⟩:=rx;obtain⟨t',rfl⟩:=ry;exact #[p1,notIn_str,rfl]
def aH (b:Expr){op:CmpOp}(h:ZaFM:=by decide)(h2:ZaFN:=by decide):ZLw:=by
 have e1:ZaGh:=by cases op<;>first | rfl | exact #[oF,h]
 have e2:ZaGi:=by cases op<;>first | rfl | exact ZZq
 cases b<;>simp[behindInMarks,e1,e2]
def kP [95]:PE X Za5z Zaf2:=by
 intro pins s σ H Q I h;exact Za4_ (Tv ha hb I h Za6B) hm
abbrev SW (t:TE):TT:=#[ahe,t,fun x H'=>Yl Q x H']
def ax [95]:PT X Za5z (SW (W9 r ta tb)):=by
 intro pins s σ H Q I h
 refine wpAny_isTrue_Compare1 (bS ZkM fun v s1 ⟨x,H1,I1,r1,q1⟩=>bS ZaBJ fun u s2 ZaG_ =>
  #[aZL,fun c s3 ZaW9=>?_]) hm
 subst e;cases r3;exact aQw ⟨H3,I3,q3⟩
abbrev UZ (r r':R2)(ta tb tc:TE):TE:=fun σ H Q=>ta σ H fun x H1=>tb σ H1 fun y H2=>r x y H2 fun z H3=>∃ k,z=.bl k /\
 #[gx,k=Zae,tc σ H3 fun w' H4=>r' y w' H4 Q,Q ZaA_ H3]
def BB {op op':CmpOp}{r r':R2}(ho:ZaND)(ho':#[ahr,op',r'])(ha:ZKd)(hb:ZAX)(hc:PE X c tc)
  (hm:lastMarks [op,op'] [b,c]=Zaz:=by with_unfolding_all rfl):PT X (Za5y a [op,op'] [b,c] pos) (SW (UZ r r' ta tb tc)):=by
 intro pins s σ H Q I h
 refine isTrue_chain (bS ZkM fun v s1 ⟨x,H1,I1,r1,q1⟩=>test_link (bS ZaBJ fun u s2 ZaG_ =>
  #[aZL,fun d s3 ZaW9=>?_])) hm
 subst e;cases r3;refine ZX9
 cases k with
 | false =>
  obtain⟨k',e',q'⟩:=q3;cases e';exact ite_ff ⟨H3,I3,q'⟩
 | true =>
  refine ite_tt (test_last (bS #[kn,hc,s3,H3,I3,q3] fun w' s4 zz=>?_));obtain ⟨z',H4,I4,r4,q4⟩:=zz;refine bS (ho' Zav s4 σ H4 y z' u w' _ I4 r2 r4 q4) fun d' s5 zz=>?_;obtain ⟨z2,H5,I5,r5,k2,e2,q5⟩:=zz;subst e2;cases r5;exact aQw ⟨H5,I5,q5⟩
abbrev VI [1][407](k:Bool):Zaa :=
 match x with
 | ZaH=>ZY0
 | Zuc=>k=b
 | Zdy=>k=(i != 0)
 | Ztf=>ZaQ7
 | .byt y=>ZaQ8
 | Zcs=>#[a5E,ZJQ,Zabh]
 | _=>False
def IP {κ:ZjL}[10]:(!vs.isEmpty) = Za5A:=by
 cases r<;>rfl
def AH [31][278](r:Zy_):(Za5B) = Za5C:=by
 cases r<;>simp
def xk:(ZlE:Nat)<Zp7:=#[BE,ZQ]
def Vc:Xr X (fun x H Q=>∃ k,VI X.K x H k/\Q k H):=by
 intro pins s σ H x v Q I rx h;obtain⟨k,e,q⟩:=h;have hl:=xk;have hs:Za9n:=ZQ
 cases x with
 | non =>
  cases rx;have e':ZY0:=e;subst e';exact truthy_none ⟨H,I,q⟩
 | bl b =>
  cases rx;have e':k=b:=e;subst e';exact aQw ⟨H,I,q⟩
 | int i =>
  obtain⟨t,rfl⟩:=rx;have e':k=(i != 0):=e;subst e';exact PySem.P.truthy_int ⟨H,I,q⟩
 | str y =>
  obtain⟨t,rfl⟩:=rx;obtain⟨hy,e'⟩:ZaQ7:=e;subst e';exact PySem.P.truthy_str Zah ⟨H,Zg9,q⟩
 | byt y =>
  obtain⟨t,rfl⟩:=rx;obtain⟨hy,e'⟩:ZaQ8:=e;subst e';exact PySem.W.truthy_bytes Zah ⟨H,Zg9,q⟩
 | ref p =>
  cases rx;have e':#[a5E,bN X.K H p xs,aU X.K H p xs]:=e;rcases e' with ⟨xs,hx,e'⟩ | ⟨xs,hx,e'⟩ | ⟨kvs,hx,e'⟩
  ·subst e'
   obtain⟨its,r,pl,hz⟩:=ZayH;have hlen:=r.length;exact wpAny_truthy_list ZiC (Za5F) ZaJl
  ·subst e'
   obtain⟨its,r,pl,hz⟩:=ZayI;have hlen:=r.length;exact truthy_tuple pl (Za5F) ZaJl
  ·subst e'
   obtain⟨hz,hS,vs,r,m⟩:ZaYM:=Zbe p _ hx;have hlen:ZiG:=Zud;exact wpAny_truthy_dict hS m Zah ⟨H,Zg9,#[mv,IP r]⟩
 | _=>exact (show False from e).elim
def BC [148](he:∀ whole,ZBI a ZaS whole=(do let v <-whole;#[sC,a.pos];ZaWA)) :
  PT X a (#[ahe,ta,fun x H'=>∃ k,VI X.K x H' k/\Q k H']):=by
 intro pins s σ H Q I h;exact isTrue_plain (bS ZkM fun v s1 zz=>by obtain ⟨x,H1,I1,r1,q1⟩:=zz;exact #[Wf,Vc,x,v]) (he _)
def bz:#[a6p,#[ap2,#[lF,i.length+Za5G]/\Q (Zaf (i++j)) H]]:=by
 intro pins s σ H x y v u Q I rx ry h;obtain⟨i,j,rfl,rfl,hz,q⟩:=h;obtain⟨t,rfl⟩:=rx;obtain⟨t',rfl⟩:=ry;exact add_str (fun t' tk=>#[p_,Zaf (i++j)]) hz
def iq {x:V}[17](r:ZazD):ZaXd:=by
 cases r with
 | cons r1 r2=>cases r2;exact#[bO,r1]
def SX {x y:V}[17](r:ZazE):∃ u w',us=[u,w']/\ZkX/\bE y w':=by
 cases r with
 | cons r1 r2 =>
  cases r2 with
  | cons r3 r4=>cases r4;exact#[ci,_,_,r1,r3]
inductive RM [11]:Zaa
 | mk [334](_:#[aMq,j>i])
def LP [112]:#[pY,ZjU,RM]:=by
 intro pins s σ H xs us Q I r h;obtain⟨i,j,rfl,q⟩:=h;obtain⟨u,w',rfl,⟨t,rfl⟩,⟨t',rfl⟩⟩:=SX r;refine #[aXV,max_two_ints]
 by_cases hj:j>i
 ·rw[Zdj,Zdj];exact Za8
 ·rw[ZgE,ZgE];exact Za8
inductive RN [11]:Zaa
 | mk [334](_:#[aMq,j<i])
def Db [112]:#[pY,"min",RN]:=by
 intro pins s σ H xs us Q I r h;obtain⟨i,j,rfl,q⟩:=h;obtain⟨u,w',rfl,⟨t,rfl⟩,⟨t',rfl⟩⟩:=SX r;refine #[aXV,min_two_ints]
 by_cases hj:j<i
 ·rw[Zdj,Zdj];exact Za8
 ·rw[ZgE,ZgE];exact Za8
#where
structure Ig [138](x dx C:Addr)(mA:Zo6):Zaa where
 obj:#[bD,Zep,ZaqT]
 ns:Zae'
 ne:Zaa5
def Mn [153]{dx:Addr}[459](n:Zae'):#[a5L,#[mM,dx,od]]:=by
 obtain⟨o,es,ep,ho,hd,hk,_,hm⟩:=n;refine⟨o,ho,fun name=>?_⟩;have e:=hm Zdk;unfold nsFind findBy at e;rw[<-Array.find?_toList]at e;unfold PySem.W.lookIn;rw[hd];dsimp only;split
 ·rename_i y q
  rw[q]at e;exact ZaIw
 ·rename_i q
  rw[q]at e
  have a:es.toList.any (·.refKey)=false:=by
   rw[List.any_eq_false];intro y hy;obtain⟨z,t,hkey⟩:=hk y (Array.mem_toList_iff.mp hy);simp[DictEntry.refKey,hkey]
  have a':¬ es.toList.any (·.refKey)=true:=#[ao2,a]
  rw[Y8 a'];exact ZaIw
def Ig.look [153]{x dx C:Addr}[459](I:Ig h x dx C mA):#[a5L,Za5H h x ZaqT C #[fb,od]] :=
 let ⟨od,ho,hl⟩:=Mn I.ns
 ⟨od,#[ed,I.obj,rfl,ho],hl⟩
section
variable {prog:Program}{w:World}{A:Around}{E:ZfE}{s:Shared}{K:PySem.W.Frag}{x dx C f:Addr}{mA:Zo6}{name:Str}{v:Value}
def QM {expr:Bool}{Q:ZfE}(X:ZnY)(I:ZafY)(hg:ZaFf)(hh:Zbc5)
  (ha:#[bca,Zdk,Zac]) (hv:mA Zdk=Zab v) (hv':#[axR,v]) (h:Q v Zahb) :
  #[vY,(ZahK Zg4 Zdk expr)]:=by
 obtain⟨od,J,hl⟩:=I.look;exact PySem.W.get_value X J Za5J (PySem.W.findObj_own hh ha rfl #[nf,hl,hv]) hv' h
def NX {pl:ZqQ}{Q:ZaMb}(X:ZnY)(I:ZafY)(hg:ZaFf)
  (hf:#[bca,Zdk,ZsN]) (ht:ZA1) (hv:mA Zdk=Zac) (h:Q (Zai f,[Zai x]) s) :
  #[vY,#[SM,Zg4,Zdk]]:=by
 obtain⟨od,J,hl⟩:=I.look;exact PySem.W.method_fn X J Za5J (Za5I hg).2 hf (ZMr ht) (by show (Za5K Zdk od).map (·.isSome)=Zab Zaz;rw[hl,hv];rfl) h
def RV {ns:Zbo}{Q:ZfV}(X:ZnY)(I:ZafY)
  (hs:Zbcb) (hp:ZbdG) (ht:#[aVi,Zdk]) (hh:Zbc5)
  (hw:PySem.Within mA ns) (hsz:Zaxt)
  (h:∀ h',Ig h' x dx C (fun y=>#[fh,y=Zdk,v,mA y])->ZvH dx ZaK h'->Q () #[Og,Zb4+2]) :
  #[aMY,Zdk]:=by
 obtain⟨od,J,hl⟩:=I.look;refine #[aMy,hs,(PySem.W.osa_open (s:=Zahb) (r:=Zac) X J hp ht fun b=>?_)];obtain⟨cd,hc,hd'⟩:=#[Wl,hh];have hx:Zd5 x=some ⟨ZmJ,ZW4,.plain,#[]⟩:=I.obj;refine #[aVC,#[ato,hc]];rw[hd'];refine Zg (a:=ZW4) (Y6 (Zg (Y6 ?_)));refine Za5M (s:=Zahb) I.ns #[a5N,?_];obtain⟨oD,esD,epD,hoD,hdD,hcD⟩:=Za5O (Za5P Zdk v hw);refine #[aUz,#[pJ,Zx]];exact Zg (h _ ⟨(hs2.2 _ (Zw I.ne)).trans I.obj,hn2,I.ne⟩ hs2)
def Oq {R:Znr}{vs:Zb'}{kw:ZsH}(X:ZnY)(hm:ZbdJ)
  (hi:Zbce) (hf:#[ai1,K,Zpo])
  (h:codeAny ZvX #[Tr,⟨ZmJ::vs,kw⟩] (ZMs #[aj,f] ⟨Zai (Zjk)::vs,kw⟩) (PySem.W.InitBack ZmQ R)
   ZaZl) :
  #[v0,(ZMs #[aj,C] ⟨vs,kw⟩)]:=by
 obtain⟨hh,g,d,t,os⟩:=s;exact PySem.W.make_core (PySem.W.makes_of X hm) (Za5Q X hi) (fun self=>PySem.W.bind_fn X self hf) ZhO h
#where
abbrev bW [409](v:V):ZoZ->ZoZ
 | []=>[(f,v)]
 | (g,x)::r=>#[cx,g=f,(g,v)::r,(g,x)::bW f v r]
def aE (f g:Str)(v:V):∀ fs:ZoZ,#[ft,ZJX] g=#[fh,g=f,v,ZMt g]
 | []=>by
  show ZahL g [(f,v)]=_
  by_cases h:g=f
  ·have hb:#[g8,g,f]:=ZXu
   simp only[List.lookup,hb,ZcH]
  ·have hb:#[oU,g,f]:=ZXs
   simp only[List.lookup,hb,ZcG]
 | ZYk=>by
  have ih:=aE f g v r;rw[Zagg]
  by_cases hk:k=f
  ·rw[ZHl]
   by_cases h:g=k
   ·have hb:#[g8,g,k]:=ZXu
    simp only[List.lookup,hb,Y9 (h.trans hk)]
   ·have hb:#[oU,g,k]:=ZXs
    simp only[List.lookup,hb,#[axL,h (ZahN hk.symm)]]
  ·rw[ZHf]
   by_cases h:g=k
   ·have hb:#[g8,g,k]:=ZXu
    simp only[List.lookup,hb,#[axL,hk (h.symm.trans e)]]
   ·have hb:#[oU,g,k]:=ZXs
    simp only[List.lookup,hb];exact ih
def xi [409](v:V):∀ fs:ZoZ,f∈#[JX,0].map (·.1)/\∀ g,g∈fs.map (·.1)->g∈#[JX,0].map (·.1)
 | []=>⟨Za5R,#[BO,ZiD]⟩
 | ZYk=>by
  obtain⟨i1,i2⟩:=xi f v r;rw[Zagg]
  by_cases hk:k=f
  ·rw[ZHl]
   subst hk;exact⟨ZaA,#[BO,ZvI]⟩
  ·rw[ZHf]
   refine#[m1,#[BO,?_]]
   ·rw[Zr]
    exact Zd _ i1
   ·rw[Zr]at h ⊢
    rcases ZzL with e | e
    ·exact ZahO (Zam e)
    ·exact Zd _ (i2 g e)
def yI [409](v:V):∀ fs:ZoZ,#[bd,ZJX,Zer+1]
 | []=>Za5R
 | ZYk=>by
  have ih:=yI f v r;rw[Zagg]
  by_cases hk:k=f
  ·rw[ZHl,Zx,Zx];lia
  ·rw[ZHf,Zx,Zx];lia
def n9.some_of {v:V}{o:Zo5}(r:n9 (Zab v) o):∃ u,o=Zab u/\Zfk:=by
 cases o with
 | none=>exact ZuS
 | some u=>exact#[ib,u,r]
def n9.none_of {o:Zo5}(r:n9 Zac o):o=Zac:=by
 cases o with
 | none=>rfl
 | some u=>exact ZuS
def Ma {v:V}[164](r:Zfk):#[axR,u]:=by
 cases v with
 | non=>cases #[xY,Zadq];rfl
 | bl b=>cases #[xY,#[H',b]];rfl
 | int i=>obtain⟨t,e⟩:=ZaEb;cases e;rfl
 | str x=>obtain⟨t,e⟩:=Za54;cases e;rfl
 | byt b=>obtain⟨t,e⟩:=#[FC,Za4C b t];cases e;rfl
 | flt b=>obtain⟨t,e⟩:=#[FC,ZagK b t];cases e;rfl
 | ref a=>cases #[xY,ZQK];rfl
 | ty n=>cases #[xY,Zbcx];rfl
section
variable {P:Program}{w:World}{H H':Hp}{h h':Heap}{a C dx:Addr}{fs fs':ZoZ}
def zI (hok:ZJp)(e:Zun):∃ mA,Ig h a dx C mA/\ZaHG/\PySem.Within mA (fs.map (·.1))/\Zer<=ZbF/\ZaL4:=by
 obtain⟨d,z,ne,ob,mA,n,r,q⟩:=#[gu,#[p0,ZpL],hok a _ e];exact⟨mA,⟨ob,n,ne⟩,r,q,z,d⟩
#where
structure HY [1][54]:Zaa where
 pg:ZaFg
 hd:Zbc5
 po:ZbdG
 sa:Zbcb
def HY.get [7]{C:Addr}(c:ZJA)[409]:#[E3,C,f]:=c.pg
abbrev fA [1][54][409]:Zaa:=Zbcc
def fA.taker [7]{C:Addr}{f:Str}(n:Zaec):#[aVi,f]:=by
 unfold PySem.W.takerIn;rw[show Zbcc from n];rfl
structure Qo [1][440](f:Addr):Zaa where
 at_:Zbcd
 fn:ZA1
 kp:Zbch
section
variable {X:Cx}{pins:Ze0}{σ:St}{H:Hp}{s:Shared}{a C dx:Addr}{fs:ZoZ}{f:Str}{v:V}{A:Around}{E:ZfE}
def IE {b:Bool}{Q:ZfE}(I:Zi6)(e:Zun)(c:Zq1)(n:ZaEm)(l:ZaOm)
  (h:∀ u s',ZzT->Zfk->Q u s'):#[w4,(ZahK ZbP f b)]:=by
 obtain⟨mA,O,r,_,_,_⟩:=ZZu;obtain⟨u,hu,ru⟩:=#[atU,mA f,#[pI,l,r f]];exact QM Zhq O (c.get f) c.hd n hu (Ma ru) (h u _ ZsS ru)
def AB {m:Str}{g:Addr}{pl:ZqQ}{Q:ZaMb}(I:Zi6)(e:Zun)(c:Zq1)(k:Qo X.K C m g)(l:ZaFU)
  (h:Q (Zai g,Zh9) s):#[w4,#[SM,ZbP,m]]:=by
 obtain⟨mA,O,r,_,_,_⟩:=ZZu;have hn:mA m=Zac:=#[fP,n9.none_of,l,r m];exact NX Zhq O (c.get m) k.at_ k.fn hn h
def JK {y:V}{u:Value}{Q:ZfV}(I:Zi6)(e:Zun)(c:Zq1)(n:ZaEm)(hl:ZaAm)(ry:Zhf)
  (h:∀ s',#[b7,#[bt,a,Zaz7],s']->Q () s'):#[w4,(setAttr ZbP f u)]:=by
 obtain⟨mA,O,r,wi,_,ho⟩:=ZZu
 have hz:(fs.map (·.1)).length<=sizeLine:=#[sR,ZQ]
 refine RV Zhq O c.sa c.po n.taker c.hd wi hz fun h' O' sb=>h _ ?_;have hd:∃ o,Zet dx=Zab o:=let ⟨o,_,_,e',_⟩:=O'.ns;#[hX,e'];refine I.write (x:=a) (e:=dx) (by rw[e];exact True.intro) (Zap ho) #[aKT,sb] hd ?_;refine⟨#[ch,O.ne,ho],?_,O.ne,O'.obj,_,O'.ns,fun g=>?_,ZWG⟩
 ·have:=yI f y fs;lia
 ·show n9 (#[ft,(bW f y fs)] g) (ZaSA)
  rw[aE]
  by_cases q:g=f
  ·rw[Y9 q,Y9 q];exact ry
  ·rw[Y8 q,Y8 q];exact r g
 ·by_cases q:g=f
  ·rw[q];exact (xi f y fs).1
  ·refine (xi f y fs).2 g (wi g #[aF,hg ?_])
   show (ZaSA)=Zac
   rw[Y8 q];exact z
def aQ.made [3]:aQ X pins σ #[h_,Zax,(Ziz (Zjk)),ZmQ,(Zfo C Zax [])]
  ZaZl:=by
 have e1:#[amo,0].get? Zax=Zab ZahP:=Zm ZaK rfl
 have e2:(Zasv (ZMu C Zax)).get? ZmQ=Zab #[aqS,Zax]:=by
  have:=Zm Zamo (o:=ZMu C Zax) rfl
  rwa [Z2]at this
 have e3:#[G7,#[amo,0].Ns,ZyR]:=⟨PySem.W.emptyDict,#[],_,e1,rfl,(ZaKV),Zm3⟩;have I1:=Zro (a:=Zax) (o:=Ziz (Zjk)) (h':=#[amn,ZahP]) (t':=Zb4) (ZSV) Zbu Zaxf;refine ZBP (a:=Zjk) (o:=Zfo C Zax []) (t':=Zb4) (ZSV) (ZMv (Z2 _ _)) ?_;have ne:Zax≠Zjk:=Zq (aXd _);refine⟨#[jo,ai ne],Zce,ne,e2,ZyR,(Za5S e3).at fun o q=>Zmt,#[bf,Za5T],#[jV,#[oF,hy]]⟩
def Qw {prog:Program}{w:World}{env:Env}{e:Expr}{f:Str}{pos:Pos}{s:Shared}{Q:ZfE}(hb:Za5U e f env ZaNd=ZjW e env)
  (h:#[fF,ZvX,ZaNd,(fun o s₁=>#[Be,(ZahK o f Zae),ZiE])]):#[vY,#[ne,(ZBh e f pos)]] :=
 Attribute_any_ h (#[a_,arm_eval_Attribute,hb])
#where
inductive YF [1][409](Q:VK)[407]:Zaa
 | mk (a C dx:Addr)[240](v:V)[269](c:ZJA)(n:Zaec)(l:ZaOm)(h:Zz0)
abbrev X6 [1](ta:TE)[409]:TE:=#[ahg,YF K f Q x H1]
abbrev XV [1](ta tv:TE)[409]:TS:=fun D σ H=>tv σ H fun y H1=>ta σ H1 fun x H2=>∃ a C dx fs,Zk7/\H2 a=Zab ZpL/\ZJA/\Zaec/\ZaAm /\
 #[o',#[g3,a,Zaz7]]
section
variable {X:Cx}{o e value:Expr}{f:Str}{pos pos' tpos:Pos}{ta tv:TE}
def cu (he:PE X e ta)(hb:#[a5V,e,f,e,#[jX,e]]):#[sp,ZBh,e,f,(X6 X.K ta f)]:=by
 intro pins s σ H Q I h;refine Qw hb (bS ZkW ZhV);obtain ⟨x,H1,I1,rx,a,C,dx,fs,v,ex,ea,c,n,l,q⟩:=zz;subst ex;obtain rfl:ZQK:=rx;exact IE I1 ea c n l fun u' s2 I2 ru=>⟨v,H1,I2,ru,q⟩
def gq [82]:#[aZa,(XV X.K ta tv f)]:=by
 intro pins s σ H D I h;refine ZaSn;obtain ⟨y,H1,I1,ry,q⟩:=zz;refine ZaY7;obtain ⟨x,H2,I2,rx,a,C,dx,fs,ex,ea,c,n,l,q2⟩:=zz;subst ex;obtain rfl:ov=Zhr a:=rx;exact JK I2 ea c n l ry #[Mn,⟨σ,_,I3,q2⟩]
#where
section
variable {X:Cx}{pins:Ze0}{σ:St}{H:Hp}{s:Shared}{A:Around}{E:ZfE}{Q:ZfE}{c:Value}{b:Bool}
inductive vi [1][32]:#[c2,V,Zb_] where
 | non:#[mX,ZaH,"NoneType"]
 | bl (x:Bool):#[mX,(.bl x),ZahQ]
 | int (i:Int):#[mX,Zay9,Zrp]
 | str [189]:#[mX,ZYr,Zf1]
 | flt (x:UInt64):#[mX,(.flt x),"float"]
 | lst [41][31](e:ZayO):ZaFb
 | frz [41]{o:Obj}[31](e:#[eg,(ZiA o Zmx)]):ZaFb
 | tup [41][31](e:ZayN):#[mX,ZbP,Zf2]
 | dK [41][87][134]:ZaFc
 | dT [41][119][186]:ZaFc
 | ins {a C dx:Addr} {fs:ZoZ} (e:Zun) (cl:ZJA) (ha:#[bb_,C,"__class__",Za5Y])
   (hn:#[au,ZahR K Za5Z "__get__",#[Rd,"getset_descriptor.__get__"]]) (htk:PySem.W.takesIn K Za5Z=Zab Zae)
   (hm:ZaJm):vi K H ZbP ZhS
def Me {x:V}{u t:Value}[3](rx:ZkX)(ty:vi X.K H x t)(e:Za50 X.K t c=Zab b)(h:∀ tk,Q (Zes b) #[aha,tk]) :
  #[w4,#[s8,ZMw,[u,c]]]:=by
 cases ty with
 | non=>cases #[xQ,Zadq];exact aQz PySem.W.kitx_none I.kIn True.intro e (fun z=>nomatch z) h
 | bl y=>cases #[xQ,#[H',y]];exact aQz PySem.W.kitx_bool I.kIn True.intro e (fun z=>nomatch z) h
 | int i=>obtain⟨t,q⟩:=#[xQ,ZZV];cases q;exact aQz PySem.W.kitx_int I.kIn True.intro e (fun z=>nomatch z) h
 | str y=>obtain⟨t,q⟩:=#[aBK,Za51];cases q;exact aQz PySem.W.kitx_str I.kIn True.intro e (fun z=>nomatch z) h
 | flt y=>obtain⟨t,q⟩:=#[aBK,ZagK];cases q;exact aQz PySem.W.kitx_float I.kIn True.intro e (fun z=>nomatch z) h
 | @lst a xs ea =>
  cases ZQL;obtain⟨_,_,n,_,h1⟩:=#[Sj,Zmx];exact aQz PySem.W.kitx_list I.kIn Zay' e (fun z=>nomatch z) h
 | @frz a ob xs ea =>
  cases ZQL;obtain⟨_,_,_,n,_,h1⟩:=#[Sj,(ZiA ob Zmx)];exact aQz PySem.W.kitx_list I.kIn Zay' e (fun z=>nomatch z) h
 | @tup a xs ea =>
  cases ZQL;obtain⟨_,_,_,p⟩:=#[Sj,Zej];obtain⟨o,h1,h2,_⟩:=p;exact aQz PySem.W.kitx_tuple I.kIn ⟨o,h1,h2⟩ e (fun z=>nomatch z) h
 | @dK a kvs ea =>
  cases ZQL;obtain⟨_,_,vs,_,p⟩:=#[Sj,ZeH];obtain⟨o,es,ep,h1,h2,_⟩:=p;exact aQz PySem.W.kitx_dict I.kIn ZaIA e (fun z=>nomatch z) h
 | @dT a kvs ea =>
  cases ZQL;obtain⟨_,_,xs,_,o,es,ep,h1,h2,_⟩:=#[Sj,Zql];exact aQz PySem.W.kitx_dict I.kIn ZaIA e (fun z=>nomatch z) h
 | @ins a C dx fs ea cl ha hn htk hm =>
  cases ZQL;obtain⟨mA,O,_⟩:=zI Zbe ea;obtain⟨od,J,_⟩:=O.look;exact aQz (PySem.W.kitx_own (cl.get _) cl.hd ha hn htk hm) I.kIn J e (fun z=>nomatch z) h
#where
structure d6 [283](A:Around):Zaa where
 hd:Zfj
 dp:ZMx+3*k+5<Za55
 un:Zn5+16*k+200<Zlm
def d6.mono {j k:Nat}[335](h:j<=k):d6 j A:=⟨r.hd,Za56,Za57⟩
def d6.deeper [410](env:Env):d6 k (ZBQ env) :=
 ⟨r.hd,by have:=r.dp;show ZMx+1+3*k+5<_;lia,by have:=r.un;show Zn5+3+16*k+200<_;lia⟩
def IU [279]:#[Ts,0].depth=ZMx+1:=by
 first | rfl | simp[Around.under,Code.weight,Code.isCreation,Code.isGuard,Code.isCaller,Code.frames,Code.isFrame,guardIds]
def IV [279]:#[Ts,0].units=Zn5+1:=by
 first | rfl | simp[Around.under,Code.cUnits,Code.frames,Code.isFrame]
def d6.make [410][349]:d6 k ZTs :=
 ⟨r.hd,by have:=r.dp;rw[IU];lia,by have:=r.un;rw[IV];lia⟩
def d6.depth {k:Nat}[335]:ZMx<Za55:=Za56
def d6.units {k:Nat}[335]:Zn5+64<Zlm:=Za57
abbrev qg:TA:=#[ahm,[]]
abbrev mD (ta:TE)(tr:TA):TA:=#[ahg,tr σ H1 fun xs H2=>Q (x::xs) H2]
section
variable {X:Cx}{e:Expr}{es:Zbv}{te:TE}{t:TA}{pos:Pos}
def bp:PA X [] qg:=fun _ _ _ _ H Q I h=>aQS ⟨[],H,I,Zan,h⟩
def az (ha:Zhk)(hr:ZID)(hs:ZDL:=by rfl):PA X Zdu (mD te t):=by
 intro pos pins s σ H Q I h;rw[hs]
 show #[kA,(Zahc (#[aX9,e,es]))]
 refine aQf (bS ZkM ZhV);obtain ⟨x,H1,I1,r1,q1⟩:=zz
 exact bS #[aUS,hr,q1] fun us s2 zz=>by obtain ⟨xs,H2,I2,r2,q2⟩:=zz;exact #[FI,ZcI,ZaC r1 r2]
abbrev WT (t:TA):TE:=#[aU7,Zej]
abbrev Yb (t:TA):TE:=#[aU7,Zmx]
def bc {x1}(h:ZID):#[sp,ZMy,es,x1,(WT t)]:=by
 intro pins s σ H Q I hq;refine #[a04,wpAny_Tuple_spliced];have hf:ZaBb:=ZaBY;refine#[aZK,#[cT,H1,Ze4,xs]];exact⟨z,us,r,#[ci,_,Zct,_,rfl]⟩
def c5 (h:ZID):PE X (.List es pos) (Yb t):=by
 intro pins s σ H Q I hq;refine #[a04,wpAny_List_spliced];have hf:ZaBb:=ZaBY;refine#[aZK,#[p6,H1,Ze4,xs]];exact⟨z,us,0,r,Zct⟩
#where
noncomputable abbrev Sp:=Zbr->Hp->#[c2,VK,XK]
noncomputable abbrev Cf:=Zc9->Hp->Shared->XK->ZfE
structure D9 [5][74]:Zaa where
 frames:Za58=Zab ZbA
 mod:ZaD'
 bs:#[Y9,ZaHQ]
 bsz:base.objs.size<=Zax
 funs:Zre ZaO ZbA
 frf:#[gK,ZxT,Za9]
 hok:#[ta,ZaK]
 bare:ZaB0
abbrev CE [293](u:Value)[155]:Zaa :=
 ∃ v H',s'.os=s.os/\Zamv/\ZaYD/\ZaVr/\Zfk/\ZHC
abbrev CR (CX:Cf)[293](E:XK)(r:Result)[155]:Zaa :=
 match r with
 | .ok (ZfZ u)=>ZaW_
 | .ok _=>False
 | ZMz e=>CX ZbA H s E e s'
structure aV [5](CX:Cf)[283](f:Addr)(fd:FuncData)[165](sp:Sp):Zaa where
 len:ZOe
 run:∀ [74](args:Args)[86][289](Q:VK)(E:XK),ZIp->ZapK->#[aSD,Zhs]->ZnB->Zjn ->
  Zrq ZvZ A (ZMs #[aj,f] Zhs) (CR CX ZbA P w H s Q E) s
def D9.make [9][7][75]{base:Heap}[52]{outer:Zc9}[263][38](e:ZapK)[349] :
  #[apJ,ZTs]:=⟨by first | exact e.frames | (simpa [Around.under,Code.envs,Code.isFrame,pushEnvs] using e.frames),e.mod,e.bs,e.bsz,e.funs,e.frf,e.hok,e.bare⟩
section
variable {X:Cx}{pins:Ze0}{σ:St}{H:Hp}{s s':Shared}
def aQ.env0 [3]:#[VI,D9,X.A,ZdC,s,H] :=
 ⟨ZMA,ZahS,I.bs,ZaPJ,I.stack,ZahT,Zbe,ZBR⟩
def aQ.after {Q:VK}[164][3](h:CE ZdC Zck X.w H s Q u s'):#[m0,u,s']:=by
 obtain⟨v,H',os,bare,un,hok,r,q⟩:=h;obtain⟨hh,g,d,t,os'⟩:=s';obtain rfl:ZaDP:=os;exact⟨v,H',I.call (h':=hh) (g':=g) (d':=d) (t':=t) (ch:=[]) un hok bare (ZaKX),r,q⟩
#where
abbrev PX [157](t:TA):TE:=#[ahk,sp Zqn H1 Q E]
inductive YG [440][157](t:TA)(σ:St)(Q:VK)[407]:Zaa
 | mk (a dx:Addr)[240][269](l:ZaFU)(h:t σ H fun vs H2=>sp (x::Zqn) H2 Q E)
abbrev Ly [440][157](ta:TE)(t:TA):TE:=#[ahg,YG C m sp dvs E t σ Q x H1]
abbrev DM [54][157](t:TA):TE:=fun σ H Q=>t σ H fun vs H1=>∀ x dx,#[pA,x]->ZZ2->Zaa5 ->
 #[aX',(upd #[eI,dx,Ztl] x ZAm)]
abbrev iB [1](fd:FuncData)[165](ds:Zb'):Zaa :=
 ∀ [154][86],ZnY->ZaGt->ZBS s fd ZpH (ZvJ (us++ds))
def iB.all [7]{fd:FuncData}{ps:Zbo}(h:∀ us:Zb',#[R8,Za5_ fd ZpH=Zan7]):ZVd:=fun s us _ hl=>by
 rw[aQg]at hl ⊢;exact ZahU (h us hl)
abbrev gH (CX:Cf)[228](E:XK):Zaa:=∀ [18][290][154](e:Value)[155],Zi6->CX ZdC H s E e s'->ZlC e s'
section
variable {X:Cx}{CX:Cf}{k:Nat}{f C:Addr}{fd:FuncData}{ps:Zbo}{sp:Sp}{dvs:Zbr}{ds:Zb'}{E:XK}{x m:Str}{p pos apos:Pos}{e o:Expr}{es:Zbv}{ta:TE}{t:TA}
def JE {pins:Ze0}{σ:St}{H:Hp}{s:Shared}{Q:VK}{us:Zb'}{vs:Zbr}(F:ZanB)(hr:ZjD)(hb:Zq6)(hd:Zq5)(hx:Ziv)
  (I:Zi6) (r:ZnB) (h:sp Zqn H Q E):#[QQ,(Zfs #[aj,f] us)]:=by
 have r2:bF Zqn (us++ds):=ZMB hd
 have hl:ZaGt:=#[Wz,Za6c,h]
 refine #[Lr,aXL,ZMC X.A ZdC s H ZpH ZVu Zqn Q E hr I.env0 (hb s us Zhq hl) r2 h]
 cases r with
 | error e=>exact hx Zav σ H s e s' I hq
 | ok fl =>
  cases fl with
  | ret u=>exact I.after hq
  | next=>exact Zvy
  | brk=>exact Zvy
  | cont=>exact Zvy
def K4 (F:ZanB)(hr:ZjD)(hg:Zeo)(hm:#[sK,Zpo])(hk:#[bck,Zpo])(hb:Zq6)(hd:Zq5)(hx:Ziv)
  (ha:Zhl) (hdb:Za79:=by decide) (he:ZDL:=by rfl) (hpl:Zame (·.1)=false:=by rfl) :
  #[xb,(PX sp dvs E t)]:=by
 intro pins s σ H Q I h;refine ZLG;refine #[a0V,hk];exact JE F hr hb hd hx I1 r q
def Rz {pl:ZqQ}(he:ZAw)(c:Zq1)(hm:Qo X.K C m f)(F:ZanB)(hr:ZjD)(hb:Zq6)(hd:Zq5)(hx:Ziv)(ha:Zhl)
  (hst:ZDL:=by rfl) (hpl:Zame (·.1)=false:=by rfl)
  (ht:ZaHd=(do
   let ov <-ZxH
   ZAx
   let (f,first) <-ZapB
   ZapO):=by rfl) :
  PE X (ZcW ZBj Zdu [] pos) (Ly C m sp dvs E ta t):=by
 intro pins s σ H Q I h;refine ZaJW;obtain ⟨x,H1,I1,rx,a,dx,fs,ex,ea,l,q⟩:=zz;subst ex;obtain rfl:ZQK:=rx;refine ZaW5;refine ZahW (first:=Zh9) (h₀:=Zfq) ZBT hm.kp (bS #[aUS,ha,q] fun us s2 #[FI,vs,r]=>#[c7,ZMD]) hst hpl;exact JE (us:=ZbV::us) (vs:=ZbV::vs) F hr hb hd hx I2 (ZaC rfl r) q2
def O2 {pl:ZqQ}(he:ZAw)(c:Zq1)(hm:Qo X.K C m f)(F:ZanB)(hr:ZjD)(hb:Zq6)(hd:Zq5)(hx:Ziv)
  (ht:ZaHc=(do
   let ov <-ZxH
   ZAx
   let (f,first) <-ZapB
   ZaFv):=by rfl) :
  PE X (ZcW ZBj [] [] pos) (Ly C m sp dvs E ta qg):=by
 intro pins s σ H Q I h;refine ZaJW;obtain ⟨x,H1,I1,rx,a,dx,fs,ex,ea,l,q⟩:=zz;subst ex;obtain rfl:ZQK:=rx;refine ZaW5;exact Za6d (first:=Zh9) ZME hm.kp (JE (us:=Zh9) (vs:=Zh9) F hr hb hd hx I1 ZaA6 q)
structure Mk [1](C f:Addr):Zaa where
 makes:ZbdJ
 init:Zbce
 fn:ZA1
 kp:Zbcj
def Hm {pins:Ze0}{σ:St}{H:Hp}{s:Shared}{Q:VK}{us:Zb'}{vs:Zbr}(M:ZabR)(F:ZanB)(hr:ZJk)(hb:Zq6)(hd:Zq5)
  (hx:Ziv) (I:Zi6) (r:ZnB)
  (h:∀ x dx,#[aZ,x]->#[aZ,dx]->Zaa5->#[aX',#[h_,dx,Ztl,x,ZAm]]) :
  #[QQ,(Zfs #[aj,C] us)]:=by
 have hq:=h ZmQ Zax (Zn0 (aXE _)) Zsx ZaMW;have I2:=aQ.made (C:=C) I;have r2:bF (ZaCk::Zqn) (ZAJ::(us++ds)):=ZaC rfl (ZMB hd)
 have hl:#[U3,(ZAJ::us++ds)]:=by
  have e:=r2.length;rw[F.len _ _ _ _ hq]at e;exact e.symm
 refine aXL (Oq (f:=f) I.kIn M.makes M.init (ZMr M.fn) (aQY (F.run _ X.stack _ _ #[ei,ZAJ::us] (ZAJ::ZVu) _ _ E (hr.make C us [])
  #[aGH,us] (hb _ (ZAJ::us) ZMD hl) r2 hq) fun r s' hq'=>?_))
 cases r with
 | error e=>exact hx Zav σ _ _ e s' I2 hq'
 | ok fl =>
  cases fl with
  | ret u =>
   obtain⟨v,H',I3,rv,ev,q3⟩:=Za95;subst ev;exact⟨rv,#[dt,ZaCk,H',I3,q3]⟩
  | next=>exact Zaby
  | brk=>exact Zaby
  | cont=>exact Zaby
def Rx (M:ZabR)(F:ZanB)(hr:ZJk)(hg:Zeo)(hm:ZI2)(hb:Zq6)(hd:Zq5)(hx:Ziv)
  (ha:Zhl) (hdb:Za79:=by decide) (he:ZDL:=by rfl) (hpl:Zame (·.1)=false:=by rfl) :
  #[xb,(DM C sp dvs E t)]:=by
 intro pins s σ H Q I h;refine ZLG;refine #[a0V,M.kp];exact Hm M F hr hb hd hx I1 r q
def By (M:ZabR)(F:ZanB)(hr:ZJk)(hg:Zeo)(hm:ZI2)(hb:Zq6)(hd:Zq5)(hx:Ziv)
  (hdb:Za79:=by decide):PE X (ZcW Zxa [] [] pos) (DM C sp dvs E qg):=by
 intro pins s σ H Q I h;refine ZLG;exact Za6d Zhq M.kp (Hm (us:=[]) M F hr hb hd hx I Zan h)
#where
structure aA (N P:Zbo)[405]:Zaa where
 kind:ZBy
 co:ZZW
 gen:ZZX
 nd:N.Nodup
 pre:ZaTI
 par:ZavP
 nofree:ZbcD
def C9 [90]:#[a0W,#[abT,binds]]
 | [],_,_=>rfl
 | (n,v)::r,m,h=>by
  unfold bindL;rw[#[aKY,C9]];split
  ·have:x≠n:=by rintro rfl;exact h v Ze
   simp[this]
  ·rfl
def C7 [90]:#[a0W,#[abU,binds]]
 | [],_,_=>rfl
 | (n,v)::r,m,h=>by
  unfold bindC;rw[#[aKY,C7]];split
  ·rfl
  ·have:x≠n:=by rintro rfl;exact h v Ze
   simp[this]
def C8 [90][313]:∀ [270],P.Nodup->Zayy->ZMG->#[SA,Zn6] ->
  #[abT,ZaLF]=Zab v
 | [],_,_,_,_,h,_,_=>ZiD
 | Zdh,[],_,_,_,_,h,_=>ZiD
 | p::P,ZJx,0,m,nd,h1,h2,hk=>by
  simp at h1 h2;subst h1;subst h2
  show #[aUn,bindL]
  unfold bindL;rw[#[aKd,C9],ZHl];simp
 | p::P,ZJx,i+1,m,nd,h1,h2,hk=>by
  show #[abT,ZVR]=_
  unfold bindL;exact #[beq,C8]
def C6 [90][313]:∀ [270],P.Nodup->Zayy->ZMG->Zn6 x≠Zab Zls ->
  #[abU,ZaLF]=Zab v
 | [],_,_,_,_,h,_,_=>ZiD
 | Zdh,[],_,_,_,_,h,_=>ZiD
 | p::P,ZJx,0,m,nd,h1,h2,hk=>by
  simp at h1 h2;subst h1;subst h2
  show #[aUn,bindC]
  unfold bindC;rw[#[aKd,C7],ZHf];simp
 | p::P,ZJx,i+1,m,nd,h1,h2,hk=>by
  show #[abU,ZVR]=_
  unfold bindC;exact #[beq,C6]
abbrev tW (N:Zbo)[289]:St:=Zaoh++ZvK (ZahX-ZiF) Zac
abbrev y6 [229](f:Addr)(cd:Value)[74](E:XK):Cx where
 prog:=P
 w:=w
 K:=K
 mg:=mg
 base:=base
 A:=ZBQ (ZahY Zbg ZbT Zax f cd)
 N:=N
 s₀:=s
 H₀:=H
 env:=Zah0
 outer:=outer
 stack:=Zah0::ZbA
 ex:=[]
 calm:=true
 fn:=#[bf,Zae]
 pn:=[]
 xe:=#[a0g,Zah0,Zavd]
def FZ {sc:Scope}[69]{x:Str}(h:Zaqv):#[GO,#[ft,(Za6e n ZBU [])]]:=by
 have q:=Za6g ZBU n [] (Zam h);exact Zn7 q
def Md {CX:Cf}{P:Program}{w:World}{K:PySem.W.Frag}{mg:Zo6}{base:Heap}{N ps:Zbo}{qual:Str}{scope:Scope}{f:Addr}{cd:Value}{A:Around}{outer:Zc9}{s s1:Shared}{H:Hp}{E:XK}{us:Zb'}{vs:Zbr}
  (S:ZaV1) (hd:Zfj) (e0:ZapK) (hl:ZaKi) (r:ZnB)
  (x:InCallC s Zax #[aTF,bindL] Za6f #[aTF,bindC] s1) :
  #[aVG,cd]:=by
 have hpl:Zeu<=ZahX:=by have:=#[tI,S.pre];rw[ZL]at this;lia
 obtain⟨h1,tk,rfl,hk⟩:=x.done;have noA:#[aTc,#[V5,cd]]:=ZRH
 refine⟨⟨e0.mod,ZvL,rfl,rfl,ZaN,fun y z c h1 h2=>?_,Zx',fun y c _ h=>?_,#[bf,hd],Za6h Zah1,ZayA,ZLn,ZBV,e0.bsz,ZaK0,ZLn,Zah2,Zah3⟩,
  rfl,e0.bare,ZagQ,#[bN,x.toInCall.ns,fun i y v h1 h2 h3=>?_],fun y c h=>#[aR,x.cell y c h],Za6k,fun y c h=>?_,ZanK,ZaBv,?_⟩
 ·exact name_of_addr x.apart (aQF h1) (aQF h2)
 ·have hy:#[aBR,Ze2]\/#[aBR,Zf4]:=hy
  rcases hy with hy | hy
  ·exact FZ hy
  ·exact #[oF,(S.nofree _ (aQF hy))]
 ·exact ZBC (x.above y c (aQF h))
 ·have hi:ZXX:=by
   unfold tW at h2
   by_cases hi:ZXX
   ·exact hi
   ·rw[aQ0 (Za6i)]at h2
    rw[List.getElem?_replicate]at h2;split at h2<;>cases h2
  have ha:ZMG:=by
   unfold tW at h2;rw[aXA (Za6i),ZE]at h2
   cases e:ZMF with
   | none=>rw[e]at h2;cases h2
   | some a=>rw[e]at h2;cases h2;rfl
  obtain⟨u,hu,rv⟩:=ZaAI
  have hp:#[kG,ZMH]:=by
   rw[<-S.pre,ZXT];exact h1
  have ndP:ps.Nodup:=#[c_,S.pre,S.nd.sublist (List.take_sublist _ _)]
  refine#[cr,u,rv];rcases ZMI y (Zy hp) with k | k
  ·exact #[kv,k,C8 ndP hp hu k]
  ·obtain⟨c,e⟩:=FZ (n:=Zjk) k
   refine #[pB,ZHw,c,e,?_];have q:=x.cell y c e;rw[C6 ndP hp hu (by show ZvM y≠_;rw[k];decide)]at q;exact q
 ·exact Za6j (ZBC (x.above y c (aQF h)))
 ·unfold tW
  show _=ZahX
  rw[Zh,Y5,List.length_replicate]
  lia
def NT {CX:Cf}{P:Program}{w:World}{K:PySem.W.Frag}{mg:Zo6}{base:Heap}{k:Nat}{f:Addr}{name qual:Str}{params:Arguments}{body:Zih}{scope:Scope}{dV kV doc pm cdv ct oc:Value}{an od:Zgj}
  {osl:Zu7} {N ps:Zbo} {sp:Sp} (lk:#[aoC,Za0B]) (hcd:Zaco) (S:ZaV1)
  (len:ZOe)
  (hbody:∀ (A:Around)(outer:Zc9)(s:Shared)(H:Hp)(vs:Zbr)(Q:VK)(E:XK),#[TP,#[ahZ,ZbT,cdv]]->Zjn ->
   #[auS,CX,ZbT,cdv,Zfr]) :
  #[aZF,(Za0B)]:=by
 refine⟨len,#[a6l,?_]⟩;have hl:=ZaOg;have KX:ZnY:=e0.mod.kin.keeps Zap0;have lim:s.heap.NoLimit:=Za6m Zap0
 have hkind:#[jZ,ZvJ us,ZvM y.1=Zab Zls\/(ZvM y.1=Zab Ze2/\#[jl,(#[ft,Za6f] y.1)])]:=fun ⟨n,v⟩ hy=>by
  rcases ZMI n (aXM hy).1 with q | q
  ·exact ZHx
  ·exact Zap ⟨q,Za6g _ _ _ (Zam q)⟩
 refine #[a0T,codeAny_call_function,KX,lk,(PySem.W.codeRec_of KX hcd)];refine wpAny_newFunctionEnv_cells ZvL hkind fun env he s1 x=>?_;subst he;refine⟨lim.keeps x.toInCall.keep,codeAny_func ?_⟩;obtain⟨t,ht,hq⟩:=ZaKa;have I:#[aVG,cdv]:=Md S ZBW e0 hl r x;refine ZN (ht [] s1 ZSO H _ I hq) (fun fl s' hs=>?_) fun e s' hs=>hs
 have fin:∀ {σ':St}[438]{v:V}[164],aQ #[V5,cdv] [] σ' H' s'->Zfk->ZHC->ZaW_ :=
  fun {σ' H' v u} J rv q=>Za1e
 cases fl with
 | ret u =>
  obtain⟨v,σ',H',J,rv,q⟩:=hs;exact fin J rv q
 | next =>
  obtain⟨σ',H',J,q⟩:=hs;exact fin (v:=ZMJ) (u:=ZjQ) J rfl q
 | brk =>
  obtain⟨_,_,_,q⟩:=hs;exact Zayx
 | cont =>
  obtain⟨_,_,_,q⟩:=hs;exact Zayx
section
variable {X:Cx}{x:Str}{p pos:Pos}{e:Expr}{es:Zbv}{t:TA}{id T:String}{r:ZaCb}
abbrev W8 [427](t:TA):TE:=#[ahk,r vs H1 Q]
def bw (hc:#[pY,id,r])(hg:Zeo)(hm:ZAW)(hv:#[bc1,Zatf])(ha:Zhl)(hn:ZbcK:=by decide)(hdb:Za79:=by decide)
  (he:ZDL:=by rfl) (hpl:Zame (·.1)=false:=by rfl):ZaO9:=by
 intro pins s σ H Q I h;refine ZafM;exact PyProof.Rows.callWith_builtin1 (bS Zany fun us s1 zz=>by obtain ⟨vs,H1,I1,r1,q1⟩:=zz;exact ZaWm) he hpl
def bM (hc:ZaN8)(hg:Zeo)(hm:ZAW)(hv:Zbc2)(ha:Zhl)(hn:ZbcK:=by decide)(hdb:Za79:=by decide)
  (he:ZDL:=by rfl) (hpl:Zame (·.1)=false:=by rfl):ZaO9:=by
 intro pins s σ H Q I h;refine ZafM;exact aQe (bS Zany fun us s1 zz=>by obtain ⟨vs,H1,I1,r1,q1⟩:=zz;exact ZaWm) he hpl
def Jt (hc:ZaN8)(hg:Zeo)(hm:ZAW)(hv:Zbc2)[348](hdb:Za79:=by decide) :
  PE X (ZcW Zxa [] [] pos) (W8 r qg):=by
 intro pins s σ H Q I h;refine ZafM;exact PyProof.Rows.callWith_type0 (hc Zav s σ H [] [] Q I Zan h)
#where
#print L2
namespace HT
open PySem PyProof.Rows
section
variable {prog:Program}{w:World}{A:Around}{E:ZfE}{s:Shared}
def cat_tup {t b:Addr}{vs ws:Zb'}{Q:ZfE}(ht:ZBu ZaK t ZvN)(hb:ZBu ZaK b ZMK)(hv:vs≠[])
  (h1:ws=[]->Q Zqd s) (h2:ws≠[]->Q ZcN #[avp,ZaB7])
  (hsz:#[lF,ZiF+Zj0]):#[vY,(Za6n .Add #[aj,t] #[aj,b])]:=by
 obtain⟨⟨cls,dd,data,sl⟩,ho,hc,n,hd⟩:=id ht;obtain⟨⟨cls2,dd2,data2,sl2⟩,ho2,hc2,n2,hd2⟩:=id hb;simp only at hc hd hc2 hd2;subst hc hd hc2 hd2
 have e:ZvN++ZMK=#[f5,ZaB7]:=ZaA
 by_cases hw:ws=[]
 ·exact concat_meets Zaza Zazb noFill_tuple_add seq_tuple_add PySem.F.slot_tuple_add PySem.F.entry_tuple_add Zayk
   (tuple_addW1 t b ZvN ZMK n n2 dd dd2 sl sl2 (ZML) (by simp[hw])) ⟨ho,ho2,h1 hw⟩
 ·refine concat_meets Zaza Zazb noFill_tuple_add seq_tuple_add PySem.F.slot_tuple_add PySem.F.entry_tuple_add Zayk
   (tuple_addW2 t b ZvN ZMK n n2 dd dd2 sl sl2 (ZML) Zbde #[GD,Zv,Zv,hsz]) #[cr,ho,ho2]
  rw[e];exact h2 hw
abbrev sIx (n d:Nat):Zgk->Nat
 | none=>d
 | Znh=>#[cx,v<0,(v+Zbk).toNat,Zabk]
def sIx_none (n d:Nat):sIx n d Zac=d:=rfl
def sIx_nat (n d k:Nat):sIx n d (Zab ZtS)=min k n:=by
 show #[pV,ZtS<0,(ZtS+Zbk).toNat,min #[tS,0].toNat n,min k n]
 rw[Zns,aXy]
def sIx_le (n d:Nat)(hd:d<=n)(o:Zgk):sIx n d o<=n:=by
 cases o with
 | none=>exact hd
 | some v =>
  show #[gx,v<0,(v+Zbk).toNat,Zabk]<=n
  by_cases hv:v<0
  ·rw[Y9 hv];lia
  ·rw[Y8 hv];exact Nat.min_le_right _ _
def Kb (v:Int)(n d:Nat):#[aU6,#[a3,sIx n d (Zab v)]]:=by
 show #[aU6,#[a3,#[gx,v<0,(v+Zbk).toNat,Zabk]]]
 by_cases hv:v<0
 ·simp only[Y9 hv];lia
 ·simp only[Y8 hv];lia
def Ii [70][42]:Za6s lo hi 1 Zbk=(ZK8,ZaPp):=by
 have h1:¬ (ZmC<0):=Zad
 unfold Builtin.Slice.sliceAdjust;simp only[h1,aXZ];refine Za6t ?_ ?_
 ·cases lo with
  | none=>rfl
  | some v=>exact Kb v n 0
 ·cases hi with
  | none=>rfl
  | some v=>exact Kb v n n
def Jw (i j:Nat):Zah4 ZkB ZkI 1=j-i:=by
 unfold Builtin.Slice.slicePlaces
 have h1:ZmC>0:=Zad
 simp only[h1,aQP,Int.ediv_one];split<;>lia
def BX [313]{o:Zgk}{Q:#[fD,Zgk]}(p:ZMM v o)(h:Q o s):#[vY,(Builtin.Slice.slicePartIndex v)]:=by
 cases p with
 | none=>exact Za6u h
 | int i t=>exact slicePart_int h
def xR {sl:Addr}{vl vu:Value}{lo hi:Zgk}{n:Nat}{Q:#[fD,Int×Int×Nat]}(hs:Zagf)(pl:ZaeI)(pu:ZaeJ)
  (h:Q (ZK8,1,sIx n n hi-sIx n 0 lo) s):#[vY,(Builtin.Slice.sliceApplied #[aj,sl] (Zca Zbk))]:=by
 obtain⟨os,hos,hcs,hds⟩:=id hs;unfold Builtin.Slice.sliceApplied Builtin.Slice.sliceFields;refine Y6 (Y6 (#[g_,hos,hds,vl,(Y6 (#[g_,hos,hds,vu,(Y6 (#[g_,hos,hds,Zay,ZkY]))]))]));refine #[mF,Za6u]
 show #[kA,#[PB,#[g8,ZmC,0]]]
 rw[ZzO];refine Y6 (BX pl (Y6 (BX pu ZaFm)))
 show wpAny _ _ (match Za6s lo hi 1 Zbk with | (lo,hi)=>Zca (lo,ZmC,Zah4 lo hi 1)) _ _ s
 rw[Ii lo hi n]
 show #[kA,(Zca (ZK8,ZmC,Zah4 ZK8 ZaPp 1))]
 rw[Jw];exact Zg h
def O7 [373](i k:Nat):#[f5,(#[MN,(ZgM k)] ZaQn)]=#[f5,((xs.toList.drop i).take k)]:=by
 have e:#[aMf,ZaQn]:=by
  funext m
  have:Zat9=i+m:=Zad
  rw[this]
 rw[e];have:=Za6v xs i k;rw[List.filterMap_map]at this;have e2:#[aMf,(#[cy,xs[x]?]) ∘ #[cy,i+x]]:=rfl;rw[e2]at this;rw[this]
def getItem_tuple_cut {t sl:Addr}{items:Zix}{vl vu:Value}{lo hi:Zgk}{Q:ZfE}(ht:ZBu ZaK t ZnV)(hs:Zagf)(pl:ZaeI)(pu:ZaeJ)
  (hw:¬ (Zx2=0/\sIx Zf6 Zf6 hi=Zf6))
  (h:Q ZcN #[avp,Zago])
  (hsz:ZXB):#[vY,(ZBX #[aj,t] ZawJ)]:=by
 have htake:sizeOk (Za2 #[f5,Zago]):=by
  show #[lF,#[ago,0].toArray.size]
  rw[Zv,ZL,ZI,ZR]
  lia
 have hj:ZFm<=Zf6:=sIx_le _ _ Zbu hi;obtain⟨os,hos,hcs,hds⟩:=id hs;have hTs:#[ams,sl,"slice"]:=⟨os,hos,hcs⟩;unfold getItem
 try with_reducible refine aQj ?_
 first | refine Zaab | skip
 refine Y6 (wpAny_sequenceKey Zah5 ZaY ?_)
 refine Y6 (aQB (name:=#[fH,Za6w]) ht.typeIs PyProof.Rows.slot_tuple_getitem
  (aQK PyProof.Rows.slot_tuple_getitem Zah5 entry_tuple_getitem ?_ (args_tuple_getitem _ _)))
 show #[m',Builtin.Tuple.tupleItemsOf #[aj,t]]
 refine Y6 (tupleItemsOf_ ht ?_);refine #[bdQ,hTs];rw[ZAk];refine Y6 (xR hs pl pu ?_)
 have hno:¬ (Za03):=by
  intro q;rw[Z7,Z7]at q;have q1:ZasJ=0:=Zn8 Zpw;have q2:ZFm-Zx2=Zf6:=Zn8 q.2;exact hw ⟨Zad,Zad⟩
 show #[kA,#[PB,Za03]]
 rw[Y8 hno,O7]
 first
  | exact #[JZ,ZaX7]
  | exact #[JZ,(aQd (Y6 (Zg (Zg ZUT))) htake)]
  | exact Y6 (#[JZ,(aQd (Zg (Zg ZUT)) htake)])
  | exact Y6 (#[JZ,ZaX7])
#where
#print HT
namespace L2
open PySem PySem.Spec PyProof.Rows
noncomputable abbrev TO:=St->Hp->(#[gq,Zgk])->Zaa
abbrev PO [228](e:Zaxo)(t:TO):Zaa :=
 ∀ [2](Q:Zayu),Zi6->ZtH ->
  #[w5,(evalPart e ZaS),(fun u s'=>∃ o H',ZqW/\ZMM u o/\Q o H')]
abbrev Lz:TO:=#[ahm,Zac]
abbrev P2 (t:TE):TO:=#[ahf,t,∃ i,x=Zdy/\Q #[fb,i] H1]
section
variable {X:Cx}{e:Expr}{te:TE}{lo hi:Zaxo}{tl th:TO}{pos p2:Pos}
def pA:PO X Zac Lz:=by
 intro pins s σ H Q I h;rw[evalPart_none];exact Zg ⟨Zac,H,I,Zay,h⟩
def fU (h:Zhk):PO X (Zab e) (P2 te):=by
 intro pins s σ H Q I hw;rw[evalPart_some];refine bS ZacK ZhV;obtain ⟨x,H1,I1,r1,q1⟩:=zz;obtain⟨i,rfl,q⟩:=q1;obtain⟨t,rfl⟩:=r1;exact⟨ZW3,H1,I1,Zag i t,q⟩
abbrev VG [228][243]:Zaa :=
 ∀ [2](x:V)(v vl vu:Value)[70](sl:Addr)(Q:VK),Zi6->ZeL->Zagf->ZaeI->ZaeJ->r x lo hi H Q ->
  ∃ T id,Za6x/\ZaNn/\#[QQ,(ZBX v ZawJ)]
abbrev Yu [243][339](tl th:TO):TE:=#[ahh,tl σ H1 fun l H2=>th σ H2 fun u H3=>r x l u H3 Q]
def gK {r:Zaei}(hr:VG X r)[106](hl:PO X lo tl)(hu:PO X hi th):#[M3,e,ZaP',(Yu r te tl th)]:=by
 intro pins s σ H Q I h;refine Zah6 (bS ZkW Zjf);obtain ⟨x,H1,I1,r1,q1⟩:=zz;refine wpAny_Slice (bS #[D2,hl] fun vl s2 zz=>?_);obtain ⟨l,H2,I2,pl,q2⟩:=zz;refine bS #[Wc,hu] fun vu s3 zz=>?_;obtain ⟨u,H3,I3,pu,q3⟩:=zz;rw[evalPart_none];refine Zub;have I4:aQ X pins σ H3 { s3 with heap:=s3.heap.push { cls:=ZXK,data:=Za1 #[vl,vu,Zay] } }:=I3.kept (t':=Zah7) ZUy;obtain⟨T,id,hT,ht,hg⟩:=hr pins { s3 with heap:=s3.heap.push { cls:=ZXK,data:=Za1 #[vl,vu,Zay] } } σ H3 x v vl vu l u s3.heap.objs.size Q I4 r1 (Heap.IsSliceOf.new ..) pl pu q3
 show wpAny Zw3 X.A (Za6y e ZaP' v #[aj,ZMO]) ZQP X.xe { s3 with heap:=s3.heap.push { cls:=ZXK,data:=Za1 #[vl,vu,Zay] } }
 exact tail_any (ops:=[Zai ZMO,v]) ht hT hg (by with_unfolding_all rfl)
abbrev vo [43][70]:Zbr:=#[au2,ZagO]
def yD [43][70]:#[bd,Zacj,ZaL]:=by
 unfold vo;rw[ZL,ZI]
 lia
abbrev Ws [1]:Zaei:=fun x lo hi H Q=>∃ a xs,Zk7/\Zjy /\
 ¬ (ZaqB=0/\Zj1 ZaL ZaL hi=ZaL)/\#[qq,#[cS,Zacj]]
def BW:VG X (Ws X.K):=by
 intro pins s σ H x v vl vu lo hi sl Q I rx hs pl pu h;obtain⟨a,xs,rfl,hx,hw,q⟩:=h;cases rx;obtain⟨its,r,ht,hz⟩:=ZayI
 have hlen:Zj2=ZaL:=#[aE,Zv,r.length.symm]
 refine⟨Zf2,_,PyProof.Rows.slot_tuple_getitem.lookup,Zah5,?_⟩;refine HT.getItem_tuple_cut ht hs pl pu #[bj,ZiH,hw] ?_ #[bj,ZiH,hz];rw[hlen];refine#[a0G,ZcR];exact⟨ZaVJ,_,ZaJ7,ZH1⟩
abbrev Wo [1]:R2:=fun x y H Q=>∃ a b xs ys,Zk7/\ZEv/\Zjy/\aU K H b ys/\xs≠[]/\#[aBm,Zn9] /\
 (ys=[]->Q ZbP H)/\(ys≠[]->#[qq,(ZcR (xs++ys))])
def bF.nil_iff [333](r:ZfS):us=[]↔xs=[]:=by
 cases r with
 | nil=>simp
 | cons _ _=>simp
def Rr:#[a6p,(Wo X.K)]:=by
 intro pins s σ H x y v u Q I rx ry h;obtain⟨a,b,xs,ys,rfl,rfl,ha,hb,hx,hz,q1,q2⟩:=h;cases rx;cases ry;obtain⟨its,r1,p1,_⟩:=Zn2 ha;obtain⟨its2,r2,p2,_⟩:=Zn2 hb;refine HT.cat_tup p1 p2 #[bZ,hx (r1.nil_iff.mp z)] #[bZ,#[mG,ZbV,q1 (r2.nil_iff.mp z)]] ZH2 (by rw[<-r1.length,<-Za6c];exact hz);refine#[sy,#[Uo,Zb4,ZcR (xs++ys),ZUy,?_],q2 (fun w=>z (r2.nil_iff.mpr w)) _ Zsx];exact⟨#[avw,Zh],_,r1.append r2,ZH1⟩
#where
abbrev Vq [42](i:Int):#[gh,Nat]:=#[cx,0<=i,(#[akS,i<n,ZBY]),#[akS,-Zbk<=i,(i+n).toNat]]
abbrev FL [78][390](i:Int):#[gh,α]:=(Vq ZaL i).bind fun j=>ZMR
def QV [69]{i:Int}{j:Nat}(h:Vq n i=Zab j):#[aQD,n]/\j<n/\-Zbk<=i/\i<n:=by
 unfold Vq at h
 by_cases h0:0<=i
 ·rw[Y9 h0]at h
  by_cases h1:i<n
  ·rw[ZzG]at h
   have e:ZaFI:=Zl h;exact#[ab2,#[a_,Za6z h0 h1,e],h1]
  ·rw[ZtZ]at h;cases h
 ·rw[Y8 h0]at h
  by_cases h1 : -Zbk<=i
  ·rw[ZzG]at h
   have e:(i+n).toNat=j:=Zl h;exact⟨#[a_,#[aDQ,h1],e],Zad,h1,Zad⟩
  ·rw[ZtZ]at h;cases h
def Ei [78]{xs:ZdZ}{i:Int}{v:α}(h:FL xs i=Zab v):∃ j,#[aQD,ZaL]/\ZaAM/\Zazq/\-(ZaL:Int)<=i/\ZzS:=by
 unfold FL at h
 cases e:Vq ZaL i with
 | none=>rw[e]at h;cases h
 | some j =>
  rw[e]at h;obtain⟨h1,h2,h3,h4⟩:=QV e;exact⟨j,h1,h,h2,h3,h4⟩
def aN [78]{xs:ZdZ}{j:Nat}{v:α}(h:ZaAM):FL xs ZkI=Zab v:=by
 have hj:Zazq:=#[ri,h]
 have e:Vq ZaL ZkI=Zab j:=by
  unfold Vq;rw[ZHH,ZHH];simp
 unfold FL;rw[e];exact h
abbrev Qp (b:Expr):Zaa:=∀ o i,ZMS b Zaz o i=#[adY,[o,i],o,i]
abbrev VA [228](r:R2):Zaa :=
 ∀ (value slice:Expr)[210],Zi6->ZeL->Zhf->r x y H Q ->
  ZMS ZvO Zaz v u=#[adY,[v,u],v,u]->#[QQ,(Za6y Zn_ ZvO v u)]
abbrev VC [228](id:String)[139]:Zaa :=
 ∀ [374],Zi6->ZeL->ZfS->ZaGZ ->
  ZaUW
section
variable {X:Cx}{a b:Expr}{ta tb:TE}{pos:Pos}
def aJ {r:R2}(hr:VA X r)[148](hb:ZAX)(hs:Qp b):#[M3,a,b,Zaf2]:=by
 intro pins s σ H Q I h;exact Zah6 (Tv ha hb I h #[a6A,hr a b Zav s2 σ H2 x y v u Q I2 rx ry q (hs _ _)])
inductive YB [1][319]:Zaa
 | mk [220](q:ZJQ)[375]
abbrev XQ [1]:R2:=#[aZq,YB]
inductive YC [1][319]:Zaa
 | mk [220](q:Zabh)[375]
abbrev Wq [1]:R2:=#[aZq,YC]
abbrev XR:R2:=fun x y H Q=>∃ z i c,x=ZcL/\y=Zdy/\Znq/\FL Zev i=Zab c/\Q (Zaf ⟨#[c]⟩) H
def jL:VA X (XQ X.K):=by
 intro value slice pins s σ H x y v u Q I rx ry h hs;obtain⟨p,xs,i,z,rfl,rfl,hq,he,q⟩:=h;cases rx;obtain⟨t,rfl⟩:=ry;obtain⟨its,r,pl,hz⟩:=Zvw;obtain⟨j,h1,h2,h3,h4,h5⟩:=Ei he;obtain⟨w,ew,rw'⟩:=ZaAX;have hl:=r.length;have hn:=xk;have fin:#[m0,w,s]:=ZaQK
 by_cases h0:0<=i
 ·have hj:ZaFI:=by
   rw[Za6z h0 h5]at h1;exact Zl h1
  exact item_listR ZiC h0 Zah (#[a6C,hj]) fin hs
 ·have hj:(i+Zap3).toNat=j:=by
   rw[#[aDQ,h4]]at h1;rw[Zv,<-hl];exact Zl h1
  exact subscriptTail_builtinR (x:=w) pl.isList.typeIs slot_list_getitem.lookup
   (wpAny_getItem_list_neg (Q:=ZaQo) ZiC Zah (by rw[Zv]<;>lia) Zah (#[a6C,hj]) Zayh) hs
def aB:VA X (Wq X.K):=by
 intro value slice pins s σ H x y v u Q I rx ry h hs;obtain⟨p,xs,i,z,rfl,rfl,hq,he,q⟩:=h;cases rx;obtain⟨t,rfl⟩:=ry;obtain⟨its,r,pl,hz⟩:=Zn3;obtain⟨j,h1,h2,h3,h4,h5⟩:=Ei he;obtain⟨w,ew,rw'⟩:=ZaAX;have hl:=r.length;have hn:=xk;have fin:#[m0,w,s]:=ZaQK
 exact subscriptTail_builtinR (x:=w) pl.typeIs slot_tuple_getitem.lookup
  (getItem_tuple (j:=j) (Q:=ZaQo) pl Zah Zah (#[vP,Zv,hl,h1]) (by simpa using ew) Zayh) hs
def IQ:VA X XR:=by
 intro value slice pins s σ H x y v u Q I rx ry h hs;obtain⟨z,i,c,rfl,rfl,hz,he,q⟩:=h;obtain⟨t,rfl⟩:=rx;obtain⟨t',rfl⟩:=ry;obtain⟨j,h1,h2,h3,h4,h5⟩:=Ei he
 have hl:Zaj':=by simp[Str.length]
 rw[hl]at h1 h4 h5;have hn:=xk
 exact tail_any (ZMT s z t) slot_str_getitem.lookup (getItem_str (c:=c) (by
  have e1:#[lA,i < ZaFQ]:=ZqE;have e2:#[lA,i>=Zp7]:=ZqE
  rw[e1,e2,Bool.or_false]) (by rw[h1];simpa using h2) ⟨Zaf ⟨#[c]⟩,H,Zg9,Za8,q⟩) hs
def Fq [70][42]:#[aeY,0].1=ZaxE/\#[aeY,0].2.1=ZaxF/\#[aeY,0].2.2=1:=by
 refine#[dU,?_,?_]
 ·cases lo with
  | none=>simp[sliceBounds,HT.sIx]
  | some i =>
   simp only[sliceBounds,HT.sIx,Option.getD_none,Zaoo,aQP]
   by_cases h:i<0
   ·simp only[h,aQP]<;>lia
   ·simp only[h,aXZ]<;>lia
 ·cases hi with
  | none=>simp[sliceBounds,HT.sIx]
  | some i =>
   simp only[sliceBounds,HT.sIx,Option.getD_none,Zaoo,aQP]
   by_cases h:i<0
   ·simp only[h,aQP]<;>lia
   ·simp only[h,aXZ]<;>lia
def CV [376][70]:slicePick ZbJ lo hi Zac=#[f5,#[aVR,its.drop,Zn',Zn',Zn',Zn']]:=by
 obtain⟨h1,h2,h3⟩:=Fq lo hi Zj2;unfold slicePick;rw[h1,h2,h3];simp only[sliceRange_one,pick_run,Zv]<;>rfl
inductive XU [1][264]:Zaa
 | mk [84][43](_:Zk7)(_:Zlc)(_:#[qq,#[eG,Zacj]])
def Lh:VG X (XU X.K):=by
 intro pins s σ H x v vl vu lo hi sl Q I rx hs pl pu h;obtain⟨a,xs,rfl,hx,q⟩:=h;cases rx;obtain⟨its,r,ht,hz⟩:=ZayH;have hlen:=r.length;refine⟨ZdE,_,slot_list_getitem.lookup,ht.isList.typeIs,?_⟩;refine wpAny_getItem_list_slice ht.isList hs pl pu Zay Za7 ?_ (by rw[Zv]<;>lia);rw[CV,<-hlen];refine#[a0G,Zbw];exact⟨ZaVJ,_,0,ZaJ7,Zct⟩
abbrev qT:V->Zb3
 | ZaH=>true
 | ZhZ=>true
 | ZgD=>true
 | ZfQ=>true
 | _=>false
abbrev Ix:ZaNW
 | ZaH,ZaH=>true
 | .bl a,Zuc=>Zacv
 | .bl a,ZmN=>(if a then 1 else 0) == b
 | ZkL,Zuc=>a == (if b then 1 else 0)
 | ZkL,ZmN=>Zacv
 | Zaf a,Zaf b=>Zacv
 | _,_=>false
def NN [52][263][241][253](rx:ZeL)(fy:ZaF_)(fx:ZZS):#[bcW,(Ix y x)]:=by
 cases y with
 | non =>
  cases ry
  cases x with
  | non=>cases rx;exact Zaw0
  | bl b=>cases rx;exact SeqAt.EqAt.none_bool b
  | int b=>obtain⟨t,rfl⟩:=rx;exact SeqAt.EqAt.none_int b t
  | str b=>obtain⟨t,rfl⟩:=rx;exact SeqAt.EqAt.none_str b t
  | _=>exact ZIx
 | bl a =>
  cases ry
  cases x with
  | non=>cases rx;exact SeqAt.EqAt.bool_none a
  | bl b=>cases rx;exact SeqAt.EqAt.bool_bool a b
  | int b=>obtain⟨t,rfl⟩:=rx;exact SeqAt.EqAt.bool_int a b t
  | str b=>obtain⟨t,rfl⟩:=rx;exact SeqAt.EqAt.bool_str a b t
  | _=>exact ZIx
 | int a =>
  obtain⟨t',rfl⟩:=ry
  cases x with
  | non=>cases rx;exact SeqAt.EqAt.int_none a t'
  | bl b=>cases rx;exact SeqAt.EqAt.int_bool a t' b
  | int b=>obtain⟨t,rfl⟩:=rx;exact SeqAt.EqAt.int_int a t' b t
  | str b=>obtain⟨t,rfl⟩:=rx;exact Za4A a t' b t
  | _=>exact ZIx
 | str a =>
  obtain⟨t',rfl⟩:=ry
  cases x with
  | non=>cases rx;exact SeqAt.EqAt.str_none a t'
  | bl b=>cases rx;exact SeqAt.EqAt.str_bool a t' b
  | int b=>obtain⟨t,rfl⟩:=rx;exact Za4B a t' b t
  | str b=>obtain⟨t,rfl⟩:=rx;exact SeqAt.EqAt.str_str a t' b t
  | _=>exact ZIx
 | _=>exact #[xn,show Zjb from fy]
abbrev QG (x:V)(u:Value):Bool:=match u with
 | Zay=>Ix ZaH x
 | ZHQ=>Ix (.bl b) x
 | Zag i _=>Ix (Zag i) x
 | Zaf z _=>Ix (Zaf z) x
 | _=>false
def NO {x y:V}[164](r:Zhf)(f:ZaF_):QG x u=ZVU:=by
 cases y with
 | non=>cases r;rfl
 | bl b=>cases r;rfl
 | int i=>obtain⟨t,rfl⟩:=r;rfl
 | str z=>obtain⟨t,rfl⟩:=r;rfl
 | _=>exact #[xn,show Zjb from f]
def Ef {x:V}:#[aK2,us.any ZTI=xs.any ZavO]
 | _,_,Zan,_=>rfl
 | y::xs,ZqS,ZnI,f=>by
  rw[List.all_cons,Z7]at f;rw[aQO,aQO,ZaNG,Ef t f.2]
def AW [52][263]{x:V}[313](rx:ZeL)(fx:ZZS):#[aK2,#[bcX,(QG x u)]]
 | _,_,Zan,_=>fun u hu=>by cases hu
 | y::xs,ZqS,ZnI,f=>fun u' hu=>by
  rw[List.all_cons,Z7]at f;rcases Zcw hu with rfl | hu
  ·rw[ZaNG];exact NN r rx f.1 fx
  ·exact AW rx fx t f.2 u' hu
abbrev IM (x:V)[43]:Bool:=xs.any ZavO
inductive YO [1][230]:Zaa
 | mk [158][43](_:y=Zcs)(_:(ZJQ\/Zabh))(_:ZZS)(_:Zatq)(_:#[aDt,! IM x xs,IM x xs])
def lI:#[ahr,.In,(YO X.K Zaz)]:=by
 intro pins s σ H x y v u Q I rx ry h;obtain⟨p,xs,rfl,hq,fx,fs,q⟩:=h;cases ry;rcases hq with hq | hq
 ·obtain⟨its,r,pl,hz⟩:=Zvw
  refine #[bdg,Za6D,ZiC];rw[ZaXr,Ef r fs];exact q
 ·obtain⟨its,r,pl,hz⟩:=Zn3
  refine #[bdg,Za6E,pl];rw[ZaXr,Ef r fs];exact q
inductive Jy [1][11]:Zaa
 | mk [231](_:#[ue,Zn9])
def bO:#[Jb,ZBZ,Jy]:=by
 intro pins s σ H xs us Q I r h;obtain⟨p,ys,rfl,hq,q⟩:=h;obtain⟨u,rfl,rx⟩:=ZeR;cases rx;have hn:=xk;rcases hq with hq | hq
 ·obtain⟨its,r',pl,hz⟩:=Zvw
  have hlen:=r'.length;exact Calls.call_len_list ZiC (ZMU) ZaYn
 ·obtain⟨its,r',pl,hz⟩:=Zn3
  have hlen:=r'.length;exact len_tuple pl (ZMU) ZaYn
inductive Jz [11]:Zaa
 | mk (z:_)(_:xs=[ZcL])[460](_:#[ue,ZbK])
def kL:#[pY,ZBZ,Jz]:=by
 intro pins s σ H xs us Q I r h;obtain⟨z,rfl,hz,q⟩:=h;obtain⟨u,rfl,t,rfl⟩:=ZeR;have hn:=xk;exact len_str Zah #[p_,Zag ZbK]
inductive JA [1][11]:Zaa
 | mk [231](_:#[jK,ZyA])
def kM:#[id,ZdE,(JA X.K)]:=by
 intro pins s σ H xs us Q I r h;obtain⟨p,ys,rfl,hq,q⟩:=h;obtain⟨u,rfl,rx⟩:=ZeR;cases rx
 have fin:∀ [376],ZaGj->ZXC->∀ (h':Heap)(c':Nat),(ZaTd) ->
   Zacq=some { cls:=ZdF,dict:=none,data:=Za2 ZbJ c',slots:=#[] }->#[m0,ZcN,ZlI]:=fun its r' hz h' c' kp e =>
  #[tJ,#[KT,Zb4,kp,ZyA,⟨hz,its,c',r',e⟩]]
 rcases hq with hq | hq
 ·obtain⟨its,r',pl,hz⟩:=Zvw
  have hlen:=r'.length;obtain⟨o,ho,hc,n,hd⟩:=pl.isList;exact #[a1y,ZhO]
 ·obtain⟨its,r',pl,hz⟩:=Zn3
  have hlen:=r'.length;obtain⟨o,ho,hc,n,hd⟩:=pl;exact #[a1y,(Zap rfl)]
inductive Hh [1][11]:Zaa
 | mk (p:_)(ys:_)[62](_:((bN K H p ys/\#[jK,ZpE])\/(ZaGO/\Q ZfL H)))
def gi:#[id,Zf2,(Hh X.K)]:=by
 intro pins s σ H xs us Q I r h;obtain⟨p,ys,rfl,h⟩:=h;obtain⟨u,rfl,rx⟩:=ZeR;cases rx;rcases h with ⟨hq,q⟩ | ⟨hq,q⟩
 ·obtain⟨its,r',pl,hz⟩:=Zvw
  have hlen:=r'.length;refine call_tuple_list ZiC (fun h' kp=>?_) (ZMU);have I1:ZzU:=Zrm (t':=Zb4) kp
  have I2:#[b7,#[bt,ZlG,ZpE],#[lH,ZMV #[Qj,Zf3,ZbJ]]] :=
   ZBP (t':=Zb4) (ZmI) Zbu #[mp,_,_,_,ZpE,⟨hz,its,r',ZH1⟩]
  exact#[aPZ,I2]
 ·obtain⟨its,r',pl,hz⟩:=Zn3
  exact call_tuple_same pl #[mG,Zcs,q]
abbrev Yg [1](T:String)[407]:Zaa:=match x with
 | ZfQ=>T=Zf1
 | ZgD=>T=Zrp
 | Zcs=>(T=ZdE/\∃ xs,ZJQ)\/(T=Zf2/\∃ o,#[ab4,p,Zahu=Zac]) \/
   (T=ZiI/\((∃ kvs,#[ff,ZeH])\/∃ kvs,#[ff,Zql]))\/(T=ZiK/\∃ S n,Zaz4)
 | _=>False
def Qa [4]{T:String}{x:V}[313][3](r:ZeL)(ty:Yg X.K T x H) :
  ZaNn/\∀ a,v=ZbV->#[aK3,Zd5 a=Zab ob]:=by
 cases x with
 | str z =>
  obtain⟨t,rfl⟩:=r;cases #[avS,Zf1];exact⟨ZMT s z t,fun _ e=>nomatch e⟩
 | int i =>
  obtain⟨t,rfl⟩:=r;cases #[avS,Zrp];exact⟨Zah_ s i t,fun _ e=>nomatch e⟩
 | ref p =>
  cases r;rcases ty with ⟨rfl,xs,hq⟩ | ⟨rfl,o,hk,hc,hd⟩ | ⟨rfl,hk⟩ | ⟨rfl,S,n,hk⟩
  ·obtain⟨its,_,pl,_⟩:=Zvw
   refine⟨pl.isList.typeIs,fun a e=>?_⟩;cases e;obtain⟨o,n,e,c,hd,_⟩:=pl;exact⟨o,e,hd⟩
  ·refine⟨⟨o,Zhq p o hk,hc⟩,fun a e=>?_⟩
   cases e;exact⟨o,Zhq _ o hk,hd⟩
  ·have z:∃ o,#[qF,p]/\Za6F:=by
    rcases hk with ⟨kvs,hk⟩ | ⟨kvs,hk⟩
    ·obtain⟨_,_,_,_,o,_,_,e,ex,_⟩:=ZaaM
     exact ZaC9
    ·obtain⟨_,_,_,_,o,_,_,e,ex,_⟩:=ZaaM
     exact ZaC9
   obtain⟨o,e,ex⟩:=z;refine ZaZo;cases e2;exact ZaC_
  ·obtain⟨o,_,_,_,e,ex,_⟩:=ZaaM
   refine ZaZo;cases e2;exact ZaC_
 | _=>exact Zvx ty
abbrev XY [411]:TE:=#[aWE,r x [] H1 Q]
abbrev WJ [411](t:TA):TE:=#[aWE,t σ H1 fun xs H2=>r x xs H2 Q]
variable {o e:Expr}{es:Zbv}{to:TE}{t:TA}{name:Str}{apos cpos:Pos}{T id:String}{r:ZAP}
def UG (pa:ZaDO)(slot:ZaW')(hty:ZaTJ)(hm:ZaPQ)(ho:ZuK)
  (hbase:Za5X:=by rfl) (hline:Zlh:=by rfl):#[D',Zdk,[],(XY X.K T r to)]:=by
 intro pins s σ H Q I h;refine Za6G ZvQ ZMW Zath;obtain ⟨x,H1,I1,r1,ty,q1⟩:=zz;obtain⟨h1,h2⟩:=ZaXa;exact⟨T,id,pa,slot,hty,h1,h2,aQu rfl (Za6H (hm Zav s1 σ H1 x [] v [] Q I1 r1 Zan q1))⟩
def ii (pa:ZaDO)(slot:ZaW')(hty:ZaTJ)(hm:ZaPQ)(ho:ZuK)(ha:Zhl)
  (hbase:Za5X:=by rfl)
  (hfew:(#[amf,Zdu]&&ZRp
   && #[anj,Zdu])=true:=by rfl)
  (hline:Zlh:=by rfl) (hs:ZDL:=by rfl) (hplain:ZaDB (·.1)=false:=by rfl) :
  #[D',Zdk,Zdu,(WJ X.K T r to t)]:=by
 intro pins s σ H Q I h;refine Za0e;obtain ⟨x,H1,I1,r1,ty,q1⟩:=zz;obtain⟨h1,h2⟩:=ZaXa;refine⟨T,id,pa,slot,hty,h1,h2,?_⟩;have hA:=#[Wh,ha,ZiL,_,q1];rw[hs]at hA ⊢;refine aQu (by show (false||ZaDB (·.1))=false;rw[hplain]<;>rfl) ZZR
 exact bS hA fun us s2 zz=>by obtain ⟨vs,H2,I2,r2,q2⟩:=zz;exact hm Zav s2 σ H2 x vs v us Q I2 r1 r2 q2
#where
abbrev W1 [228](id:String)[139]:Zaa :=
 ∀ [374],Zi6->ZeL->ZfS->ZaGZ ->
  ZaUW
def bF.one {x:V}[17](h:ZazD):ZaXd:=by
 cases h with
 | cons r t=>cases t;exact ZX8
def bF.two {x y:V}[17](h:ZazE):∃ u v,us=[u,v]/\ZkX/\bE y v:=by
 cases h with
 | cons r t=>
  cases t with
  | cons q t=>cases t;exact#[ci,_,_,r,q]
def bF.zero:∀ [17],bF [] us->us=[]
 | _,Zan=>rfl
def bF.dropLast [333](h:ZfS):bF Za6I us.dropLast:=by
 induction h with
 | nil=>exact Zan
 | cons r t ih =>
  cases t with
  | nil=>exact Zan
  | cons q t'=>exact ZaC r ih
def bF.rep [333](h:ZfS):#[zu,bF #[Rn,xs] #[Rn,us]]
 | 0=>Zan
 | k+1=>by
  rw[aQi,aQi,aQk,aQk];exact ZagN h (bF.rep h k)
def Iy [78][441]:l.eraseIdx (Zcc-1)=l.dropLast:=by
 induction l with
 | nil=>rfl
 | cons a r ih =>
  cases r with
  | nil=>rfl
  | cons b r =>
   have e:ZaKM-1=(ZaKN-1)+1:=by
    have h1:ZaKM=Ze5+2:=rfl;have h2:ZaKN=Ze5+1:=rfl
    lia
   rw[e,List.eraseIdx_cons_succ,ih]
   all_goals rfl
def Dk [376]:∀ [283](acc:Zb'),
  List.foldl Zae_ Za6J #[Rm,ZbJ]=#[FX,acc,ZaBP]
 | 0,acc=>ZaA
 | k+1,acc=>by
  have e:Za6J++ZbJ=#[FX,acc,its]:=ZaA
  have e2:ZaIc++ZaBP=acc++#[j3,#[F0,Zc6,its]]:=by
   rw[aQi,aQk,aQb]
  rw[<-e2,<-Dk its k ZaIc,<-e,aQi,aQU]
section
variable {X:Cx}{pins:Ze0}{σ:St}{H:Hp}{s:Shared}{l b:Addr}{xs ys zs:Zbr}
def aQ.lset {its its':Zb'}{n:Nat}{f:ZaKg}{t':Nat}(I:Zi6)(hH:ZqV)
  (e:ZaNR) (hf:f ZbJ=its'.toArray) (hv:bF ys its') (hz:ZXC) :
  #[XM,#[hJ,ZyA],s.heap.update l (Za6K f),t']:=by
 have q:=PySem.IsL.update e f;rw[hf]at q;refine Zah' (x:=l) (e:=l) #[bj,hH,ZB0] ZhO (fun b' u hb hu=>(ZT ZaK (Za6K f) (Zw hb)).trans hu) Zk4 ?_;exact⟨hz,its',_,hv,q⟩
def aQ.lnew [278]{t':Nat}[3](hv:ZaGj)(hz:ZXC) :
  #[XM,#[Ff,ZyA],#[amn,#[Qj,ZdF,ZbJ]],t'] :=
 Zro (Zasl) Zbu ⟨hz,its,0,hv,Zct⟩
def aQ.fresh [3]:ZXy:=ZI7
def aQ.lstM [391]:#[aE9,Zy_/\ZaL=Zn'/\ZaNR]:=by
 obtain⟨z,its,n,r,e⟩:=Zbe l _ hH;exact⟨z,its,n,r,Ze5,e⟩
def GN [69](h:#[lF,n]):Zaia n=Zaz:=by
 unfold Builtin.List.listTooLong;exact ZqE
#where
section
variable {X:Cx}
inductive RG (x:V)[0]:Zaa
 | mk [392](_:vs=[y])[461](_:ZaA8)(_:Q ZaH ZaMT)
def cY:W1 X Zaib RG:=by
 intro pins s σ H x vs v us Q I rx rv h;obtain⟨l,xs,y,rfl,rfl,hH,hz,q⟩:=h;cases rx;obtain⟨u,rfl,ru⟩:=rv.one;obtain⟨z,its,n,r,hl,e⟩:=ZuR;refine Za0P;refine#[ae1,ZaZd];rw[Zh,ZS]
 lia
inductive RH (x:V)[0]:Zaa
 | mk [286](_:#[nv,b])[120](_:Q ZaH #[hJ,(Zbw (xs++zs))])
def Mr:W1 X "list.extend" RH:=by
 intro pins s σ H x vs v us Q I rx rv h;obtain⟨l,b,xs,zs,rfl,rfl,hH,hB,hz,q⟩:=h;cases rx;obtain⟨u,rfl,ru⟩:=rv.one;cases ru;obtain⟨z,its,n,r,hl,e⟩:=ZuR;obtain⟨z2,its2,n2,r2,hl2,e2⟩:=ZaCE
 have hsz:#[lF,Zj2+Za6L]:=#[f7,Zv,Zv]
 have hlong:¬ #[gs,Za5B&&Zaia (Zj2+Za6L)]:=by
  rw[GN hsz,Bool.and_false];exact Zo
 refine aXi F.slot_list_extend Zqi F.entry_list_extend (F.args_list_extend_2 _ _)
  (AutoSeq1.list_extend_list_list_0 l ZbJ n b Za6M n2 hlong ZGi Zah) #[cr,e,e2]
 refine#[ae1,#[Wa,its++its2,Za7,ZaLE]];rw[Zh]
 lia
inductive XS (x:V)[0]:Zaa
 | mk [392](_:vs=[])[461](_:#[kG,xs[ZaL-1]?])(_:Q y #[hJ,#[eG,Za6I]])
def Uj:W1 X "list.pop" XS:=by
 intro pins s σ H x vs v us Q I rx rv h;obtain⟨l,xs,y,rfl,rfl,hH,hy,q⟩:=h;cases rx;have hus:=rv.zero;subst hus;obtain⟨z,its,n,r,hl,e⟩:=ZuR;obtain⟨u,hu,ru⟩:=ZMX hy
 have hy':#[aH7,Zj2-1]:=by
  show #[aH7,ZYM]
  rw[<-aXn,<-hl];exact hu
 refine aXi F.slot_list_pop Zqi F.entry_list_pop (F.args_list_pop_1 _) (MeetsSeq.list_pop_last l ZbJ n u hy' ZGi) ZUZ;refine⟨y,_,#[Wa,its.dropLast,?_,r.dropLast],ru,q⟩
 ·show its.toArray.eraseIdxIfInBounds (Zj2-1)=its.dropLast.toArray
  rw[Zv,List.eraseIdxIfInBounds_toArray,Iy]
 ·rw[List.length_dropLast]
  lia
inductive XM (x:V)(y:V)[176]:Zaa
 | mk [286](_:ZEv)[120](_:#[qq,(Zbw (xs++zs))])
def Jr:#[a6p,XM]:=by
 intro pins s σ H x y v u Q I rx ry h;obtain⟨l,b,xs,zs,rfl,rfl,hH,hB,hz,q⟩:=h;cases rx;cases ry;obtain⟨z,its,n,r,hl,e⟩:=ZuR;obtain⟨z2,its2,n2,r2,hl2,e2⟩:=ZaCE;refine PySem.P.add_list e e2 ?_ (#[f7,Zv,Zv])
 have ea:ZbJ++Za6M=#[FX,its,its2]:=ZaA
 rw[ea];exact#[aSd,ZaLE,#[pJ,Zh]]
abbrev XT:R2:=fun x y H Q=>∃ l k xs,x=Zk2/\y=ZXd/\ZqV/\-(2 ^ 63)<=k/\k<Zp7/\#[lF,ZaL*Zrr] /\
 #[qq,#[eG,#[j3,#[F0,Zrr,xs]]]]
def Q2 [78][390][283]:#[aIY,xs,ZaL]:=by
 induction k with
 | zero=>simp
 | succ k ih=>rw[aQi,aQk,Zh,ih,Nat.succ_mul,aXW]
def UE:#[a6o,.Mult,XT]:=by
 intro pins s σ H x y v u Q I rx ry h;obtain⟨l,k,xs,rfl,rfl,hH,h1,h2,hz,q⟩:=h;cases rx;obtain⟨t,rfl⟩:=ry;obtain⟨z,its,n,r,hl,e⟩:=ZuR
 have hlen:#[lF,Zacw]:=#[vP,Zv,hl,hz]
 have hcap:¬ Zacw>ZaRw:=by
  have:(ZlE:Nat)<=ZaRw:=Zaw
  lia
 have hfit:¬ #[gs,! Builtin.List.listFitsIndex k]:=by
  rw[fitsIndex_both h1 h2];exact Zo
 have hlong:¬ Zaia (Zacw)=Zae:=by
  rw[GN ZiH];exact Zo
 have hnew:List.foldl Zae_ #[] (ZvK (if its.toArray.isEmpty=Zae then 0 else k.toNat) ZbJ)=#[avT,Zrr]:=by
  have f0:∀ m:Nat,List.foldl Zae_ #[] #[F0,m,ZbJ]=#[avT,m]:=fun m=>by
   have:=Dk its m [];rw[aXN]at this;exact this
  rw[f0]
  cases its with
  | nil=>simp
  | cons a r'=>rw[ZzP]
 refine wpAny_binaryOp_repeat_ref (T:="list") (U:="int") ZaY Zqi (fun s'=>Zah_ s' k t) noFill_list_mul F.fills_int_mul F.slot_int_rmul repeat_list F.slot_int_index.lookup
  (aXi F.slot_int_rmul (Zah_ s k t) F.entry_int_rmul (F.args_int_rmul_2 _ _) (int___rmul___int_list k t l ZbJ n)
   #[ed,e,Zqi,aXi F.slot_list_mul Zqi F.entry_list_mul (F.args_list_mul_2 _ _) (AutoListH.list___mul___list_int_3 l ZbJ n k t hfit hcap hlong) ZUZ])
 rw[hnew];exact#[aSd,(r.rep Zrr),#[GD,Q2,ZMY,hz]]
#where
section
variable {κ:ZjL} [Zbae]
abbrev f8 [115]:Zgi:=(kvs.find? ZaaP).map (·.2)
abbrev jX [115](v:V):Zla :=
 #[eM,(Zaic #[sj,k]),Zaid (#[VM,(Zsi,v)]),ZaMc]
abbrev Aq [115]:Zla:=kvs.filter fun kv=>#[lx,Zsi≠k]
def jp [340](e:Zlb):f8 (p::r) k=Zab p.2:=Za6N
def iE [340](e:ZaET):f8 (p::r) k=f8 r k:=Za6N
def rT (k:κ):∀ kvs:Zla,#[aV0,ZKo]
 | []=>rfl
 | p::r=>by
  rw[aQO]
  by_cases e:Zlb
  ·simp only[jp e,Zc e,Bool.true_or,Option.isSome_some]
  ·rw[iE e,Zb e,Bool.false_or];exact rT k r
def DQ (k j:κ)(y:V):∀ kvs:Zla,ZaeF->f8 (kvs++[(k,y)]) j=#[fh,j=k,y,f8 kvs j]
 | [],_=>by
  by_cases e:k=j
  ·rw[Y9 ZB1];exact jp (p:=(k,y)) e
  ·rw[Y8 (#[aF,e Zaie])];exact iE (p:=(k,y)) e
 | p::r,hn=>by
  rw[aXe]
  have hk:ZaET:=fun z=>by rw[jp z]at hn;cases hn
  rw[iE hk]at hn;have ih:=DQ k j y r hn
  by_cases e:p.1=j
  ·rw[jp e,jp e,Y8 (#[jj,hk,ZahN])]
  ·rw[iE e,iE e,ih]
def m9 [115](v:V):#[bd,ZEd,Zd8+1]:=by
 unfold jX;split
 ·rw[Y5];lia
 ·rw[Zh,Zx,List.length_nil];lia
def oB {kvs:Zla}{k:κ}(v:V)(h:ZaeF):jX kvs k v=ZaMc:=by
 unfold jX;rw[rT,h];exact ZzO
def n9.isSome_eq [369](r:n9 o u):Zaif=u.isSome:=by
 cases o with
 | none=>cases u with
  | none=>rfl
  | some _=>exact ZuS
 | some _=>cases u with
  | none=>exact ZuS
  | some _=>rfl
def n9.getD [369]{d:V}{d':Value}(r:n9 o u)(rd:bE d d'):bE (Zaig d) (u.getD d'):=by
 cases o with
 | none=>cases u with
  | none=>exact rd
  | some _=>exact ZuS
 | some _=>cases u with
  | none=>exact ZuS
  | some _=>exact r
def KV.val [412]:n9 (f8 kvs k) (Zrs vs k):=by
 unfold KV at r
 induction r with
 | nil=>exact True.intro
 | @cons p q ps qs h t ih =>
  obtain⟨h1,h2⟩:=h
  by_cases e:Zlb
  ·have e':q.1=k:=Zalc
   have b:Zrs (q::qs) k=Zab q.2:=Za6O
   rw[jp e,b];exact h2
  ·have e':Zab':=Za9E
   have b:Zrs (q::qs) k=Zrs qs k:=Za6O
   rw[iE e,b];exact ih
def KV.any [412]:(Zaic #[sj,k])=vs.any ZaaP:=by
 unfold KV at r
 induction r with
 | nil=>rfl
 | cons h t ih=>rw[aQO,aQO,ih,h.1]
def KV.repl [412][413][253] :
  KV (Zaid ZaHq) (Zaih #[VM,(Zsi,u)]):=by
 unfold KV at r ⊢
 induction r with
 | nil=>exact Zan
 | @cons p q ps qs h t ih =>
  rw[Zr,Zr];refine ZaEV;obtain⟨h1,h2⟩:=h
  by_cases e:Zlb
  ·rw[Zik,ZaIB];exact⟨h1,ry⟩
  ·rw[Zij,Za9F];exact ZuP
def KV.put [412][413][253]:KV #[Ec,y] (stored vs k u):=by
 unfold jX stored;rw[r.any k]
 by_cases e:(vs.any ZaaP)=Zae
 ·rw[Zik,Zik];exact ZaOV
 ·rw[Zij,Zij];exact Za6P r #[db,ry]
def KV.drop [412]:KV (Aq kvs k) (without vs k):=by
 unfold KV at r ⊢;unfold Aq without
 induction r with
 | nil=>exact Zan
 | @cons p q ps qs h t ih =>
  obtain⟨h1,h2⟩:=h;rw[aQC,aQC]
  by_cases e:Zlb
  ·have a:¬ #[lz,p.1≠k]:=ZMZ
   have b:¬ #[lz,q.1≠k]:=by simp[Zalc]
   rw[Y8 a,Y8 b];exact ih
  ·have e':Zab':=Za9E
   have a:#[lz,p.1≠k]:=ZMZ
   have b:#[lz,q.1≠k]:=by simp[e']
   rw[Y9 a,Y9 b];exact ZaC ZuP ih
def KV.keys [10]:kvs.map (·.1)=vs.map (·.1):=by
 unfold KV at r
 induction r with
 | nil=>rfl
 | cons h t ih=>rw[Zr,Zr,ih,h.1]
def KV.length [10]:ZiG:=Zud
def NJ [115]:#[bd,(Aq kvs k),Zd8]:=aQI _ _
#where
def vH [9]{k:cQ}[164](r:Zaem):#[dR,0].is k u=Zae:=by
 cases k with
 | inl i=>obtain⟨t,e⟩:=ZaEb;subst e;exact Go P w i t
 | inr x=>obtain⟨t,e⟩:=Za54;subst e;exact fL P w x t
def Dr [9]:∀ {ks:ZhN}[17],bF (ZvR kV) us->ItemsAre ZdR ks us
 | [],_,r=>by rw[List.map_nil]at r;cases r;exact Zan
 | k::ks,_,r=>by
  rw[Zr]at r
  cases r with
  | cons h t=>exact ZaC (vH h) (Dr t)
noncomputable abbrev KT [32]:#[c2,Zuu,Zaog]:=Za0 fun p q=>ZaXX
def KT.val [320]:n9 ZKo (ZaUj (·.2)):=by
 induction r with
 | nil=>exact True.intro
 | @cons p q ps qs h t ih =>
  obtain⟨h1,_,h2⟩:=h
  by_cases e:Zlb
  ·have e':q.1=k:=Zalc
   have b:ZB2 (q::qs) k=Zab q.2:=Za6Q
   rw[jp e,b];exact h2
  ·have e':Zab':=Za9E
   have b:ZB2 (q::qs) k=ZB2 qs k:=Za6Q
   rw[iE e,b];exact ih
def KT.repl [320][413][253] :
  KT H (Zaid ZaHq) (Zrt (putAt k u)):=by
 induction r with
 | nil=>exact Zan
 | @cons p q ps qs h t ih =>
  rw[Zr,Zr];refine ZaEV;obtain⟨h1,h2,h3⟩:=h;unfold putAt
  by_cases e:Zlb
  ·rw[Zik,ZaIB];exact⟨h1,h2,ry⟩
  ·rw[Zij,Za9F];exact⟨h1,h2,h3⟩
def KT.put [320][45][413](hb:ZKD)[253] :
  KT H #[Ec,y] (storedH xs k b u):=by
 have e:#[aV0,ZaNP]:=by
  rw[rT,(r.val k).isSome_eq,Option.isSome_map]
 unfold jX storedH;rw[e]
 by_cases q:#[jl,ZaNP]
 ·rw[Y9 q,Y9 q];exact ZaOV
 ·rw[Y8 q,Y8 q];exact Za6P r #[sd,hb,ry]
def KT.keeps [16][27](ht:ZLk):KT H' kvs xs :=
 #[vr,r,ZaXf]
section
variable {P:Program}{w:World}{H:Hp}{h:Heap}{a:Addr}
def SJ {u:HO}[159](e:Zae2):#[p0,u]:=e.ok ok
def Ap [87][159](e:ZabV):Zbd0 :=
 #[bh,#[p0,ZeH],SJ ok e]
def Ki [87][159][134]:Zbd0:=Ap ok (Zam e)
def xg {ks:ZhN}[159](e:#[eg,ZaC1]):ZSL h ks a:=by
 obtain⟨_,its,r,o,h1,h2,n,h3⟩:=#[gu,#[p0,ZaC1],ok a _ e];exact⟨o,ZbJ,n,h1,h2,#[a'q,h3],#[vS,Dr r]⟩
def Ar [119][159](e:ZabW):Zs3/\ZagH /\
  ZaU_:=by
 obtain⟨z,y,xs,r,o,es,ep,h1,h2,h3,h4,h5⟩:=#[gu,#[p0,Zql],SJ ok e];refine⟨z,y,xs,r,o,es,ep,h1,h2,h3,h4,Zf9,h5⟩
 have all:∀ {l:Zuu}{m:Zaog},KT H l m->∀ x∈m,ZSL h x.1 ZHD:=by
  intro l m q
  induction q with
  | nil=>intro x hx;exact nomatch hx
  | @cons p q ps qs hq t ih =>
   intro x hx;rcases Zul with e | hx
   ·subst e
    exact xg ok (#[c_,hq.1,hq.2.1])
   ·exact ih x hx
 exact all r x hx
def Sk [119][159][186]:Zs3/\ZagH /\
  ZaU_:=Ar ok (Zam e)
#where
abbrev eE [386](y:V)(r:Zgi):Zaa :=
 (∃ kvs k,ZabV/\Zzi/\r=ZKh)\/∃ kvs k b,ZabW/\ZEv/\ZKD/\r=ZKh
abbrev lN [386](y v:V)(H':Hp):Zaa :=
 (∃ kvs k,ZYw/\Zzi/\#[at3,H'=upd H a (.dK ZEd)]) \/
 ∃ kvs k b,ZayP/\ZEv/\ZKD/\ZIK/\H'=upd H a (.dT ZEd)
def eE.k [38][41][87]{k:cQ}[134]:eE H a (kV k) ZKo:=Zam #[dt,kvs,k,Zam e,rfl]
def eE.t [206][119]{k:ZhN}[287]:eE H a Zqu ZKo:=Zap ⟨kvs,k,b,Zam e,rfl,eb,rfl⟩
def lN.k [38][41][87]{k:cQ}{v:V}[134][428]:lN H a (kV k) v #[bt,a,ZaxW]:=Zam ⟨kvs,k,e,rfl,hl,rfl⟩
def lN.t [206][119]{k:ZhN}{v:V}[287][428] :
  lN H a Zqu v #[bt,a,(.dT (jX kvs k v))]:=Zap ⟨kvs,k,b,e,rfl,eb,hl,rfl⟩
section
variable {X:Cx}{pins:Ze0}{σ:St}{H:Hp}{s:Shared}{a:Addr}{y v:V}{u r:Value}{o:Zgi}{A:Around}{E:ZfE}
def aQ.big [3]:#[dV,ZagF]:=by
 have h:#[dV,Zlt]:=(Za6R I.bk).lt;exact Zaii ZaY h
def LZ [442][443](g:ZaG7)[253](h:#[adB,ZzT,bE v w']) :
  #[w4,(ZBX ZbP u)]:=by
 rcases g with ⟨kvs,k,e,ey,l⟩ | ⟨kvs,k,b,e,ey,eb,l⟩
 ·subst ey
  obtain⟨z,hd,vs,rel,dd⟩:=ZuA;obtain⟨w',hw,rw'⟩:=#[aSs,ZaMw];exact Za6T Ztq ZB3 hw (h w' _ ZsS rw')
 ·subst ey
  cases ZSs;obtain⟨z,hd,xs,rel,dd⟩:=ZuB;obtain⟨w',hw,rw'⟩:=n9.some_of (v:=v) (o:=ZaUj (·.2)) ZaMw;obtain⟨p,hp,hp2⟩:=ZM0 hw;refine #[arN,wpAny_getItem_heap,dd,hp];rw[hp2];exact h w' _ ZsS rw'
def Xw [49](h:∀ s',ZzT->Q (Zes Zaif) s') :
  #[aQO,.In]:=by
 rcases g with ⟨kvs,k,e,ey,l⟩ | ⟨kvs,k,b,e,ey,eb,l⟩
 ·subst ey
  obtain⟨z,hd,vs,rel,dd⟩:=ZuA;refine #[aR9,wpAny_in_of];rw[<-ZaoA,<-l];exact ZIR
 ·subst ey
  cases ZSs;obtain⟨z,hd,xs,rel,dd⟩:=ZuB;refine #[arN,wpAny_in_heap,hd,dd];have q:=ZaoA;rw[Option.isSome_map]at q;rw[<-q,<-l];exact ZIR
def QB [49](h:∀ s',ZzT->Q (Zes (Za6U)) s') :
  #[aQO,ZB4]:=by
 rcases g with ⟨kvs,k,e,ey,l⟩ | ⟨kvs,k,b,e,ey,eb,l⟩
 ·subst ey
  obtain⟨z,hd,vs,rel,dd⟩:=ZuA;refine #[aR9,Za6V];rw[<-ZaoA,<-l];exact ZIR
 ·subst ey
  cases ZSs;obtain⟨z,hd,xs,rel,dd⟩:=ZuB;refine #[arN,wpAny_notIn_heap,hd,dd];have q:=ZaoA;rw[Option.isSome_map]at q;rw[<-q,<-l];exact ZIR
def vp {h':Heap}{t':Nat}{ob:HO}[3](mu:VD (H a))(hs:ZaJH)(he:ZSE)(new:#[mh,#[bt,a,ob],h',a,ob]) :
  #[b7,#[bt,a,ob],ZOi] :=
 Zah' (x:=a) (e:=a) mu ZhO #[aKT,hs] he new
def En [9][438]{h':Heap}[87]{vs:#[eE,cQ,Zb_]}(z:Zs3)(hd:ZagH)(rel:Zyq)(dd:h'.DictOf ZdR a vs) :
  bQ P w H' h' a ZeH:=⟨z,hd,vs,rel,dd⟩
def L1 [438][187][443](g:lN H a y v H')[253](rv:bE v r)(h:∀ s',ZqW->Q () s') :
  #[w4,(setItem ZbP u r)]:=by
 rcases g with ⟨kvs,k,e,ey,l,eH⟩ | ⟨kvs,k,b,e,ey,eb,l,eH⟩
 ·subst ey eH
  obtain⟨z,hd,vs,rel,dd⟩:=ZZv
  have hz:ZXA:=Za8C
  have hl:ZacG:=ZarI
  refine #[aXs,wpAny_setItem_pairs];have he:ZSE:=let ⟨q,_,_,hq,_⟩:=dd';ZAB;exact vp I (by rw[e];exact True.intro) hs he ZaSp
 ·subst ey eH
  cases ZSs;obtain⟨z,hd,xs,rel,dd⟩:=Sk Zbe e
  have hz:ZUP:=#[SU,Zk8]
  have hl:ZacG:=ZarI
  refine wpAny_setItem_heap (hsz:=hz) (Zaij hu) ZarM dd Zasw;obtain⟨q,es,ep,hq,h2,h3,h4,_,h5⟩:=dd';refine vp I (by rw[e];exact True.intro) hs ZAB ⟨hl,hd,_,(Zaik k eb rv).keeps fun c ys ec=>?_,q,es,ep,hq,h2,h3,h4,h5⟩;rw[ai (dD ec e (fun z=>nomatch z))];exact ec
#where
section
variable {X:Cx}{pins:Ze0}{σ:St}{H:Hp}{s:Shared}{a:Addr}{kvs:Zip}{k:cQ}{u:Value}{A:Around}{E:ZfE}
def VO {v:V}{more:Zb'}{Q:ZfE}(I:Zi6)(e:ZYw)(ry:Zaem)(l:Zae6)(hm:ZvT=[]\/∃ x,ZvT=[x])
  (h:#[adB,#[b7,#[bt,a,ZaU5],s'],bE v w']):#[w4,#[s8,Za6W,(ZbV::u::ZvT)]]:=by
 obtain⟨z,hd,vs,rel,dd⟩:=ZZv;obtain⟨w',hw,rw'⟩:=#[aSs,#[pI,l,Zy1]]
 have hp:#[jl,(keyPart u)]:=by
  cases k with
  | inl i=>obtain⟨t,q⟩:=#[Sr,ZZV];subst q;rfl
  | inr x=>obtain⟨t,q⟩:=#[Sr,Za53];subst q;rfl
 have ha:argsOk Za6W #[ei,ZbV::u::ZvT]:=by
  rcases hm with q | ⟨x,q⟩
  ·subst q;exact PySem.F.args_dict_pop_2 _ _
  ·subst q;exact PySem.F.args_dict_pop_3 _ _ _
 refine call_meetsIn PySem.F.slot_dict_pop dd.typeIs PySem.F.entry_dict_pop ha (meets_dict_pop_there Zw6 a Ztq ZvT hm hp)
  ⟨vs,w',dd,Za8C,hw,fun h' dd' hs=>h w' _ ?_ rw'⟩
 have he:ZSE:=let ⟨q,_,_,hq,_⟩:=dd';ZAB;exact vp I (by rw[e];exact True.intro) hs he (En (ZV (NJ kvs k) z) hd (rel.drop k) dd')
#where
abbrev Tp (i:Expr):Zaa:=∀ ov iv,ZMS i Zaz ov iv=#[adY,[ov,iv],ov,iv]
def Lw {prog:Program}{w:World}{A:Around}{E:ZfE}{s:Shared}{env:Env}{value slice:Expr}{pos:Pos}{T id:String}{Q:ZfE}
  (hl:Za6x) (hs:Tp ZvO)
  (h:#[fF,ZvX,#[ne,Zn_],(fun o s₁=>Zcb ZvX A #[ne,ZvO] (fun i s₂=>s₂.TypeIs o T/\#[Be,(ZBX o i),s₂]) E ZiE)]) :
  #[vY,#[ne,(ZM2 Zn_ ZvO pos)]]:=by
 refine Zah6 (ZN h (fun o s₁ h₁=>ZN h₁ (fun i s₂ h₂=>?_) Zm2) Zm2);obtain⟨hT,h₂⟩:=h₂;unfold subscriptTail;refine ZgG;rw[getitemInPython_of_ne hT.not_modules];refine #[A3,hl]
 have fin:Zcb ZvX A (ZMS ZvO Zaz o i) (fun r s₃=>#[Be,(letTemporaryGo Zn_ o r >>= #[bf,Zca r]),s₃]) E s₂:=by
  rw[hs o i];exact wpAny_operating (ZN h₂ (fun r s₃ h₃=>#[k_,wpAny_letTemporaryGo,h₃]) Zm2)
 first
  | exact Zg (Y6 fin)
  | exact #[y3,fin]
  | exact Y6 fin
def F2 [295]{y:V}{o:Zgi}[3](g:eE H a y o):ZaSQ:=by
 rcases g with ⟨kvs,k,e,_,_⟩ | ⟨kvs,k,b,e,_,_,_⟩
 ·obtain⟨_,_,vs,_,dd⟩:=ZuA
  exact dd.typeIs
 ·obtain⟨_,_,xs,_,dd⟩:=ZuB
  exact dd.typeIs
inductive YE (x y:V)(Q:VK)[32]:Zaa
 | mk [84](v:V)(e:Zk7)(g:ZaG7)(h:Zz0)
abbrev WK (td ty:TE):TE:=#[ahf,td,#[mU,ty,YE x y Q H2]]
abbrev X0 (ty td:TE):TE:=#[aVY,(.bl Zaif)]
abbrev R1 (ty td:TE):TE:=#[aVY,(.bl (Za6U))]
abbrev Wu (td ty tv:TE):TS:=#[vA,tv,#[M4,td σ H1 fun x H2=>ty σ H2 fun y H3=>∃ a H4,x=ZbV/\lN H3 a y v H4/\#[o',H4]]]
section
variable {X:Cx}{o i e value:Expr}{pos pos' tpos:Pos}{td ty tv:TE}
def jg [135][178][207](hs:Tp i):#[M3,o,i,(WK td ty)]:=by
 intro pins s σ H Q I h;refine #[aRn,ZJT];obtain ⟨x,H1,I1,rx,q1⟩:=zz;refine bS #[D2,hi] ZGV;obtain ⟨y,H2,I2,ry,a,v,ex,g,q2⟩:=zz;subst ex;obtain rfl:ZQK:=rx;exact⟨F2 I2 g,LZ hu I2 g ry #[a6X,⟨v,H2,I3,rw',q2⟩]⟩
def rj [135][207][178]:PC X .In i o (X0 ty td):=by
 intro pins s σ H Q I h;refine ZaeD;obtain ⟨y,H1,I1,ry,q1⟩:=zz;refine Zada;obtain ⟨x,H2,I2,rx,a,ov,ex,g,q2⟩:=zz;subst ex;obtain rfl:ZQK:=rx;exact Xw hu I2 g ry #[Mn,#[dt,.bl ov.isSome,H2,I3,q2]]
def oz [135][207][178]:PC X ZB4 i o (R1 ty td):=by
 intro pins s σ H Q I h;refine ZaeD;obtain ⟨y,H1,I1,ry,q1⟩:=zz;refine Zada;obtain ⟨x,H2,I2,rx,a,ov,ex,g,q2⟩:=zz;subst ex;obtain rfl:ZQK:=rx;exact QB hu I2 g ry #[Mn,#[dt,.bl (!ov.isSome),H2,I3,q2]]
def iH [135][178][207](hv:ZaL8)(hs:#[a7f,(ZM2 o i ZnR)]) :
  #[FO,ZM2 o i ZnR,Zn_,(Wu td ty tv)]:=by
 intro pins s σ H D I h;refine wpAny_Assign_Subscript (bS #[ko,hv] fun r s1 zz=>?_) hs;obtain ⟨v,H1,I1,rv,q1⟩:=zz;refine Zada;obtain ⟨x,H2,I2,rx,q2⟩:=zz;refine bS #[Wc,hi] fun iv s3 zz=>?_;obtain ⟨y,H3,I3,ry,a,H4,ex,g,q3⟩:=zz;subst ex;obtain rfl:ZQK:=rx;exact L1 hu I3 g ry rv fun s4 I4=>⟨σ,H4,I4,q3⟩
#where
def vt [271]:bQ P w H (h.push { cls:=ZiJ,data:=Zdl #[] }) h.objs.size Zc5 :=
 ⟨Zce,ZaXZ,[],Zan,Heap.DictOf.new h⟩
def NK [271]:bQ P w H (h.push { cls:=ZiJ,data:=Zdl #[] }) h.objs.size Zyl :=
 ⟨Zce,ZaXZ,[],Zan,_,#[],0,Zct,ZGp,rfl,rfl,aQo⟩
abbrev U4:TE:=#[avE,Zc5]
abbrev U5:TE:=#[avE,Zyl]
section
variable {X:Cx}{pos:Pos}
def gJ:#[aUG,U4]:=fun pins s σ H Q I h =>
 #[a0S,.dK,(vt ZaK I.big)]
def OZ:#[aUG,U5]:=fun pins s σ H Q I h =>
 #[a0S,.dT,(NK ZaK I.big)]
#where
structure M1 [351][387](cpos:Pos):Zaa where
 base:#[a5W,m]
 few:(Zapm&&ZRp
  && #[anj,([e]:Zbv)])=true
 line:Zlh
 trees:#[amg,ZiL,[e],[#[jY,e]]]
structure M2 [351](e f:Expr)(cpos:Pos):Zaa where
 base:#[a5W,m]
 few:(#[amf,ZGl]&&ZRp
  && #[anj,(ZGl:Zbv)])=true
 line:Zlh
 trees:#[amg,ZiL,ZGl,[#[jY,e],#[jY,f]]]
abbrev W0 [386]:Zaa:=(∃ kvs,ZabV)\/∃ kvs,ZabW
def Ez [295][3](d:W0 H a) :
  ZaSQ/\(∀ b,ZaTH->#[aK3,Zd5 b=Zab ob])/\ZagH:=by
 rcases d with ⟨kvs,e⟩ | ⟨kvs,e⟩
 ·obtain⟨_,hd,vs,_,dd⟩:=ZuA
  refine ZaS2;cases q;obtain⟨ob,_,_,h1,h2,_⟩:=dd;exact ZaeA
 ·obtain⟨_,hd,xs,_,dd⟩:=ZuB
  refine ZaS2;cases q;obtain⟨ob,_,_,h1,h2,_⟩:=dd;exact ZaeA
section
variable {X:Cx}{pins:Ze0}{σ:St}{H:Hp}{s:Shared}{a:Addr}{y d:V}{u r:Value}{o:Zgi}{A:Around}{E:ZfE}
def TB [49](rd:bE d r)(h:#[adB,ZzT,bE (Zaig d) w']) :
  #[w4,#[s8,"dict.get",[ZbV,u,r]]]:=by
 rcases g with ⟨kvs,k,e,ey,l⟩ | ⟨kvs,k,b,e,ey,eb,l⟩
 ·subst ey
  obtain⟨z,hd,vs,rel,dd⟩:=ZuA;refine #[a9d,(meets_dict_get_default Zw6 a Ztq hd r),#[bN,ZB3,ZaRM]];rw[l];exact ZaSI
 ·subst ey
  cases ZSs;obtain⟨z,hd,xs,rel,dd⟩:=ZuB;refine #[a9d,(meetsH_dict_get_default (ZvU (aS Zck X.w)) a b hd r),⟨Zaij hu,k,xs,xg Zbe eb,dd,ZaRM⟩];rw[l];exact ZaSI
#where
abbrev U3 (td ty tx:TE):TE:=#[aRW,tx σ H2 fun z H3=>∃ o,eE H3 a y o/\Q (Zaig z) H3]
abbrev U6 (td ty:TE):TE:=#[aRW,∃ kvs k v,H2 a=Zab ZeH/\Zzi/\Zae6/\Q v #[g3,a,ZaU5]]
section
variable {X:Cx}{o e f:Expr}{apos cpos:Pos}{td ty tx:TE}
def OY [135][321](hf:ZaL9)(m:#[a0E,ZM5]):#[aOB,ZM5,U3]:=by
 intro pins s σ H Q I h;refine #[LI,aXp,Za6Y,ZJT];obtain ⟨x,H1,I1,rx,a,ex,d,q1⟩:=zz;subst ex;obtain rfl:ZQK:=rx;obtain⟨t1,t2,_⟩:=Zaeh;refine Zad1;rw[m.trees]
 refine aQu rfl (aQt (aQf (bS Zaap fun iv s2 ZaG' =>
  #[aWb,⟨z,H3,I3,rz,ov,g,q3⟩])))
 exact TB hu I3 g ry rz fun w' s4 I4 rw'=>⟨_,H3,I4,rw',q3⟩
def O0 [321](m:M1 X o "pop" apos e ZiL):#[D',"pop",[e],(U6 td ty)]:=by
 intro pins s σ H Q I h;refine #[LI,PySem.F.slot_dict_pop,PySem.F.type_dict_pop,ZJT];obtain ⟨x,H1,I1,rx,a,ex,d,q1⟩:=zz;subst ex;obtain rfl:ZQK:=rx;obtain⟨t1,t2,_⟩:=Zaeh;refine Zad1;rw[m.trees];refine #[aR6,(bS Zaap ZGV)];obtain ⟨y,H2,I2,ry,kvs,k,v,ea,ey,l,q2⟩:=zz;refine ZF7;subst ey;exact VO I2 ea ry l ZhO #[a6X,⟨v,_,I3,rw',q2⟩]
#where
#print L2
namespace Att
open PySem PySem.W PySem.Calls PyProof.Rows
def zc {P:Params}[153]:∀ [166][414],WellAll P h vs (Zht Za6Z)->Zaiq:=by
 intro ns
 induction ns with
 | nil =>
  intro vs w;rw[List.map_nil]at w;cases w;exact Zan
 | cons n ns ih =>
  intro vs w;rw[Zr]at w
  cases w with
  | cons a b =>
   cases a;exact ZaC _ _ (ih _ b)
def MX {l:OpenLaw}{n:Nat}(hn:ZacE){P:Params}{h:Heap}{args:ZawI}{vals:Zb'}
  (hpre:l.row.toRowW.claim.pre Zhs=Zae) (hwl:WellAll P h vals Zhs) :
  ∃ a vs ns,vals=[Zhr a]/\Zhs=[WData.list (Zht Za6Z)]/\#[mL,ZT5]/\Zaiq/\ZIO:=by
 have hsh:WShape.hasAll [] Zhs [.list Zag]=Zae:=(Za60 hpre).1;have hc:l.pre.holds [] { args:=Zhs }=Zae:=(Za60 hpre).2;obtain⟨d,r,rfl,h1,h2⟩:=hasAllW_cons hsh;obtain rfl:=hasAllW_nil h2;obtain⟨xs,rfl,h3⟩:=hasW_list h1;obtain⟨ns,rfl⟩:=items_int h3
 have hlen:ZIO:=by
  unfold OpenLaw.pre at hc
  have h4:(WTm.not (.lt (.lit (Zag Zbk)) (.len (.arg 0)))).holds [] { args:=[.list (Zht Zag)] }=Zae:=by
   have h4:=(holds_andW hc).1;rw[hn]at h4;exact h4
  have h5:=condW_of h4 (w_not (w_lt w_lit (w_len_list (w_arg rfl))));rw[Y5]at h5;refine Nat.le_of_not_lt #[bl,?_]
  have q':Zbk<#[a3,Zfn]:=Zad
  first
   | (rw[Zc q']at h5;exact #[uf,h5])
   | (simp at h5;lia)
 cases hwl with
 | cons w1 w2 =>
  cases w2
  cases w1 with
  | list ho hall=>exact⟨_,_,ns,rfl,rfl,ho,zc ns _ hall,ZiH⟩
def MP (l:OpenLaw)(args:ZawI):l.row.toRowW.claim.post Zhs ZaDU Zhs=Zae :=
 postW_of (r:=l.row.toRowW) (X:=(Zae == Zae))
  (show WShape.has [] ZaDU Zes=Zae by first | rfl | decide | simp[WShape.has,WShape.arms,WShape.armsAll])
  #[gu,(WTm.eq .res (.lit (Zes Zae))).value [] { args:=Zhs,res:=#[c3,Zes,Zae],after:=Zhs }=Zab (Zes (Zae == Zae)),w_eq_bool (w_res rfl) w_lit] rfl
def attach_call {l:OpenLaw}{n:Nat}{q:Program}{loose:Zbo}{XP:Zaax}{YP:Zaaw}{d:DefRec}
  (hn:ZacE) (hdf:ZYU)
  (call:∀ (w:World)(s₀ s₁:Shared)(mg mb:Zo6)(fa:Addr)(o:Obj)(pm cd doc:Value)(a:Addr)(vs:Zb')(ns:Zbp),
   Ground q loose [] XP w s₀ mg mb Zj4->YP w Zj4 ->
   ZB5 fa=Zab o->Zhm=ZvV (docDef Zail d.params d.body d.scope pm cd doc)->s₁.heap.CodeRec cd Zail->Zaim ->
   ZaMC->Zaiq->ZIO->s₁.gens = #[] ->
   #[a1L,(ZvW Zfu w)]) :
  #[avh,WalkO]:=by
 intro w s₀ s₁ mg mb G Y fa o pm cd doc dV kV ho hd hcd hD hmg hg args vals as hpre hlay hrd hwl hlo;obtain rfl:dV=Zay:=Dflts.none hD hdf;obtain rfl:kV=Zay:=Dflts.noKw hD;obtain⟨a,vs,ns,rfl,rfl,hobj,hints,hlen⟩:=MX hn hpre hwl;refine #[Lr,enter_call,Zfs w s₀ ZiE mg mb fa o pm cd doc a vs ns G Y ho (fd_plain hd) hcd hmg hobj hints ZiH hg];obtain⟨rfl,h2,h3,h4⟩:=hq;exact⟨Zam ⟨ZZI,ZZI,[],rfl,Zm3,ZZI,MP l _,fun _=>⟨List.Pairwise.nil,fun _ hm=>(nomatch hm)⟩⟩,h2,h3,h4⟩
section
variable {prog:Program}{w:World}{A:Around}{E:ZfE}{s:Shared}{K:Frag}
abbrev XJ [138]:Heap:={ h with objs:=#[] }
abbrev XI [138](L d:Addr):Ze0:=#[MN,(ZgM ZjM)] fun a=>#[ain,a=L\/a=d,(Zep a).map #[xA,a]]
#where
#print Att
namespace L2
open PySem PySem.Spec PyProof.Rows
def DR:∀ {vs:Zb'}{ns:Zbp},Zaio vs ns->#[VD,vs]
 | _,_,Zan=>Zan
 | _,_,ZaC n t h=>ZaC ZGd (DR h)
abbrev bU (s:Stmt)(j:Nat):Stmt:=match s with
 | .ClassDef _ _ _ Zfr _ _ _ _ _ _ _=>body.getD j (.Pass Zu8)
 | _=>.Pass Zu8
abbrev iG (s:Stmt):Arguments:=match s with
 | #[a63,a,_]=>a
 | _=>#[a61,[],[],Zac,[],[],Zac,[]]
abbrev fj (s:Stmt):Zih:=match s with
 | #[a63,_,b]=>b
 | _=>[]
abbrev am (s:Stmt):Scope:=match s with
 | Za62 _ _ _ _ _ _ sc _ _ _=>sc
 | _=>#[a64,ZBx,[],Zaz,Zaz]
noncomputable abbrev dR:Cf:=fun _ _ _ _ _ _=>ZiM
noncomputable abbrev E0:XK:=Zqs
def fb [60]:gH dR X E0:=fun _ _ _ _ _ _ _ h=>ZMl
structure dL [1](x qual:Str)(st:Stmt)(f:Addr)(fd:FuncData):Zaa where
 ex:∃ (oc:Value)(od:Zgj)(kV doc pm:Value)(an:Zgj)(cdv ct:Value)(osl:Zu7),
  fd=Zanm/\ZaZ2/\Zaco
 kp:Zbch
section
variable {P:Program}{w:World}{K:PySem.W.Frag}{mg:Zo6}{base:Heap}
def dL.ok {x qual:Str}{st:Stmt}{f:Addr}{fd:FuncData}{N ps:Zbo}{k:Nat}{sp:Sp}(F:ZAD)(S:Zaft)(len:ZOe)
  (hbody:∀ (cdv:Value)(A:Around)(outer:Zc9)(s:Shared)(H:Hp)(vs:Zbr)(Q:VK)(E:XK),ZaJe->Zjn ->
   ∃ t,FK (#[Ek,dR,ZDV,cdv,s,H]).nox ZD0 t/\Zar3):#[bi,Zc6,ps,sp]:=by
 obtain⟨oc,od,kV,doc,pm,an,cdv,ct,osl,rfl,lk,hcd⟩:=F.ex;refine #[agq,?_];obtain⟨t,h,q⟩:=Za1J;exact⟨t,h.nox,q⟩
def dL.binds {x qual:Str}{st:Stmt}{f:Addr}{fd:FuncData}{ps:Zbo}(F:ZAD)
  (h:#[a5',Zanm]):ZVd:=by
 obtain⟨oc,od,kV,doc,pm,an,cdv,ct,osl,rfl,lk,hcd⟩:=F.ex;exact Zv1 (h kV doc pm an cdv ct)
def NV {x qual:Str}{st:Stmt}{f:Addr}{oc:Value}{od an:Zgj}{osl:Zu7}{kV doc pm cdv ct:Value}(l:#[aoC,Zanm])
  (c:Zaco) (k:Zbch):dL K x Zbg st f (Zanm):=⟨⟨oc,od,kV,doc,pm,an,cdv,ct,osl,rfl,l,c⟩,k⟩
#where
def d8 [52]{k:Nat}(hr:ZIp):Zac9:=aQL (Nat.add_le_add_left (Zaw:1<=64) _) hr.units
def bT [69](h:n<=ZbF):#[my,n]:=#[y4,h]
section
variable {X:Cx}
def pv (i:Nat){x:Str}{pos:Pos}(hN:Znw:=by rfl)(hv:Zamx:=by first | exact ZayF | exact ZBk (ZM6 rfl) | exact ZBk (ZBk rfl))(hd:Za79:=by decide)
  (hcd:ZZl:=by decide):ZaEM:=O4 hN hv hd hcd
#where
def ar {A B:Zaa}(h:B):#[a65,Zjb]:=by
 rw[Zd0];exact h
def aM {A B:Zaa}(h:A):#[a65,Zae=Zae]:=by
 rw[ZaB];exact h
def XC {c A B:Zaa}[Decidable c](h1:c->A)(h2:¬ c->B):if c then A else B:=by
 by_cases h:c
 ·rw[ZcH]
  exact h1 h
 ·rw[ZcG]
  exact h2 h
abbrev aD [316]:Zaa:=ZaC2
def aD.refl [32]:aD H H:=#[ew,h]
def aD.trans [265](a:ZHA)(b:ZaC6):ZXL:=fun c o h=>b c o (a c o h)
def aD.free [16](e:ZbU)[221](h:H' l=Za66):H l=Za66:=by
 cases q:H l with
 | none=>rfl
 | some o =>
  rw[e l o q]at h;cases h
def aD.seq [7][16][41][31](e:ZbU)[415]:ZaI2:=by
 rcases h with (h | ⟨o,h⟩) | h
 ·exact #[Ai,(e _ _ h)]
 ·exact #[YV,#[hX,e _ _ h]]
 ·exact ZXr
section
variable {κ:ZjL} [Zbae]
def vU:∀ {l:Zbn κ}{k:κ},l.Nodup->¬ k∈l->(l++[k]).Nodup
 | [],k,_,_=>ZaA
 | a::r,k,h,hk=>by
  obtain⟨h1,h2⟩:=ZXv
  show (a::(r++[k])).Nodup
  refine ZW.mpr ⟨fun m=>?_,vU h2 fun m=>hk (ZahO (ZBk m))⟩;rcases Zex m with q | q
  ·exact h1 q
  ·exact hk (ZahO (ZM6 (Zcz q).symm))
#where
#print L2
set_option maxHeartbeats 4000000
namespace L2
open PySem PySem.Spec PyProof.Rows
structure zV (so sc:Scope)(N N':Zbo)[96]:Zaa where
 kind:ZBy
 nocell:ZbcC
 loc:ZbcA
 fre:ZbcF
 nd:N'.Nodup
 len:Za7c
 cap:∀ p∈ZKv,(match p.2 with | none=>true | ZzB=>Zaf5)=true
abbrev oZ [96](σ:St):St:=src.map fun o=>o.bind ZavR
abbrev eX [228][405](cl:Zo0)[54](N':Zbo)[154][32](ex:ZeZ):Cx where
 prog:=X.prog
 w:=X.w
 K:=X.K
 mg:=X.mg
 base:=X.base
 A:=X.A
 N:=N'
 s₀:=s
 H₀:=H
 env:=Za67 sc cl C ZaS
 outer:=X.stack
 stack:=X.stack
 ex:=ex
 fn:=ZavJ
 calm:=X.calm
 pn:=[]
 xe:=Zv6
def oX {env:Env}:∀ (names:Za1Q)(cs:Zo0),(#[aTg,ZM9]) ->
  (∀ x c,#[bD,Za6_,c]->ZU0) ->
  ∃ cl:Zo0,(forIn names cs fun x r=>if #[g8,x.2,Zv2] then (do let a <-cellOf env x.1;#[Rw,((x.1,a)::r)]) else ZRx:Sem (Zbn (Str×ZeY)))=Zca cl /\
   (ZaGx)/\(∀ x,(#[GO,Za6_])->#[GO,ZM_])/\#[aTg,ZM_]
 | [],cs,_,h2=>⟨cs,#[d9,List.forIn_nil],h2,fun _ h=>h,fun _ h=>nomatch h⟩
 | ZYj,cs,h1,h2=>by
  by_cases hk:k=Zf4
  ·subst hk
   obtain⟨c,hc⟩:=h1 (n,Zf4) Ze rfl
   have h2':∀ x d,#[bD,#[ft,ZacF],d]->#[bD,ZM9,d]:=fun x d e=>by
    rw[ZU]at e;split at e
    ·rename_i hx
     cases e
     have:x=n:=ZB6
     rw[this];exact hc
    ·exact h2 x d e
   obtain⟨cl,e,q1,q2,q3⟩:=oX r ZacF (#[QS,h1]) h2';have has:∃ d,#[ft,ZacF] n=Zab d:=#[GJ,c];refine#[aYF,fun x ZaKC=>q2 x ?_]
   ·rw[aXq,<-e]
    simp[cellOf,hc]
   ·rw[ZU]
    split
    ·exact Za8
    ·exact ZaKC
   ·rcases ZJh with rfl | hy
    ·exact q2 _ has
    ·exact ZaEx
  ·obtain⟨cl,e,q1,q2,q3⟩:=oX r cs (#[QS,h1]) h2
   have hb:#[oU,k,Zv2]:=Zair
   refine#[aYF,q2]
   ·rw[aXq,<-e]
    simp[hb]
   ·rcases ZJh with rfl | hy
    ·exact #[oE,hf,hk]
    ·exact ZaEx
def oY {sc:Scope}{env:Env}(h:#[bcz,Zf4,∃ c,ZM9 y.1=Zab c]) :
  ∃ cl:Zo0,Za6' sc env=Zca cl/\(ZaGx)/\ZbcE:=by
 obtain⟨cl,e,q1,_,q3⟩:=oX ZBU [] h (fun x c z=>by simp at z);refine⟨cl,?_,q1,q3⟩;unfold closureFor
 show (#[aK7,forIn ZBU [] _])=_
 refine Zais (Z6 (fun t=>#[aK7,t]) (Zais ?_ e)) (ZaA)
 congr 1
def wx {env:Env}:∀ [296],(∀ y∈names,y.2≠Ze2) ->
  (ZaEO \/
    ZaCV)->#[atN,ZlJ]
 | [],_,_,h=>ZiD
 | ZYj,x,hc,h=>by
  have ih:=@wx env r x (#[QS,hc]);have h:ZaSN:=h
  by_cases hb:ZS6
  ·rw[ZjB]at h
   cases hx:Zab1 with
   | true =>
    have e:x=n:=ZB6
    subst e
    have:k=Zv2:=by
     simp only[Z7,aQ7]at hb;exact hb.1.1
    subst this;exact Ze
   | false =>
    simp only[ZU,hx]at h;exact ZaNj
  ·rw[Znk]at h
   cases hx:Zab1 with
   | true =>
    have e:x=n:=ZB6
    subst e;have hk:=hc (x,k) Ze;simp only[ZU,beq_self_eq_true,Option.some.injEq]at h;rcases h with h | h
    ·exact #[oE,h,hk]
    ·subst h;exact Ze
   | false =>
    simp only[ZU,hx]at h;exact ZaNj
def tR {env:Env}:∀ [296],#[EY,names.lookup] ->
  (ZaEO \/
    ZaCV)
 | [],_,h=>ZiD
 | ZYj,x,h=>by
  have ih:=@tR env r x
  show ZaSN
  cases hx:Zab1 with
  | true =>
   simp only[ZU,hx,Option.some.injEq]at h;subst h
   by_cases hb:#[gs,#[RL,Zv2]]
   ·rw[ZjB];left;simp only[ZU,hx]
   ·rw[Znk];right;simp only[ZU,hx]
  | false =>
   simp only[ZU,hx]at h
   by_cases hb:ZS6
   ·rw[ZjB];simp only[ZU,hx];exact ih h
   ·rw[Znk];simp only[ZU,hx];exact ih h
def jT {prog:Program}{w:World}{A:Around}{R:Znr}{s:Shared}{elt target bJ:Expr}{ifs:Zbv}{scope:Scope}{pos:Pos}{it acc:Value}{env:Env}(I:ZHB)
  (turn:∀ n s,ZnL->wpAny ZvX A ZQl (fun r s₁=>match r with
   | none=>ZLe
   | Znh=>wpAny ZvX A ZaHx (fun _ s₁'=>wpAny ZvX A ZaHw (fun _ s₂ =>
     wpAny ZvX A (forIn ifs true fun c r=>if ZzJ then do let ok <-ZBJ;ZRy else ZRx) (fun ok s₃ =>
      if ZHo then wpAny ZvX A ZaCC (fun x s₄ =>
       ZaSm) Zv4 s₃
      else ZJG) Zv4 s₂) Zv4 s₁') Zv4 s₁) Zv4 s)
  (n:Nat) (h:ZnL) :
  #[v0,#[aZT,Zoa]]:=by
 refine ZLP
 show wpAny _ A (#[aZT,ZB7].onRaise (fun x=>do Zbc8;ZHM)) _ _ s
 refine ZHP;rw[compTurn_list];refine ZamY
 cases r with
 | none=>exact ZIb
 | some v =>
  refine ZamW;refine ZamX
  cases ok with
  | false=>exact ZJB
  | true =>
   exact Za8L
abbrev Si [228](ifs:Zbv)(t:TT):Zaa :=
 ∀ [2][144],Zi6->ZtH ->
  wpAny Zw3 X.A (forIn ifs true fun c r=>if ZzJ then do let ok <-ZBI c ZaS (ZjW c ZaS);ZRy else ZRx) ZU1 X.xe s
abbrev zB:TT:=#[ahm,Zae]
def cZ [60]:Si X [] zB:=fun pins s σ H Q I h=>wpAny_tests_nil ⟨H,I,h⟩
def K9 [60]{c:Expr}{t:TT}(h:PT X c t):Si X [c] t:=fun pins s σ H Q I hq=>wpAny_tests_one (h Zav s σ H Q I hq)
abbrev Nn (tt:TT)[339][84]:TS:=#[vA,tt,#[vB,#[eM,b,ZaIU,Zus]]]
abbrev qH (J:It)(g:TG)(tb:TS)(D:nZ)[290]:Zaa:=∃ W:ZjH,Zld/\∀ i m σ H,ZjF ->
 ZaVe
abbrev SV [297][339][96]:TE:=fun σ H Q=>wi σ H fun J H1=>∀ a,ZIM ->
 qH J g (Nn tt te a) Zaa9 Zq7 ZacN
def vE {X:Cx}{pins:Ze0}{σ:St}{H:Hp}{s:Shared}{sc so:Scope}{N':Zbo}{src:ZnJ}{cl:Zo0}{fp:ZeZ}{h':Heap}
  (I:Zi6) (hso:Zamy) (S:#[aoj,X.N]) (q1:#[U5,ZYX]) (q3:ZbcE)
  (hf:ZI8) (hlt:#[jT,ZIk]) (hns:h'.Ns Zax ZyR) (hk:ZaDv) (tk:Nat) :
  aQ #[a0N,Zax,fp] [] Zq7 H ZOh:=by
 have hb:#[jT,b≠Zax/\#[U5,c≠b]]:=#[B8,⟨Zq (hlt b z),#[ajv,#[o_,ZI1]]⟩]
 refine⟨⟨I.ok.mod,?_,I.ok.glob,I.ok.blt,ZaN,fun x y c h1 h2=>ZMi x y c (q1 _ _ h1) (q1 _ _ h2),Zf9,fun x c hx _=>(by cases hx),I.ok.hd,I.ok.frames,ZkP,hb,I.bs,ZaPJ,fun b o e z=>?_,fun b z hz=>?_,I.stack,I.stkFree⟩,
  rfl,I.bare,ZagQ,ZaRJ,Zajw,ZI7,#[ajv,Zvu],ZanK,Za4U hk,?_⟩
 ·show (relabel sc ZaS).kind=_
  exact S.kind
 ·have hx':ZaJz:=wx Zaiu hx
  exact q3 _ hx' rfl
 ·rcases #[I1,0].2.2.2.1 with y | y
  ·exact ZM' b o e y
  ·exact #[qB,(Zz Zxw (ZV ZBF y))]
 ·rcases Zcw (Zag' b hz) with y | y
  ·exact #[I1,0].2.1 y
  ·exact #[I1,0].2.2.1 y
 ·-- the captured names
  have h1':#[dv,N'[i]?]:=h1;have h2':#[au,Zq7[i]?,ZmE]:=h2;unfold oZ at h2';rw[ZE]at h2'
  cases hs:src[i]? with
  | none=>rw[hs]at h2';cases h2'
  | some o =>
   rw[hs]at h2';have h2'':(o.bind ZavR)=Zab v:=Zl h2'
   cases o with
   | none=>cases h2''
   | some j =>
    have hj:Zasy=Zab v:=h2''
    have hσ:#[au,Zaiv,ZmE]:=by
     cases e:Zaiv with
     | none=>rw[e]at hj;cases hj
     | some z=>rw[e]at hj;rw[show z=Zab v from hj]
    have hzip:(x,ZzB)∈ZKv:=by
     have:#[au,(N'.zip src)[i]?,(x,ZzB)]:=by
      rw[List.getElem?_zip_eq_some];exact⟨h1',hs⟩
     exact Zy Zcl
    have hc:=ZF (S.cap _ hzip);obtain⟨hN,hfr⟩:#[dv,X.N[j]?]/\ZZ9:=hc;have hmem:ZaJz:=aQF hfr;have hvis:=S.fre _ hmem rfl;rw[<-hso]at hvis;obtain⟨m,hn,hl⟩:=I.loc;obtain⟨u,ru,lk⟩:=hl j x v hN hσ (Zap hvis);refine⟨u,ru,Zap #[c7,tR hfr]⟩;obtain⟨c,hcl⟩:=q3 _ hmem rfl;refine#[cr,c,hcl];rcases lk with ⟨k,_⟩ | ⟨_,c',e',z⟩
    ·have k:ZamB:=k
     rcases hvis with y | y<;>(rw[k]at y;cases y)
    ·have:=q1 x c hcl
     rw[e']at this;cases this;obtain⟨ob,e1,e2⟩:=z;exact⟨ob,ZaFY,e2⟩
 ·obtain⟨v,ob,e1,e2⟩:=Zrj x c (q1 x c e)
  exact⟨v,ob,ZaFY,e2⟩
 ·show #[aW,Zq7]=Za7b
  unfold oZ;rw[Y5];exact S.len
def qL [60][4][221][31][413][50][391](hz:ZaA8)(ru:Zhf) :
  Zcb Zw3 X.A #[atc,[Zai l,u]] #[Wm,#[b7,ZaMT,s']] E s:=by
 obtain⟨z,its,n,r,hl,e⟩:=ZuR;refine Za0P;refine ZaZd;rw[Zh,ZS]
 lia
def dv {X:Cx}{elt tg bJ:Expr}{ifs:Zbv}{sc so:Scope}{pos:Pos}{N':Zbo}{src:ZnJ}{wi:TI}{g:TG}{tt:TT}{te:TE}{N:Zbo}(hso:Zamy)(hXN:ZKy)(S:Zaok)(hc:ZfU)(hi:ZA4)
  (hb:ZaJV)
  (hs:ZE6:=by intro _;rfl):PE X ZQN (SV wi g tt te src):=by
 subst hXN;intro pins s σ H Q I h
 obtain⟨cl,hcl,q1,q3⟩:=oY (sc:=sc) (env:=X.env) fun y hy hf=>by
  have:=ZJ7;rw[<-hso]at this;exact ZMh
 rw[eval_ListComp];refine Za7h;obtain⟨it,fp,tn,J,H2,e,I2,T,st2,f2,hR⟩:=h2;subst e;refine ZHO
 have I3:ZbcU :=
  ZarU
 have hfr:=Zajf;obtain⟨W,⟨m0,w0⟩,turn⟩:=ZKB
 have flt:ZAI:=fun b hb=>by obtain⟨o,e,_⟩:=ZR1;exact Zb2
 generalize hs3:ZbcT=s3 at I3 ⊢
 have e3:ZbcR:=ZGW
 have sz3:ZMQ:=ZKa
 have hf3:Zam7:=ZST
 have flt3:ZMP:=Zaom
 have st3:ZamE:=Zan1
 refine aXB S.nocell (by intro y hy;simp at hy) ZKx S.kind;have kp4:ZanU:=ZJ6;have I4:=Zah9;have st4:ZJe:=Zan2;generalize hC:s3.heap.objs.size=C at I4 hns4 hsb4 ⊢;obtain⟨hg,ht,he⟩:=Zam9
 let Y:Cx:=Zam8
 have loop:∀ s5:Shared,Zah8->codeAny Zw3 X.A Za69
   Zasf s5:=by
  rintro s5 rfl
  have stat:ZapM:=fun {H'} hn b hb=>by
   obtain⟨f0,f1,f2',f3,f4,f5⟩:=ZIw;refine ZanL
   ·show Zyc
    rw[<-hC];exact ZKV
   ·have z:ZzZ:=z
    rcases ZK9 with y | y
    ·exact f1 y
    ·exact ZH_
  refine ZaJ8;rintro n s6 ⟨i,σ6,H6,I6,st6,fr6,w6⟩;rcases ZBd with ⟨stop,qn⟩ | ⟨go,Nx,hN,step⟩
  ·refine ZahD
   obtain ⟨hr,I7⟩:=zz;subst hr;obtain⟨m,hn,_⟩:=ZHU;refine ZaqR
   have neC:ZanT:=Zao5
   have freeC:ZKA:=I7.free
   have un:ZaJ4 :=
    ⟨ZbcI,fun b o e n hb hx=>by
      obtain⟨sl,q⟩:=ZaaF
      exact ZabQ,I7.base.free,fun b o e hx=>by
      obtain⟨o',q⟩:=Zaal
      exact ZabP,I7.base.tups,I7.base.frzs,I7.base.tbls⟩
   have hok:Zae8:=fun b ob e=>by
    refine Zae7;rintro rfl;rcases hc' with z | z
    ·rw[<-z,freeC]at e;cases e
    ·rw[freeC]at z;cases z
   have J7:Zaoq:=Zar';exact Zaf6
  ·refine ZahF
   obtain ⟨u,hr,h7⟩:=zz;subst hr;refine ZAY;obtain ⟨x,H8,I8,r8,y8,st8,fr8⟩:=zz;have I8':=ZBc;refine ZapS;obtain ⟨σ9,H9,I9,q9⟩:=zz
   have again:ZapQ:=fun [358] I7 n7=>by
    obtain⟨m',hm,w7⟩:=Zu_;refine Zao1;obtain⟨o,e,d⟩:=ZR0;exact Zano
   refine Zao8;obtain ⟨H10,I10,q10⟩:=zz
   cases ok with
   | false =>
    rw[Zd0]at q10 ⊢;exact ZA5
   | true =>
    rw[ZaB]at q10 ⊢;refine ZaRh;obtain ⟨yv,H11,I11,ry,ys,hys,hlen,q11⟩:=zz;exact Zagx
 exact Zar8
abbrev U1 [297][339][96][219]:TS:=fun D σ H=>wi σ H fun J H1=>∀ a,ZIM ->
 qH J g (Nn tt te a) #[Eg,Zn1 (ZBM i #[o7,a]) H',Zv6] Zq7 ZacN
def K7 {X:Cx}{ix:Nat}{x:Str}{px spos:Pos}{elt tg bJ:Expr}{ifs:Zbv}{sc so:Scope}{pos:Pos}{N':Zbo}{src:ZnJ}{wi:TI}{g:TG}{tt:TT}{te:TE}{N:Zbo}(hso:Zamy)(hXN:ZKy)(S:Zaok)(hc:ZfU)(hi:ZA4)
  (hb:ZaJV)
  (hnd:X.N.Nodup) (hix:#[dv,X.N[ix]?]) (hx:ZamB)
  (hsw:Za7d ZQN (Zab (ZeT x px)) spos.line ZaS=Zca Zae:=by rfl)
  (hs:ZE6:=by intro _;rfl):PS X (.Assign [ZeT x px] ZQN spos) (U1 wi g tt te src ix):=by
 subst hXN;intro pins s σ H D I h
 obtain⟨cl,hcl,q1,q3⟩:=oY (sc:=sc) (env:=X.env) fun y hy hf=>by
  have:=ZJ7;rw[<-hso]at this;exact ZMh
 rw[exec_Assign_Name_used _ _ _ _ hsw];refine #[Fg,?_]
 show wpAny _ X.A (do let _ <-comprehension ZQN sc ZaS _ (newList []) Zaz #[ky,bJ] ZaUZ) _ _ s
 refine Y6 (ZN (Za7g (use:=Zab (Zn4 ZasW ZaS)) (Q:=fun _ s'=>ZaZW) rfl hs hcl ZvL S.loc Zarg) (fun _ s' hq=>Zg (Zg hq)) ZSv);obtain⟨it,fp,tn,J,H2,e,I2,T,st2,f2,hR⟩:=h2;subst e;refine ZHO
 have I3:ZbcU :=
  ZarU
 have hfr:=Zajf;obtain⟨W,⟨m0,w0⟩,turn⟩:=ZKB
 have flt:ZAI:=fun b hb=>by obtain⟨o,e,_⟩:=ZR1;exact Zb2
 generalize hs3:ZbcT=s3 at I3 ⊢
 have e3:ZbcR:=ZGW
 have sz3:ZMQ:=ZKa
 have hf3:Zam7:=ZST
 have flt3:ZMP:=Zaom
 have st3:ZamE:=Zan1
 refine aXB S.nocell (by intro y hy;simp at hy) ZKx S.kind;have kp4:ZanU:=ZJ6;have I4:=Zah9;have st4:ZJe:=Zan2;generalize hC:s3.heap.objs.size=C at I4 hns4 hsb4 ⊢;obtain⟨hg,ht,he⟩:=Zam9
 let Y:Cx:=Zam8
 have loop:∀ s5:Shared,Zah8->codeAny Zw3 X.A Za69
   #[ase,ZaUZ,#[Wm,ZaZW]] s5:=by
  rintro s5 rfl
  have stat:ZapM:=fun {H'} hn b hb=>by
   obtain⟨f0,f1,f2',f3,f4,f5⟩:=ZIw;refine ZanL
   ·show Zyc
    rw[<-hC];exact ZKV
   ·have z:ZzZ:=z
    rcases ZK9 with y | y
    ·exact f1 y
    ·exact ZH_
  refine ZaJ8;rintro n s6 ⟨i,σ6,H6,I6,st6,fr6,w6⟩;rcases ZBd with ⟨stop,qn⟩ | ⟨go,Nx,hN,step⟩
  ·refine ZahD
   obtain ⟨hr,I7⟩:=zz;subst hr;obtain⟨m,hn,_⟩:=ZHU;have freeC:ZKA:=I7.free;have J7:#[b7,H6,s7]:=#[ar_,s7,I7.base,I7.hok]
   have hC3:ZanT:=Zao5
   have hlC:Zd3≠C:=by obtain⟨m3,⟨o3,_,_,e3',_⟩,_⟩:=I3.loc;exact ZaH_
   have hcC:∀ y c,#[T0,c]->c≠C:=fun y c e=>by obtain⟨v3,o3,e3',_⟩:=I3.cell y c e;exact ZaH_
   have hpC:#[Sh,C]:=#[lu,hC3 _ _ (I3.pin p hp).1];refine Za5k (DK (i:=ix) (v:=Zai Zey) J7 hnd hix (Zam hx) rfl (fun s8 I8 zz=>?_) (Zap hx));obtain ⟨a8,sb8,ha8⟩:=zz
   have ha8C:C≠a8:=by
    rcases ha8 with z | z
    ·rw[z];exact Zw hlC
    ·exact Zw #[pT,hcC]
   refine#[aqQ,Za40 sb8 ha8C]
   have I9:aQ X Zav (ZBM ix #[o7,Zey]) H6 { s8 with heap:=h' } :=
    I8.turned (it:=C) (t':=s8.toks) #[ak2,ZaEe] freeC (Zw hlC) (Zap (#[ao4,I3.sz])) hcC hpC
   exact#[i9,H6,I9,qn]
  ·refine ZahF
   obtain ⟨u,hr,h7⟩:=zz;subst hr;refine ZAY;obtain ⟨x,H8,I8,r8,y8,st8,fr8⟩:=zz;have I8':=ZBc;refine ZapS;obtain ⟨σ9,H9,I9,q9⟩:=zz
   have again:ZapQ:=fun [358] I7 n7=>by
    obtain⟨m',hm,w7⟩:=Zu_;refine Zao1;obtain⟨o,e,d⟩:=ZR0;exact Zano
   refine Zao8;obtain ⟨H10,I10,q10⟩:=zz
   cases ok with
   | false =>
    rw[Zd0]at q10 ⊢;exact ZA5
   | true =>
    rw[ZaB]at q10 ⊢;refine ZaRh;obtain ⟨yv,H11,I11,ry,ys,hys,hlen,q11⟩:=zz;exact Zagx
 exact Zar8
section
variable {X:Cx}
abbrev Vu (i j:Int):Zaa:=0<j/\j<Za7i
def OJ:#[a6r,Vu]:=Wf fun i j _ _ _ _ _ hc q=>by
 have h1:ZdO<j:=hc.1;have h2:j<Za7i:=hc.2;refine #[aY2,PyProof.noPylong_of_log2,?_]
 have h0:j.natAbs≠0:=Zad
 have:j.natAbs.log2<60:=#[cn,Za9j]
 lia
inductive UR [1][11]:Zaa
 | mk (x:_)(T:_)(t:_)(b:_)(_:xs=[x,.ty T])(_:vi K H x t)(_:Za50 K t #[kq,T]=Zab b)(_:Q (.bl b) H)
def Ny:#[Jb,ZMw,UR]:=by
 intro pins s σ H xs us Q I r h;obtain⟨x,T,t,b,rfl,ty,e,q⟩:=h
 cases r with
 | cons rx r2 =>
  cases r2 with
  | cons rt r3 =>
   cases r3;cases rt;exact Me I rx ty e fun tk=>#[dt,Zuc,H,I.tok tk,q]
def HN [52]{bs:ZzC}[278](r:bF (Zj5 Ze3) its) :
  TruthOf Zck X.w A (#[FY,ZNa]) (Zaix):=by
 intro i v s Q E hv hq
 have hv':ZZG:=ZML
 have hi:i<Zn':=#[ri,hv'];have hl:=r.length;rw[Y5]at hl;obtain⟨u,hu,ru⟩:=ZMX (i:=i) (x:=Ze3 (ZavY)) (#[pQ,Zty]);rw[hv']at hu;cases hu;cases ru
 have e:Zaiw i Zaz=ZavY:=by simp[List.getD,#[UD,Zs,i<Zru]]
 have hq':Q (Zaiw i Zaz) s:=hq;rw[e]at hq';exact aQw hq'
def MS (bs:ZzC):#[aRL,bs.all]:=by
 have h:ZaCS (Zaix)=bs:=by
  apply List.ext_getElem
  ·simp
  ·intro i h1 h2;simp[List.getD,Zs h2]
 have e:#[aRL,(ZaCS (Zaix)).all]:=#[bm,Za7j]
 rw[e,h]
def xp {pins:Ze0}{σ:St}{H:Hp}{s:Shared}{A:Around}{E:ZfE}{p:Addr}{xs:Zbr}{its:Zb'}{R:ZfE}(I:Zi6)(hA:Zfj)(pl:PlainL ZaK p ZbJ)
  (h:∀ (I':Addr)(St:ZRE)(s2:Shared),#[x6,Zey]->#[Wo,I']->Walks Zck X.w A I' [I',p] [I'] Zn' (#[FY,ZNa]) St->ZaIG->(#[yC,Za72])->(#[Nb,(#[ee,b∉[I'],Za72,Zgz])->#[i5,ZadC]])->R #[aj,I'] s2) :
  #[fF,Zw3,#[TB,p],R]:=by
 refine #[azw,ZiC]
 have hlt:#[dV,p]:=by obtain⟨o,n,e,_⟩:=pl;exact Zb2
 have W:=Walks.list (prog:=Zck) (w:=X.w) hA Zax p ZaH2 ZbJ;rw[Zv]at W;refine h _ _ _ #[tN,Z2] rfl W ⟨ZEA,Za7k ZavL⟩ (ZmI) fun h' tk kp=>?_;exact Zrm (t':=tk) #[dG,kp b o #[SP,Zs_] ZhW]
inductive RJ [1][11]:Zaa
 | mk [158](bs:ZzC)[62](_:bN K H p (Zj5 Ze3))(_:Q (.bl (bs.all id)) H)
def og [112]:#[Jb,Zcm,RJ]:=by
 intro pins s σ H xs us Q I r h;obtain⟨p,bs,rfl,hq,q⟩:=h;obtain⟨u,rfl,rx⟩:=ZeR;cases rx;obtain⟨its,rv,pl,hz⟩:=Zvw;have hl:=rv.length;rw[Y5]at hl;refine #[afn,call_all_walk,Zj5 Ze3,I,ZNX];refine⟨I',_,_,_,_,St,_,rfl,W,st,HN rv,fun h' tk k=>#[dt,ZhZ,H,ZLy,?_]⟩;rw[<-hl,MS];exact q
def kO:#[avZ,ZaHj->#[aip,us]]
 | [],_,r=>by cases r;exact IntsAre.nil
 | n::ns,_,r=>by
  cases r with
  | cons r t=>obtain⟨tk,rfl⟩:=r;exact IntsAre.cons _ _ (kO t)
def FH:#[avZ,Zaio us ns->ZaHj]:=by
 intro ns
 induction ns with
 | nil=>intro us h;cases h;exact Zan
 | cons n ns ih =>
  intro us h
  cases h with
  | cons _ _ t=>exact ZaC Za8 (ih t)
abbrev im:Zbp->Zbp:=fun l=>l.mergeSort (#[B9,#[lx,a<=b]])
def Hv {l m:Zbp}(hp:m.Perm l)(hs:m.Pairwise (·<=·)):m=im l:=by
 have h1:#[ZF,0].Pairwise (#[B9,#[lz,a<=b]]):=List.pairwise_mergeSort (by intro a b c;simp;lia) (by intro a b;simp;lia) l;have h2:#[ZF,0].Pairwise (·<=·):=h1.imp (ZaA);have h3:m.Perm (im l):=hp.trans #[a8Z,0].symm;exact h3.eq_of_pairwise (fun a b _ _ h1 h2=>Int.le_antisymm h1 h2) hs h2
def wH:∀ [333],ZaFG->(∀ [219] x u,ZOw->#[au,ZagL,u]->ZkX)->ZfS
 | [],[],_,_=>Zan
 | ZcI,ZqS,hl,h=>ZaC (h 0 x u rfl rfl) (wH (ZNc) fun i y v e1 e2=>h Zcf y v (ZNd) (Za7l))
 | [],Zdh,hl,_=>Za7m
 | Zdh,[],hl,_=>Za7m
inductive JB [11]:Zaa
 | mk [158][182][166][222](_:kvs.map (·.1)=Zht ZeX)(_:Zfn<64)(_:#[jK,#[kS,im,ns]])
def vk [112]:#[pY,ZNe,JB]:=by
 intro pins s σ H xs us Q I r h;obtain⟨p,kvs,ns,rfl,hH,hk,h64,q⟩:=h;obtain⟨u,rfl,rx⟩:=ZeR;cases rx;obtain⟨hz,lo,vs,rel,dd⟩:=ZaVj;obtain⟨ep,hat⟩:=dd.dictAt
 have hlk:ZaA7:=Zbea
 have hlv:ZiG:=Zk8;refine PySem.Calls.call_function_entry kind_sorted plain_sorted entry_sorted (args_sorted1 _) ?_;unfold Builtin.«sorted»;refine Y6 (m:=checkCount ZNe 1 1 _) ZkY;refine Y6 (PySem.W.kdu_collect (A:=Zaiy) (ZaZr) ZNX hat ZaN2 fun h' tk acc kp hacc=>?_)
 have hal:ZaKl:=ZaKD
 refine Y6 (wpAny_newList ?_ (#[vP,hal,hlv,hz]))
 have rI:#[VD,ZNf]:=wH ZaKf fun i x v e1 e2=>by
  obtain⟨k,y,hx,hks⟩:=Zagc
  have e3:(vs.map (·.1))[i]? = Zab k:=ZaB5
  rw[<-rel.keys,hk,ZE]at e3;rw[ZE]at e1
  cases en:ns[i]? with
  | none=>rw[en]at e1;cases e1
  | some n =>
   rw[en]at e1 e3;have e1':Zar n=x:=ZIW;subst e1';have e4:#[Uu,n]=k:=Zl e3;subst e4;rcases dh (k:=#[hF,n]) (v:=v) hks with ⟨j,t,ej,ev⟩ | ⟨j,t,ej,_⟩
   ·cases ej;exact ZAz
   ·cases ej
 have hoL:(ZMV (seqObj ZdE Za7n 0)).get? ZlG=Zab (seqObj ZdE Za7n 0):=Zct;refine Y6 (aQj (aQK slot_list_sort #[dQ,hoL] entry_list_sort (list_sort_tree hoL (kO rI) (#[gN,hal]) fun out ns' a1 a2 a3=>Zh6) (args_list_sort _)));refine ZYP;have en:ns'=im ns:=Hv a2 a3;subst en;obtain⟨e,he⟩:=sortedHeap_at (vs:=ZNf) (out:=out) hoL;have I1:ZXY:=Zrm kp;refine#[aPZ,ZBP (t':=tk) (a:=ZlG) (o:=Zbw ((im ns).map Zar)) (ZGP) Zbu ⟨?_,Zaiz,e,FH a1,by simpa using he⟩]
 ·rw[sortedHeap_old Zjp (#[aE,size_push',aQx (Zk e)])]
  exact Zja
 ·have:=a2.length_eq
  rw[Y5]
  lia
#where
inductive Dt where
 | at (v:V)
 | sq (tup:Bool)(ds:ZkT)
abbrev qS:V->Zb3
 | ZaH=>true
 | ZgD=>true
 | ZfQ=>true
 | _=>false
def uk {v:V}(h:ZVo):qT v=Zae:=by cases v<;>first | rfl | cases h
def Ep {x y:V}(hx:ZII)(hy:qS y=Zae):Ix x y=Zae↔x=y:=by
 cases x<;>cases y<;>first | (cases hx;done) | (cases hy;done) | simp[Ix]
abbrev Ec [1][32](t:Bool)[84][43]:Zaa:=#[eM,t,Zjy,Zlc]
abbrev RD [1][32]:Nat->V->Dt->Zaa
 | 0,v,d=>ZaSU
 | n+1,v,d=>(ZaSU)\/∃ a t xs ds,v=ZbV/\d=.sq t ds/\Ec K H t a xs/\ZaYJ
def RD.flat [7][38]{v:V}(h:ZVo):∀ n,RD K H n v (.at v)
 | 0=>#[fK,h]
 | _+1=>#[XH,h]
def RD.lst [341][415][377]:#[aQJ,Zaz] :=
 Zap ⟨a,false,xs,ds,rfl,rfl,by unfold Ec;rw[Zd0];exact h,r⟩
def RD.tup [341](h:Zjy)[377]:#[aQJ,Zae] :=
 Zap ⟨a,true,xs,ds,rfl,rfl,by unfold Ec;rw[ZaB];exact h,r⟩
section
variable {X:Cx}{pins:Ze0}{σ:St}{H:Hp}{s:Shared}
def RD.inj [3]:∀ {n m:Nat}{v:V}{d e:Dt},#[yn,v]->RD X.K H m v e->d=e:=by
 intro n
 induction n with
 | zero =>
  intro m v d e h1 h2;obtain⟨f,rfl⟩:=h1
  cases m with
  | zero=>exact ZJ_
  | succ m =>
   rcases h2 with h2 | ⟨a,t,xs,ds,rfl,_⟩
   ·exact ZJ_
   ·cases f
 | succ n ih =>
  intro m v d e h1 h2;rcases h1 with h1 | ⟨a,t,xs,ds,rfl,rfl,q,r⟩
  ·obtain⟨f,rfl⟩:=h1
   cases m with
   | zero=>exact ZJ_
   | succ m =>
    rcases h2 with h2 | ⟨a,t,xs,ds,rfl,_⟩
    ·exact ZJ_
    ·cases f
  ·cases m with
   | zero=>cases h2.1
   | succ m =>
    rcases h2 with h2 | ⟨a',t',xs',ds',ea,rfl,q',r'⟩
    ·cases h2.1
    ·cases ea
     have pr:∀ {l:Zbr}{l1 l2:ZkT},Za0 (RD X.K H n) l l1->Za0 (RD X.K H m) l l2->l1=l2:=by
      intro l
      induction l with
      | nil=>intro l1 l2 p1 p2;cases p1;cases p2;rfl
      | cons z l ihl =>
       intro l1 l2 p1 p2
       cases p1 with
       | cons r1 t1 =>
        cases p2 with
        | cons r2 t2=>rw[ih r1 r2,ihl t1 t2]
     cases t with
     | false =>
      have q:ZJH:=by unfold Ec at q;rwa [Zd0]at q
      cases t' with
      | false =>
       have q':ZaGy:=by unfold Ec at q';rwa [Zd0]at q'
       have:=Za5s q q';subst this;rw[pr r r']
      | true =>
       have q':ZaGz:=by unfold Ec at q';rwa [ZaB]at q'
       obtain⟨_,_,p1,_⟩:=ZYm;obtain⟨_,_,p2,_⟩:=ZJr;exact #[aAq,ZNg,p2]
     | true =>
      have q:ZJI:=by unfold Ec at q;rwa [ZaB]at q
      cases t' with
      | false =>
       have q':ZaGy:=by unfold Ec at q';rwa [Zd0]at q'
       obtain⟨_,_,p1,_⟩:=ZYn;obtain⟨_,_,p2,_⟩:=ZJq;exact #[aAq,ZNh,p1]
      | true =>
       have q':ZaGz:=by unfold Ec at q';rwa [ZaB]at q'
       have:=ZahB q q';subst this;rw[pr r r']
def Pf [3]:∀ [42][52]{l b:Addr}{d e:Dt},ZaE0->RD X.K H ZdX Zeh d->RD X.K H ZdX Zqu e ->
  (∀ [52][241]{d e:Dt},ZbcZ) ->
  #[FZ,ZVr,SeqAt.RcAt A s Zeh Zqu k]:=by
 intro n A l b d e hu h1 h2 ih;rcases h1 with h1 | ⟨a,t,xs,ds,ea,rfl,q,r⟩
 ·cases h1.1
 cases ea;rcases h2 with h2 | ⟨a',t',xs',ds',ea,rfl,q',r'⟩
 ·cases h2.1
 cases ea
 have pw:∀ {us us':Zb'},ZfS->bF xs' us'->∃ ks:ZAp,(∀ j [322],#[bcY,(ks j)]) /\
   (ZaXt):=by
  intro us us' rv rv'
  have ex:∀ j:Nat,#[FZ,∀ [322],#[bcY,k],(∀ d1 d2,#[au4,(k=Zae↔d1=d2)])]:=by
   intro j
   by_cases hj:j<Zd2/\j<ZagI
   ·obtain⟨h1,h2⟩:=hj
    have l1:=rv.length;have l2:=rv'.length;have l3:=Zud;have l4:=Zt r';have gx:#[au,ZMR,xs[j]]:=Zty;have gx':#[au,xs'[j]?,xs'[j]]:=Zty;obtain⟨u,eu,ru⟩:=ZNi gx;obtain⟨u',eu',ru'⟩:=rv'.get gx'
    have eu2:us[j]=u:=by rw[Zs h1]at eu;exact Zl eu
    have eu2':us'[j]=u':=by rw[Zs h2]at eu';exact Zl eu'
    have pget:∀ {m:Nat}{zs:Zbr}{es:ZkT}(j:Nat){z:V},Za0 (RD X.K H m) zs es->#[au,zs[j]?,z]->∃ f,#[au,es[j]?,f]/\RD X.K H m z f:=by
     intro m zs
     induction zs with
     | nil=>intro es j z p hz;simp at hz
     | cons z0 zs ihz =>
      intro es j z p hz
      cases p with
      | cons p1 p2 =>
       cases j with
       | zero=>simp at hz;subst hz;exact#[bO,p1]
       | succ j=>obtain⟨f,e1,e2⟩:=ihz j p2 (by simpa using hz);exact⟨f,ZNd,e2⟩
    obtain⟨f,ef,rf⟩:=pget j r gx;obtain⟨f',ef',rf'⟩:=pget j r' gx';obtain⟨k,hk,he⟩:=ih (A:=ZiN) (#[aq6,Zn5]) rf rf' ru ru';refine⟨k,#[v3,#[cB,eu2,eu2',he]],#[a7o,?_]⟩;rw[ef]at e1;rw[ef']at e2;cases e1;cases e2;exact hk
   ·refine⟨Zaz,fun h1 h2=>#[oE,ZuP,hj],#[a7o,?_]⟩
    have l1:=rv.length;have l2:=rv'.length;have l3:=Zud;have l4:=Zt r';have:=#[ri,e1];have:=ZayY;exact #[oE,ZIQ,hj]
  exact⟨fun j=>Classical.choose (ex j),fun j h1 h2=>#[aTK,0].1 h1 h2,fun j=>#[aTK,0].2⟩
 have allEq:∀ (ks:ZAp),(ZaXt)->ZiO=ds'.length->(#[Vf,ZiO] ks=Zae↔ds=ds'):=by
  intro ks hk hl;rw[ZM];constructor
  ·intro h
   apply List.ext_getElem hl
   intro j h1 h2;exact (hk j _ _ (Zs h1) (Zs h2)).mp (h j (Zrb h1))
  ·rintro rfl j hj
   have h1:=ZNj hj;exact (hk j _ _ (Zs h1) (Zs h1)).mpr rfl
 have l3:=Zud;have l4:=Zt r'
 cases t with
 | false =>
  have q:bN X.K H l xs:=by unfold Ec at q;rwa [Zd0]at q
  obtain⟨us,rv,p1,_⟩:=ZYm;have l1:=rv.length
  cases t' with
  | true =>
   have q':ZaG6:=by unfold Ec at q';rwa [ZaB]at q'
   obtain⟨us',rv',p2,_⟩:=ZJr;exact#[zp,Zaz,SeqAt.RcAt.list_tuple ZNg p2 Zah]
  | false =>
   have q':ZaG5:=by unfold Ec at q';rwa [Zd0]at q'
   obtain⟨us',rv',p2,_⟩:=ZJq;have l2:=rv'.length
   by_cases hl:ZaHJ
   ·obtain⟨ks,he,hk⟩:=ZaSR
    refine#[k1,#[Vf,Za7p] ks,SeqAt.RcAt.lists ZNg ZNh (ZNc) Zah Zber];rw[Zv,ZaOj,ZaVl];constructor
    ·rintro rfl;rfl
    ·intro h;injection h
   ·refine#[k1,Zaz,SeqAt.RcAt.lists_lengths ZNg ZNh (ZNc) Zah]
    constructor
    ·intro h;cases h
    ·intro h
     injection h with _ h;exact Za06
 | true =>
  have q:aU X.K H l xs:=by unfold Ec at q;rwa [ZaB]at q
  obtain⟨us,rv,p1,_⟩:=ZYn;have l1:=rv.length
  cases t' with
  | false =>
   have q':ZaG5:=by unfold Ec at q';rwa [Zd0]at q'
   obtain⟨us',rv',p2,_⟩:=ZJq;exact#[zp,Zaz,SeqAt.RcAt.tuple_list p1 ZNh Zah]
  | true =>
   have q':ZaG6:=by unfold Ec at q';rwa [ZaB]at q'
   obtain⟨us',rv',p2,_⟩:=ZJr;have l2:=rv'.length;obtain⟨ks,he,hk⟩:=ZaSR;refine#[bN,?_,SeqAt.RcAt.tuples (e:=ks) (show #[ami,l,Za7q] from p1) (show #[asP,us'.toArray] from p2) Zah Zber]
   by_cases hl:ZaHJ
   ·rw[Zv,Zv,<-hl,Nat.min_self,beq_self_eq_true,Bool.and_true,ZaOj,ZaVl]
    constructor
    ·rintro rfl;rfl
    ·intro h;injection h
   ·have:#[oU,Za7p,us'.toArray.size]:=ZNc
    rw[this,Bool.and_false];constructor
    ·intro h;cases h
    ·intro h
     injection h with _ h;exact Za06
def NM [3]:∀ [42][52][241]{d e:Dt},ZbcZ:=by
 intro n
 have flatCase:∀ [52][241],qS y=Zae->ZII->Zhf->ZeL->#[FZ,k=Zae↔Dt.at y=Dt.at x,#[bcW,k]]:=by
  intro A y x u v fy fx ry rx;refine#[k1,ZVU,NN ry rx (uk fy) (uk fx)];rw[Ep fy fx];constructor
  ·rintro rfl;rfl
  ·intro h;injection h
 induction n with
 | zero =>
  intro A y x u v d e hu h1 h2 ry rx;obtain⟨f1,rfl⟩:=h1;obtain⟨f2,rfl⟩:=h2;exact ZaYN
 | succ n ih =>
  intro A y x u v d e hu h1 h2 ry rx;rcases id h1 with ⟨f1,rfl⟩ | ⟨a,t,xs,ds,rfl,rfl,q,r⟩
  ·rcases id h2 with ⟨f2,rfl⟩ | ⟨a',t',xs',ds',rfl,rfl,q',r'⟩
   ·exact ZaYN
   ·cases rx
    refine ZaME
    cases t' with
    | false =>
     have q':bN X.K H a' xs':=by unfold Ec at q';rwa [Zd0]at q'
     obtain⟨_,_,p,_⟩:=ZJq
     cases y with
     | non=>cases ry;exact #[el,SeqAt.EqAt.none_list,ZvD]
     | int _=>obtain⟨tk,rfl⟩:=ry;exact #[Jz,SeqAt.EqAt.int_list]
     | str _=>obtain⟨tk,rfl⟩:=ry;exact #[Jz,SeqAt.EqAt.str_list]
     | _=>cases f1
    | true =>
     have q':aU X.K H a' xs':=by unfold Ec at q';rwa [ZaB]at q'
     obtain⟨_,_,p,_⟩:=ZJr
     cases y with
     | non=>cases ry;exact #[el,SeqAt.EqAt.none_tuple,p]
     | int _=>obtain⟨tk,rfl⟩:=ry;exact #[Jy,SeqAt.EqAt.int_tuple]
     | str _=>obtain⟨tk,rfl⟩:=ry;exact #[Jy,SeqAt.EqAt.str_tuple]
     | _=>cases f1
  ·cases ry
   rcases id h2 with ⟨f2,rfl⟩ | ⟨a',t',xs',ds',rfl,rfl,q',r'⟩
   ·refine ZaME
    cases t with
    | false =>
     have q:ZJH:=by unfold Ec at q;rwa [Zd0]at q
     obtain⟨_,_,p,_⟩:=ZYm
     cases x with
     | non=>cases rx;exact #[el,SeqAt.EqAt.list_none,ZvD]
     | int _=>obtain⟨tk,rfl⟩:=rx;exact #[Jz,SeqAt.EqAt.list_int]
     | str _=>obtain⟨tk,rfl⟩:=rx;exact #[Jz,SeqAt.EqAt.list_str]
     | _=>cases f2
    | true =>
     have q:ZJI:=by unfold Ec at q;rwa [ZaB]at q
     obtain⟨_,_,p,_⟩:=ZYn
     cases x with
     | non=>cases rx;exact #[el,SeqAt.EqAt.tuple_none,p]
     | int _=>obtain⟨tk,rfl⟩:=rx;exact #[Jy,SeqAt.EqAt.tuple_int]
     | str _=>obtain⟨tk,rfl⟩:=rx;exact #[Jy,SeqAt.EqAt.tuple_str]
     | _=>cases f2
   ·cases rx
    by_cases hab:a=a'
    ·subst hab
     exact⟨Zae,#[fp,ZaiA I h1 h2],Zaw0⟩
    ·obtain⟨k,hk,hr⟩:=Pf I n (A:=A) Zah h1 h2 (fun hu'=>ih hu')
     exact⟨k,hk,.of_refs hab hr⟩
#where
inductive Yz [1][42](neg:Bool)[319]:Zaa
 | mk [416](d e:Dt)(e1:Zk7)(e2:ZEv)(r1:RD K H ZdX x d)(r2:RD K H ZdX y e)(h:#[aTe,ZVr])
abbrev XN [1][42](neg:Bool):R2:=#[rn,Yz K n neg x y H Q]
section
variable {X:Cx}
def UC [393]:#[ahr,.Eq,(XN X.K n Zaz)]:=by
 intro pins s σ H x y v u Q I rx ry h;obtain⟨a,b,d,e,rfl,rfl,h1,h2,q⟩:=h;cases rx;cases ry;obtain⟨k,hk,hr⟩:=Pf I n (A:=X.A) hu h1 h2 (fun hu'=>NM I n hu');exact hr _ _ _ _ #[mG,.bl k,q k hk]
#where
open PySem PySem.Spec PyProof.Rows PySem.Calls
def Q5:#[aiY,Zrv,Za7s]:=Zq2
def Oo:#[auN,Zrv,ZaiB,Za7t]:=Zq2
section
variable {prog:Program}{w:World}{A:Around}{E:ZfE}{s:Shared}{r d:Addr}{items:Zix}
def N2 {Q:ZaxC}(hT:ZaO4)(h:Q Zaz s):#[vY,#[i8,Builtin.List.listLengthHint,r]]:=by
 unfold Builtin.List.listLengthHint;refine #[A3,Q5]
 wp_delta
 refine ZarB;refine ZarB;refine #[A3,Oo];generalize hid:(Za7t : String)=id0
 wp_delta
 rw[show splitId id0=Zab (Zrv,"__length_hint__") from by subst hid;decide +kernel];subst hid;refine #[a9N,Zrv,hT,(ZWI)];refine aXP (fun hab=>#[uf,hab]) (Zsf);refine aXP #[fG,?_] (fun hab=>#[oE,(Zal),hab]);refine ZarB;exact Zg h
def IA {R:Znr}(hh:Zfj)(hit:ZaWB)(hl:ZaRk)(hrd:d≠r)(S:Addr)(hSr:S≠r)(hSd:S≠d)(res:Value)(c0:Nat)(hS:ZAK=some { cls:=ZdF,data:=Za2 #[] c0 })
  (hR:∀ h' tk acc' c',(#[Uj,Ztw,r])->Zaa3=some { cls:=ZdF,dict:=none,data:=ZaDK,slots:=#[] }->ZaZH->R (.ok (ZfZ res)) ZOh) (hn:ZXB) :
  wpAny ZvX A.in1 (Za7u #[aj,S] #[aj,r] res)
   (fun fin s'=>match fin with | Za5 f=>R (.ok f) s' | .again c'=>c'.quiet=Zae/\#[aBs,c']) (fun e s'=>R (ZMz e) s') s:=by
 have hSf:S∉[r,d]:=by simp only[Zi,ZX,aQv,not_or];exact⟨hSr,hSd⟩
 have W:=Walks.listRev (prog:=ZnU) (w:=w) (A:=ZiN) hh r d hrd ZnV;have hT:ZaO4:=hit.typeIs;unfold Builtin.List.listExtendWith;refine #[bdP,Zrv,hT]
 have h1:#[aBS,#[aj,S],ZjA]:=by simp[Builtin.List.listSameRef,hSr]
 have h2:#[bcw,ZdE]:=Zaw
 have h3:#[bcw,Zf2]:=Zaw
 simp only[h1,h2,h3,Bool.or_false,aQ3,aXZ];refine Y6 (wpAny_pyIter_revIter hit ?_);refine Y6 (aQj (N2 hT ?_));refine #[arA,#[bf,Zg #[c7,aXu PySem.F.plain_extend_loop _]]];refine codeAny_extend_loopS W.toS hn S hSf res items.size 0 _ #[] c0 rfl ZzD ⟨Zce,by simpa using hit,hl⟩ hS (ItemsOf.nil _) fun s' acc' c' hm hS' hacc=>?_;rw[Moved.eq_with hm];refine hR ZdD s'.toks Zwd c' (fun b o hb hbr e=>hm.heap b o (fun hmem=>?_) e) hS' Zrx
 ·rcases Zcw hmem with e' | hmem
  ·exact hb e'
  ·exact hbr (Zcz hmem)
def Cp {Q:ZfE}(hh:Zfj)(hit:ZaWB)(hl:ZaRk)(hrd:d≠r)(hn:ZXB)
  (hQ:∀ h' tk acc' c',(#[y9,b≠r])->Zacq=some { cls:=ZdF,dict:=none,data:=ZaDK,slots:=#[] }->ZaZH->Q ZcN ZOh) :
  #[vY,(Zfs (Za4 ZdE) [Zai r])]:=by
 refine callType_codes (Q₁:=fun obj s1=>ZKO/\s1={ s with heap:=s.heap.push { cls:=ZdF,data:=Za2 #[] } }) PySem.F.called_list Zaw1 PySem.F.entry_list_init ZaH9 fun obj s1 h1=>?_;obtain⟨rfl,rfl⟩:=h1;have hS:(s.heap.push { cls:=ZdF,data:=Za2 #[] }).get? s.heap.objs.size=some { cls:=ZdF,data:=Za2 #[] }:=Zct
 have hr:#[dV,r]:=by obtain⟨o,e,_⟩:=hit;exact Zb2
 have hd:#[dV,d]:=by obtain⟨o,e,_⟩:=hl;exact Zb2
 refine ZaRS
 show wpAny _ _ (do let old <-ZaFA;Builtin.List.listUpdate ZcN (fun _=>#[]);letGo Za7w;#[a7v,ZjA]) _ _ _
 refine ZgG;unfold Builtin.List.listItems;refine ZaQX
 show wpAny _ _ (updateSeq s.heap.objs.size (fun _=>#[]) >>= fun _=>letGo (#[]:Zix).toList.reverse >>= #[bf,#[a7v,ZjA]]) _ _ _
 refine ZaGK;have hS2:=Z3 (Obj.mapSeq (fun _=>(#[]:Zix))) hS rfl
 have oth:∀ b o,Zd6->((s.heap.push { cls:=ZdF,data:=Za2 #[] }).update s.heap.objs.size (Obj.mapSeq (fun _=>(#[]:Zix)))).get? b=Zig :=
  ZaS9
 refine Zaac;refine IA (A:=ZiN) hh #[wu,hit.at,oth _ _ e] #[wu,hl.at,oth _ _ e] hrd Zax (Z1 hr) (Z1 hd) Zay _ hS2 (fun h' tk acc' c' hk hS' hacc=>?_) hn;exact#[db,hQ h' tk Zwd c' #[ak2,hk b o Zjp hb Zay7] hS' Zrx]
#where
abbrev PZ [1][339]:TE:=#[ahh,∃ a xs,x=ZbV/\bN K H1 a xs/\∀ l,#[pA,l]->Q Zeh #[eI,l,Zax5]]
def Bx {X:Cx}{e:Expr}{te:TE}{p p2 pos pos2:Pos}(hc:ZfU)(he:Zhk)(hg:ZazF)(hm:ZaDz)(hg2:Gl X Zry)(hm2:#[tC,Zry])
  (hs:ZK3:=by rfl)
  (hs2:#[aOO,Zry,[e],Zry,[e]]:=by rfl) :
  PE X (ZcW (ZeT ZdE p) #[Wg,Zry,[e]] [] pos) (PZ X.K te):=by
 intro pins s σ H Q I h;refine ZaHy;refine ZaJO;rw[hs2];refine #[a7y,boot_reversed];refine aQe ?_ hs rfl;rw[hs];refine Za7x (bS ZkW ZhV);obtain ⟨x,H1,I1,rx,a,xs,ex,hq,q⟩:=zz;refine Za7A;subst ex;cases rx;obtain⟨its,rv,pl,hz⟩:=Zayf;refine call_reversed_list ZiC (Za7z ?_)
 have hlt:ZaBy:=by obtain⟨o,n,e,_⟩:=pl;exact Zb2
 have hl:=rv.length;refine Cp (r:=Ze4) (d:=a) (items:=ZbJ) ZazI ZEA #[wu,Za7k,Zja] ZaH2 ZGi fun h' tk acc' c' hk hS hacc=>?_
 have sz:Zap4=Ze4+1:=#[d9,Z2]
 have hge:Ze4<=Zap4:=#[aE,sz,aXE _]
 have rr:bF ZaiC Za7B:=wH (by have:=#[rx,0].1;simp at this;simp;lia) fun i y v e1 e2=>by
  have hv:=Zagc
  have hi:ZzS:=#[bd',e1]
  rw[List.getElem?_reverse hi]at e1;obtain⟨u,eu,ru⟩:=ZNi e1
  have hv':#[sn,its[ZYM-i]?]:=ZML
  rw[hl]at eu;rw[eu]at hv';cases hv';exact ru
 refine#[mj,_,_,ZBP (t':=tk) (a:=Zap4) (o:=Zbw ZaiC) (#[dG,hk b o Zjp ZhW]) hge ⟨#[avw,List.length_reverse],Za7B,c',rr,by simpa using hS⟩,q _ (ZB_ hge)]
#print L2
namespace Wz
open PySem L2
abbrev d7 (c:Int):Int:=if c<0 then -c else c
def Qt (c:Int):0<=Zmg:=by unfold d7;split<;>lia
abbrev lS [166](k:Int):Int:=#[aiD,k<(Zfn:Int),ZNk Zrr 0]
abbrev j4 (k c:Int):Int :=
 let left:=Zmg
 let number:=#[tz,k*(1+#[anf,left]),left/ZB']
 if left%5=4 then number+ZnT else number
abbrev dk [14]:Zip:=Zrz fun p=>Zatx
abbrev look:ZeF->Int->Zgk
 | [],_=>none
 | p::r,g=>#[fh,Zm9,p.2,ZaP r g]
abbrev put [359]:ZeF:=#[eM,ZaLG,Zrz (ZaK8),l++[(g,m)]]
abbrev wr [417]:Int:=(ZaP l g).getD g
abbrev aR [14]:Zbp:=l.map (·.1)
abbrev b9 [14]:Zbp:=(im (aR l)).filter #[RT,l]
abbrev IZ [14]:ZeF:=(b9 l).map fun g=>(g,wr l g)
def lA:∀ [417],f8 ZIB Zsr=(ZaP l g).map Zar
 | [],_=>rfl
 | p::r,g=>by
  by_cases h:Zm9
  ·have e:f8 ZaLO Zsr=#[c3,Zar,p.2]:=#[aK9,jp,#[tN,h]]
   rw[e];simp[look,h]
  ·have e:f8 ZaLO Zsr=f8 (dk r) (ZeX g):=#[aK9,iE,ZaPV]
   rw[e,lA r g];simp[look,h]
def Tu [417]:(#[IB,0].any #[sj,Zsr])=l.any ZV8:=by
 unfold dk;rw[List.any_map]
 congr 1
 funext p
 simp[Function.comp]
def wv [359]:jX ZIB Zsr (Zar m)=dk ZA':=by
 unfold jX put;rw[Tu]
 by_cases h:(l.any ZV8)=Zae
 ·rw[ZcH,ZcH]
  unfold dk;rw[ZK,ZK]
  apply aQr
  intro p _;simp only[Function.comp]
  by_cases e:Zm9
  ·rw[Y9 (#[d9,e]),Zik]
  ·rw[Y8 (#[jj,e,ZL8]),Zij]
 ·rw[ZcG,ZcG]
  unfold dk;simp
def AU [417]:ZaLG=#[ho,(ZaP l g)]:=by
 induction l with
 | nil=>rfl
 | cons p r ih =>
  rw[aQO,ih]
  show _=#[ho,#[gx,Zm9,Zab p.2,ZaP r g]]
  by_cases h:Zm9<;>simp[h]
def dy [168][272]:Zabm↔g∈aR l:=by
 rw[<-AU,List.any_eq_true];unfold aR;simp
def On [14](g m h:Int):ZaP (Zrz (ZaK8)) h=#[cx,h=g,(ZaP l g).map (#[bf,m]),Zacb]:=by
 induction l with
 | nil=>simp[look]
 | cons p r ih =>
  rw[Zr]
  by_cases hp:Zm9
  ·rw[Y9 hp]
   show (#[fh,p.1=h,m,Zas_])=_
   rw[ih]
   by_cases hh:h=g
   ·subst hh;simp[hp,look]
   ·have:ZaIr:=#[aF,hh (ZaiE hp)]
    simp[hh,this,look]
  ·rw[Y8 hp]
   show ZaJs
   rw[ih]
   by_cases hh:h=g
   ·subst hh;simp[hp,look]
   ·simp[hh,look]
def Gk (l r:ZeF)(h:Int):ZaP (l++r) h=(ZaP l h).orElse #[bf,ZaP r h]:=by
 induction l with
 | nil=>rfl
 | cons p l ih =>
  show (#[fh,p.1=h,p.2,ZaP (l++r) h])=_
  rw[ih]
  by_cases e:p.1=h<;>simp[look,e]
def je [14](g m h:Int):ZaP ZA' h=#[fh,h=g,m,Zacb]:=by
 unfold put;rw[AU]
 by_cases e:Zabm
 ·rw[Zik,On]
  obtain⟨v,hv⟩:=Zn7 e
  by_cases hh:h=g
  ·simp[hh,hv]
  ·simp[hh]
 ·rw[Zij,Gk]
  have hn:ZaP l g=Zac:=Zra
  by_cases hh:h=g
  ·subst hh;simp[hn,look]
  ·have:¬ g=h:=#[aF,hh Zaie]
   simp[hh,look,this]
def Gh [359]:aR ZA'=#[cx,g∈aR l,aR l,aR l++[g]]:=by
 unfold put;rw[AU]
 by_cases e:Zabm
 ·rw[Zik,Y9 (ZNm e)]
  unfold aR;rw[ZK]
  apply aQr
  intro p _;simp only[Function.comp];split<;>rfl
 ·rw[Zij,Y8 (#[jj,e,ZCb])]
  simp[aR]
def EF [359]:#[bd,ZA',Zcc+1]:=by
 unfold put;split<;>simp
def jA:#[aXu,Zbp]
 | [],_,_,_=>Zce
 | a::r,m,h,hs=>by
  obtain⟨h1,h2⟩:=ZXv;have ha:a∈m:=hs a Ze;have hl:#[aX,ZaiF,a]=ZNn-1:=Za7C ha;have hpos:ZayK:=ZaiG ha;have ih:=jA (l:=r) (m:=ZaiF a) h2 #[f8,#[aRA,x≠a,#[cj,#[fP,h1,e,hx]]] (hs x ZanP)];rw[Zx]
  lia
def Dw {l:Zbp}{x:Int}:x∈im l↔x∈l:=#[a8Z,0].mem_iff
def xj (l:Zbp):#[ad4,im]:=#[a8Z,0].length_eq
def QX [14]:(dk l).map (·.1)=#[aN1,l]:=by
 unfold dk aR;rw[ZK,ZK];rfl
def IS [14]:#[ad4,dk]:=by unfold dk;simp
abbrev aO [5][189][360]:Zaa :=
 #[bcl,#[bi,k,ps,sp]]
def bg {X:Cx}{x:Str}{k:Nat}{ps:Zbo}{sp:Sp}{e:Expr}{es:Zbv}{t:TA}{p pos:Pos}(C:#[aYU,aO])(hr:ZjD)(hg:Zeo)(ha:Zhl)
  (hdb:Za79:=by decide) (he:ZDL:=by rfl) (hpl:Zame (·.1)=false:=by rfl) :
  #[xb,(PX sp [] E0 t)]:=by
 obtain⟨f,fd,G,hm,hk,hb⟩:=C;exact #[a1f,fb]
def r9 [60][1][183]:VA X (Wq K):=by subst hK;exact aB
abbrev cR [32][294][58]:Zaa:=∃ as:ZeZ,ZZ8/\Za0 (fun a (p:ZgI)=>#[eg,#[ps,p.1,p.2]]) as ps
def cR.mono [16][221][44](r:Zy8)[110]:cR H' l ps:=by
 obtain⟨as,h,p⟩:=r;exact ZaP_
def ah [38][361](h:Zgw):aD H ZYO:=#[Cc,#[tb,ZU6]]
def cw [16][361][110](h:Zgw):aD H ZaJp:=#[Cc,#[avu,s b u e]]
def paired_get [131]:∀ [273]{i:Nat}{a:α},ZKX->#[au,ZNo,a]->∃ b,#[au,m[i]?,b]/\F a b
 | _,_,_,_,Zan,h=>ZiD
 | _,_,0,_,ZaC r _,h=>by simp at h;subst h;exact ZX8
 | _,_,i+1,a,ZadL,h=>by
  obtain⟨b,e1,e2⟩:=ZaiH (i:=i) (a:=a) t ZWn;exact⟨b,ZNd,e2⟩
def bI [131]:∀ {l l':ZdZ}{m m':ZW5},ZKX->Za0 F l' m'->Za0 F (l++l') (m++m')
 | _,_,_,_,Zan,s=>s
 | _,_,_,_,ZnI,s=>ZaC r (bI t s)
def lY [131]:∀ [273],ZKX->Za0 F l.reverse m.reverse
 | _,_,Zan=>Zan
 | _,_,ZnI=>by
  rw[List.reverse_cons,List.reverse_cons];exact bI (lY t) #[h8,r]
def bP [314]{f:ZaaS}{l:ZdZ}{i:Nat}{y:β}(h:#[kG,ZazM[i]?]):#[aKP,y=f x]:=by
 rw[ZE]at h
 cases e:ZNo with
 | none=>rw[e]at h;cases h
 | some x=>rw[e]at h;exact#[ib,x,ZS8]
def DP [78]{l:ZdZ}{i:Nat}{x:α}(h:#[dv,ZNo]):ZrA Zcf=ZaAW++[x]:=by
 rw[ZH,h];rfl
def gD {te:TE}[198](h:te σ H fun y H2=>Zau_):Nn zB te a D σ H:=by
 unfold Nn zB;dsimp only;rw[ZaB];exact h
def P7 {tt:TT}{te:TE}[198](h:tt σ H #[vB,#[eM,b,ZaIU,Zus]]):Nn tt te a D σ H:=h
inductive JL [1][12]:Zaa
 | mk [84][166](k:Int)(_:vs=[ZbV,Zag k])[378](_:0<=k)(_:Q (Zag (lS ns k)) H)
inductive FD [12]:Zaa
 | mk [462](_:Q ZaPN H)
inductive Fv [12]:Zaa
 | mk (c m b:Int)(_:vs=[ZzE,Zag m,ZmN])(_:ZaW0)(_:(0<b/\b<ZMq))(_:∀ (l:Addr)(ds:Zbp),Zgw->(ZapF)->#[azl,m]->#[acD,Zol])
inductive zT [12]:Zaa
 | mk (k c:Int)(_:#[adV,k])(_:(0<=k/\k<=ZvE))(_:Q (Zag (j4 k c)) H)
inductive Lu [12]:Zaa
 | mk [394][169](_:#[nv,d])(_:#[sE,#[bW,w]])(_:Zfv<64)(_:∀ (l':Addr)(H':Hp),#[dT,#[aZ,l'],ZbU,#[b0,l',#[kS,b9,w]],ZawM])
inductive HE [1][12]:Zaa
 | mk [294][43](_:#[nv,l])(_:bN K H l xs)(_:∀ l',#[aZ,l']->Q ZawM #[bt,l',Zax5])
def EQ [437]{Q:Zayu}(h:Q Zac H):Lz σ H Q:=h
def Mq [169]:#[aX,IZ,w]<=Zfv:=by
 unfold IZ b9;rw[Y5];refine ZV ZasR ?_;rw[xj];unfold aR;rw[Y5];exact ZaN
def Nh [169]:#[aX,b9,w]<=Zfv:=by have:=Mq w;unfold IZ at this;rwa [Y5]at this
#print Wz
namespace L2
open PySem PySem.Spec PyProof.Rows
abbrev Sj (g B:Heap)(e:Addr)(c:Value)[113](fl:Value):Zaa :=
 ∃ oe us T oT ts,ZNp e=Zab oe/\(ZaiK=c/\ZaiL=od)/\ZAT/\#[au,us[1]?,#[aj,T]]/\ZNq T=Zac/\T≠e/\ZNp T=Zab oT/\oT.data=Za1 ts/\#[au,ts[3]?,fl]
abbrev vg [247](g:Heap):Zaa:=ZS2/\ZNr/\ZbdL/\ZaHa
abbrev Sd [247](L:Addr)(g:Heap):Zaa:=ZS2/\ZNr/\ZbdL/\ZaHb
def QC (f:ZaKg)(o:Obj):(Obj.mapFields f o).dict=Zahu:=by
 unfold Obj.mapFields;split<;>rfl
def vg.obj {B g:Heap}[395]{e:Addr}{c:Value}{od:Zgj}(x:vg B l e c od g):∃ ob us,ZNp e=Zab ob/\ob.cls=c/\ZaiM=od/\ZNs=Za1 us:=by
 obtain⟨_,_,_,oe,us,_,_,_,he,hc,hd,_⟩:=x;exact⟨oe,us,he,hc.1,hc.2,hd⟩
section
variable {M:Model}{A:Around}{E:ZfE}{s:Shared}{B:Heap}{env:Env}{outer:Zc9}{L e:Addr}{od:Zgj}{c:Value}
abbrev W3 (g g':Heap):Zaa:=#[ee,#[bc,ZNp],(∀ us,#[T6,us]),#[yo,g'.get?]]
def NL {oe:Obj}{us:Zix}{head:Value}{hn:Bool}{Q:ZfV}(fr:Za59)(hl:ZJW)(hf:Zu0)
  (he:ZacW) (hk:ZBr) (hb:ZNr) (hd:ZAT) (h1:1<us.size)
  (h:ZbdN) :
  wpAny M A (do let a <-frameOf env;let pl <-entryPlaceOf L hn;let b <-EntryCells.newEntry head a Zay ZTQ Zay pl;setField #[aj,e] 1 b) Q E s:=by
 have hne:e∉#[MN,ZEx] (·.frame):=fun z=>by
  obtain⟨_,o,ho,nf⟩:=hl.mem z;rw[he]at ho;cases ho;exact Zaeo
 refine Y6 (wpAny_frameOf_fun fr hl hf fun g1 sl1=>Y6 (wpAny_entryPlaceOf fun pl hpl=>?_));unfold EntryCells.newEntry newFields;refine Y6 (aQd ?_ (hpl.sizeOk5 _ _ _ _ _));have e1:ZNt e=Zab oe:=(sl1.2.1 e hne).trans he;have k1:ZBq g1:=fun b o q=>(sl1.2.1 b fun z=>by rw[(hl.mem z).1]at q;cases q).trans ZabL;generalize hob:(#[RC,Za4 "traceback",Za1 Za1a]:Obj)=ob
 have obd:ZNs=Za1 Za1a:=by rw[<-hob]
 have e2:=Y7 (h:=g1) ob e1;refine ZNu e2 hd h1 ?_;have ne:Za7D≠e:=Z1 (Zk e1);have d3:=Obj.data_mapFields hd (·.setIfInBounds 1 Za7E);have e3:=Z3 (Obj.mapFields (·.setIfInBounds 1 Za7E)) e2 (Za7F d3)
 have keep:∀ b o,ZkV->Zaw4->((g1.push ob).update e (Obj.mapFields (·.setIfInBounds 1 Za7E))).get? b=Zig:=fun b o n q=>by
  rw[ZaEL];exact Zmt
 have nr:#[auk,ZkV]:=fun b o q nf z=>by
  rw[z,he]at q;cases q;exact Zaeo
 refine h _ (fun b o q=>keep b o (fun z=>by rw[z,hb]at q;cases q) (k1 b o q)) (Za7H ZaiO) ?_ ZaiO
 ·obtain⟨sl,z⟩:=ZaNy
  exact#[dQ,ZaR2]
 ·refine⟨_,_,g1.objs.size,ob,_,e3,⟨Za7J _ _,QC _ _⟩,d3,by simp[h1],k1.fresh,ne,?_,obd,by first | (simp;done) | (rcases hpl with rfl | ⟨_,_,_,_,_,_,_,rfl⟩<;>simp)⟩
  rw[ZT _ _ (Zw ne)];exact Zm g1 (by rw[<-hob];rfl)
 ·obtain⟨sl,z⟩:=ZaNy
  exact⟨sl,ZaR2⟩
def GP {oe:Obj}{us:Zix}{Q:ZfV}(fr:Za59)(hl:ZJW)(hf:Zu0)
  (he:ZacW) (hk:ZBr) (hb:ZNr) (hd:ZAT) (h1:ZaH6)
  (h:ZbdN):Zbc9:=by
 unfold noteFrame;simp only[hf];refine ZafV;rw[ZzO];exact NL fr hl hf he hk hb hd ZaGa h
def Bh {Q:ZfV}(fr:Za59)(hl:ZJW)(hf:Zu0)(ht:Sj ZaK B e c od Zay)(hk:ZBr)(hb:ZNr)
  (h:#[bdM,ZaHb]):Zbc9:=by
 obtain⟨oe,us,T,oT,ts,he,⟨rfl,rfl⟩,hd,h1,nT,ne,hT,dT,h3⟩:=ht;unfold noteFrame;simp only[hf];refine ZafV;rw[ZaUt];refine Y6 (Z8 hT dT h3 ?_);rw[Y8 (show ¬(#[g8,ZjQ,ZgL L]) by simp[rawInt])];refine Y6 (ZNu hT dT ZaGb ?_);have ot:∀ b,b≠T->(s.heap.update T (Obj.mapFields (·.setIfInBounds 3 Value.none))).get? b=Zax':=ZaKW
 have nr:ZaJP:=fun b o q nf z=>by
  rw[z,hT]at q;cases q;exact ZaSP
 refine NL fr Za7I hf (#[aNe,0].trans he) (fun b o q=>(ot b fun z=>by rw[z,nT]at q;cases q).trans ZabL) hb hd ZaGa #[Nv,h g a1 a2 a3 ZaiO];exact a4 b o (ZaoS q) nf
def zG {l:Zc9}{fl:Value}{Q:ZfV}(hk:ZBr)(hl:Zre B l)(ht:Sj ZaK B e c od fl)
  (h:#[arG,ZbdL,ZaHa,Zao_]):ZaeO:=by
 obtain⟨oe,us,T,oT,ts,he,hc,hd,h1,nT,ne,hT,dT,h3⟩:=ht;have z3:3<ts.size:=ZaGb;have ot:∀ b,b≠T->(s.heap.update T (Obj.mapFields (·.setIfInBounds 3 (#[aKA,0].elim ZjQ fun f=>ZgL f)))).get? b=Zax':=ZaKW
 have nr:ZaJP:=fun b o q nf z=>by
  rw[z,hT]at q;cases q;exact ZaSP
 unfold setFlight;refine ZafV;rw[ZaUt];refine wpAny_setField hT dT z3 (h _ (fun b o q=>(ot b fun z=>by rw[z,nT]at q;cases q).trans ZabL) Za7I ?_ #[aiN,⟨ZaiP,ZaoS q⟩]);exact⟨oe,us,T,_,_,#[aNe,0].trans he,hc,hd,h1,nT,ne,#[a7G,hT,dT],ZaiR dT _,by simp[z3]⟩
def Pj {g g' g'':Heap}(a:W3 g g')(b:g'.UpToSlots g''):g.UpToSlots g'':=fun x o q nf=>by
 obtain⟨sl,z⟩:=a x o q nf;obtain⟨sl2,z2⟩:=b x _ z nf;exact⟨sl2,z2⟩
def ED {oe:Obj}{us:Zix}{Q:ZfV}(fr:Za59)(hf:Zu0)(hk:ZBr)(hl:ZJW)
  (he:ZacW) (hb:ZNr) (hd:ZAT) (h1:ZaH6)
  (hq:#[ao',vg B ZbA e ZaiK ZaiL g]):ZaUP:=by
 unfold leaving;refine Y6 (GP fr hl hf he hk hb hd h1 #[Nv,?_]);exact #[a0h,hq g2 ⟨b1,hb,b2.2.2,b3⟩ ZaRE]
def AQ {Q:ZfV}(fr:Za59)(hf:Zu0)(fl:ZaPH)
  (hq:#[ao',vg B ZbA e c od g]):ZaUP:=by
 obtain⟨f1,f2,f3,f4⟩:=fl;unfold leaving;refine Y6 (Bh fr f3 hf f4 f1 f2 #[Nv,?_]);exact #[a0h,hq g2 ⟨b1,f2,b2.2.2,b3⟩ ZaRE]
def Mo {Q:ZfV}(fr:Za59)(hf:Zu0)(fl:ZaPH)
  (hq:#[ao',Sd B ZEx e c od L g]):Zbc9:=by
 obtain⟨f1,f2,f3,f4⟩:=fl;exact Bh fr f3 hf f4 f1 f2 Zavb
def Uh [395][187](hh:Sd B l e c od L ZaK)[140]:ZaeO:=by
 obtain⟨f1,f2,f3,f4⟩:=hh;exact ZaYO
def EC [395][187](hh:vg B l e c od ZaK)[140]:ZaeO:=by
 obtain⟨f1,f2,f3,f4⟩:=hh;exact ZaYO
#where
noncomputable abbrev Ia:Zb':=[Za4 "ValueError",Za4 "Exception",Za4 ZNw,Za4 ZCd]
abbrev exOb (C t:Addr)[113]:Obj:={ cls:=ZmJ,dict:=od,data:=Za1 #[Zek,Zay,Zay,Zay,Zjw,Zay] }
abbrev oy:Zb'->Zb3
 | Zai _::r=>oy r
 | l=>l == Ia
def yU (self:Value):∀ {l:Zb'},oy l=Zae->refuseLoop self ZaiS l=Zca ()
 | Zai c::r,e=>#[aE,refuseLoop_ref,yU self (l:=r) e]
 | [],e=>by cases e
 | Zayq,e=>#[aE,#[bh,(Zayq:Zb')=Ia,ZMr e],PySem.F.store_ValueError.passes self]
 | Zay::_,e=>ZlK
 | Zes _::_,e=>ZlK
 | Zag _ _::_,e=>ZlK
 | Zaf _ _::_,e=>ZlK
 | .bytes _ _::_,e=>ZlK
 | .float _ _::_,e=>ZlK
 | Zf_ _::_,e=>ZlK
 | ZaiT::_,e=>ZlK
 | .notImplemented::_,e=>ZlK
abbrev ui [1](C fI:Addr):Bool:=match ZiP C with
 | Zab ⟨Za4 ZNx,_,.cls cd,sl⟩=>(match cd.mro,sl.toList with
  | Zai D::bm,[_,_,_,_,#[c3,Zf_,n],_]=>D == C&&n == Zwe&&!cd.hasDel&&PySem.W.tailIn K Ia bm&&PySem.W.nsOkIn K cd.ns&&#[Qs,cd.ns,Zfw] == Zab #[o7,fI]
  | _,_=>false)
 | _=>false
def Jk [7][153]{N:Addr}[75]{n:Str}[313][418](G:h.Ns N mg)(e:#[Qs,N,n]=Zab ZmE):mg n=Zab v:=by
 obtain⟨o,es,ep,ho,hd,hk,hf⟩:=G;unfold PySem.W.nsIn at e;split at e
 ·rename_i oc od es2 n2 sl hl
  have:=X _ _ hl;rw[ho]at this;cases this;cases hd;split at e
  ·rename_i en he
   cases e;rw[<-hf n];unfold nsFind findBy;rw[<-Array.find?_toList,he];rfl
  ·split at e<;>cases e
 ·cases e
def F7 [7][153]{C fI:Addr}[418](q:ZaQI) :
  #[aXv,ZCe nm qn C N bs bm Zwf sn sub ab col dd k0 k1 k2 k3 k5 Zwe,Zap9]:=by
 unfold ui at q;split at q
 ·rename_i dd cd sl ho
  split at q
  ·rename_i D bm k0 k1 k2 k3 n k5 hm hs
   simp only[Z7,aQ7,Bool.not_eq_true']at q;obtain⟨⟨⟨⟨⟨rfl,rfl⟩,hdel⟩,ht⟩,hok⟩,hni⟩:=q;obtain⟨nm,bs,mro,ns,qn,hd,sn,sub,ab,col,del⟩:=cd;dsimp only at hm hdel hok hni;subst hm hdel
   have hsl:sl = #[k0,k1,k2,k3,ZaIj,k5]:=by
    obtain⟨l⟩:=sl;simp only at hs;rw[hs]
   subst hsl;have G:h.Ns ns _:=ZaWy;exact⟨bm,ns,nm,qn,bs,hd,sn,sub,ab,col,dd,k0,k1,k2,k3,k5,_,ZaFX,G,Jk X G hni,ZaMD⟩
  ·cases q
 ·cases q
structure Xo [1][54][409]:Zaa where
 ga:#[bb_,C,ZNy,Za7K]
 gh:#[bb9,C,Za7L]
 sa:Zbcb
 na:Zbcc
 hd:Zbc5
 mb:#[GC,C,ZNw]
 mo:ZaJm
 ov:#[aUY,C]
section
variable {prog:Program}{w:World}{A:Around}{E:ZfE}{s:Shared}{K:PySem.W.Frag}{x dx C:Addr}{mA:Zo6}{f:Str}{v:Value}
def Uz {t:Addr}{Q:ZfV}(X:ZnY)(c:Xo K C f)(hx:ZaMi)
  (h:#[Nb,#[bD,Zet,ZaEt]->#[G7,h'.Ns1,fun y=>#[akS,y=f,v]]->(ZaEl)->Q () ZOh]) :
  #[aMY,f]:=by
 have J:Za5H ZaK x ZVH C Zac:=#[ed,hx,rfl,ZB0];have SF:=PySem.F.store_ValueError;obtain⟨cd,hcd,ho⟩:=#[Wl,c.ov];obtain⟨cd',hcd',hd'⟩:=#[Wl,c.hd]
 have e0:cd'=cd:=by rw[hcd]at hcd';exact #[pe,hcd']
 subst e0;have L0:=J.type (M:=ZaN3);have sub:ZaiU ZvX ZaK (isInstance Zg4 #[kq,ZCd]) Zae:=L0.andThen (PySem.W.looks_mroIn X c.mo);have hm:ZaiU ZvX ZaK #[i8,mroOf,C] cd'.mro:=#[adk,ZaJb];refine #[aMy,c.sa,?_];refine ZaiV SF.slot.plain SF.entry (@PySem.W.check_slot ZvX _ _ Zahb Za7M ZCd ZaiS Zg4 [#[Vt,f],v] [] _ SF.kind SF.split sub (SF.args Zg4 ZaOr v) ?_);rw[PySem.W.osa_eq,refuse_eq];refine Y6 (Y6 #[aWk,hm _ _ _ _ ZSw ?_]);rw[yU _ ho];refine Zg (Y6 #[aWk,Za5Q X c.na _ _ _ _ ZSw ZaFm]);refine #[aVC,ZaJb];rw[hd'];rw[ZzO];have hxs:x≠Zax:=Zq (Zk hx);have hx1:(s.heap.push { cls:=ZiJ,data:=Zdl #[] }).get? x=Zab ZVH:=Y7 _ hx
 show wpAny ZvX A.in1 (alloc { cls:=ZiJ,data:=Zdl #[] } >>= fun dA=>(update x #[aXw,dA]) >>= #[bf,dictMade #[SY,C] x dA]) _ _ _
 refine #[xl,wpAny_alloc',(wpAny_update' hx1 ZkY)];generalize hg:((s.heap.push { cls:=ZiJ,data:=Zdl #[] }).update x #[aXw,Zax])=g1
 have hgd:ZNt Zax=some { cls:=ZiJ,data:=Zdl #[] }:=by
  rw[<-hg,#[aBX,hxs.symm]];exact Za7N rfl rfl
 have hgx:#[bD,ZNt,ZaEt]:=#[c_,hg,ZaGP]
 have hgo:#[ee,Zqf,Zd6,Zaw4]:=#[aiW,#[Nz,hg,#[aBX,n],Zmt]]
 have hnd:#[G7,g1.Ns,ZyR]:=⟨_,#[],_,hgd,rfl,ZaKV,Zm3⟩
 show #[hI,(Builtin.ObjectAttr.storeInDict Zax ZaOr f v)]
 unfold Builtin.ObjectAttr.storeInDict Builtin.ObjectAttr.newKeyGuard;refine #[y3,(Za5M (Za5S hnd) #[a5N,?_])];obtain⟨oD,esD,epD,hoD,hdD,hcD⟩:=Za5O (Za5P f v PySem.Within.nil);refine #[aUz,(#[rB,Zx,List.length_nil,ZQ])];refine Zg (h h' _ ((hs2.2 x hxs).trans hgx) hn2 #[aiW,?_]);exact (hs2.2 b (Zq (Zk q))).trans (hgo b o n q)
def OA {t fI:Addr}{u:Value}{Q:ZfE}(X:ZnY)(c:ZaQI)(hx:ZaMi)
  (h:∀ h' t',#[bD,Zet,(exOb C t' Zac)]->(ZaEl)->Q Zay ZlI) :
  #[vY,#[s8,Za7O,[Zai x,u]]]:=by
 have F:=aXw;obtain⟨bm,N,nm,qn,bs,hdct,sn,sub,ab,col,dd,k0,k1,k2,k3,k5,mN,hC,hN,hni,T⟩:=F7 X c;obtain⟨hp,g,d,tk,os⟩:=s;refine aXL (ZaiV F.init.plain F.initEntry (wpAny_check_init_subT F T hC hx rfl ?_));unfold Builtin.«BaseException.__init__»;dsimp only;rw[ZzP];unfold newTuple Builtin.BaseException.bexcPut;have hx1:=Y7 (h:=hp) { cls:=Zf3,data:=Za2 #[u] } hx;refine Y6 (aQd (Y6 (Y6 (Z8 hx1 rfl rfl (Y6 #[aLT,hx1,rfl,#[iQ,0<6]])))) Za_E);refine aXF (Zg (h _ hp.objs.size ?_ #[aiW,?_]))
 ·exact ZaGP
 ·rw[ZaEL];exact Zmt
#where
#print L2
namespace PySem
open Sem (wp)
section
variable {prog:Program}{w:World}{A:Around}{E:ZfE}{h:Heap}{g:ZXR}{d:Drawn}{t:Nat}{os:OsState}
variable {nm q:Str}{C N:Addr}{bs bm bmB:Zb'}{hdct:Bool}{sn:Zbo}{sub:Zb'}{ab:Bool}{col:#[gh,Zb3]}{dd:Zgj}{k0 k1 k2 k3 k5:Zo5}{B newId initId:String}
def wK (F:Za7Q B ZCf initId bmB)(T:ZaHt){mN:Zo6}{rest:Zb'}{fI:Addr}{oI:Obj}{Q:ZaxD}
  (hC:#[mM,C,(ZCe nm q C N bs bm Zwf sn sub ab col dd k0 k1 k2 k3 k5 ZCf)]) (hn:ZVG) (hi:Zap9) (hfI:ZaOc) (hfc:Zai2)
  (hq:#[a0i,Zcb ZvX A ZaUr (#[aQp,(Za5 (ZfZ ZUF))]) E ZaFh]) (hrest:Zaxu) :
  #[Be,(Builtin.«type.__call__» #[ei,ZaBi]),⟨h,g,d,t,os⟩]:=by
 repeat (first | with_reducible refine Zaca | with_reducible refine wpAny_madeBy_exc hC ?_ | wp_step)
 refine codeAny_call_builtin_code #[a'8,F.quiet] (wpAny_check_new_subT F T hC ?_);refine codeAny_exc_new_subT F T hC ?_ hrest
 show #[hI,_]
 have keep:∀ b o,Zeq->(ZaKS { cls:=ZmJ,data:=Za1 #[ZG6,Zay,Zay,Zay,Zjw,Zay] }).get? b=Zig:=ZapY;have hC1:=Zd4 _ _ hC;have hn1:=hn.keeps Zd4
 have hget:(ZaKS { cls:=ZmJ,data:=Za1 #[ZG6,Zay,Zay,Zay,Zjw,Zay] }).get? Zaw9=some { cls:=ZmJ,data:=Za1 #[ZG6,Zay,Zay,Zay,Zjw,Zay] }:=by heap_get
 have hcC:#[aTZ,ZhS]:=ZaA
 have T1:=T.keeps Zd4;unfold isInstance
 repeat (first | with_reducible refine #[TL,hget] | (with_reducible refine #[azx,hC1];rw[hcC]) | wp_step)
 show #[hI,(ZaiX #[aj,C] _)]
 refine wpAny_typeLookup_tail hC1 hn1 T1 F.mroIs F.init.lookup ?_;rw[hi];refine aQj (Y6 ?_);unfold bindSpecial;refine #[bdP,Zai0,#[bN,Zd4 _ _ hfI,hfc]];rw[ZAk];refine Zg (Y6 (ZN (hq _ Zaw9 ⟨Zd4,Zag5 (aXE _),ZjM,hget,Zag5 (Za _),Y7 _ (Za7N rfl rfl)⟩) (fun r s' hr=>?_) Zm2));obtain⟨rfl,hQ⟩:=hr
 wp_walk
 exact hQ
def FJ (F:Za7Q B ZCf initId bmB)(T:ZaHt){mN:Zo6}{rest:Zb'}{fI:Addr}{oI:Obj}{Q:ZfE}
  (hC:#[mM,C,(ZCe nm q C N bs bm Zwf sn sub ab col dd k0 k1 k2 k3 k5 ZCf)]) (hn:ZVG) (hi:Zap9) (hfI:ZaOc) (hfc:Zai2)
  (hq:#[a0i,Zcb ZvX #[Tr,#[ei,ZaBi]] ZaUr (#[aQp,ZUF]) E ZaFh]) (hrest:Zaxu) :
  #[Be,(Zfs #[aj,C] ZcV),⟨h,g,d,t,os⟩]:=by
 have f1:=tc_lookup;have f2:=tc_bind ZhS;have hT:(⟨h,g,d,t,os⟩:Shared).TypeIs #[aj,C] ZNx:=#[dQ,hC];refine Za8P
 show #[hI,(callAny #[aj,C] _)]
 repeat (any_goals (first | assumption | with_reducible refine Zaca | wp_step))
 refine ZqG;refine codeAny_call_builtin_at #[a'8,ZkE] entry_typeCall (wpAny_check_type_call_sub hC (wK F T hC hn hi hfI hfc (fun h' e hm=>?_) hrest));exact hq h' e hm
def Qb {x:Zx1}{s:Shared}{env:Env}{Q:#[fD,Flow]}(hbase:bm.contains Zazz=Zae)(hh:Zfj)
  (h:#[fF,ZvX,x,(fun v s1=>∃ e t od,v=Zai e/\ZNA C=Zab (ZCe nm q C N bs bm Zwf sn sub ab col dd k0 k1 k2 k3 k5 ZCf)/\ZNA e=Zab (L2.exOb C t od)/\E #[aj,e] s1)]) :
  #[vY,(raiseStmt env #[fb,x] Zac)]:=by
 have hcB:#[aTZ,Zazz]:=by rw[List.contains_cons,ZvQ,Bool.or_true]
 unfold raiseStmt;refine Y6 (ZN h (fun v s1 h1=>?_) Zm2);obtain⟨e,t,od,rfl,hC,he,hE⟩:=h1;obtain⟨hp,g,d,tk,os⟩:=s1;unfold L2.exOb at he
 repeat (first | with_reducible refine #[TL,he] | with_reducible refine Zaca | (with_reducible refine #[azx,hC];rw[hcB]) | wp_step)
 exact wpAny_raiseNew_none hh hE
#where
#print PySem
namespace L2
open PySem PySem.Spec PyProof.Rows
noncomputable abbrev eW [1][54]:Zaa:=ZaZj
def QH [7][153]{C:Addr}[418](q:eW K C) :
  #[aXv,ZCe nm qn C N bs bm Zwf sn sub ab col dd k0 k1 k2 k3 k5 Zwe,mN Zfw = Zac]:=by
 have q:ZaZj:=q;unfold PySem.W.excIn at q;split at q
 ·rename_i dd cd sl ho
  split at q
  ·rename_i C' bm k0 k1 k2 k3 n k5 hm hs
   simp only[Z7,aQ7,Bool.not_eq_true']at q;obtain⟨⟨⟨⟨⟨rfl,rfl⟩,hdel⟩,ht⟩,hok⟩,hni⟩:=q;obtain⟨nm,bs,mro,ns,qn,hd,sn,sub,ab,col,del⟩:=cd;dsimp only at hm hdel hok hni;subst hm hdel
   have hsl:sl = #[k0,k1,k2,k3,ZaIj,k5]:=by
    obtain⟨l⟩:=sl;simp only at hs;rw[hs]
   subst hsl;exact⟨bm,ns,nm,qn,bs,hd,sn,sub,ab,col,dd,k0,k1,k2,k3,k5,_,ZaFX,ZaWy,PySem.W.nsMap_none_of_in X hok hni,ZaMD⟩
  ·cases q
 ·cases q
abbrev F6 (e C:Addr)[113]:HO:=Zvj #[av4,e,od]
def Iz [315]{e C t:Addr}{od:Zgj}(q:#[mM,e,#[FH,od]]):bQ P w H h e (F6 e C od):=⟨⟨t,q⟩,Zk4,fun h1 h2 ⟨t,q⟩ k=>⟨t,k _ q⟩⟩
abbrev CY [386]:Hp:=fun b=>#[ain,b=a,H b]
def sD [206](h:ZHp):CY H a b=H b:=by unfold CY;rw[ZcG]
def Nf [38][41]:CY H a a=Zac:=by unfold CY;rw[ZaB]
def aQ.untrack [295]{φ:Zaz_}[3](e:#[eg,(Zvj φ)]):#[b7,Zad2,s]:=by
 have ne:#[ee,Zdf,(∀ ψ,o≠Zvj ψ),ZHp]:=fun b o q n z=>by rw[z,e]at q;cases q;exact ZYD
 have u:#[aWF,Zad2,ZaK] :=
  ⟨#[a7R,q],#[a7R,#[aiQ,q]],fun b o q n _=>by unfold CY;split<;>first | rfl | exact n,fun b o q _=>#[hX,q],fun b xs q=>by rw[sD (ne b _ q fun ψ z=>nomatch z)];exact q,fun b o u q=>by rw[sD (ne b _ q fun ψ z=>nomatch z)];exact q,fun b ps q=>⟨#[],by rw[sD (ne b _ q fun ψ z=>nomatch z),q];simp⟩⟩
 have hk:oQ Zck X.w Zad2 ZaK:=fun b o q=>by
  by_cases hb:b=a
  ·rw[hb,Nf]at q;cases q
  ·rw[sD hb]at q
   exact (Zbe b o q).stay (fun c v _ r=>r) (fun c r=>by rw[sD (ne c _ r fun ψ z=>nomatch z)];exact r) fun c xs r=>by rw[sD (ne c _ r fun ψ z=>nomatch z)];exact r
 exact I.un (t':=Zb4) u hk
def bQ.has [315][347](x:ZJg):∃ u,#[mL,u]:=by
 cases o with
 | lst xs=>obtain⟨_,_,_,_,e⟩:=x;exact Znn
 | tup xs=>obtain⟨_,_,_,u,e,_⟩:=x;exact⟨u,e⟩
 | dK kvs=>obtain⟨_,_,_,_,o,_,_,e,_⟩:=x;exact ZnE
 | dT kvs=>obtain⟨_,_,_,_,o,_,_,e,_⟩:=x;exact ZnE
 | set S n=>obtain⟨o,_,_,_,e,_⟩:=x;exact ZnE
 | ins C dx fs=>obtain⟨_,_,_,e,_⟩:=x;exact Znn
 | own y=>exact x
 | xd fs=>obtain⟨_,⟨o,_,_,e,_⟩,_⟩:=x;exact ZnE
 | rng lo hi=>obtain⟨_,_,_,e⟩:=x;exact Znn
 | frz ob u=>obtain⟨e,_⟩:=x;exact⟨ob,e⟩
 | tbl ps=>exact Zaxn
 | met f y=>exact Zaxn
 | ext φ=>obtain⟨_,e,_⟩:=x;exact e
abbrev ie [57]:Cf:=fun outer H s E e s'=>∃ (ea C:Addr)(od:Zgj)(H':Hp)(B:Heap),e=Zai ea/\vg B ZbA ea ZhS od ZdD/\ZaYD/\ZaVr/\ZabA/\Zamv /\
 (#[kR,Zd6,ZxT,ZRf])/\(ZaM9)/\E #[aj,C] od H'
def LD {fs:ZeZ}[16]{h h1 h2 B:Heap}(u:#[aPc,h1])[309](hb:#[kR,Zeq,fs,ZRf])(sl:#[g6,ZzY,Zeq,Za9,#[yo,Zvm]])(th:#[ee,ZzY,Zeq,#[Re,Zvm]]):#[aPc,h2]:=by
 have eq:#[kR,Zeq,fs,Zvm b=ZL_ b]:=fun b o e hf=>by
  obtain⟨o',e'⟩:=hb b o e hf;rw[ZaHr,ZaHs]
 refine#[FJ,#[ai3,(eq b o e hf).trans (ZL' b o e n hf hx)],#[ai3,sl b o hf e n],Zag9,u.tups,u.frzs,u.tbls]
 by_cases hf:ZzY
 ·exact th b o hf e
 ·rw[eq b o e hf];exact Zag_ b o e hx
def Ex [9][38]{h1 h2 B:Heap}(x:#[ta,h1])[309](hb:ZaC3):#[ta,h2]:=fun a o e =>
 #[abp,0].stay (fun b u hc q=>by
  have:ZRf:=by
   rcases hc with z | z
   ·rw[z];exact hb a o e
   ·exact hb b _ z
  obtain⟨o',e'⟩:=this;rw[ZaHr]at q;rw[<-q]
  exact ZaHs) (Zyt) ZMk
abbrev J5 [228](E:XK):Zaa:=∀ [18][290][154](ea C t:Addr)[113],Zi6->#[py,ea,#[FH,od]]->ZXz->ZBG ea=Zac->ZaT7->ZlC #[aj,ea] s
section
variable {P:Program}{w:World}{K:PySem.W.Frag}{mg:Zo6}{base:Heap}{N:Zbo}{qual:Str}{sc:Scope}{f:Addr}{cd:Value}{A:Around}{outer:Zc9}{s0:Shared}{H0:Hp}{E:XK}
def dw:J5 (ZLM) E:=by
 intro pins σ H s ea C t od I hx hn hs hE
 let X:Cx:=ZLM
 show ZamN
 have hstk:Za4N:=I.ok.frames
 have frS:Zae0:=by unfold kN;rfl
 let B:Heap:=ZagU ZaK (ea::ZxS)
 have hkb:ZBr:=fun b o q=>#[a4I,q];have inB:#[g6,Zd6,b≠ea,b∉ZxS,#[bc,ZNq]]:=fun b o e ne hf=>Za7S _ e (#[aF,ZaKG ne hf]);have hl:Zre B (ZaS::ZbA):=PySem.W.funFrames_hide I.stack fun env he a hf=>Zd _ (Za5w ⟨env,he,hf⟩);refine ED (s:=s) hstk rfl hkb hl hx (ZagX _ Ze) rfl rfl fun h2 fl ups=>?_;have ltl:ZacQ:=ZLm
 have h0B:Zaow:=fun b o e hf=>by
  obtain⟨o',e'⟩:=I.base.there b o e (by intro z;exact ZRG);refine⟨o',inB b o' e' ZH2 ?_⟩
  ·have hs':ZNB ea=Zac:=hs
   rw[z,hs']at e;cases e
  ·rw[frS]
   intro z;rcases Znj with z | z
   ·exact ZAL
   ·exact hf z
 have trB:ZaC3:=fun b o e=>by
  obtain⟨u,q⟩:=#[de,Zbe].has;exact⟨u,inB b u q (fun z=>by rw[z,hn]at e;cases e) fun z=>by rw[ZahT b z]at e;cases e⟩
 have noEx:Zaqb:=ZRH
 have slot2:Zaqg:=fun b o hf e n=>by
  obtain⟨sl,e1⟩:=ZMe b o e n hf ZatD;obtain⟨_,o2,ho2,hnf⟩:=ZajV
  have e2:o2=o:=by
   have:ZacC:=ho2;rw[e]at this;exact ZsO
  subst e2;obtain⟨sl2,e3⟩:=ZLx;exact ZJO
 refine#[avj,H,fl,Zbe,hkb,fl.1,Zvt,ZBR];refine #[arJ,ZaK,I.base,hkb,fl.1,h0B,?_]
 ·exact ZNC b o hf e n
 ·obtain⟨sl,q⟩:=Zac4
  exact Zk4
def bZ:gH Zg1 (ZLM) E:=by
 intro pins σ H s e s' I hc;obtain⟨ea,C,od,H',B,rfl,fl,un,hok,os,bare,hsB,trB,hE⟩:=hc
 let X:Cx:=ZLM
 show ZamN
 have hstk:Za4N:=I.ok.frames
 have frS:Zae0:=by unfold kN;rfl
 refine ZaZh;have ltl:ZacQ:=ZLm;have noEx:Zaqb:=ZRH
 have h0B:Zaow:=fun b o e hf=>by
  obtain⟨o',e'⟩:=ZaMR;refine ZaQT;rw[frS];intro z;rcases Znj with z | z
  ·exact ZAL
  ·exact hf z
 have unS:ZaQ_:=by
  have u1:ZaQ9:=I.base;refine Za1m
  ·refine Za0H
   rw[frS];intro z;rcases Znj with z | z
   ·exact ZAL
   ·exact hf z
  ·obtain⟨sl,e1⟩:=ZaIH
   obtain⟨sl2,e2⟩:=Za0v;exact ZaDq
  ·obtain⟨o',e'⟩:=ZIV
   exact ZaWV
  ·obtain⟨o',e'⟩:=ZIV
   exact ZaQU
  ·obtain⟨m1,e1⟩:=ZaNx
   obtain⟨m2,e2⟩:=ZaI0;exact Zaf'
 have slot2:Zaqg:=fun b o hf e n=>by
  obtain⟨sl,e1⟩:=ZaJf;obtain⟨_,o2,ho2,hnf⟩:=ZajV
  have e2:o2=o:=by
   have:ZacC:=ho2;rw[e]at this;exact ZsO
  subst e2;obtain⟨sl2,e3⟩:=ZLx;exact ZJO
 refine Za1B;refine ZaSG;obtain⟨sl,q⟩:=Zac4;exact Zk4
#where
def aQ.fresh0 [295][3](hx:a∉Zrd)[463]:ZBG a=Zac:=by
 cases e:ZBG a with
 | none=>rfl
 | some o =>
  obtain⟨o',q⟩:=ZND a o e hx;rw[h]at q;cases q
def aQ.unheld [295][3][463]:Zm7:=by
 cases e:H a with
 | none=>rfl
 | some o =>
  obtain⟨u,q⟩:=(Zbe a o e).has;rw[h]at q;cases q
abbrev U9 [339][54](E:XK):TS:=#[av5,fun _ H1=>E #[aj,C] Zac H1]
def dJ {X:Cx}{C:Addr}{E:XK}{x:Str}{e:Expr}{te:TE}{np cpos pos:Pos}(q:eW X.K C)(hfl:Zad0)(hex:ZYT)(hh:Za4L)(hg:Zeo)(hm:ZI2)(he:Zhk)
  (hdb:Za79:=by decide) (hs:ZK3:=by rfl) :
  #[afF,ZGa,(U9 te C E)]:=by
 intro pins s σ H D I h;obtain⟨bm,N,nm,qn,bs,hdct,sn,sub,ab,col,dd,k0,k1,k2,k3,k5,mN,hC,hN,hni,T⟩:=QH ZBT q
 refine wpAny_Raise_call_subT (C:=C) (nm:=nm) (q:=qn) (N:=N) (bs:=bs) (bm:=bm) (hdct:=hdct) (sn:=sn) (sub:=sub) (ab:=ab) (col:=col) (dd:=dd) (k0:=k0) (k1:=k1) (k2:=k2) (k3:=k3) (k5:=k5)
  aXw (mN:=mN) (Za7T aXw.hasBase) hh (#[bm,hs]) hni (jN I hg hm ZqG hdb)
 rw[hs];refine aQt (aQf Zatu);obtain ⟨v,H1,I1,rv,q1⟩:=zz;refine ZF7;refine⟨rfl,Zapq,ZaFZ,ZaFy,ZaFx,fun h' ea hx=>?_⟩;obtain⟨t,hea,_,_⟩:=hx.there;exact hfl Zav σ H1 #[ai4,h'] ea C t Zac (ZNF (t':=ZrC) Za7U) hea (Za7V ZCg) (Za7W (#[fp,hex]) ZCg) q1
section
variable {X:Cx}{pins:Ze0}{σ:St}{H:Hp}{s:Shared}
def aQ.laidN [347]{h':Heap}[68](hp:ZaDW)[276] :
  ZaIf:=by
 have hn:=I.unheld hp
 have ne:#[atl,ZHp]:=fun b u q z=>by rw[z,hp]at q;cases q
 refine I.un ⟨ZbdC,ZbdD,#[Bv,#[ch,#[tG,ne],n]],ZagS,Zavx,Zavy,fun b ps q=>⟨#[],ZaHT⟩⟩ ZGR
 by_cases hb:b=a
 ·subst hb;rw[ac]at e;cases e;exact new
 ·rw[Zfi]at e
  exact #[aYy,Zbe]
#where
inductive UW [54][409][12]:Zaa
 | mk (ea:Addr)[167](_:vs=[ZW9,Zag g])(_:Zbac)(_:#[aQ,ea,ZnM])(_:∀ dx,#[aZ,dx]->Q ZaH #[h_,ea,ZAU,dx,ZaEv])
def OU {X:Cx}{pl:ZqQ}{W fI:Addr}{x:Str}{e:Expr}{es:Zbv}{t:TA}{np apos pos:Pos}(hg:Zeo)(hm:#[sK,ZW8])(hsp:#[au,ZahR X.K ZW8 ZNy,Zas6])
  (hrd:Za7X X.K W (Za4 ZNx)=Zae) (hfc:#[a7P,Za7Z X.K ZW8 ZTM Zfw]) (ha:Zhl)
  (hdb:Za79:=by decide) (he:ZDL:=by rfl) (hpl:Zame (·.1)=false:=by rfl)
  (ht:#[jX,(ZcW ZaNc Zdu [] pos)]=(do
   let ov <-#[jX,ZGa]
   ZAx
   let (f,first) <-#[apA,Zfw]
   ZapO):=by rfl) :
  PE X (ZcW ZaNc Zdu [] pos) (#[ahk,∃ ea C u,vs=[Zai ea,u]/\H1 ea=Zab ZnM/\ZaOP=Zae/\Q ZaH H1]):=by
 intro pins s σ H Q I h;refine #[auD,(jN I hg hm ?_ hdb)];refine PySem.W.method_cls Zhq hsp (PySem.W.cls_value Zhq hrd hfc rfl ?_);refine PyProof.Rows.callWith_builtin1 (bS (ha pos Zav _ σ H _ ZsS h) ZTy) he hpl;obtain ⟨vs,H1,I1,r1,ea,C,v,ev,hx,c,q1⟩:=zz;subst ev;obtain⟨u1,u2,rfl,ru1,ru2⟩:=r1.two;cases ru1;obtain⟨⟨t0,hx0⟩,_,_⟩:=#[aj6,ea,ZnM,ZNG ea _ hx];refine OA ZME c hx0 fun h' t' q k=>?_
 have e:upd H1 ea ZnM=H1:=by funext b;unfold upd;split<;>rename_i z<;>first | (rw[z,hx]) | rfl
 refine#[dt,ZaH,H1,?_,q1];have:=I1.write (x:=ea) (e:=ea) (o:=ZaVL) (h':=h') (t':=s1.toks) (by rw[hx];exact True.intro) ZhO (fun b o n z=>k b o n z) Zk4 (Iz q)
 rwa [e]at this
def O8 [60]{o value:Expr}{f:Str}{pos pos':Pos}{ta tv:TE}[82] :
  #[aZa,(#[vA,tv,fun y H1=>ta σ H1 fun x H2=>∃ ea C,x=ZW9/\H2 ea=Zab ZnM/\Xo X.K C f/\∀ dx,H2 dx=Zac->#[o',(upd #[g3,ea,ZAU] dx ZaEw)]])]:=by
 intro pins s σ H D I h;refine ZaSn;obtain ⟨y,H1,I1,ry,q⟩:=zz;refine ZaY7;obtain ⟨x,H2,I2,rx,ea,C,ex,hx,c,q2⟩:=zz;subst ex;obtain rfl:ov=Zhr ea:=rx;obtain⟨⟨t0,hx0⟩,_,_⟩:=#[mp,H2,ZvC,ea,ZnM,I2.hok ea _ hx];refine Uz ZMD c hx0 fun h' tk hx1 hns k=>⟨σ,_,?_,q2 Zey I2.fresh⟩;have hd:=I2.fresh
 have ned:Zey≠ea:=fun z=>by rw[z,hx]at hd;cases hd
 have ne1:#[lr,ZaAo->(ZaXx)->b≠ea]:=fun b u q n z=>by rw[z,hx]at q;cases q;exact ZYD
 have ned2:#[Tv,Za71,b≠Zey]:=#[NH,Zq (Zk q)]
 have up:#[lr,ZaAo->(ZaXx)->#[aT,#[g3,ea,(F6 ea C #[fb,Zey])],Zey,ZaEw,b,u]]:=fun b u q n=>by
  rw[ai (ao q hd),ai (ne1 b u q n)];exact q
 refine I2.un ⟨fun b u q n _ _=>k b u (fun z=>by rw[z,hx]at n;cases n) q,fun b u q n _ _=>⟨u.slots,k b u (fun z=>by rw[z,hx]at n;cases n) q⟩,#[Bv,?_],#[agR,?_],fun b xs q=>up b _ q (fun ψ z=>nomatch z),fun b u xs q=>up b _ q (fun ψ z=>nomatch z),fun b ps q=>⟨#[],by rw[up b _ q (fun ψ z=>nomatch z)];simp⟩⟩ #[NH,?_]
 ·rw[ai #[tG,ned2],ai (fun z=>by rw[z,hx]at n;cases n)];exact n
 ·by_cases hb:b=ea
  ·exact#[aR,#[aE,hb,hx1]]
  ·exact⟨u,k b u hb q⟩
 ·by_cases hb:b=Zey
  ·rw[hb,ac]at q
   cases q;rw[hb];refine#[bN,hns,fun g=>?_]
   show n9 (ZahL g [(f,y)]) (#[akS,g=f,_])
   by_cases hgf:g=f
   ·rw[Y9 hgf,hgf];simp only[List.lookup,beq_self_eq_true];exact ry
   ·have hb:#[oU,g,f]:=Ziy hgf
    rw[Y8 hgf];simp only[List.lookup,hb];trivial
  ·rw[Zfi]at q
   by_cases hb2:b=ea
   ·rw[hb2,ac]at q
    cases q;rw[hb2];exact Iz hx1
   ·rw[ai hb2]at q
    refine #[tG,I2.hok].stay (ZaKE) (fun c r=>up c _ r fun ψ z=>nomatch z) fun c xs r=>up c _ r fun ψ z=>nomatch z
    rcases hc with z | z
    ·rw[z];exact hb2
    ·exact ne1 c _ z fun ψ z=>nomatch z
abbrev LB [339][54][409](E:XK):TS:=#[av5,#[M4,∃ g:Int,v=Zs2/\Zbac/\∀ dx,ZZ2->E #[aj,C] ZsM #[eI,dx,ZaEv]]]
def MQ {X:Cx}{C fI:Addr}{k:Nat}{fd:FuncData}{E:XK}{x f sl gp:Str}{e:Expr}{te:TE}{np cpos pos:Pos}(c:ZaOP=Zae)(hfn:#[ai1,X.K,Zap8])
  (G:aV Zck X.w X.K ZcJ Zfq dR k fI fd [sl,gp] (UW C f)) (hr:ZJk) (hb:iB X.K fd [sl,gp] [])
  (hfl:Zad0) (hex:ZYT) (hh:Za4L) (hg:Zeo) (hm:ZI2) (he:Zhk)
  (hdb:Za79:=by decide) (hs:ZK3:=by rfl) :
  #[afF,ZGa,(LB te C f E)]:=by
 intro pins s σ H D I h;obtain⟨bm,N,nm,qn,bs,hdct,sn,sub,ab,col,dd,k0,k1,k2,k3,k5,mN,hC,hN,hni,T⟩:=F7 ZBT c;have F:=aXw;have hbase:=Za7T F.hasBase;rw[arm_exec_Raise];refine Y6 (aQD (Qb (C:=C) (nm:=nm) (q:=qn) (N:=N) (bs:=bs) (bm:=bm) (hdct:=Zwf) (sn:=sn) (sub:=sub) (ab:=ab) (col:=col) (dd:=dd) (k0:=k0) (k1:=k1) (k2:=k2) (k3:=k3) (k5:=k5) (newId:=Zwe) ZvQ hh (Y6 (ZN (wpAny_Call_ofName (jN I hg hm ?_ hdb)) (fun v s3 h3=>#[k_,aQD,h3]) Zm2))));rw[hs];unfold callWith;refine Y6 (aQj (aQt (aQf (bS ZkW fun u s1 ⟨v,H1,I1,rv,g,ev,hgb,q1⟩=>aQS (Y6 (aQD ?_))))));subst ev;dsimp only;have hC1:=ZaFZ;have hN1:=ZaFy;have T1:=ZaFx
 have hf1:∃ oI,ZNA fI=Zab oI/\Zai2:=by
  unfold PySem.W.typeIn at hfn;obtain⟨o,ho,hc⟩:=ZM0 hfn;exact⟨o,ZME _ _ ho,hc⟩
 obtain⟨oI,hfI,hfc⟩:=hf1;obtain⟨hp,gs,d,tk,os⟩:=s1;refine Y6 (wpAny_keeperOf_exc hC1 ?_);refine Y6 (FJ (rest:=[u]) F T1 hC1 hN1 hni hfI hfc (fun h' ea hx=>?_) Zapq);obtain⟨t0,hea,_,_⟩:=hx.there;have hfr:=Za7W (#[fp,hex]) ZCg;have T8:=Za7V ZCg;have I2:#[b7,#[eI,ea,ZnM],⟨h',gs,d,tk,os⟩]:=I1.laidN (a:=ea) (o:=ZaVL) (h':=h') (t':=tk) Za7U ZCg (Iz hea);have r2:bF ZaSS ZJ8:=#[VX,rfl,rv]
 refine aXL (aQY (G.run _ X.stack _ _ #[ei,ZJ8] ZJ8 ZaSS (fun v H3=>v=ZaH/\∃ dx,ZZ2/\dx≠ea/\H3=#[aT',(upd #[eI,ea,ZnM] ea ZAU)]) E0 (hr.make C [u] [])
  #[aGH,[u]] (hb _ ZJ8 ZMD rfl) r2 #[p3,ea,g,hgb,ac,fun dx hdx=>⟨rfl,dx,?_,?_,rfl⟩]) fun r s' hq'=>?_)
 ·by_cases z:dx=ea
  ·rw[z,ac]at hdx;cases hdx
  ·rwa [ZtX]at hdx
 ·intro z;rw[z,ac]at hdx;cases hdx
 cases r with
 | error e=>exact hq'.elim
 | ok fl =>
  cases fl with
  | ret u2 =>
   obtain⟨v,H3,I3,rv3,ev,dx,hdx,hne,eH⟩:=Za95;subst ev;refine⟨rv3,Y6 (aQj (wpAny_point ZkY))⟩
   have h3:H3 ea=Zab ZAU:=by rw[eH,ZYv,ac]
   obtain⟨⟨t3,hx3⟩,_,_⟩:=#[mp,H3,ZdD,ea,ZAU,I3.hok ea _ h3];have I4:=I3.untrack (φ:=#[av4,ea,ZsM]) h3
   have e4:CY H3 ea=#[aT',H1]:=by
    funext b
    unfold CY
    by_cases hb:b=ea
    ·rw[ZjB,hb,ZYv,T8]
    ·rw[Znk,eH]
     by_cases hd:b=dx
     ·rw[hd,ac,ac]
     ·rw[ai hd,Zfi,Zfi,ai hd]
   rw[e4]at I4;exact⟨ea,t3,ZW4,rfl,I4.bk _ _ hC,hx3,hfl Zav σ _ s' ea C t3 ZsM I4 hx3 #[bj,ZYv,T8] hfr (q1 dx hdx)⟩
  | next=>exact hq'.elim
  | brk=>exact hq'.elim
  | cont=>exact hq'.elim
abbrev Tn [197][32][362]:Zaa:=ZXz/\∀ h2,#[VJ,h2]->Za74 h2->#[i5,#[Ch,h2]]
def Q1 {X:Cx}{pins:Ze0}{σ:St}{H H':Hp}{s s':Shared}{ea C:Addr}{od:Zgj}{B:Heap}(I:Zi6)(fl:ZaHo)(un:Un (kN ZdC) [] H H' ZaK ZdD)(hok:ZaFr)(os:ZabA)(bare:Zamv)
  (hsB:#[kR,Zd6,ZxS,ZRf]) (trB:ZaM9):Tn X Zav σ H' ea C od B s':=by
 refine#[m1,ZasB]
 ·cases e:H' ea with
  | none=>rfl
  | some o =>
   obtain⟨o',q⟩:=trB ea o e;rw[fl.2.1]at q;cases q
 have slot2:#[g6,ZzZ,Zd6,Za9,#[yo,Zvm]]:=fun b o hf e n=>by
  obtain⟨sl,e1⟩:=un.slot b o e n hf Za7;obtain⟨_,o2,ho2,hnf⟩:=Za75 hf
  have e2:o2=o:=by
   have:Zd5 b=Zab o2:=ho2;rw[e]at this;exact ZsO
  subst e2;obtain⟨sl2,e3⟩:=ZLx;exact ZJO
 refine I.call' (ch:=[]) (s':=#[Ch,h2]) os ?_ (Ex hok fl.1 fl2.1 trB) bare ZaKX;refine #[au8,un,hsB];obtain⟨sl,q⟩:=ZNC b o hf e (ZahT b hf);exact Zk4
abbrev Cx.marked [228](ea:Addr)(oe:Obj):Cx:={ X with A:=X.A.mark (Zab (Zai ea)),calm:=Zaz,xe:=Zv6,pn:=(ea,oe)::X.pn }
def aQ.marked [60][4][363]{us:Zix}[3](he:#[py,ea,oe])(hd:ZAT)(hn:ZXz):Za8q:=by
 refine⟨⟨I.ok.mod,I.ok.kind,I.ok.glob,I.ok.blt,I.ok.above,I.ok.inj,I.ok.has,I.ok.cab,fun z=>(by cases z),I.ok.frames,I.ok.stk,I.ok.exf,I.ok.bs,I.ok.bsz,I.ok.noex,I.ok.exfs,I.ok.funs,I.ok.frf⟩,I.os,I.bare,I.base,I.loc,I.cell,I.free,I.freeC,ZpP,I.hok,I.len⟩;rcases Zcw (#[anJ,ZaU4]) with z | z
 ·subst z
  refine⟨he,hn,ZcM,ZcM,fun v z=>?_⟩
  ·obtain⟨m,⟨o,es,ep,ho,hdd,_⟩,_⟩:=I.loc
   have z:ea=Zd3:=z;rw[<-z,he]at ho;cases ho;rw[hd]at hdd;cases hdd
  ·obtain⟨_,o,ho,nf⟩:=I.funs.mem z
   rw[he]at ho;cases ho;exact Zaeo
  ·have z:oe.data=Ze2 v:=z
   rw[hd]at z;cases z
 ·exact Zlv p z
def aQ.unmarked [60][4][363](ok:X.Ok)(I:Za8q):Zi6 :=
 #[LO,ok,#[lu,Zlv p (#[bh,p∈ZaU4,Zd _ hp])]]
def SP.unmarked [211][408][363](ok:X.Ok)(h:#[LF,Za8p]):#[LF,X]:=by
 cases f with
 | next=>obtain⟨σ',H',I,q⟩:=h;exact Za77
 | brk=>obtain⟨σ',H',I,q⟩:=h;exact Za77
 | cont=>obtain⟨σ',H',I,q⟩:=h;exact Za77
 | ret u=>obtain⟨v,σ',H',I,r,q⟩:=h;exact#[af_,Za76 ok]
abbrev W2 [228](hdl:ZW6)(th:Zaet):Zaa:=∀ [18][290](D:nZ)[362][138],Za1z->#[VJ,h]->Za74 h->th ZhS od D σ H ->
 #[w7,(handleBy #[aj,ea] ZaS hdl),Zaum,#[Ch,h]]
def gA {X:Cx}{y:Str}{C1:Addr}{b0:Stmt}{suite:Zih}{t1:TS}{th:Zaet}{np pos:Pos}{rest:ZW6}(hg:Gl X y)(hm:ZcJ y=Zab ZawN)(hs:∀ ea oe,FK Za8p ZaF1 t1)(hr:W2 X ZcV th)
  (hdb:#[oU,y,#[ez,Za78]]:=by decide):W2 X #[sB,.ExceptHandler (Zab (ZeT y np)) Zac ZaF1 pos] (fun cls od D σ H=>∃ b,Za7_ X.K cls ZawN=Zab b/\#[eM,b,t1 D σ H,th cls od D σ H]):=by
 intro pins σ H D ea C od B s' h ld fl ups ht;obtain⟨b,hb,ht⟩:=ht;have I:=ld.2 h fl ups;obtain⟨ob,us,hob,hobc,hobd,hobf⟩:=fl.obj;have Im:=I.marked (ea:=ea) hob hobf ld.1
 have LT:#[aSi,typeOf,ea,ZhS]:=by
  rw[<-hobc];exact #[adk,(Za8n hob)]
 refine wpAny_handleBy_cons (codeAny_handlers_test (jN (X:=Za8o ea ob) Im hg hm ?_ hdb)) (by intro z;cases z);refine (PySem.W.exm_one (K:=X.K) Zhq LT hb).here ?_
 cases b with
 | true =>
  rw[ZaB]at ht;refine codeAny_handlers_suite ?_;refine EC fl fun h6 fl6 ups6=>?_;obtain⟨oe,us6,hoe,hoec,hoed,hoef⟩:=fl6.obj;have I6:=(ld.2 h6 fl6 (ups.trans ups6)).marked (ea:=ea) hoe hoef ld.1;exact ZN (hs ea oe Zav _ σ H D I6 ht) (fun f s2 hq=>hq.unmarked I.ok) #[jR,Zai5]
 | false =>
  rw[Zd0]at ht;exact hr Zav σ H D ea C od B s' h ld fl ups ht
def UK [60]:W2 X [] (fun _ _ _ _ _=>ZiM):=fun _ _ _ _ _ _ _ _ _ _ _ _ _ h=>ZMl
def dL.okX {P:Program}{w:World}{K:PySem.W.Frag}{mg:Zo6}{base:Heap}{x qual:Str}{st:Stmt}{f:Addr}{fd:FuncData}{N ps:Zbo}{k:Nat}{sp:Sp}(F:ZAD)(S:Zaft)(len:ZOe)
  (hbody:∀ (cdv:Value)(A:Around)(outer:Zc9)(s:Shared)(H:Hp)(vs:Zbr)(Q:VK)(E:XK),ZaJe->Zjn ->
   #[aW7,cdv]):ZaFp:=by
 obtain⟨oc,od,kV,doc,pm,an,cdv,ct,osl,rfl,lk,hcd⟩:=F.ex;exact #[agq,Za1J]
abbrev PJ [406]:Zaa:=∀ (out:Str)(m:Nat)[2](Q:VK),out.length<=ZbF*m->m+Zdm<=100->Zi6->t σ H (ZaK1)->#[QQ,(ZNI out (Za8r es ZaS))]
def lZ [60]:PJ X [] qg:=by
 intro out m pins s σ H Q ho hm I h;refine Za8s ⟨Zaf out,H,Zg9,Za8,h out⟩ ?_;exact #[aX4,ho,(#[a8u,m<=100])]
abbrev tJ [339](t:TA):TA:=#[ahh,∃ y:Str,x=Ztf/\Zas5/\t σ H1 Q]
def cG [60]{e:Expr}[444]{te:TE}{t:TA}[106](h:PJ X es t):PJ X Zdu (tJ te t):=by
 intro out m pins s σ H Q ho hm I hq
 show #[kA,(ZNI out (#[jX,e]::Za8r es ZaS))]
 refine #[aDA,#[kn,he,s,H,I,hq]];obtain ⟨x,H1,I1,rx,y,ex,hy,q1⟩:=zz;subst ex;obtain⟨tk,rfl⟩:=rx
 have hl:#[bd,(out++y),ZbF*Znl]:=#[gN,Zai6]
 rw[Zx]at hm;refine#[c7,#[aX4,hl,#[St,m+1<=100]]];exact h (out++y) Znl Zav s1 σ H1 Q hl Zah I1 q1
abbrev YT (t:TA):TE:=#[ahe,t,ZaK1]
def jh [60]{e1 e2:Expr}[444]{t:TA}[156](h:PJ X ZafO t)(hn:#[bd,ZafO,100]:=by decide):#[acH,ZafO,(YT t)]:=by
 intro pins s σ H Q I hq;refine ZX_;exact h ZiS 0 Zav s σ H Q (#[asC,0<=_]) (by simpa using hn) I hq
abbrev YS [339]:TE:=#[aPw,ZaXy]
def kQ [60][190][156][106]:#[a0q,YS]:=by
 intro pins s σ H Q I h;refine Zbd4;obtain ⟨x,H1,I1,rx,i,ex,hi,q⟩:=zz;subst ex;obtain⟨tk,rfl⟩:=rx
 have hd:ZKz:=by
  by_cases h0:ZahJ
  ·rw[h0];decide
  ·exact Za9k
 refine #[ate,⟨Zaf (ZlL i),H1,ZXa,Za8,q _ ?_⟩];have:=Zagi
 show ZZP
 rw[PySem.ofString_length]
 lia
#print L2
namespace Wz
open PySem L2
abbrev aW [5](CX:Cf)[440][360]:Zaa :=
 #[NJ,ZaoQ/\Qo K C m f/\#[EB,ps]]
abbrev dC [5][189][360]:Zaa :=
 #[bcl,#[g2,k,ps,sp]]
section
variable {X:Cx}{CX:Cf}{k:Nat}{C:Addr}{ps:Zbo}{sp:Sp}{E:XK}{m x:Str}{p pos apos:Pos}{e o:Expr}{es:Zbv}{ta:TE}{t:TA}
def dm {pl:ZqQ}(M:ZaYq)(he:ZAw)(c:Zq1)(hr:ZjD)(hx:Ziv)(ha:Zhl)
  (hst:ZDL:=by rfl) (hpl:Zame (·.1)=false:=by rfl)
  (ht:ZaHd=(do
   let ov <-ZxH
   ZAx
   let (f,first) <-ZapB
   ZapO):=by rfl) :
  PE X (ZcW ZBj Zdu [] pos) (Ly C m sp [] E ta t):=by
 obtain⟨f,fd,G,hm,hb⟩:=M;exact Rz he c hm G hr hb Zan hx ha hst hpl ht
def rn {pl:ZqQ}(M:ZaYq)(he:ZAw)(c:Zq1)(hr:ZjD)(hx:Ziv)
  (ht:ZaHc=(do
   let ov <-ZxH
   ZAx
   let (f,first) <-ZapB
   ZaFv):=by rfl) :
  PE X (ZcW ZBj [] [] pos) (Ly C m sp [] E ta qg):=by
 obtain⟨f,fd,G,hm,hb⟩:=M;exact O2 he c hm G hr hb Zan hx ht
def ka (M:#[aYU,dC])(hr:ZjD)(hg:Zeo)(hx:gH ZaxT X E)(ha:Zhl)
  (hdb:Za79:=by decide) (he:ZDL:=by rfl) (hpl:Zame (·.1)=false:=by rfl) :
  #[xb,(PX sp [] E t)]:=by
 obtain⟨f,fd,G,hm,hk,hb⟩:=M;exact #[a1f,hx]
#where
inductive aX where
 | come [167] | go [167] | exch [181]
 deriving DecidableEq
abbrev iU:aX->HO
 | ZhA=>ZcR Zy'
 | Znp=>ZcR [Zaf Zhu,Zag g]
 | Zoj=>ZcR [Zaf ZcQ,ZkL,ZmN]
structure dM where
 worn:ZeF
 hold:ZeF
 circ:Zil
 deeds:Zcv
abbrev dQ:ZeZ->Zil->Zip
 | a::as,ZcI=>ZaRV::dQ as xs
 | _,_=>[]
abbrev uo [199]:Zip:=ZvR fun k=>(#[hF,k],Ze3 Zae)
structure HA where
 dx:Addr
 w:Addr
 h:Addr
 c:Addr
 d:Addr
 cs:ZeZ
abbrev HA.fp (A:HA):ZeZ:=A.w::A.h::A.c::A.d::ZlM
abbrev bL (A:HA):ZoZ:=bW Zj6 #[aj,A.d] (bW Zj7 #[aj,A.c] (bW ZlN #[aj,A.h] #[Zz,Zob,A.w]))
def s1:#[ZA,ZlN]:=Zal
def s2:#[ZA,Zj7]:=Zal
def s3:#[ZA,Zj6]:=Zal
def s4:#[aAF,Zj7]:=Zal
def s5:#[aAF,Zj6]:=Zal
def s6:#[je,Zj7,Zj6]:=Zal
def Mb (A:HA):#[SC,Zob,A.w]:=by
 unfold bL;rw[aE,Y8 s3,aE,Y8 s2,aE,Y8 s1,aE,ZaB]
def VX (A:HA):#[SC,ZlN,A.h]:=by
 unfold bL;rw[aE,Y8 s5,aE,Y8 s4,aE,ZaB]
def T4 (A:HA):#[SC,Zj7,A.c]:=by
 unfold bL;rw[aE,Y8 s6,aE,ZaB]
def T5 (A:HA):#[SC,Zj6,A.d]:=by
 unfold bL;rw[aE,ZaB]
def So (A:HA){m:Str}(h1:ZZh)(h2:ZZg)(h3:ZZf)(h4:ZZe):ZaDy:=by
 unfold bL;rw[aE,Y8 h4,aE,Y8 h3,aE,Zt0,aE,ZtZ];rfl
def Ic (A:HA){m:Str}(h:ZZh/\ZZg/\ZZf/\ZZe):ZaDy:=So A h.1 ZHE h.2.2.1 h.2.2.2
abbrev i8 [32][394][170]:Zaa:=∃ as:ZeZ,#[sE,ZDI]/\ZaDF
structure bq [54][32][26]:Zaa where
 ob:#[ff,(Zfo C ZbG ZSB)]
 nd:A.fp.Nodup
 w:#[aQ,A.w,Ztj]
 h:#[aQ,A.h,Zayv]
 c:#[aQ,A.c,#[Td,ZlM]]
 cs:Za0 (#[E7,x,Zaqd]) ZlM Zd_
 d:i8 H A.d Zlp
abbrev Kp [435][316]:Zaa:=#[kR,Zdf,fp,ZfO]
def Kp.of_same [118][16][110]:Zaan:=#[ajT,s]
def Kp.trans {fp fp':ZeZ}[265](a:ZaC5)(b:Kp fp' H1 H2)(h:∀ x∈fp',x∈fp\/#[aZ,x]):ZaGq:=fun x o e n =>
 b x o Zauo fun z=>(h x z).elim n fun y=>by rw[e]at y;cases y
def Ao [16]{d:Addr}[171](r:i8 H d ds)[110]:i8 H' d ds:=by
 obtain⟨as,h,p⟩:=r;exact ZaP_
def bq.mono [196][111][254][110]:Zade :=
 ⟨ZH9,x.nd,s _ _ x.w,Zazh,s _ _ x.c,#[vq,x.cs,#[ai8,ZTH]],Ao x.d s⟩
def bq.kept [196][111][118][254](k:Zaan)(hp:p∉fp)(hd:#[NK,b∉fp])[266]:Zade:=by
 have m:#[NK,ZaI3]:=#[NL,k b o e #[c',hd]];refine⟨k _ _ ZiT hp,x.nd,#[K',x.w],#[K',x.h],#[K',x.c],?_,?_⟩
 ·have:∀ [445][232],(#[NM,ZYb])->Zaqe->ZaQb:=by
   intro cs ci hc hp
   induction hp with
   | nil=>exact Zan
   | cons e _ ih=>exact ZaC (m _ (hc _ Ze) _ e) (ih #[cX,hc b Zz2])
  exact Zcl _ _ (#[cX,by simp[HA.fp,hb]]) x.cs
 ·obtain⟨as,h,hp⟩:=x.d
  refine⟨as,#[K',h],#[vq,hp,#[ai8,?_]]⟩
  cases q with
  | come g=>exact ZaqA
  | go g=>exact ZaqA
  | exch a b=>exact ZaqA
abbrev jt [417]:ZeF:=l.filter fun p=>#[lx,p.1≠g]
def NI [417]:Aq ZIB Zsr=dk (jt l g):=by
 unfold Aq dk jt;rw[List.filter_map]
 congr 1
 apply List.filter_congr
 intro p _;simp[Function.comp]
def oq [14](g h:Int):ZaP (jt l g) h=#[ain,h=g,Zacb]:=by
 induction l with
 | nil=>simp[jt,look]
 | cons p r ih =>
  unfold jt at ih ⊢;rw[aQC]
  by_cases e:Zm9
  ·rw[Y8 (ZMZ),ih]
   by_cases hh:h=g
   ·simp[hh]
   ·have:ZaIr:=#[aF,hh (ZaiE e)]
    simp[hh,look,this]
  ·rw[Y9 (ZMZ)]
   show ZaJs
   rw[ih]
   by_cases hh:h=g
   ·subst hh;simp[e]
   ·simp[hh,look]
def xu [168]{g h:Int}:h∈aR (jt l g)↔h∈aR l/\h≠g:=by
 rw[<-dy,oq,<-dy]
 by_cases e:h=g<;>simp[e]
inductive Eb where
 | done | already | masked | same | met | noguest [167]
 deriving DecidableEq
abbrev tH:Zil->Int->Zbp
 | [],_=>[]
 | x::r,g=>#[cx,x.1=g,x.2,tH r g]
abbrev o9 [163][181]:Bool:=#[lx,b∈tH c a]
abbrev qc [396]:Zbp:=if ZUU then ks else ks++[b]
abbrev dU:Zil->Int->Int->Zil
 | [],a,b=>[(a,[b])]
 | x::r,a,b=>#[cx,ZJs,(x.1,qc x.2 b)::r,x::dU r a b]
abbrev bf [179]:aX->Eb
 | ZhA=>#[aQj,ZaI]
 | Znp=>match ZqU with | none=>ZzK | ZUC=>#[Wu,m=g,Zwg]
 | Zoj=>match ZAM with
  | none=>ZYY
  | ZtV=>match ZJS with
   | none=>ZX'
   | ZtV=>#[aS4,ZaE6]
abbrev after [179]:aX->dM
 | ZhA=>#[Ue,put ZaI g g,put Zdn g g,Zd_,ZhA]
 | Znp=>#[Ue,jt ZaI g,jt Zdn g,Zd_,Znp]
 | Zoj=>Zaqt
abbrev names:aX->Zbp
 | ZhA=>[g]
 | Znp=>[g]
 | Zoj=>ZAV
abbrev bK [167]:Zaa:=Zbac
structure FO [179]:Zaa where
 w:ZlO<ZbF
 h:ZCi<ZbF
 c:ZrD<ZbF
 k:#[NN,#[aW,x.2]<ZbF]
 d:Zwh<ZbF
structure HX where
 C:Addr
 cW:Addr
 cA:Addr
 cM:Addr
 cS:Addr
 cT:Addr
 cN:Addr
 fN:Addr
abbrev lR [419](E:XK)[32]:Eb->Zaa
 | Za5=>False
 | Zoc=>#[w9,Zd']
 | Zwg=>#[w9,Zfx]
 | Zod=>#[w9,Zea]
 | Zlq=>#[w9,Zf']
 | ZzK=>ZaXz
abbrev Tr [316]:Zaa:=#[tk,∃ o',#[ph,o']]
def Tr.refl [38]:Tr H H:=fun _ o e=>ZnE
def Tr.trans [265](a:ZIY)(b:Tr H1 H2):Tr H H2:=fun x o e=>let ⟨o',e'⟩:=a x o e;b x o' e'
def Tr.of_same [16][110]:Zuj:=#[dG,#[hX,s b o e]]
def Tr.upd {H H1:Hp}(a:ZIY)(x:Addr)(u:HO):Tr H #[eI,x,u]:=fun b o e=>by
 by_cases h:b=x
 ·exact⟨u,#[jo,h]⟩
 ·obtain⟨o',e'⟩:=a b o e
  exact#[tQ,o',ai h,e']
def Tr.free [16](a:Zuj)[45](h:Zpa):Za9:=by
 cases e:H b with
 | none=>rfl
 | some o=>obtain⟨o',e'⟩:=a b o e;rw[h]at e';cases e'
abbrev C5 [54][32][158](A:HA)(st':dM)(H':Hp):Zaa:=∃ A':HA,bq C H' p A' st'/\Kp ZlP H H'/\(∀ b∈A'.fp,b∈ZlP\/Za9)/\Zuj
abbrev D8 [419][32][26][464](Q:VK)(E:XK):Zaa :=
 #[Uv,ZjG,ZaSE,(bf st d)]
inductive PB [397]:Zaa
 | mk (p dx:Addr)[63](_:#[ff,ZAm])(_:∀ (A:HA)(H':Hp),#[dT,bq C H' p A Zlg,(#[ef,Zdf,p,ZfO]),(#[NK,Za9]),ZaH])
inductive Pr [419][55]:Zaa
 | mk [342][370](_:ZdP)(_:#[agy,Zjm])
inductive JN [419][55]:Zaa
 | mk [117][370](_:bK a)(_:bK b)(_:#[agy,ZGf])
inductive Fw [397]:Zaa
 | mk [26](g m:Int)(_:vs=[Zcs,Zs2,Zag m])[200](_:ZlO<ZbB)(_:ZCi<ZbB)(_:Q ZaH #[h_,A.w,#[bW,(put ZaI g m)],A.h,#[bW,(put Zdn m g)]])
inductive wD [419][55]:Zaa
 | mk (p:Addr) (A:HA) (st:dM) (g:Int) (h_0:ZaMm) (h_1:Zadg) (h_2:ZdP) (h_3:match ZqU with
 | ZUC=>#[ue,m]
 | none=>lR c E H Zayj):wD c vs H Q E
inductive Hw [397]:Zaa
 | mk [26][63][200](_:ZaaH)(_:#[jK,ZTg])
inductive SR [397]:Zaa
 | mk [117][200](_:#[w_,(.bl (o9 Zd_ a b))])
inductive SK [397]:Zaa
 | mk [117][200](_:ZaB3)(_:(#[NN,ZaEc]))(_:#[gO,C5 C H p A { st with circ:=#[TU,dU] } H'->Zxu])
structure HT [404][419]:Zaa where
 cl:HY K c.C
 nW:fA K c.C Zob
 nH:fA K c.C ZlN
 nC:fA K c.C Zj7
 nD:fA K c.C Zj6
 mC:#[b1,ZNO,c.C]
 eA:eW K Zd'
 eM:eW K Zfx
 eS:eW K Zea
 eT:eW K Zf'
 mA:#[b1,ZNP,Zd']
 mM:#[b1,ZNQ,Zfx]
 mS:#[b1,ZCj,Zea]
 mT:#[b1,ZNR,Zf']
 mN:#[b1,Zwi,Zga]
 mW:#[b1,Za8v,c.cW]
 eN:ui K Zga Zwj=Zae
 gN:Xo K Zga Ze6
 tN:#[ai1,K,#[aj,Zwj]]
 wS:#[aUg,c.cW]
 wR:#[a7Y,c.cW]
 wI:#[a70,c.cW]
structure HM [1][419]:Zaa where
 aa:#[a8b,Zd',Zd']
 ma:#[a8a,Zfx,Zd']
 mm:#[a8b,Zfx,Zfx]
 sa:#[a8a,Zea,Zd']
 sm:#[a8a,Zea,Zfx]
 ss:#[a8b,Zea,Zea]
 ta:#[a8f,Zd']
 tm:#[a8f,Zfx]
 ts:#[a8f,Zea]
 tt:#[a8b,Zf',Zf']
 na:#[a8e,Zd']
 nm:#[a8e,Zfx]
 ns:#[a8e,Zea]
 nt:#[a8e,Zf']
 nn:#[a8b,Zga,Zga]
abbrev Ac [5][419]:Zaa:=#[a8w,aV P w K mg ZaO dR 1 Zwj fd Zl' ZaTC/\#[EB,Zl']]
def OO {X:Cx}{c:HX}{E:XK}{e:Expr}{te:TE}{np cpos pos:Pos}(N:#[LJ,Ac,c])(U:ZaOQ)(hr:ZJj)(hfl:Zad0)(hex:ZYT)(hh:Za4L)(hg:Gl X Zwi)(he:Zhk)
  (hs:ZK3:=by rfl):#[afF,(ZeT Zwi np),(LB te Zga Ze6 E)]:=by
 obtain⟨fd,G,hb⟩:=N;exact MQ U.eN U.tN G hr hb hfl hex hh hg U.mN he ZaY hs
section
variable {C:Addr}{H:Hp}{p t:Addr}{A:HA}{st:dM}
structure J4 (A:HA):Zaa where
 wh:A.w≠A.h
 wc:A.w≠A.c
 wd:A.w≠A.d
 hc:A.h≠A.c
 hd:A.h≠A.d
 cd:A.c≠A.d
 w:A.w∉ZlM
 h:A.h∉ZlM
 c:A.c∉ZlM
 d:A.d∉ZlM
 cs:A.cs.Nodup
def bq.apart [104]:J4 A:=by
 have:=S.nd;simp only[HA.fp,ZW,Zi,not_or]at this;obtain⟨⟨a1,a2,a3,a4⟩,⟨b1,b2,b3⟩,⟨c1,c2⟩,d1,e⟩:=this;exact⟨a1,a2,a3,b1,b2,c1,a4,b3,c2,d1,e⟩
def bq.pne [104]:p∉ZlP:=by
 have n1:p≠A.w:=dD S.ob S.w (by intro z;cases z);have n2:p≠A.h:=dD S.ob S.h (by intro z;cases z);have n3:p≠A.c:=dD S.ob S.c (by intro z;cases z);obtain⟨as,hd,_⟩:=S.d;have n4:p≠A.d:=dD S.ob hd (by intro z;cases z)
 have n5:p∉ZlM:=fun z=>by
  obtain⟨i,hi,e⟩:=aQX z;obtain⟨b,_,q⟩:=ZaoO;rw[e,S.ob]at q;cases q
 simp[HA.fp,n1,n2,n3,n4,n5]
def vm [16]:∀ [35],Zaqe->(#[NM,ZaI3])->ZaQb:=by
 intro cs ci hp k
 induction hp with
 | nil=>exact Zan
 | cons e _ ih=>exact ZaC (k _ Ze _ e) (ih #[cX,k b Zz2])
def jU (x:aX):∃ xs,iU x=ZcR xs:=by cases x<;>exact Za8
def bq.tup [104][45][31][188]:b∉ZlP:=by
 have n1:b≠A.w:=dD e S.w (by intro z;cases z);have n2:b≠A.h:=dD e S.h (by intro z;cases z);have n3:b≠A.c:=dD e S.c (by intro z;cases z);obtain⟨as,hd,_⟩:=S.d;have n4:b≠A.d:=dD e hd (by intro z;cases z)
 have n5:Zax_:=fun z=>by
  obtain⟨i,hi,e'⟩:=aQX z;obtain⟨y,_,q⟩:=ZaoO;rw[e',e]at q;cases q
 simp[HA.fp,n1,n2,n3,n4,n5]
def bq.tracked [104][45](h:ZYb):Zzq:=by
 simp only[HA.fp,Zi]at h;rcases h with rfl | rfl | rfl | rfl | h
 ·exact#[aR,S.w]
 ·exact#[aR,S.h]
 ·exact#[aR,S.c]
 ·obtain⟨as,hd,_⟩:=S.d;exact#[aR,hd]
 ·obtain⟨i,hi,rfl⟩:=aQX h
  obtain⟨y,_,q⟩:=ZaoO;exact Zk4
def J4.fp {A:HA}(a:J4 A):A.fp.Nodup:=by
 simp only[HA.fp,ZW,Zi,not_or];exact⟨⟨a.wh,a.wc,a.wd,a.w⟩,⟨a.hc,a.hd,a.h⟩,⟨a.cd,a.c⟩,a.d,a.cs⟩
def qU [118][347](h:a∈fp):ZaGr:=fun b u e n=>by
 rw[ai (fun z:b=a=>#[h1,n,z,h])];exact e
def Od [118][347](h:Zm7):ZaGr:=fun b u e n=>by
 rw[ZU6];exact e
def Kp.on [118]{H1 H2:Hp}(a:ZaC5)(b:Kp fp H1 H2):ZaGq:=ZaXA
def IK [420]:bq C #[bt,A.w,#[bW,w']] p A { st with worn:=w' }:=by
 have a:=S.apart;have np:=S.pne;simp only[HA.fp,Zi,not_or]at np;refine#[aY_,np.1,ac,#[Tw,a.wh,S.h],a.wc,A.w,a.w];obtain⟨as,hd,hp⟩:=S.d;refine#[aVF,a.wd];obtain⟨xs,ex⟩:=jU x;rw[ZaCw];exact e
def IJ [420]:bq C #[bt,A.h,#[bW,w']] p A { st with hold:=w' }:=by
 have a:=S.apart;have np:=S.pne;simp only[HA.fp,Zi,not_or]at np;refine#[aY_,np.2.1,#[ch,a.wh,S.w],ac,a.hc,A.h,a.h];obtain⟨as,hd,hp⟩:=S.d;refine#[aVF,a.hd];obtain⟨xs,ex⟩:=jU x;rw[ZaCw];exact e
def Dp [104][336](hd:#[aQ,A.d,ZDI])(hp:ZaNY)(x:aX)(ht:#[aZ,t]) :
  bq C ZaYl p A { st with deeds:=Zlp++[x] }:=by
 have a:=S.apart;have np:=S.pne;simp only[HA.fp,Zi,not_or]at np;have n:#[tk,b≠t]:=#[avA,ht]
 have e1:#[ef,Zdf,A.d,#[bc,ZaYl]]:=fun b o e h=>#[tT,ai h,#[de,n],e]
 have td:t≠A.d:=fun z=>by rw[z,hd]at ht;cases ht
 refine⟨e1 _ _ ZcC np.2.2.2.1,S.nd,e1 _ _ S.w a.wd,e1 _ _ S.h a.hd,e1 _ _ S.c a.cd,#[auB,e1 b o e #[bZ,#[fP,a.d,z,hb]]],as++[t],ZxF,?_⟩;refine #[vs,hp,ZWJ,(ZaC (#[jo,ai td]) Zan)];obtain⟨xs,ex⟩:=jU y;exact e1 b _ e #[bZ,Zaux]
def Ou:A.w∈ZlP:=ZCk
def Ot:A.h∈ZlP:=ZCk
def Sx:A.c∈ZlP:=ZCk
def Sy:A.d∈ZlP:=ZCk
#where
def Df [323][446](h:ZjG):ZaSE:=by
 unfold D8 at k;rwa [ZcH]at k
def qQ [323]{o:Eb}[446](h:bf st d=o)(ho:#[pD,o]):lR c E H o:=by
 unfold D8 at k;rwa [h,Y8 ho]at k
def vL:∀ [232][181],#[bd,Zuy,ZNS+1]
 | [],_,_=>Za8y
 | x::r,a,b=>by
  unfold dU;split
  ·simp
  ·have:=vL r a b;simp;lia
def Oj [396]:#[bd,ZaGn,Zwk+1]:=by unfold qc;split<;>simp
def Ah [233]{a b:Int}[69](h:#[ai_,#[bd,x.2,n]])(hn:0<n+1):#[fy,ZaIJ,#[bd,x.2,n+1]]:=by
 induction ci with
 | nil=>intro x hx;simp[dU]at hx;subst hx;simp
 | cons y r ih =>
  intro x hx;unfold dU at hx;split at hx
  ·rcases Zul with z | z
   ·subst z;have:=Oj y.2 b;have:=h y Ze;simp only;lia
   ·have:=h x Zz1;lia
  ·rcases Zul with z | z
   ·subst z;have:=ZabE;lia
   ·exact ih (ZanR) x z
def La [396]:jX (uo ks) ZGI (Ze3 Zae)=uo (qc ks b):=by
 unfold jX qc uo
 have e:((ZvR fun k=>(#[Uu,k],Ze3 Zae)).any #[sj,ZGI])=Zaxw:=by
  rw[List.any_map]
  induction ks with
  | nil=>rfl
  | cons x r ih=>rw[aQO,ih];by_cases h:x=b<;>simp[h,eq_comm]
 rw[e]
 by_cases h:ZUU
 ·rw[Y9 (Zc h),ZcH,ZK]
  apply aQr
  intro k _;simp only[Function.comp];split<;>rfl
 ·rw[ZaxK,ZcG,Zp]
  rfl
def FG [396]:#[ho,(f8 (uo ks) ZGI)]=Zaxw:=by
 rw[<-rT];unfold uo;rw[List.any_map]
 induction ks with
 | nil=>rfl
 | cons x r ih=>rw[aQO,ih];by_cases h:x=b<;>simp[h,eq_comm]
section
variable {H:Hp}
noncomputable abbrev Xi [32][445][232]:Zaa:=Zaqe
def rX:∀ [35](a:Int),Xi H cs ci ->
  (f8 ZA9 Ztt=Zac/\tH ci a=[]/\∀ b,dU ci a b=ci++[(a,[b])]) \/
  ∃ ad,ad∈cs/\f8 ZA9 Ztt=#[bz,ad]/\#[aQ,ad,#[hR,ZJ0]] /\
   ∀ b (H':Hp),Za8z->(∀ x∈cs,x≠ad->∀ o,Zab7->#[bD,H',o])->#[b0,ad,#[hR,(qc ZJ0 b)]]->Xi H' cs Zuy/\dQ cs Zuy=dQ cs ci
 | _,_,a,Zan=>Zam #[sd,rfl,fun b=>rfl]
 | ZAH,x::ci,a,ZaMP=>by
  by_cases h:ZJs
  ·refine #[aT8,c,Ze,#[aTf,jp,#[tN,h]],by simp only[tH,ZcH];exact e]
   simp only[tH,ZcH]at k';simp only[dU,ZcH];refine#[fK,ZaC k' (vm r fun y hy o z=>k y ZQR (#[bl,#[fP,Zat2,q,hy]]) o z)]
  ·have hk:f8 (dQ (c::cs) (x::ci)) Ztt=f8 (dQ cs ci) Ztt:=#[aTf,iE,ZaPV]
   have hc:tH (x::ci) a=ZacP:=by simp only[tH,ZcG]
   rcases rX a r with ⟨h1,h2,h3⟩ | ⟨ad,h1,h2,h3,h4⟩
   ·exact Zam #[aKz,hk,hc,fun b=>by simp only[dU,ZcG,h3 b,aXe]]
   ·refine #[aT8,ad,Zd _ h1,#[asm,hk],#[aE,hc,h3]]
    rw[hc]at k';obtain⟨n1,n2⟩:=ZaaR;obtain⟨q1,q2⟩:=h4 b H' n2 (#[QS,k]) k';simp only[dU,ZcG];refine#[c7,ZaC (k c Ze #[bZ,#[h1,n1,z,h1]] _ e) q1]
    show _::dQ cs Zuy=_::Zac2
    rw[q2]
def ug:∀ [35](a:Int)[199][294],#[a9f,dQ ZaGk (ci++[(a,ks)])=Zac2++[Zat4]]
 | [],[],_,_,_,_=>rfl
 | ZAH,x::ci,a,ks,l,h=>by
  show _::dQ ZaGk (ci++[(a,ks)])=_
  rw[ug a ks l ZWn];rfl
def si:∀ [35],#[a9f,#[aW,ZA9]=ZNS]
 | [],[],_=>rfl
 | ZAH,x::ci,h=>by show #[aW,(dQ cs ci)]+1=_;rw[si (ZvI)];rfl
#where
#print Wz
namespace L2
open PySem PySem.Spec PyProof.Rows
abbrev U7 (td ty tx:TE):TE:=fun σ H Q=>td σ H fun x H1=>∃ a,Zk7/\W0 H1 a/\ty σ H1 fun y H2=>tx σ H2 fun z H3=>∃ kvs k,H3 a=Zab ZeH/\Zzi/\ZIK /\
 (∀ v,Zae6->Q v H3)/\(ZaeF->Q z Zaur)
def O1 [60]{o e f:Expr}{apos cpos:Pos}{td ty tx:TE}[321](hf:ZaL9)(m:#[a0E,Za8A]):#[aOB,Za8A,U7]:=by
 intro pins s σ H Q I h;refine #[LI,PySem.F.slot_dict_setdefault,PySem.F.type_dict_setdefault,ZJT];obtain ⟨x,H1,I1,rx,a,ex,d,q1⟩:=zz;subst ex;obtain rfl:ZQK:=rx;obtain⟨t1,t2,_⟩:=Zaeh;refine Zad1;rw[m.trees]
 refine aQu rfl (aQt (aQf (bS Zaap fun iv s2 ZaG' =>
  #[aWb,⟨z,H3,I3,rz,kvs,k,ea,ey,hlt,q3,q4⟩])))
 subst ey;obtain⟨hz,hd,vs,rel,dd⟩:=Ki I3.hok ea
 refine call_meetsIn PySem.F.slot_dict_setdefault dd.typeIs PySem.F.entry_dict_setdefault (PySem.F.args_dict_setdefault_3 _ _ _) (kt_meets_setdefault Zw6 a Ztq hd fv)
  ⟨vs,dd,#[c_,Za8B,hz],fun v' hv'=>?_,fun hn h' dd' hs=>?_⟩
 ·cases l:ZKh with
  | none=>have:=Zy1;rw[l,hv']at this;exact this.elim
  | some v =>
   have:=Zy1;rw[l,hv']at this;exact⟨v,H3,I3.tok _,Zcl,q3 v l⟩
 ·cases l:ZKh with
  | some v=>have:=Zy1;rw[l,hn]at this;exact this.elim
  | none =>
   have he:ZSE:=let ⟨q,_,_,hq,_⟩:=dd';ZAB;exact⟨z,_,vp I3 (by rw[ea];exact True.intro) hs he (En (#[arH,z]) hd (Zaik k rz) dd'),rz,q4 l⟩
section
variable {X:Cx}
inductive RO [11]:Zaa
 | mk (_:xs=[])(_:#[qq,Zapc])
def LR:#[id,ZiK,RO]:=by
 intro pins s σ H xs us Q I r h;obtain⟨rfl,q⟩:=h;cases r;refine call_set_0 fun led=>?_;refine#[tJ,Zro (t':=Zb4) (Zasq) Zbu ?_]
 show Heap.SetOf Zap_ _ _ _ _
 exact #[hY,#[w2,(intSetOf_fresh led).kind].setOf,Zna]
inductive XO [230]:Zaa
 | mk [158][356](i:Int)(_:x=Zdy)(_:y=Zcs)[255](_:#[aDt,! S i,S i])
def MG:#[aht,(XO Zae)]:=by
 intro pins s σ H x y v u Q I rx ry h;obtain⟨p,S,n,i,rfl,rfl,hp,q⟩:=h;obtain⟨t,rfl⟩:=rx;cases ry;have hS:Zap':=ZJc;exact wpAny_notInSet_of (k:=i) Za4y rfl hS #[dt,.bl (! S i),H,Zg9,q]
inductive Wn (x:V)[0]:Zaa
 | mk [158][356](i:Int)(_:x=Zcs)(_:vs=[Zdy])[255](_:n+1<4096)(_:Q ZaH #[bt,p,(Zhn (ZaTh) (ZaK_))])
def Rb:W1 X "set.add" Wn:=by
 intro pins s σ H x vs v us Q I rx rv h;obtain⟨p,S,n,i,rfl,rfl,hp,hn,q⟩:=h;cases rx;obtain⟨u,rfl,ru⟩:=rv.one;obtain⟨t,rfl⟩:=ru;have hS:Zap':=ZJc;refine call_set_add (k:=i) Za4y rfl hS hn fun h' hsb hS'=>?_;obtain⟨o,_,_,_,ho,_⟩:=id hS';exact#[ae1,Zah' (t':=Zmu) (o:=Zhn (ZaTh) (ZaK_)) (by rw[hp];trivial) ZhO (fun b u hb e=>ZaEe) #[hX,ho] hS']
#where
#print L2
namespace Wz
open PySem L2
def T8 [52]{k n:Nat}(hr:ZIp)(h:n<=200):ZaE0:=by have:=hr.un;lia
def cc:#[H7,ZcD,ZcD]:=Zal
def cg:#[sL,ZcD,Zhu]:=Zal
def ce:#[sL,ZcD,ZcQ]:=Zal
def gc:#[sL,Zhu,ZcD]:=Zal
def gg:#[H7,Zhu,Zhu]:=Zal
def ge:#[sL,Zhu,ZcQ]:=Zal
def ec:#[aBV,ZcD]:=Zal
def eg:#[aBV,Zhu]:=Zal
def ee:#[H7,ZcQ,ZcQ]:=Zal
abbrev word:aX->Str
 | ZHa=>"come"
 | .go _=>"go"
 | ZayR=>"exchange"
abbrev kH [464]:Zbr:=ZaJ (Zj8 d)::ZaPX
def vq [464]:iU d=ZcR (kH d):=by cases d<;>rfl
def NE [464]:vo ZFw ZTD Zac=ZaL0 Zar:=by cases d<;>rfl
def QA [464]:¬ (#[aeN,ZKC,1]=0/\Zj1 ZKC ZKC Zac=ZKC):=by cases d<;>(intro h;have h1:=h.1;simp[kH,names,HT.sIx]at h1)
abbrev dF [169](m:ZJJ):aX->Eb
 | ZhA=>#[aQj,w]
 | Znp=>match ZaP w g with | none=>ZzK | Zab x=>#[Wu,x=g,Zwg]
 | Zoj=>match ZaP w a with
  | none=>ZYY
  | ZtV=>match ZaP w b with
   | none=>ZX'
   | ZtV=>#[aS4,m a b]
def KC [256]:bf st d=dF ZaI (o9 Zd_) d:=by cases d<;>rfl
def vG [324]{m m':ZJJ}(h:∀ a b,m a b=m' a b)[464]:dF w m d=dF w m' d:=by cases d<;>simp only[dF,h]
abbrev j7 [181]:ZgI:=#[cx,b<a,(b,a),Zqt]
abbrev uv [33][181]:Bool:=#[lx,Zz'∈ml]
abbrev AX [33]:Zuu:=ml.map fun p=>(ZFN,Ze3 Zae)
abbrev wT [33][172]:ZeF:=if ZU4 then ml else ml++[p]
abbrev OM:Eb->Zbr
 | Za5=>#[Ag,ZiU]
 | Zoc=>#[Ag,ZNP]
 | Zwg=>#[Ag,ZNQ]
 | Zod=>#[Ag,ZCj]
 | Zlq=>#[Ag,ZNR]
 | ZzK=>[Zaf Zwi,Zag g]
abbrev Ee [169]:aX->ZeF
 | ZhA=>put w g g
 | Znp=>jt w g
 | Zoj=>put (put w a (wr w b)) b (wr w a)
abbrev wU [33]:aX->ZeF
 | ZHa=>ml
 | .go _=>ml
 | Zoj=>ZaZI
def Ai [256]:#[Vi,0].worn=ZaNO:=by cases d<;>rfl
def KQ [33][172]:((AX ml).any #[sj,Zacx])=Zaxx:=by
 unfold AX;rw[List.any_map]
 induction ml with
 | nil=>rfl
 | cons x r ih =>
  rw[aQO,ih]
  have:(Zlw (((#[EC,x.1,x.2]:ZhN))=ZFN))=#[lx,p=x]:=by
   by_cases h:p=x
   ·subst h;simp
   ·rw[Zb h,Zb]
    intro z;simp only[List.cons.injEq,Sum.inl.injEq,and_true]at z;exact h (Za6t z.1.symm z.2.symm)
  simp only[Function.comp];rw[this]
  by_cases h:p=x<;>simp[h]
def Ra [33][172]:#[ho,(f8 (AX ml) Zacx)]=Zaxx:=by rw[<-rT,KQ]
def Q9 [33][172]:jX (AX ml) Zacx (Ze3 Zae)=AX (wT ml p):=by
 unfold jX wT;rw[KQ]
 by_cases h:ZU4
 ·rw[Y9 (Zc h),ZcH]
  unfold AX;rw[ZK]
  apply aQr
  intro x _;simp only[Function.comp];split<;>rfl
 ·rw[ZaxK,ZcG]
  unfold AX;rw[Zp];rfl
def Ob [324]{m:ZJJ}{d:aX}{i:Nat}{x:Int}(hc:ZJN)(hp:#[jZ,Zaqi i,#[jl,(ZaP w y)]])(hi:#[dv,Zaqh[i]?])(hx:ZaP w x=Zac):dF w m d=Zoe x:=by
 cases d with
 | come g=>exact #[oF,hc]
 | go g =>
  cases i with
  | zero=>simp[names]at hi;subst hi;simp[dF,hx]
  | succ i=>simp[names]at hi
 | exch a b =>
  cases i with
  | zero=>simp[names]at hi;subst hi;simp[dF,hx]
  | succ i =>
   cases i with
   | zero =>
    simp[names]at hi;subst hi;have:=#[amq,hp,a];obtain⟨v,hv⟩:=Zn7 Zcl;simp[dF,hv,hx]
   | succ i=>simp[names]at hi
inductive Py [12]:Zaa
 | mk [181](_:vs=Zzf)(_:#[aXB,#[ps,ZV7,#[Gg,0].2]])
inductive Pt [12]:Zaa
 | mk [48](_:∀ (r:Addr)(H':Hp),#[dT,#[aZ,r],ZbU,#[b0,r,#[kp,OM,(dF wl (uv ml) d)]],ZjA])
inductive Ft [12]:Zaa
 | mk [48](_:wl.length<=ZbF)(_:Zai'<=4000)(_:dF wl (uv ml) d=Za5)(_:#[gO,#[dT,#[b0,w,#[bW,(Ee wl d)]],#[b0,m,ZaP9],(#[g6,Zdf,b≠w,b≠m,ZfO]),ZaH]])
structure jS [179]:Zaa where
 wn:#[Kb,ZaI]
 wh:∀ g m,#[tn,g]↔#[gy,Zdn,m,g]
 ow:#[WK,m∈Zhd]
 sm:#[WK,bK m]
 cy:#[aXl,o9 Zd_ b a]
abbrev gz [256]:dM:=if ZjG then ZrE st d else st
abbrev namesL (m c:Int):Zbp:=(ZgM m.toNat).map fun (k:Nat)=>j4 ZtS c
inductive Lk [12]:Zaa
 | mk (m c:Int)(_:#[adV,m])(_:ZaW0)(_:#[a'H,#[hD,(ZeU m c).map]])
def L9 (k c:Int):bK (j4 k c):=by
 unfold bK j4;have h:#[afe,ZdH,ZdH,ZdH]:=ZadA;dsimp only;generalize hx:ZaO1=x;have:=h (Zanh+ZCa);rw[hx]at this
 have e:(10:Nat) ^ 100=ZUY*10 ^ 85:=by rw[<-Nat.pow_add]
 have e2:ZWD<10 ^ 85:=Nat.pow_pos (Zaw)
 have:x.natAbs<ZUY/\(x+ZnT).natAbs<10 ^ 15:=by constructor<;>lia
 split
 ·calc _<10 ^ 15:=Zts
   ZaUN:=ZaLQ
   _=ZYN:=e.symm
 ·calc _<10 ^ 15:=Zhe
   ZaUN:=ZaLQ
   _=ZYN:=e.symm
def Ek (x:Int):∀ [163][181],tH ZZp x=#[cx,x=a,qc (tH c a) b,tH c x]
 | [],a,b=>by
  by_cases h:x=a
  ·subst h;simp[dU,tH,qc]
  ·simp[dU,tH,h,Zw h]
 | y::r,a,b=>by
  unfold dU
  by_cases h:y.1=a
  ·rw[ZcH]
   by_cases hx:x=a
   ·subst hx;simp[tH,h]
   ·have:¬ y.1=x:=#[aF,hx (ZaiE h)]
    simp[tH,hx,this]
  ·rw[ZcG]
   by_cases hx:x=a
   ·subst hx
    simp only[tH,ZcG,aQP];rw[Ek x r x b,ZaB]
   ·simp only[tH,Ek x r a b,Zqw]
def Gn {ks:Zbp}{b y:Int}:y∈qc ks b↔y∈ks\/y=b:=by
 unfold qc;split
 ·rename_i h
  constructor
  ·exact Zam
  ·rintro (z | z)
   ·exact z
   ·rw[z];exact h
 ·simp
def KO [163](a b x y:Int):o9 ZZp x y=(ZaUM||(ZXE&&#[lx,y=b])):=by
 unfold o9;rw[Ek]
 by_cases h:x=a
 ·subst h
  rw[ZaB]
  by_cases hy:y=b
  ·have:ZaNo:=Gn.mpr (Zap hy)
   simp[hy,this];rw[hy]at this;exact this
  ·have:(ZaNo)↔y∈tH c x:=by rw[Gn];simp[hy]
   simp[hy,this]
 ·rw[ZcG];simp[h]
def EG [163](a b x y:Int):o9 (dU ZZp b a) x y=(ZaUM||(ZXE&&#[lx,y=b])||(Zaxv&&#[lx,y=a])):=#[a_,KO,KO]
def xz [168](h:ZaK5)(g m:Int):#[Kb,ZA']:=by
 rw[Gh];split
 ·exact h
 ·rename_i n
  exact vU h n
def KS [168](h:ZaK5)[167]:(aR (jt l g)).Nodup:=by
 unfold aR jt at *;exact (List.filter_sublist.map _).nodup h
def AD:jS Zlg:=by
 refine⟨aQo,fun g m=>?_,#[aja,?_],#[aja,?_],#[B9,rfl]⟩
 ·simp[look]
 ·simp[look]at h
 ·simp[look]at h
def Do [76]{d:aX}(G:ZnG)(sm:#[tP,ZD9]):jS (gz st d):=by
 unfold gz
 by_cases hd:ZjG
 ·rw[ZHk]
  have kw:#[WK,ZYs]:=#[aja,ZNm (#[bm,h])]
  cases d with
  | come g =>
   have hn:ZaHg:=by
    cases e:ZqU with
    | none=>rfl
    | some m=>simp[bf,e]at hd
   have hh:ZaP Zdn g=Zac:=by
    cases e:ZaP Zdn g with
    | none=>rfl
    | some m =>
     have:=Zj9 m g ((Zj_ m g).mpr e);rw[<-dy,hn]at this;cases this
   refine#[aos,xz G.wn g g,G.cy]
   ·show Zaa0↔#[gy,ZGu,m,x]
    rw[je,je]
    by_cases hx:x=g
    ·subst hx
     by_cases hm:m=x
     ·subst hm;simp
     ·rw[ZaB,Zk3]
      constructor
      ·intro z;exact ZaDM
      ·intro z
       have:=ZG_;rw[hn]at this;cases this
    ·rw[Zqw]
     by_cases hm:m=g
     ·subst hm
      rw[ZaB];constructor
      ·intro z
       have:=ZG9;rw[hh]at this;cases this
      ·intro z;exact #[tK,hx]
     ·rw[Zk3];exact ZadS
   ·have h:Zaa0:=h
    show m∈aR (put ZaI g g)
    rw[je]at h;rw[<-dy,je]
    by_cases hx:x=g
    ·rw[ZHj]at h;cases h;rw[ZaB];rfl
    ·rw[Zqw]at h
     have:=ZaFn;rw[<-dy]at this;split
     ·rfl
     ·exact this
   ·have h:Zaa0:=h
    rw[je]at h
    by_cases hx:x=g
    ·rw[ZHj]at h;cases h;exact #[amq,sm,g]
    ·rw[Zqw]at h;exact Zacl
  | go g =>
   have hg:#[gy,ZaI,g,g]:=by
    cases e:ZqU with
    | none=>simp[bf,e]at hd
    | some m =>
     by_cases z:m=g
     ·rw[z]
     ·simp[bf,e,z]at hd
   have hh:#[gy,Zdn,g,g]:=(Zj_ g g).mp hg;refine#[aos,KS G.wn g,G.cy]
   ·show Zaeq↔#[gy,(jt Zdn g),m,x]
    rw[oq,oq]
    by_cases hx:x=g
    ·subst hx
     rw[ZaB]
     by_cases hm:m=x
     ·rw[Zt2];simp
     ·rw[Zk3]
      constructor
      ·intro z;cases z
      ·intro z
       have:=ZG_;rw[hg]at this;exact ZaD0
    ·rw[Zqw]
     by_cases hm:m=g
     ·subst hm
      rw[ZaB];constructor
      ·intro z
       have:=ZG9;rw[hh]at this;exact #[yS,hx]
      ·intro z;cases z
     ·rw[Zk3];exact ZadS
   ·have h:Zaeq:=h
    show m∈aR (jt ZaI g)
    rw[oq]at h
    by_cases hx:x=g
    ·rw[ZHj]at h;cases h
    ·rw[Zqw]at h
     refine xu.mpr ⟨ZaFn,ZcM⟩;rw[z]at h;have:=(Zj_ x g).mp h;rw[hh]at this;exact hx ZsO
   ·have h:Zaeq:=h
    rw[oq]at h
    by_cases hx:x=g
    ·rw[ZHj]at h;cases h
    ·rw[Zqw]at h;exact Zacl
  | exch a b =>
   obtain⟨ma,ea⟩:∃ m,#[tn,a]:=by
    cases e:ZAM with
    | none=>simp[bf,e]at hd
    | some m=>exact ZIf
   obtain⟨mb,eb⟩:∃ m,#[tn,b]:=by
    cases e:ZJS with
    | none=>simp[bf,ea,e]at hd
    | some m=>exact ZIf
   have hab:ZIr:=#[aF,by simp[bf,ea,eb,z]at hd]
   have wa:Zaex:=by unfold wr;rw[ea];rfl
   have wb:Zaey:=by unfold wr;rw[eb];rfl
   have ha:=(Zj_ a ma).mp ea;have hb:=(Zj_ b mb).mp eb
   have hmm:ma≠mb:=#[aF,by rw[z,hb]at ha;exact hab #[pe,ha]]
   have lw:∀ x,ZaP ZFb x=#[fh,x=b,ma,#[fh,x=a,mb,ZaP ZaI x]]:=#[cy,#[a_,je,je]]
   have lh:∀ x,ZaP Zzj x=#[fh,x=ma,b,#[fh,x=mb,a,ZaP Zdn x]]:=#[cy,#[a_,je,je]]
   show jS Zaqt
   rw[wa,wb];refine#[aos,xz (xz G.wn a mb) b ma,fun x y=>?_]
   ·show ZaaZ↔#[gy,Zzj,m,x]
    rw[lw,lh]
    by_cases hxb:x=b
    ·subst hxb
     rw[ZaB]
     by_cases hm:m=ma
     ·rw[Zt2,hm];simp
     ·rw[Zk3]
      constructor
      ·intro z;exact ZaDM
      ·intro z
       by_cases hm2:m=mb
       ·rw[ZXi]at z;exact #[oG,Zl,z,hab]
       ·rw[ZXe]at z
        have:=ZG_;rw[eb]at this;exact #[yS,hm2]
    ·rw[Y8 hxb]
     by_cases hxa:x=a
     ·subst hxa
      rw[ZaB]
      by_cases hm:m=ma
      ·rw[Zt2]
       constructor
       ·intro z;exact #[oE,((Zl z).trans hm).symm,hmm]
       ·intro z;exact #[tK,hab]
      ·rw[Zk3]
       by_cases hm2:m=mb
       ·rw[ZXi,hm2];simp
       ·rw[ZXe]
        constructor
        ·intro z;exact #[tK,hm2]
        ·intro z
         have:=ZG_;rw[ea]at this;exact ZaD0
     ·rw[Y8 hxa]
      by_cases hm:m=ma
      ·rw[Zt2]
       constructor
       ·intro z
        have:=ZG9;rw[hm,ha]at this;exact #[yS,hxa]
       ·intro z;exact #[tK,hxb]
      ·rw[Zk3]
       by_cases hm2:m=mb
       ·rw[ZXi]
        constructor
        ·intro z
         have:=ZG9;rw[hm2,hb]at this;exact #[yS,hxb]
        ·intro z;exact #[tK,hxa]
       ·rw[ZXe];exact ZadS
   ·have h:ZaaZ:=h
    show m∈ZaSh
    have key:∀ y,y∈Zhd->y∈ZaSh:=fun y hy=>by
     rw[<-dy]at hy ⊢;rw[lw];split
     ·rfl
     ·split
      ·rfl
      ·exact hy
    rw[lw]at h;split at h
    ·cases h;exact key _ (Zj9 a _ ea)
    ·split at h
     ·cases h;exact key _ (Zj9 b _ eb)
     ·exact key _ (Zj9 x m h)
   ·have h:ZaaZ:=h
    rw[lw]at h;split at h
    ·cases h;exact G.sm a _ ea
    ·split at h
     ·cases h;exact G.sm b _ eb
     ·exact Zacl
   ·show o9 ZKu x y=o9 ZKu y x
    rw[EG,EG,G.cy x y];cases ZXE<;>cases Zaxv<;>cases #[lx,y=a]<;>cases #[lx,y=b]<;>simp
 ·rw[ZHe];exact G
abbrev WV [43]:Dt:=.sq Zae (Zrt fun v=>.at v)
def Hi [7][38][221][31](h:#[aQ,l,Zej])(hf:#[rF,ZII]):RD K H 2 Zeh (WV xs):=by
 refine #[FM,h,?_];clear h
 induction xs with
 | nil=>exact Zan
 | cons n r ih=>exact ZaC (ZNT (hf n Ze) 1) (ih #[anQ,hf])
abbrev WZ [5][419]:Zaa:=#[arL,c.C,ZfC,ZaBj,ZfC]
def SB [60]{c:HX}{p pos:Pos}(M:#[LJ,WZ,c])(U:ZaOQ)(hr:ZJj)(hg:Gl X ZNO):#[afX,ZNO,c.C,ZaBj]:=by
 obtain⟨fI,fd,M,G,hb⟩:=M;exact #[agA,U.mC]
structure Ev [419](H0 H:Hp)(x:Addr)[364]:Zaa where
 same:aD H0 H
 hall:#[LC,x]
 good:ZnG
 nfp:#[agJ,Zaqf]
def Ev.moved {c:HX}{H0 H H':Hp}{x:Addr}{B:HA}[447](e:Ev c H0 H x B st)(m:C5 c.C H x B st' H')(g:jS st') :
  ∃ B',Ev c H0 H' x B' st'/\(∀ y o,#[aQ,y,o]->y∉Zdp->H' y=Zab o/\y∉B'.fp)/\Zuj:=by
 obtain⟨B',S,k,f,t⟩:=m;refine⟨B',⟨fun b o q=>k b o (e.same b o q) (fun z=>by rw[ZaDu]at q;cases q),S,g,Zdx⟩,fun y o q n=>⟨k y o q n,ZcM⟩,t⟩
 ·rcases f b hb with z | z
  ·exact ZaDu
  ·exact e.same.free z
 ·rcases f y z with z | z
  ·exact n z
  ·rw[q]at z;cases z
def Ev.fits [76](h1:ZlO<=100)(h2:ZCi<=100)(h3:ZaCO)(h4:#[av6,900])(h5:Zwh<=900):Zy6:=⟨Zad,Zad,Zad,#[aob,h4],Zad⟩
abbrev Of [80][179]:Zaa:=(#[adw,Zhd])/\(#[adw,aR Zdn])/\#[Kb,Zdn]
def of_empty [29]:Of L Zlg:=⟨#[BO,Za8D],#[BO,Za8D],aQo⟩
def ou [168]{g m x:Int}:x∈aR (put l g m)↔x∈aR l\/x=g:=by
 rw[Gh];split
 ·rename_i h
  constructor
  ·exact Zam
  ·rintro (z | z)
   ·exact z
   ·rw[z];exact h
 ·simp
def Ro [29][76]{d:aX}(G:ZnG)(o:ZabJ)[398]:Of L (gz st d):=by
 unfold gz
 by_cases hd:ZjG
 ·rw[ZHk]
  obtain⟨o1,o2,o3⟩:=o
  cases d with
  | come g =>
   refine⟨Zf9,Zf9,xz o3 g g⟩
   ·rcases #[aou,aR (put ZaI g g)] with z | z
    ·exact o1 x z
    ·rw[z];exact #[amq,hn,g]
   ·rcases #[aou,aR (put Zdn g g)] with z | z
    ·exact o2 x z
    ·rw[z];exact #[amq,hn,g]
  | go g =>
   exact⟨#[aUT,o1,ZaI],#[aUT,o2,Zdn],KS o3 g⟩
  | exch a b =>
   obtain⟨ma,ea⟩:∃ m,#[tn,a]:=by
    cases e:ZAM with
    | none=>simp[bf,e]at hd
    | some m=>exact ZIf
   obtain⟨mb,eb⟩:∃ m,#[tn,b]:=by
    cases e:ZJS with
    | none=>simp[bf,ea,e]at hd
    | some m=>exact ZIf
   have wa:Zaex:=by unfold wr;rw[ea];rfl
   have wb:Zaey:=by unfold wr;rw[eb];rfl
   refine⟨Zf9,Zf9,xz (xz o3 _ _) _ _⟩
   ·rcases #[aou,aR (put Zaqp b ZE9)] with z | z
    ·rcases ou.mp z with z | z
     ·exact o1 x z
     ·rw[z];exact #[amq,hn,a]
    ·rw[z];exact #[amq,hn,b]
   ·rcases #[aou,aR (put Zaqs ZE9 b)] with z | z
    ·rcases ou.mp z with z | z
     ·exact o2 x z
     ·rw[z,wb];exact o1 _ (Zj9 b mb eb)
    ·rw[z,wa];exact o1 _ (Zj9 a ma ea)
 ·rw[ZHe];exact o
def qX [29][76](G:ZnG)(o:ZabJ):ZlO<=Zhv/\ZCi<=Zhv:=by
 have e1:ZlO=#[aX,aR,ZaI]:=Za8E
 have e2:ZCi=#[aX,aR,Zdn]:=Za8E
 exact#[tQ,#[aE,e1,jA G.wn o.1],e2,jA o.2.2 o.2.1]
def Jj [256]:#[Jm,0].deeds.length<=Zwh+1:=by
 unfold gz;split
 ·cases d<;>simp[after]
 ·lia
def MA [256]:#[Jm,0].worn=if ZjG then ZaNO else st.worn:=by
 unfold gz;split
 ·exact Ai st d
 ·rfl
abbrev Fc:Eb->Str
 | Za5=>"done"
 | Zoc=>"AlreadyIn"
 | Zwg=>"Masked"
 | Zod=>"Same"
 | Zlq=>"Met"
 | Zoe _=>"NoGuest"
def Wi (o:Eb):#[au,(OM o)[0]?,(ZaJ (Fc o))]:=by cases o<;>rfl
def DC (o:Eb):#[t7,#[dN,(Fc o),ZiU],o,Za5]:=by
 cases o with
 | done=>exact #[EI,#[H7,ZiU,ZiU]]
 | already=>exact #[EJ,ZNP]
 | masked=>exact #[EJ,ZNQ]
 | same=>exact #[EJ,ZCj]
 | met=>exact #[EJ,ZNR]
 | noguest g =>
  rw[Zb (#[ajb,¬ Eb.noguest g=Za5])];exact #[EJ,Zwi]
def QW {a b x y:Int}:j7 x y=Zz'↔ZaYx:=by
 unfold j7
 by_cases h1:y<x<;>by_cases h2:b<a
 ·rw[ZzG,ZHh,Prod.mk.injEq];lia
 ·rw[ZzG,Zt0,Prod.mk.injEq];lia
 ·rw[ZtZ,ZHh,Prod.mk.injEq];lia
 ·rw[ZtZ,Zt0,Prod.mk.injEq];lia
def Os [19]{p q:ZgI}:q∈wT ml p↔q∈ml\/q=p:=by
 unfold wT;split
 ·rename_i h
  constructor
  ·exact Zam
  ·rintro (z | z)
   ·exact z
   ·rw[z];exact h
 ·simp
abbrev CZ [179][33]:Zaa:=#[aXl,uv ml a b]
def FV:CZ Zlg []:=fun a b=>by unfold o9 uv;simp[tH]
abbrev tP [179][33][464]:ZeF:=if ZjG then wU ml d else ml
def Ij [76][19]{d:aX}(h:ZaeR):CZ (gz st d) ZafG:=by
 unfold gz tP
 by_cases hd:ZjG
 ·rw[ZHk,ZHk]
  cases d with
  | come g=>exact h
  | go g=>exact h
  | exch a b =>
   intro x y
   show o9 ZKu x y=uv (wT ml (j7 a b)) x y
   rw[EG,h x y];unfold uv
   have e:#[ly,j7 x y∈ZaZI,(#[lx,j7 x y∈ml]||#[lx,ZaYx])]:=by
    rw[<-Bool.decide_or]
    congr 1
    rw[Os,QW]
   rw[e,Bool.decide_or,Bool.decide_and,Bool.decide_and,Bool.or_assoc]
 ·rw[ZHe,ZHe];exact h
def Gg [76][19](h:ZaeR)[464]:dF ZaI (uv ml) d=bf st d:=#[aE,KC,vG (#[B9,(h a b).symm]) d]
structure Sz [42][179]:Zaa where
 c:ZrD<=2*n
 k:#[av6,2*n]
 d:Zwh<=n
def YR:Sz 0 Zlg:=⟨ZaN,(fun x hx=>nomatch hx),ZaN⟩
def R0 [69][76](h:Sz n st)[464]:Sz ZdX (gz st d):=by
 have keep:Sz ZdX st:=⟨by have:=h.c;lia,#[aob,h.k],by have:=h.d;lia⟩;refine#[k1,?_,by have:=Jj st d;have:=h.d;lia]
 ·unfold gz
  split
  ·cases d with
   | come g=>exact keep.c
   | go g=>exact keep.c
   | exch a b =>
    show #[bd,ZKu,_]
    have:=vL ZsP b a;have:=ZaE7;have:=h.c
    lia
  ·exact keep.c
 ·unfold gz
  split
  ·cases d with
   | come g=>exact keep.k
   | go g=>exact keep.k
   | exch a b =>
    intro x hx;have:=Ah (n:=2*n+1) (Ah (n:=2*n) (a:=a) (b:=b) h.k Zah) Zah x hx
    lia
  ·exact keep.k
def Ko [173](hn:n<=400):Zy6:=by
 have:=qX G o;exact Za09
def L3 [38]{l t:Addr}[336][365](hl:ZZ8)(hp:ZaDF)(ht:ZZ7):i8 #[hJ,ZT1] l (ds++[d]):=by
 have nt:#[aTj,b≠l]:=fun b y e z=>by obtain⟨xs,ex⟩:=jU y;rw[z,hl,ex]at e;cases e
 refine⟨as++[t],ZxF,#[vs,hp,ZWJ,#[h8,#[mS,(nt t d ht),ht]]]⟩;rw[ai (nt b y e)];exact e
def Rh [256]:#[Jm,0].deeds=if ZjG then ZaB8 else st.deeds:=by
 unfold gz;split
 ·cases d<;>rfl
 ·rfl
def yP [201]:ZdP:=by
 unfold namesL at h;obtain⟨k,_,rfl⟩:=ZXw;exact L9 _ _
#print Wz
namespace L2
open PySem PySem.Spec PyProof.Rows
def K0 [60][9]:gH Zg1 X (Zqs):=by
 intro pins σ H s e s' I hc;obtain⟨ea,C,od,H',B,rfl,fl,un,hok,os,bare,hsB,trB,hE⟩:=hc;exact hE.elim
abbrev Cx.tried [228][18][51]:Cx:={ X with xe:=E,pn:=ZSg }
def aQ.tried [60][4][50][3]:aQ (Zajc Zav E) [] σ H s :=
 ⟨⟨ZahS,ZjP,ZCl,Zahn,ZnZ,ZMi,ZMg,ZNV,ZNW,ZMA,Za8F,Za8G,ZNY,ZBF,ZM',ZMf,Zag4,ZBD⟩,I.os,I.bare,I.base,I.loc,I.cell,I.free,I.freeC,fun p hp=>I.pin p (by
  have hp:p∈(X.pn++Zav)++[]:=hp
  rwa [aQg]at hp),I.hok,I.len⟩
def aQ.untried [60]{pins qins:Ze0}[437][263][50](I:aQ (Zajc Zav E) qins σ H s):Zi6 :=
 ⟨⟨ZahS,ZjP,ZCl,Zahn,ZnZ,ZMi,ZMg,ZNV,ZNW,ZMA,Za8F,Za8G,ZNY,ZBF,ZM',ZMf,Zag4,ZBD⟩,I.os,I.bare,I.base,I.loc,I.cell,I.free,I.freeC,fun p hp=>I.pin p (by
  show p∈(X.pn++Zav)++qins
  exact aQ6 _ hp),I.hok,I.len⟩
abbrev Xe [228][18](E:XK)(e:Value)[155]:Zaa:=∃ (σ:St)(H:Hp)(ea C:Addr)(od:Zgj)(B:Heap),e=ZW9/\Za1z/\ZaHo/\Za8I/\ZaT7
def Wj [211]{E:XK}:gH ZaxT ZaQ2 E:=by
 intro qins σ H s e s' I hc;obtain⟨ea,C,od,H',B,rfl,fl,un,hok,os,bare,hsB,trB,hE⟩:=hc;exact⟨σ,H',ea,C,od,B,rfl,Q1 I.untried fl un hok os bare hsB trB,fl,ZBH,hE⟩
def RF {X:Cx}{b0:Stmt}{bs:Zih}{hd0:ExceptHandler}{hdl:ZW6}{tb:XK->TS}{th:Zaet}{pos:Pos}
  (hst:ZdC=ZaS::Zrc) (hfr:ZaLU) (hb:∀ pins E,FK ZaQ2 ZaF0 (tb E)) (hh:W2 X ZaLX th) :
  PS X (.Try ZaF0 ZaLX [] [] pos) (#[vz,tb (fun cls od H2=>∀ σ':St,σ'.length=Za8H->th cls od D σ' H2) D σ H]):=by
 intro pins s σ H D I h;refine wpAny_Try_except ?_;refine ZN (hb Zav _ [] s σ H D I.tried h) (fun f s1 hq=>?_) fun e s' hx=>?_
 ·cases f with
  | next=>obtain⟨σ',H',I1,q⟩:=hq;exact #[a5i,σ',H',Zajd,q]
  | brk=>obtain⟨σ',H',I1,q⟩:=hq;exact ZaFs
  | cont=>obtain⟨σ',H',I1,q⟩:=hq;exact ZaFs
  | ret u=>obtain⟨v,σ',H',I1,r,q⟩:=hq;exact#[af_,Zajd]
 ·obtain⟨σ',H',ea,C,od,B,rfl,ld,fl,hl,hE⟩:=hx
  have fl':=fl;rw[hst]at fl';refine Mo (#[a_,ZMA,hst]) hfr fl' fun h4 held ups4=>?_;refine Uh held fun h5 fl5 ups5=>?_;rw[<-hst]at fl5;exact hh Zav σ' H' D ea C od B s' h5 ld fl5 (ups4.trans ups5) (hE σ' hl)
abbrev Vx [394](o:Obj)[182]:It :=
 #[aVX,#[Gx,∃ p,#[au,kvs[i]?,p]/\x=kV p.1]]
def zE [315]{d:Addr}{o:Obj}[87]{ep:Nat}(hep:Za0f)(x:bQ P w H h d ZRI):#[agG,d]/\∃ vs,Zyq/\h.DictAt ZdR d vs ep:=by
 obtain⟨hg,hz,lo,vs,rel,dd⟩:=x;obtain⟨ep',hat⟩:=dd.dictAt;refine⟨lo,vs,rel,?_⟩;obtain⟨od,es,hod,hcd,hdd,r⟩:=ZYg;rw[hg]at hod;cases hod;rw[<-hep _ _ hdd];exact hat
def Nc [191][105]:#[tM,tg,ZAE,h.IsKeyIter it d i Zd8 ep] where
 mem:=ZaA
 obj:=fun i h st b hb=>by
  have e:Zju:=ZcU
  subst e;obtain⟨o,e,c,d⟩:=st;exact⟨o,e,fun v z=>by rw[d]at z;cases z⟩
 keep:=Zake
 item:=by
  intro X hP hw hK hc i pins s σ H E I hf st hg;subst hP hw hK;obtain⟨hH,hi⟩:=hg;obtain⟨lo,vs,rel,hat⟩:=ZLj;obtain⟨f0,f1,f2,f3,f4,f5⟩:=ZeS;have hl:ZiG:=Zk8;obtain⟨p,hp⟩:Zav_:=⟨kvs[i],ZNZ⟩;obtain⟨q,hq⟩:∃ q,#[au,ZMF,q]:=⟨vs[i]' Zah,by simp[#[eA,ZXX]]⟩;obtain⟨k,v⟩:=q
  have ek:Zlb:=by
   have e1:(kvs.map (·.1))[i]? = Zab p.1:=#[pQ,hp]
   rw[rel.keys,ZE,hq]at e1;exact #[pe,e1]
  rw[hl]at st;refine #[aXC,wpAny_pyNext_dict_item,fun key h' hk st' sb=>?_];have I1:ZzU:=Zbcp;obtain⟨o2,e,c,d2⟩:=ZHT;refine#[ib,key,#[au9,d2,⟨kV k,H,I1,?_,⟨rfl,p,hp,#[d9,ek]⟩,#[aE,hl,st'],ZRv⟩]];rcases ZaWs with ⟨j,t,ej,ev⟩ | ⟨j,t,ej,ev⟩
  ·subst ej;exact ZAz
  ·subst ej;exact ZAz
 done:=by
  intro X hP hw hK hc i pins s σ H E I hf st hg;subst hP hw hK;obtain⟨hH,hi⟩:=hg;obtain⟨lo,vs,rel,hat⟩:=ZLj;have hl:ZiG:=Zk8;obtain⟨f0,f1,f2,f3,f4,f5⟩:=ZeS;rw[hl]at st;exact #[bcr,wpAny_pyNext_dict_end]
 self:=#[a_I,wpAny_pyIter_keyiter]
abbrev V1 (tl:TE):TI:=#[aYX,ZAE]
def RA [60]{tg l:Expr}[83]:PI X tg l (V1 tl):=by
 intro pins s σ H R I h;refine ZK5;obtain ⟨x,H1,I1,r1,q1⟩:=zz;obtain⟨d,kvs,e,hH,q⟩:=q1;subst e;cases r1;obtain⟨hz,lo,vs,rel,dd⟩:=ZaWi;obtain⟨ep,hat⟩:=dd.dictAt;obtain⟨o,es,ho,hc,hdat,r⟩:=ZYg;have hl2:ZiG:=Zk8;refine wpAny_pyIter_dict (knd:=Zys) lo hat ?_;have I2:ZaL':=Za1O;refine#[arC,_,#[aKO,ZmI],#[a05,Nc],#[i9,Zct,rfl,#[bm,hl2]],q o]
 ·rw[hdat]at e;cases e;rfl
 ·have e:ZzV:=ZcU
  subst e;exact I2.fpOk Zbu (Zaje (Za _))
def NU {d:Addr}{o:Obj}{kvs:Zip}{g:TG}{tb:TS}{D:nZ}{σ:St}{H:Hp}(Pv:Zlf)(h0:Znz)(hl:ZaP4)
  (hs:∀ i p σ H,ZGo->Zmo->g (kV p.1) σ H Zam3) (hd:ZaDd) :
  ∃ W:ZjH,Zld/\∀ i m σ H,ZjF ->
   #[anF,ZAE,ZAE,ZAE]:=by
 refine ZaVk;rintro i m σ H ⟨rfl,hi,p⟩;have q:=ZBb
 by_cases hlt:ZUS
 ·refine ZaPD
  obtain⟨e,p2,hp,ex⟩:=y;subst e ex;exact hs i p2 σ _ hp p
 ·have e:ZaAK:=Zad
  subst e;exact ZaDh
#print L2
namespace Wz
open PySem L2
abbrev aY [170]:dM:=ZN0 ZrE Zlg
def sx [170][464]:aY (ds++[d])=ZrE (aY ds) d:=by unfold aY;rw[aXU];rfl
abbrev cz [170]:Zaa:=∀ i d,#[au,ds[i]?,d]->bf (aY (ZCm i)) d=Za5
def F3:cz []:=fun i d h=>ZiD
def hW [365](h:cz ds)(hd:ZaD6):cz (ZI'):=by
 intro i e he
 by_cases hi:ZaxY
 ·rw[aXA hi]at he
  rw[#[cn,List.take_append_of_le_length]];exact h i e he
 ·have hl:=ZYB
  rw[Zh,ZS]at hl
  have e1:i=ZiO:=Zad
  subst e1;simp at he;subst he;simpa using hd
def FU [256]:#[Vi,0].deeds=ZaB8:=by cases d<;>rfl
structure sE (H0 H:Hp)(w m ls:Addr)[179][33]:Zaa where
 hw:#[aQ,w,Ztj]
 hm:ZaL3
 hs:i8 H ls Zlp
 w0:H0 w=Zac
 m0:H0 m=Zac
 s0:H0 ls=Zac
def sE.on {H0 H H':Hp}[108][110]:Zabc:=⟨s _ _ e.hw,s _ _ e.hm,Ao e.hs s,e.w0,e.m0,e.s0⟩
def sE.ws {H0 H:Hp}[108]:w≠ls:=by obtain⟨as,h,_⟩:=e.hs;exact dD e.hw h (by intro z;cases z)
def sE.ms {H0 H:Hp}[108]:m≠ls:=by obtain⟨as,h,_⟩:=e.hs;exact dD e.hm h (by intro z;cases z)
def sE.done {H0 H H1:Hp}{w m ls:Addr}{st:dM}{ml:ZeF}{d:aX}(e:ZSl)(hj:ZjG)
  (h1:H1 w=Zab #[bW,(Ee ZaI d)]) (h2:H1 m=Zab ZaP9) (k:#[FG,Zdf,w,m,H1])
  {as:ZeZ} (hl:#[aQ,ls,ZDI]) (hp:ZaNY) {t:Addr} (ht:ZZ7) :
  #[xC,ZaM3,ZJm,ZafG]/\H1 ls=Zab ZDI:=by
 have nt:#[aTj,b≠w/\b≠m]:=fun b y q=>by
  obtain⟨xs,ex⟩:=jU y;rw[ex]at q;exact⟨dD q e.hw (by intro z;cases z),dD q e.hm (by intro z;cases z)⟩
 have hl1:=k _ _ hl (Zw e.ws) (Zw e.ms);have d1:i8 ZaM3 ls (Zlp++[d]):=L3 hl1 #[UB,hp,fun b y q=>k _ _ q #[aNz,0].1 #[aNz,0].2] (k _ _ ht (nt t d ht).1 (nt t d ht).2);refine⟨⟨?_,?_,?_,e.w0,e.m0,e.s0⟩,hl1⟩
 ·rw[ai e.ws,MA,Zdj];exact h1
 ·rw[ai e.ms];unfold tP;rw[Zdj];exact h2
 ·rw[Rh,Zdj];exact d1
#print Wz
namespace L2
open PySem PySem.Spec PyProof.Rows
def aQ.turned2 [60][4]{h':Heap}{t':Nat}{e it:Addr}[3](k:#[Uj,ZkV,it])(fe:nu X Zav H e)(fi:nu X Zav H it):ZXZ:=by
 obtain⟨e0,e1,e2,e3,e4,e5⟩:=fe;obtain⟨i0,i1,i2,i3,i4,i5⟩:=fi;have nit:#[aKq,ZkV/\b≠it]:=fun b u q=>⟨(fun z=>by rw[z,e0]at q;cases q),(fun z=>by rw[z,i0]at q;cases q)⟩
 have nn:∀ b,b∉ZaaG->ZkV/\ZXm:=#[cX,ZcU]
 refine I.step (g':=s.gens) (d':=s.drawn) (ch:=ZaaG) (Zdx) (#[a8J,ZaoG]) (#[a8J,#[aiQ,ZaoG]]) (fun _ _ _ _ n=>n)
  (fun b o hc q=>#[hX,ZaoG]) (ZMk) (fun _ _ _ q=>q) (fun b ps q=>⟨#[],#[fp,q]⟩) (fun m hm=>?_) (#[NH,?_]) I.bare
 ·have hb:ZaeH:=ZcU
  rcases hb with rfl | rfl
  ·exact⟨e3,e1,e4,e5⟩
  ·exact⟨i3,i1,i4,i5⟩
 ·obtain⟨o,es,ep,ho,r⟩:=hm
  exact#[aV4,k _ o (Zw e1) (Zw i1) ho]
 ·refine #[tG,Zbe].stay (fun c v hc z=>k c v ?_ ?_ z) (fun _ z=>z) ZWA
  ·rcases hc with z | z
   ·rw[z];exact #[aDC,0].1
   ·exact (nit c _ z).1
  ·rcases hc with z | z
   ·rw[z];exact #[aDC,0].2
   ·exact (nit c _ z).2
inductive RL [11]:Zaa
 | mk (p:_)(S:_)(n:_)[62][255](_:#[ue,n])
def Da [60]:#[pY,ZBZ,RL]:=by
 intro pins s σ H xs us Q I r h;obtain⟨p,S,n,rfl,hp,q⟩:=h;obtain⟨u,rfl,rx⟩:=ZeR;cases rx;obtain⟨o,es,ep,t,ho,hex,hd,_,_,hb,hf,hn⟩:=#[gu,Zap',ZJc];subst hn;refine call_len_set ho hex hd hf ?_ #[p_,Zag ZN1];have:ZN1<4096:=hb
 lia
def Cq [100](env:Env) :
  #[aY1,0]=(do
   #[sC,i0.pos]
   match <-ZaKb with
   | none=>ZaM6
   | Znh =>
    #[aPK,t0]
    Zn4 t0 env v
    let mut ok:=true
    for c in c0 do
     if ok then ok <-ZBJ
    if ok then
     let x <-ZjW i1 env
     Zaaj
     let x <-#[E5,i1,env]
     let it1 <-ZN2 [x] (ZBN x)
     let _ <-runOwn Za8N env
     #[agu,0]
    else
     #[agu,0]):=Zajg
def Cr [100](env:Env) :
  #[aY1,1]=(do
   Zaaj
   match <-ZaKb with
   | none=>ZaM6
   | Znh =>
    #[aPK,t1]
    Zn4 t1 env v
    let mut ok:=true
    for c in c1 do
     if ok then ok <-ZBJ
    if ok then
     (do let _ <-Zfs (Zf_ Zaib) [acc,<-ZjW elt env])
    #[agu,1]):=Zajg
section
variable {prog:Program}{w:World}{A:Around}{R:Znr}{s:Shared}{elt t0 i0 t1 i1:Expr}{c0 c1:Zbv}{scope:Scope}{pos:Pos}{it acc:Value}{env:Env}
def sG (I:ZHB)
  (turn:∀ n s,ZnL->wpAny ZvX A ZQl (fun r s₁=>match r with
   | none=>ZLe
   | Znh=>wpAny ZvX A #[amG,t1] (fun _ s₁'=>wpAny ZvX A #[VW,t1] (fun _ s₂ =>
     wpAny ZvX A (forIn c1 true fun c r=>if ZzJ then do let ok <-ZBJ;ZRy else ZRx) (fun ok s₃ =>
      if ZHo then wpAny ZvX A ZaCC (fun x s₄ =>
       ZaSm) Zv4 s₃
      else ZJG) Zv4 s₂) Zv4 s₁') Zv4 s₁) Zv4 s)
  (n:Nat) (h:ZnL) :
  ZaIM:=by
 refine ZLP
 show wpAny _ A (#[Q7,ZB7,it].onRaise (fun x=>do Zbc8;ZHM)) _ _ s
 refine ZHP;rw[Cr];refine ZamY
 cases r with
 | none=>exact ZIb
 | some v =>
  refine ZamW;refine ZamX
  cases ok with
  | false=>exact ZJB
  | true =>
   exact Za8L
def qN (hs:∀ x,#[E5,i1,env]=Zca x)(I:ZHB)
  (turn:∀ n s,ZnL->wpAny ZvX A ZQl (fun r s₁=>match r with
   | none=>ZLe
   | Znh=>wpAny ZvX A #[amG,t0] (fun _ s₁'=>wpAny ZvX A #[VW,t0] (fun _ s₂ =>
     wpAny ZvX A (forIn c0 true fun c r=>if ZzJ then do let ok <-ZBJ;ZRy else ZRx) (fun ok s₃ =>
      if ZHo then wpAny ZvX A #[ne,i1] (fun x s₄ =>
       #[atG,Zazp,fun it1 s₅=>Zrq ZvX A Za8N (#[av',ZaDa]) s₅]) Zv4 s₃
      else ZJG) Zv4 s₂) Zv4 s₁') Zv4 s₁) Zv4 s)
  (n:Nat) (h:ZnL) :
  #[v0,#[aOp,Zoa]]:=by
 refine ZLP
 show wpAny _ A (#[aOp,ZB7].onRaise (fun x=>do Zbc8;ZHM)) _ _ s
 refine ZHP;rw[Cq];refine ZamY
 cases r with
 | none=>exact ZIb
 | some v =>
  refine ZamW;refine ZamX
  cases ok with
  | false=>exact ZJB
  | true =>
   refine #[amU,h₃,#[a8K,?_]];refine #[Fg,(ZN3 (hs x) ?_)];refine #[aGo,fun it1 s₅ h₅=>?_];refine Y6 (wpAny_runOwn (aQY h₅ fun r s₆ h₆=>?_));obtain⟨rfl,h₆⟩:=h₆;exact ZaC4
def qO
  (h0:ZaIM)
  (h:wpAny ZvX A (ZBN it) (fun it' s'=>#[aBs,#[Q7,Zoa,it']])
   (notedBy ZvX A env fun x s'=>R (ZMz x) s') s) :
  #[v0,#[Q7,Za8M,it]]:=by
 refine Za8O ?_
 show wpAny _ _ (#[Q7,compStart,it].onRaise (fun x=>do Zbc8;#[sC,theWindowsPlace])) _ _ s
 refine wpAny_notedAt ?_;unfold compStart
 show #[m',ask]
 refine Y6 (wpAny_askSetting (wpAny_ite ?_));split
 ·first
   | exact #[k_,Zg,(Za8Q rfl h0)]
   | exact #[a8R,h0]
 ·first
   | exact #[aky,(aQD (Y6 Za8S))]
   | (refine ZaBp;show #[m',Zaaj];exact #[Fg,Za8S])
#where
def Iv {Y:Cx}{P:Ze0}{σ:St}{H:Hp}{s:Shared}{elt t0 i0 t1 i1:Expr}{c0 c1:Zbv}{sc:Scope}{pos:Pos}{it a:Addr}{fp:ZeZ}{tn:ZRE}{J:It}{g:TG}{tt:TT}{te:TE}{nx:Zgr}{rt:VK}{bk ct:Zgr}
  (hc:Y.calm=Zae) (hxe:Y.xe=Zv6) (I:aQ Y P σ H s) (T:Cn Y.prog Y.w Y.K t1 J fp it tn) (st:tn 0 ZaK) (f:#[jT,nu Y P H b]) (hL:qH J g (Nn tt te a) ⟨nx,rt,bk,ct⟩ σ H) (hg:PG Y t1 g) (ht:Si Y c1 tt) (he:PE Y elt te) :
  Zrq (ZvW Y.prog Y.w) Y.A (Zoa #[Q5,t0,i0,c0,sc] 1 ZFe ZbP Y.env) (#[N4,r=.ok Zrk/\#[Mo,aQ Y P σ' H' s'/\nx σ' H']]) s:=by
 obtain⟨W,⟨m0,w0⟩,turn⟩:=hL;have stat:#[apL,P]:=fun {H'} hn b hb=>#[fd,hn b hb,#[c',f]];refine #[FT,sG,#[Q2,aQ Y P σ' H' s',ZdD,ZTk],#[Us,I,st,f]];rintro n s6 ⟨i,σ6,H6,I6,st6,fr6,w6⟩;rcases ZBd with ⟨stop,qn⟩ | ⟨go,Nx,hN,step⟩
 ·refine #[EH,ZahC,P,stop]
  obtain ⟨hr,I7⟩:=zz;subst hr;exact⟨rfl,σ6,H6,I7,qn⟩
 ·refine #[EH,ZahE,P,go]
  obtain ⟨u,hr,h7⟩:=zz;subst hr;refine ZAY;obtain ⟨x,H8,I8,r8,y8,st8,fr8⟩:=zz;have I8':=ZBc;have hgx:=ZapR;rw[hxe]at hgx;refine bS hgx Zao6;obtain ⟨σ9,H9,I9,q9⟩:=zz
  have again:#[apP,P,#[Q2,aQ Y P σ' H' s',ZdD,ZFn]]:=fun [358] I7 n7=>by
   obtain⟨m',hm,w7⟩:=Zu_;refine Zao1;obtain⟨o,e,d⟩:=ZR0;exact Zano
  have htx:=ht _ s9 σ9 H9 _ I9 q9;rw[hxe]at htx;refine bS htx Zao7;obtain ⟨H10,I10,q10⟩:=zz
  cases ok with
  | false =>
   rw[Zd0]at q10 ⊢;exact ZA5
  | true =>
   rw[ZaB]at q10 ⊢;have hex:=he _ s10 σ9 H10 _ I10 q10;rw[hxe]at hex;refine bS hex Zasz;obtain ⟨yv,H11,I11,ry,ys,hys,hlen,q11⟩:=zz;exact Zagx
abbrev Vb [280][84]:TS:=#[vA,tt0,#[vB,#[eM,b,wi1 σ H1 Za0X,Zus]]]
abbrev U0 (wi:TI)(g0:TG)[280][96]:TE:=fun σ H Q=>wi σ H fun J H1=>∀ a,ZIM ->
 qH J g0 (Vb tt0 wi1 g1 tt1 te a) Zaa9 Zq7 ZacN
def OW {X:Cx}{elt tg bJ t1 i1:Expr}{ifs c1:Zbv}{sc so:Scope}{pos:Pos}{N':Zbo}{src:ZnJ}{wi wi1:TI}{g g1:TG}{tt tt1:TT}{te:TE}{N:Zbo}(hso:Zamy)(hXN:ZKy)(S:Zaok)(hc:ZfU)(hi:ZA4)
  (hb:#[auz,PI #[a0N,C,ex] t1 i1 wi1/\#[pv,PG,t1,g1]/\#[pv,Si,c1,tt1]/\Zaul])
  (hs:ZE6:=by intro _;rfl) (hs1:∀ env x,#[E5,i1,env]=Zca x:=by intro _ _;rfl):PE X ZaYd (U0 wi g tt wi1 g1 tt1 te src):=by
 subst hXN;intro pins s σ H Q I h
 obtain⟨cl,hcl,q1,q3⟩:=oY (sc:=sc) (env:=X.env) fun y hy hf=>by
  have:=ZJ7;rw[<-hso]at this;exact ZMh
 rw[eval_ListComp];refine Za7h;obtain⟨it,fp,tn,J,H2,e,I2,T,st2,f2,hR⟩:=h2;subst e;refine ZHO
 have I3:ZbcU :=
  ZarU
 have hfr:=Zajf;obtain⟨W,⟨m0,w0⟩,turn⟩:=ZKB
 have flt:ZAI:=fun b hb=>by obtain⟨o,e,_⟩:=ZR1;exact Zb2
 generalize hs3:ZbcT=s3 at I3 ⊢
 have e3:ZbcR:=ZGW
 have sz3:ZMQ:=ZKa
 have hf3:Zam7:=ZST
 have flt3:ZMP:=Zaom
 have st3:ZamE:=Zan1
 refine aXB S.nocell (by intro y hy;simp at hy) ZKx S.kind;have kp4:ZanU:=ZJ6;have I4:=Zah9;have st4:ZJe:=Zan2;generalize hC:s3.heap.objs.size=C at I4 hns4 hsb4 ⊢;obtain⟨hg,ht,hi1,hg1,ht1,he⟩:=Zam9
 let Y:Cx:=Zam8
 have loop:∀ s5:Shared,Zah8->codeAny Zw3 X.A #[a68,ZaYd]
   Zasf s5:=by
  rintro s5 rfl
  have stat:ZapM:=fun {H'} hn b hb=>by
   obtain⟨f0,f1,f2',f3,f4,f5⟩:=ZIw;refine ZanL
   ·show Zyc
    rw[<-hC];exact ZKV
   ·have z:ZzZ:=z
    rcases ZK9 with y | y
    ·exact f1 y
    ·exact ZH_
  refine qN (#[cy,hs1 _ x]) (fun n s'=>ZaqL) ?_ m0 #[Us,I4,st4,hf3];rintro n s6 ⟨i,σ6,H6,I6,st6,fr6,w6⟩;rcases ZBd with ⟨stop,qn⟩ | ⟨go,Nx,hN,step⟩
  ·refine ZahD
   obtain ⟨hr,I7⟩:=zz;subst hr;obtain⟨m,hn,_⟩:=ZHU;refine ZaqR
   have neC:ZanT:=Zao5
   have freeC:ZKA:=I7.free
   have un:ZaJ4 :=
    ⟨ZbcI,fun b o e n hb hx=>by
      obtain⟨sl,q⟩:=ZaaF
      exact ZabQ,I7.base.free,fun b o e hx=>by
      obtain⟨o',q⟩:=Zaal
      exact ZabP,I7.base.tups,I7.base.frzs,I7.base.tbls⟩
   have hok:Zae8:=fun b ob e=>by
    refine Zae7;rintro rfl;rcases hc' with z | z
    ·rw[<-z,freeC]at e;cases e
    ·rw[freeC]at z;cases z
   have J7:Zaoq:=Zar';exact Zaf6
  ·refine ZahF
   obtain ⟨u,hr,h7⟩:=zz;subst hr;refine ZAY;obtain ⟨x,H8,I8,r8,y8,st8,fr8⟩:=zz;have I8':=ZBc;refine ZapS;obtain ⟨σ9,H9,I9,q9⟩:=zz
   have again:ZapQ:=fun [358] I7 n7=>by
    obtain⟨m',hm,w7⟩:=Zu_;refine Zao1;obtain⟨o,e,d⟩:=ZR0;exact Zano
   refine Zao8;obtain ⟨H10,I10,q10⟩:=zz
   cases ok with
   | false =>
    rw[Zd0]at q10 ⊢;exact ZA5
   | true =>
    rw[ZaB]at q10 ⊢;refine #[We,hi1,fun x1 s11 h11=>bS h11 fun it1 s12 h12=>?_];obtain⟨ia,fp1,tn1,J1,H12,e1,I12,T1,st12,f12,hR1⟩:=h12;subst e1;have inner:=Iv (Y:=Y) (t0:=tg) (i0:=bJ) (c0:=ifs) (i1:=i1) (sc:=sc) (pos:=pos) hc rfl I12 T1 st12 f12 hR1 hg1 ht1 he;have inner':=aQY inner (R':=#[av',#[ss,#[Q2,aQ Y [] σ' H' s₆,s₆.heap,ZFn]]]) fun r s6 ⟨er,σ7,H7,I7,n7⟩=>⟨er,Zaej⟩;exact qO inner' (T1.self _ 0 _ _ _ st12 inner')
 exact Zar8
#print L2
namespace Qs
open PySem PySem.W PyProof.Rows
structure YY [42][127]:Zaa where
 irr:∀ i,lt i i=Zaz
 tot:∀ i j,i<n->j<n->i≠j->lt i j=Zae\/lt j i=Zae
 tr:∀ i j k,lt i j=Zae->lt j k=Zae->lt i k=Zae
abbrev ask [78][127]:Zacs->α
 | ZfZ a=>a
 | ZaVy=>ask lt (k (lt i j))
abbrev Yi [78][42][127]:Zacs->Zaa
 | ZfZ _=>True
 | ZaVy=>i<n/\j<n/\Yi n lt (k (lt i j))
abbrev Y3 [78][42][127](t:Zacs)(R:α->Zaa):Zaa:=Yi n lt t/\R (ask lt t)
section
variable {n:Nat}{lt:ZIJ}{p:ZmK}
abbrev Pm [42](p:ZmK):Zaa:=p.Perm (List.toArray (ZgM n))
abbrev Up [448]:Zaa:=∀ i j,i<j->j<k->lt ZaM8 ZaOv=Zae
abbrev Dn [448]:Zaa:=∀ i j,i<j->j<k->lt ZaOv ZaM8=Zae
#where
abbrev Yt (p q:ZgI):Bool:=#[aTU,p.2<q.2]
abbrev YJ [58](i j:Nat):Bool:=Yt (Zajr i ZGX) (Zajr j ZGX)
abbrev Tq [138][252][172]:Zaa:=∃ (b:Addr)(o:Obj)(n:Nat)(t u:Tok),ZaNN/\Zeq/\ZyF/\o.data=Za2 #[Zag p.1 t,Zag p.2 u] n
section
variable {prog:Program}{w:World}{A:Around}{E:ZfE}{s:Shared}
abbrev Xq [414][58](out:Zb'):Zaa:=#[a0j,ZGX,Yt]
#where
abbrev Yk [138][394](es:ZXS)(ep:Nat):Zaa:=∃ o,Zep d=Zab o/\Za6F/\Zadh
#print Qs
namespace Wz
open PySem PySem.Spec PyProof.Rows L2
def AA [78](d:α)[441]:#[yd,Zcc] (#[iB,l.getD i d])=l:=by
 apply List.ext_getElem?
 intro i;rw[ZE]
 by_cases hi:i<Zcc
 ·rw[aQG hi];simp[hi]
 ·rw[Za8T (Zajs),#[cn,Za8T]];rfl
#print Wz
namespace L2
open PySem PySem.Spec PyProof.Rows
def aQ.thaw [60][4]{d:Addr}{o:Obj}{u:HO}[3](hd:ZaBB)(h0:#[afh,ZMc d]):#[b7,ZacI,s]:=by
 have up:∀ b,ZaR'=Zac->Za9:=fun b e=>by
  by_cases hb:b=d
  ·rw[hb,ac]at e;cases e
  ·rw[Zfi]at e;exact e
 have dn:∀ b,Za9->ZaR'=Zac:=fun b e=>by rw[ai (fun z=>by rw[z,hd]at e;cases e)];exact e
 have ne:∀ b v,#[cp,v]->(∀ o' u',v≠ZiA o' u')->b≠d:=fun b v e n z=>#[UA,hd,n _ _ ZGs]
 refine⟨I.ok,Zvt,ZBR,⟨ZMd,ZMe,fun b ob e n hx=>dn _ (ZBB b ob e n hx),ZND,#[ag6,?_],fun b ob v e=>?_,fun b ps e=>?_⟩,I.loc,Zrj,dn _ Zrg,#[aju,dn _ ZU'],ZpP,fun b ob e=>?_,ZBH⟩
 ·have e1:=Zag7 b xs e
  rw[ai (ne b _ e1 (fun _ _ z=>by cases z))];exact e1
 ·have nb:b≠d:=#[aF,h0 ob v (#[c_,z,e])]
  rw[ai nb];exact Zag8 b ob v e
 ·obtain⟨more,e1⟩:=Zbel
  exact⟨more,by rw[ai (ne b _ e1 (fun _ _ z=>by cases z))];exact e1⟩
 ·obtain⟨a1,a2,a3⟩:=ZJF
  exact⟨a1,dn _ a2,a3⟩
 ·have tr:∀ v,#[aUi,H]->#[aUi,ZacI]:=fun v x=>x.stay (fun c w' hc q=>q) (fun c q=>(by rw[ai (ne c _ q (fun _ _ z=>by cases z))];exact q)) (fun c y q=>(by rw[ai (ne c _ q (fun _ _ z=>by cases z))];exact q))
  by_cases hb:b=d
  ·rw[hb,ac]at e
   cases e;obtain⟨_,x⟩:=#[Si,d,Zyj,Zbe d _ hd];rw[hb];rw[hb]at tr;exact tr u x
  ·rw[Zfi]at e
   exact tr ob (Zbe b ob e)
abbrev WU (H0:Hp)(nx:Zgr):Zgr:=fun σ H=>∃ d o u,ZaBB/\(#[afh,H0 d])/\nx σ ZacI
def RE [60]{st:Stmt}{t:TS}(h:ZacM):PS X st (#[vz,t { D with nx:=WU ZMc Zn1 } σ H]):=by
 intro pins s σ H D I ht;refine bS #[kn,h,s,H,I,ht] fun f s' hq=>?_
 cases f with
 | next=>obtain⟨σ',H',I',d,o,u,hd,h0,q⟩:=hq;exact⟨σ',_,I'.thaw hd h0,q⟩
 | brk=>exact hq
 | cont=>exact hq
 | ret v=>exact hq
#print L2
namespace Wz
open PySem L2
structure Th [80][179]:Zaa where
 kn:(st.circ.map (·.1)).Nodup
 kl:#[NN,#[arO,#[gK,x.2,b∈L]]]
def Xv [29]:Th L Zlg:=⟨aQo,fun x h=>by cases h⟩
def Qu {L ks:Zbp}{b:Int}(h:Za8U/\#[N5,x∈L])(hb:b∈L):#[aGn,0].Nodup/\#[fy,qc ks b,x∈L]:=by
 unfold qc;split
 ·exact h
 ·rename_i n
  refine⟨vU h.1 n,Zf9⟩;rcases ZqH with z | z
  ·exact h.2 x z
  ·rw[ZcA];exact hb
def Ed [29]{a b:Int}(ha:a∈L)(hb:b∈L):∀ [233],(ci.map (·.1)).Nodup->ZaKe ->
  (#[uy,0].map (·.1)).Nodup/\(#[fy,ZaIJ,ZatK])/\∀ k,k∈#[uy,0].map (·.1)->k∈ci.map (·.1)\/k=a
 | [],_,_=>by
  refine⟨Za8y,Zf9,fun k hk=>?_⟩
  ·simp[dU]at hx
   subst hx;exact#[zp,ha,#[jV,by simp at hy;rw[hy];exact hb]]
  ·simp[dU]at hk
   exact Zap hk
 | x::r,hn,hl=>by
  rw[Zr,ZW]at hn;unfold dU
  by_cases h:ZJs
  ·rw[ZcH]
   refine#[aKy,#[cB,Zr,ZW,hn],Zam (Zair)];rcases ZJh with z | z
   ·subst z
    obtain⟨h1,h2,h3⟩:=hl x Ze;exact⟨h1,Qu ⟨h2,h3⟩ hb⟩
   ·exact hl y Zz1
  ·rw[ZcG]
   obtain⟨i1,i2,i3⟩:=Ed ha hb (ci:=r) hn.2 (#[QS,hl]);refine#[aKy,?_,?_]
   ·rw[Zr,ZW]
    refine⟨ZcM,i1⟩;rcases i3 _ z with z | z
    ·exact hn.1 z
    ·exact h z
   ·rcases ZJh with z | z
    ·subst z;exact hl _ Ze
    ·exact i2 y z
   ·rw[Zr]at hk
    rcases Zcw hk with z | z
    ·exact Zam (Zan_)
    ·rcases i3 k z with z | z
     ·exact Zam Zz1
     ·exact Zap z
def NA [29][76]{d:aX}(h:ZabK)[398]:Th L (gz st d):=by
 unfold gz;split
 ·cases d with
  | come g=>exact⟨h.kn,ZrG⟩
  | go g=>exact⟨h.kn,ZrG⟩
  | exch a b =>
   have ha:=#[amq,hn,a];have hb:=#[amq,hn,b];obtain⟨j1,j2,_⟩:=Ed ha hb h.kn ZrG;obtain⟨k1,k2,_⟩:=Ed hb ha j1 j2;exact⟨k1,k2⟩
 ·exact h
def Ip [29]{a:Int}:∀ [233],ZaKe->#[J0,0].Nodup/\(#[jZ,ZacP,y∈L])/\∀ y,y∈ZacP->a∈ci.map (·.1)
 | [],_=>⟨aQo,(fun y h=>by cases h),fun y h=>by cases h⟩
 | x::r,hl=>by
  unfold tH
  by_cases h:ZJs
  ·rw[ZcH]
   obtain⟨_,h2,h3⟩:=hl x Ze;exact⟨h2,h3,fun y _=>by rw[<-h];simp⟩
  ·rw[ZcG]
   obtain⟨i1,i2,i3⟩:=Ip (ci:=r) (a:=a) #[QS,hl];exact⟨i1,i2,#[jV,Zd _ (i3 y hy)]⟩
def Th.kk [29][76](h:ZabK):ZrD<=Zhv:=by
 have:=jA h.kn (m:=L) fun x hx=>by obtain⟨y,hy,e⟩:=Zk9;rw[<-e];exact (ZrG y hy).1
 rwa [Y5]at this
structure LI [33]:Zaa where
 nd:ml.Nodup
 lo:#[ajx,p.1<p.2]
def YL:LI []:=⟨aQo,fun p h=>by cases h⟩
def Q7 [76][19](h:LI ml)[464]:LI (tP st ml d):=by
 unfold tP;split
 ·rename_i hj
  cases d with
  | come g=>exact h
  | go g=>exact h
  | exch a b =>
   have hab:ZIr:=fun e=>by
    subst e
    cases e:ZAM with
    | none=>simp[bf,e]at hj
    | some m=>simp[bf,e]at hj
   show LI (wT ml ZGg)
   unfold wT;split
   ·exact h
   ·rename_i n
    refine#[m1,ZpP]
    ·rw[aQT]
     exact#[zp,h.nd,#[a8V,n (by rw[ZaCf]at e;rw[<-e];exact hx)]]
    ·rcases ZY6 with z | z
     ·exact h.lo p z
     ·rw[ZcA]
      unfold j7;split
      ·assumption
      ·show a<b
       lia
 ·exact h
#print Wz
namespace L2
open PySem PySem.Spec PyProof.Rows
def He [325]:PI X tg l (N5 K tl):=by subst hK;exact ca hl
def P6 {wi1:TI}{g1:TG}{tt1:TT}{te:TE}[198](h:wi1 σ H Za0X):Vb zB wi1 g1 tt1 te a D σ H:=by
 unfold Vb zB;dsimp only;rw[ZaB];exact h
#print L2
namespace Wz
open PySem L2
abbrev xf:aX->Zb3
 | ZayR=>true
 | _=>false
def IT [179][33][464]:#[bd,ZafG,Zai'+(#[a8W,xf d])]:=by
 unfold tP;split
 ·cases d with
  | come g=>exact ZaN
  | go g=>exact ZaN
  | exch a b=>show #[bd,(wT ml _),_];unfold wT;split<;>simp[xf]
 ·lia
abbrev gf [170]:ZeF:=ZN0 wU []
def xv [170][464]:gf (ds++[d])=wU (gf ds) d:=by unfold gf;rw[aXU];rfl
def Az:∀ [170][179],(ZN0 ZrE st).deeds=Zlp++ds
 | [],st=>ZaA
 | d::ds,st=>by rw[aQU,Az ds,FU,aQb];rfl
def B8 [170]:#[yV,0].deeds=ds:=by unfold aY;rw[Az];rfl
structure Qq [80][170]:Zaa where
 good:jS (aY ds)
 of:Of L (aY ds)
 sz:Sz ZiO (aY ds)
 al:CZ (aY ds) (gf ds)
 ci:Th L (aY ds)
 mo:LI (gf ds)
 ml:#[aX,gf,ds]<=#[aX,ds.filter,xf]
def Wm [29]:Qq L []:=⟨AD,of_empty,YR,FV,Xv,YL,ZaN⟩
def iL [365][257]:gz ZyV d=aY (ZI'):=by unfold gz;rw[Zdj,sx]
def Be [365][257]:tP ZyV (gf ds) d=gf (ZI'):=by unfold tP;rw[Zdj,xv]
def Qq.next [29][365](h:Qq L ds)[257][337]:Qq L (ZI'):=by
 have e1:=Zuw;have e2:=Be hj;refine#[aWJ,?_,?_]
 ·rw[<-e1];exact Do h.good #[eB,(hn g hg).2]
 ·rw[<-e1];exact Ro h.good h.of #[eB,ZaJq]
 ·rw[<-e1,Zh];exact R0 h.sz d
 ·rw[<-e1,<-e2];exact Ij h.al
 ·rw[<-e1];exact NA h.ci #[eB,ZaJq]
 ·rw[<-e2];exact Q7 h.mo d
 ·rw[<-e2,aQM,Zh]
  have h1:=IT ZyV (gf ds) d;have h2:=h.ml;cases e:xf d<;>simp[e]at h1 ⊢<;>lia
def pC [29][171](hd:cz ds)(hn:#[ajy,ZEq]):∀ i,Qq L (ZCm i)
 | 0=>Wm
 | i+1=>by
  have ih:=pC hd hn i;rw[ZH]
  cases e:ds[i]? with
  | none=>simpa using ih
  | some d=>rw[ZG];exact ih.next (hd i d e) (hn d (Zy e))
def QO {i j c:Int}(hi:0<=i/\i<100)(hj:0<=j/\j<100)(h:j4 i c=j4 j c):i=j:=by
 have ht0:0<=Zang:=ZTS;have ht1:Zang<ZB':=ZTT;unfold j4 at h;dsimp only at h;generalize Zang=t0 at *;generalize ZCa=q at *
 have h2:#[tz,i*(1+t0),q]=#[tz,j*(1+t0),q]:=by
  by_cases e:ZJt
  ·rw[Zik,Zik]at h;lia
  ·rw[Zij,Zij]at h;exact h
 have h3:Zass ∣ ZaD_:=by
  have h5:=Int.dvd_of_emod_eq_zero (Int.emod_eq_emod_iff_emod_sub_eq_zero.mp h2)
  have e:i*(1+t0)+q-(j*(1+t0)+q)=ZaD_:=#[gN,Zajz]
  rw[e]at h5;exact h5
 have key:∀ d:Nat,d<100->d≠0->Nat.gcd ZdH d=1:=Zal
 by_cases hij:i=j
 ·exact hij
 exfalso
 have h6:ZdH ∣ (i-j).natAbs*ZaK':=by
  have:=Int.natAbs_dvd_natAbs.mpr h3;rw[Int.natAbs_mul]at this;exact this
 have h7:ZdH ∣ ZaK':=Nat.Coprime.dvd_of_dvd_mul_left (key _ Zah (Zad)) h6;have:=Nat.le_of_dvd Zah h7
 lia
inductive JQ [12]:Zaa
 | mk (t ld w m ls:Addr)(H0:Hp)(es ds:Zcv)[80](_:vs=[Zai t,Zai ld])[121](_:i8 H ld ds)(_:ld≠ls)(_:cz (es++ds))(_:Zaak)(_:(#[TA,es++ds]))(_:#[bd,ZaCo,300])(_:#[aSY,(aY (es++ds)),(gf (es++ds)),Q Zqd H'])
def QN {k c m:Int}(h:ZaQF):ZYJ∈ZeU m c:=by
 unfold namesL;rw[Zu];exact#[aKx,Zrr,#[d9,ZajA h.1]]
def ux [201]:∃ k:Int,(ZaQF)/\g=ZYJ:=by
 unfold namesL at h;obtain⟨k,hk,rfl⟩:=ZXw;have:=ZaBw;exact#[dU,k,Zad]
def uz {m n c g:Int}(h:g∈ZeU m c)(hmn:m<=n):g∈ZeU n c:=by
 obtain⟨k,hk,rfl⟩:=ux h;exact QN ⟨hk.1,Zad⟩
abbrev Vk [114]:Zaa:=∀ a b,f a=f b->a=b
def Cc [324][272](h:g∉aR w):wr w g=g:=by
 unfold wr
 cases e:ZaP w g with
 | none=>rfl
 | some m=>exact #[aMa,h]
abbrev bJ [114]:Nat->Int->Int
 | 0,g=>g
 | n+1,g=>f (bJ f n g)
def vF [114](m:Nat):∀ [42][167],bJ f (n+m) g=bJ f n (bJ f m g)
 | 0,_=>#[bm,Nat.zero_add]
 | n+1,g=>by
  rw[Nat.add_right_comm]
  show f (bJ f (n+m) g)=f (bJ f n (bJ f m g))
  rw[vF f m n g]
def AI [91](h:Vk f):∀ [42]{a b:Int},bJ f n a=bJ f n b->a=b
 | 0,_,_,e=>e
 | n+1,_,_,e=>AI h n #[fR,h]
def r6 [91][192]:∀ n,bJ f n g∈ks
 | 0=>hg
 | n+1=>hk _ (r6 hk hg n)
def xC:∀ {l:Zbp},¬ l.Nodup->∃ i j:Nat,i<j/\#[aKP,#[dv,l[j]?]]
 | [],h=>#[oE,aQo,h]
 | a::r,h=>by
  by_cases ha:a∈r
  ·obtain⟨n,hn,e⟩:=aQX ha
   exact⟨0,n+1,Zbdi,a,rfl,by rw[List.getElem?_cons_succ,Zs hn,e]⟩
  ·have hr:¬ r.Nodup:=#[aF,h (ZW.mpr ⟨ha,z⟩)]
   obtain⟨i,j,hij,x,e1,e2⟩:=xC hr;exact⟨i+1,j+1,Nat.succ_lt_succ hij,x,ZNd,Za7l⟩
def Iu [91](hf:Vk f)[192]:∃ n,0<n/\n<=Zwk/\bJ f n g=g:=by
 have h:¬ (ZaRt Zawb).Nodup:=fun nd=>by
  have:=jA nd (m:=ks) fun x hx=>by
   obtain⟨n,_,rfl⟩:=Zk9;exact r6 hk hg n
  rw[Y5,aQl]at this
  lia
 obtain⟨i,j,hij,x,e1,e2⟩:=xC h;rw[ZE]at e1 e2
 have hj:j<ZUH:=by
  have:=(Zrh (#[N6,#[dv,(ZaRt Zawb)[j]?],ZE,e2])).1;simpa using this
 have hi:i<ZUH:=Zad
 rw[aQG hi]at e1;rw[aQG hj]at e2;have e1':bJ f i g=x:=ZIW;have e2':bJ f j g=x:=Zl e2;refine#[ab2,j-i,?_]
 have e3:ZaUR:=ZaZs
 rw[vF]at e3;exact AI hf i e3
def IB [91][272]:∀ [42],0<n->bJ f n g=g->∃ m,0<m/\m<=n/\bJ f m g=g/\ZafT:=by
 intro n
 induction n using Nat.strongRecOn with
 | _ n ih =>
  intro hn he
  by_cases h:∃ k,0<k/\k<n/\bJ f k g=g
  ·obtain⟨k,k0,kn,ke⟩:=h
   obtain⟨m,m0,mk,me,mf⟩:=ih k kn k0 ke;exact⟨m,m0,Zad,me,mf⟩
  ·exact⟨n,hn,ZaN,he,fun k k0 kn ke=>h ⟨k,k0,kn,ke⟩⟩
abbrev cJ [114][167](m:Nat):Zbp:=(ZgM m).map #[iB,ZGj]
def uM [91](hf:Vk f)[272]{m:Nat}(hm:ZafT):ZaK6:=by
 cases Classical.em ZaK6 with
 | inl h=>exact h
 | inr h =>
  obtain⟨i,j,hij,x,e1,e2⟩:=xC h;unfold cJ at e1 e2
  have hj:j<m:=by
   have:=ZayY;simpa using this
  rw[ZE,ZXV]at e1;rw[ZE,aQG hj]at e2;have e1':bJ f i g=x:=ZIW;have e2':bJ f j g=x:=Zl e2
  have e3:ZaUR:=ZaZs
  rw[vF]at e3;exact #[oE,(AI hf i e3),(hm (j-i) Zah (Zad))]
def yV [91][272]{m:Nat}(hm:0<m)(he:bJ f m g=g){x:Int}(hx:x∈ZJU):f x∈ZJU:=by
 unfold cJ at hx ⊢;obtain⟨i,hi,rfl⟩:=Zk9;have hi:=ZayQ
 by_cases h:i+1<m
 ·exact ZlQ #[dU,i+1,Zrb h]
 ·refine ZlQ #[cr,0,Zrb hm]
  have:i+1=m:=Zad
  rw[<-this]at he;exact he.symm
def BY (l:Zbp):#[ZF,0].Perm l:=Za8Y l _
abbrev wQ [114][167](m:Nat):Zaa:=0<m/\bJ f m g=g/\ZafT
abbrev CO [326][167]:Nat:=(ZaLa #[iB,#[lx,bJ f Zcf g=g]]).getD 0+1
abbrev gB [326][167]:Zbp:=cJ f g (CO f N g)
def Ay (p:ZAp):∀ (N m:Nat),m<N->p m=Zae->(∀ k,k<m->p k=Zaz)->ZaLa p=Zab m
 | 0,m,h,_,_=>Zad
 | N+1,m,h,hm,hk=>by
  rw[List.range_succ,List.find?_append]
  by_cases e:m<N
  ·rw[Ay p N m e hm hk];rfl
  ·have e:m=N:=Zad
   subst e;rw[List.find?_eq_none.mpr #[f8,#[fp,hk x (ZNj hx)]]];simp[hm]
def OL [91][272]{m N:Nat}(h:Zabo)(hN:m<=N):CO f N g=m:=by
 obtain⟨h0,h1,h2⟩:=h;unfold CO;rw[Ay _ N (m-1) Zah #[bj,#[pR,m-1+1,m],Zc h1] fun k hk=>Zb (h2 Zc6 Zah (Zad))];simp;lia
def Dq [223][272](hg:g∈K)[449]:ZaJ1:=by
 obtain⟨n,n0,n1,n2⟩:=Iu hf hk hg;obtain⟨m,m0,m1,m2,m3⟩:=IB n n0 n2;have R:Zabo:=⟨m0,m2,m3⟩;rw[#[el,OL,R]];exact R
def l6 [91]{g x:Int}{m:Nat}:x∈ZJU↔∃ i,i<m/\x=ZGj:=by
 unfold cJ;rw[Zu];constructor
 ·rintro⟨i,hi,rfl⟩;exact#[dU,i,ZayQ]
 ·rintro⟨i,hi,rfl⟩;exact#[dU,i,Zrb hi]
def yC [91]{S:Zbp}(h:ZadE):∀ [42]{x:Int},x∈S->bJ f n x∈S
 | 0,_,hx=>hx
 | n+1,_,hx=>h _ (yC h n hx)
def BI [91][272]{m:Nat}(R:Zabo){S:Zbp}(hS:ZadE)(hg:g∉S):#[fy,ZJU,x∉S]:=fun x hx z=>by
 obtain⟨i,hi,rfl⟩:=ZYu;have:=yC hS (m-i) z;rw[<-vF,#[pR,m-i+i,m],ZzN]at this;exact hg Zcl
abbrev gv [326]:Zbp->Zbp->ZRA
 | [],_=>[]
 | g::ks,S=>#[cx,g∈S,Zadi,Zjx::gv f N ks ZadQ]
def rA [223][449]:∀ [421],(#[N5,x∈K])->(ZadE) ->
  #[arE,0].flatten.Nodup/\(#[fy,ZarF,x∉S/\x∈K])/\(#[N5,x∈S\/x∈ZarF])/\∀ r∈Zadi,∃ g∈ks,r=Zjx/\ZaJ1
 | [],S,_,_=>Za80
 | g::ks,S,h1,h2=>by
  have hgK:=h1 g Ze;have h1':#[N5,x∈K]:=#[anQ,h1];unfold gv
  by_cases hg:g∈S
  ·rw[Y9 hg]
   obtain⟨a,b,c,d⟩:=rA hf hk hN ks S h1' h2;refine⟨a,b,Zf9,Ztd⟩
   ·rcases Zul with rfl | z
    ·exact Zam hg
    ·exact c x z
   ·obtain⟨q,hq,e⟩:=d r hr
    exact ZaOW
  ·rw[Y8 hg]
   have R:=Dq hf hk hgK hN;have ap:=BI R h2 hg;have cl:#[fy,Zjx,f x∈Zjx]:=#[f8,yV R.1 ZzN hx]
   have inK:#[fy,Zjx,x∈K]:=fun x hx=>by
    obtain⟨i,hi,rfl⟩:=ZYu;exact r6 hk hgK i
   have g0:g∈Zjx:=ZajB ZaM1
   obtain⟨a,b,c,d⟩:=rA hf hk hN ks ZadQ h1' fun x hx=>by
    rcases ZqH with z | z
    ·exact Zog (Zam (h2 x z))
    ·exact Zog (Zap (cl x z))
   rw[aQk];refine⟨?_,Zf9,Zf9,Ztd⟩
   ·rw[aQT]
    exact⟨uM hf R.2.2,a,#[a8V,(b y hy).1 (Zog (Zap #[pI,e,hx]))]⟩
   ·rcases ZqH with z | z
    ·exact⟨ap x z,inK x z⟩
    ·exact#[fd,#[bl,(b x z).1 (Zog (Zam q))],(b x z)]
   ·rcases Zul with rfl | z
    ·exact Zap (Zog (Zam g0))
    ·rcases c x z with q | q
     ·rcases Zex q with q | q
      ·exact ZHx
      ·exact Zap (Zog (Zam q))
     ·exact Zap (Zog (Zap q))
   ·rcases Zcw hr with rfl | z
    ·exact⟨g,Ze,rfl,R⟩
    ·obtain⟨q,hq,e⟩:=d r z
     exact ZaOW
def Du [91]{N:Nat}[272]:#[aW,(gB f N g)]=CO f N g:=by unfold gB cJ;rw[Y5,aQl]
def Paired.mapP' [433]:#[aZn,a∈l₁->F a b->G a b]
 | _,_,Zan,_=>Zan
 | _,_,ZaMP,h=>ZaC (h _ _ Ze e) (Paired.mapP' r fun a b ha=>h a b Zaye)
structure Ih [174]:Zaa where
 inj:Vk (wr W)
 cl:#[iV,Zio,wr W g∈Zio]
 nd:#[Kb,W]
def nc [64][272](h:g∈Zio):#[gy,W,g,(wr W g)]:=by
 obtain⟨m,e⟩:=Zn7 (ZCb h);unfold wr;rw[e];rfl
def wq [76](G:ZnG):ZaHE:=by
 refine⟨fun a b e=>?_,#[eB,Zj9 g _ (nc hg)],G.wn⟩
 by_cases ha:a∈Zhd
 ·have ea:=nc ha
  by_cases hb:b∈Zhd
  ·have eb:=nc hb
   have h1:=(Zj_ a _).mp ea;have h2:=(Zj_ b _).mp eb;rw[e,h2]at h1;exact #[pe,h1]
  ·have:=Zj9 a _ ea
   rw[e,Cc hb]at this;exact #[oE,Zcl,hb]
 ·by_cases hb:b∈Zhd
  ·have:=Zj9 b _ (nc hb)
   rw[<-e,Cc ha]at this;exact #[oE,Zcl,ha]
  ·rw[Cc ha,Cc hb]at e
   exact e
def AT [174]:#[aX,aR,W]=Ze7:=by unfold aR;rw[Y5]
def Ih.ring [450]:wQ Zcg g (CO Zcg Ze7 g):=Dq ZN7 P.cl hg #[bj,AT,ZaN]
def Ih.ord_le [450]:ZaFe<=Ze7:=by
 have h:=jA (uM ZN7 (ZajC hg).2.2) (m:=Zio) fun x hx=>by
  obtain⟨i,_,rfl⟩:=ZYu;exact ZaSa
 rw[AT]at h;unfold cJ at h
 rwa [Y5,aQl]at h
abbrev fV [174]:ZRA:=gv Zcg Ze7 ZxW []
def Ih.wrong [267]:(#[iV,ZqX,g∈Zio/\wr W g≠g])/\#[xW,0].Nodup/\(#[iV,ZqX,wr W g∈ZqX])/\#[aX,b9,W]<=Ze7:=by
 have m:∀ g,g∈ZqX↔g∈Zio/\wr W g≠g:=fun g=>by
  unfold b9;rw[aXl,#[Xc,0].mem_iff];simp
 refine⟨#[eB,Zacz hg],(#[Xc,0].nodup_iff.mpr P.nd).filter _,#[eB,(m _).mpr ⟨P.cl g (Zacz hg).1,#[aF,(Zacz hg).2 #[pT,ZN7]]⟩],Nh W⟩
def uL [114][167][219]:cJ f g Zcf=cJ f g i++[ZGj]:=by unfold cJ;rw[List.range_succ,Zp];rfl
def sj [114][167][219]:#[aW,(cJ f g i)]=i:=by unfold cJ;rw[Y5,aQl]
abbrev wE [326](q:Zado)[167]:Zado:=if g∈q.1 then q else (q.1++Zjx,q.2++[Zjx])
def o6 [326]:∀ [421][298],ks.foldl (wE f N) (S,rs)=(S++ZarF,rs++Zadi)
 | [],S,rs=>Za80
 | g::ks,S,rs=>by
  rw[aQU];unfold wE gv
  by_cases h:g∈S
  ·rw[ZcH,ZcH];exact o6 f N ks S rs
  ·rw[ZcG,ZcG]
   have:=o6 f N ks ZadQ (rs++[Zjx]);unfold wE at this;rw[this,aQk];simp
abbrev qR [174][219]:Zado:=#[Sy,0].foldl (wE Zcg Ze7) ([],[])
def Jx [174][69](h:#[aX,b9,W]<=n):(qR W n).2=fV W:=by unfold qR;rw[aQm h,o6];rfl
def Lb [64]{i:Nat}[272](h:#[au,ZxW[i]?,g]):qR W Zcf=wE Zcg Ze7 (qR W i) g:=by unfold qR;rw[ZH,h,ZG,aXU];rfl
def Pa [267][219]:#[nF,0].Nodup/\(#[fy,ZnF,x∈ZqX])/\(#[fy,ZnF,wr W x∈ZnF])/\#[bd,ZnF,Ze7]/\#[bd,Zacp,i]:=by
 obtain⟨w1,w2,w3,w4⟩:=P.wrong;have sub:#[fy,ZSx i,x∈ZqX]:=#[f8,aXD hx];obtain⟨a,b,c,d⟩:=rA P.inj w3 w4 ZSy [] sub (fun x h=>by cases h)
 have e:qR W i=(#[j3,ZaYw],gv Zcg Ze7 ZSy []):=by unfold qR;rw[o6];rfl
 rw[e];refine⟨a,ZavU,Zf9,ZV (jA a ZavU) w4,?_⟩
 ·obtain⟨r,hr,hxr⟩:=Za81 hx
  obtain⟨g,_,rfl,R⟩:=d r hr;exact Za82 #[bN,hr,yV R.1 ZzN hxr]
 ·have:∀ [421],#[bd,(gv Zcg Ze7 ks S),Zwk]:=by
   intro ks
   induction ks with
   | nil=>intro S;exact ZaN
   | cons g ks ih =>
    intro S;unfold gv;split
    ·exact Za83 (ih S)
    ·rw[Zx,Zx]
     have:=ih (S++Zach)
     lia
  have h1:=Zcl (ZSx i) [];rw[ZL]at h1
  show #[bd,ZaYw,i]
  lia
abbrev VB [32][294][298]:Zaa:=∃ as:ZeZ,ZZ8/\Za0 (fun a (r:Zbp)=>#[eg,ZUV]) as rs
inductive HD [419][12]:Zaa
 | mk [26][63][21](_:#[a'H,ZaGI])
inductive Lq [419][55]:Zaa
 | mk [342][21](_:ZdP)(_:#[gx,ZVq,#[a'H,#[hE,ZaRX]],ZaXz])
inductive Lr [419][12]:Zaa
 | mk [26][63][21](_:#[awc,Zgw->ZbU->#[dT,ZaCr,#[kU,(fun a (r:Zbp)=>H' a=Zab ZUV),as,fV,ZaI],(Zawd),Zeh]])
inductive Hy [12]:Zaa
 | mk [102](_:#[a'G,VB H' l (fV W)])
def Hj [267]:ZaF6<=Ze7/\∀ r∈fV W,Ze5<=Ze7:=by
 obtain⟨w1,w2,w3,w4⟩:=P.wrong;have h:=Pa P ZaF5;rw[Jx W Zbu]at h;refine#[mB,Ztd];obtain⟨g,hg,rfl,R⟩:=(rA P.inj w3 w4 ZxW [] (fun x h=>h) (fun x h=>by cases h)).2.2.2 r hr;rw[Du];exact ZajD (w1 g hg).1
#print Wz
namespace L2
open PySem PySem.Spec PyProof.Rows
inductive Pg [11]:Zaa
 | mk (p:_)(kvs:_)[222](_:#[jK,ZeH])
def oW [60]:#[id,ZiI,Pg]:=by
 intro pins s σ H xs us Q I r h;obtain⟨p,kvs,rfl,hp,q⟩:=h;obtain⟨u,rfl,rx⟩:=ZeR;cases rx;obtain⟨hz,hS,vs,rv,m⟩:ZaYM:=ZJc;have hlen:ZiG:=Zt rv;refine kt_call_dict hS m Zah fun h' hm hs=>?_;have kp:ZaTd:=fun b o' e=>hs.extBut b o' Zjp ZhW;have e0:ZaV_:=ZaRl;have e1:ZaAz:=e0.2.1;exact#[tJ,#[KT,Zb4,kp,ZeH,⟨hz,e1,vs,rv,hm⟩]]
def Ke [43]:#[aSx,ZTD,1]:=by
 unfold vo;rw[#[bh,#[aeN,ZaL,1]=min 1 ZaL,HT.sIx_nat _ _ 1],HT.sIx_none]
 by_cases h:xs=[]
 ·subst h;rfl
 ·have:0<ZaL:=Za85 h
  rw[#[eA,min 1 ZaL=1],aQm (ZWF)]
open PySem PySem.Spec PyProof.Rows PySem.Calls
section
variable {X:Cx}{pins:Ze0}{σ:St}{H H':Hp}{s:Shared}
def aQ.grown {h':Heap}{t':Nat}(I:Zi6)(k:ZaI')(old:#[lr,ZaAn->Za9->Zpa])(sm:ZaC2)
  (new:#[ee,ZfO,Za9,#[mh,H',h',b,o]]):ZaBo:=by
 refine I.un ⟨ZbdC,ZbdD,#[Bv,old b u q n],ZagS,#[Ma,ZAR],#[agT,ZAR],fun b ps q=>⟨#[],#[fp,ZAR]⟩⟩ ZGR
 cases hb:H b with
 | none=>exact new b u e hb
 | some v =>
  have:=sm _ _ hb;rw[this]at e;cases e;exact (Zbe b _ hb).stay (ZauX) (fun c q=>ZAR) fun c xs q=>ZAR
#where
def Sa:#[aiY,Zd7,Za7s]:=Zq2
def Qg:#[aiY,Zd7,ZaiB]:=Zq2
noncomputable abbrev Qm [138](z TI TO:Addr)(f0:Value)(b:Bool):Zaa :=
 Zep z=some { cls:=ZXJ,dict:=none,data:=Za1 #[f0,ZHQ,Zjw,ZUI,Zai TO],slots:=#[] }
section
variable {prog:Program}{w:World}{A:Around}{E:ZfE}{s:Shared}
def FI [41]{Q:#[fD,#[gh,Obj]]}(h:Q (Zd5 a) s):#[vY,(Za86 a)]:=fun Γ p _=>by
 unfold loadIfAlive;rw[Sem.wp_loadIfAlive];exact Zg (M:=ZaN3) (A:=A) (E:=E) h Γ p (Za87)
def GO {z TI TO T:Addr}{b:Bool}{o:Obj}{Q:ZaxC}(hz:ZanH)(hT:#[qF,T])
  (hQ:∀ h',ZanI->ZvH z ZaK h'->Q Zaz ZlI):#[vY,#[i8,Za88,z]]:=by
 unfold Builtin.SmallTypes.ownedTupleIsFree;refine Y6 (#[g_,hz,rfl,ZgL T,?_])
 show #[hQ,Za86 T]
 refine #[mF,FI];rw[hT]
 show #[hQ,Zoh #[aj,z] 1]
 refine Y6 (#[g_,hz,rfl,ZHQ,?_])
 cases b with
 | true=>exact #[k_,Zg,(hQ _ hz (by exact#[db,#[v3,rfl]]))]
 | false=>exact Y6 (ZN8 hz Za7 fun h1 hz1 hs1=>Zg (hQ _ hz1 hs1))
#where
abbrev uq [32]:ZeZ->ZYR->Hp
 | [],_=>H
 | _,[]=>H
 | ZjJ,Zhj=>#[cT,Zu5,t,ZJ9]
def AM [38]:∀ [284][45],b∉ts->uq H ts ps b=H b
 | [],_,_,_=>rfl
 | Zdh,[],_,_=>rfl
 | ZjJ,Zhj,b,h=>by
  show upd Zu5 t _ b=_
  rw[ai (ZaXo)];exact AM fun m=>h #[dM,m]
def KH [38]:∀ [284][422],Za8_->b∈ts->uq H ts ps b=Zab o->Za9->∃ j:Nat,∃ p,#[au,ts[j]?,b]/\#[au,ps[j]?,p]/\o=ZcR ZJ9
 | [],_,_,_,_,h,_,_=>nomatch h
 | Zdh,[],_,_,_,_,e,n=>by rw[#[eC,uq H (_::_) []=H],n]at e;cases e
 | ZjJ,Zhj,b,o,nd,h,e,n=>by
  by_cases hb:b=t
  ·subst hb
   rw[#[aJS,(b::ts),#[cT,Zu5,b,ZJ9]],ac]at e;exact#[dt,0,p,rfl,ZGs]
  ·rw[#[aJS,ZKc,#[cT,Zu5,t,ZJ9]],Zfi]at e
   obtain⟨j,q,e1,e2,e3⟩:=KH Zat8 ((Zcw h).resolve_left hb) e n;exact⟨j+1,q,e1,e2,e3⟩
def AN [38]:∀ [284],Za8_->Zj'=Zeu->Za0 (ZaSt) ts ps
 | [],[],_,_=>Zan
 | [],Zdh,_,h=>ZiD
 | Zdh,[],_,h=>ZiD
 | ZjJ,Zhj,nd,h=>by
  refine ZaC (show upd Zu5 t ZT7 t=_ from ac) ?_;have hn:=ZaaR
  have key:Za1h:=fun {us qs R S} hRS pr=>by
   induction pr with
   | nil=>exact Zan
   | cons r _ ih=>exact ZaWX
  refine key (R:=ZaSt) (fun u hu q e=>?_) (AN (H:=H) hn.2 ZWn)
  show upd Zu5 t _ u=_
  rw[#[s7,#[fP,hn.1,z,hu]]];exact e
#print L2
namespace Wz
open PySem L2
def Ni [64]{x:Int}(h:x∉ZqX):ZaUJ:=by
 by_cases hx:x∈Zio
 ·by_cases e:ZaUJ
  ·exact e
  ·exact #[oG,ZagW,⟨#[Xc,0].mem_iff.mpr hx,Zc e⟩,h]
 ·exact Cc hx
#print Wz
namespace L2
open PySem PySem.Spec PyProof.Rows
def LY [295]{v:V}{u r:Value}[52][50][87]{k:cQ}[187][3][134](l:ZIK)(ry:Zaem)(rv:bE v r)(h:∀ s',#[b7,#[bt,a,ZaxW],s']->Q () s') :
  #[w4,(dictSet a u r)]:=by
 obtain⟨z,hd,vs,rel,dd⟩:=ZZv
 have hz:ZXA:=Za8C
 have hl:ZacG:=ZarI
 refine #[aXs,wpAny_dictSet_pairs];have he:ZSE:=let ⟨q,_,_,hq,_⟩:=dd';ZAB;exact vp I (by rw[e];exact True.intro) hs he ZaSp
def qd {prog:Program}{w:World}{A:Around}{R:Znr}{s:Shared}{kx vx target bJ:Expr}{ifs:Zbv}{scope:Scope}{pos:Pos}{it:Value}{acc:Addr}{env:Env}(I:ZHB)
  (turn:∀ n s,ZnL->wpAny ZvX A ZQl (fun r s₁=>match r with
   | none=>ZLe
   | Znh=>wpAny ZvX A ZaHx (fun _ s₁'=>wpAny ZvX A ZaHw (fun _ s₂ =>
     wpAny ZvX A (forIn ifs true fun c r=>if ZzJ then do let ok <-ZBJ;ZRy else ZRx) (fun ok s₃ =>
      if ZHo then wpAny ZvX A #[ne,kx] (fun kv s₄=>wpAny ZvX A #[ne,vx] (fun vv s₅ =>
       Zcb ZvX A (dictSet acc kv vv) (fun _ s₆=>ZaDa) Zv4 s₅) Zv4 s₄) Zv4 s₃
      else ZJG) Zv4 s₂) Zv4 s₁') Zv4 s₁) Zv4 s)
  (n:Nat) (h:ZnL) :
  #[v0,#[a0z,Zoa]]:=by
 refine ZLP
 show wpAny _ A (#[a0z,ZB7].onRaise (fun x=>do Zbc8;ZHM)) _ _ s
 refine ZHP;rw[compTurn_dict];refine ZamY
 cases r with
 | none=>exact ZIb
 | some v =>
  refine ZamW;refine ZamX
  cases ok with
  | false=>exact ZJB
  | true =>
   exact #[atj,fun kv s₄ h₄=>#[aGo,fun vv s₅ h₅=>Y6 (aQD (aQj #[amV,h₅,fun _ s₆ h₆=>ZaC4]))]]
abbrev Yf (tt:TT)(tk tv:TE)[84]:TS:=#[vA,tt,#[vB,#[eM,b,#[mU,tk,Za0b],Zus]]]
abbrev U2 [297](tk tv:TE)[96]:TE:=fun σ H Q=>wi σ H fun J H1=>∀ a,ZIM ->
 qH J g (Yf tt tk tv a) Zaa9 Zq7 #[eI,a,Zc5]
def OX {X:Cx}{kx vx tg bJ:Expr}{ifs:Zbv}{sc so:Scope}{pos:Pos}{N':Zbo}{src:ZnJ}{wi:TI}{g:TG}{tt:TT}{tk tv:TE}{N:Zbo}(hso:Zamy)(hXN:ZKy)(S:Zaok)(hc:ZfU)(hi:ZA4)
  (hb:#[aq5,Zary/\Zarz/\#[pv,PE,kx,tk]/\#[pv,PE,vx,tv]])
  (hs:ZE6:=by intro _;rfl):PE X ZaRi (U2 wi g tt tk tv src):=by
 subst hXN;intro pins s σ H Q I h
 obtain⟨cl,hcl,q1,q3⟩:=oY (sc:=sc) (env:=X.env) fun y hy hf=>by
  have:=ZJ7;rw[<-hso]at this;exact ZMh
 rw[arm_eval_DictComp];refine Za7h;obtain⟨it,fp,tn,J,H2,e,I2,T,st2,f2,hR⟩:=h2;subst e;refine ZHO
 have I3:aQ X pins σ Zam6 { s2 with heap:=s2.heap.push { cls:=ZiJ,dict:=none,data:=Zdl #[] } } :=
  #[arT,(vt ZvC I2.big)]
 have hfr:=Zajf;obtain⟨W,⟨m0,w0⟩,turn⟩:=ZKB
 have flt:ZAI:=fun b hb=>by obtain⟨o,e,_⟩:=ZR1;exact Zb2
 generalize hs3:({ s2 with heap:=s2.heap.push { cls:=ZiJ,dict:=none,data:=Zdl #[] } }:Shared)=s3 at I3 ⊢
 have e3:s3.heap=s2.heap.push { cls:=ZiJ,dict:=none,data:=Zdl #[] }:=ZGW
 have sz3:ZMQ:=ZKa
 have hf3:#[Es,Zam6]:=ZST
 have flt3:ZMP:=Zaom
 have st3:ZamE:=Zan1
 refine aXB S.nocell (by intro y hy;simp at hy) ZKx S.kind;have kp4:ZanU:=ZJ6;have I4:=Zah9;have st4:ZJe:=Zan2;generalize hC:s3.heap.objs.size=C at I4 hns4 hsb4 ⊢;obtain⟨hg,ht,hek,hev⟩:=hb cl C s3 Zam6 fp
 let Y:Cx:=eX X sc cl C N' s3 Zam6 fp
 have loop:∀ s5:Shared,Zah8->codeAny Zw3 X.A #[a68,ZaRi]
   Zasf s5:=by
  rintro s5 rfl
  have stat:ZapM:=fun {H'} hn b hb=>by
   obtain⟨f0,f1,f2',f3,f4,f5⟩:=ZIw;refine ZanL
   ·show Zyc
    rw[<-hC];exact ZKV
   ·have z:ZzZ:=z
    rcases ZK9 with y | y
    ·exact f1 y
    ·exact ZH_
  refine #[au7,qd];rintro n s6 ⟨i,σ6,H6,I6,st6,fr6,w6⟩;rcases ZBd with ⟨stop,qn⟩ | ⟨go,Nx,hN,step⟩
  ·refine ZahD
   obtain ⟨hr,I7⟩:=zz;subst hr;obtain⟨m,hn,_⟩:=ZHU;refine ZaqR
   have neC:ZanT:=Zao5
   have freeC:ZKA:=I7.free
   have un:#[auT,Zam6] :=
    ⟨ZbcI,fun b o e n hb hx=>by
      obtain⟨sl,q⟩:=ZaaF
      exact ZabQ,I7.base.free,fun b o e hx=>by
      obtain⟨o',q⟩:=Zaal
      exact ZabP,I7.base.tups,I7.base.frzs,I7.base.tbls⟩
   have hok:Zae8:=fun b ob e=>by
    refine Zae7;rintro rfl;rcases hc' with z | z
    ·rw[<-z,freeC]at e;cases e
    ·rw[freeC]at z;cases z
   have J7:Zaoq:=Zar';exact Zaf6
  ·refine ZahF
   obtain ⟨u,hr,h7⟩:=zz;subst hr;refine ZAY;obtain ⟨x,H8,I8,r8,y8,st8,fr8⟩:=zz;have I8':=ZBc;refine ZapS;obtain ⟨σ9,H9,I9,q9⟩:=zz
   have again:ZapQ:=fun [358] I7 n7=>by
    obtain⟨m',hm,w7⟩:=Zu_;refine Zao1;obtain⟨o,e,d⟩:=ZR0;exact Zano
   refine Zao8;obtain ⟨H10,I10,q10⟩:=zz
   cases ok with
   | false =>
    rw[Zd0]at q10 ⊢;exact ZA5
   | true =>
    rw[ZaB]at q10 ⊢;refine #[We,hek,fun kv s11 zz=>?_];obtain ⟨y,H11,I11,ry,q11⟩:=zz;refine bS (hev _ s11 σ9 H11 _ I11 q11) fun vv s12 zz=>?_;obtain ⟨z,H12,I12,rz,kvs,kk,hkv,ey,hlen,q12⟩:=zz;subst ey;exact LY (X:=Y) I12 hkv ZiH ry rz fun s13 I13=>Zwl I13 q12
 exact #[ar7,codeAny_compStart_dict]
open PySem
def R4 {tk tv:TE}[198](h:tk σ H fun y H2=>Za0b):Yf zB tk tv a D σ H:=by
 unfold Yf zB;dsimp only;rw[ZaB];exact h
#print L2
namespace Wz
open PySem L2
def F1 [43][42]:#[aSx,#[fb,Zbk],n]:=by
 unfold vo;rw[HT.sIx_nat,HT.sIx_none]
 by_cases h:n<=ZaL
 ·rw[aQW h,#[h1,aQm,ZI,ZaN]]
 ·rw[Za'Y,aXf,#[cn,List.drop_of_length_le]];simp
#print Wz
namespace L2
open PySem PySem.Spec PyProof.Rows
inductive RR [1][11]:Zaa
 | mk [258](_:#[ue,ns.sum])
def LV [60][112]:#[Jb,"sum",RR]:=by
 intro pins s σ H xs us Q I r h;obtain⟨p,ns,rfl,hq,q⟩:=h;obtain⟨u,rfl,rx⟩:=ZeR;cases rx;obtain⟨its,rv,pl,hz⟩:=Zvw;have hl:=rv.length;rw[Y5]at hl;refine #[afn,call_sum_walkG,Zht Zar,I,ZNX]
 have val:Za0k:=fun i v e=>by
  have e:ZZG:=Zra
  have hi:ZaxX:=ZavV
  obtain⟨u,eu,ru⟩:=ZaW3;rw[e]at eu;cases eu;obtain⟨t,rfl⟩:=ru;exact ZaOa
 have hlt:#[dV,p]:=by obtain⟨o,n,e,_⟩:=pl;exact Zb2
 refine⟨I',_,_,_,_,St,(ZNl),rfl,W,st,Zdx,val,fun h' tk t' k=>⟨ZgD,H,ZLy,#[fK,t'],?_⟩⟩
 ·rcases Zazg with z | z
  ·rw[z,hI,hs2];exact ZG'
  ·rw[ZcA,hs2];exact aQx hlt
 ·rw[preSum_getD,<-hl,ZD];exact q
def As:#[au,entryFor table "dict_itemiterator.__iter__",Builtin.«dict_keyiterator.__iter__»]:=entryFor_alias (id':="dict_keyiterator.__iter__") Zajh rfl ZkE Zajh
def zr [379][50][263]{it:Addr}[442](hT:#[ams,it,ZMp])(h:Q ZFe s):#[vY,ZaER]:=by
 refine wpAny_pyIter_slot hT Za8' (aQK Za8' hT As ?go (PySem.F.args_dict_itemiterator_iter_1 _))
 case go =>
  unfold Builtin.«dict_keyiterator.__iter__»;exact Zg #[hH,ZMp,_,hT,PySem.F.slot_dict_itemiterator_next.lookup,h]
abbrev Vy [394](o:Obj)[182]:It :=
 #[aVX,fun i H y H'=>∃ T p,ZGo/\ZUO/\y=Zai T/\H'=#[cT,H,T,[kV p.1,p.2]]]
def JW [9][7][299][156][105] :
  #[tM,ZaUe,ZAF,∃ ok ov,IsItemIter h it d i Zd8 ep ok ov] where
 mem:=ZaA
 obj:=fun i h st b hb=>by
  have e:Zju:=ZcU
  subst e;obtain⟨ok,ov,e⟩:=st;exact⟨_,e,fun v z=>by cases z⟩
 keep:=fun i h h' st k=>by
  obtain⟨ok,ov,e⟩:=st;exact⟨ok,ov,k it Za7 _ e⟩
 item:=by
  intro X hP hw hK hc i pins s σ H E I hf st hg;subst hP hw hK;obtain⟨hH,hi⟩:=hg;obtain⟨lo,vs,rel,hat⟩:=ZLj;obtain⟨f0,f1,f2,f3,f4,f5⟩:=ZeS;have hl:ZiG:=Zk8;obtain⟨p,hp⟩:Zav_:=⟨kvs[i],ZNZ⟩;obtain⟨q,hq,ek,rv⟩:=Wz.paired_get rel hp;obtain⟨k,v⟩:=q;have ek:Zlb:=ek;have rv:bE p.2 v:=rv;obtain⟨ok,ov,st⟩:=st;rw[hl]at st;have lti:ZazX:=Zk st;refine #[aXC,wpAny_pyNext_items_item,fun key h' hk out hT hsz keep=>ZaMG];refine wpAny_letOwnedTupleGo_items (s:=ZlI) out fun h2 st2 sb2=>?_
  have rk:bE (kV p.1) key:=by
   rw[ek];rcases ZaWs with ⟨j,t,ej,ev⟩ | ⟨j,t,ej,ev⟩
   ·subst ej;exact ZAz
   ·subst ej;exact ZAz
  have hfr:ZXy:=ZI7
  have IL:aQ X pins σ #[Ff,ZaDD] { s with heap:=s.heap.push { cls:=Zf3,data:=Za2 #[key,v] },toks:=s.toks } :=
   #[aSy,[key,v],rk,rv]
  have I2:=IL.turned (t':=s.toks) (h':=h2) (it:=it) (fun b o n1 q=>by
   refine ZaT4
   show Zgz
   by_cases hb:Zax2
   ·subst hb
    have q:(s.heap.push { cls:=Zf3,data:=Za2 #[key,v] }).get? s.heap.objs.size=Zig:=q;rw[Zct]at q;cases q;exact hT
   ·have q:(s.heap.push { cls:=Zf3,data:=Za2 #[key,v] }).get? b=Zig:=q
    refine Zd4 b o n1 ?_;rw[ZaOy]at q
    exact q) #[bj,ZaC0,f0] f1 f3 f4 f5
  refine#[aZU,p,hp,hfr,rfl,#[aLS,hl,st2]]
  have hb':Zju:=ZcU
  subst hb';rw[ZaC0];exact f0
 done:=by
  intro X hP hw hK hc i pins s σ H E I hf st hg;subst hP hw hK;obtain⟨hH,hi⟩:=hg;obtain⟨lo,vs,rel,hat⟩:=ZLj;have hl:ZiG:=Zk8;obtain⟨f0,f1,f2,f3,f4,f5⟩:=ZeS;obtain⟨ok,ov,st⟩:=st;rw[hl]at st;exact #[bcr,wpAny_pyNext_items_end]
 self:=fun _ _ _ _ _ st h=>by
  obtain⟨ok,ov,e⟩:=st;exact zr Zqi h
abbrev Ua (tl:TE):TI:=#[aYX,ZAF]
def O5 [60][299]{tpos:Pos}{l:Expr}{apos cpos:Pos}[83](hbase:#[a5V,l,"items",l,#[jX,l]]:=by rfl)(hline:Zlh:=by rfl) :
  #[aYj,#[D_,#[Bi,l,"items"],[]],(Ua tl)]:=by
 intro pins s σ H R I h;refine Za6G ZvQ ZMW #[pr,hl,Zjf];obtain ⟨x,H1,I1,r1,q1⟩:=zz;obtain⟨d,kvs,e,hH,q⟩:=q1;subst e;cases r1;obtain⟨hz,lo,vs,rel,dd⟩:=ZaWi;obtain⟨ep,hat⟩:=dd.dictAt;obtain⟨o,es,ho,hc,hdat,r⟩:=ZYg;have hl2:ZiG:=Zk8;obtain⟨t1,t2,_⟩:=Ez I1 (Zam ⟨kvs,Rd.of hH⟩);refine⟨ZiI,"dict.items",aXb,Za9a,PySem.F.type_dict_items,t1,t2,aQu rfl (Za6H ?_)⟩;refine Za9b Za9a t1 PySem.F.entry_dict_items (PySem.F.args_dict_items_1 _) (meets_dict_items Zw6 d lo) #[c7,⟨vs,dd⟩];have I2:ZaL':=Za1O;have hV:(s1.heap.push { cls:=ZHy,data:=Za1 #[Zm5] }).IsItemsView s1.heap.objs.size d:=ZEA;refine wpAny_pyIter_items (s:={ s1 with heap:=s1.heap.push { cls:=ZHy,data:=Za1 #[Zm5] } }) (knd:=Zys) hV #[wu,hat.at,Zja] ?_;have sz:(s1.heap.push { cls:=ZHy,data:=Za1 #[Zm5] }).objs.size=ZG5:=Z2 ..;refine⟨_,[_],_,_,_,rfl,#[aKO,ZapY],#[a05,JW],#[aLS,hl2,Zct],Zdx,q o⟩
 ·rw[hdat]at e;cases e;rfl
 ·have e:b=(s1.heap.push { cls:=ZHy,data:=Za1 #[Zm5] }).objs.size:=ZcU
  rw[e,sz];exact I2.fpOk ZXb (Zaje (aXE _))
def L7 {d:Addr}{o:Obj}{kvs:Zip}{g:TG}{tb:TS}{D:nZ}{σ:St}{H:Hp}(Pv:Zlf)(h0:Znz)(hl:ZaP4)
  (hs:∀ i p σ H T,#[aZE,ZGo,ZaDD]) (hd:ZaDd) :
  ∃ W:ZjH,Zld/\∀ i m σ H,ZjF ->
   #[anF,ZAF,ZAF,ZAF]:=by
 refine ZaVk;rintro i m σ H ⟨rfl,hi,p⟩;have q:=ZBb
 by_cases hlt:ZUS
 ·refine ZaPD
  obtain⟨T,p2,hp,hT,ex,e⟩:=y;subst e ex;exact hs i p2 σ _ T hp p hT
 ·have e:ZaAK:=Zad
  subst e;exact ZaDh
def K6 {X:Cx}{pos:Pos}(K:PySem.W.Frag){es:Zbv}{k:Nat}{t:Qj}{n:Nat}(hc:ZfU)(h:ZaIv)(hK:ZuZ:=by rfl)
  (hn:ZaNg:=by rfl) (hst:ZavI (·.1)=none:=by rfl):#[aYu,(VV K n t)]:=by
 subst hK;exact fT hc h hn hst
#print L2
namespace Wz
open PySem L2
def jd (A:HA):bL A=[#[Ia,Zob,A.w],#[Ia,ZlN,A.h],#[Ia,Zj7,A.c],#[Ia,Zj6,A.d]]:=by
 unfold bL;simp only[bW,Y8 s1,Y8 s2,Y8 s3,Y8 s4,Y8 s5,Y8 s6]
def UQ [451]:#[LN,Zob,{ A with w:=l }]:=by
 rw[jd,jd];simp only[bW,aQP]
def UP [451]:#[LN,ZlN,{ A with h:=l }]:=by
 rw[jd,jd];simp only[bW,Y8 s1,aQP]
def UM [451]:#[LN,Zj7,{ A with c:=l }]:=by
 rw[jd,jd];simp only[bW,Y8 s2,Y8 s4,aQP]
def UN [451]:#[LN,Zj6,{ A with d:=l }]:=by
 rw[jd,jd];simp only[bW,Y8 s3,Y8 s5,Y8 s6,aQP]
def EE (A:HA):#[aX,bL,A]<ZbF:=#[zx,jd,4]
def VW (A:HA)[445]:bL { A with cs:=cs }=bL A:=#[a_,jd,jd]
def LX:∀ [35]{i:Nat}{p:cQ×V},Za9e=ZNS->#[au,ZA9[i]?,p]->∃ a x,#[au,cs[i]?,a]/\#[dv,ci[i]?]/\p=ZaRV:=by
 intro cs
 induction cs with
 | nil=>
  intro ci i p e h
  cases ci with
  | nil=>simp[dQ]at h
  | cons y ci=>cases e
 | cons c cs ih=>
  intro ci i p e h
  cases ci with
  | nil=>cases e
  | cons y ci=>
   cases i with
   | zero=>exact#[dt,c,y,rfl,ZS8]
   | succ i=>
    obtain⟨a,x,h1,h2,h3⟩:=ih (Za9g e) h;exact⟨a,x,h1,h2,h3⟩
def F0:∀ [35][272],g∉ci.map (·.1)->f8 ZA9 Zsr=Zac
 | [],_,g,_=>by cases ‹Zil›<;>rfl
 | ZAH,[],g,_=>rfl
 | ZAH,y::ci,g,h=>by
  rw[Zr,Zi]at h
  show f8 (#[gv,#[hF,y.1],c]::Zac2) Zsr=Zac
  rw[iE (#[aF,h (Zam (ZL8 z).symm)])];exact F0 #[jj,h,Zap]
inductive PN [397]:Zaa
 | mk [26][63][200](_:(st.circ.map (·.1)).Nodup)(_:ZaCO)(_:#[a9h,Zt5->bq C H' q B st->Zavs->ZbU->Q #[aj,q] H'])
abbrev dZ [172]:aX:=Zoi p.1 p.2
def BJ {HH:Hp}{q t:Addr}{ds:ZeZ}[44]{a b:Int}(h1:#[eN,q,#[ml,Zok]])(h2:Za0 (fun b (e:ZgI)=>ZaH4) ds ps)(ht:HH t=Zac) :
  cR #[kz,HH,t,Zaed,q,#[hL,Zok Za6,Za6 t]] q (ps++[Zqt]):=by
 refine#[cr,ds++[t],ZxF];exact bI (Paired.mapP h2 fun b e y=>by rw[ai (dD y h1 (by intro u;cases u))];exact (ah ht) _ _ y) (ZaC (#[jo,ai ((ao h1 ht).symm)]) Zan)
section
variable {st:dM}
def Ih.flat (P:ZaHE):(fV ZaI).flatten.Nodup/\(∀ x,x∈ZaOY->x∈Zhd/\wr ZaI x≠x)/\∀ x,x∉ZaOY->#[E4,x,x]:=by
 obtain⟨w1,w2,w3,w4⟩:=P.wrong;obtain⟨a,b,c,d⟩:=rA P.inj w3 w4 (b9 ZaI) [] (fun x h=>h) (fun x h=>by cases h);exact⟨a,#[xD,w1,ZatO],fun x hx=>Ni fun z=>hx ((c x z).elim (fun q=>by cases q) id)⟩
#where
#print Wz
namespace L2
open PySem
def d6.m {j k:Nat}[335](h:j<=k:=by decide):d6 j A:=r.mono h
def cE [60][388](hs:ZDM:=by rfl):PA X [e] (mD t qg):=az h bp hs
def eI [60]{e e2:Expr}{t t2:TE}[380](hs:#[DK,[e,e2],e,[e2]]:=by rfl)(hs2:#[DK,[e2],e2,[]]:=by rfl):#[aYp,[e,e2],qg]:=az h (az h2 bp hs2) hs
def uY [60]{e e2 e3:Expr}{t t2 t3:TE}[380](h3:PE X e3 t3)(hs:#[DK,ZaQg,e,[e2,e3]]:=by rfl)(hs2:#[DK,[e2,e3],e2,[e3]]:=by rfl)(hs3:#[DK,[e3],e3,[]]:=by rfl):#[aYp,ZaQg,(mD t3 qg)]:=az h (az h2 (az h3 bp hs3) hs2) hs
def bd [60][156][219]{x:Str}[190]{pos':Pos}(hN:X.N.Nodup)[106][97][126] :
  ZaWR:=iM hN hi hx he hs hf
def fG [60][156][219]{x:Str}(hN:X.N.Nodup)[97][8]:ZaQv:=zO hN hi hx hf
def Ci {so sc:Scope}{N N':Zbo}{src:ZnJ}(a:ZBy:=by rfl)(b:ZbcC:=by decide +kernel)(c:ZbcA:=by decide +kernel)(d:ZbcF:=by decide +kernel)(e:N'.Nodup:=by decide +kernel)(f:Za7c:=by rfl)
  (g:∀ p∈ZKv,(match p.2 with | none=>true | ZzB=>Zaf5)=true:=by decide +kernel):Zaok:=#[agp,d]
def fF {N P:Zbo}{sc:Scope}(a:ZBy:=by rfl)(b:ZZW:=by rfl)(c:ZZX:=by rfl)(d:N.Nodup:=by decide +kernel)(e:ZaTI:=by rfl)(f:ZavP:=by decide +kernel)(g:ZbcD:=by decide +kernel):aA N P sc:=#[agp,d]
#print L2
namespace Wz
open PySem L2
abbrev bo [1][189](st:Stmt):Zaa:=#[NJ,#[Qt,x]=Zab ZsN/\#[aq,x,x,st]]
def fact_mk {K:PySem.W.Frag}{x:Str}{st:Stmt}{f:Addr}{oc:Value}{od an:Zgj}{osl:Zu7}{kV doc pm cdv ct:Value}(a:ZadP)(l:#[aoC,#[anl,x,x]])
  (c:#[Uh,x]) (k:Zbch):ZAZ:=⟨f,_,a,ZaUf⟩
abbrev cC [1][54](m q:Str)(st:Stmt):Zaa:=#[NJ,Zbcd/\ZA1/\Zaub]
def mfact_mk {K:PySem.W.Frag}{C:Addr}{m q:Str}{st:Stmt}{f:Addr}{oc:Value}{od an:Zgj}{osl:Zu7}{kV doc pm cdv ct:Value}(a:Zbcd)(i:ZA1)(l:#[aoC,Zauc])
  (c:#[Uh,q]) (k:Zbch):ZafD:=⟨f,_,a,i,ZaUf⟩
section
variable {P:Program}{w:World}{K:PySem.W.Frag}{h base:Heap}{mg:Zo6}{x m q:Str}{st:Stmt}{k:Nat}{ps:Zbo}{sp:Sp}{C:Addr}{CX:Cf}
def KM [69]{P:Zaz'}(h:∀ (a:Value)(vs:Zb'),ZiF=n->P (a::vs)):#[aRx,n+1]
 | a::vs,e=>h a vs (Za9g e)
def KL {P:Zaz'}(h:P []):#[aRx,0]
 | [],_=>h
def Ov (X:ZqA)(G:ZuM)(F:ZAZ)(ok:ZaG2)
  (hb:Za6a:=by intro _ _ _ _ _ _;(repeat refine Zsg);exact ZfW):ZaX5:=by
 obtain⟨f,fd,a,g⟩:=F;exact ZaHz
def W7 (X:ZqA)(G:ZuM)(F:ZAZ)(ok:ZaG1)
  (hb:Za6a:=by intro _ _ _ _ _ _;(repeat refine Zsg);exact ZfW):ZaYm:=by
 obtain⟨f,fd,a,g⟩:=F;exact ZaHz
def Vr (F:ZafD)(ok:ZaPi)
  (hb:Za6b:=by intro _ _ _ _ _ _;(repeat refine Zsg);exact ZfW):Za0u:=by
 obtain⟨f,fd,a,i,g⟩:=F;exact ZaZm
#where
structure Bs [57][404](base h:Heap):Zaa where
 X:ZqA
 G:ZuM
section
variable {P:Program}{w:World}{K:PySem.W.Frag}{h base:Heap}{mg:Zo6}{x m q:Str}{st:Stmt}{k:Nat}{ps:Zbo}{sp:Sp}{C:Addr}{CX:Cf}(z:Bs P w K mg ZaO h)
include z
def gF (F:ZAZ)(ok:ZaG2)
  (hb:Za6a:=by intro _ _ _ _ _ _;(repeat refine Zsg);exact ZfW):ZaX5:=by
 obtain⟨f,fd,a,g⟩:=F;exact ZaYZ
def Ow (F:ZAZ)(ok:ZaG1)
  (hb:Za6a:=by intro _ _ _ _ _ _;(repeat refine Zsg);exact ZfW):ZaYm:=by
 obtain⟨f,fd,a,g⟩:=F;exact ZaYZ
def lU (F:ZafD)(ok:ZaPi)
  (hb:Za6b:=by intro _ _ _ _ _ _;(repeat refine Zsg);exact ZfW):Za0u:=by
 obtain⟨f,fd,a,i,g⟩:=F;exact ZaZm
#where
#print Wz
namespace L2
open PySem PySem.Spec PyProof.Rows
def Dv {i:Int}(h:ZahI):ZKz:=by
 by_cases h0:ZahJ
 ·rw[h0];decide
 ·rw[Za9i h0]
  exact #[aFT,Zaii]
def qM [60]:#[id,Zf1,#[aXD,[Zaf s],(Zaf s),Zdy,(Zaf (ZbC Zay_))]]:=by
 intro pins s σ H xs us Q I r h;rcases h with ⟨z,rfl,q⟩ | ⟨i,rfl,hi,q⟩
 ·obtain⟨u,rfl,rx⟩:=ZeR
  obtain⟨t,rfl⟩:=rx;exact P.str_of_str ZaQL
 ·obtain⟨u,rfl,rx⟩:=ZeR
  obtain⟨t,rfl⟩:=rx;exact P.str_of_int (Dv hi) ZaCx
def DS:∀ {ts:Zbo}[278],bF (Zwm ZaJ) its->∃ l:ZYd,its=ZajE l/\l.map (·.1)=ts
 | [],its,r=>by
  have:=r.length;refine#[dU,[],?_];exact Za9l this.symm
 | ZjJ,its,r=>by
  cases r with
  | cons rx rt =>
   obtain⟨l,e1,e2⟩:=DS rt;obtain⟨k,rfl⟩:=rx;exact⟨(t,k)::l,#[bm,e1],#[a_,Zr,e2]⟩
abbrev Pc [1]:ZAP:=fun x vs H Q=>∃ sep l ts,x=Zaf sep/\#[nv,l]/\bN K H l #[tU,Zwm]/\ZaQC/\Q (Zaf (ZCo sep ts)) H
def Rc [60][1][183]:VC X "str.join" ZZJ:=by
 subst hK;intro pins s σ H x xs v us Q I rx rv h;obtain⟨sep,l,ts,rfl,rfl,hq,ok,q⟩:=h;obtain⟨t,rfl⟩:=rx;obtain⟨u,rfl,ru⟩:=iq rv;cases ru;obtain⟨its,rl,pl,hz⟩:=Zvw;obtain⟨ls,rfl,e⟩:=DS rl;exact SC.join ZiC e ok fun t' k=>ZaCx
def sr {X:Cx}(K:PySem.W.Frag){o e:Expr}{to te:TE}{apos cpos:Pos}(ho:ZuK)(he:Zhk)(hK:ZuZ:=by rfl)(hbase:#[a5W,"join"]:=by rfl)
  (hfew:Zapn:=by rfl)
  (hline:Zlh:=by rfl) (hs:ZDM:=by rfl) (hplain:Zamc (·.1)=false:=by rfl) :
  #[D',"join",[e],(WJ K Zf1 ZZJ to (mD te qg))]:=by
 subst hK;exact #[agB,PySem.F.slot_str_join,PySem.F.type_str_join,(Rc X.K)]
def RC [325]:PI X tg l (V4 K tl):=by subst hK;exact rm hl
def VN {so sc:Scope}{N N':Zbo}{src:ZnJ}(a:ZBy:=by rfl)(b:ZbcC:=by decide +kernel)(c:ZbcA:=by decide +kernel)(d:ZbcD:=by decide +kernel)(e:N'.Nodup:=by decide +kernel)(f:Za7c:=by rfl)
  (g:∀ p∈ZKv,(match p.2 with | none=>true | ZzB=>Zaf5)=true:=by decide +kernel):Zaok:=#[agp,fun y hy z=>#[qh,(d y hy)]]
#print L2
namespace Wz
open PySem L2
abbrev gn [167]:Str:=ZbC (ZlL g)
def KW [272](h:ZdP):#[aX,gn,g]<=Zwn:=PyProof.Rows.int_text_len_1921 (Dv h)
def zJ {sep:Str}{ts:Zbo}{B:Nat}(h:Zawe)(hl:Zj'*B+Zj'*ZN9<=Za9m):ZaQC:=by
 unfold JoinOk;rw[StrLaws.joinFits h hl];rfl
def Oa {sep:Str}:∀ {ts:Zbo}{B:Nat},(Zawe)->#[bd,(ZCo sep ts),Zj'*(B+ZN9)]
 | [],B,_=>by
  show #[aU0,[]]
  rw[StrLaws.glued_eq_join]
  have:#[aX,sep.join,[]]=0:=by first | rfl | simp
  lia
 | ZjJ,B,h=>by
  show #[aU0,ZKc]
  rw[StrLaws.glued_eq_join,PyProof.Rows.len_join_cons]
  have sm:∀ (l:Zbo),(∀ y∈l,Zgb<=B)->#[Z4,#[cy,Ze8]]<=Zcc*B:=fun l=>by
   induction l with
   | nil=>intro _;simp
   | cons a r ih =>
    intro hh;have i:=ih #[QS,hh];have j:=hh a Ze;rw[Zr,aQy,Zx,Nat.add_mul]
    lia
  have s:=sm ZKc h;rw[Nat.mul_add];have:Zj'*ZN9<=#[aW,ZKc]*ZN9:=#[SF,Za9p]
  lia
#print Wz
namespace PySem
open Sem (wp)
section
variable {M:Model}{A:Around}{E:ZfE}{s:Shared}{env:Env}
abbrev Vn (M:Model)(A:Around)[51](use:ZfX (Zb_->Sem Unit))[436](acc:Value)[54](fr:Zgj)(r:Result)[155]:Zaa :=
 match r,use with
 | .ok _,none=>∃ m,Za9r C m/\∀ h',ZaJk->Q acc #[Ch,h']
 | .ok _,Zab u=>Zcb M A (u acc) (fun _ s''=>∃ m,s''.heap.Ns C m/\∀ h',ZvH C s''.heap h'->Q Zay { s'' with heap:=h' }) E s'
 | ZMz x,_=>∃ m,Za9r C m/\∀ h',ZaJk->∀ cenv:Env,cenv.frame=fr->wpAny M A (passOn "comprehension.variables-let-go" x cenv:Zx1) Zv4 E #[Ch,h']
#where
#print PySem
namespace Wz
open PySem L2
def T7 {u v D e s t:Int}(h1:#[GB,D,s])(h2:#[bdT,t])
  (bu : #[xz,u,u]) (bv : #[aMs,v,v]) (bD : #[xz,D,D]) (be : #[xz,e,e]) :
  #[a9Z,D,0,e,0,D,e,D,e=Zwo]:=by
 obtain⟨k0,k1,k2,k3,eu,ev,eD,ee⟩:Za1K :=
  Za1N
 clear h1 h2
 have b0 : -1<=k0/\k0<=1:=Zad
 have b1 : -1<=k1/\k1<=1:=Zad
 have b2 : -1<=k2/\k2<=1:=Zad
 have b3:k3=0:=Zad
 subst b3
 rcases #[afK,k0,k0,k0] with z | z | z<;>subst z <;>
 rcases #[afK,k1,k1,k1] with z | z | z<;>subst z <;>
 rcases #[afK,k2,k2,k2] with z | z | z<;>subst z<;>lia
abbrev sP (x:Nat):Nat:=#[Rj,x,Zom]+ZaHY
abbrev B7 (acc h:Nat):Nat:=#[Rk,sP (#[am0,acc,h])]
def V9 {X:Nat}[381]:#[Rj,#[Rk,X],ZCp]=X:=by
 have h:=Nat.mul_mod (#[ant,X]) ZCp Zdq;rw[#[bh,ZCp%Zdq=ZCp,Zaw]]at h;rw[<-h,Nat.mul_assoc,#[bh,ZCq*ZCp=#[xG,1,379806830464837242],Zaw],Nat.mul_add,Nat.mul_one,<-Nat.mul_assoc,ZMY X Zdq,Nat.mul_assoc,Nat.add_mul_mod_self_left,Nat.mod_eq_of_lt hX]
def Wa {X Y:Nat}[381](hY:#[dY,Y])(h:#[Rk,X]=#[Rk,Y]):X=Y:=by
 rw[<-V9 hX,<-V9 hY,h]
def Fe [327]:#[dY,sP x]:=by unfold sP;lia
def oC [327]:∃ xh xl:Nat,#[xy,xh]/\#[yQ,xl]/\x=xh*ZjN+xl/\sP x=xl*Zom+xh:=by
 refine⟨ZaHY,x%ZjN,Zad,Zad,Zad,?_⟩;unfold sP;lia
def Lf {x y:Nat}(hx:ZIq)(hy:#[dY,y])(h:sP x=sP y):x=y:=by
 obtain⟨xh,xl,a1,a2,a3,a4⟩:=oC hx;obtain⟨yh,yl,b1,b2,b3,b4⟩:=oC hy;rw[a4,b4]at h
 lia
def RY {a b h k:Nat}(e:B7 a h=B7 b k):#[am0,a,h]=ZaN9:=by
 unfold B7 at e;have l1:#[dY,#[am0,a,h]]:=ZRc;have l2:#[dY,ZaN9]:=ZRc;exact Lf l1 l2 (Wa (Fe l1) (Fe l2) e)
def Sq {D u v z:Int}(h:#[aKj,u,v,D,z]):#[GB,D,(#[atT,-(ZCr)*z,D]+(391061744)*u)]:=Zad
def Sr {e u v z:Int}(h:#[a9u,#[anu,v,u],e,z]):#[bdT,(Za0t+(Za9s)*v)]:=by
 have key:e-(ZbdU+Zdq*(Za0t+(Za9s)*v))=ZCr*(#[anu,v,u])-ZCr*(Za9t*e+#[kJ,z]):=Zad
 rw[h,Int.sub_self]at key;exact Int.sub_eq_zero.mp key
def QS {a c x y zx zy xh xl yh yl:Nat}[136](h2:ZaVQ)[452](h4:y=yh*ZjN+yl) :
  #[aKj,ZaOd,ZaOe,#[kQ,c,a],#[kQ,zx,zy]]:=Zad
def QR {gX gY X1 Y1 V b d z1 z2 z3 z4:Int}[310](h2:gY=#[kJ,z2]+Y1)[77] :
  #[a9u,gY-gX,(d-b),((z4-z3)+(z2-z1))]:=Zad
def QT {b d X1 Y1 V xh xl yh yl z1 z2 z3 z4:Nat}[141](h2:#[anu,yl,yh]=#[kJ,z2]+Y1)[77] :
  #[a9u,#[anu,ZaOe,ZaOd],#[kQ,d,b],(#[kQ,z4,z3]+#[kQ,z2,z1])]:=by
 have i1:=ZaEr;have i2:=Z6 (ZyM) h2;have i3:=ZaEs;have i4:=Z6 (ZyM) h4;simp only[aXR,Int.natCast_mul,Int.cast_ofNat_Int]at i1 i2 i3 i4;rw[<-QR i1 i2 i3 i4];clear h1 h2 h3 h4 i1 i2 i3 i4
 lia
def T6 {m n:Nat}(h1:#[xy,m])(h2:#[xy,n]) : ZaOF:=Zad
def QQ {m n:Nat}(h1:#[yQ,m])(h2:#[yQ,n]) : #[aMs,ZFK,ZFK]:=Zad
def jK (x:Nat):∃ r z:Nat,x%Zdq=r/\x=Zdq*z+r/\#[dY,r]:=#[ci,_,x/Zdq,(Nat.div_add_mod x Zdq).symm,ZRc]
def MI {a b c d x y zx zy:Nat}(lx:ZIq)(ly:#[dY,y])(hzx:ZafP)(hzy:ZaVQ)
  (e:#[am0,ZRl,b]=#[am0,Zaaq,d]) (b1 : ZaOD) (b2 : ZaOE) :
  Za90:=by
 obtain⟨xh,xl,hx1,hx2,hx3,hx4⟩:=oC lx;obtain⟨yh,yl,hy1,hy2,hy3,hy4⟩:=oC ly;rw[hx4,hy4]at e;obtain⟨X1,z1,r1,hz1,_⟩:=ZaR4;obtain⟨Y1,z2,r2,hz2,_⟩:=jK (#[anu,yl,yh]);rw[r1,r2]at e;obtain⟨V,z3,r3,hz3,_⟩:=ZaB6;obtain⟨V',z4,r4,hz4,_⟩:=jK (ZaNI);rw[r3,r4]at e;subst e;have i1:=QS hzx hzy hx3 hy3;have i2:=QT hz1 hz2 hz3 hz4;have r:=T7 (u:=(yh:Int)-xh) (v:=(yl:Int)-xl) (D:=ZxX) (e:=ZE') (Sq i1) (Sr i2) (T6 hx1 hy1) (QQ hx2 hy2) b1 b2;clear hzx hzy hx4 hy4 hz1 hz2 hz3 hz4 i1 i2 hx3 hy3 r1 r2 r3 r4;rcases r with ⟨h1,h2⟩ | h | h
 ·exact ZA2
 ·exact ZaaL
 ·exact #[nx,h]
def OP {a b c d:Nat}(e:B7 ZaMH b=B7 (B7 ZlR c) d)(b1 : ZaOD)(b2 : ZaOE) :
  Za90:=by
 have e:=RY e;obtain⟨x,zx,rx,hzx,lx⟩:=jK (#[D5,a]);obtain⟨y,zy,ry,hzy,ly⟩:=jK (#[D5,c])
 have ex:#[aEK,a,ZRl]:=by unfold B7;rw[rx]
 have ey:#[aEK,c,Zaaq]:=by unfold B7;rw[ry]
 rw[ex,ey]at e;exact MI lx ly hzx hzy e b1 b2
def Kw {u v D e s t:Int}(h1:#[GB,D,s])(h2:#[bdT,t]) :
  Za1K :=
  Za1N
def N3 {u v a b s t:Int}(h1:Za9A)(h2:ZbdV)
  (bu:ZaPY) (bv:ZaRU) (ba:#[F',a,a]) (bb:#[F',b,b]):False:=by
 obtain⟨k0,k1,k2,k3,eu,ev,eD,ee⟩:=ZaFi;clear h1 h2
 have c3 : ZajF<=k3/\k3<=ZajF:=Zwp
 have c2 : ZajG<=k2/\k2<=ZajG:=Zwp
 have c1:Za9v<=k1/\k1<=Za9w:=Zwp
 have c0:Za9x<=k0/\k0<=Za9y:=Zwp
 obtain rfl:k3 = ZajF:=Zwp
 obtain rfl:k2 = ZajG:=Zwp
 rcases (show k1=Za9v\/k1=Za9w by omega) with z | z<;>subst z <;>
 rcases (show k0=Za9x\/k0=Za9y by omega) with z | z<;>subst z<;>omega
def N4 {u v a b s t:Int}(h1:Za9A)(h2:ZbdV)
  (bu:ZaPY) (bv:ZaRU) (ba:#[ajJ,a,a]) (bb:Zaru):False:=by
 obtain⟨k0,k1,k2,k3,eu,ev,eD,ee⟩:=ZaFi;clear h1 h2;omega
def VZ {a x zx xh xl:Nat}[136][452] :
  ZjN*(xh:Int)+(xl:Int)=#[xG,Zwq*(Zhb+Za9z),(-(zx:Int)-1833181252879301869574179742171100259)]:=Zad
def VY {gX X1 b z1 z3:Int}[310][132]:#[a9u,gX,(b-ZajH),#[aMk,z1]]:=Zad
def V0 {b X1 xh xl z1 z3:Nat}[141][132] :
  #[a9u,#[anu,(xl:Int),(xh:Int)],#[kQ,b,ZajH],#[aMk,(z1:Int)]]:=by
 have i1:=ZaEr;have i3:=ZaEs;simp only[aXR,Int.natCast_mul,Int.cast_ofNat_Int]at i1 i3;exact VY i1 i3
def Kx [69](h:#[xy,n]):#[F',Zbk,Zbk]:=Zad
def Ss [69](h:#[yQ,n]):0<=Zbk/\Zbk<ZjN:=Zad
def Su [69](h:ZnT<=n)(h2:n<ZajI):#[ajJ,Zbk,Zbk]:=Zad
def Rj {a b x zx:Nat}(lx:ZIq)(hzx:ZafP)(e:#[am0,ZRl,b]=ZLZ)
  (bl:Zarv):False:=by
 obtain⟨xh,xl,hx1,hx2,hx3,hx4⟩:=oC lx;rw[hx4]at e;obtain⟨X1,z1,r1,hz1,_⟩:=ZaR4;rw[r1]at e;obtain⟨V',z3,r3,hz3,_⟩:=ZaB6;rw[r3]at e;subst e;have i1:=Sq (VZ hzx hx3);have i2:=Sr (V0 hz1 hz3);clear hzx hx3 hx4 hz1 hz3 r1 r3 lx;rcases bl with ⟨b1,b2⟩ | ⟨b1,b2,b3,b4⟩
 ·exact #[aZk,N3,(Kx b1),(Kx b2)]
 ·exact #[aZk,N4,(Su b1 b2),(Su b3 b4)]
def Wy:Za9B=#[Rk,sP ZLZ]:=Zal
def PR {X b y:Nat}(r:#[am0,X,b]=y):B7 X b=Zaaq:=by unfold B7;rw[r]
def KU {a b:Nat}(bl:Zarv):#[a9C,B7 (B7 ZlR a) b]:=by
 intro e;obtain⟨x,zx,rx,hzx,lx⟩:=jK (#[D5,a]);have ex:=PR rx;obtain⟨y,zy,ry,hzy,ly⟩:=jK (#[D4,ZaIy,b]);have e':=(PR ry).symm.trans (ZahN Wy)
 have lV:#[dY,ZLZ]:=Zaw
 have hy:=Lf ly lV (Wa (Fe ly) (Fe lV) e');have h1:#[am0,ZRl,b]=#[am0,ZaIy,b]:=Z6 (fun n=>#[am0,n,b]) ex.symm;exact Rj lx hzx (Za9D (ry.trans hy)) bl
abbrev w8 (r:Nat):Int:=#[aLb,#[a9S,Za9J],Za9J<Za9G,Za9J,Za9J,(Zdq:Nat)]
def YW {a:Nat}[399]:(Zhb%#[a3,Zdq]).toNat=a:=Zad
def QI {r r':Nat}(h1:#[dY,r])(h2:#[dY,r'])(n1:#[a9C,r])(n2:#[a9C,r'])(e:w8 r=w8 r'):r=r':=by
 unfold w8 at e
 have z1:¬ #[a9S,Za9J]:=by
  intro z;have z:=ZawW
  lia
 have z2:¬ #[a9S,#[a9I,r']]:=by
  intro z;have z:=ZawW
  lia
 rw[Y8 z1,Y8 z2]at e;clear z1 z2;split at e<;>split at e<;>lia
abbrev MY (m p1 p2 acc:Nat)(h:Int):Nat :=
 ((ZaYE*2 ^ 31)%m+ZaYE/2 ^ 33)*p1%m
abbrev NR (m n acc:Nat)(p5:Nat):Int :=
 #[aLb,#[g8,ZLb,m-1],ZLb<Zp7,ZLb,ZLb,Zs0]
abbrev R5 (m p1 p2 p5:Nat)(hs:Zbp):Int:=NR m hs.length (hs.foldl (MY m p1 p2) p5) p5
def P8 (m p1 p2 p5:Nat)(x y:Int):R5 m p1 p2 p5 Zza=NR m 2 (MY m p1 p2 (MY m p1 p2 p5 x) y) p5:=by
 unfold R5;rw[aQU,aQU,List.foldl_nil,Zx,Zx,List.length_nil]
def R6 (hs:Zbp):#[awF,hs,R5 (Zz7) ZCq Zwq ZlR hs]:=by
 delta Builtin.Tuple.tupleHashOf R5 NR MY
 rfl
def Po {acc a:Nat}[399]:MY Zdq ZCq Zwq acc Zhb=B7 acc a:=by
 unfold MY B7 sP;rw[YW h]
def TW (r:Nat):NR Zdq 2 r ZlR=w8 r:=by
 have h1:2 ^^^ (ZlR ^^^ 3527539)=Za9H:=Zaw
 unfold NR w8;rw[h1]
def N1 {a b:Nat}(ha:#[dY,a])(hb:#[dY,b]):#[awF,ZaQf,w8 (B7 ZaMH b)]:=by
 have hm:ZEV ^ 64=Zdq:=Zaw
 rw[R6,hm,P8,Po ha,Po hb,TW]
def PQ {x y:Nat}:#[dY,B7 x y]:=by unfold B7;exact ZRc
abbrev Ie (N0 n:Nat):Zaa:=N0<=n/\n<N0+Zom
def Ie.dif {N0 m n:Nat}(h1:Ie N0 m)(h2:Ie N0 n) : ZaOF:=by
 obtain⟨a,b⟩:=h1;obtain⟨c,d⟩:=h2
 lia
def Ie.lt {N0 n:Nat}[224](h:Ie N0 n):#[dY,n]:=by
 obtain⟨a,b⟩:=h
 lia
def Ie.two {N0 a b:Nat}[224](h1:Ie N0 a)(h2:Ie N0 b):Zarv:=by
 obtain⟨a1,b1⟩:=h1;obtain⟨c1,d1⟩:=h2
 lia
def ML {N0 a b c d:Nat}[224](ha:Ie N0 a)(hb:Ie N0 b)(hc:Ie N0 c)(hd:Ie N0 d)(e:ZCs ZaQf=ZCs [(c:Int),(d:Int)]) :
  Za90:=by
 rw[N1 (ha.lt hN) (hb.lt hN),N1 (hc.lt hN) (hd.lt hN)]at e;exact OP (QI PQ PQ (KU (ha.two hN hb)) (KU (hc.two hN hd)) e) (ha.dif hc) (hb.dif hd)
def MU:∀ i:Nat,i<123->∀ j:Nat,j<123->(i=61/\j=61)\/#[tz,(ZkB-61)*Zwo,(ZkI-61)*ZCt]≠0:=Zal
def Wt {i j:Nat}(hi:i<123)(hj:j<123){e k:Int}(ee:e=(i:Int)-61)(ek:k=(j:Int)-61)(h:#[tz,e*Zwo,k*ZCt]=0):i=61/\j=61:=by
 subst ee ek;exact (MU i hi j hj).resolve_right #[aF,z h]
#print Wz
namespace L2
open PySem PySem.Spec PyProof.Rows
abbrev qG (ks:#[Rz,cQ]):Zaa:=∀ [57],#[awf,ZrH ZdR a=ZrH ZdR b]
def G7 [78]{f:α->Int}:∀ {ks:ZdZ},Za8U->(#[awf,f a=f b])->∀ n,#[aX,Za9K,ZaKB]<=1
 | [],_,_,n=>ZaA
 | k::ks,nd,hf,n=>by
  rw[ZW]at nd;have ih:=G7 nd.2 (fun a ha b hb=>hf a Zaye b Zz2) n;rw[aQC];split
  ·rename_i z
   have e:(Za9K ZaKB)=[]:=List.filter_eq_nil_iff.mpr fun b hb q=>by
    have:=hf k Ze b Zz2 (#[a_,Zn8 z,Zn8 q]);exact nd.1 (this▸hb)
   rw[e];exact ZaN
  ·exact ih
section
variable {P:Program}{w:World}{A:Around}{E:ZfE}{s:Shared}
def Eo {id:String}{d:Addr}{o:Obj}{es:ZXS}{ep:Nat}{xs:Zaog}{Q:#[fD,ZXS]}
  (ho:#[qF,d]) (hd:Zadh) (he:ZajL) (hk:#[rF,ZSL ZaK x.1 ZHD]) (nd:(xs.map (·.1)).Nodup)
  (hf:qG (xs.map (·.1))) (h:Q es s):#[fF,ZvZ,(Builtin.Dict.entriesForEmpty id d),Q]:=by
 unfold Builtin.Dict.entriesForEmpty;refine Y6 (ZN_ ho hd (Y6 ?_));rw[<-Array.forIn_toList];refine wpAny_forIn_list _ (fun rest _ s'=>s'=s/\∀ e∈rest,e∈ZajK) _ ?_ ?_ _ _ #[db,fun e h=>h]
 ·rintro e rest b s' ⟨rfl,hr⟩
  have he1:e∈ZauY:=he▸hr e Ze;obtain⟨x,hx,rfl⟩:=ZdI he1;refine ZgG
  show #[hQ,Za9L #[aj,ZHD] "__eq__"]
  refine Y6 (aXo (IsTupleKey.typeIs (hk x hx)) F.slot_tuple_eq.lookup ZkY)
  have z:((#[axS,"tuple.__eq__"] == #[axS,"object.__eq__"]):Bool)=Zaz:=Zaw
  rw[z]
  have one:¬ (es.filter (·.hash == (ZN' (ZvU ZdR) x).hash)).size>1:=by
   have:=G7 (f:=ZrH (aS P w)) nd (hf P w) (ZrH ZdR x.1);rw[<-ZR,Array.toList_filter,he,List.filter_map,Y5];rw[List.filter_map,Y5]at this;exact Nat.not_lt.mpr Zcl
  simp only[Bool.not_false,aQP];rw[Y8 one];exact Zg #[db,#[rI,hr e #[dM,he]]]
 ·rintro b s' ⟨rfl,_⟩
  exact Zg h
def L4 {o:Addr}{xs:Zaog}{Q:ZfE}(hoS:#[agG,o])(ho:s.heap.DictOfH ZSK o xs)(hsz:ZUP)(hf:qG (xs.map (·.1)))
  (h:∀ h' ob es ep,Zet Zax=Zab ob->ob.ExactDict->ZNs=Zdl es ep->ZajL->(∀ b x,Zd5 b=Zab x->Zet b=Zab x)->Q ZcN ZlI) :
  #[fF,ZvZ,(Zfs (Za4 ZiI) [Zai o]),Q]:=by
 refine callType_codes (Q₁:=fun obj s₁=>ZKO/\s₁={ s with heap:=s.heap.push { cls:=ZiJ,data:=Zdl #[] } }) F.kt_called_dict (F.kt_typeCall_dict_1 _) F.entry_dict_init (kt_code_dict_new _ Zh0) ?_;rintro obj s₁ ⟨rfl,rfl⟩;obtain⟨oo,es,ep,e1,e2,e3,e4,e5,e6⟩:=id ho;have lt:=Zk e1;have ne:Zax≠o:=Z1 lt;have p1:=Y7 { cls:=ZiJ,data:=Zdl #[] } e1;have new:(s.heap.push { cls:=ZiJ,data:=Zdl #[] }).get? s.heap.objs.size=some { cls:=ZiJ,data:=Zdl #[] }:=Zct;have tD:Shared.TypeIs { s with heap:=s.heap.push { cls:=ZiJ,data:=Zdl #[] } } ZcN "dict":=#[dQ,new];have tO:Shared.TypeIs { s with heap:=s.heap.push { cls:=ZiJ,data:=Zdl #[] } } #[aj,o] "dict":=#[bN,p1,e2.1]
 have pk:∀ x∈xs,ZSL (s.heap.push { cls:=ZiJ,data:=Zdl #[] }) x.1 ZHD:=fun x hx=>by
  obtain⟨q,it,n,q1,q2,q3,q4⟩:=e5 x hx;exact⟨q,it,n,Y7 _ q1,q2,q3,q4⟩
 have len:ZN1=ZaL:=by rw[<-ZR,e4,Y5]
 refine#[cr,tD,F.args_dict_init_2 _ _];unfold Builtin.«dict.__init__» Builtin.Dict.selfAndRest;refine Y6 (Y6 (wpAny_notOrdered_dict tD ?_))
 show #[hI,(Zca (Zax,[#[xP,o]]))]
 refine Zub
 show #[hI,(Builtin.Dict.updateFrom "dict.__init__" Zax #[aj,o] [] Zay)]
 unfold Builtin.Dict.updateFrom Builtin.Dict.merge Builtin.Dict.readDirectly;refine #[bdQ,tO];rw[ZzO];refine #[xl,Y6,(Za9M tO isSubtype_dict_dict ?_)];simp only[Bool.not_true,aQ3,aXZ];refine Y6 (aXo tO F.slot_dict_iter.lookup ZkY);simp only[beq_self_eq_true,aQP];refine Zaab;unfold Builtin.Dict.mergeDict Builtin.Dict.showsAll;rw[Y8 (by simpa using ne),#[ao3,hoS]];refine #[y3,(ZN_ p1 e3 ?_)];dsimp only
 have ex:es = #[]\/(#[oT,#[lx,ZN1<=8]&&es.all #[cj,#[ho,(keyPart e.key)]]]/\es.isEmpty=Zaz):=by
  cases xs with
  | nil=>exact Zam (Array.toList_inj.mp (#[bm,e4]))
  | cons x xs =>
   right
   have h0:#[aZZ,ZajK]:=#[bm,e4]
   obtain⟨l⟩:=es;have h1:#[aZZ,l]:=h0;subst h1;refine#[fK,?_];rw[List.all_toArray,List.all_cons]
   show #[oT,_&&(Zaz&&_)]
   rw[Bool.false_and,Bool.and_false]
 rcases ex with ex | ⟨ex,ex2⟩
 ·subst ex
  rw[ZzP];refine Y6 (wpAny_dictEpoch p1 e3 (Y6 (ZN_ p1 e3 (Y6 ?_))));rw[Std.Legacy.Range.forIn_eq_forIn_range'];refine Zg (Zg (Y6 (Zg (Zg ⟨rfl,h _ _ #[] 0 new ZGp rfl e4 fun b x e=>Zja⟩))))
 ·rw[ex,ZAk]
  refine Y6 (ZN_ new rfl ?_);rw[ZAk];refine Y6 (Eo p1 e3 e4 pk e6 hf ?_);rw[Y9 (#[BE,ex2])];refine Y6 (wpAny_updateDictKeysTo new rfl ZkY Zah);refine #[k_,Zg,#[db,h _ _ es 1 (Z3 _ new (Obj.isFreed_of_dict (Za9P rfl _))) (Obj.ExactDict.mapDictKeys ZGp _) (Za9P rfl _) e4 ZasD]];exact (ZajM _ _ _).2 b Zjp |>.trans ZhW
#where
inductive Ph [11]:Zaa
 | mk (p:_)(kvs:_)[62](_:#[ff,Zql])(_:qG (kvs.map (·.1)))(_:#[jK,Zql])
def Iq [60]:#[id,ZiI,Ph]:=by
 intro pins s σ H xs us Q I r h;obtain⟨p,kvs,rfl,hp,hf,q⟩:=h;obtain⟨u,rfl,rx⟩:=ZeR;cases rx;obtain⟨hz,hS,vs,rv,m⟩:=Sk Zbe hp;have hlen:ZiG:=Zt rv
 have hk:kvs.map (·.1)=vs.map (·.1):=by
  clear hz hp hf q m hlen
  induction rv with
  | nil=>rfl
  | cons h t ih=>rw[Zr,Zr,ih,h.1]
 have nd:(vs.map (·.1)).Nodup:=let ⟨_,_,_,_,_,_,_,_,n⟩:=m;n;rw[hk]at hf;refine L4 hS m Zah hf fun h' ob es ep a1 a2 a3 a4 a5=>?_;have e0:ZaV_:=ZaRl;have e1:ZaAz:=e0.2.1;have fr:=Zn0 (Za Zax);refine#[sy,#[KT,Zb4,a5,Zql,⟨hz,e1,vs,#[vq,rv,fun x y z=>#[k1,z.1,z.2.2]],ob,es,ep,a1,a2,a3,a4,nd⟩],q _ fr];rw[ai (ao z.2.1 fr)];exact z.2.1
#print L2
namespace Wz
open PySem L2
def QJ (r:Nat):Za9Q (w8 r)=w8 r:=by
 have b : -9223372036854775808<=w8 r/\w8 r<Za9G/\w8 r≠-1:=by
  unfold w8;have lt:#[dY,Za9J]:=ZRc;generalize Za9J=x at lt
  by_cases e:#[a9S,x]
  ·rw[Zik];decide
  ·rw[Zij]
   have ne:x≠Za9R:=#[aF,e (Zzs)];split<;>lia
 generalize w8 r=x at b;obtain⟨b1,b2,b3⟩:=b
 have q:#[gs,#[lx,ZaFQ<=x]&&#[lx,x<Zp7]]:=by
  rw[Z7,aXz,aXz];lia
 have q2:¬ #[g8,x,-1]:=#[jj,b3,Zn8];unfold reduceHash;rw[Y9 q,Y8 q2]
def Ge {a:Nat}(h:a<Za9T):ZL7 Zhb=a:=by
 have r:rawHash Zhb=a:=by
  unfold rawHash;dsimp only;rw[Int.natAbs_natCast];have e:Zhb%#[a3,2 ^ 61-1]=a:=#[el,Int.emod_eq_of_lt,Zah]
  have n:¬ (Zhb<0):=Zad
  rw[e,Y8 n]
  exact ZaLR
 unfold hashInt;rw[r]
 exact ZaLR
abbrev n0 (c:Int):Nat:=if ZJt then 997852516353 else 0
def Wb (c:Int):n0 c=0\/n0 c=ZnT:=by unfold n0;split<;>simp
def zH (k c:Int):∃ n:Nat,j4 k c=Zbk/\Ie (n0 c) n/\∃ x:Int,Zbk=(n0 c:Int)+(Zanh+ZCa)+ZdH*x:=by
 have h0:=ZaQ3;have h1:=ZaQ4;have h2:=Int.mul_ediv_add_emod Zapu ZdH;unfold j4 n0 Ie;dsimp only;generalize Zanh+ZCa=y at *;refine⟨#[gx,ZJt,ZaKR+ZnT,ZaKR].toNat,?_,?_,-(y/ZdH),?_⟩<;>split<;>lia
def VL {d1 d2 e f t x y:Int}(h1:d1=#[KH,e,x])(h2:d2=#[KH,f,y]):f*d1-e*d2=ZdH*(f*x-e*y):=by
 rw[h1,h2,Int.mul_add,Int.mul_add,Int.mul_sub,#[a9W,e,t],#[a9W,ZdH,x],Za9V e ZdH y]
 lia
def Hg {i j k l s:Int}(hi:Zadf)(hj:ZaeE)(hk:ZaO2)(hl:ZaO3)(hs:#[at5,(k-i),(l-j)]=ZdH*s):k=i/\l=j:=by
 have b1:(k-i+61).toNat<123:=ZOa
 have b2:(l-j+61).toNat<123:=ZOa
 have b3:k-i=((k-i+61).toNat:Int)-61:=ZOa
 have b4:l-j=((l-j+61).toNat:Int)-61:=ZOa
 obtain⟨z1,z2⟩:=Wt b1 b2 b3 b4 #[bj,hs,Int.mul_emod_right _ _];clear hs
 lia
def Xy (e f:Int):ZaSz=f*ZCt-e * Za9X:=Zad
def VQ (e f:Int):ZaSz = -(f * Za9Y-e*Zwo):=Zad
def NZ {i j k l c:Int}(hi:Zadf)(hj:ZaeE)(hk:ZaO2)(hl:ZaO3)(P:Program)(w:World)
  (h:ZrH ZdR ZaSq=ZrH ZdR [ZeX (j4 k c),ZeX (j4 l c)]):j4 i c=ZYJ/\j4 j c=j4 l c:=by
 obtain⟨a,ea,ba,xa,qa⟩:=zH i c;obtain⟨b,eb,bb,xb,qb⟩:=zH j c;obtain⟨m,em,bm,xm,qm⟩:=zH k c;obtain⟨n,en,bn,xn,qn⟩:=zH l c;have hN:=Wb c
 have sm:∀ z:Nat,Ie (n0 c) z->#[a9U,z]:=fun z hz=>by obtain⟨z1,z2⟩:=hz;lia
 rw[ea,eb,em,en]at h ⊢
 have hh:∀ u v:Nat,#[a9U,u]->#[a9U,v]->ZrH ZdR #[EC,ZWE,(v:Int)]=ZCs [ZWE,(v:Int)]:=fun u v hu hv=>by
  unfold tupleKeyHash
  show Za9Q (ZCs [ZL7 ZWE,ZL7 (v:Int)])=_
  rw[Ge hu,Ge hv,#[el,N1,Zah],QJ]
 rw[#[aTX,ba,bb],#[aTX,bm,bn]]at h;generalize 1+Zang=t at *
 have d1:Zs0-a=#[KH,(k-i),(xm-xa)]:=#[rB,qm,qa,Zajz]
 have d2:Zbk-b=#[KH,(l-j),(xn-xb)]:=#[rB,qn,qb,Zajz]
 have cr:=VL d1 d2;clear qa qb qm qn;rcases ML hN ba bb bm bn h with ⟨z1,z2⟩ | ⟨z1,z2⟩ | ⟨z1,z2⟩
 ·rw[z1,z2];exact Zh0
 ·exfalso
  rw[z1,z2]at cr;rw[z1]at d1;have:=Hg hi hj hk hl ((Xy _ _).trans cr);rw[Zhe,Int.sub_self,Int.zero_mul,Int.zero_add]at d1;clear cr d2 h z1 z2
  lia
 ·exfalso
  rw[z1,z2]at cr;rw[z1]at d1;have:=Hg hi hj hk hl ((VQ _ _).trans (by rw[cr,<-Int.mul_neg]));rw[Zhe,Int.sub_self,Int.zero_mul,Int.zero_add]at d1;clear cr d2 h z1 z2
  lia
def QL {c:Int}[19](h:#[ajx,p.1∈ZeU 62 c/\p.2∈ZeU 62 c]):qG (ZaL1 (·.1)):=by
 intro P w a ha b hb e
 have g:∀ a∈ZaL1 (·.1),∃ i j:Int,(Zadf)/\(ZaeE)/\a=ZaSq:=fun a ha=>by
  unfold AX at ha;rw[ZK]at ha;obtain⟨p,hp,rfl⟩:=ZazS;obtain⟨q1,q2⟩:=h p hp;obtain⟨i,hi,e1⟩:=ux q1;obtain⟨j,hj,e2⟩:=ux q2;exact⟨i,j,hi,hj,by show ZFN=_;rw[e1,e2]⟩
 obtain⟨i,j,hi,hj,rfl⟩:=g a ha;obtain⟨k,l,hk,hl,rfl⟩:=g b hb;obtain⟨z1,z2⟩:=NZ hi hj hk hl P w e;rw[z1,z2]
def Ox [29][76][19](h:ZabK)(al:ZaeR)(ok:LI ml):Zawa:=by
 intro p hp;obtain⟨a,b⟩:=p;have lt:a<b:=ok.lo _ hp
 have hb:b∈tH Zd_ a:=by
  have:=al a b;unfold o9 uv j7 at this;rw[Zns,Zc hp]at this;exact ZqT
 have ha:a∈st.circ.map (·.1):=(Ip ZrG).2.2 b hb;obtain⟨x,hx,rfl⟩:=ZazS;exact⟨(ZrG x hx).1,(Ip ZrG).2.1 b hb⟩
abbrev Mu [32](b:Addr):Zaa:=(∃ k,#[cp,(.dK k)])\/(∃ k,#[cp,(.dT k)])\/∃ l,#[cp,#[eG,l]]
def Mu.ins [38]{b C dx:Addr}[343](h:ZAO)(e:#[cp,ZpL]):False:=by
 rcases h with ⟨k,h⟩ | ⟨k,h⟩ | ⟨k,h⟩<;>rw[e]at h<;>cases h
def Mu.tup [38][45][31](h:ZAO)[188]:False:=by
 rcases h with ⟨k,h⟩ | ⟨k,h⟩ | ⟨k,h⟩<;>rw[e]at h<;>cases h
def Mu.some [38][45](h:ZAO):Zzq:=by
 rcases h with ⟨k,h⟩ | ⟨k,h⟩ | ⟨k,h⟩<;>exact ZXn
def bq.mu {C:Addr}[38][111][254]:#[NK,ZAO]:=by
 intro b hb;simp only[HA.fp,Zi]at hb;rcases hb with rfl | rfl | rfl | rfl | hb
 ·exact #[h',x.w]
 ·exact #[h',x.h]
 ·exact #[h',x.c]
 ·obtain⟨as,h,_⟩:=x.d
  exact #[nx,ZXn]
 ·obtain⟨i,hi,rfl⟩:=aQX hb
  obtain⟨y,_,q⟩:=#[aoN,x.cs];exact #[h',q]
#print Wz
namespace L2
open PySem PySem.Spec PyProof.Rows
noncomputable abbrev IR (qual:Str)(scope:Scope)[154][382]:Env:=PySem.W.envX Zbg ZbT Zax f ZawK ZsQ
abbrev De [229][382][74](E:XK):Cx where
 prog:=P
 w:=w
 K:=K
 mg:=mg
 base:=base
 A:=ZBQ (IR Zbg ZbT s f c' y cy)
 N:=N
 s₀:=s
 H₀:=H
 env:=ZLT
 outer:=outer
 stack:=ZLT::ZbA
 ex:=[]
 calm:=true
 fn:=ZavJ
 pn:=[]
 xe:=#[a0g,ZLT,Za1j]
structure FQ [165](y:Str)[405]:Zaa where
 kind:ZBy
 co:ZZW
 gen:ZZX
 nd:#[qo,0].Nodup
 par:∀ x∈ps,#[Oc,Zls]
 nocell:∀ z∈sc.names,z.2≠Ze2
 fr:∀ x,ZZ9->x=y
 fry:ZOb y=Zab Zf4
structure C4 (base:Heap)(qual:Str)(params:Arguments)(body:Expr)(scope:Scope)(y:Str)(vy:V)(f c' cy:Addr)(pm ct:Value):Zaa where
 ob:#[bd9,ZrJ]
 cell:∃ u,bE vy u/\base.IsCell cy (Zab u)
abbrev qr [32](c':Addr)(qual:Str):Zaa:=∃ oc vs t,#[aQ,c',ZKF]/\oc.data=Za1 vs/\#[au,vs[1]?,(Zaf Zbg t)]
def qr.rec [315]{c':Addr}{qual:Str}(x:Zac_)[159]:h.CodeRec #[aj,c'] Zbg:=by
 obtain⟨oc,vs,t,e,d,v⟩:=x;exact⟨c',oc,vs,t,rfl,(ok c' _ e).1,d,v⟩
def KN [78]{x:Str}{u:α}:∀ {l:#[oY,α]},(l.map (·.1)).Nodup->(x,u)∈l->#[bD,l.lookup,u]
 | p::l,nd,h=>by
  rw[Zr,ZW]at nd;rw[ZU];rcases ZzL with e | e
  ·rw[<-e];simp
  ·have ne:#[oU,x,p.1]:=by
    rw[Z4];exact fun z=>nd.1 (by rw[<-z];exact aQa (f:=(·.1)) e)
   rw[ne];exact KN nd.2 e
def Qi {ps:Zbo}[17][250][164](nd:ps.Nodup)(hl:Zeu=Zd2)(h1:Zayz)(h2:#[au,ZagL,u]):#[bD,Zawg,u]:=by
 refine KN ?_ ?_
 ·rw[List.map_reverse,#[cn,List.map_fst_zip]]
  exact (List.reverse_perm ps).nodup_iff.mpr nd
 ·rw[List.mem_reverse]
  exact Zy (i:=i) (List.getElem?_zip_eq_some.mpr ZuP)
def Mh {CX:Cf}{P:Program}{w:World}{K:PySem.W.Frag}{mg:Zo6}{base:Heap}{ps:Zbo}{y:Str}{qual:Str}{params:Arguments}{body:Expr}{scope:Scope}{vy:V}{f c' cy:Addr}{pm ct:Value}{A:Around}{outer:Zc9}{s:Shared}{h1:Heap}{tk:Nat}{H:Hp}{E:XK}{us:Zb'}{vs:Zbr}
  (S:ZaV2) (Lm:Za1o) (hd:Zfj) (e0:ZapK) (hl:ZaKi) (r:ZnB)
  (hns:#[G7,h1.Ns,#[cy,Zawg x]]) (hk:ZaDw) :
  aQ (De CX P w K mg ZaO Zqo Zbg ZbT f c' y cy A ZbA s H E) [] Zaoi H #[avB,h1]:=by
 have noA:#[aTc,(De CX P w K mg ZaO Zqo Zbg ZbT f c' y cy A ZbA s H E)]:=ZRH;obtain⟨uy,ry,oc,hoc,hdc⟩:=Lm.cell
 have lk:∀ x c,#[ahM,x,ZsQ,c]->x=y/\c=cy:=fun x c h=>by
  rw[ZU]at h
  cases e:x == y with
  | true=>rw[e]at h;cases h;exact#[fK,Zn8 e]
  | false=>rw[e]at h;cases h
 have lky:#[ahM,y,ZsQ,cy]:=#[a_,ZU,beq_self_eq_true]
 refine⟨⟨e0.mod,ZvL,rfl,rfl,ZaN,fun x z c h1 h2=>?_,Zf9,ZWM,#[bf,hd],Za6h Zah1,ZayA,ZLn,ZBV,e0.bsz,ZaK0,ZLn,Zah2,Zah3⟩,
  rfl,e0.bare,ZagQ,ZaRJ,ZWM,Za6k,ZWM,ZanK,ZaBv,?_⟩
 ·rw[(lk x c h1).1,(lk z c h2).1]
 ·have hx:#[adp,ZvM,ZvM]:=hx
  rcases hx with q | q
  ·exact #[oF,(Zaiu _ (aQF q))]
  ·exact#[tQ,cy,S.fr x q,lky]
 ·cases h
 ·by_cases hi:i<Zeu
  ·have hp:Zayz:=by
    have h1:ZaIp:=h1;rw[aXA hi]at h1;exact h1
   have ha:ZMG:=by
    have h2:ZaI5:=h2;rw[aXA (by simpa [hl] using hi),ZE]at h2
    cases e:ZMF with
    | none=>rw[e]at h2;cases h2
    | some a=>rw[e]at h2;cases h2;rfl
   obtain⟨u,hu,rv⟩:=ZaAI;refine⟨u,rv,Zam #[c7,ZMI x (Zy hp)]⟩;exact Qi (aQT.mp S.nd).1 (by rw[<-Ze5,hl]) hp hu
  ·have h1:ZaIp:=h1
   have hi2:i=Zeu:=by have:=#[ri,h1];simp at this;lia
   have h2:ZaI5:=h2;rw[hi2,aQ0 (Za _),Nat.sub_self]at h1;rw[hi2,aQ0 (by simp[hl]),show Zeu-#[aX,Zaih,Zab]=0 by simp[hl]]at h2;cases h1;cases h2;exact⟨uy,ry,Zap ⟨Zap S.fry,cy,lky,oc,ZaV6,hdc⟩⟩
 ·obtain⟨rfl,rfl⟩:=ZaNq
  exact#[i9,oc,ZaV6,hdc]
 ·obtain⟨rfl,rfl⟩:=ZaNq
  exact (ZBV _ _ hoc).2
 ·show #[aW,Zaoi]=#[aW,Zqo]
  simp[hl]
def Ug {CX:Cf}{P:Program}{w:World}{K:PySem.W.Frag}{mg:Zo6}{base:Heap}{k:Nat}{ps:Zbo}{y:Str}{qual:Str}{params:Arguments}{body:Expr}{scope:Scope}{vy:V}{f c' cy:Addr}{pm ct:Value}{sp:Sp}
  (S:ZaV2) (Lm:Za1o)
  (len:ZOe) (hcd:#[Od,Zjn->Zac_])
  (hbody:∀ (A:Around)(outer:Zc9)(s:Shared)(H:Hp)(vs:Zbr)(Q:VK)(E:XK),#[TP,ZLT]->Zjn ->
   ∃ t,PE (De CX P w K mg ZaO Zqo Zbg ZbT f c' y cy A ZbA s H E) Zfr t/\t Zaoi H Q) :
  #[aZF,#[ava,Za91,ZawK]]:=by
 refine⟨len,#[a6l,?_]⟩;have hl:=ZaOg;have hkp:#[Y9,Zd6]:=Zap0;have lim:s.heap.NoLimit:=Za6m hkp;refine #[a0T,PySem.W.kla_callFunE,hkp,Lm.ob,((hcd _ _ _ _ hsp).rec e0.hok)];refine aXB Zaiu (fun z hz=>ZMI z.1 (aXM hz).1) (fun h1 hns hsb=>#[c7,lim.fresh _ hsb]) ZvL;have hk1:ZaDw:=#[dG,hsb.extBut b o Zjp ZhW]
 show Zrq _ _ (.expr Zfr Za1j) _ _
 obtain⟨t,ht,hq⟩:=ZaKa;have I:aQ (De CX P w K mg ZaO Zqo Zbg ZbT f c' y cy A ZbA s H E) [] Zaoi H #[Of,h1,Zb4+#[aX,ZvJ,us]]:=Mh S Lm ZBW e0 hl r hns hk1;refine PySem.W.kla_codeExpr (ZN (ht [] _ _ H Q I hq) (fun u s' zz=>?_) fun e s' hs=>hs);obtain ⟨v,H',J,rv,q⟩:=zz;exact Za1e
abbrev uZ [1](c P:Addr):Zaa:=∃ (o:Obj)(vs:Zix)(file:Str)(tf:Tok)(flags:Int)(tg:Tok)(inF:Bool)(text:Int)(tt:Tok),Zaz3/\#[xM,"code"]/\ZacX/\ZaLP/\#[ajO,11,Zai P]/\ZajN 18 Zay=Zaf file tf /\
  #[ajO,7,Zag flags tg]/\#[ajO,9,Zes inF]/\#[ajO,10,Zag text tt]/\c≠P
def uZ.hd [7]{c P:Addr}[153](x:ZaQw)(k:ZqA):Za97:=by
 obtain⟨o,vs,file,tf,flags,tg,inF,text,tt,e,r⟩:=x;exact⟨o,vs,file,tf,flags,tg,inF,text,tt,k _ _ e,r⟩
abbrev wM [25](base:Heap):Zaa:=∃ bm ob,#[b1,"__builtins__",bm]/\bm≠ZBw/\ZrJ bm=Zab ob/\ob.cls=Za4 "module"/\ZaiM=Zab ZBw/\ZNs=.plain
abbrev TabI [32](P:Addr)(pos:Pos)(qual:Str):Zaa:=H P=some (Ze1 #[])\/∃ c',H P=some (Ze1 #[Zahy,ZAr,Zqv])/\Zac_
def TabI.tbl [38][242]:∃ ps,#[aQ,P,Zatn]:=x.elim (#[cj,Znn]) fun #[bN,e,_]=>Znn
def TabI.same [16][242][110]:ZaDG:=by
 rcases x with e | ⟨c',e,oc,vs,t,e2,r⟩
 ·exact Zam #[fR,s]
 ·exact Zap ⟨c',s _ _ e,oc,vs,t,ZYI,r⟩
section
variable {X:Cx}{pins:Ze0}{σ:St}{H:Hp}{s:Shared}
def Oh {A:Around}{E:ZfE}{params:Arguments}{body:Expr}{scope:Scope}{pos:Pos}{y:Str}{c0 P cy:Addr}{qual:Str}{Q:ZfE}(I:Zi6)(hc:ZaE4)(C:ZaUw)(B:ZaIO)(hq:ZaS0)
  (hT:ZJV) (hdf:ZaUb) (hcl:Za7a) (hcy:Zacf)
  (h:∀ (f c':Addr)(pm ct:Value)(H':Hp)(s':Shared),ZqW->#[bd9,ZajP]->#[avn,f]->H' f=Zac->qr H' c' Zbg->ZaDG->(#[ef,Zdf,P,ZfO]) ->
   (#[ef,Zd6,P,Zaw5])->Q Zpo s') :
  #[w4,#[ky,(ZrK ZlS Zfr ZbT pos)]]:=by
 refine PySem.W.kla_eval hdf ?_;rw[hq];have kb:=I.bk;have CH:=C.hd Zhq;obtain⟨bm,ob,b1,b2,b3,b4,b5,b6⟩:=B;have gN:Zag0 Zlt ZcJ:=I.ok.mod.glob.keeps kb;obtain⟨ps,hps⟩:=hT.tbl;have hPo:#[py,P,(PySem.W.tabObj ps)]:=Zbe P _ hps
 have nP:#[ag2,b≠P]:=fun b o e z=>by rw[z]at e;rw[#[fR,I.bs].2]at hps;cases hps
 have gP:Zlt≠P:=fun z=>by
  obtain⟨o,es,ep,e,hd,_⟩:=I.ok.mod.glob;exact nP _ _ e z
 have bG:bm≠Zlt:=fun z=>by
  obtain⟨o,es,ep,e,hd,_⟩:=I.ok.mod.glob;rw[z,e]at b3;cases b3;rw[hd]at b6;cases b6
 have hb:s.heap.BuiltinsAt ZcJ P:=⟨bm,ob,b1,b2,bG,nP _ _ b3,kb _ _ b3,b4,b5,b6⟩;rcases hT with hT | ⟨c',hT,hcf⟩
 ·rw[hps]at hT
  cases hT;refine PySem.W.kla_makeFunction (mg:=ZcJ) hcl ZCl gN hc CH hPo (by trivial) rfl gP hb fun c' ctv h' tk hx hge hlt hrec htb=>?_;obtain⟨c1,oc,vs,t,e1,hoc,hdc,hvc⟩:=hrec;cases e1;have hcH:#[aZ,c']:=Zn0 hge
  have cP:c'≠P:=fun z=>by rw[z,hps]at hcH;cases hcH
  have fH:Zaxr:=Zn0 (ZV hge (ZBC hlt))
  have fP:ZlG≠P:=fun z=>by rw[z,hps]at fH;cases fH
  have fc:ZlG≠c':=Z1 hlt;have kk:#[ef,Zd6,P,Zbd8]:=#[wr,Y7 _ (hx b o n e)];have lt0:#[yC,b≠c']:=fun b o e z=>#[qB,(Zz (Zk (z▸e)) hge)]
  have ltH:#[tk,b≠c']:=fun b o e z=>by rw[z,hcH]at e;cases e
  have I1:aQ X pins σ (upd (upd H P (Ze1 (#[]++#[Zahy,ZAr,Zqv]))) c' ZKF) #[avB,ZMV (Zbd7)]:=by
   have hne:∀ b o,Zdf->b≠P->upd (upd H P (Ze1 (#[]++#[Zahy,ZAr,Zqv]))) c' ZKF b=Zig:=#[wr,#[cB,ZaIe,Zqg,e]]
   refine I.un ⟨fun b o e n _ _=>kk b o e (fun z=>by rw[z,hps]at n;cases n),fun b o e n _ _=>⟨o.slots,kk b o e (fun z=>by rw[z,hps]at n;cases n)⟩,#[ajQ,?_],#[ajR,?_],fun b xs e=>hne b _ e (fun z=>by rw[z,hps]at e;cases e),fun b o u e=>hne b _ e (fun z=>by rw[z,hps]at e;cases e),fun b qs e=>?_⟩ ZGR
   ·rw[ai #[de,lt0],ai (fun z=>by rw[z,hps]at n;cases n)];exact n
   ·by_cases z:b=P
    ·exact#[aR,#[GL,Zax9]]
    ·exact#[hX,kk b o e z]
   ·by_cases z:b=P
    ·rw[z,hps]at e;cases e
     exact⟨#[Zahy,ZAr,Zqv],by rw[z,ZayM,ac]⟩
    ·exact⟨#[],#[fp,hne b _ e z]⟩
   ·by_cases z:b=c'
    ·rw[z,ac]at e
     cases e;rw[z];exact⟨Zax8,_,Zax8⟩
    ·rw[ZtX]at e
     by_cases z2:b=P
     ·rw[z2,ac]at e
      cases e;rw[z2];exact Zax9
     ·rw[ai z2]at e
      refine (Zbe b u e).stay (fun d v hd q=>kk d v q ?_) (fun d q=>hne d _ q (fun z=>by rw[z,hps]at q;cases q)) fun d xs q=>hne d _ q (fun z=>by rw[z,hps]at q;cases q);rcases hd with r | r
      ·rw[r];exact z2
      ·exact fun z=>by rw[z,hps]at r;cases r
  have cf:qr (upd (upd H P (Ze1 (#[]++#[Zahy,ZAr,Zqv]))) c' ZKF) c' qual:=⟨oc,vs,t,ac,hdc,hvc⟩;refine h _ c' _ ctv _ _ I1 Zna (ZV hge (ZBC hlt)) ?_ cf (Zap #[k1,c',cf]) ZaEC kk
  ·rw[ai fc,ai fP];exact fH
  ·rw[ZayM,ac];rfl
  ·rw[ZaIe,Zqg];exact e
 ·rw[hps]at hT
  cases hT;refine PySem.W.kla_makeFunctionHit (cv:=Zqv) (mg:=ZcJ) hcl ZCl gN hc CH hPo ?_ ?_ hb fun ctv h' tk hk hsz=>?_
  ·exact True.intro
  ·exact codeAmong_snoc (pos:=pos) (c:=Zqv) [] Za5T rfl
  have fH:Zaxr:=Zn0 hsz;have kk:#[yC,Zbd8]:=#[apX,#[de,hk]];exact h _ c' _ ctv H _ (Zrm kk) Zna hsz fH hcf (Zap ⟨c',hps,hcf⟩) (ZajS) (#[ajT,kk])
def yG {h base base':Heap}:∀ [395],Za92 ZaO l->(#[gK,kN l,Za93 b=Zac])->Za92 base' l
 | [],_,_=>trivial
 | env::r,hl,hn=>by
  obtain⟨hk,⟨L,o,hf,hb,ho,hd⟩,hr⟩:=hl
  have e:kN (env::r)=L::kN r:=by unfold kN;rw[List.filterMap_cons,hf]
  rw[e]at hn;exact⟨hk,⟨L,o,hf,hn L Ze,ho,hd⟩,yG hr #[cX,hn b Zz2]⟩
abbrev Ak (base h:Heap)(f cy:Addr):Heap:=ZagU h (ZaPM fun b=>#[lx,ZaXO])
def oV [328][317](hb:ZaT9):ZaDY:=by
 refine Za7S _ e ZcM;obtain⟨n1,n2,n3⟩:=ZF (ZagV z).2;rcases hb with ⟨o,q⟩ | q | q
 ·rw[n1]at q;cases q
 ·exact n2 q
 ·exact n3 q
def DB [328](e:ZaDY):Zeq/\(ZaT9):=by
 have e1:=#[a4I,e];refine ZazG
 by_cases z:ZaXO
 ·have:#[auq,0].get? b=Zac:=ZagX _ (ZagW ⟨Zrb (Zk e1),Zc z⟩)
  rw[this]at e;cases e
 ·by_cases z1:b=f
  ·exact #[mT,z1]
  by_cases z2:b=cy
  ·exact #[nx,z2]
  cases q:ZrJ b with
  | none=>exact #[oE,⟨q,z1,z2⟩,z]
  | some o=>exact #[XH,o]
def Mod.keeps [7][75]{base base':Heap}(m:ZaD')(k:#[Y9,#[bc,Za93]]):Mod K mg base' :=
 ⟨m.kin.keeps k,m.glob.keeps k,let ⟨mb,h1,h2⟩:=m.blt;⟨mb,Za48 k,h2⟩,m.nolimit.keeps k⟩
def Og {f cy:Addr}{y:Str}[3](hf:#[aZ,f])(hfo:∃ o,#[qF,f])(hs0:Zd3<f)(hcy:Zacf)(hfn:ZaF9):D9 Zck X.w X.K ZcJ ZaQa X.A ZdC s H:=by
 have e0:=I.env0
 have nf:#[Wx,b≠f/\b≠cy]:=fun b hb=>by
  rcases ZaN_ with z | z
  ·exact#[tQ,#[GL,Zq hs0],z,(I.cne y cy hcy).symm]
  ·obtain⟨_,o,ho,_⟩:=ZajU z
   have l1:=Zk ho;have l2:=ZNV y cy hfn hcy;have l3:=I.ok.above;exact⟨Zq (Zaii (Zz l1 l3) hs0),Zq (Zz l1 l2)⟩
 refine⟨Zah1,I.ok.mod.keeps #[dG,oV #[de,I.bk] (Zam ZnE)],ZGP,ZMv (Za4G _ _),yG Zah2 Zdx,Zah3,e0.hok,e0.bare⟩
 ·obtain⟨e1,z⟩:=DB e
  refine ZazG;rcases z with ⟨o',z⟩ | z | z
  ·exact (I.bs b o' z).2
  ·rw[z];exact hf
  ·rw[z];exact Zvu y cy hcy
 ·cases q:#[aQa,0].get? b with
  | none=>rfl
  | some o =>
   obtain⟨_,z⟩:=DB q;rcases z with ⟨o',z⟩ | z | z
   ·have:=(Za75 hb).1
    rw[this]at z;cases z
   ·exact #[qh,#[kt,nf]]
   ·exact #[qh,#[c',nf].2]
#where
section
variable {X:Cx}{CX:Cf}{k:Nat}{E:XK}{x y:Str}{p pos:Pos}{e e1 e2:Expr}{es:Zbv}{te t1 t2:TE}{t:TA}
def OV {i:Nat}{f:Addr}{fd:FuncData}{ps:Zbo}{sp:Sp}{o:Obj}(F:ZanB)(hr:ZjD)(hN:Znw)(hv:Zamx)(ho:Zag1 f=Zab o)(hd:Zhm=ZvV fd)
  (hb:#[awh,#[R8,#[aSD,ZpH]]]) (hx:Ziv) (ha:Zhl)
  (hdb:Za79:=by decide) (hcd:ZZl:=by decide) (he:ZDL:=by rfl) (hpl:Zame (·.1)=false:=by rfl) :
  #[xb,(#[ahd,#[au,Zahz,ZsN]/\t σ H #[Cu,sp vs H1 Q E]])]:=by
 intro pins s σ H Q I h;obtain⟨hσ,h⟩:=h;refine Z9 (bS (O4 hN hv hdb hcd Zav s σ H (fun v H'=>v=Zai f/\H'=H) I #[Ez,hσ]) ZhV);obtain ⟨v,H1,I1,rv,ev,eh⟩:=zz;subst ev eh;obtain rfl:#[QJ,f]:=rv
 have kp:∀ h:Zvk,Zep f=Zab o->∃ k,(k=Keeper.frame\/k=Keeper.machine\/k=Keeper.boundFrame)/\#[aSi,keeperOf,f,k]:=fun h q=>by
  obtain⟨oc,od,dt,sl⟩:=o;have hd:dt=ZvV fd:=hd;subst hd;exact⟨.frame,ZkP,#[adk,(Za8n (part:=Zac) q)]⟩
 rw[he];refine PySem.W.callWith_of (P:=#[gc,Zep f=Zab o]) (by show ((false||Zame (·.1))||false)=false;rw[hpl];rfl) kp ZZR;have hA:=#[Wh,ha,pos,_,h];rw[he]at hA;refine bS hA fun us s2 ⟨vs,H2,I2,r,q⟩=>#[c7,(I2.bs _ _ ho).1]
 have hl:Zd2=Zeu:=#[Wz,Ze5,q]
 refine #[Lr,aXL,ZMC X.A ZdC s2 H2 ZpH us vs Q E hr I2.env0 (hb s2 us hl) r q]
 cases r with
 | error e=>exact hx Zav σ H2 s2 e s' I2 hq
 | ok fl =>
  cases fl with
  | ret u=>exact Za94 hq
  | next=>exact Zvy
  | brk=>exact Zvy
  | cont=>exact Zvy
#where
def dL.okXC {P:Program}{w:World}{K:PySem.W.Frag}{mg:Zo6}{base:Heap}{x qual:Str}{st:Stmt}{f c0:Addr}{fd:FuncData}{N ps:Zbo}{k:Nat}{sp:Sp}(F:ZAD)(S:Zaft)(hco:ZaE5)(len:ZOe)
  (hbody:∀ (A:Around)(outer:Zc9)(s:Shared)(H:Hp)(vs:Zbr)(Q:VK)(E:XK),#[att,ZawO]->Zjn ->
   #[aW7,ZawO]):ZaFp:=by
 obtain⟨oc,od,kV,doc,pm,an,cdv,ct,osl,rfl,lk,hcd⟩:=F.ex;have e:cdv=Zai c0:=hco;subst e;exact #[agq,#[avi,hr]]
abbrev QY [387]:Arguments:=match e with | ZrK a _ _ _=>a | _=>#[a61,[],[],Zac,[],[],Zac,[]]
abbrev QZ [387]:Expr:=match e with | ZrK _ b _ _=>b | _=>e
abbrev Oe [387]:Scope:=match e with | ZrK _ _ s _=>s | _=>#[a64,ZBx,[],Zaz,Zaz]
abbrev XH [387]:Pos:=match e with | ZrK _ _ _ p=>p | _=>Zu8
#print L2
namespace Wz
open PySem L2
inductive FA [1](P0:Addr)[12]:Zaa
 | mk [84][166](_:vs=Zh9)[378](_:Zfn<=63)(_:H P0=some (Ze1 #[]))(_:#[gO,ZF3])
def TabI.put [38]{P l:Addr}[156]{qual:Str}[31]{o:HO}(x:ZJV)(e:ZqV):Zoo ZYO P pos Zbg:=by
 rcases x with q | ⟨c',q,oc,vs,t,e2,r⟩
 ·exact Zam (by rw[ai (dD q e (by intro z;cases z))];exact q)
 ·exact Zap ⟨c',by rw[ai (dD q e (by intro z;cases z))];exact q,oc,vs,t,by rw[ai (dD e2 e (by intro z;cases z))];exact e2,r⟩
#print Wz
namespace L2
open PySem PySem.Spec PyProof.Rows
def DN [7]{x:Str}{c P:Addr}[338]:∃ (f:Addr)(oc:Value)(od:Zgj)(fd:FuncData)(osl:Zu7)(o:Obj)(vs:Zix),ZadP/\ZaZ2/\ZajW=Zai c/\Zaz3/\ZacX/\ZaLP:=by
 unfold PySem.W.tabIn at h;split at h
 ·rename_i f hf
  split at h
  ·rename_i oc od fd osl hfo
   split at h
   ·rename_i c₂ hc
    split at h
    ·rename_i a1 a2 vs a3 hco
     split at h
     ·rename_i P₂ hv
      cases h;exact⟨f,oc,od,fd,osl,_,vs,hf,hfo,hc,hco,rfl,hv⟩
     ·cases h
    ·cases h
   ·cases h
  ·cases h
 ·cases h
def P4 [7]{x qual:Str}{st:Stmt}{c P f:Addr}{fd:FuncData}[338](hf:ZadP)(F:ZAD):ZajW=Zai c:=by
 obtain⟨f',oc,od,fd',osl,o,vs,e1,e2,e3,_⟩:=DN h;rw[hf]at e1;cases e1;obtain⟨oc2,od2,kV,doc,pm,an,cdv,ct,osl2,e4,lk,_⟩:=F.ex;rw[e2]at lk;cases lk;exact e3
def NB [7]{x:Str}{c P:Addr}[153](ht:ZaYS)[418](C:Za97):ZaQw:=by
 obtain⟨f',oc,od,fd',osl,o,vs,e1,e2,e3,e4,e5,e6⟩:=DN ht;obtain⟨o',vs',file,tf,flags,tg,inF,text,tt,g,r⟩:=C;have:=X _ _ e4;rw[g]at this;cases this;exact⟨o,vs',file,tf,flags,tg,inF,text,tt,e4,r⟩
def Mi {P:Program}{w:World}{K:PySem.W.Frag}{mg mb:Zo6}{CX:Cf}{k:Nat}{fa a c0 P0:Addr}{fd:FuncData}{x:Str}{sp:Sp}{s₁:Shared}{vs:Zb'}{ns:Zbp}
  (KX:ZnX Zj4) (hns:ZajX Zlt mg) (hb:ZajX ZBw mb) (hbb:Zbc3) (hlim:s₁.heap.NoLimit) (hg:s₁.gens = #[])
  (ha:ZaMC) (hi:Zaiq) (hl:Zaxt) (hr:Zaz8)
  (hK:#[asM,K]) (C:Za96 Zj4 c0 P0) (hP:ZB5 P0=some (PySem.W.tabObj #[])) (BM:wM mg Zj4)
  (F:#[apl,ZnX,aV P w K mg ZaO CX k fa fd [x] sp]) (hbind:ZaJA)
  (hsp:∀ H:Hp,H P0=some (Ze1 #[])->ZKW->sp Zh9 H Zawi Zqs)
  (hCX:∀ H e s',CX [] H ZiE (Zqs) e s'->ZiM) :
  #[a1L,ZvZ]:=by
 have rv:=DR hi;have lenV:=hi.length
 have aP:a≠P0:=fun z=>by rw[z,hP]at ha;cases ha
 have Kno:#[pd,ZiP,b≠P0]:=fun b o e z=>by
  have e2:=KX b o e;rw[z,hP]at e2;cases e2;have h2:=ZM.mp hK (b,PySem.W.tabObj #[]) (PySem.W.mem_of_lookupK e);exact #[xn,show Zjb from h2]
 obtain⟨H,HP,HA,Hrest⟩:∃ H:Hp,H P0=some (Ze1 #[])/\((ZiP a=Zac/\#[eg,ZaMK])\/(∃ o,ZZd)/\Zm7)/\∀ b,b≠P0->b≠a->Za9:=by
  cases hk:ZiP a with
  | some o=>exact⟨fun b=>if Zt' then some (Ze1 #[]) else none,ZaB,Zap ⟨#[fK,o],Y8 aP⟩,fun b n _=>Y8 n⟩
  | none=>exact⟨fun b=>if Zt' then some (Ze1 #[]) else #[akS,b=a,ZaMK],ZaB,Zam #[db,by show #[aaK,a=P0];rw[Y8 aP,ZaB]],fun b n1 n2=>by show #[aaK,Zt'];rw[Y8 n1,Y8 n2]⟩
 have hok:#[ta,Zj4]:=fun b u e=>by
  by_cases z:Zt'
  ·rw[z,HP]at e;cases e;rw[z];exact hP
  ·by_cases z2:b=a
   ·rw[z2]at e ⊢
    rcases HA with ⟨_,q⟩ | ⟨_,q⟩
    ·rw[q]at e;cases e
     exact⟨ha,ZaAf,vs,_,rv,ha⟩
    ·rw[q]at e;cases e
   ·rw[Hrest b z z2]at e;cases e
 have hS:ZKW:=by
  rcases HA with ⟨_,q⟩ | ⟨⟨o,q1⟩,q⟩
  ·exact #[YV,Zk4]
  ·have e:=KX a o q1
   rw[ha]at e;cases e;exact Zap ⟨_,ZvN,_,q1,rfl,rfl,rfl,#[cB,Zv,lenV,hl],Za5l⟩
 have free:∀ [357],#[bc,ZB5]->(∀ qs,#[T6,qs])->(∀ qs n,Zhm≠Za2 qs n)->Za9:=fun {b o} e n1 n2=>Hrest b (fun z=>by rw[z,hP]at e;cases e;exact n1 _ rfl) (fun z=>by rw[z,ha]at e;cases e;exact n2 _ _ rfl);have nsK:∀ [45][146],ZajX b m->#[abl,0].Ns b m:=fun {b m} ⟨o,es,ep,e,d,r⟩=>⟨o,es,ep,AE e (free e (fun qs z=>by rw[d]at z;cases z) (fun qs n z=>by rw[d]at z;cases z)),d,r⟩
 have hKb:ZnX (Ew Zj4 H):=fun b o e=>AE #[de,KX] (by
  by_cases z:b=a
  ·rcases HA with ⟨q0,_⟩ | ⟨_,q⟩
   ·rw[z,q0]at e;cases e
   ·rw[z];exact q
  ·exact Hrest b #[de,Kno] z)
 have hM:Mod K mg Zabl:=⟨hKb,nsK hns,⟨mb,nsK hb,hbb⟩,let ⟨mc,h1,h2⟩:=hlim;⟨mc,nsK h1,h2⟩⟩;have e0:D9 P w K mg Zabl ZOj [] ZiE H:=⟨rfl,hM,#[dG,Rn e],ZMv (Mc _ _),ZB0,#[cX,#[Ra,show b∈ZRF from hb]],hok,ZahU hg⟩
 have BM2:wM mg (Ew Zj4 H):=by
  obtain⟨bm,ob,b1,b2,b3,b4,b5,b6⟩:=BM;exact⟨bm,ob,b1,b2,AE b3 (free b3 (fun qs z=>by rw[b6]at z;cases z) (fun qs n z=>by rw[b6]at z;cases z)),b4,b5,b6⟩
 refine aQY ((F _ hKb (nsK hns) BM2).run ZOj [] ZiE H ZasV Zh9 Zh9 _ _ hr e0 (hbind ZiE ZbP) ZaA6 (hsp H HP hS)) fun r s' h=>?_
 cases r with
 | error e=>exact (hCX H e s' h).elim
 | ok fl =>
  cases fl with
  | next=>exact ZXt
  | brk=>exact ZXt
  | cont=>exact ZXt
  | ret u =>
   obtain⟨v,H',os,bare,un,hok',r',q⟩:=h;have q':Zaus:=q;subst q';obtain rfl:#[H',Zae]:=r'
   have kp:#[ef,#[bc,ZB5],P0,Zaw5]:=fun b o e n=>by
    by_cases z:b=a
    ·rcases HA with ⟨_,q1⟩ | ⟨_,q1⟩
     ·have z2:=un.frzs b _ _ ZaD2
      obtain⟨e2,_⟩:=hok' b _ z2;rw[z,ha]at e;cases e;exact e2
     ·exact un.keep b o e ZaD2 (by intro z;exact ZRG) Za7
    ·exact un.keep b o e (Hrest b n z) (by intro z;exact ZRG) Za7
   obtain⟨more,hm⟩:=un.tbls P0 _ HP;have hP':ZajP P0=some (PySem.W.tabObj (#[]++more)):=hok' P0 _ hm;refine⟨rfl,⟨ZGP,ZGP⟩,os,bare⟩
   ·by_cases z:Zt'
    ·rw[z]at e ⊢
     have e':=e;rw[hP]at e';cases e';exact Zap (Zam ⟨(C.tab hP).isCodeTable,rfl,#[],more,rfl,hP'⟩)
    ·exact Zam (kp b o e z)
   ·by_cases z:Zt'
    ·exact#[aR,#[GL,hP']]
    ·exact#[hX,kp b o e z]
def walk_ofT {l:PySem.W.OpenLaw}{n k:Nat}{q:Program}{loose:Zbo}{XP:Zaax}{YP:Zaaw}{d:DefRec}{K:Params->Za98}{CX:ZOk->Cf}{sp:ZOk->Sp}{x nm:Str}{c0 P0:Addr}
  (hn:ZacE) (hn2:#[lF,n]) (hdf:ZYU) (hr:Zaz8)
  (hY:ZaLc)
  (hTY:∀ (w:World)(h:Heap),ZVV->ZaCG=some (PySem.W.tabObj #[])) (hch:ZaPk) (htab:#[Ol,ZaV9]) (hnt:ZaPj)
  (F:∀ (w:World)(mg:Zo6)(fa:Addr)(h:Heap),#[jh,0].In h->ZuM->Zaim->ZaHm->ZaV9 ->
   ∃ fd:FuncData,(ZaJA) /\
    #[a0K,(CX w),k,[x],(sp w)])
  (hsp:∀ (w:World)(H:Hp)(a:Addr)(ns:Zbp),ZIO->H P0=some (Ze1 #[])->bN Zjh H a Zym->sp w Zh9 H Zawi Zqs)
  (hCX:∀ (w:World)(H:Hp)(s:Shared)(e:Value)(s':Shared),CX w [] H s (Zqs) e s'->ZiM) :
  ZaJ':=by
 refine Att.attach_call hn hdf fun w s₀ s₁ mg mb fa o pm cd doc a vs ns G Y ho hd hcd hmg hobj hints hlen hg=>?_;have KX:=hY w _ Y;have CH:=PySem.W.codeHd_of_K KX (hch w);have hP:=hTY w _ Y;obtain⟨fd,hb,hF⟩:=F w mg fa _ KX G.T.g hmg (NB ZaAZ KX CH) ZaAZ;exact Mi KX G.T.g G.T.b G.T.builtins G.T.nolimit hg hobj hints (ZV ZiH hn2) hr (hnt w) CH hP G.T.bmain hF hb (fun H hO hS=>hsp w H a ns ZiH hO hS) fun H e s'=>hCX w H ZiE e s'
#print L2
namespace Wz
open PySem L2
abbrev YM (o:Zgk):V:=match o with | none=>ZaH | Zab p=>Zag p
open PySem PySem.Spec PyProof.Rows L2 PySem.SetTable
noncomputable abbrev Hn (es:Ziw (Int×Zb_))(ep:Nat)(t:SetTable):Obj:=#[RC,Za4 ZiK,Zhn es ep t]
#print Wz
set_option maxRecDepth 1000000
set_option maxHeartbeats 8000000
namespace Wz
open PySem L2
def rG {P:Zgr}{G:Zaa}(C:Zgr)(main:(ZaTk)->G)(key:ZaTk):G:=main key
#print Wz
set_option maxRecDepth 1000000
set_option maxHeartbeats 8000000
namespace Wz
open PySem PySem.Spec PyProof.Rows L2 PySem.SetTable
section
variable {X:Cx}
def rY:∀ (l acc:Zbp),Za99->ZaPz<=#[Wp,Zcc]/\(ZaPz=ZOm+Zcc↔(acc++l).Nodup)
 | [],acc,nd=>by simp[nd]
 | x::l,acc,nd=>by
  rw[aQU]
  by_cases hx:x∈acc
  ·have e:#[aTN,acc]:=by unfold step_dedup;rw[Y9 (ZB6)]
   rw[e];obtain⟨h1,h2⟩:=rY l acc nd;rw[Zx];refine#[mB,⟨ZGN,ZcM⟩];rw[aQT]at z;exact #[oF,(z.2.2 x hx x Ze)]
  ·have e:#[aTN,acc++[x]]:=by unfold step_dedup;rw[Y8 (ZB6)]
   rw[e];obtain⟨h1,h2⟩:=rY l (acc++[x]) (aQT.mpr #[zp,nd,fun a ha b hb z=>hx (by rw[<-Zy0,<-z];exact ha)]);rw[Zh,ZS]at h1 h2;rw[Zx,#[eA,#[Wp,ZzI]=ZawT+Zcc],h2,aQb];exact⟨h1,Iff.rfl⟩
inductive RP [1][11]:Zaa
 | mk [258][66]
def LS [112]:#[id,ZiK,(RP X.K)]:=by
 intro pins s σ H xs us Q I r h;obtain⟨p,ns,rfl,hq,hz,q⟩:=h;obtain⟨u,rfl,rx⟩:=ZeR;cases rx;obtain⟨its,rv,pl,_⟩:=Zvw;have hl:=rv.length;rw[Y5]at hl;refine #[a_w,call_set_list,ZiC]
 have en:Zbdv:=by
  unfold firstMet;rw[Zv,<-hl,AA]
 rw[en]at hS;obtain⟨d1,d2⟩:=ZaWp;refine Zbdw
#where
open PySem L2
structure Yw [404](o:Addr):Zaa where
 e:eW K o
 m:#[b1,ZCj,o]
 x:#[a8b,o,o]
abbrev Pb (a b c d:Int):ZeF:=[Zqt,(c,d),(a,c),(b,d),(a,d),(b,c)]
inductive FC (co:Addr)[55]:Zaa
 | mk (a b c d:Int)(_:vs=[ZkL,ZmN,ZzE,ZHc])(_:(ZEQ->#[a'I,#[FQ,Pb]]))(_:(¬ ZEQ->#[w9,co]))
#print Wz
namespace Tm
open PySem PyProof.Rows
abbrev el [212][219]:Keyed:=xs.getD i (Zay,Zay)
structure Y0 [57](A:Around)[154][366][37]:Zaa where
 cmp:∀ {x y:Keyed}[50]{Q:Zb3->Zaa},x∈a0->y∈a0->Q (lt x y)->#[fF,ZvZ,(keyLt' κ x.1 y.1),(fun b s'=>s'=s/\Q b)]
 irr:∀ x,lt x x=Zaz
 tr:∀ x y z,ZUa->lt y z=Zae->lt x z=Zae
 tot:∀ x y,x∈a0->y∈a0->x≠y->ZUa\/lt y x=Zae
 nd:a0.toList.Nodup
structure Yv [366](st:SortSt):Zaa where
 pm:(arrOf st).Perm a0
 fl:ZajY st=Zac
 kd:Zn6 st=κ
section
variable {P:Program}{w:World}{A:Around}{E:ZfE}{s:Shared}{κ:SortKind}{a0:Zlo}{lt:ZaRG}{st:SortSt}
abbrev Up [37][212](lo hi:Nat):Zaa:=#[aY5,i,j]
abbrev Dn [37][212](lo hi:Nat):Zaa:=#[aY5,j,i]
abbrev YZ (xs ys:Zlo)(lo hi:Nat):Zaa:=∀ i,i<lo\/hi<=i->el ys i=el xs i
abbrev YD (st st':SortSt):Zaa:=Zbeo/\Za9_ st'=Za9_ st
#where
abbrev W6:Zb3->Zln->Zlo->Nat->Nat->Nat->#[auG,ZfX,Nat]:=sortPriv% PySem.Builtin.gallop
abbrev Bf [37](left:Bool)(key:Keyed)[212](b i:Nat):Bool:=#[eM,left,lt (el xs (b+i)) key,! lt key (el xs (b+i))]
abbrev Fn [465](T r:ZawG):Zaa:=r.Perm T/\r.Pairwise R
structure J [465](T out ra rb:ZawG):Zaa where
 pm:(out++(ra++rb)).Perm T
 so:out.Pairwise R
 oa:#[aR_,ra]
 ob:#[aR_,rb]
 sa:ra.Pairwise R
 sb:rb.Pairwise R
 la:∀ x,x∈rb->∀ z,#[au,ra.getLast?,z]->R x z
abbrev V8:ZaTL:=sortPriv% PySem.Builtin.mergeLo
abbrev Ql:Nat->StateT SortSt Sem Unit:=sortPriv% PySem.Builtin.setMinGallop
structure Y4 (a0:Zlo)[147]:Zaa where
 ma:∀ i,ZaxZ->el a i∈a0
 mb:∀ i,i<ZrL->el b i∈a0
 ne:∀ i j,ZaxZ->j<ZrL->el a i≠el b j
 ua:Up lt a 0 Zws
 ub:Up lt b 0 ZrL
 za:0<Zws
 zb:0<ZrL
 h0:lt (el b 0) (el a 0)=Zae
 hl:lt (el b (ZrL-1)) (el a (Zws-1))=Zae
abbrev aD (st st':SortSt):Zaa:=arrOf st'=arrOf st/\ZajY st'=ZajY st/\Zn6 st'=Zn6 st/\Zbeo
abbrev Jl [466](ia ib:Nat):Zaa:=J (ZasE) Za_B Zaiz (a.toList.drop ia) (b.toList.drop ib)
abbrev Sl [208](ia ib:Nat):Zaa :=
 #[a_C,r=Zac/\Jl lt a b out ia ib/\ia+1<Zws/\ib<ZrL/\Zazy]
abbrev V7:ZaTL:=sortPriv% PySem.Builtin.mergeHi
abbrev Jh [466](na nb:Nat):Zaa:=J (fun x y=>lt y x=Zae) Za_B Zaiz (b.toList.take nb).reverse (a.toList.take na).reverse
abbrev Sh [208](na nb:Nat):Zaa :=
 #[a_C,r=Zac/\Jh lt a b out na nb/\0<na/\na<Zws/\1<nb/\nb<=ZrL/\Zazy]
abbrev back (q:Nat)(m arr:Zlo):Zlo:=m.toList.zipIdx.foldl (fun a (p,j)=>a.setIfInBounds (q+j) p) arr
abbrev Ch [37][212]:Nat->#[eE,Nat,ZabZ]->Nat->Zaa
 | f,[],u=>f=u
 | f,t::r,u=>t.1=f/\1<=t.2.1/\Up lt xs f (f+t.2.1)/\Ch lt xs (f+t.2.1) r u
#print Tm
namespace Qs
open PySem PySem.W PyProof.Rows
open Classical in
noncomputable def dec (h:Heap) (v:Value):ZgI:=if z:∃ p,Tq h v p then ZawX else ZGX
#print Qs
namespace Wz
open PySem L2
abbrev fK:dM->ZeF->Eb
 | _,[]=>Za5
 | st,Zhj=>#[aXi,ps]
def wV {i:Nat}[76][44]{p:ZgI}(h:ZaCm):fK st (ZOn i)=#[aXi,#[pf,ZOn]]:=by
 obtain⟨hl,e⟩:=Zrh h;rw[aQH hl,e];rfl
def J9:∀ [58][71],ZnH->Zqm->ZaaU
 | [],es,h,_=>ZvI
 | Zhj,es,h,hb=>by
  unfold fK at hb
  by_cases d:bf ZcK ZFL=Za5
  ·rw[Y9 d,iL d]at hb
   have:=J9 ps (es++[dZ p]) (hW h d) hb;rw[aQb]at this;exact this
  ·rw[Y8 d]at hb
   exact #[oE,hb,d]
def MR {c:HX}{E:XK}{H H1:Hp}{o:Eb}(r:lR c E H o)[225]:lR c E H1 o:=by
 cases o with
 | done=>exact r
 | already=>exact ZOp
 | masked=>exact ZOp
 | same=>exact ZOp
 | met=>exact ZOp
 | noguest g=>exact fun dx H' s' h=>r dx H' (ZOo s') h
def rR [92][44]{i:Nat}{e:ZgI}(he:#[au,ZMH,e]):ZA0=ZaEk++[dZ e]:=by rw[ZH,he,ZG,Zp,aQb];rfl
abbrev Iw [71][58]:Zcv:=#[ajZ,Zqm,Zyg]
def Gb [173](hn:n<=450):Zy6:=by
 have:=qX G o;exact Za09
#print Wz
namespace L2
open PySem PySem.Spec PyProof.Rows
inductive Wp [1][42][230]:Zaa
 | mk [158](as:ZeZ)(d:Dt)(ds:ZkT)(_:y=Zcs)(_:(bN K H p ZadH\/aU K H p ZadH))(_:RD K H n x d)(_:#[T8,RD K H n ZbP e])(_:#[aTe,k=Zae↔d∈ds])
section
variable {X:Cx}
open Classical in
theorem xc {pins:Ze0}{σ:St}{H:Hp}{s:Shared}{n:Nat}{A:Around}{x:V}{v:Value}{d:Dt}(I:Zi6)(hu:Zata)(rx:ZeL)(hx:#[yn,x]) :
  ∀ {as:ZeZ}{ds:ZkT}{us:Zb'},ZaP5->ZaR1 ->
  (#[bcX,(Zlw (∃ a,u=ZbV/\Zaa_))])/\(us.any (#[aq9,Zaa_])=Zae↔d∈ds)
 | _,_,us,Zan,r=>by
  cases r;exact⟨(fun u hu=>(by cases hu)),Za7⟩
 | a::as,e::ds,us,ZaC he hp,r=>by
  cases r with
  | cons r1 r2 =>
   rename_i u us
   cases r1;obtain⟨ih1,ih2⟩:=xc I hu rx hx hp r2;obtain⟨k,hk,ek⟩:=NM I n hu he hx (#[eC,bE ZbP ZbP]) rx
   have kk:#[ly,∃ b,ZaTH/\#[yn,Zqu],k]:=by
    by_cases z:e=d
    ·rw[hk.mpr z]
     exact Zc ⟨a,rfl,z▸he⟩
    ·have:ZY0:=by cases k with
      | false=>rfl
      | true=>exact #[oG,hk.mp,rfl,z]
     rw[this];refine Zb fun zz=>?_;obtain ⟨b,eb,hb⟩:=zz;refine z ?_;cases eb;exact ZaiA I he hb
   refine#[c7,#[Cv,?_]]
   ·rcases Zcw hw with rfl | hw
    ·rw[kk];exact ek
    ·exact ih1 w hw
   ·rw[aQO,kk,Bool.or_eq_true,ih2,Zi,hk]
    exact⟨ZaXm,ZaXm⟩
def UD [393]:#[ahr,.In,(Wp X.K n Zaz)]:=by
 intro pins s σ H x y v u Q I rx ry h;obtain⟨p,as,d,ds,rfl,hq,hx,hp,q⟩:=h;cases ry
 have hu':ZaaO:=Zaq7
 rcases hq with hq | hq
 ·obtain⟨its,r,pl,hz⟩:=Zvw
  obtain⟨h1,h2⟩:=ZLg;refine #[bdf,Za6D];rw[List.any_toArray];exact ZIl
 ·obtain⟨its,r,pl,hz⟩:=Zn3
  obtain⟨h1,h2⟩:=ZLg;refine #[FS,Za6E,_,pl,Zbdd];rw[List.any_toArray];exact ZIl
#where
#print L2
namespace Wz
open PySem L2
structure KA where
 dx:Addr
 p:Addr
 pl:Addr
structure uX where
 plan:ZfX (Zbn (ZgI))
 dn:Nat
 brk:Zgk
abbrev uX.planV (A:KA)(s:uX):V:=match s.plan with | none=>ZaH | ZtV=>Zai A.pl
abbrev Qk (h p d b:V):ZoZ:=[Zzy,ZWN,(Zka,d),(Zop,b)]
abbrev Sv (A:KA)(s:uX):ZoZ:=Qk #[aj,A.p] (s.planV A) (Zag s.dn) (YM s.brk)
def XE:#[Ao,ZgP]:=Zal
def XF:#[Ao,Zka]:=Zal
def Yr:#[Ao,Zop]:=Zal
def XG:#[je,ZgP,Zka]:=Zal
def Ys:#[je,ZgP,Zop]:=Zal
def YI:#[je,Zka,Zop]:=Zal
section
variable {h p d b v:V}
def KD:bW Zop b (bW Zka d (bW ZgP p ZAs))=Qk h p d b:=by
 unfold Qk;simp only[bW];rw[Y8 XE];simp only[bW];rw[Y8 XF,Y8 XG];simp only[bW];rw[Y8 Yr,Y8 Ys,Y8 YI]
def Sw:bW ZgP p ZAs=([Zzy,ZWN]:ZoZ):=by
 simp only[bW];rw[Y8 XE]
def V5:bW Zka d (bW ZgP p ZAs)=([Zzy,ZWN,(Zka,d)]:ZoZ):=by
 rw[Sw];simp only[bW];rw[Y8 XF,Y8 XG]
def EB:#[hU,Zaf8,Zb5,h]:=by
 rw[<-KD,aE,Y8 Yr,aE,Y8 XF,aE,Y8 XE,aE,ZaB]
def KF:#[hU,Zaf8,ZgP,p]:=by
 rw[<-KD,aE,Y8 Ys,aE,Y8 XG,aE,ZaB]
def vI {m:Str}(q:¬ m=Zb5/\¬ m=ZgP/\¬ m=Zka/\¬ m=Zop):#[ft,Zaf8] m=Zac:=by
 rw[<-KD,aE,Y8 q.2.2.2,aE,Y8 ZX3,aE,ZXg,aE,ZXf];rfl
#where
structure ja [54][32][259](s:uX):Zaa where
 ob:#[aQ,k,(Zfo C ZbG (Sv A s))]
 pl:#[Lo,cR H A.pl ps]
 le:#[Lo,s.dn<=Zeu/\Zeu<=400]
def ja.mono [196][149]{s:uX}(x:ZaUC)(m:ZbU):ZaUX:=⟨m _ _ ZiT,fun ps e=>(x.pl ps e).mono m,x.le⟩
abbrev uX.rest (s:uX):ZeF:=match s.plan,s.brk with | Zab ps,none=>ZOn s.dn | _,_=>[]
abbrev uX.due (s:uX):ZfX (Int×Int):=s.rest.head?
abbrev UT [172][181]:Bool:=#[lx,p=Zqt\/p=(b,a)]
abbrev uX.next (s:uX)[181](m:Int):uX:=match s.due with | none=>s | Zab p=>#[eM,UT p a b,{ s with dn:=s.dn+1 },Zawj]
inductive JP [397]:Zaa
 | mk (k dx p:Addr)(_:vs=[Zai k,Zcs])(_:#[aQ,k,ZAm])(_:Q ZaH #[bt,k,#[hG,C,#[arV,ZfL]]])
abbrev oU [300][32][259](B:HA)(st':dM)(s':uX)(H':Hp):Zaa:=∃ B':HA,bq c.C H' A.p B' st'/\ja ck H' k A s'/\(#[auv,ZfO])/\(Zawk)/\Zuj
structure Nl [300][32][259](s:uX)[364]:Zaa where
 kp:ja ck H k A s
 hall:#[LC,A.p]
 kB:k∉Zdp
 pB:#[Lo,A.pl∉Zdp]
structure HK [404][184]:Zaa where
 cl:HY K ck
 nH:#[qR,Zb5]
 nP:#[qR,ZgP]
 nD:#[qR,Zka]
 nB:#[qR,Zop]
 mK:#[b1,ZOq,ck]
abbrev Xm [5][184]:Zaa:=#[arL,ck,Zua,ZZ5,Zua]
def Rs {X:Cx}{ck:Addr}{p pos:Pos}{e:Expr}{t:TA}(M:#[LJ,Xm,ck])(U:HK X.K ZcJ ck)(hr:ZJj)(hg:Gl X ZOq)(ha:PA X [e] t)
  (he:ZDM:=by rfl) (hpl:ZaA5 (·.1)=false:=by rfl):PE X (ZcW (ZeT ZOq p) [e] [] pos) (DM ck ZZ5 [] E0 t):=by
 obtain⟨fI,fd,M,G,hb⟩:=M;exact Rx M G hr hg U.mK hb Zan fb ha ZaY he hpl
def Dh [181]:#[fy,[ZyY,ZyW],ZII]:=fun x hx=>by
 rcases Zul with z | z
 ·rw[z];rfl
 ·rw[ZcA];rfl
def ja.kept [196][149]{s:uX}[118](x:ZaUC)(m:Zaan)(kB:k∉fp)(pB:#[Lo,A.pl∉fp])[266]:ZaUX:=by
 refine⟨m _ _ ZiT kB,fun ps e=>?_,x.le⟩;obtain⟨as,h1,h2⟩:=x.pl ps e;exact⟨as,m _ _ h1 (pB ps e),#[vq,h2,fun b q z=>m _ _ z Zaqz]⟩
def Dx [193]{H H1 H4:Hp}[149]{s:uX}{B B1:HA}[447](I:#[VF,s])(S1:bq c.C H1 A.p B1 st')(k1:#[qj,Zdp])[213](s4:aD H1 H4):#[JK,st',H4]:=by
 have K1:ja ck H1 k A s:=I.kp.kept k1 I.kB I.pB #[ag6,I.hall.tup e];exact⟨B1,S1.mono s4,K1.mono s4,#[ajQ,s4 _ _ (k1 b o e n)],f1,fun b o e=>by obtain⟨o',e'⟩:=t1 b o e;exact⟨o',s4 _ _ e'⟩⟩
def VU [69]{v:V}[437]{Q:Zgr}(h:Q (ZBM n ZmE) H):tK n v σ H Q:=h
abbrev XA [167][172]:Bool:=IM (Zag g) #[co,p.1,p.2]
abbrev uX.nextD (s:uX)[464](m:Int):uX:=match d with | ZHa=>s | Znp=>if s.rest.any (XA g)=Zae then Zawj else s | Zoj=>s.next a b m
def uX.idle {s:uX}(h:s.rest=[]){d:aX}{m:Int}:s.nextD d m=s:=by
 cases d with
 | come g=>rfl
 | go g=>unfold uX.nextD;dsimp only;rw[h];rfl
 | exch a b=>show s.next a b m=s;unfold uX.next uX.due;rw[h];rfl
def oU.pre [193][265][149]{B:HA}[76]{s:uX}(m:ZHA)(x:oU c ck H1 k A B st s H2):#[JK,st,H2]:=by
 obtain⟨B',h1,h2,h3,h4,h5⟩:=x;exact#[aRu,B',h3 b o #[fR,m] n n',#[cX,#[c',h4].imp id m.free],#[cq,ZOr,m] h5]
def Nl.mono [193][16][234](m:ZbU):Nl c ck H' k A s B st:=⟨x.kp.mono m,x.hall.mono m,x.kB,x.pB⟩
open PySem PySem.Spec
def M9:#[aiZ,"__int__"]:=Zq2
def M8:#[aiZ,"__index__"]:=Zq2
def HG:#[aiZ,"__trunc__"]:=Zq2
def Dj {f:ZaQs}(hf:ZaZt):∀ [34](p:ZVL),(Zawl)->(l.map (·+48)).foldlM f p=Zab (p.1++Zaj0,if l=[] then p.2 else true)
 | [],p,_=>ZaA
 | d::l,p,h=>by
  rw[Zr,List.foldlM_cons,hf p d (h d Ze)]
  show (l.map (·+48)).foldlM f ZatX=_
  rw[Dj hf l _ ZanR];simp
def wX {d:Nat}(h:d<10):d=0\/d=1\/d=2\/d=3\/d=4\/d=5\/d=6\/d=7\/d=8\/d=9:=Zad
def F4 {p:ZAp}(hp:∀ d,d<10->p (d+48)=Zaz){q:Zbq}(h:∀ c∈q,∃ d,d<10/\c=d+48):q.dropWhile p=q:=by
 cases q with
 | nil=>rfl
 | cons c q =>
  obtain⟨d,hd,rfl⟩:=h c Ze;rw[List.dropWhile_cons_of_neg];rw[hp d hd];exact Zo
def Uy {q:Zbq}{y:ZaI4}{l:Zbq}{f:ZaQs}{g:ZVL->ZaI4}(h:y=(q.foldlM f (#[],false)).bind g)(hq:q=l.map (·+48))(hl:l≠[])(hd:Zawl)
  (hf:ZaZt) (hg:∀ ds,g (ds,true)=Zab ds):y=Zab Zaj0:=by
 rw[h,hq,Dj hf l _ hd,Y8 hl]
 show g (#[]++l.toArray,true)=_
 rw[hg];simp
def meets_int_new_str [385][453](hx:x.cps.toList=Zaef (·+48))(h0:d=0->l=[])(hd:∀ e∈d::l,e<10)(hl:#[bd,(d::l),640]):Meets (Builtin.«int.__new__» #[ei,[Za4 Zrp,ZJa]]) (Made.int (#[aUo,(d::l).foldl]:Nat)).spec :=
 Meets.of_wp fun prog w A R s hs=>by
  obtain⟨hp,g,dr,tk,os⟩:=s;have f1:=F.conv_sub_int;have f2:=F.madeHere_int;have f3:=M9;have f4:=M8;have f5:=HG;have hT:(⟨hp,g,dr,tk,os⟩:Shared).TypeIs ZadT Zf1:=rfl
  have g1:(x.cps.all #[cy,#[lx,x<128]])=Zae:=by
   rw[<-Array.all_toList,hx,ZM];intro c hc;obtain⟨e,he,rfl⟩:=Zz_;have:=hd e he;exact ZXU
  have g2:x.cps.toList.takeWhile (#[cy,x != 0])=ZlT:=by
   have tw:∀ q:Zbq,(∀ c∈q,c≠0)->q.takeWhile (#[cy,x != 0])=q:=fun q=>by
    induction q with
    | nil=>intro _;rfl
    | cons c q ih=>intro h;rw[List.takeWhile_cons_of_pos (#[vS,h c Ze]),ih #[gQ,h c #[dM,hc]]]
   refine tw _ Zie;rw[hx]at hc;obtain⟨e,he,rfl⟩:=Zz_
   lia
  have g3:ZCw<=640:=#[cB,hx,Y5,hl]
  repeat (any_goals (first | assumption | wp_step))
  rw[g1];simp only[aQP,g2,g3];refine Zaab
  have hq:∀ c∈Zaef (·+48),ZaTm:=fun c hc=>by
   obtain⟨e,he,rfl⟩:=Zz_;exact#[dU,e,hd e he]
  have hq2:∀ c∈(Zaef (·+48)).reverse,ZaTm:=#[gQ,hq c (Za9' hc)]
  have sz:Zcc<=639:=by have:ZaHP:=hl;lia
  rw[hx];rcases wX (hd d Ze) with rfl | z
  ·have e0:=h0 rfl
   subst e0
   conv=>arg 3;arg 2;whnf
   show Zbef
   rw[Zaz2]
   repeat (any_goals (first | assumption | wp_step))
   exact#[bO,hs]
  ·rcases z with rfl | rfl | rfl | rfl | rfl | rfl | rfl | rfl | rfl
   all_goals
    conv=>arg 3;arg 2;whnf
    rw[F4 ZaY hq,F4 ZaY hq2,List.reverse_reverse]
    conv =>
     arg 3;arg 2;arg 2
     tactic=>exact Uy rfl rfl (List.cons_ne_nil _ _) hd (by rintro⟨ds,b⟩ d h;rcases wX h with rfl | rfl | rfl | rfl | rfl | rfl | rfl | rfl | rfl | rfl<;>rfl) Zm3
    dsimp only;rw[ZzP,Y8 (Zajs),ZzP]
    show Zbef
    rw[Zaz2]
    repeat (any_goals (first | assumption | wp_step))
    refine Zh6;rw[Zd0,List.foldl_toArray];exact hs
structure Num [189](ds:Zbq):Zaa where
 eq:x.cps.toList=ds.map (·+48)
 ne:ZYK
 nz:#[au,Za_a,0]->ds=[0]
 dg:Zawm
 ln:ZiO<=12
abbrev numV (ds:Zbq):Nat:=#[aUo,ZN0]
#print Wz
namespace L2
open PySem PySem.Spec PyProof.Rows
inductive RK [11]:Zaa
 | mk (x:_)(ds:_)(_:xs=[ZzH])(_:Wz.Num x ds)(_:Q (Zag (Wz.numV ds)) H)
def LO [60]:#[id,Zrp,RK]:=by
 intro pins s σ H xs us Q I r h;obtain⟨x,ds,rfl,N,q⟩:=h;obtain⟨u,rfl,rx⟩:=ZeR;obtain⟨t,rfl⟩:=rx
 cases ds with
 | nil=>exact #[oF,N.ne]
 | cons d l =>
  have ln:ZUG<=12:=N.ln
  exact call_int_1 (Wz.meets_int_new_str x t d l N.eq (fun z=>by
   have:=N.nz (Zzs)
   exact (Za_b Zcl).2) N.dg (#[gd,ZaHP])) ⟨rfl,ZgD,H,Zg9,Za8,q⟩
abbrev oK [189]:Zaa:=x.cps.all (· < 128)=true
abbrev Vm [189]:It :=
 ⟨fun i _=>ZHK,fun i H v H'=>H'=H/\∃ c,ZaA'/\v=Zaf ⟨#[c]⟩,fun i _=>ZY8⟩
def P9 [191][385](it:Addr):#[tM,tg,ZAb,h.IsStrIter it "str_ascii_iterator" x t i] where
 mem:=ZaA
 obj:=fun i h st b hb=>by
  have e:Zju:=ZcU
  subst e;obtain⟨o,e,c,d⟩:=st;exact⟨o,e,fun v z=>by rw[d]at z;cases z⟩
 keep:=fun i h h' ⟨o,e,r⟩ k=>⟨o,k it Za7 o e,r⟩
 item:=by
  intro X hP hw hK hc i pins s σ H E I hf st hg;subst hP hw hK;have hg:ZHK:=hg;obtain⟨f0,f1,f2,f3,f4,f5⟩:=ZeS
  have hx:#[au,x.cps[i]?,Za_c]:=ZaA
  refine wpAny_pyNext_ascii_item st hx Zasr;have I1:#[i5,ZazH]:=#[bcn,Zmu,#[ak2,ZaqX]];obtain⟨o,e,c,d⟩:=ZHT;exact⟨_,rfl,Dm (s:=ZazH) e c d ZaY ⟨Zaf ⟨#[Za_c]⟩,H,I1,Za8,⟨rfl,_,Zs hg,rfl⟩,st',ZRv⟩⟩
 done:=by
  intro X hP hw hK hc i pins s σ H E I hf st hg;subst hP hw hK;have hg:ZY8:=hg;obtain⟨f0,f1,f2,f3,f4,f5⟩:=ZeS;refine wpAny_pyNext_ascii_end ZNX st (by rw[Za_d];simpa using hg) Zbco
 self:=#[a_I,wpAny_pyIter_striter_ascii]
abbrev XB (t:TE):TI:=#[avN,#[M4,∃ x,v=ZzH/\oK x/\R (Vm x) H1]]
def O6 [60]{tg l:Expr}[83]:PI X tg l (XB tl):=by
 intro pins s σ H R I h;refine ZK5;obtain ⟨y,H1,I1,r1,x,e,ha,q⟩:=zz;subst e;obtain⟨t,rfl⟩:=r1;refine wpAny_pyIter_ascii ha ?_;refine#[arD,P9 x t _]
 have e:ZzV:=ZcU
 subst e;exact ZanW
def QK {x:Str}{g:TG}{tb:TS}{D:nZ}{σ:St}{H:Hp}(Pv:Zlf)(h0:Znz)
  (hs:∀ i c σ H,ZaA'->Zmo->g (Zaf ⟨#[c]⟩) σ H Zam3) (hd:#[Q4,ZCw]) :
  ∃ W:ZjH,Zld/\∀ i m σ H,ZjF ->
   #[anC,#[Ab,0].stop,#[Ab,0].go,∀ v H',#[Ab,0].yld i H v H'->g v σ H' #[am2,N,N]]:=by
 generalize hl:x.cps.toList.length=n at hd;refine ZafI;rintro i m σ H ⟨rfl,hi,p⟩
 by_cases hlt:i<n
 ·refine #[Sq,#[eA,ZHK],n,fun v H' y=>?_]
  obtain⟨e,c,hc,e2⟩:=y;subst e e2;exact hs i c σ _ hc p
 ·have e:i=n:=Zad
  subst e;exact #[Fa,#[eA,ZY8]]
def wG:∀ l:ZYd,bF ((l.map (·.1)).map V.str) Zas3
 | []=>Zan
 | p::l=>ZaC #[fK,p.2] (wG l)
abbrev Pd:ZAP:=fun x xs H Q=>∃ z y,x=ZcL/\xs=[Ztf]/\(Zgb == 0)=Zaz/\ZvF/\#[jK,#[g5,ZaUk]]
def Oy [60]:VC X "str.split" Pd:=by
 intro pins s σ H x xs v us Q I rx rv h;obtain⟨z,y,rfl,rfl,hy,hz,q⟩:=h;obtain⟨t,rfl⟩:=rx;obtain⟨u,rfl,ru⟩:=iq rv;obtain⟨t2,rfl⟩:=ru;have sl:Za9n:=ZQ
 have fin:∀ (l:ZYd)[283],#[lF,Zcc]->l.map (·.1)=Zaj1 z y->#[bed,ZaIN]:=fun l k hl e=>by
  have IL:=I.laid (t':=k) (a:=s.heap.objs.size) (o:=Zbw (ZaUk ZaJ)) (h':=ZaIN) (ZmI) Zbu
   #[mp,_,_,_,(Zbw _),⟨by rw[<-e,Y5,Y5];exact hl,ZajE l,_,#[c_,e,wG l],Zct⟩]
  exact#[tJ,IL]
 have nl:∀ k ps,#[U3,(Za_e k ps)]:=fun k ps=>by rw[<-Y5 (f:=(·.1)),numbered_texts]
 have pl:#[lF,#[aW,(Za_f z Zbdr Zgb)]]:=by
  rw[length_partsBetween];have:=StrLaws.occ_length_le z y 0 ZbK ZasH
  lia
 cases h1:(#[lx,ZbK<Zgb]||#[aDZ,Zaj2 z]) with
 | true=>exact #[a0Q,(meets_str_split_cannot_occur z y t t2 h1),(Y9 h1).symm]
 | false =>
  cases hf:#[bdr,0].isEmpty with
  | true=>exact #[a0Q,(meets_str_split_not_found z y t t2 h1 hy hf),(Za_h (Y9 hf)).symm]
  | false =>
   refine #[au3,(meets_str_split_sep z y t t2 h1 hy hf Zah pl),?_];rw[strsFrom_eq];exact fin (Za_e Zb4 _) _ #[bj,nl,pl] ((numbered_texts _ _).trans (Za_h (Y8 (Za_g hf))).symm)
def O3 {X:Cx}{o e:Expr}{to te:TE}{apos cpos:Pos}(ho:ZuK)(he:Zhk)(hbase:#[a5W,"split"]:=by rfl)
  (hfew:Zapn:=by rfl)
  (hline:Zlh:=by rfl) (hs:ZDM:=by rfl) (hplain:Zamc (·.1)=false:=by rfl) :
  #[D',"split",[e],(WJ X.K Zf1 Pd to (mD te qg))] :=
 #[agB,PySem.F.slot_str_split,PySem.F.type_str_split,Oy]
#print L2
namespace Wz
open PySem L2
abbrev sQ [214]:Zbq->Zaao
 | []=>[[]]
 | Ziq=>if a=c then []::ZfT else match ZfT with | []=>[[a]] | Zhj=>ZaHV
abbrev jr [214]:Zbq->Zbq
 | []=>[]
 | Ziq=>ZaOG++ZanY (·+1)
def jB (c a:Nat)[34]:jr c (Ziq)=ZaOG++ZanY (·+1):=rfl
def fD (c a:Nat)[34]:sQ c (Ziq)=if a=c then []::ZfT else match ZfT with | []=>[[a]] | Zhj=>ZaHV:=rfl
def uK [214]:∀ [34](k m:Nat),m=Zcc+1->Zbda (#[zb,l[i-k]?])=ZanY (·+k)
 | [],k,m,h=>by
  subst h;simp[jr]
 | Ziq,k,m,h=>by
  subst h;have ih:=uK c l Zc6 ZzI rfl;rw[#[eC,ZWB+1=ZzI+1],List.range'_succ,aQC]
  have e1:#[au,ZmV[k-k]?,a]:=ZaA
  have e2:#[bdb,Zc6,ZzI] (#[zb,ZmV[i-k]?])=#[bdb,Zc6,ZzI] (#[zb,l[i-Zc6]?]):=List.filter_congr fun i hi=>by
   have:=(List.mem_range'_1.mp hi).1;rw[#[fN,i,k,(i-Zc6)+1]];rfl
  rw[e1,e2,ih,jB]
  by_cases z:a=c
  ·rw[Y9 (#[GL,Zs4]),ZeO]
   simp[Function.comp_def,Nat.add_assoc,aXW 1 k]
  ·rw[Y8 (Za_i),Zem]
   simp[Function.comp_def,Nat.add_assoc,aXW 1 k]
def Bj [189][214]:∀ [311],ZaUm->Zrf<=k->Zoq<=k ->
  (forIn Zbc' (arr,free) (StrLaws.occBody x ⟨#[c]⟩ x.length Zaw')).run.fst.toList=Za_j++Zbda (#[zb,Zaj4])
 | 0,k,arr,free,_,_,_=>ZaA
 | m+1,k,arr,free,h,hf,ha=>by
  rw[List.range'_succ,aXq,aQC];have so:=ZaNr;unfold StrLaws.occBody
  by_cases z:ZaBa
  ·have s2:=ZawY
   rw[#[aZB,#[gd,Zoq<ZFt]],ZJ1];have ih:=Bj x c m Zc6 ZaAi (k+(⟨#[c]⟩:Str).length) Zah Zbu Za_5;refine Zait;simp
  ·rw[ZaX0,ZaF7]
   exact #[avg,Bj,Zah]
def Rm [189][214]:Builtin.Str.occurrences x ⟨#[c]⟩ 0 x.length Zaw'=ZaIk:=by
 rw[StrLaws.occ_eq,Bj x c _ 0 #[] 0 Zah Zbu Zbu];have:=Za0x;simpa using this
abbrev sR [34](p:ZabZ):Zbq:=(ZcY p.1).take (p.2-p.1)
abbrev Dd [34](cs:Zbq):Zaao:=((0::cs.map (·+1)).zip #[HS,cs]).map (sR l)
def PV (a:Nat)[34](p:ZabZ):sR ZmV (p.1+1,p.2+1)=sR l p:=by
 unfold sR;rw[aXK,Nat.add_sub_add_right]
def Ce (a:Nat)[34]:∀ (us vs:Zbq),((us.map (·+1)).zip (vs.map (·+1))).map (sR (Ziq))=(us.zip vs).map (sR l)
 | [],_=>ZaA
 | Zdh,[]=>ZaA
 | ZqS,v::vs=>by
  rw[Zr,Zr,aQA,Zr,aQA,Zr,Ce a l us vs];rw[#[bh,sR ZmV (u+1,v+1)=sR l (u,v),PV a l (u,v)]]
def An [214]:#[zz,Dd l ZanX=ZfT]
 | []=>rfl
 | Ziq=>by
  have ih:=An c l;unfold Dd;rw[jB]
  by_cases z:a=c
  ·rw[ZeO]
   have e1:(ZWD::(([0]++ZanY (·+1)).map (·+1)))=0::((0::ZanY (·+1)).map (·+1)):=ZaA
   have e2:([0]++ZanY (·+1))++[ZWB]=0::(#[HS,ZAj].map (·+1)):=ZaA
   rw[e1,e2,aQA,Zr,Ce,show (((0::ZanY (·+1)).zip #[HS,ZAj]).map (sR l))=ZfT from ih,fD,ZeO];rfl
  ·rw[Zem,fD,Zem,<-ih]
   unfold Dd
   cases hp:ZAj with
   | nil=>simp[sR]
   | cons q qs =>
    have e1:(ZWD::(([]++Zaeg (·+1)).map (·+1)))=0::((Zaeg (·+1)).map (·+1)):=ZaA
    have e2:([]++Zaeg (·+1))++[ZWB]=(q+1)::(#[HS,qs].map (·+1)):=ZaA
    rw[e1,e2,aQA,Zr,Ce]
    show _=(a::ZaWo)::_
    rw[show sR ZmV (0,q+1)=a::ZaWo by simp[sR]];rfl
def OQ [189](cs:Zbq):(Za_f x cs 1).map (·.cps.toList)=Dd ZlT cs:=by
 unfold Builtin.Str.partsBetween Dd;rw[ZK,ZR];refine aQr fun p _=>?_;obtain⟨i,j⟩:=p
 show #[Y2,i,j].cps.toList=_
 unfold Builtin.Str.strSub sR;simp
def M0 [189][260]:(Txt.split x ⟨#[c]⟩).map (·.cps.toList)=sQ c ZlT:=by
 have e0:∀ y:Str,#[gs,#[lx,Ze8<Zgb]||#[aDZ,Zaj3]]->y=⟨#[c]⟩->ZlT=[]:=fun y h e=>by
  subst e
  have k1:Builtin.Str.strKind ⟨#[c]⟩=1:=by unfold Builtin.Str.strKind;rw[Y9 (by simpa using hc)]
  have k2:1<=Zaj3:=by
   unfold Builtin.Str.strKind;split
   ·decide
   ·split<;>decide
  rw[k1]at h
  have:Ze8<1:=by
   rw[Bool.or_eq_true]at h;rcases h with z | z
   ·exact ZF z
   ·have:=ZF z;lia
  have:Za_k=0:=by have t:Za_k<1:=this;lia
  simpa using this
 unfold Txt.split
 by_cases h1:(decide (x.length<(⟨#[c]⟩:Str).length)||decide (Zaj3<Builtin.Str.strKind ⟨#[c]⟩))=true
 ·rw[ZzG]
  have:=e0 _ h1 rfl
  show [ZlT]=_
  rw[this];rfl
 ·rw[ZtZ,Rm]
  by_cases h2:#[aMt,0].isEmpty=Zae
  ·rw[ZHh,<-An,List.isEmpty_iff.mp h2]
   simp only[Dd,sR,List.map_nil,aXN,aQA,List.zip_nil_left,Zr,aXg,Nat.sub_zero];rw[aQm (Za _)]
  ·rw[Zt0]
   exact (OQ x _).trans (An c _)
def Lv {c:Nat}:∀ {p:Zbq},c∉p->sQ c p=[p]
 | [],_=>rfl
 | a::p,h=>by
  rw[fD,Y8 (ZaS7),Lv #[aF,h Zz1]]
#print Wz
namespace L2
open PySem PySem.Spec PyProof.Rows
abbrev TX [352][429]:DictEntry:=#[aXe,ZpU,ZaMO]
abbrev gObj [352][235][42]:Obj:=#[aXk,TX]
structure GD [1][352][84][116]:Zaa where
 nd:(xs.map (·.1)).Nodup
 ns:ZagH
 at':#[aXE,gObj]
abbrev ID [116][98]:V:=match ZawZ with | ZW3=>Zdy | none=>ZaH
abbrev Vo [429]:ZaHI:=(ZUW,ZaMO)
def Gc [57]:#[aZu,#[eE,ZaFk,ZaFB],TX,Vo]
 | []=>Zan
 | q::l=>#[aZ',ZpU,Gc]
def Kr:∀ [235],ZaFH->(ZCD Vo).map (·.1)=(xs.map (·.1)).map Sum.inr
 | [],_,_=>rfl
 | ZcI,[],h=>by cases h
 | ZcI,ZjJ,h=>by
  rw[aQA,Zr,Zr,#[aTV,Kr]];rfl
def NW:∀ [235][98],#[aMx,bE ZaNQ ((Zrs (ZCD Vo) Zaxq).getD Zay)]
 | [],_,_,_=>rfl
 | ZcI,[],_,h=>by cases h
 | ZcI,ZjJ,z,h=>by
  have ih:=#[aYr,NW];unfold ID valueAt at *;rw[aQA,Zr,ZU,aQp]
  show bE (match (match z == x.1 with | true=>Zab x.2 | false=>ZawZ) with | ZW3=>Zar i | none=>V.non) _
  by_cases e:z=x.1
  ·have e1:ZaM4:=ZGM
   have e2:#[lz,#[Li,Vo]]:=Zayn;rw[e1,e2];exact#[fK,t.2]
  ·have e1:ZaMp:=Zra
   have e2:#[lA,#[Li,Vo]]:=ZaRQ;rw[e1,e2];exact ih
def Kq [7][9][41]{xs:ZHR}[153](g:#[aDI,GD])(k:ZqA):#[bd1,ZaIa,Vo]:=by
 obtain⟨ts,n,hl,e⟩:=g.at';refine Za1A
 ·have hen:#[aXb,TX]:=Za_l
  obtain⟨q,_,rfl⟩:=ZazW;exact#[aM2,ZpU]
 ·have:=#[aXU,Gc]
  simpa using this
 ·rw[Kr xs ts hl]
  exact ZaYa
abbrev WM [116](ty:TE):TE:=#[aVZ,Q ZaNQ H1]
def Rw {X:Cx}{x:Str}{a:Addr}{xs:ZHR}{e:Expr}{p apos cpos:Pos}{ty:TE}(g:#[aUE,GD])(hg:Zeo)(hm:#[sK,ZbP])(he:ZaAR)(m:M1 X Zxa ZM5 apos e ZiL)
  (hd:Za79:=by decide):PE X #[D_,#[Bi,Zxa,ZM5],[e]] (WM xs ty):=by
 intro pins s σ H Q I h;refine #[LI,aXp,Za6Y,(jN I hg hm ?_ hd)];have kin:∀ {s1:Shared}{H1:Hp},#[b7,H1,s1]->Zag3 Zaj5:=fun I1 a o e=>ZOs a o (I1.mod.kin a o e);obtain⟨ts,hl,dd⟩:=Kq (P:=Zck) g (kin I);refine#[cr,ZOt,Zasx]
 ·cases q
  obtain⟨ob,_,_,h1,h2,_⟩:=dd;exact ZaeA
 rw[m.trees];refine #[aR6,#[pr,he,ZGV]];obtain ⟨y,H2,I2,ry,z,e1,q2⟩:=zz;refine ZF7;subst e1;obtain⟨t,rfl⟩:=ry;obtain⟨ts2,hl2,dd2⟩:=Kq (P:=Zck) g (kin I2);exact #[a9c,dd2.typeIs,(PySem.F.args_dict_get_2 _ _),(meets_dict_get Zw6 a Zaga g.ns),⟨_,dd2.mapOf,_,H2,ZHb,NW xs ts2 z hl2,q2⟩]
#print L2
namespace Wz
open PySem L2
def OF (ds:Zbq)(e:Nat):Zos (ds++[e])=Zos ds*10+e:=by unfold numV;rw[aXU];rfl
def Xx [42]:∃ ds:Zbq,(Zaj7 10 n).map Za_m=ds.map (·+48)/\ZYK/\(#[au,Za_a,0]->n=0)/\(Zawm)/\Zos ds=n/\(n=0->ds=[0])/\∀ k,1<=k->n<10 ^ k->ZiO<=k:=by
 induction n using Nat.strongRecOn with
 | _ n ih =>
  have dc:∀ d,d<10->(Zaj8 d).toNat=d+48:=fun d h=>by
   rcases wX h with rfl | rfl | rfl | rfl | rfl | rfl | rfl | rfl | rfl | rfl<;>rfl
  by_cases h:n<10
  ·rw[Nat.toDigits_of_lt_base h]
   refine⟨[n],by show [(Zaj8 n).toNat]=[n+48];rw[dc n h],ZaA,#[aF,Za_i],#[rI,#[zr,Zcz he]],#[gd,0*10+n=n],#[aF,#[d9,z]],fun k hk _=>Zair⟩
  ·rw[#[el,Nat.toDigits_of_base_le,ZaY]]
   obtain⟨ds,h1,h2,h3,h4,h5,_,h6⟩:=#[el,ih,(n/10)];refine⟨ds++[n%10],?_,ZaA,ZcM,Ztu,?_,ZGN,fun k hk hn=>?_⟩
   ·rw[Zp,h1,Zp]
    show _++[(Zaj8 (n%10)).toNat]=_++[n%10+48]
    rw[#[S7,dc]]
   ·cases ds with
    | nil=>exact ZZq
    | cons d ds=>have:=h3 z;lia
   ·rcases ZqP with y | y
    ·exact h4 e y
    ·rw[Zcz y];lia
   ·rw[OF,h5];lia
   ·rw[Zh,ZS]
    cases k with
    | zero=>lia
    | succ k =>
     by_cases k0:k=0
     ·subst k0;lia
     ·have:=h6 k Zah (by rw[Nat.pow_succ]at hn;lia)
      lia
def Rl [272](h0:0<=g)(h:g<10 ^ 12):Za0l:=by
 obtain⟨n,rfl⟩:=aQQ h0;obtain⟨ds,h1,h2,h3,h4,h5,h7,h6⟩:=Xx n;refine⟨ds,⟨?_,h2,ZcM,h4,h6 12 ZaY Zah⟩,#[d9,h5]⟩
 ·unfold gn
  rw[#[eC,ZlL Zbk=Za_n (Zaj7 10 n)],Str.ofString_eq_toList]
  show ((Za_n (Zaj7 10 n)).toList.map Za_m)=_
  rw[String.toList_ofList,h1]
 ·have hn:=h3 z
  exact h7 hn
def OG [226]:ds=es:=by
 have:=Za_o b.eq;exact #[aNM,fun x y e=>Zad]
#print Wz
namespace L2
open PySem PySem.Spec PyProof.Rows
def jW [60]{x:Str}{v:V}[156](hg:Zeo)(hm:∃ u,Zaay/\Zfk)[53]:Zab8:=by
 obtain⟨u,hm,r⟩:=hm;exact wm hg hm r hd
#print L2
namespace Wz
open PySem L2
def DL {te:TE}{Qf:ZjE}{x:Str}{q:Addr}{f:ZAp}{rest:L2.St}{H:Hp}(hq:Zt5)(hlen:ZCw<=ZbF)
  (ht:∀ (c:Nat)(HK:Hp)(Q':VK),ZeK->(∀ H5,aD HK H5->Q' (.bl (f c)) H5)->te (some (Zaf ⟨#[c]⟩)::rest) HK Q') (k:#[WP,HK q=Zab #[g0,(x.cps.toList.map f).map,Ze3]]) :
  #[ave,ZAb]:=by
 refine QK #[di,#[gJ,v::ZcV,ZeK,HK q=Zab #[g0,(#[mf,x.cps.toList.take] f).map,Ze3]]] ZuQ ?_ ?_
 ·rintro i c σ HK hi ⟨v,rfl,t1,hq2⟩
  have hil:ZHK:=ZYz;refine gD (ht c HK _ t1 #[aqE,ZaoM,ZaqW]);rw[ac,ZH,hi,ZG,Zp,Zp];rfl
 ·rintro σ HK ⟨v,rfl,t1,hq2⟩
  rw[ZD]at hq2;exact ZafS
abbrev tL [214]:Bool:=#[lx,ZLf]
def TD [214]:(!(Builtin.Str.occurrences #[da,ZCx] ⟨#[c]⟩ 0 #[En,ZCx] 1).isEmpty)=tL c:=by
 rw[StrLaws.found_one]
 have e:#[GY,ZCx]=[48,49,50,51,52,53,54,55,56,57]:=Zal
 rw[e];unfold tL;rw[aQN];simp only[Zi,ZX,aQv]
 lia
def pj [98]:(ZxO)↔ZFx/\Zx0/\(Za_r)/\#[Uq,Za_p,Zev]:=by
 have hz:Zaj_:=ZtR
 rw[hz];constructor
 ·rintro⟨ds,N⟩
  have h1:=N.ne;have h2:=N.ln;have h3:=N.nz;rw[N.eq,Y5];refine⟨?_,h2,Zie,fun ⟨a,b⟩=>?_⟩
  ·cases ds with
   | nil=>exact ZaAp
   | cons _ _=>simp
  ·obtain⟨e,he,rfl⟩:=Zz_
   have:=N.dg e he;exact Zc ⟨Zad,Zad⟩
  ·cases ds with
   | nil=>exact ZaAp
   | cons d ds =>
    have d0:d=0:=by simpa using a
    have:=h3 (#[bm,d0]);rw[this]at b;exact b rfl
 ·rintro⟨h1,h2,h3,h4⟩
  have hd:#[a_q,ZLf]:=#[gQ,ZF (h3 c hc)];refine⟨z.cps.toList.map (· - 48),⟨?_,?_,#[bl,?_],Ztu,#[kx,h2]⟩⟩
  ·rw[ZK]
   refine Eq.symm ((aQr (g:=id) Zie).trans (Za_s _));have:=hd c hc
   show c-48+48=c
   lia
  ·intro q
   have:=#[tI,q];rw[Y5]at this;have this:Zaj9=0:=this
   lia
  ·rw[List.head?_map]at q
   cases hc:z.cps.toList.head? with
   | none=>rw[hc]at q;cases q
   | some c =>
    rw[hc]at q;have q:c-48=0:=Zl q;have cm:c∈Zev:=List.mem_of_mem_head? hc;have:=hd c cm
    have c48:c=48:=Zad
    have l48:ZaGD:=Classical.byContradiction fun n=>h4 ⟨#[a_,hc,c48],n⟩;rw[l48];rfl
  ·obtain⟨c,hc,rfl⟩:=ZdI he
   have:=hd c hc
   lia
def PU {z y:Str}:#[t7,#[dN,z,y],Zev,Za_t]:=by
 rw[aQN];constructor
 ·intro e;rw[ZrM e]
 ·intro e
  obtain⟨⟨l⟩⟩:=z;obtain⟨⟨m⟩⟩:=y;have e:l=m:=e;rw[e]
open Classical in
noncomputable def numW (z:Str):V:=if h:ZxO then Zag (Zos Za_u) else ZaH
def Bi [353]:Zhw z=ZaQt:=by
 have e:ZxO:=⟨ds,h⟩;unfold numW;rw[dif_pos e,OG e.choose_spec h]
def GQ [383]:Zhw z=ZaH:=by
 unfold numW;rw[dif_neg fun ⟨ds,e⟩=>h ds e]
def xG [98]:qS (Zhw z)=Zae:=by
 unfold numW;split<;>rfl
def zN {c:Nat}:∀ {l p:Zbq},p∈ZfT->(∀ a∈p,a∈l)/\#[GG,p.length]
 | [],p,h=>by
  rw[#[eC,sQ c []=[[]]],Zf]at h;subst h;exact⟨fun a ha=>(by cases ha),ZaN⟩
 | b::l,p,h=>by
  rw[fD]at h
  by_cases z:b=c
  ·rw[ZeO]at h
   rcases ZzL with e | e
   ·subst e;exact⟨fun a ha=>(by cases ha),Zce⟩
   ·have:=zN e
    exact Za84
  ·rw[Zem]at h
   cases hs:ZfT with
   | nil =>
    rw[hs]at h;have e:=Zcz h;subst e;exact#[GJ,#[Ou,#[Wv,Zcz ha]]]
   | cons q qs =>
    rw[hs]at h;rcases ZzL with e | e
    ·subst e
     have:=#[aXF,q,Ze]
     exact⟨fun a ha=>by
      rcases Zcw ha with y | y
      ·rw[y];exact Ze
      ·exact Zd _ (Zhe a y),Za_v Zts⟩
    ·have:=#[aXF,p,Zd _ e]
     exact Za84
def KJ [214]:#[zz,#[aW,ZaAA]<=ZUG/\Zazr]
 | []=>⟨ZaN,Za_x⟩
 | b::l=>by
  have ih:=KJ c l;rw[fD]
  by_cases z:b=c
  ·rw[ZeO];exact#[GJ,#[f7,Zx,Zx]]
  ·rw[Zem]
   cases hs:ZfT with
   | nil=>exact #[oE,hs,ih.2]
   | cons q qs=>rw[hs]at ih;exact#[GJ,by have:=ih.1;rw[Zx]at *;rw[Zx];lia]
abbrev rV [214][98]:Zbo:=Txt.split z ⟨#[c]⟩
def uW [260][98]:#[aGm,0].map (·.cps.toList)=ZacL:=M0 z hc
def D6 [260][301]{ws:Zbo}(h:ws.map (·.cps.toList)=ZacL):rV c z=ws:=by
 have:=(uW hc z).trans h.symm
 exact (List.map_inj_right (fun x y e=>by
  obtain⟨⟨l⟩⟩:=x;obtain⟨⟨m⟩⟩:=y;have e:l=m:=e
  rw[e])).mp this
def Ng [260][301](a:Zii):#[aW,ZaGm]<=ZbK+1/\∀ w∈rV c z,Zt8/\#[st,Zfv]:=by
 have hz:Zaj_:=ZtR
 have e:=uW hc z;refine#[m1,#[Cv,?_]]
 ·rw[<-Y5 (f:=(·.cps.toList)),e,hz]
  exact (KJ c _).1
 ·have hm:Za_y∈ZacL:=by rw[<-e];exact aQa (f:=(·.cps.toList)) hw
  have:=zN hm;refine#[m1,by rw[hz];show w.cps.size<=_;rw[<-ZR];exact Zts];unfold oK at a ⊢;rw[<-Array.all_toList,ZM]at a ⊢;exact #[xD,a,(Zhe x hx)]
def lE {K:PySem.W.Frag}{te:TE}{Qf:ZjE}{lr q:Addr}{α:ZjL}(g:α->V){rs:ZdZ}{f:α->V}{rest:L2.St}{H:Hp}(hq:Zt5)(h1:ZaTR)(hlen:ZaA2)
  (ht:#[a0m,∀ H5,aD HK H5->Q' (f r) H5]) (k:#[WP,HK q=Zab #[g0,ZgR,f]]) :
  ZaJ9:=by
 refine #[a0Y,#[di,#[gJ,v::ZcV,ZeK,HK q=Zab #[g0,ZayG,f]]],ZuQ,#[jd,Zp9,#[m8,h1]]]
 ·rintro i y σ HK hi ⟨v,rfl,t1,hq2⟩
  obtain⟨r,hr0,rfl⟩:=ZbI;have hil:Zax0:=Zay2;refine #[a01,#[aqE,#[cB,Y5,ZL,Zpi],ZaqW]];rw[ac,ZH,hr0,ZG,Zp];rfl
 ·rintro σ HK ⟨v,rfl,t1,hq2⟩
  rw[Y5,ZD]at hq2;exact ZafS
inductive Wx [55]:Zaa
 | mk (z w0:Str)(ws:Zbo)(_:ZaaX)(_:Zii)(_:Zaz1)(_:ZaSo)(_:(Zawo)->∀ (t:Addr)(H':Hp),#[dT,#[aZ,t],ZbU,#[b0,t,#[VP,w0,ZiW Zhw]],Zqd])(_:(ZaLd)->ZAc)
abbrev aZ [189]:Zbq:=x.cps.toList
def dN [189]:Ze8=#[aX,aZ,x]:=by unfold aZ;rw[ZR];rfl
def eG (x y:Str):aZ (x++y)=aZ x++aZ y:=by
 show (x.cps++y.cps).toList=_
 rw[Array.toList_append];rfl
def Dl (g:ZmK):∀ [165](a:ZmK),(Za_z (#[aLe,g]) a).toList=Za_A++#[j3,(Zkb fun p=>g.toList++aZ p)]
 | [],a=>ZaA
 | Zhj,a=>by
  rw[aQU,Dl g ps];simp[aZ]
def Kz (sep p:Str)[165]:aZ (ZCo sep (p::ps))=aZ p++#[aeB,Zkb,aZ sep]:=by
 unfold Txt.join Builtin.Str.glued
 show ((Za_z (#[aLe,sep.cps]) p.cps)).toList=_
 rw[Dl];rfl
abbrev Ck [167]:Zaa:=0<=g/\g<10 ^ 12
def vV [128]:Za0l:=Rl h.1 h.2
def UA [128]:Zhw (gn g)=Zs2:=by
 obtain⟨ds,N,e⟩:=vV h;rw[Bi N,e]
def lH [128]:(#[ot,ZK2,ZLf])/\ZaT5<=12:=by
 obtain⟨ds,N,e⟩:=vV h;unfold aZ;rw[N.eq];refine⟨Zie,#[kx,N.ln]⟩;obtain⟨d,hd,rfl⟩:=Zz_;have:=N.dg d hd;exact ZIQ
def Aj {x:Str}(h:#[WQ,aZ x]):oK x:=by
 unfold oK;rw[<-Array.all_toList,ZM];exact #[gQ,Zc (h c hc)]
def o7 (k c:Int):Ck (j4 k c):=by
 unfold Ck j4;have h:=ZaQ3;have h2:=ZaQ4;dsimp only;generalize ZaO1=y at h h2;split<;>lia
def Mx [201]:ZmO:=by
 unfold namesL at h;obtain⟨k,_,rfl⟩:=ZXw;exact ZqI
#print Wz
namespace L2
open PySem PySem.Spec PyProof.Rows
section
variable {prog:Program}{w:World}{A:Around}{E:ZfE}{s:Shared}
def jz {it t:Addr}{i:Nat}{xs:Zix}{x:Value}{Q:ZfE}(hI:ZaUx)(hT:Zaml)(hx:ZOw)
  (k:∀ h',#[akj,it,t,Zcf]->ZvH it ZaK h'->Q x ZlI):ZbcP:=by
 obtain⟨ot,et,_,m,dt⟩:=hT;obtain⟨oi,ei,ci,di⟩:=id hI;unfold Builtin.SmallTypes.nextOf;refine Zbet
 show #[m',Zoh #[aj,it] 0]
 refine ZaHu
 show ZaSk
 rw[ZaMg]
 show #[m',Zoh #[aj,it] 1]
 refine ZaHv
 show ZbdY
 refine ZaUA;simp only[aXy,hx];refine Y6 (ZNu ei di Za7 (Zg #[ib,x,Zg (k _ #[i9,#[a7G,ei,di],(Za7J ..).trans ci,?_] (ZajM ..))]));rw[ZaiR di];simp[rawInt]
def xA {it t:Addr}{i:Nat}{xs:Zix}{Q:ZfE}(hh:Zfj)(hI:ZaUx)(hT:Zaml)(hx:ZOv = Zac)
  (k:∀ h' e,Heap.ExtBut it ZaK h'->(ZaVm)->ZaJG):ZbcP:=by
 obtain⟨ot,et,_,m,dt⟩:=hT;obtain⟨oi,ei,ci,di⟩:=id hI;unfold Builtin.SmallTypes.nextOf;refine Zbet
 show #[m',Zoh #[aj,it] 0]
 refine ZaHu
 show ZaSk
 rw[ZaMg]
 show #[m',Zoh #[aj,it] 1]
 refine ZaHv
 show ZbdY
 refine ZaUA;simp only[aXy,hx];refine #[aky,#[aLT,ei,di,ZaA]]
 show #[hQ,newExc (Za4 Zaka) []]
 refine ZgG;simp only[newExc,newTuple];refine Y6 (aQd ?_ Za_E);refine Y6 (m:=firstArgMember _ _) (ZN3 (a:=ZjQ) (by first | rfl | (simp only[firstArgMember];rfl)) ?_);refine aQd ?_ (Za_D);simp only[raiseNew];refine #[mF,wpAny_handled]
 first | rw[show A.in1.handled=Zac from hh] | rw[hh]
 exact Y6 (Zg (wpAny_throw (k _ _ (((ZajM ..).extBut.push _).push _) #[dQ,Zct])))
#where
def VP [379](hh:Zfj)(it t:Addr)(hne:ZZ0)[373] :
  Draws ZnU w A it [it,t] xs.size (#[FY,ZOv]) (fun i h=>Za5u/\h.IsTuple t xs) where
 live:=fun _ _ st=>by obtain⟨⟨o,e,_⟩,_⟩:=st;exact ZnE
 frame:=fun _ _ _ st k=>⟨st.1.at #[wt,k it Za7 o e],st.2.at #[wt,k t Za7 o e]⟩
 item:=fun i s Q E hi st k=>jz st.1 st.2 (x:=xs[i]) (ZNZ) fun h' st' sb=>k _ h' Zb4 (ZNZ) ⟨st',st.2.extBut sb.extBut hne⟩ sb
 done:=fun s Q E st k=>xA hh st.1 st.2 Za7 k
def Gm (t:Addr)[373]:Meets (Builtin.«enumerate.__new__» #[ei,[ZXI,Zek]]) (fun _ R s=>Zaml /\
   R (.ok (ZfZ (Zai (s.heap.push { cls:=ZHz,data:=Za1 #[Zek,ZKG] }).objs.size)))
    { s with heap:=(s.heap.push { cls:=ZHz,data:=Za1 #[Zek,ZKG] }).push { cls:=ZXI,data:=Za1 #[Zay,Zjw,Zyx,ZgL 0,Zay,Zay] } }) :=
 Zakb fun prog w A R s h=>by
  obtain⟨hp,g,d,tk,os⟩:=s;obtain⟨hT,h⟩:=h;have su:=sub_enumerate;have hT2:Zakc ZaJC t xs:=hT;obtain⟨ot,et,ct,m,dt⟩:=id hT
  wp_walk using Zadl
  refine wpAny_stack_any fun st=>Zub;split
  ·rename_i c _ _ _ _ _
   cases (c == #[bcu,Zhp])<;>(wp_walk using Zadl,aXk hT2;exact ZF6)
  ·wp_walk using Zadl,aXk hT2
   exact ZF6
section
variable {prog:Program}{w:World}{A:Around}{E:ZfE}{s:Shared}
def Ir {t:Addr}{xs:Zix}{Q:ZfE}(hT:Zaml)
  (k:∀ h',IsEnum h' ZmQ Zax 0 Zay->#[akj,Zax,t,0]->(ZaDv)->Q ZawR ZlI) :
  #[vY,(Zfs (Za4 Zhp) [Zek])]:=by
 refine Za_F F.called_enumerate ZaY (F.typeCall_enumerate_1 _) (F.newCall_enumerate_1 _) (fun obj=>F.args_object_init_2 obj _) F.entry_enumerate_new (Gm t xs) #[c7,hT];obtain⟨oi,eoi⟩:∃ oi:Obj,oi={ cls:=ZHz,data:=Za1 #[Zek,ZKG] }:=Za8
 show _/\_
 rw[<-eoi];have sz:#[x6,#[nW,ZaCQ]]:=Z2 ..;have he:=Zm ZaCQ (o:={ cls:=ZXI,data:=Za1 #[Zay,Zjw,Zyx,ZgL 0,Zay,Zay] }) rfl;rw[sz]at he ⊢;refine⟨ZYE,k _ he ⟨oi,Y7 _ (Zm _ (#[bm,eoi])),#[d9,eoi],#[bm,eoi]⟩ ZapY⟩
#where
abbrev Np [1](t:Addr):It :=
 #[aqm,Zad7,fun i H y H'=>∃ T x,ZUO/\y=Zai T/\H'=#[cT,H,T,[Zdy,x]]/\∀ xs,Zad7->ZOw,Zad7]
def JV [9][7][299][156](e it t:Addr)(hne:e≠it):Cn P w K ZaUe (Np K t) ZaaG e (fun i h=>(∃ old,IsEnum h e it ZsZ old)/\Za5u) where
 mem:=ZaA
 obj:=fun i h st b hb=>by
  obtain⟨⟨old,he⟩,⟨o,eo,c,d⟩⟩:=st
  have hb:ZaeH:=ZcU
  rcases hb with rfl | rfl
  ·exact⟨_,he,fun v z=>by cases z⟩
  ·exact⟨o,eo,fun v z=>by rw[d]at z;cases z⟩
 keep:=#[akd,⟨#[aKH,⟨old,k e Za7 _ he⟩],st.2.at fun o x=>k it Za7 o x⟩]
 item:=by
  intro X hP hw hK hc i pins s σ H E I hf st hg;subst hP hw hK;obtain⟨xs,x,hq,hx⟩:=hg;obtain⟨its,rv,p,hz⟩:=Zn3;have p:ZaMZ:=p;obtain⟨u,hu,ru⟩:=ZYt;obtain⟨⟨old,he⟩,hit⟩:=st;have fe:=hf e (ZaA);have fi:=ZeS;have lte:#[dV,e]:=Zk he
  have lti:ZazX:=by obtain⟨_,q,_⟩:=ZYh;exact Zk q
  have net:e≠t:=fun z=>by
   obtain⟨o,eo,c,_⟩:=id p;rw[<-z,he]at eo;cases eo;simp at c
  have nit:ZZ0:=fun z=>by
   obtain⟨o,eo,c,_⟩:=id p;obtain⟨o2,eo2,c2,_⟩:=ZYh;rw[z,eo2]at eo;cases eo;rw[c2]at c;simp at c
  have hil:i<Zj2:=#[bd',hu]
  refine wpAny_pyNext_enum_itemD (VP (A:=Zaiy) ZNX it t nit ZbJ) he ⟨hit,p⟩ hil hne (by simp[hne,net]) fun y h' tk hy ho hit' hT hsz hk=>ZaMG
  have ey:y=u:=by
   have hy:#[kG,ZNa]:=hy
   have hy:#[kG,its[i]?]:=by simpa using hy
   rw[hu]at hy;exact #[pe,hy]
  subst ey;refine wpAny_letOwnedTupleGo_enum (s:=#[Og,tk+1]) ho fun h2 he2 sb2=>?_;have hfr:ZXy:=ZI7
  have IL:aQ X pins σ Zari { s with heap:=s.heap.push { cls:=Zf3,data:=Za2 #[ZJi,y] },toks:=s.toks } :=
   #[aSy,[ZJi,y],Za8,ru]
  have fp':∀ b,ZIk->nu X Zav H b->nu X Zav Zari b:=fun b hb ⟨f0,f1,f2,f3,f4,f5⟩=>⟨#[SQ,hb,f0],f1,f2,f3,f4,f5⟩
  have I2:#[XM,Zari,h2,tk+1]:=IL.turned2 (t':=tk+1) (h':=h2) (fun b o n1 n2 q=>by
   refine ZaT4
   show Zgz
   by_cases hb:Zax2
   ·subst hb
    have q:(s.heap.push { cls:=Zf3,data:=Za2 #[ZJi,y] }).get? s.heap.objs.size=Zig:=q;rw[Zct]at q;cases q;exact hT
   ·have q:(s.heap.push { cls:=Zf3,data:=Za2 #[ZJi,y] }).get? b=Zig:=q
    refine hk b o n1 n2 ?_;rw[ZaOy]at q
    exact q) (fp' e lte fe) (fp' it lti fi)
  refine#[aZU,x,hfr,rfl,#[auC,ZahB],⟨#[aR,by simpa using he2],hit'.1.at fun o q=>(sb2.2 it (Zw hne)).trans q⟩]
  have hb':ZaeH:=ZcU
  rcases hb' with rfl | rfl
  ·exact (fp' _ lte fe).1
  ·exact (fp' _ lti fi).1
 done:=by
  intro X hP hw hK hc i pins s σ H E I hf st hg;subst hP hw hK;obtain⟨xs,hq,hx⟩:=hg;obtain⟨its,rv,p,hz⟩:=Zn3;have p:ZaMZ:=p;obtain⟨⟨old,he⟩,hit⟩:=st;obtain⟨f0,f1,f2,f3,f4,f5⟩:=ZeS
  have nit:ZZ0:=fun z=>by
   obtain⟨o,eo,c,_⟩:=id p;obtain⟨o2,eo2,c2,_⟩:=ZYh;rw[z,eo2]at eo;cases eo;rw[c2]at c;simp at c
  have hl:=rv.length;unfold pyNext;refine #[aIu,aQB (name:=ZyZ) (T:=Zhp) ZYE Za_G (aQK Za_G (T:=Zhp) ZYE F.entry_enumerate_next ?_ (F.args_enumerate_next_1 _))]
  show #[hQ,Zoh #[aj,e] 2]
  refine Y6 (#[g_,he,rfl,Zai it,?_]);refine Y6 (xA (A:=Zaiy) ZNX hit p Zajt fun h' x eb hx=>?_);obtain⟨o,ho,co⟩:=hx;refine #[a9O,co];exact Zg #[db,#[bcn,Zb4,(fun b o hb q=>eb b o hb q)]]
 self:=#[a_H,#[aKH,Za_K he h]]
abbrev T9 [1](t:TA):TI:=#[avN,#[Cu,∃ l,vs=ZAn/\(∃ xs,aU K H1 l xs)/\R (Np K l) H1]]
def Bz {X:Cx}{elts:Zbv} {kk}{tpos:Pos}{a:Expr}{ta:TA}{p pos:Pos}(hg:Gl X Zhp)(hm:#[tC,Zhp])(ha:Zac0)
  (he:#[DK,[a],a,[]]:=by rfl) (hpl:ZaA5 (·.1)=false:=by rfl):#[aYj,(ZcW (ZeT Zhp p) [a] [] pos),(T9 X.K ta)]:=by
 intro pins s σ H R I h;refine #[V1,boot_enumerate];refine aQe Zanz he hpl;obtain ⟨vs,H1,I1,r1,l,e1,⟨xs,hq⟩,q⟩:=zz;subst e1;obtain⟨u,rfl,rx⟩:=iq r1;cases rx;obtain⟨its,rv,pl,hz⟩:=Zayg;refine Ir (show Zakf l ZbJ from pl) fun h' hE hI hk=>?_;have I2:#[b7,H1,#[asF,h']]:=ZNF hk;refine Za_K (s:=#[ai4,h']) hE ?_;refine⟨ZG5,[ZG5,Ze4],_,_,H1,rfl,I2,JV _ _ l (Nat.succ_ne_self _),⟨#[aR,hE],hI⟩,Zdx,q⟩
 have hb:b=ZG5\/ZzV:=ZcU
 rcases hb with rfl | rfl
 ·exact I1.fpOk ZXb (ZB_ (aXE _))
 ·exact ZanW
def w9 {K:PySem.W.Frag}{a:Addr}{xs:Zbr}{g:TG}{tb:TS}{D:nZ}{σ:St}{H:Hp}(Pv:Zlf)(h0:Znz)(hl:ZaJi)
  (hs:∀ i x σ H T,#[aZE,ZOw,Zarh]) (hd:Zabb) :
  ∃ W:ZjH,Zld/\∀ i m σ H,ZjF ->
   #[anF,Zaaz,Zaaz,Zaaz]:=by
 refine ZafJ;rintro i m σ H ⟨rfl,hi,p⟩;have q:=ZBb
 by_cases hlt:ZzS
 ·refine #[Sq,ZauW,ZaL,fun y H' z=>?_]
  obtain⟨T,x,hT,e1,e2,hx⟩:=z;subst e1 e2;exact hs i x σ _ T (hx xs q) p hT
 ·have e:ZZE:=Zad
  subst e;exact ZafH
open PySem PySem.Spec PyProof.Rows PySem.Calls
section
variable {prog:Program}{w:World}{A:Around}{E:ZfE}{s:Shared}
def HW {z TI TO i1 i2 l1 l2:Addr}{k1 k2:Nat}{xs ys:Zix}{x y a b:Value}{Q:ZfE}(D:Zlk)
  (hz:ZKZ) (hTI:ZRh) (hTO:ZRi)
  (h1:ZQY) (h2:ZQ0) (hl1:Zamj) (hl2:Zamk) (hx:Zuh) (hy:ZIH)
  (k:∀ h',ZaQP->ZaCz->Zakk->Zakl->ZJo->ZJl ->
   #[a0_,ZcN]) :
  ZaYL:=by
 show Zabs
 refine Zabt
 show Zabr
 refine Y6 (#[g_,hz,rfl,ZUI,(Y6 (aQs hTI rfl ?_))])
 show Za89
 refine ZgG;unfold Builtin.SmallTypes.ownedTupleIsFree;refine Y6 (#[g_,hz,rfl,Zay,ZkY]);simp only[aQP];refine #[aky,(#[g_,hz,rfl,Zai TO,(Y6 (ZN8 hz Za7 fun g1 z1 b1=>?_))])]
 replace z1:#[aCd,g1]:=z1
 refine ZgG;simp only[List.zipIdx_cons,List.zipIdx_nil,aXq,List.forIn_nil];refine Y6 (Y6 (Za_L ?_))
 show ZbcN
 refine Y6 (jz (Za_M ZCy D.i1z) (Za_N ZCy ZOx) hx fun g2 t2 b2=>Zub);have o2:ZiX g2 TO a b:=ZOy _ _ D.TOi1 (ZCy _ _ D.TOz hTO);refine #[aG4,o2,o2,fun g3 o3 b3=>?_]
 replace o3:ZiX g3 TO x b:=o3
 refine #[k_,aXF,(Y6 (Y6 (Za_L ?_)))]
 show ZbcO
 refine Y6 (jz #[aVA,Za_P,D.i2z,Za_Q,Za_S] #[aVA,Za_T,ZOz,ZOA,D.l2TO] hy fun g4 t4 b4=>Zub);have o4:ZiX g4 TO x b:=ZOB _ _ D.TOi2 o3;refine #[aG4,o4,o4,fun g5 o5 b5=>?_]
 replace o5:ZiX g5 TO x y:=o5
 refine #[k_,aXF,(Zg (Y6 (aQs o5 rfl #[Gt,Zakg])))]
 have sz:#[Wo,Zwv]:=by rw[b5.1,b4.1,b3.1,b2.1,b1.1]
 have z5:#[aCd,g5]:=ZOC _ _ Za_V (ZOB _ _ Za_W (ZOD _ _ Za_V (ZOy _ _ Za_X z1)));have p1:Za_Y i1 l1 (k1+1):=((t2.extBut ZOD Za_Z).extBut ZOB D.i12).extBut ZOC Za_Z;have p2:Za_Y i2 l2 (k2+1):=t4.extBut ZOC Za_S;have lz:z<Zwv:=Zk z5
 show #[hQ,Builtin.SmallTypes.ownedTupleHandOut #[aj,z] ZawP]
 refine ZgG;unfold Builtin.SmallTypes.ownedTupleHandOut;have z6:IsZip (g5.push { cls:=Zf3,data:=Za2 #[x,y] }) z TI TO ZaiT:=Y7 _ z5;refine Y6 (ZN8 z6 Za7 fun g7 z7 b7=>?_)
 replace z7:#[aGL,g7]:=z7
 refine ZN8 z7 Za7 fun g8 z8 b8=>?_
 replace z8:#[aGL,g8]:=z8
 have up:∀ c o,c≠z->#[ku,g5.get?]->#[ku,g8.get?]:=fun c o c1 e=>#[aRN,c1,c1,ZhW];have t8:ZiX g8 Zwv x y:=#[aRN,(Z1 lz),(Z1 lz),Zna]
 have e8:g8.objs.size=Zwv+1:=by rw[b8.1,b7.1,Z2]
 rw[sz]at z8 t8 e8;refine ZYP
 show Q ZawP _
 rw[sz];exact k g8 z8 (up _ _ D.TOz o5) #[wu,p1.at,up _ o D.i1z e] #[wu,p2.at,up _ o D.i2z e] t8 e8 fun c o c1 c2 c3 c4 e=>up c o c1 (ZOC _ _ c2 (ZOB _ _ c4 (ZOD _ _ c2 (ZOy _ _ c3 (ZCy _ _ c1 e)))))
def J2 {z TI TO i1 i2 l1 l2:Addr}{k1 k2:Nat}{xs ys:Zix}{x y a b:Value}{Q:ZXO}(D:Zlk)
  (hz:ZKZ) (hTI:ZRh) (hTO:ZRi)
  (h1:ZQY) (h2:ZQ0) (hl1:Zamj) (hl2:Zamk) (hx:Zuh) (hy:ZIH)
  (k:∀ h',ZaQP->ZaCz->Zakk->Zakl->ZJo->ZJl ->
   #[a0_,Zay3]) :
  Zad8:=by
 have ty:Zamt:=ZYF;unfold pyNext;exact #[aIu,aQB (name:=ZyZ) ty aXS (aQK aXS ty Za_0 #[a1r,HW,hTI,hTO,fun h' a1 a2 a3 a4 a5 a6 a7=>Zg (k h' a1 a2 a3 a4 a5 a6 a7)] (Zakh _))]
noncomputable abbrev No [138][84]:Heap:=h.push { cls:=ZHz,data:=Za1 #[ZbV,ZKG] }
noncomputable abbrev Xb [138][416]:Heap:=(No Zabe b).push { cls:=Zf3,data:=Za2 #[ZG6,Zai #[nW,Zabe]] }
noncomputable abbrev Xd [138][416]:Heap:=(Xb h a b).push { cls:=Zf3,data:=Za2 #[Zay,Zay] }
noncomputable abbrev Vi [138][416]:Heap:=(Xd h a b).push { cls:=ZXJ,data:=Za1 #[Zay,Zjw,Zjw,Zai #[asn,Zabe],Zai #[nW,(Xb h a b)]] }
def IY [416](xs ys:Zix):Meets (Builtin.«zip.__new__» #[ei,[ZXJ,ZbV,Zai b]]) (fun _ R s=>ZaGf/\ZaIn/\R (.ok (ZfZ #[aj,ZabC])) #[lH,Vi ZaK a b]) :=
 Zakb fun prog w A R s h=>by
  obtain⟨hp,g,d,tk,os⟩:=s;obtain⟨ha,hb,h⟩:=h;have su:=sub_zip;have ta:Zakc ZaJC a xs:=ha;have tb:Zakc #[atZ,No hp a] b ys:=Za_1 hb ZavL
  wp_walk using aXk ta,aXk tb
  exact ZF6
def LW {a b:Addr}{xs ys:Zix}{Q:ZfE}(ha:ZaGf)(hb:ZaIn)
  (k:∀ h',IsZip h' #[t3,4] #[t3,2] #[t3,3] Zay->ZiX h' #[t3,2] ZcN ZawR ->
   ZiX h' #[t3,3] Zay Zay->Zaki Zax a 0->Zaki ZmQ b 0->#[Aa,ZlG,5] ->
   #[zh,ZSG->ZE2,#[aj,#[t3,4]]]) :
  #[vY,(Zfs (Za4 Zd7) ZaKm)]:=by
 refine Za_F F.called_zip ZaY (F.typeCall_zip_2 _ _) (F.newCall_zip_2 _ _) (fun obj=>F.args_object_init_3 obj _ _) F.entry_zip_new (IY a b xs ys) #[cr,ha,hb];have e1:#[x6,Zavz]:=Z2 ..
 have e2:#[Aa,ZaHU,2]:=#[GQ,e1]
 have e3:#[Aa,ZaDS,3]:=#[GQ,e2]
 have e4:#[Aa,ZabC,4]:=#[GQ,e3]
 have e5:#[Aa,#[SR,Vi],5]:=#[GQ,e4]
 have g5:#[A8,ZabC]:=Zct;have g4:#[A8,ZaDS]:=Y7 _ Zna;have g3:#[A8,ZaHU]:=Y7 _ ZazB;have g2:#[A8,Zavz]:=#[X6,Zna];have g1:#[A8,Zax]:=#[X6,ZazB]
 show _/\_
 rw[e2,e3,e4]at g5;rw[e1,e2]at g3;rw[e3]at g4;rw[e1]at g2;rw[e4];exact⟨#[dQ,g5],k _ g5 g3 g4 #[Ez,g1] #[Ez,g2] e5 fun c o e=>#[X6,ZazA]⟩
def J0 {z TI TO i1 i2 l1 l2 T:Addr}{k1 k2:Nat}{b:Bool}{oT:Obj}{xs ys:Zix}{x y:Value}{Q:ZfE}(D:Zlk)
  (hz:ZanH) (hT:ZKP) (hTI:ZRh)
  (h1:ZQY) (h2:ZQ0) (hl1:Zamj) (hl2:Zamk) (hx:Zuh) (hy:ZIH)
  (hQ:∀ h',ZanI->Zakk->Zakl->ZJo->ZJl ->
   #[zh,ZSH,ZcN]) :
  ZaYL:=by
 show Zabs
 refine Zabt
 show Zabr
 refine ZaDJ;refine ZaFa
 show Za89
 refine ZaY9;simp only[aQ3,aXZ];refine ZgG;simp only[List.forIn_toArray,aXq,List.forIn_nil];refine ZKp
 show ZbcN
 refine Za_O;refine ZKp
 show ZbcO
 refine Y6 (jz Za_R Za_U hy fun h₄ h2₄ hs₄=>Zg (Zg (Zg ?_)));refine Y6 (Zakg ?_ #[kC,#[lF,2]])
 have hsz:#[Wo,Za_3]:=by rw[hs₄.1,hs₂.1,hs₁.1]
 refine ZYP
 show Q #[aj,Za_3] _
 rw[hsz];have up:∀ {c:Addr}{o:Obj},#[ku,h₄.get?]->(h₄.push { cls:=Zf3,data:=Za2 #[x,y] }).get? c=Zig:=#[cj,Zja];refine hQ _ (up (Zakm _ _ Za_W (Zakn _ _ Za_X hz₁))) #[wu,(h1₂.extBut Zakm D.i12).at,up e] #[wu,h2₄.at,up e] ?_ #[nf,Z2,hsz] fun c o c1 c2 c3 e=>up (#[aXY,Zakm,e]);rw[<-hsz];exact Zct
def Nj {z TI TO i1 i2 l1 l2 T:Addr}{k1 k2:Nat}{b:Bool}{oT:Obj}{xs ys:Zix}{x:Value}{Q:ZaxD}(hh:Zfj)(D:Zlk)
  (hz:ZanH) (hT:ZKP) (hTI:ZRh)
  (h1:ZQY) (h2:ZQ0) (hl1:Zamj) (hl2:Zamk) (hx:Zuh) (hy:ZaHR)
  (hE:∀ h' e,(∀ c o,ZSH)->(ZaVm)->ZaJG) :
  #[vY,Zaui]:=by
 show Zabs
 refine Zabt
 show Zabr
 refine ZaDJ;refine ZaFa
 show Za89
 refine ZaY9;simp only[aQ3,aXZ];refine ZgG;simp only[List.forIn_toArray,aXq,List.forIn_nil];refine ZKp
 show ZbcN
 refine Za_O;refine ZKp
 show ZbcO
 refine Y6 (xA hh Za_R Za_U hy fun h₄ e hs₄ he=>?_);exact hE h₄ e (fun c o c1 c2 c3 x=>#[aXY,hs₄,x]) he
def GH {z TI TO i1 i2 l1 l2 T:Addr}{k1 k2:Nat}{b:Bool}{oT:Obj}{xs ys:Zix}{x y:Value}{Q:ZXO}(D:Zlk)
  (hz:ZanH) (hT:ZKP) (hTI:ZRh)
  (h1:ZQY) (h2:ZQ0) (hl1:Zamj) (hl2:Zamk) (hx:Zuh) (hy:ZIH)
  (hQ:∀ h',ZanI->Zakk->Zakl->ZJo->ZJl ->
   #[zh,ZSH,Zay3]) :
  Zad8:=by
 have hTy:Zamt:=ZYF;unfold pyNext
 exact Y6 (wpAny_attempt (aQB (name:=ZyZ) hTy aXS
  (aQK aXS hTy F.entry_zip_next
   #[a1r,J0,hT,hTI,fun h' a1 a3 a4 a5 a6 a7=>Zg (hQ h' a1 a3 a4 a5 a6 a7)] (Zakh _))))
def Ji {z TI TO i1 i2 l1 l2 T:Addr}{k1 k2:Nat}{b:Bool}{oT:Obj}{xs ys:Zix}{x:Value}{Q:ZXO}(hh:Zfj)(D:Zlk)
  (hz:ZanH) (hT:ZKP) (hTI:ZRh)
  (h1:ZQY) (h2:ZQ0) (hl1:Zamj) (hl2:Zamk) (hx:Zuh) (hy:ZaHR)
  (hQ:∀ h',#[zh,ZSH,Zac]):Zad8:=by
 have hTy:Zamt:=ZYF;unfold pyNext
 refine Y6 (wpAny_attempt (aQB (name:=ZyZ) hTy aXS
  (aQK aXS hTy Za_0 (Nj hh D hz hT hTI h1 h2 hl1 hl2 hx hy fun h' e hk he=>?_) (Zakh _))))
 obtain⟨o,ho,hc⟩:=he;refine #[a9O,hc];exact Zg (hQ _ hk)
def Nk {R:Znr}{z TI TO i1 i2 l1 l2 S:Addr}{xs ys:Zix}(hh:Zfj)(D:Zlk)(hxy:Zadv)(hn:ZXD)(res:Value)
  (hS1:S≠z) (hS2:S≠i1) (hS3:S≠i2) (hS4:S≠l1) (hS5:S≠l2) (hS6:S≠TI) :
  ∀ (k i:Nat)[154](acc:ZeZ)(arr:Zix)[214](T:Addr)(b:Bool),arr=#[T',acc.map]->Zou-i=k->i<=Zou->ZanH->T∈acc->ZRh ->
  #[QX,i]->#[QZ,i]->Zamj->Zamk->ZAK=some { cls:=ZdF,dict:=none,data:=Za2 arr c,slots:=#[] }->ZOm=i ->
  (#[ar0,acc[j]?,#[Rg,t,x,y]])->(∀ t∈acc,t≠z/\t≠i1/\t≠i2/\t≠S)->acc.Nodup->(∀ t∈acc,#[dV,t]) ->
  (∀ (h':Heap)(acc':ZeZ)(c':Nat),(#[ef,Ztw,z,ZaJX])->Zaa3=some { cls:=ZdF,dict:=none,data:=Zac7,slots:=#[] }->Zadr->acc'.Nodup ->
   (#[ako,t∈acc\/ZaEF])->(ZauA)->(#[ako,t≠S])->ZaO8) ->
  Za'b:=by
 intro k
 induction k with
 | zero =>
  intro i s acc arr c T b harr hk hi hz hT hTI h1 h2 hl1 hl2 hS hlen hacc hap nd hlt hR
  have hin:i=Zou:=Zad
  obtain⟨oT,hoT⟩:∃ o,#[qF,T]:=by
   obtain⟨j,hj⟩:=aQ8 hT;obtain⟨_,_,_,_,p⟩:=ZaVK;exact#[aR,p]
  refine Zabi;rw[ZabF]
  show ZaeP
  refine Y6 (Ji (A:=ZiN) hh D hz hoT hTI h1 h2 hl1 hl2 #[oV,aQ5] #[oV,Za_d] fun h' hk'=>?_);refine Zg (hR h' acc c (fun b o _ b1 b2 b3 e=>hk' b o b1 b2 b3 e) #[pI,harr,hk' _ _ hS1 hS2 hS3 hS] Zah nd (#[Cz,Zam ht]) Zadn #[Cz,(hap t ht).2.2.2]);obtain⟨x,y,e1,e2,p⟩:=ZaVg;have ha:=ZaUF;exact⟨x,y,e1,e2,hk' _ _ ha.1 ha.2.1 Zax3 p⟩
 | succ k ih =>
  intro i s acc arr c T b harr hk hi hz hT hTI h1 h2 hl1 hl2 hS hlen hacc hap nd hlt hR
  obtain⟨oT,hoT⟩:∃ o,#[qF,T]:=by
   obtain⟨j,hj⟩:=aQ8 hT;obtain⟨_,_,_,_,p⟩:=ZaVK;exact#[aR,p]
  refine Zabi;rw[ZabF]
  show ZaeP
  have ex:#[au,ZOv,xs[i]]:=ZHJ;have ey:#[au,ys[i]?,ys[i]]:=ZHJ;refine #[a1E,GH,hoT,hTI,fun h' z' i1' i2' pn sz keep=>?_];have hS':=Zd4 _ _ hS1 hS2 hS3 hS
  show wpAny _ A.in1 (updateSeq S (·.push ZcN) >>= _) _ _ _
  refine ZgG
  have hsa:Zoq=i:=by rw[harr];simp[hlen]
  obtain⟨h2',eh2⟩:∃ h2',h2'=h'.update S (Obj.mapSeq (·.push ZaDT)):=Za8
  have up:Zbdm:=ZaTb
  have hSn:#[dV,S]:=Zk hS;have hzlt:#[dV,z]:=Zk hz
  have hi1lt:ZazY:=by obtain⟨_,e,_⟩:=h1;exact Zb2
  have hi2lt:ZazZ:=by obtain⟨_,e,_⟩:=h2;exact Zb2
  have sz2:ZaCs:=ZaRB
  refine #[aYe,#[pJ,hsa],by show (Zakp _).size<=ZlE+1;rw[Za_4,hsa];lia];rw[<-eh2];have kp:#[ef,Ztw,z,b≠i1->b≠i2->Zd6->Zbdl]:=#[a_6,up b o b0 (Zd4 b o b1 b2 b3 e)]
  refine ih Zcf #[lH,h2'] (acc++[Zax]) #[i8,Zakp,Zax] _ T true (#[fp,harr]) Zah Zah ZaPW (aQ6 _ hT) (kp _ _ Za_7 D.TIz D.TIi1 D.TIi2 hTI) ZaQ5 ZaQ6
   #[wu,Zakq,kp _ _ Za_8 ZOx D.l1i1 D.l1i2 e] #[wu,Zakr,kp _ _ Za_9 ZOz ZOA D.l2i2 e] Zbdn (by simp[hlen]) Zadn ZCB ?_ ZCB #[a__,?_]
  ·rw[List.getElem?_append]at e
   split at e
   ·obtain⟨x,y,e1,e2,p⟩:=ZaVg
    have ha:=ZaUF;exact⟨x,y,e1,e2,kp _ _ ha.2.2.2 ha.1 ha.2.1 Zax3 p⟩
   ·rename_i hj
    have hj0:j=i:=by
     have:=#[ri,e];simp at this;lia
    subst hj0;rw[hlen,Nat.sub_self]at e;cases e;exact ZaVE
  ·rcases ZazR with q | q
   ·exact hap t q
   ·rw[ZHW];exact Za0C
  ·refine #[at_,nd,fun a ha b hb=>?_]
   rw[Zy0];exact Zq (hlt a ha)
  ·show ZaKo
   rw[sz2];rcases ZazR with q | q
   ·exact aQx (hlt t q)
   ·rw[ZHW];exact ZG'
  ·refine hR h3 Zwd c' (#[a_6,k3 b o b0 b1 b2 b3 (kp b o b0 b1 b2 b3 e)]) s3 l3 n3 ZCB p3 f3
   rcases Zac1 with q | q
   ·rcases Zex q with q | q
    ·exact ZHx
    ·rw[ZHW];exact Zap (Za _)
   ·right;have q:ZaEG:=q;lia
def J3 {R:Znr}{z TI TO i1 i2 l1 l2 S:Addr}{xs ys:Zix}(hh:Zfj)(D:Zlk)(hxy:Zadv)(h0:ZayL)(hn:ZXD)(res:Value)
  (hS1:S≠z) (hS2:S≠i1) (hS3:S≠i2) (hS4:S≠l1) (hS5:S≠l2) (hS6:S≠TI) (hS7:S≠TO) {a b:Value} {c:Nat} (hz:ZKZ) (hTI:ZRh) (hTO:ZRi)
  (h1:#[QX,0]) (h2:#[QZ,0]) (hl1:Zamj) (hl2:Zamk) (hS:ZAK=some { cls:=ZdF,dict:=none,data:=Za2 #[] c,slots:=#[] })
  (hR:∀ (h':Heap)(acc':ZeZ)(c':Nat),(#[ef,Ztw,z,#[aX6,Zgz]])->Zaa3=some { cls:=ZdF,dict:=none,data:=Zac7,slots:=#[] }->Zadr->acc'.Nodup ->
   #[aQE,ZaEF,ZaO8]) :
  Za'b:=by
 refine Zabi;rw[ZabF]
 show ZaeP
 have ex:#[au,xs[0]?,xs[0]]:=ZHJ;have ey:#[au,ys[0]?,ys[0]]:=ZHJ;refine #[a1E,J2,hTI,hTO,fun h' z' _ i1' i2' pn sz keep=>?_];have hS':=Zd4 _ _ hS1 hS7 hS2 hS3 hS
 show wpAny _ A.in1 (updateSeq S (·.push ZcN) >>= _) _ _ _
 refine ZgG;obtain⟨h2',eh2⟩:∃ h2',h2'=h'.update S (Obj.mapSeq (·.push ZaDT)):=Za8
 have up:Zbdm:=ZaTb
 have hSn:#[dV,S]:=Zk hS;have hzlt:#[dV,z]:=Zk hz
 have hi1lt:ZazY:=by obtain⟨_,e,_⟩:=h1;exact Zb2
 have hi2lt:ZazZ:=by obtain⟨_,e,_⟩:=h2;exact Zb2
 have sz2:ZaCs:=ZaRB
 refine #[aYe,ZzD,#[gd,(1:Nat)<=ZlE+1]];rw[<-eh2];have kp:#[ef,Ztw,z,#[aX6,Zbdl]]:=#[a_',up b o b0 (Zd4 b o b1 b2 b3 b4 e)]
 refine Nk hh D hxy hn res hS1 hS2 hS3 hS4 hS5 hS6 (Zou-1) 1 #[lH,h2'] [Zax] #[Zyx] _ s.heap.objs.size false rfl Zah Zah ZaPW Ze (kp _ _ Za_7 D.TIz D.TITO D.TIi1 D.TIi2 hTI) ZaQ5 ZaQ6
  #[wu,Zakq,kp _ _ Za_8 ZOx D.l1TO D.l1i1 D.l1i2 e] #[wu,Zakr,kp _ _ Za_9 ZOz D.l2TO ZOA D.l2i2 e] Zbdn rfl Zadn ZCB Za7 ZCB #[a__,?_]
 ·cases j with
  | zero=>cases e;exact ZaVE
  | succ j=>simp at e
 ·rw[ZaDN];exact Za0C
 ·show ZaKo
  rw[sz2,ZaDN];exact ZG'
 ·refine #[a1g,hR,h3,#[a_',k3 b o b0 b1 b3 b4 (kp b o b0 b1 b2 b3 b4 e)]]
  rcases Zac1 with q | q
  ·rw[ZHW];exact ZaN
  ·have q:ZaEG:=q;lia
def Am {Q:ZfE}{z TI TO i1 i2 l1 l2:Addr}{xs ys:Zix}(hh:Zfj)(D:Zlk)(hxy:Zadv)(h0:ZayL)(hn:ZXD){a b:Value}
  (hz:ZKZ) (hTI:ZRh) (hTO:ZRi)
  (h1:#[QX,0]) (h2:#[QZ,0]) (hl1:Zamj) (hl2:Zamk)
  (hQ:∀ (h':Heap)(acc':ZeZ)(c':Nat),(#[ef,b≠z,TO,ZaJX])->Zacq=some { cls:=ZdF,dict:=none,data:=Zac7,slots:=#[] }->Zadr->acc'.Nodup ->
   #[aQE,Zax<t,Q ZcN ZlI]) :
  #[vY,(Zfs (Za4 ZdE) [Zai z])]:=by
 refine callType_codes (Q₁:=fun obj s1=>ZKO/\s1={ s with heap:=s.heap.push { cls:=ZdF,data:=Za2 #[] } }) PySem.F.called_list Zaw1 PySem.F.entry_list_init ZaH9 fun obj s1 he=>?_;obtain⟨rfl,rfl⟩:=he;have hS:(s.heap.push { cls:=ZdF,data:=Za2 #[] }).get? s.heap.objs.size=some { cls:=ZdF,data:=Za2 #[] }:=Zct;refine ZaRS
 show wpAny _ _ (do let old <-ZaFA;Builtin.List.listUpdate ZcN (fun _=>#[]);letGo Za7w;#[a7v,ZG3]) _ _ _
 refine ZgG;unfold Builtin.List.listItems;refine ZaQX
 show wpAny _ _ (updateSeq s.heap.objs.size (fun _=>#[]) >>= fun _=>letGo (#[]:Zix).toList.reverse >>= #[bf,#[a7v,ZG3]]) _ _ _
 refine ZaGK;have hS2:=Z3 (Obj.mapSeq (fun _=>(#[]:Zix))) hS rfl
 have oth:∀ b o,Zd6->((s.heap.push { cls:=ZdF,data:=Za2 #[] }).update s.heap.objs.size (Obj.mapSeq (fun _=>(#[]:Zix)))).get? b=Zig :=
  ZaS9
 have szz:((s.heap.push { cls:=ZdF,data:=Za2 #[] }).update s.heap.objs.size (Obj.mapSeq (fun _=>(#[]:Zix)))).objs.size=Zjk:=#[a_,Zaks,Z2]
 refine Zaac;generalize (s.heap.push { cls:=ZdF,data:=Za2 #[] }).update s.heap.objs.size (Obj.mapSeq (fun _=>(#[]:Zix)))=g at hS2 oth szz ⊢;have zlt:#[zo,z]:=Zq (Zk hz);have hT:Shared.TypeIs ZEm ZG3 Zd7:=#[dQ,oth _ _ hz];unfold Builtin.List.listExtendWith;refine #[bdP,Zd7,hT]
 have q1:#[aBS,ZcN,ZG3]:=by simp[Builtin.List.listSameRef,zlt.symm]
 have q2:#[bcv,Zd7,ZdE]:=Zaw
 have q3:#[bcv,Zd7,Zf2]:=Zaw
 simp only[q1,q2,q3,Bool.or_false,aQ3,aXZ];refine Y6 (wpAny_pyIter_zip (oth _ _ hz) ?_);refine #[mF,aQj];unfold Builtin.List.listLengthHint;refine #[A3,Sa]
 show #[hQ,Za9L (Zhr z) #[da,ZaiB]]
 refine #[A3,Qg];refine Zub
 show wpAny _ _ (rule "list.extend.makes-room" >>= fun _=>Builtin.List.listTouch ZcN >>= fun _ =>
  Zwl (Zf_ Za'a #[ei,#[kF,Zax,z,Zay]])) _ _ _
 refine ZaBp;refine ZgG
 show wpAny _ _ (updateSeq s.heap.objs.size (·.push Zay) >>= fun _=>updateSeq s.heap.objs.size (·.pop)) _ _ _
 refine Y6 (aQV hS2 rfl ?_);have hS₂:=Z3 (Obj.mapSeq (·.push Value.none)) hS2 rfl;refine aQV hS₂ rfl ?_;have hS₃:=Z3 (Obj.mapSeq (·.pop)) hS₂ rfl
 have oth2:∀ b o,Zd6->((g.update s.heap.objs.size (Obj.mapSeq (·.push Value.none))).update s.heap.objs.size (Obj.mapSeq (·.pop))).get? b=Zig :=
  #[dG,ZavD (ZavD Zay7)]
 have szz2:((g.update s.heap.objs.size (Obj.mapSeq (·.push Value.none))).update s.heap.objs.size (Obj.mapSeq (·.pop))).objs.size=Zjk:=#[asA,Zaks,szz]
 generalize (g.update s.heap.objs.size (Obj.mapSeq (·.push Value.none))).update s.heap.objs.size (Obj.mapSeq (·.pop))=g2 at hS₃ oth2 szz2 ⊢
 have li1:#[zo,i1]:=by obtain⟨_,e,_⟩:=h1;exact Zs_
 have li2:#[zo,i2]:=by obtain⟨_,e,_⟩:=h2;exact Zs_
 have ll1:#[zo,l1]:=by obtain⟨_,e,_⟩:=hl1;exact Zs_
 have ll2:#[zo,l2]:=by obtain⟨_,e,_⟩:=hl2;exact Zs_
 refine Zg ZatF;refine J3 (A:=ZiN) (s:=#[lH,g2]) (S:=Zax) hh D hxy h0 hn Zay zlt.symm li1.symm li2.symm ll1.symm ll2.symm (Z1 (Zk hTI)) (Z1 (Zk hTO)) #[Xl,hz] #[Xl,hTI] #[Xl,hTO] #[J3,h1.at] #[J3,h2.at] #[J3,Zakq] #[J3,Zakr] hS₃ fun h' acc' c' k3 s3 l3 n3 m3 p3=>?_;refine#[db,#[a1g,hQ,h',fun b o b1 b2 b3 b4 e=>k3 b o Zjp b1 b2 b3 b4 #[de,oth2]]];have:=Zac1;have this:g2.objs.size<=t:=this
 lia
#where
abbrev Na [1](t:TA):TE:=fun σ H Q=>t σ H fun vs H1=>∃ (a b:Addr)(xs ys:Zbr),vs=ZaKm/\ZaO_/\aU K H1 b ys/\Zn9<ZaL/\0<Zn9 /\
 ∀ [294](ts:ZeZ)(H':Hp),#[pA,l]->(∀ c o,#[ku,H1]->#[ku,H'])->#[b0,l,ZIn]->#[kU,(fun t (p:V×V)=>ZaD4),ts,ZCC,ys]->Q Zeh H'
def Hd {X:Cx}{e:Expr}{es:Zbv}{t:TA}{p p2 pos pos2:Pos}(hc:ZfU)(ha:Zhl)(hg:ZazF)(hm:ZaDz)(hg2:Gl X Zd7)(hm2:#[tC,Zd7])
  (he:ZDL:=by rfl) (hpl:#[amb,pos2,es].any (·.1)=false:=by rfl)
  (hs2:#[aOO,Zd7,Zdu,Zd7,Zdu]:=by rfl) :
  PE X (ZcW (ZeT ZdE p) #[Wg,Zd7,Zdu] [] pos) (Na X.K t):=by
 intro pins s σ H Q I h;refine ZaHy;refine ZaJO;rw[hs2];refine #[a7y,boot_zip];refine aQe (bS (ha pos2 Zav s σ H _ I h) ZTy) he hpl;obtain ⟨vs,H1,I1,r1,a,b,xs,ys,ev,hqa,hqb,hlt,h0,q⟩:=zz;subst ev;obtain⟨u1,u2,rfl,ru1,ru2⟩:=r1.two;cases ru1;cases ru2;obtain⟨ita,rva,pla,hza⟩:=Zakt hqa;obtain⟨itb,rvb,plb,hzb⟩:=Zakt hqb;have la:=rva.length;have lb:=rvb.length;have pla:#[aya,ita.toArray]:=pla;have plb:Zakf b itb.toArray:=plb
 have lta:ZaBy:=by obtain⟨o,e,_⟩:=id pla;exact Zb2
 have ltb:b<Ze4:=by obtain⟨o,e,_⟩:=id plb;exact Zb2
 refine LW pla plb fun h1 z1 t1 t2 i1 i2 sz k1=>Za7A;refine Am (s:=#[ai4,h1]) ZazI (zipApart_new lta ltb) #[abz,ZOE<ita.length] #[abz,0<ZOE] #[abz,#[lF,ZOE]] z1 t1 t2 i1 i2 #[a_2,pla] #[a_2,plb] fun h' ts c' k2 s2 l2 n2 m2 p2=>?_
 have l2:Zj'=ZOE:=by simpa using l2
 have m2:∀ t∈ts,Zov<t:=m2;have s2:Zet Zov=some { cls:=ZdF,dict:=none,data:=Za2 #[T',Zwm] c',slots:=#[] }:=s2
 have kk:∀ c o,#[ku,ZNA]->ZE2:=fun c o e=>by
  have hc:ZaDn:=Zb2;exact k2 c o Zaer Zaer (Zq hc) Zaer (k1 c o e)
 have ln:Zov∉ts:=fun hm=>aXa _ (m2 _ hm)
 have lz:#[aX,ZCC,ys]=Zj':=#[gN,List.length_zip]
 have out:∀ c,ZaDn->upd ZaOS Zov ZIn c=H1 c:=fun c hc=>by
  have hne:c≠Zov:=Zad
  have hnm:c∉ts:=fun hm=>#[e9,m2 c hm]
  rw[ai hne,AM hnm]
 refine#[mj,Zov,upd ZaOS Zov ZIn,?_,?_]
 ·refine I1.grown kk (fun c u e n=>#[aE,out c (Zk e),n]) (ZaTp) fun c o e n=>?_
  by_cases hb:c=Zov
  ·subst hb
   rw[ac]at e;cases e;refine⟨Zg',Zwm Zhr,c',?_,s2⟩
   exact wH Za7 fun i y v e1 e2=>by
    rw[ZE]at e1 e2
    cases hts:ts[i]? with
    | none=>rw[hts]at e1;cases e1
    | some t=>rw[hts]at e1 e2;cases e1;cases e2;exact rfl
  ·rw[Zfi]at e
   by_cases hm:c∈ts
   ·obtain⟨j,pp,e1,e2,rfl⟩:=KH n2 hm e n
    obtain⟨x,y,ex,ey,ip⟩:=p2 j c e1;obtain⟨f1,f2⟩:=List.getElem?_zip_eq_some.mp e2;obtain⟨v1,g1,w1⟩:=rva.get f1;obtain⟨v2,g2,w2⟩:=rvb.get f2
    have ex:#[dv,ita[j]?]:=by simpa using ex
    have ey:#[kG,itb[j]?]:=by simpa using ey
    rw[ex]at g1;cases g1;rw[ey]at g2;cases g2;exact⟨#[app,2],Zza,#[VX,w1,w2],#[ci,_,ip,_,rfl]⟩
   ·rw[AM hm,n]at e;cases e
 ·refine q _ ts _ #[oV,ZB_] (ZaTp) ac ?_
  have pr:=AN (H:=H1) n2 lz.symm
  have key:Za1h:=fun {us qs R S} hRS pr=>by
   induction pr with
   | nil=>exact Zan
   | cons r _ ih=>exact ZaWX
  exact key (fun u hu q e=>#[tb,#[s7,#[fP,ln,z,hu]]]) pr
def RW [60][1][183]:VG X (Ws K):=by subst hK;exact BW
#print L2
namespace Wz
open PySem L2
inductive bB where
 | pair [181]
 | line [236]
 | star [236]
 | all [236]
 | quad (a b c d:Int)
abbrev bB.word:bB->Str
 | ZayS=>"pair"
 | ZrN _=>"line"
 | ZCE _=>"star"
 | Zv1 _=>"all"
 | ZCF _ _ _ _=>"quad"
abbrev bB.gs:bB->Zbp
 | ZDv=>ZAV
 | ZrN g=>g
 | ZCE g=>g
 | Zv1 g=>g
 | ZCG=>ZEP
abbrev bB.isP:bB->Zb3
 | ZayS=>true
 | _=>false
abbrev qK:Zbp->ZeF
 | []=>[]
 | g::gs=>Zow (#[xA,g])++qK gs
abbrev bB.row:bB->ZeF
 | ZDv=>[Zqt]
 | ZrN g=>g.zip (Zdr 1)
 | ZCE g=>(Zdr 1).map ZKS
 | Zv1 g=>qK g
 | ZCG=>Pb a b c d
abbrev bB.Ok (f:bB):Zaa:=2<=Zaku/\Zaku<=60/\∀ a b c d,f=ZCG->ZEQ
abbrev p6 [32][158]:bB->Zaa
 | ZDv=>ZLD
 | f=>ZaRz
def p6.gr [194](n:ZAt):ZaRz:=by
 cases f<;>first | exact h | cases n
def p6.of [38]{p q:Addr}{f:bB}(n:ZAt)(h1:#[ff,ZVE])(h2:Zatd):ZLu:=by
 cases f<;>first | exact⟨q,h1,h2⟩ | cases n
def p6.hd [194]:ZaTa:=by
 cases f with
 | pair a b=>exact ZXn
 | _=>obtain⟨q,e,_⟩:=h;exact Znn
def bB.nw (f:bB):#[zn,ZaU]/\#[zn,ZaG]/\#[zn,ZbH]:=by
 cases f<;>(dsimp only[bB.word];refine#[cr,?_,?_]<;>decide +kernel)
def AR:∀ g:Zbp,2*ZVS=Zfz*(Zfz-1)
 | []=>rfl
 | a::g=>by
  have ih:=AR g
  show 2*#[kO,ZOF (#[xA,a]),qK g]=_
  rw[Zh,Y5,Nat.mul_add,ih,Zx]
  cases hn:g.length with
  | zero=>rfl
  | succ m =>
   show 2*Znl+Znl*m=(m+1+1)*Znl
   rw[ZMY 2,<-Nat.mul_add,aXW 2,Nat.mul_comm]
def bB.rl [423]:Za'c<=ZbB:=by
 have ok:=Zp4
 cases f with
 | pair a b=>show (1:Nat)<=ZbB;decide
 | line g=>show ZaT6<=ZbB;rw[List.length_zip];have:ZqL:=ok;lia
 | star g=>show #[aW,(Zs9 _)]<=ZbB;rw[Y5,ZI];have:ZqL:=ok;lia
 | all g =>
  have h:=AR g;have:ZqL:=ok;have:=#[F1,aXG,Zcl,Zfz-1<=59]
  show Zayc
  lia
 | quad a b c d=>show (6:Nat)<=ZbB;decide
def RD.succ [7][38]:∀ [69]{v:V}{d:Dt},RD K H n v d->RD K H ZdX v d
 | 0,_,_,h=>Zt4
 | _+1,_,_,Zt4=>Zt4
 | _+1,_,_,#[a1l,p]=>#[a1l,#[vr,p,ZOH z]]
def xD {g:Zbr}[42](hn:0<n)(hg:0<Zfz):¬ (#[aeN,Zfz,Zbk]=0/\Zj1 Zfz Zfz Zac=Zfz):=by
 rw[HT.sIx_nat]
 lia
def wg [314]{R:#[Xj,β]}{f:ZaaS}:∀ [180]{ps:ZdZ},#[kU,R,ts,Zkb,f]->Za0 (fun t p=>R t (f p)) ts ps
 | [],[],_=>Zan
 | [],Zdh,h=>nomatch h
 | Zdh,[],h=>nomatch h
 | Zdh,Zdh,ZaC a b=>ZaC a (wg b)
def Qh (a b:Zbp):(a.map Zar).zip (b.map Zar)=(a.zip b).map fun p=>ZaFd:=by
 rw[List.zip_map];rfl
structure BA where
 dx:Addr
 d1:Addr
 d2:Addr
 d3:Addr
abbrev Cg (a b c:V):ZoZ:=[(Zkc,a),(ZiY,b),(Zox,c)]
def Xu:#[aAG,ZiY]:=Zal
def Ym:#[aAG,Zox]:=Zal
def Yn:#[je,ZiY,Zox]:=Zal
def FY {a b c:V}:bW Zox c (bW ZiY b ZaUc)=Cg a b c:=by
 unfold Cg;simp only[bW];rw[Y8 Xu];simp only[bW];rw[Y8 Ym,Y8 Yn]
def Tw {a b:V}:bW ZiY b ZaUc=([(Zkc,a),(ZiY,b)]:ZoZ):=by
 simp only[bW];rw[Y8 Xu]
def Ej {a b c:V}:#[hU,ZLd,Zkc,a]:=by
 rw[<-FY,aE,Y8 Ym,aE,Y8 Xu,aE,ZaB]
def p7 {a b c:V}{m:Str}(q:¬ m=Zkc/\¬ m=ZiY/\¬ m=Zox):#[ft,ZLd] m=Zac:=by
 rw[<-FY,aE,Y8 q.2.2,aE,ZXg,aE,ZXf];rfl
inductive Pu [12]:Zaa
 | mk [302](_:#[ue,Za'c])
inductive Fy [12]:Zaa
 | mk [302](_:#[a'I,ZrO])
inductive Lo [12]:Zaa
 | mk (d:Int)(_:vs=[ZHc])(_:0<=d)(_:∀ (l:Addr)(rs:Zbp),Zgw->2<=ZCH->ZCH<=60->(∀ r∈rs,ZaUh)->#[acD,ZHV])
abbrev rS [244](k j:Nat):Bool:=if j<=k then false else #[cx,ZIz,#[lx,k=0],if ZIy then true else #[lx,j=k+1]]
abbrev Ey [244][283](x:Int):ZaQr
 | [],_=>[]
 | ZJ',j=>ZaoU
abbrev we [244][400]:ZaQr
 | [],_=>[]
 | ZcI,k=>Ey w k x g 0++we w g xs Zc6
def IN [329](h:#[aLg,k<j]):#[akv,Zabu=#[aVh,0].map ZxB]
 | [],_=>Za'd
 | ZJ',j=>by
  show ZaoU=_
  rw[IN h os ZdW]
  by_cases z:k<j
  ·rw[ZaPt,#[fN,k+1,ZdW,0],#[fN,k+1,j,0]]
   rfl
  ·rw[ZaQB,ZaZb]
   rfl
def N7 [329](h:∀ j,rS w k j=Zaz):#[akv,Zabu=[]]
 | [],_=>rfl
 | ZJ',j=>by
  show ZaoU=_
  rw[N7 h os ZdW,#[ao3,h j]];rfl
def Ky [329](h:#[aLg,j=k+1]):#[akv,Zabu=#[cx,j<=k+1,(#[aVh,0].take 1).map (ZxB),[]]]
 | [],_=>Za'd
 | ZJ',j=>by
  show ZaoU=_
  rw[Ky h os ZdW]
  by_cases z:j=k+1
  ·rw[ZaPt,Zns,ZHH,#[fN,k+1,j,0]]
   rfl
  ·rw[ZaQB]
   by_cases y:j<=k+1
   ·rw[ZHH,Y9 y,ZaZb]
    rfl
   ·rw[Zns,Y8 y]
    rfl
def Kj {g os:Zbp}{x:Int}{k:Nat}(e:Zdr k=Zz6):Zdr Zc6=os:=by
 rw[<-aQh,e];rfl
def KZ [400]:∀ [237][283],ZaIZ->we Zcm g os k=qK os
 | [],_,_=>rfl
 | Zz6,k,e=>by
  have e1:=Kj e
  show Ey Zcm k x g 0++#[abN,Zcm]=os.map (ZxB)++qK os
  rw[KZ g os Zc6 e1,ZaFR,Nat.sub_zero,e1];unfold rS;rw[ZaI9,ZaB]
  by_cases z:j<=k
  ·rw[ZeO];exact⟨fun q=>(by cases q),ZWs⟩
  ·rw[Zem];exact ZaRv
def G9 [400]:#[aLh,ZaIZ,Za',os.zip (os.drop 1)]
 | [],_,_=>rfl
 | Zz6,k,e=>by
  have e1:=Kj e
  show Ey Za' k x g 0++#[abN,Za']=#[aaW,0].zip os
  rw[G9 g os Zc6 e1,#[UE,Ky],Y9 (ZA _),Nat.sub_zero,e1]
  ·cases os<;>rfl
  ·unfold rS
   rw[#[ze,Za',Zcd],#[ze,Za',Zcm]]
   by_cases z:j<=k
   ·rw[ZeO];exact⟨fun q=>(by cases q),ZWs⟩
   ·rw[Zem];exact decide_eq_true_iff
def DD [400]:#[aLh,0<k,Zcd,[]]
 | [],_,_=>rfl
 | Zz6,k,h=>by
  show Ey Zcd k x g 0++#[abN,Zcd]=[]
  rw[DD g os Zc6 Zbdj,#[UE,N7]]
  ·rfl
  ·unfold rS
   rw[ZaB,ZqE];split<;>rfl
def ON:∀ g:Zbp,we Zcd g g 0=Zs9 ZKS
 | []=>rfl
 | Zz6=>by
  show Ey Zcd 0 x ZaaW 0++we Zcd ZaaW os 1=os.map ZxB
  rw[DD _ os 1 ZaY,ZaFR,aQg]
  ·rfl
  ·unfold rS
   rw[ZaB]
   by_cases z:j<=0
   ·rw[ZeO];exact⟨fun q=>(by cases q),ZWs⟩
   ·rw[Zem];exact ZaRv
inductive SS [12]:Zaa
 | mk [244](k j:Nat)(_:vs=[Zaf w,ZXd,ZzF])(_:Q (.bl (rS w k j)) H)
structure Yh [404][184]:Zaa where
 cl:HY K ck
 nF:#[qR,Zkc]
 nL:#[qR,ZiY]
 nR:#[qR,Zox]
 mF:#[b1,ZOI,ck]
#print Wz
namespace Qs
open PySem PySem.W PyProof.Rows
noncomputable abbrev Q4:=Int×Int×ZgI
abbrev q0:Q4:=(0,0,0,0)
abbrev YK (p q:Q4):Bool:=#[aTU,(p.2.1<ZpU\/(p.2.1=ZpU/\(ZX2<ZX3\/(ZX2=ZX3/\p.2.2.2<q.2.2.2))))]
abbrev Yy [138][252](p:Q4):Zaa:=∃ (b:Addr)(o:Obj)(n:Nat)(t1 t2 t3 t4:Tok),ZaNN/\Zeq/\ZyF/\o.data=Za2 #[Zag p.1 t1,Zag p.2.1 t2,Zag ZX2 t3,Zag p.2.2.2 t4] n
open Classical in
noncomputable def decQ (h:Heap) (v:Value):Q4:=if z:∃ p,Yy h v p then ZawX else q0
abbrev W4 [414](ps:Zbn Q4)(out:Zb'):Zaa:=#[a0j,q0,YK]
#print Qs
namespace L2
open PySem PySem.Spec PyProof.Rows
abbrev LH [389]:It:=#[aXg,Zac']
def HQ [191](it:Addr)[389]:#[bej,ZJE,(lo+ZsZ*2),2] where
 mem:=ZaA
 obj:=fun i h st b hb=>by
  have e:Zju:=ZcU
  subst e
  exact⟨_,st,fun v z=>by
   have z':ZaX2:=z
   cases z'⟩
 keep:=ZaKQ
 item:=by
  intro X hP hw hK hc i pins s σ H E I hf st hg;subst hP hw hK;obtain⟨f0,f1,f2,f3,f4,f5⟩:=ZeS;have W:=#[a0d,2];refine Za1n;obtain⟨t,rfl⟩:=hv;have I1:ZXY:=Zbcs;exact#[a1k,Zac',ZGd]
 done:=by
  intro X hP hw hK hc i pins s σ H E I hf st hg;subst hP hw hK;obtain⟨f0,f1,f2,f3,f4,f5⟩:=ZeS;exact Zbcq
 self:=Za_J
section
variable {X:Cx}{tg:Expr}
abbrev V3 (ta:TA):TI:=#[aPg,∃ i j:Int,vs=[Zdy,ZzF,Zag 2]/\(ZaBq<=i/\i<Zuo/\ZaBq<=j/\j<Zuo)/\R (LH i (ZCI i j 2).toNat) H1]
def nJ [181]:ZCI a b 2=#[aiD,a<b,(b-a-1)/2+1]:=by
 unfold Builtin.Range.rangeSize;rw[ZAk]
def MZ {a b:Int}(h1 : #[Ju,a])(h2:a<Zuo)(h3 : #[Ju,b])(h4:b<Zuo):Builtin.Range.small a b 2=Zae:=by
 unfold Builtin.Range.small;rw[nJ];simp only[Builtin.Range.rangeFitsLong,Z7,Bool.or_eq_true,aXz,aQ7,#[aon,(2:Int)],aQP];split<;>lia
def MT {pins:Ze0}{σ:St}{H:Hp}{s:Shared}{R:ZYl}{E:ZfE}{lo hi:Int}{t u v:Tok}{tk:Nat}(I:Zi6)(h1 : #[Ju,lo])(h2:lo<Zuo)(h3 : #[Ju,hi])(h4:hi<Zuo)
  (q:R (LH lo ZWi) H):wpAny Zw3 X.A ZaEQ Zags E { s with heap:=s.heap.push { cls:=Zve,data:=Za1 #[Ziu,Zir,ZAA] },toks:=tk }:=by
 refine #[aZG,MZ];have I1:aQ X pins σ H { s with heap:=s.heap.push { cls:=Zve,data:=Za1 #[Ziu,Zir,ZAA] },toks:=tk }:=ZaHD
 refine⟨(s.heap.push { cls:=Zve,data:=Za1 #[Ziu,Zir,ZAA] }).objs.size,[(s.heap.push { cls:=Zve,data:=Za1 #[Ziu,Zir,ZAA] }).objs.size],_,_,H,rfl,
  ZaFl,HQ _ lo ZWi,?_,Zdx,q⟩
 ·have e1:lo+Ztg*2=lo:=ZaA
  have e2:#[aML,ZaxH,2]:=#[a5v,nJ]
  show #[bei,(lo+Ztg*2),ZaxH,2]
  rw[e1,e2];exact Zct
 ·have e:b=(s.heap.push { cls:=Zve,data:=Za1 #[Ziu,Zir,ZAA] }).objs.size:=ZcU
  subst e;exact ZanW
def MO {a b c:Expr}[177](ha:PA X Zafb ta)(hs:#[DJ,Zafb,[#[jY,a],#[jY,b],#[jY,c]]]:=by rfl)(hs2:#[DJ,[b,c],[#[jY,b],#[jY,c]]]:=by rfl) :
  #[aUQ,Zafb,V3]:=by
 intro pins s σ H R I h;refine #[aVI,(aQe (bS Zany fun us s1 ⟨vs,H1,I1,r1,q1⟩=>?_) #[nf,hs,hs2] (#[bm,hs2]))];obtain⟨i,j,e,⟨q1,q2,q3,q4⟩,q⟩:=q1;subst e
 cases r1 with
 | cons r rr =>
  cases rr with
  | cons r' rr =>
   cases rr with
   | cons r'' rr =>
    cases rr;obtain⟨t,rfl⟩:=r;obtain⟨t',rfl⟩:=r';obtain⟨t'',rfl⟩:=r'';exact call_range_3 ZaY (MT I1 q1 q2 q3 q4 q)
#where
def IC {lo:Int}{n:Nat}{g:TG}{tb:TS}{D:nZ}{σ:St}{H:Hp}(Pv:Zlf)(h0:Znz)
  (hs:#[aOX,Zac']) (hd:#[Q4,n]) :
  ∃ W:ZjH,Zld/\∀ i m σ H,ZjF ->
   #[anF,ZJE,ZJE,ZJE]:=by
 refine ZafI;rintro i m σ H ⟨rfl,hi,p⟩
 by_cases hlt:i<n
 ·refine ZaPB
  obtain⟨e,y⟩:=y;subst e y;exact ZaVx
 ·have e:i=n:=Zad
  subst e;exact ZaDg
section
variable {prog:Program}{w:World}{A:Around}{R:Znr}{I:Addr}{fp wr:ZeZ}{n:Nat}{P:#[c2,Nat,Zb_]}{St:ZRE}
noncomputable abbrev V6 (I S:Addr)(d:Value):Code:=Zf_ Za'e ⟨[Zai I,Zay,Zai S],ZOK⟩
def Mp (W:ZagC)(bt:ZIJ)(cmp:Zagv)(d:Value)(S:Addr)(nS:S∉fp) :
  ∀ (m j:Nat)[154][252][214],m+ZdW=n->St ZdW ZaK->P (ZCJ bt j) v ->
  ZAK=some { cls:=ZdF,dict:=none,data:=Za2 #[v,v] c,slots:=#[] } ->
  (ZaXG)->ZaYo:=by
 have nW:S∉wr:=ZaNh
 have nm:Za'f:=Zaw
 intro m
 induction m with
 | zero =>
  intro j s v c e st pv hS k
  have e:j+1=n:=Zad
  refine Zabj;rw[ZabG]
  show ZbdX
  refine Zacg
  show Za'h
  refine #[a'k,(e▸st)];have hS1:=Zaf4
  show wpAny _ A.in1 (updateSeq S (fun _=>#[]) >>= _) _ _ _
  refine #[aPs,(Y6 (aXF (Zg ?_)))];exact k v _ t1 #[pI,e,pv] #[akw,#[atg,0].trans (ZaRP)]
 | succ m ih =>
  intro j s v c e st pv hS k;refine Zabj;rw[ZabG]
  show ZbdX
  refine Zacg
  show Za'h
  refine #[a'l,ZdW];have hS1:=Zaf4
  show Zcb _ ZiN (Za'g (ZN2 [u,u] (richCompare .Gt u v >>= _)) _ >>= _) _ _ _
  refine Y6 (Za'i (aQj (Y6 (cmp ZdW (ZCJ bt j) u v _ _ _ pu pv ?_))));refine Y6 (aQj (aQw ?_));refine #[k_,aXF,?_]
  cases q:bt ZdW (ZCJ bt j) with
  | true =>
   simp only[aQP];refine #[aPs,#[Gt,aXF]];rw[nm];refine #[Ke,ih ZdW _ u _ Zah ZaY' (by simp only[argBest,q,aQP];exact pu) ZaUO ZWR];exact k u2 h2 t2 p2 ZaSC
  | false =>
   simp only[aQ3,aXZ];refine Zaac;rw[nm];refine #[Ke,ih ZdW _ v c Zah st1 (by simp only[argBest,q,aQ3,aXZ];exact pv) hS1 ZWR];exact k u2 h2 t2 p2 #[auF,ZauK]
def IW (W:ZagC)(bt:ZIJ)(cmp:Zagv)(d:Value)(S:Addr)(nS:S∉fp){s:Shared}{c:Nat}(st:St 0 ZaK)
  (hS:ZAK=some { cls:=ZdF,dict:=none,data:=Za2 #[] c,slots:=#[] })
  (k0:n=0->#[Nb,(Zaup)->R (.ok (ZfZ d)) ZOh])
  (k:0<n->ZaXG):ZaYo:=by
 have nW:S∉wr:=ZaNh
 have nm:Za'f:=Zaw
 refine Zabj;rw[ZabG]
 show ZbdX
 refine Zacg
 show Za'h
 by_cases n0:n=0
 ·refine #[a'k,(n0▸st)]
  exact #[k_,Zakx,(k0 n0 _ t1 #[akw,ZaRP])]
 ·refine #[a'l,0]
  have hS1:=Zaf4
  show wpAny _ A.in1 (updateSeq S (fun _=>#[u,u]) >>= _) _ _ _
  refine Y6 (aQV hS1 rfl ?_);rw[nm];refine #[Ke,Mp W bt cmp d S nS (n-1) 0 _ u _ Zah ZaY' pu ZaUO ZWR];exact k Zah u2 h2 t2 p2 ZaSC
#where
def Nz (a d:Value):checkBuiltinCall ZjU ⟨[a],ZOK⟩=Zca ():=by kernel_rfl
section
variable {prog:Program}{w:World}{A:Around}{E:ZfE}{s:Shared}
def LQ {x d:Value}{Q:ZfE}
  (h:wpAny ZvX A.in1 Zazp (fun it s2=>∃ I fp wr n P St bt,it=Zai I/\ZagC/\ZaIG/\(ZAI)/\Zagv /\
   (n=0->#[Nb,(Za73)->Q d ZadC]) /\
   (0<n->∀ v h' tk,P (ZCJ bt (n-1)) v->(Za73)->Q v ZadC)) E s) :
  #[vY,#[aLL,[x],ZOK]]:=by
 have nm:Za'f:=Zaw
 refine aXL (ZaiV F.plain_max F.entry_max (ZN3 (Nz x d) ?_))
 show #[ED,Za0I]
 refine Y6 (ZN3 (#[eC,Za0I=Zca #[Se,d]]) ?_);refine #[y3,(ZN h (fun it s2 h2=>?_) ZSv)];obtain⟨I,fp,wr,n,P,St,bt,rfl,W,st,lt,cmp,k0,k⟩:=h2;refine #[mF,aQd];have nS:Zey∉fp:=#[aF,aXa _ (lt _ z)];rw[nm];refine #[Ke,IW W bt cmp d Zey nS (W.frame _ _ _ st fun b _ o e=>Zja) Zna (fun n0 h' tk hk=>?_) fun n0 v h' tk pv hk=>?_]
 ·exact k0 n0 h' tk ZaXH
 ·exact k n0 v h' tk pv ZaXH
#where
abbrev WN [1](ta:TA)(d:Int):TE:=#[ahe,ta,#[Cu,∃ (l:Addr)(ns:Zbp),vs=ZAn/\bN K H1 l Zym/\(ns=[]->Q Zaqj H1)/\∀ M,M∈ns->(∀ a∈ns,a<=M)->Q (Zag M) H1]]
def Ry {X:Cx}{a:Expr}{ta:TA}{d:Int}{p pos cp kp:Pos}{cj:Nat}(hc:ZfU)(hg:Gl X ZjU)(hm:#[tC,ZjU])(ha:Zac0)
  (he:#[amg,pos,[a],#[aX9,a,[]]]:=by rfl) (hplain:#[amd,[a]] (·.1)=false:=by rfl)
  (hall:#[aNT,0].all (·.1.isSome)=true:=by rfl) (hkw:#[aNT,0].any (·.1.isNone)=false:=by rfl) :
  PE X (ZcW (ZeT ZjU p) [a] ZauV pos) (WN X.K ta d):=by
 intro pins s σ H Q I h;refine #[V1,boot_max];refine callWith_kw Zanz he hplain hall hkw;obtain ⟨vs,H1,I1,r1,l,ns,e1,hq,q0,q⟩:=zz;subst e1;obtain⟨u,rfl,rx⟩:=iq r1;cases rx;refine kws_cons (Za45 (kws_nil ?_));have I2:#[b7,H1,{ s1 with toks:=ZrC+1 }]:=ZXa;obtain⟨its,rv,pl,hz⟩:=I2.list hq;have hl:=rv.length;rw[Y5]at hl
 show #[hI,#[aLL,ZAn,[(ZOJ,Zag d ZrC)]]]
 refine #[afn,LQ,Zht Zar,I2,(I2.ok.hd hc)]
 have val:Za0k:=fun i v e=>by
  have e:ZZG:=Zra
  have hi:ZaxX:=ZavV
  obtain⟨u,eu,ru⟩:=ZaW3;rw[e]at eu;cases eu;obtain⟨t,rfl⟩:=ru;exact ZaOa
 have hlt:l<Ze4:=by obtain⟨o,n,e,_⟩:=pl;exact Zb2
 refine⟨I',_,_,_,_,St,_,rfl,W,st,Zdx,CmpOf.ints_gt (ZNl) val,fun n0 h' tk k=>?_,fun n0 v h' tk hv k=>?_⟩
 ·rcases Zazg with z | z
  ·rw[z,hI,hs2];exact ZG'
  ·rw[ZcA,hs2];exact aQx hlt
 ·exact⟨ZHc,H1,ZLy,Za8,q0 (Za9l Zah)⟩
 ·obtain⟨t,rfl⟩:=val _ _ hv
  obtain⟨h1,h2⟩:=argBest_gt (ZNl) (ZYM);refine⟨ZgD,H1,ZLy,ZGd,q _ ?_ #[Ou,?_]⟩
  ·rw[aQ1,Zty];exact ZOL _
  ·obtain⟨j,hj⟩:=aQ8 ha
   have hjl:j<Zfn:=Zay1;have:=#[el,h2,j];rw[show ZNk j 0=a by rw[aQ1,hj];rfl]at this;exact this
def m5 [9][7][161]{sp:Sp}(no:#[Od,¬ Zjn]):ZaoQ :=
 ⟨#[akz,ZaKJ],#[a'm,ZaKJ]⟩
abbrev X5 [339]:TE:=#[ahh,#[aLi,ZaXy]]
def Jv [60][190][156][106]:#[a0q,X5]:=by
 intro pins s σ H Q I h;refine Zbd4;obtain ⟨x,H1,I1,rx,z,ex,hz,q⟩:=zz;subst ex;obtain⟨tk,rfl⟩:=rx;have sl:Za9n:=ZQ;exact #[aDm,⟨ZcL,H1,I1,Za8,q z hz⟩,⟨ZcL,H1,ZXa,Za8,q z hz⟩]
inductive MV [11]:Zaa
 | mk [158][182](ns:Zbo)[222](_:kvs.map (·.1)=Zht ZfY)(_:#[jK,ZazN])
def yA [60][112]:#[id,ZdE,MV]:=by
 intro pins s σ H xs us Q I r h;obtain⟨p,kvs,ns,rfl,hH,hk,q⟩:=h;obtain⟨u,rfl,rx⟩:=ZeR;cases rx;obtain⟨hz,lo,vs,rel,dd⟩:=ZaVj;obtain⟨ep,hat⟩:=dd.dictAt
 have hlk:ZaA7:=Zbea
 have hlv:ZiG:=Zk8;refine PySem.W.kdl_call (ZaZr) ZNX hat ZaN2 fun h' tk acc c' kp e hacc=>?_
 have hal:ZaKl:=ZaKD
 have rI:bF (Zht ZaJ) ZNf:=wH ZaKf fun i x v e1 e2=>by
  obtain⟨k,y,hx,hks⟩:=Zagc
  have e3:(vs.map (·.1))[i]? = Zab k:=ZaB5
  rw[<-rel.keys,hk,ZE]at e3;rw[ZE]at e1
  cases en:ns[i]? with
  | none=>rw[en]at e1;cases e1
  | some n =>
   rw[en]at e1 e3;have e1':ZaJ n=x:=ZIW;subst e1';have e4:(ZfY n:cQ)=k:=Zl e3;subst e4;have hks:Za4z n v=Zae:=hks
   cases v<;>first
    | (have hks:=Zn8 hks;subst hks;exact Za8)
    | (cases hks;done)
 refine#[tJ,#[KT,tk,kp,ZazN,⟨#[vP,Y5,hlk,hz],ZNf,c',rI,Zra⟩]]
section
variable {X:Cx}
open Classical in
theorem MD (n:Nat)(hu:ZagE):#[aht,(Wp X.K n Zae)]:=by
 intro pins s σ H x y v u Q I rx ry h;obtain⟨p,as,d,ds,rfl,hq,hx,hp,q⟩:=h;cases ry
 have hu':ZaaO:=Zaq7
 rcases hq with hq | hq
 ·obtain⟨its,r,pl,hz⟩:=Zvw
  obtain⟨h1,h2⟩:=ZLg;refine #[bdf,SeqAt.notIn_listAt];rw[List.any_toArray];exact ZIl
 ·obtain⟨its,r,pl,hz⟩:=Zn3
  obtain⟨h1,h2⟩:=ZLg;refine #[FS,SeqAt.notIn_tupleAt,_,pl,Zbdd];rw[List.any_toArray];exact ZIl
open Classical in
theorem Kc {pins:Ze0}{σ:St}{H:Hp}{s:Shared}{n:Nat}(I:Zi6){d:Dt}(e:Zb_->Zb3)(he:∀ a:ZeY,e ZbP=Zae↔Zaa_) :
  ∀ {as:ZeZ}{ds:ZkT}{us:Zb'},ZaP5->ZaR1->us.countP e=Za'n (#[cy,#[lx,x=d]])
 | _,_,us,Zan,r=>by cases r;rfl
 | a::as,c::ds,us,ZaC hc hp,r=>by
  cases r with
  | cons r1 r2 =>
   cases r1;rw[List.countP_cons,List.countP_cons,Kc I e he hp r2]
   congr 1
   by_cases z:c=d
   ·rw[Y9 ((he a).mpr (z▸hc)),ZJ1]
   ·rw[Y8 (#[bl,z (ZaiA I hc ((he a).mp q))]),ZaF8]
abbrev XZ [1][42](to te:TE):TE:=#[ahf,to,∃ p:Addr,x=Zcs/\(∃ xs,H1 p=Zab Zej)/\#[mU,te,#[a'o,RD K H2 n y d,RD K H2 n ZbP e]]]
open Classical in
theorem UH (K:PySem.W.Frag)(n:Nat){o e:Expr}{to te:TE}{apos cpos:Pos}(hu:ZagE)(ho:ZuK)(he:Zhk)(hK:ZuZ:=by rfl)(hbase:#[a5W,"count"]:=by rfl)
  (hfew:Zapn:=by rfl)
  (hline:Zlh:=by rfl) (hs:ZDM:=by rfl) (hplain:Zamc (·.1)=false:=by rfl) :
  #[D',"count",[e],(XZ K n to te)]:=by
 subst hK;intro pins s σ H Q I h;refine Za0e;obtain ⟨x,H1,I1,r1,p,ex,⟨xs,hp⟩,q1⟩:=zz;subst ex;cases r1;obtain⟨_,_,_,ob,e1,c1,m1,d1⟩:=#[aj6,p,Zej,ZNG p _ hp];refine⟨Zf2,"tuple.count",PySem.F.plainAttrs_tuple,PySem.F.slot_tuple_count,PySem.F.type_tuple_count,⟨ob,e1,c1⟩,fun a z=>?_,?_⟩
 ·cases z;exact⟨ob,e1,(Za'p d1).2⟩
 rw[hs];refine aQu (by show (false||Zamc (·.1))=false;rw[hplain]<;>rfl) ZZR;have hA:=az he bp hs cpos pins s1 σ H1 (fun vs H2=>match vs with | [y]=>(#[a'o,RD X.K H2 n y d,RD X.K H2 n ZbP e]) | _=>False) I1 ?_
 ·rw[hs]at hA
  refine bS hA fun us s2 zz=>?_;obtain ⟨vs,H2,I2,r2,q0⟩:=zz
  obtain⟨y,rfl⟩:∃ y,vs=[y]:=by
   match vs,q0 with
   | [y],_=>exact#[fK,y]
   | [],q=>exact q.elim
   | _::Zdh,q=>exact q.elim
  obtain⟨as,d,ds,hp2,hy,hpr,q⟩:=q0;obtain⟨u,rfl,ru⟩:=iq r2;obtain⟨its,r,pl,hz⟩:=I2.tuple (ZbL hp2)
  have hu':ZaaO:=Zaq7
  obtain⟨h1,h2⟩:=xc I2 hu' ru hy hpr r;have pl:s2.heap.IsTuple p ZbJ:=pl;obtain⟨⟨cls,dd,data,sl⟩,hoo,hcc,m,hdd⟩:=id pl;simp only at hcc hdd;subst hcc hdd;have e2:=Kc I2 (Zaq_) (fun a=>by rw[aXz];exact⟨fun ⟨b,eb,hb⟩=>by cases eb;exact hb,#[gc,#[ib,a,h]]⟩) hpr r;refine aXi F.slot_tuple_count #[dQ,hoo] F.entry_tuple_count (F.args_tuple_count_2 _ _) (SeqAt.tuple_countAt p ZbJ m dd sl u (Zaq_)) #[cr,hoo,#[Cv,Zbdd]];refine⟨Zag (its.toArray.toList.countP (Zaq_):Nat),H2,ZHb,Za8,q _ ZWS⟩
  show its.countP _=_
  rw[e2]
  exact Za'r fun x _=>#[a_,aXz,hf]
 ·show te σ H1 _
  exact q1
#where
#print L2
namespace Wz
open PySem L2
inductive ay where
 | pl (f:bB)
 | row [81]
 | back (f:ay)
 | name [244]
abbrev ay.word:ay->Str
 | Zen=>f.word
 | Zkd _=>"row"
 | Zoy _=>"back"
 | Zds _=>"name"
abbrev bB.dt:bB->Dt
 | ZDv=>.sq Zae [#[x9,Zb6],#[U9,a],#[U9,b]]
 | f=>#[Ks,ZdJ,.sq Zae (Zww ZaKU)]
mutual
noncomputable def ay.dt:ay->Dt
 | Zen=>f.dt
 | Zke=>#[Ks,ZaG,.sq Zae (ZiZ fs)]
 | Zoz=>#[Ks,ZaU,ZoA]
 | ZeP=>#[Ks,ZbH,#[x9,w]]
noncomputable def ay.dtL:Zb9->ZkT
 | []=>[]
 | Zfm=>ZoA::ZiZ fs
end
mutual
noncomputable def ay.names:ay->Zbo
 | .pl _=>[]
 | Zke=>ZcZ fs
 | Zoz=>f.names
 | ZeP=>[w]
noncomputable def ay.namesL:Zb9->Zbo
 | []=>[]
 | Zfm=>f.names++ZcZ fs
end
mutual
noncomputable def ay.len (e:Zz3):ZuL
 | Zen=>f.row.length
 | Zke=>ZJC
 | Zoz=>ZXQ
 | ZeP=>e w
noncomputable def ay.lenL (e:Zz3):Zb9->Nat
 | []=>0
 | Zfm=>ZXQ+ZJC
end
mutual
noncomputable def ay.rowF (e:ZYc):ay->ZeF
 | Zen=>f.row
 | Zke=>ZaC7
 | Zoz=>(ZCK e).reverse
 | ZeP=>e w
noncomputable def ay.rowL (e:ZYc):Zb9->ZeF
 | []=>[]
 | Zfm=>ZCK e++ZaC7
end
abbrev bR:Nat->Hp->#[Xj,ay]
 | 0,_,_,_=>False
 | _+1,H,p,Zen=>ZLu/\f.Ok
 | _+1,H,p,ZeP=>#[ff,#[sT,ZbH,ZHm]]/\Zfv<=100
 | n+1,H,p,Zoz=>∃ q,#[ff,#[sT,ZaU,Zs1]]/\bR n H q f
 | n+1,H,p,Zke=>∃ t as,#[ff,#[sT,ZaG,Zek]]/\#[mD,Zats]/\Zer<=100/\ZaeX
def bR.mono [16](s:ZLl):#[WT,ZJn]
 | 0,_,_,h=>h
 | n+1,p,Zen,h=>by
  refine#[fd,?_,h];have h:=h.1
  cases f with
  | pair a b=>exact s _ _ h
  | _=>obtain⟨q,e1,e2⟩:=h;exact⟨q,ZH8,ZYI⟩
 | n+1,p,ZeP,h=>#[fd,Zazk,h]
 | n+1,p,Zoz,h=>by
  obtain⟨q,e1,e2⟩:=h;exact⟨q,ZH8,ZakB s e2⟩
 | n+1,p,Zke,h=>by
  obtain⟨t,as,e1,e2,hl,e3⟩:=h;exact⟨t,as,ZH8,ZYI,hl,#[vr,e3,ZakB s z]⟩
def bR.hd [69][38][93]:ZaTa:=by
 cases n with
 | zero=>exact h.elim
 | succ n =>
  cases f with
  | pl f=>exact h.1.hd
  | name w=>exact#[aR,h.1]
  | back f=>obtain⟨q,e,_⟩:=h;exact Znn
  | row fs=>obtain⟨t,as,e,_⟩:=h;exact Znn
def RD.up [7][38]{n m:Nat}{v:V}{d:Dt}(h:RD K H n v d)(e:n<=m):RD K H m v d:=by
 induction e with
 | refl=>exact h
 | step _ ih=>exact ZOH ih
def NS [7][194]:RD K H 2 ZfL ZoA:=by
 have intsP:∀ [236],#[kU,(RD K H 0),(Zow Zar),Zow,ZaKU]:=fun gs=>by
  induction gs with
  | nil=>exact Zan
  | cons g gs ih=>exact ZaEW
 cases f with
 | pair a b=>exact #[FM,h,#[s',ZNU,ZNU,#[h8,ZNU]]]
 | _ =>
  obtain⟨q,e1,e2⟩:=h;exact #[atJ,ZNU,#[aUa,(intsP _)]]
def bR.rd [7][38]:#[WT,RD K H (2*n) ZfL ZoA]
 | 0,_,_,h=>h.elim
 | n+1,p,Zen,h=>#[Y_,(#[N6,RD K H 2 ZfL #[qN,0].dt,ZoB,NS h.1])]
 | n+1,p,ZeP,h=>ZCN (n:=1) #[bj,ZoB,#[FM,h.1,#[s',ZaOu,ZaOu,Zan]]] Zah
 | n+1,p,Zoz,h=>by
  obtain⟨q,e1,e2⟩:=h;refine ZCN (n:=2*n+1) ?_ Zah;rw[ay.dt];exact #[aJv,(bR.rd e2)]
 | n+1,p,Zke,h=>by
  obtain⟨t,as,e1,e2,_,e3⟩:=h;refine ZCN (n:=2*n+2) ?_ Zah;rw[ay.dt];refine #[aJv,#[aUa,?_]]
  have key:∀ [336][175],ZaeX->#[kU,(RD K H (2*n)),ZadH,ZiZ,fs]:=fun {as fs} pr=>by
   induction pr with
   | nil=>rw[ay.dtL];exact Zan
   | cons a _ ih=>rw[ay.dtL];exact ZaC (bR.rd a) ih
  exact key e3
def Kk:#[qc,ZiZ fs=Zkf ZoB]
 | []=>#[bm,ZiZ]
 | Zfm=>#[WH,ZiZ,Kk]
def vK (e:Zz3):#[qc,ZlU e fs=(Zkf (ay.len e)).sum]
 | []=>#[bm,ZlU]
 | Zfm=>#[cE,ZlU,vK e fs]
def Bb:#[aIW,ZcZ,ZOM]
 | []=>#[bm,ZcZ]
 | Zfm=>#[WH,ZcZ,Bb]
def oE (e:ZYc):#[qc,Zwx e fs=ZON (ZakC e)]
 | []=>#[bm,Zwx]
 | Zfm=>#[cE,Zwx,oE e fs]
def bB.dt_hd (f:bB):ZaZO:=by cases f<;>exact Za8
def ay.dt_hd (f:ay):ZaZO:=by
 cases f with
 | pl f=>obtain⟨t,e⟩:=f.dt_hd;exact⟨t,#[tb,ZoB]⟩
 | row fs=>exact ZXo
 | back f=>exact ZXo
 | name w=>exact ZXo
def ay.dt_word {f g:ay}(h:ZaHK):ZdJ=g.word:=by
 obtain⟨t,e⟩:=f.dt_hd;obtain⟨u,e2⟩:=g.dt_hd;rw[e,e2]at h;injection h with _ h;injection h with h _;injection h with h;exact ZHt
def AG:∀ {a b:Zbp},#[aTA,a.map]=#[aTA,b.map]->a=b
 | [],[],_=>rfl
 | [],Zdh,h=>by cases h
 | Zdh,[],h=>by cases h
 | x::a,y::b,h=>by
  rw[Zr,Zr]at h;injection h with h1 h2;injection h1 with h1;rw[ZoC h1,AG h2]
def bB.dt_inj {f g:bB}(h:ZaHK):f=g:=by
 obtain⟨t,e⟩:=f.dt_hd;obtain⟨u,e2⟩:=g.dt_hd
 have hw:ZdJ=g.word:=by
  have h2:=h;rw[e,e2]at h2;injection h2 with _ h2;injection h2 with h2 _;injection h2 with h2;exact ZrM h2
 have ne:∀ {a b:Str},a=b->a≠b->ZiM:=fun h n=>n h
 cases f<;>cases g<;>first
  | (dsimp only[bB.word]at hw;exact (ne hw ZkE).elim)
  | (simp only[bB.dt,bB.gs]at h
     injection h with _ h;injection h with _ h;injection h with h h2
     first
    | (injection h with h;injection h2 with h2 _;injection h2 with h2;rw[ZoC h,ZoC h2];done)
    | (injection h with _ h;rw[AG h];done)
    | (injection h with _ h;have h:=AG h;injection h with h1 h;injection h with h2 h;injection h with h3 h;injection h with h4 h;subst h1 h2 h3 h4;rfl))
mutual
theorem ay.dt_inj:∀ (f g:ay),ZoA=g.dt->f=g
 | Zen,g,h=>by
  have w:=ZHu
  cases g with
  | pl g=>rw[ay.dt,ay.dt]at h;rw[bB.dt_inj h]
  | row _=>exact #[oE,w,ZXP]
  | back _=>exact #[oE,w,ZWt]
  | name _=>exact #[oE,w,ZawV]
 | Zke,g,h=>by
  have w:=ZHu
  cases g with
  | pl g=>exact #[XN,g.nw.2.1]
  | row gs =>
   rw[ay.dt,ay.dt]at h;injection h with _ h;injection h with _ h;injection h with h _;injection h with _ h;rw[#[aRm,h]]
  | back _=>exact #[u2,ZaG,ZaU]
  | name _=>exact #[u2,ZaG,ZbH]
 | Zoz,g,h=>by
  have w:=ZHu
  cases g with
  | pl g=>exact #[XN,g.nw.1]
  | row gs=>exact #[u2,ZaU,ZaG]
  | back g =>
   rw[ay.dt,ay.dt]at h;injection h with _ h;injection h with _ h;injection h with h _;rw[ZakD f g h]
  | name _=>exact #[u2,ZaU,ZbH]
 | Zds z,g,h=>by
  have w:=ZHu
  cases g with
  | pl g=>exact #[XN,g.nw.2.2]
  | row gs=>exact #[u2,ZbH,ZaG]
  | back g=>exact #[u2,ZbH,ZaU]
  | name y =>
   rw[ay.dt,ay.dt]at h;injection h with _ h;injection h with _ h;injection h with h _;injection h with h;rw[ZHt]
theorem ay.dtL_inj:∀ (fs gs:Zb9),ZiZ fs=ZiZ gs->fs=gs
 | [],[],_=>rfl
 | [],Zdh,h=>by rw[ay.dtL,ay.dtL]at h;cases h
 | Zdh,[],h=>by rw[ay.dtL,ay.dtL]at h;cases h
 | Zfm,g::gs,h=>by
  rw[ay.dtL,ay.dtL]at h;injection h with h1 h2;rw[ZakD f g h1,#[aRm,h2]]
end
open Classical in
noncomputable def likeStep (acc:Zb9) (f:ay):Zb9:=if f∈acc then acc else acc++[f]
open Classical in
noncomputable def once (fs:Zb9):Zb9:=ZOO Zi0 []
open Classical in
theorem Bv:#[awq,Za99->(ZOO Zi0 acc).Nodup/\(∀ f,f∈ZOO Zi0 acc↔f∈acc\/ZIL)]
 | [],acc,h=>#[GK,h,ZaA]
 | g::fs,acc,h=>by
  rw[aQU]
  have st:#[aM5,0].Nodup/\∀ f,f∈Zi0 acc g↔f∈acc\/f=g:=by
   unfold likeStep;split
   ·rename_i m
    exact#[GK,h,⟨Zam,#[aF,Zai5 id fun e=>e▸m]⟩]
   ·rename_i m
    refine#[GK,#[aJJ,h,m (by rw[Zy0]at e;exact e▸ha)],ZaA]
  obtain⟨i1,i2⟩:=Bv fs ZaM5 st.1;refine#[GK,i1,?_];rw[i2,st.2,Zi];constructor
  ·rintro ((a | a) | a)
   ·exact Zam a
   ·exact #[mT,a]
   ·exact #[nx,a]
  ·rintro (a | a | a)
   ·exact #[Ai,a]
   ·exact #[YV,a]
   ·exact Zap a
def Rp [81]:#[aBl,0].Nodup:=(Bv fs [] aQo).1
def v9 [175][467]:f∈ZrP fs↔ZIL:=by
 have:=(Bv fs [] aQo).2 f;unfold once;simpa using this
open Classical in
theorem Kv (len:ZuL)(f:ay):∀ us:Zb9,us.Nodup->#[Av,#[gS,(Za8X)*ZqY]]=#[aiD,ZZZ,len f]
 | [],_=>rfl
 | ZqS,h=>by
  have nd:=ZXv;rw[Zr,aQy,Kv len f us nd.2]
  by_cases e:f=u
  ·subst e
   rw[ZaB,Y8 nd.1,Y9 Ze]
   lia
  ·rw[Zij]
   by_cases m:ZZZ
   ·rw[Y9 m,Y9 #[dM,m]];lia
   ·rw[Y8 m,Y8 (#[aF,ZaKG e m])];lia
open Classical in
theorem Dc (len:ZuL){us:Zb9}(nd:us.Nodup):#[qc,(#[OP,ZZZ])->#[Av,#[gS,ZakE (ZA_)*ZqY]]=ZaGA]
 | [],_=>by
  have:∀ us:Zb9,#[Av,#[gS,#[ayp,0].countP (ZA_)*ZqY]]=0:=fun us=>by
   induction us with
   | nil=>rfl
   | cons u us ih=>rw[Zr,aQy,ih];simp
  rw[this];rfl
 | Zfm,h=>by
  have ih:=Dc len nd fs #[eB,h g #[dM,hg]];have hs:=Kv len f us nd;rw[Y9 (h f Ze)]at hs
  have e:(ZlV #[gS,(f::fs).countP (ZA_)*ZqY])=ZlV #[gS,ZakE (ZA_)*ZqY+(Za8X)*ZqY]:=by
   refine aQr fun u _=>?_;rw[List.countP_cons,Nat.add_mul]
   by_cases z:f=u
   ·rw[ZeO,ZJ1]
   ·rw[Zem,ZaF8]
  have add:∀ (us:Zb9)(a b:ZuL),#[Av,#[gS,a u+b u]]=(ZlV a).sum+#[Av,b]:=fun us a b=>by
   induction us with
   | nil=>rfl
   | cons u us i2=>rw[Zr,Zr,Zr,aQy,aQy,aQy,i2];lia
  rw[e,add,ih,hs,Zr,aQy]
  lia
abbrev eZ [214]:Bool:=#[lx,97<=c/\c<123]
def Ui [214]:(!(Builtin.Str.occurrences #[da,ZrQ] ⟨#[c]⟩ 0 #[En,ZrQ] 1).isEmpty)=eZ c:=by
 rw[StrLaws.found_one]
 have e:#[GY,ZrQ]=ZaCT (·+97):=Zal
 rw[e];unfold eZ;rw[aQN,Zu];constructor
 ·rintro⟨k,hk,rfl⟩
  have:=ZaBw
  lia
 ·intro h
  exact#[aKx,c-97,Zad]
abbrev kindsL:Zbo:=[Zb6,Za',Zcd,Zcm,Zc0,ZaG,ZaU,ZbH]
abbrev gI [98]:Bool:=!#[lx,Zacu]&&#[lx,ZV3]&&Za's eZ
def vD [98]:∀ xs:Zbo,IM ZHs #[tU,Zrt]=#[lx,z∈xs]
 | []=>rfl
 | ZcI=>by
  have ih:=vD z xs;unfold IM at ih ⊢;rw[Zr,aQO,ih]
  by_cases e:z=x
  ·subst e
   rw[show Ix ZHs ZHs=Zae by simp[Ix],Zc Ze];rfl
  ·rw[show Ix (ZaJ x) ZHs=Zaz by simp[Ix];exact #[bl,e q.symm]]
   rw[Bool.false_or];exact ZOQ ⟨#[bl,Zd _ q],#[bl,(Zcw q).resolve_left e]⟩
def Di (xs:Zbo):(Zrt ZaJ).all qT=Zae:=ZM.mpr fun v hv=>by obtain⟨x,_,rfl⟩:=ZY7;rfl
structure BE where
 w:Str
 f:ay
 n:Nat
 r:ZeF
 p:Addr
 l:Addr
abbrev wW [30][244]:#[gh,BE]:=bs.find? #[cj,ZaMM]
abbrev gW [30][244]:Nat:=match Zlj with | Zab e=>e.n | none=>0
abbrev j3 [30][244]:ZeF:=match Zlj with | Zab e=>e.r | none=>[]
abbrev kg (e:BE):Bool:=#[lx,ZsG]
def jq (g:BE->V)[244]:∀ bs:Zcu,f8 (Zj5 #[cj,(Zxd,g e)]) ZaAY=(wW bs w).map g
 | []=>rfl
 | e::bs=>by
  have ih:=jq g w bs;unfold f8 wW at ih ⊢;rw[Zr,aQp,aQp]
  by_cases z:e.w=w
  ·rw[#[bh,#[lz,ZaOL],#[ug,z]],Zc z]
   rfl
  ·rw[#[bh,#[lA,ZaOL],Zb (#[bl,z (ZL9 q)])],Zb z]
   exact ih
def iC [20][274]{e:BE}(h:ZaJZ):e∈bs/\e.w=w:=by
 unfold wW at h;have:=List.find?_some (p:=fun e:BE=>ZaMM) h;exact⟨List.mem_of_find?_eq_some h,ZqT⟩
def jc [20][274]:ZaUu↔w∉bs.map (·.w):=by
 unfold wW;rw[List.find?_eq_none];constructor
 ·intro h m
  obtain⟨e,he,rfl⟩:=ZdI m;exact h e he (Zc rfl)
 ·intro h e he q
  exact h (ZlQ ⟨e,he,ZF q⟩)
def LM [20][274]{e:BE}(nd:(bs.map (·.w)).Nodup)(h:ZaJZ)(s:ZsG):wW ZaLI w=Zab e:=by
 induction bs with
 | nil=>cases h
 | cons x bs ih =>
  have nd2:=ZW.mp (show (x.w::bs.map (·.w)).Nodup from nd);unfold wW at h ih ⊢;rw[aQp]at h
  by_cases z:x.w=w
  ·rw[Zc z]at h
   cases h;rw[List.filter_cons_of_pos (by unfold kg;exact Zc s),aQp,Zc z]
  ·rw[Zb z]at h
   rw[aQC];split
   ·rw[aQp,Zb z];exact ZaUp
   ·exact ZaUp
structure gZ [150]:Zaa where
 ob:Zagt
 f1:#[aQ,Zeb,#[E8,#[gv,Zxc,e.p]]]
 f2:ZaRK
 f3:ZaTS
 fg:#[rR,bR 9 H e.p e.f]
 rw:ZbdA
 nd:(bs.map (·.w)).Nodup
 ln:#[Rq,100]
 d12:Zeb≠ZeD
 d13:Zeb≠Zhx
 d23:ZeD≠Zhx
def gZ.mono [330](x:ZRt)[110]:#[Vx,bs] :=
 #[agw,ZH9,s _ _ x.f1,Zazi,Zazj,(x.fg e he).mono ZavF,ZaN']
def Io {a b c:V}:#[hU,ZLd,ZiY,b]:=by
 rw[<-FY,aE,Y8 Yn,aE,ZaB]
def Nw {a b c:V}:#[hU,ZLd,Zox,c]:=by
 rw[<-FY,aE,ZaB]
abbrev bH [30](f:ay):Zaa:=∀ w∈f.names,w∈bs.map (·.w)
def bR.rds [7][38][69][336][175](hn:n<=9)(h:ZaeX):#[kU,(#[Sm,RD K H 18 ZbP e]),as,ZiZ,fs]:=by
 induction h with
 | nil=>rw[ay.dtL];exact Zan
 | cons a _ ih=>rw[ay.dtL];exact ZaY8
def bR.up [38]:#[WT,ZaBg]
 | 0,_,_,h=>h.elim
 | n+1,p,Zen,h=>h
 | n+1,p,ZeP,h=>h
 | n+1,p,Zoz,h=>by
  obtain⟨q,e1,e2⟩:=h;exact⟨q,e1,bR.up e2⟩
 | n+1,p,Zke,h=>by
  obtain⟨t,as,e1,e2,fl,pr⟩:=h;exact⟨t,as,e1,e2,fl,#[vr,pr,bR.up z]⟩
def bR.le [38]{n m:Nat}[93](hl:n<=m):#[xx,m]:=by
 induction hl with
 | refl=>exact h
 | step _ ih=>exact ih.up
def WW [244]:#[nD,ZIG,ZaU]:=#[DU,ZbH,ZaU]
def WX [244]:#[nD,ZIG,ZaG]:=#[DU,ZbH,ZaG]
def DW [244]:#[lz,#[dN,#[IG,0].word,ZbH]]:=#[WU,ZbH,ZbH]
def DT (f:ay):#[lz,#[dN,#[Ah,0].word,ZaU]]:=#[WU,ZaU,ZaU]
def DV (f:ay):#[nD,ZAh,ZbH]:=#[DU,ZaU,ZbH]
def D3 [81]:#[nD,ZakK,ZaU]:=#[DU,ZaG,ZaU]
def HS [81]:#[lz,#[dN,#[akK,0].word,ZaG]]:=#[WU,ZaG,ZaG]
def D4 [81]:#[nD,ZakK,ZbH]:=#[DU,ZaG,ZbH]
def DX (f:bB):#[nD,ZqN,ZaU]:=#[DS,ZWt]
def DZ (f:bB):#[nD,ZqN,ZaG]:=#[DS,ZXP]
def DY (f:bB):#[nD,ZqN,ZbH]:=#[DS,ZawV]
abbrev ay.inner:ay->Zb9
 | Zoz=>[f]
 | Zke=>ZrP fs
 | _=>[]
def om [20][175]:bH bs (Zkd fs)↔Zawr:=by
 unfold bH;rw[ay.names,Bb];constructor
 ·exact fun h f hf w hw=>h w (aXI.mpr ⟨f,hf,hw⟩)
 ·intro h w hw
  obtain⟨f,hf,hw⟩:=ZakF hw;exact h f hf w hw
def lT [20][467]:bH bs (Zoy f)↔ZcF:=by
 unfold bH;rw[ay.names]
def jy [20][274]:bH bs (Zds w)↔w∈bs.map (·.w):=by
 unfold bH;rw[ay.names];exact⟨#[gc,h w Ze],fun h v hv=>#[zr,Zcz hv]⟩
def Oc [20]{f:bB}:bH bs (.pl f):=by
 unfold bH;rw[ay.names]
 exact fun w hw=>by cases hw
def yH [20][467](n:∀ w,f≠ZeP):ZcF↔∀ u∈f.inner,ZadX:=by
 cases f with
 | pl f=>exact⟨fun _ u hu=>(by cases hu),#[bf,Oc]⟩
 | name w=>exact ZoD rfl (n w)
 | back f=>rw[lT];exact⟨fun h u hu=>#[zr,Zcz hu],#[gc,h f Ze]⟩
 | row fs=>rw[om];exact⟨#[aTq,v9.mp],#[aTq,v9.mpr]⟩
mutual
theorem ay.row_len {bs:Zcu}(ok:Zbdy):∀ f:ay,ZcF->ZDe->ZSo=ZDd
 | Zen,_,_=>#[a_,ZakC,ay.len]
 | ZeP,k,h=>by
  rw[ay.rowF,ay.len];rw[ay.len]at h;unfold j3 gW at *
  cases e:Zlj with
  | none=>exact #[arn,k]
  | some x =>
   rw[e]at h;exact ok x ZuW h
 | Zoz,k,h=>by
  rw[ay.rowF,ay.len,List.length_reverse];rw[ay.len]at h;exact Zwy ok f (lT.mp k) h
 | Zke,k,h=>by
  rw[ay.rowF,ay.len];rw[ay.len]at h;exact ZakG ok fs (om.mp k) h
theorem ay.row_lenL {bs:Zcu}(ok:Zbdy):#[qc,(Zawr)->ZaFt<=ZbB->#[aW,(Zwx (j3 bs) fs)]=ZaFt]
 | [],_,_=>#[cE,Zwx,ZlU]
 | Zfm,k,h=>by
  rw[ay.lenL]at h ⊢;rw[ay.rowL,Zh,Zwy ok f (k f Ze) Zah,ZakG ok fs (#[eB,k g #[dM,hg]]) Zah]
end
def KI {e:Zz3}:∀ [175][467],ZIL->ZXQ<=ZJC
 | g::fs,f,h=>by
  rw[ay.lenL];rcases ZzL with rfl | h
  ·lia
  ·have:=KI (e:=e) h;lia
def sf {e:Zz3}:∀ [219][81],ZlU e (ZrS i)<=ZJC
 | 0,fs=>ZaRy
 | _+1,[]=>ZaN
 | i+1,Zfm=>by
  rw[List.take_succ_cons,ay.lenL,ay.lenL];have:=sf (e:=e) i fs
  lia
open Classical in
noncomputable def cntF (fs:Zb9) (u:ay):Nat:=ZakE ZA_
def Qy (len:ZuL)[81]:((ZrP fs).map #[gS,ZAS*ZqY]).sum=ZaGA:=Dc len (Rp fs) fs fun f hf=>v9.mpr hf
open Classical in
theorem Tz {fs:Zb9}{u:ay}{c:Nat}(h:∀ g:Zas2,(∀ x,g x=Zae↔x=u.dt)->c=(ZiZ fs).countP g):c=ZAS:=by
 rw[h (#[cy,#[lx,x=u.dt]]) (#[cy,decide_eq_true_iff]),Kk,List.countP_map];unfold cntF;refine Za'r fun f _=>?_
 show #[lz,ZoA=u.dt]↔#[lz,f=u]
 rw[decide_eq_true_iff,decide_eq_true_iff];exact⟨#[cj,ZaA0],#[cj,#[d9,e]]⟩
def Tx [81](u:ay):ZAS<=Zer:=by unfold cntF;exact List.countP_le_length
open Classical in
theorem OI (fs:Zb9):#[aX,ZrP,fs]<=Zer:=by
 have key:#[awq,#[bd,(ZOO Zi0 acc),#[Wp,Zer]]]:=fun fs=>by
  induction fs with
  | nil=>exact fun acc=>ZaN
  | cons f fs ih =>
   intro acc;rw[aQU];have:=ih (Zi0 acc f)
   have:#[bd,(Zi0 acc f),ZawT]:=by unfold likeStep;split<;>simp
   rw[Zx]
   lia
 have:=key fs [];unfold once;simpa using this
def HI:#[zz,#[Z4,ZyM]=#[a3,l.sum]]
 | []=>rfl
 | Ziq=>by rw[Zr,aQy,aQy,HI l];lia
inductive Pw [12]:Zaa
 | mk [158][42](f:ay)[63](_:n<=9)(_:ZaBg)(_:#[awc,Zgw->ZbU->ZaCr->Za0 (bR n H') as f.inner->Q Zeh H'])
inductive Li (C cU:Addr)[55]:Zaa
 | mk (b:Addr)(A:BA)[30][244](_:vs=[Zai b,ZHm])(_:ZRt)(_:ZJv)(_:∀ e,wW bs w=Zab e->Q #[aj,e.p] H)(_:ZaUu->#[w9,cU])
inductive DJ (C cU:Addr)[42][55]:Zaa
 | mk [101](_:ZRt)[209](_:ZcF->ZAc)(_:ZaGM)
abbrev ND [316]:Zaa:=#[vn,Zim->(∀ kv,o≠ZrT kv)->ZAl]
def SA [16][110]:Zuk:=#[aws,s]
def EN [38]{d:Addr}[367]{o:HO}(h:#[sE,ZXW]):ND H #[bt,d,o]:=fun a u e n=>by
 rw[ai (fun z=>by rw[z,h]at e;cases e;exact ZYD)];exact e
def ND.trans {H H' H2:Hp}(s:Zuk)(t:ND H' H2):ND H H2:=#[aSu,s]
def bR.nd [16][69][93](s:Zuk):ZJn:=h.mono fun _ _ z=>s _ _ z fun _ q=>nomatch q
def cR.nd [401](s:Zuk):ZaaN:=by
 obtain⟨as,h1,p⟩:=h;exact⟨as,s _ _ h1 (fun _ q=>nomatch q),Paired.mapP p fun a q z=>s _ _ z fun _ q=>nomatch q⟩
structure Vt [150]:Zaa where
 ob:Zagt
 f2:ZaRK
def Vt.mono [330](x:Zaah)[110]:Vt C H' b A bs:=⟨ZH9,Zazi⟩
structure Vj [150]:Zaa where
 ob:Zagt
 f3:ZaTS
 rw:ZbdA
 nd:(bs.map (·.w)).Nodup
def Vj.mono [330](x:Zaai)[110]:Vj C H' b A bs :=
 ⟨ZH9,Zazj,#[OR,#[fd,ZaN',ZR6]],x.nd⟩
def Ka {C:Addr}{H H':Hp}{b:Addr}{A:BA}{bs:Zcu}{x:BE}(B:ZRt)(nd:Zuk)(hw:x.w∉bs.map (·.w))(f1:#[b0,Zeb,#[arq,#[gv,ZAN,x.p]]])
  (f2:#[b0,ZeD,#[aqw,(ZAN,Zar x.n)]]) (f3:#[b0,Zhx,(.dK (ZaM_++#[x_,ZmR,#[gv,ZAN,x.l]]))])
  (fg:bR 9 H' x.p x.f) (rw':ZmR->cR H' x.l x.r/\ZaHL) (ln:ZRr):ZaG8:=by
 refine⟨nd _ _ B.ob (fun _ q=>nomatch q),#[xE,f1],#[xE,f2],?_,?_,?_,?_,ZuT,B.d12,B.d13,B.d23⟩
 ·rw[f3,aQM,Zp]
  by_cases c:ZmR
  ·rw[Zt1,List.filter_cons_of_pos (by unfold kg;exact Zc c)];rfl
  ·rw[ZtY,List.filter_cons_of_neg (by unfold kg;rw[Zb c];decide)];rfl
 ·intro e he
  rcases ZqP with z | z
  ·exact (B.fg e z).nd nd
  ·rw[ZcA];exact fg
 ·intro e he h
  rcases ZqP with z | z
  ·exact#[fd,#[aNE,0].1.nd nd,ZaNE]
  ·rw[ZcA]at h ⊢;exact rw' h
 ·rw[Zp]
  refine #[aJJ,B.nd,?_];rw[List.map_singleton,Zf]at hb;subst hb e;exact hw ha
inductive xV [54][42][12]:Zaa
 | mk [101](_:Zaah)[209](_:ZcF)(_:#[w_,ZaV'])
inductive sw [54][42][12]:Zaa
 | mk [101](_:Zaai)[209](_:ZcF)(_:ZDe)(_:Za'J)
inductive Fu [397]:Zaa
 | mk (b dx:Addr)(_:#[nv,b])(_:#[cp,ZAm])(_:∀ (A:BA)(H':Hp),(#[vo,Zim,b,ZAl])->#[Vx,[]]->#[dT,#[aZ,Zeb],#[aZ,ZeD],#[aZ,Zhx],ZaH])
inductive DO where
 | done | bad | taken | unknown
open Classical in
noncomputable def defO (bs:Zcu) (w:Str) (f:ay):DO:=if ZaN4 then .bad else if w∈bs.map (·.w) then ZOS else #[Wu,ZcF,ZOT]
abbrev Ti [150][244](f:ay)[158](R:ZjE):Zaa:=∀ (x:BE)(H':Hp),x.w=w->x.f=f->x.p=p->ZabB->Zae5->ZaG8->(#[vn,Zim->ZaAa->ZaAb->a≠Zhx->ZAl])->R H'
inductive BZ (C cU cB cT:Addr)[55]:Zaa
 | mk (b p:Addr) (A:BA) (bs:Zcu) (w:Str) (f:ay) (h_0:vs=[Zai b,ZHm,Zcs]) (h_1:ZRt) (h_2:ZIN) (h_3:Zt8) (h_4:ZJv) (h_5:ZRr)
  (h_6:Zy7->Ti C H b A bs w f p (Q ZaH)) (h_7:ZgT bs w f=.bad->#[w9,cB]) (h_8:ZgT bs w f=ZOS->#[w9,cT]) (h_9:ZgT bs w f=ZOT->#[w9,cU]):BZ C cU cB cT vs H Q E
structure Xj [404](cS cU ck cB cT kd:Addr):Zaa extends Yw K mg cS where
 f:Yh K mg ck
 mp:∃ u,#[au,mg Za't,u]/\bE (Zag ZbB) u
 ml:Zbb4
 mt:Zbb6
 mkd:ZaMX
 kd:#[GS,#[ab4,kd,#[aqH,bF (ZOU ZaJ) ZCO]]]
 eU:eW K cU
 mU:#[b1,Za'u,cU]
 eB:eW K cB
 mB:#[b1,Za'v,cB]
 eT:eW K cT
 mT:#[b1,"Taken",cT]
 bb:Za8k
 tb:#[a8a,cT,cB]
 tt:Za8l
 ub:Za8g
 ut:#[a8a,cU,cT]
 uu:Za8i
abbrev Tk [5][184]:Zaa:=#[arL,ck,ZfC,(Fu ck),ZfC]
def UF [60]{ck:Addr}{p pos:Pos}(M:#[LJ,Tk,ck])(U:Yh X.K ZcJ ck)(hr:ZJj)(hg:Gl X ZOI):#[afX,ZOI,ck,(Fu ck)]:=by
 obtain⟨fI,fd,M,G,hb⟩:=M;exact #[agA,U.mF]
#print Wz
namespace L2
open PySem PySem.Spec PyProof.Rows
def py [60]{x j p}[444]{t:TA}(hr:ZID):PA X (Zkg ZYr j p::es) (mD (tC (Zaf x)) t):=az ak hr rfl
#print L2
namespace Wz
open PySem L2
def Ol [274]{c:Nat}:(w++⟨#[c]⟩:Str).length=ZawS:=by
 rw[dN,eG,Zh,<-dN];rfl
def o8 {b:Bool}{p q:Zaa}(h1:b=Zae->p)(h2:b=Zaz->q):if b=Zae then p else q:=by
 cases b
 ·exact ar (h2 rfl)
 ·exact aM (h1 rfl)
def ph:∀ a b:Zb9,ZcZ (a++b)=ZcZ a++ZcZ b
 | [],b=>#[bm,ZcZ]
 | f::a,b=>by rw[aXe,ZcZ,ZcZ,ph a b,aQb]
def GG [219][81]:#[hC,ZcZ,ZrS,i]<=ZaL7:=by
 conv=>rhs;rw[<-ZakH i fs,ph,Zh]
 lia
inductive HC [12]:Zaa
 | mk [158][42][424](_:(∃ g,f=.pl g)\/ZacA)(_:∀ H' k,ZbU->Q (.bl k) H')
inductive sv [42][12]:Zaa
 | mk [158][424](_:Za'w<=ZbF)(_:#[a'H,#[g5,f.names.map]])
abbrev Ea [32](t:Addr)[454]:Zaa:=∃ p,#[mD,#[zM,x.2]]/\bR x.2 H p x.1
abbrev p9 [454]:Zaa:=1<=x.2/\x.2<=7/\(x.2=1->(∃ g,x.1=.pl g)\/∃ w,x.1=Zds w)
abbrev R9 [454]:Nat:=if ZpX then 20 else Zawt
abbrev Cj:ZaFF
 | []=>0
 | ZcI=>R9 x+ZuH
abbrev Qr [32](s:Addr)(xs:ZkZ):Zaa:=∃ ts:ZeZ,#[aQ,s,ZIn]/\ZafR
def Ea.mono [16]{t:Addr}[261](h:Ea H t x)[205]:ZaQM:=by
 obtain⟨p,e1,e2⟩:=h;exact⟨p,ZH8,ZakI s⟩
def wJ:∀ a b:ZkZ,Cj (a++b)=Cj a+Cj b
 | [],b=>#[f7,aXN,Cj]
 | x::a,b=>by rw[aXe,Cj,Cj,wJ a b];lia
def p9.few [261](h:ZpK):Zawt<=R9 x:=by
 unfold R9;split
 ·rename_i e
  rcases Ztv e with ⟨g,z⟩ | ⟨w,z⟩
  ·rw[z,ay.names];simp
  ·rw[z,ay.names];simp
 ·exact ZaN
def xY:∀ xs:ZkZ,ZR'->(ay.namesL (xs.map (·.1))).length<=ZuH
 | [],_=>#[cB,Za'y,ZcZ,Zce]
 | ZcI,h=>by
  have ih:=xY xs ZQT;have:=#[Ay,0].few;rw[Zr,ay.namesL,Zh,Cj]
  lia
def N9 [288][303]:∃ ps:ZeZ,Za0 (fun t p=>∃ n:Int,#[mD,#[zM,n]]) ts ps/\Paired (bR 7 H) ps (xs.map (·.1)):=by
 induction h with
 | nil=>exact⟨[],Zan,Zan⟩
 | cons a _ ih =>
  obtain⟨ps,p1,p2⟩:=ih #[anQ,ok];obtain⟨p,e1,e2⟩:=a;exact⟨Zhj,ZaC Zaxf p1,ZaC (e2.le (ok _ Ze).2.1) p2⟩
abbrev Nq (s:Addr)[316]:Zaa:=#[vo,Zim,s,ZAl]
def AL {s:Addr}[16](h:ZbU):ZabY:=#[aws,h]
def Nq.trans {s:Addr}{H H' H2:Hp}(h:ZabY)(t:Nq s H' H2):Nq s H H2:=#[aSu,h]
def zK {s:Addr}[38]{o:HO}:Nq s H #[bt,s,o]:=fun a u e n=>#[ch,n,e]
def Nq.tup {s:Addr}[16][455](h:ZabY)(e:#[aQ,s,Zax4]):ZLk:=fun b ys z=>h b _ z fun q=>by rw[q,e]at z;cases z
def Pp [16]{s t:Addr}[180][39][261](pr:ZafR)(up:ZLk)(hs:#[b0,s,ZaB'])(it:ZaQM):Qr H' s ZaIo :=
 #[aWt,#[xE,hs],ZaFP,it]
def OH [39][261](h:∀ y∈xs,p9 y)(hx:ZpK):#[jZ,xs++[x],p9 y]:=fun y hy=>by
 rcases ZIh with z | z
 ·exact h y z
 ·rw[ZcA];exact hx
def yO [81]:#[zu,#[aX,ZcZ,Zaav]=k*ZaL7]
 | 0=>by rw[Za'z,Za'A,ZcZ,Za'B];rfl
 | k+1=>by rw[aQi,aQk,ph,Zh,yO fs k,Za'C,aXW]
def yS [131][273](p:ZKX):#[zu,Za0 F #[Rn,l] #[Rn,m]]
 | 0=>Zan
 | k+1=>by rw[aQi,aQi,aQk,aQk];exact bI p (yS p k)
def xq [314](f:ZaaS)[441]:#[zu,#[Rn,ZazM]=(#[Rn,l]).map f]
 | 0=>rfl
 | k+1=>by rw[aQi,aQi,aQk,aQk,Zp,xq f l k]
def HU:#[aTr,Cj,20]
 | [],_=>rfl
 | ZcI,h=>by
  rw[Cj,HU ZQT,Zx];unfold R9;rw[Y9 ZAy]
  lia
def Bc:∀ [39],ZR'->ZaCJ->(ay.namesL (xs.map (·.1))).length<=xs.length
 | [],_,_=>#[cB,Za'y,ZcZ,ZaN]
 | ZcI,ok,h=>by
  have ih:=Bc (#[QS,ok]) ZQT;rw[Zr,ay.namesL,Zh,Zx];rcases #[aBC,0].2.2 (h x Ze) with ⟨g,z⟩ | ⟨w,z⟩
  ·rw[z,ay.names];simp only[List.length_nil];lia
  ·rw[z,ay.names];simp only[ZS];lia
def Vh [39]{k d:Nat}[303](hd:2<=d)[304]:R9 (Zkd (List.replicate k (xs.map (·.1))).flatten,d)<=ZuH:=by
 unfold R9;rw[#[asL,¬ d=1]]
 show #[aBz,ZakJ]
 rw[ay.names,yO];rcases hk with rfl | ⟨hk,h1⟩
 ·rw[Nat.one_mul];exact ZaJy
 ·rw[HU h1]
  exact aXG hk (Bc ok h1)
def AS [78][441][283]:#[aIY,l,Zcc]:=by
 rw[List.length_flatten,List.map_replicate,List.sum_replicate_nat]
noncomputable abbrev FP:=ZeY×ZeY×(ay×Nat)
abbrev Tl [32](u:FP):Zaa:=#[aQ,u.1,#[cS,[ZW_,Zag ZtE]]]/\bR ZtE H Zyy ZF4
def Tl.mono [16]{u:FP}(h:ZVQ)[205]:Tl H' u:=⟨Zazk,h.2.mono s⟩
def QU [288]:∃ us:ZW7,ts=us.map (·.1)/\xs=us.map (·.2.2)/\#[rU,ZVQ]:=by
 induction h with
 | nil=>exact⟨[],rfl,rfl,fun u hu=>nomatch hu⟩
 | cons a _ ih =>
  obtain⟨us,rfl,rfl,h⟩:=ih;obtain⟨p,e1,e2⟩:=a;exact#[ed,(_,p,_)::us,rfl,#[i1,(Zcw hu).elim (#[cj,by rw[e];exact⟨e1,e2⟩]) (h u)]]
def zM [38]:∀ {us:ZW7},ZaHH->Paired (Ea H) (us.map (·.1)) (us.map (·.2.2))
 | [],_=>Zan
 | ZqS,h=>ZaC #[bN,(h u Ze).1,ZaKv] (zM ZaKZ)
def Kn [38]{M:Nat}:∀ {us:ZW7},ZaHH->(#[rU,ZtE<=M])->Paired (bR M H) (us.map (·.2.1)) (us.map (·.2.2.1))
 | [],_,_=>Zan
 | ZqS,h,k=>ZaC (#[aKv,0].le (k u Ze)) (Kn (ZaKZ) #[OV,k v ZasO])
def LK {K:PySem.W.Frag}{te:TE}{Qf:ZjE}{lr q:Addr}{α:ZjL}(g:α->V){rs:ZdZ}{rest:L2.St}{H:Hp}(hq:Zt5)(h1:ZaTR)(hlen:ZaA2)
  (ht:#[a0m,∀ H5 b,aD HK H5->Q' (.bl b) H5]) (k:∀ (HK:Hp)(bs:ZzC),ZeK->ZaG9->Qf HK) :
  ZaJ9:=by
 refine #[a0Y,#[di,∃ (v:Zgi)(bs:ZzC),σ=v::ZcV/\ZeK/\ZaG9/\Zru=i],#[p3,Zac,[],ah hq,ac,rfl],#[jd,ZLz,#[m8,h1]]]
 ·rintro i y σ HK hi ⟨v,bs,rfl,t1,hq2,bl⟩
  obtain⟨r,hr0,rfl⟩:=ZbI;have hil:Zax0:=Zay2;refine #[a01,fun H5 b s5=>⟨_,ZaqD,Zqk,_,bs++[b],rfl,ZaqW,?_,#[Uz,bl]⟩];rw[ac,Zp];rfl
 ·rintro σ HK ⟨v,bs,rfl,t1,hq2,_⟩
  exact k HK bs t1 hq2
def se [20][467]:(f.names.map fun z=>decide (z∈bs.map (·.w))).all id=true↔ZcF:=by
 unfold bH;rw[List.all_map,ZM];exact⟨#[aTs,ZF],#[aTs,Zc]⟩
def Il [20][301]{g:BE->V}:#[ho,((wW bs z).map g)]=decide (z∈bs.map (·.w)):=by
 cases e:wW bs z with
 | none=>rw[Zb (ZOW e)];rfl
 | some x=>rw[Zc (ZlQ ⟨x,ZuW,ZaKt⟩)];rfl
def Ld [7][38][221]{ws:Zbo}(h:#[aQ,l,ZtD]):RD K H 1 Zeh (.sq Zaz (ZiW fun w=>#[x9,w])):=by
 refine RD.lst (Zbs h) ?_;clear h
 induction ws with
 | nil=>exact Zan
 | cons w ws ih=>exact ZaEW
structure Xk [404](cS cU ck cB cT kd cL:Addr):Zaa extends Xj K mg cS cU ck cB cT kd where
 eL:eW K cL
 mL:#[b1,Za'D,cL]
 lu:Za8h
 ll:Za8m
def uA [345]:ZaWc:=by
 unfold gI at h;rw[Z7,Z7]at h;exact ZF h.1.2
def OB [345]:Zt8:=by
 unfold gI at h;rw[Z7]at h;refine Aj Zie;have:=#[Ug,h.2];unfold eZ at this;have:=ZqT
 lia
def Q3 {d:Int}(h0:0<=d)(h:d<26):∃ c,ZZL/\FL ZaTo d=Zab c:=by
 have e:ZaTo=ZaCT (·+97):=Zal
 obtain⟨n,rfl⟩:=aQQ h0;refine⟨n+97,by unfold eZ;exact ZXU,?_⟩;rw[e];refine aN (j:=n) ?_;rw[ZE,ZXV];rfl
def Mj [274]{c:Nat}[371](h:ZZL):(w++⟨#[c]⟩:Str).cps.toList.all eZ=true:=by
 have e:(w++⟨#[c]⟩:Str).cps.toList=Za_y++[c]:=eG w ⟨#[c]⟩;rw[e,List.all_append,a];simp[h]
def Wd [274][371](l:Zfv<=12)(h:w∉(#[ez,""]::Zwz)):Zhg:=by
 have h0:w≠"":=ZaXo;have h1:w∉Zwz:=#[cj,h #[dM,e]];unfold gI;rw[Zb h1,a,Zc (#[bh,ZaWc,#[m1,l]])]
 ·rfl
 ·by_cases z:Zfv=0
  ·refine #[oE,?_,h0]
   have e:w.cps = #[]:=Za'E z
   cases w with
   | mk cps=>exact Z6 Str.mk e
  ·lia
inductive SU [12]:Zaa
 | mk [462](_:#[aLk,Zhg])
def gZ.l [245]:Zaah:=⟨Zkh,B.f2⟩
def gZ.r [245]:Zaai:=⟨Zkh,B.f3,B.rw,B.nd⟩
inductive PL (C cU cL:Addr)[55]:Zaa
 | mk (b p:Addr) (A:BA) (bs:Zcu) (f:ay) (h_0:ZaIE) (h_1:ZRt) (h_2:ZIN) (h_3:ZaGM) (h_4:ZcF->ZDf->#[w9,cL])
  (h_5:ZcF->ZDe->Za'J):PL C cU cL vs H Q E
structure iX [32][394][30](tv:ZeQ):Zaa where
 h:#[sE,#[E8,(Zxc,Zsw)]]
 r:#[rR,#[aSb,tv e.w=Zk2/\cR H l e.r/\Zbdz,tv e.w=ZaH]]
def iX.mono [16][46][110]:ZaeQ :=
 ⟨Zazh,fun e he=>⟨fun h=>(let ⟨l,e1,e2,e3⟩:=ZLc h;⟨l,e1,ZakI s,e3⟩),Zadx⟩⟩
def iX.get [38][46][244]:eE H d ZjC ((wW bs w).map #[cj,Zsw]):=by
 rw[<-jq];exact #[mw,Zmn,x.h]
def iX.okr [38][46]:Zbdy:=fun e he h=>(let ⟨_,_,_,e3⟩:=ZLc h;e3)
inductive uR [42][12]:Zaa
 | mk (p d:Addr) (bs:Zcu) (tv:ZeQ) (f:ay) (h_0:vs=[Zcs,Zm5]) (h_1:ZEF) (h_2:ZFA) (h_3:ZcF) (h_4:ZDe->#[a'F,ZbU->cR H' l ZCL->Q Zeh H'])
  (h_5:ZDf->ZAc):uR n vs H Q E_
def iX.snoc {H H':Hp}{d:Addr}{bs:Zcu}{tv:ZeQ}{x:BE}{v:V}(td:ZEF)(nd:Zuk)(hw:x.w∉bs.map (·.w))(h:#[b0,d,#[Ej,ZEO,(ZAN,v)]])
  (r:(ZmR->∃ l,v=Zk2/\cR H' l x.r/\ZaHL)/\(ZaBO->v=ZaH)):iX H' d ZFF #[bZ,if z=x.w then v else tv z]:=by
 have ne:#[rR,(#[zA,e.w,Zsw])=tv e.w]:=#[rI,Y8 #[bl,hw (ZlQ ⟨e,he,q⟩)]];refine ZaCj
 ·rw[h,Zp]
  congr 3
  ·exact aQr #[rI,#[d9,ne e he]]
  ·rw[List.map_singleton,ZaB]
 ·rcases ZqP with z | z
  ·show #[aSb,(#[zA,e.w,Zsw])=Zk2/\_,(#[zA,e.w,Zsw])=ZaH]
   rw[ne e z];exact⟨fun h=>(let ⟨l,e1,e2,e3⟩:=(td.r e z).1 h;⟨l,e1,e2.nd nd,e3⟩),(td.r e z).2⟩
  ·rw[ZcA]
   show (ZmR->∃ l,(#[zA,x.w,tv x.w])=Zk2/\_)/\(ZbB<x.n->(#[zA,x.w,tv x.w])=ZaH)
   rw[ZaB];exact r
def sk [189][214]:∀ [311],ZaUm->Zrf<=k->Zoq<=1 ->
  (forIn Zbc' (arr,free) (StrLaws.occBody x ⟨#[c]⟩ x.length 1)).run.fst.toList=Za_j++(Zbda (ZaEp)).take (1-Zoq)
 | 0,k,arr,free,_,_,_=>ZaA
 | m+1,k,arr,free,h,hf,ha=>by
  rw[List.range'_succ,aXq,aQC];have so:=ZaNr;unfold StrLaws.occBody
  by_cases z:ZaBa
  ·have s2:=ZawY
   rw[ZJ1]
   by_cases a1:Zoq<1
   ·rw[#[aZB,a1]]
    have ih:=sk x c m Zc6 ZaAi (k+(⟨#[c]⟩:Str).length) Zah Zbu Za_5;refine Zait
    have e0:Zoq=0:=Zad
    have e1:arr = #[]:=Za'E e0;rw[e1];simp
   ·rw[Y8 (#[bl,a1 #[pw,0].1])]
    have e0:Zoq=1:=Zad
    have ih:=ZaSH;refine Zait;rw[e0];simp
  ·rw[ZaX0,ZaF7]
   exact ZaSH
def DA [189][214]:Builtin.Str.occurrences x ⟨#[c]⟩ 0 x.length 1=#[aMt,0].take 1:=by
 rw[StrLaws.occ_eq,sk x c _ 0 #[] 0 Zah Zbu ZaY];have:=Za0x;rw[show #[bdb,0,(ZFt-0)] (ZaEp)=ZaIk by simpa using this];simp
abbrev bV [214][34]:Zbq×Zbq×Zbq:=match ZAj with | []=>(l,[],[]) | i::_=>(ZaAW,[c],ZcY (i+1))
abbrev SH:ZAP:=fun x xs H Q=>∃ (z:Str)(c:Nat),x=ZcL/\xs=[Zaf ⟨#[c]⟩]/\ZbK<=ZvE/\#[jK,#[ji,Zayr,ZazQ,ZazP]]
def IX (x y:Str)(t u:Tok)(hy:#[oU,Zgb,0])(hsz:#[lF,Ze8]) :
  Meets (Builtin.«str.partition» #[ei,[ZJa,ZadW]]) (fun _ R s =>
   R (.ok (ZfZ ZcN))
    (match Zbdp with
      | i::_=>#[bec,Zmu+1,[#[Vt,#[Y2,0,i]],ZadW,Zaf #[Y2,ZaF4,Ze8] (Zmu)]]
      | []=>#[bec,Zmu,[ZJa,ZaG0,ZaG0]])):=by
 obtain⟨raising,htree⟩:=partition_tree x y t u;refine Zakb fun prog w A R s h=>?_;rw[htree,hy]
 show wpAny _ _ (match Zbdp with
    | i::_=>(do ret (<-Za'K [<-#[aTW,0,i],ZadW,<-#[aTW,ZaF4,Ze8]]))
    | []=>(do rule "str.partition.not-found";let empty <-mkStr ZiS;ret (<-Za'K [ZJa,empty,empty]))) _ _ s
 revert h
 cases Zbdp with
 | nil =>
  intro h;exact #[aky,(ZakL ZaVo ZaY)]
 | cons i r =>
  intro h;exact Y6 (ZakL (Y6 (ZakL ZaVo (ZV (Za'L ..) hsz))) (ZV (Za'L ..) hsz))
def Re [60]:VC X "str.partition" SH:=by
 intro pins s σ H x xs v us Q I rx rv h;obtain⟨z,c,rfl,rfl,hz,q⟩:=h;obtain⟨t,rfl⟩:=rx;obtain⟨u,rfl,ru⟩:=iq rv;obtain⟨t2,rfl⟩:=ru;have sl:Za9n:=ZQ;have q:=q Zax Zsx;refine aXi F.slot_str_partition ZaqC F.entry_str_partition (F.args_str_partition_2 _ _) (IX z ⟨#[c]⟩ t t2 Zajh Zah) ?_;rw[DA]
 have fin:∀ [289][86][283],ZnB->ZXA->vs=[Zaf Zayr,ZazQ,ZazP]->#[bed,Za7r]:=fun vs us k r hl e=>by
  have IL:=I.laid (t':=k) (a:=s.heap.objs.size) (o:=ZcR vs) (h':=Za7r) (ZmI) Zbu
   #[mp,_,_,_,(ZcR _),⟨hl,us,r,ZH1⟩]
  exact#[sy,IL,#[mv,e]]
 cases hp:jr c Zev with
 | nil =>
  exact fin [ZcL,Zaw6,Zaw6] _ _ ZaWL ZVB (by
   have e:bV c Zev=(Zev,[],[]):=by unfold bV;rw[hp]
   rw[e]
   rfl)
 | cons i r =>
  exact fin [Zaf (ZOX z 0 i),Zaf ⟨#[c]⟩,Zaf (Builtin.Str.strSub z (i+(⟨#[c]⟩:Str).length) z.length)] _ _ ZaWL ZVB (by
   have e:bV c Zev=(Za'M i,[c],ZakM (i+1)):=by unfold bV;rw[hp]
   rw[e]
   have e1:ZOX z 0 i=#[me,(Za'M i)]:=by unfold Builtin.Str.strSub;congr 1;apply Array.ext';simp
   have e2:Builtin.Str.strSub z (i+(⟨#[c]⟩:Str).length) z.length=#[me,#[pf,ZakM]]:=by
    unfold Builtin.Str.strSub
    congr 1
    apply Array.ext'
    show (z.cps.extract Zcf Za'N).toList=_
    simp;exact aQm (ZaA)
   rw[e1,e2])
def K5 {X:Cx}{o e:Expr}{to te:TE}{apos cpos:Pos}(ho:ZuK)(he:Zhk)(hbase:#[a5W,Za'O]:=by rfl)
  (hfew:Zapn:=by rfl)
  (hline:Zlh:=by rfl) (hs:ZDM:=by rfl) (hplain:Zamc (·.1)=false:=by rfl) :
  #[D',Za'O,[e],(WJ X.K Zf1 SH to (mD te qg))] :=
 #[agB,PySem.F.slot_str_partition,PySem.F.type_str_partition,Re]
def JS [214]:#[zz,Zazr]
 | []=>Za_x
 | Ziq=>by
  rw[fD]
  by_cases z:a=c
  ·rw[ZeO];simp
  ·rw[Zem];cases ZfT<;>simp
def wo [214]:#[zz,jr c l=[]↔#[bd,ZaAA,1]]
 | []=>by simp[jr,sQ]
 | Ziq=>by
  have ih:=wo c l;have ne:=JS c l;rw[jB,fD]
  by_cases z:a=c
  ·rw[ZeO,ZeO]
   cases h:ZfT with
   | nil=>exact ZaIg
   | cons p ps=>simp
  ·rw[Zem,Zem]
   cases h:ZfT with
   | nil=>exact ZaIg
   | cons p ps=>rw[h]at ih;simpa using ih
def Ha [214]:∀ {l p:Zbq}{ps:Zaao},sQ c l=Zhj->#[uC,0].1=p/\#[uC,0].2.1=#[gx,ps=[],[],[c]]/\(ps≠[]->sQ c #[uC,0].2.2=ps)
 | [],p,ps,h=>by
  cases h;exact#[E1,ZWw]
 | Ziq,p,ps,h=>by
  rw[fD]at h
  by_cases z:a=c
  ·rw[ZeO]at h
   cases h
   have e:bV c ZmV=([],[c],l):=by unfold bV;rw[jB,ZeO];rfl
   rw[e,Y8 ZaAB];exact#[E1,Zm3]
  ·rw[Zem]at h
   cases hs:ZfT with
   | nil=>exact #[oE,hs,ZaAB]
   | cons q qs =>
    rw[hs]at h;cases h;obtain⟨i1,i2,i3⟩:=Ha c hs
    have e:bV c ZmV=(a::#[uC,0].1,#[uC,0].2.1,#[uC,0].2.2):=by
     unfold bV;rw[jB,Zem];cases ZAj<;>rfl
    rw[e];exact⟨#[d9,i1],i2,i3⟩
def RZ {x y:Str}(h:ZlT=Za_t):x=y:=by
 obtain⟨⟨l⟩⟩:=x;obtain⟨⟨m⟩⟩:=y;have h:l=m:=h;rw[h]
def Js {z w0:Str}{ws:Zbo}(h:ZaSo):#[yw,(bV 32 Zev).1]=w0/\#[yw,(bV 32 Zev).2.1]=(if ws=[] then Str.empty else ⟨#[32]⟩)/\((Builtin.Str.occurrences ZaDr ⟨#[32]⟩ 0 #[aW,ZaDr] 1).isEmpty=true↔Zj0<=1):=by
 have e:=uW (c:=32) ZaY z;rw[h,Zr]at e;obtain⟨i1,i2,i3⟩:=Ha 32 ZB1;refine#[cr,RZ (by rw[<-i1]),?_]
 ·rw[i2]
  cases ws with
  | nil=>rfl
  | cons a l=>rfl
 ·rw[DA,List.isEmpty_iff]
  show #[aZi,_]
  rw[show #[aZi,jr 32 ZyL=[]] by cases jr 32 ZyL<;>simp,wo]
  cases ws with
  | nil =>
   have e0:ZyL=[]:=by
    unfold bV at i2 ⊢
    cases hp:jr 32 Zev with
    | nil=>rfl
    | cons i r=>rw[hp]at i2;cases i2
   rw[e0];simp[sQ]
  | cons a l =>
   rw[i3 (ZaA)];simp
def bq.noins {C:Addr}[38][111][104]{b C' dx:Addr}[343](h:ZYb)(e:#[cp,#[hG,C',fs]]):False:=by
 have n1:b≠A.w:=dD e S.w (by intro z;cases z);have n2:b≠A.h:=dD e S.h (by intro z;cases z);have n3:b≠A.c:=dD e S.c (by intro z;cases z);obtain⟨as,hd,_⟩:=S.d;have n4:b≠A.d:=dD e hd (by intro z;cases z)
 have n5:Zax_:=fun z=>by
  obtain⟨i,hi,e'⟩:=aQX z;obtain⟨y,_,q⟩:=ZaoO;rw[e',e]at q;cases q
 simp[HA.fp,n1,n2,n3,n4,n5]at h
structure EA where
 dx:Addr
 x:Addr
 kp:Addr
 bk:Addr
abbrev Ib (h k b:V):ZoZ:=[Zzy,(Zhy,k),(ZoH,b)]
def Yo:#[Ao,Zhy]:=Zal
def Yp:#[Ao,ZoH]:=Zal
def Yq:#[je,Zhy,ZoH]:=Zal
section
variable {h k b:V}
def Sm:bW Zhy k ZAs=([Zzy,(Zhy,k)]:ZoZ):=by
 simp only[bW];rw[Y8 Yo]
def F5:bW ZoH b (bW Zhy k ZAs)=Ib h k b:=by
 rw[Sm];unfold Ib;simp only[bW];rw[Y8 Yp,Y8 Yq]
def QF:#[hU,ZLv,Zb5,h]:=by
 rw[<-F5,aE,Y8 Yp,aE,Y8 Yo,aE,ZaB]
def rZ:#[hU,ZLv,Zhy,k]:=by
 rw[<-F5,aE,Y8 Yq,aE,ZaB]
def Dg {m:Str}(q:¬ m=Zb5/\¬ m=Zhy/\¬ m=ZoH):#[ft,ZLv] m=Zac:=by
 rw[<-F5,aE,Y8 q.2.2,aE,ZXg,aE,ZXf];rfl
#where
abbrev mI:uX:=⟨Zac,0,Zac⟩
def Dz [464](m:Int):Za'P d m=mI:=uX.idle rfl
structure fz [151][179]:Zaa where
 ob:ZLR
 ki:Nl c ck H ZrV D mI B st
 px:D.p=A.x
def fz.mono [402][76][40](m:ZbU):ZKm:=⟨m _ _ ZiT,x.ki.mono m,x.px⟩
def fz.hall [384][40]:#[LC,A.x]:=x.px▸x.ki.hall
abbrev Cm [151](st':dM)(H':Hp):Zaa:=∃ B',fz c ck ze H' e A D B' st'/\Kp Zdp H H'/\(Zawk)/\Zuj
def TR [384][40]:e≠ZrV/\e∉Zdp:=by
 refine⟨ZcM,ZcM⟩
 ·have q:=x.ob
  rw[z,x.ki.kp.ob]at q;injection q with q;injection q with _ _ q;have r:#[hU,(Sv D mI),ZgP,_]:=KF;rw[q,Zup]at r;cases r
 ·exact x.ki.hall.noins z ZiT
def Q8 [402][447]{d:aX}{m:Int}[40](mv:#[a0A,(Za'P d m)]):Zac8:=by
 rw[Dz]at mv;obtain⟨B',h1,h2,h3,h4,h5⟩:=mv;obtain⟨n1,n2⟩:=TR x;refine⟨B',⟨h3 _ _ ZiT n2 n1,⟨h2,h1,ZcM,fun ps e=>by cases e⟩,x.px⟩,fun b o eb n=>?_,h4,h5⟩
 ·rcases h4 _ z with y | y
  ·exact x.ki.kB y
  ·rw[x.ki.kp.ob]at y;cases y
 ·by_cases z:b=ZrV
  ·rw[z]at eb ⊢
   rw[x.ki.kp.ob]at eb;rw[h2.ob];exact eb
  ·exact h3 b o eb n z
structure Vw [404](ze:Addr):Zaa where
 cl:HY K ze
 nH:fA K ze Zb5
 nK:fA K ze Zhy
 nB:fA K ze ZoH
 mE:#[b1,ZOY,ze]
abbrev linesD:ZHR:=[(ZcD,2),(Zhu,2),(ZcQ,3),(ZgP,3),("step",1),(Zll,1),(Zq',2),(ZlW,1)]
abbrev wy (r:Zbp):Str:=#[KL," ",ZrW,gn]
abbrev rq [298]:Str:=if rs=[] then "none" else #[KL,", ",ZgR,wy]
abbrev Ri (o:Eb):Str:=#[fH,ZOZ]++Fc o
inductive HB [419][12]:Zaa
 | mk [26][63][21](_:ZaJ2)
inductive yY [12]:Zaa
 | mk [102](_:(#[tP,Zio]))(_:#[auM,W])
structure ud [151][179]:Zaa where
 ev:ZaEa
 ft:Zy6
 hg:ZnG
 wl:ZaaH
 sm:#[tP,Zhd]
#print Wz
namespace L2
open PySem PySem.Spec PyProof.Rows
def UI [60]{b:Str}{j:Nat}{e1 e2:Expr}{t1 t2:TE}{p1 p2 p3 pos:Pos}(h1:ZaL_)(h2:ZadR)(hb:Za'Q<=10) :
  #[acH,[#[amL,e1,p1],Zkg (Zaf b) j p2,#[amL,e2,p3]],(#[ahf,t1,#[aLi,#[mU,t2,∃ i:Int,y=Zdy/\ZahI/\Q (Zaf (z++b++ZKi)) H2]]])]:=by
 intro pins s σ H Q I hq;have sl:Za9n:=ZQ;have hsb:PE X (Zkg (Zaf b) j p2) (tC (Zaf b)):=ak;refine ZX_
 show #[aIC,(#[amK,e1,p1]::ZaRO::ZaQ'::[])]
 refine #[bd3,#[kn,h1,s,H,I,hq],fun u1 s1 zz=>?_];obtain ⟨x1,H1,I1,rx1,z,ez,hz,q⟩:=zz;subst ez;obtain⟨tk,rfl⟩:=rx1
 have e0:ZiS++z=z:=by cases z with | mk c=>show (⟨#[]++c⟩:Str)=⟨c⟩;rw[Array.empty_append]
 have fin:∀ (s3:Shared),#[b7,H1,s3]->#[lF,#[kO,ZiS,z]]/\#[w7,(ZNI (ZiS++z) [ZaRO,ZaQ']),ZQP,s3]:=fun s3 I3=>by
  rw[e0];refine #[mB,ZakN (bS #[aU8,hsb,s3,Zaf b,I3] fun u4 s4 zz=>?_)];obtain ⟨x4,H4,I4,rx4,ex4,eh4⟩:=zz;subst ex4 eh4;obtain⟨tk4,rfl⟩:=rx4;have l2:#[kO,z,b]=ZbK+Za'Q:=Zai7;refine #[bd5,#[kn,h2,s4,H4,I4,q]];obtain ⟨x5,H5,I5,rx5,i,ei,hi,q5⟩:=zz;subst ei;obtain⟨tk5,rfl⟩:=rx5
  have hd:ZKz:=by
   by_cases h0:ZahJ
   ·rw[h0];decide
   ·exact Za9k
  have li:ZZP:=by
   have:=Zagi;rw[PySem.ofString_length]
   lia
  have l3:#[kO,z++b,ZKi]=#[kO,z,b]+#[pZ,i]:=Zai7;exact Za8t
 exact #[aDm,(fin _ I1),(fin _ (I1.tok _))]
#print L2
namespace Wz
open PySem L2
def Hk [267](wl:ZaB2)(sm:#[tP,Zio]):ZaF6<=64/\∀ r∈fV W,ZV6:=by
 obtain⟨h1,h2⟩:=Hj P;have fl:=(Ih.flat (st:=⟨W,[],[],[]⟩) P).2.1;exact#[mB,fun r hr=>⟨#[e9,h2 r hr],#[eB,sm g (fl g (Za82 ⟨r,hr,hg⟩)).1]⟩]
def Le {r:Zbp}(h:ZV6):ZakO Zp5 (ZrW gn)=Zae/\#[aX,wy,r]<=130000:=by
 have e:ZabI:=Zal
 have hb:#[jZ,ZaEA,Zgb<=Zwn]:=fun y hy=>by
  obtain⟨g,hg,rfl⟩:=ZIi;exact KW (h.2 g hg)
 have l1:#[aWS,Zwn,Zwn]:=Za9q;have l2:#[aWS,Zaw_,Zaw_]:=Za9q
 have l3:#[aX,ZrW,gn]<=64:=Zas0
 refine#[c7,zJ hb ?_]
 ·rw[e];lia
 ·have:=Oa (sep:=Zazc) hb
  rw[e]at this;unfold wy
  lia
def DG {rs:ZRA}(hl:ZaKp)(h:Zawp):ZakO #[da,", "] (ZgR wy)=Zae:=by
 have e:#[hM,", ",2]:=Zal
 have l3:#[aX,ZgR,wy]<=64:=ZaAf
 obtain⟨B,hB⟩:∃ B,B=130000:=Za8;refine #[afj,B]
 ·obtain⟨r,hr,rfl⟩:=ZIi
  rw[hB];exact (Le (h r hr)).2
 ·rw[e]
  have:=aXG l3 (ZMv hB)
  lia
def BH {K:PySem.W.Frag}{Qf:ZjE}{l q:Addr}{rs:ZRA}{H:Hp}(hq:Zt5)(h1:VB H l rs)(hl:ZaKp)(hr:Zawp)
  (k:#[WP,HK q=Zab #[g5,(ZgR wy).map]]) :
  qH (Se K l) ZT3 (Nn zB (WJ K Zf1 ZZJ (tC (ZaJ Zp5)) (mD (SV (N5 K ZaaT) ZT3 zB (W8 #[aXD,[ZaJ s],(ZaJ s),Zar i,(ZaJ (ZbC Zay_))] (mD ZaaT qg)) Zh5) qg)) q) ZaqK Zh5 Zaq0:=by
 obtain⟨as,h3,pa⟩:=h1;have hpl:=Zt pa
 refine cD (K:=K) (a:=l) (xs:=ZDH) #[di,#[gJ,[v],ZeK,HK q=Zab #[g5,(ZayG wy).map]]]
  ZuQ #[jd,Zp9,#[m8,h3]] ?_ ?_
 ·rintro i y σ HK hi ⟨v,rfl,t1,hq2⟩
  obtain⟨a,ha,rfl⟩:=ZbI;have hil:i<ZakP:=#[ri,ha];obtain⟨r,hr0,hA⟩:=#[aiI,pa,ha];have rok:=hr r (Zy hr0);have hT:=t1 _ _ hA;refine gD #[aWH,a,hT,fun q2 hq2'=>?_]
  refine cD (K:=K) (a:=a) (xs:=Zazv) (fun j σ HJ=>#[gJ,[v],aD HK HJ,HJ q2=Zab #[g5,((r.take j).map gn).map]])
   #[h3,ah hq2',ac] (fun j σ HJ _ Zp9=>#[m8,hT]) ?_ ?_
  ·rintro j y σ HJ hj ⟨v,rfl,u1,hu⟩
   obtain⟨g,hg,rfl⟩:=ZIj;refine gD #[bO,Zap ⟨g,rfl,rok.2 g (Zy hg),_,hu,ZaoM,?_⟩];refine#[qO,cw u1 hq2'];rw[ac,ZH,hg,ZG,Zp,Zp];rfl
  ·rintro σ HJ ⟨v,rfl,u1,hu⟩
   rw[Y5,ZD]at hu;refine#[aSc,ZaEA,Zbs hu,(Le rok).1];refine#[FR,u1 _ _ hq2,ZaoM,#[aqV,u1]];rw[ac,ZH,hr0,ZG,Zp,Zp];rfl
 ·rintro σ HK ⟨v,rfl,t1,hq2⟩
  rw[Y5,hpl,ZD]at hq2;exact ZafS
def dS {s t:Str}(h:¬ s=t):#[lB,s,t]:=Zb #[jj,h,ZrM]
section
variable {c:HX}{ck ze cq:Addr}{H H1:Hp}{e:Addr}{A:EA}{D:KA}{B:HA}{st st':dM}{Q:VK}{E:XK}
def Cm.back [438][225](m:#[Fo,H1,st']):Zac8:=by
 obtain⟨B',i,k,f,t⟩:=m;exact⟨B',i,#[wr,k b o #[de,s] n],fun b h=>(f b h).imp id s.free,#[cq,ZOr,s] t⟩
def ud.mono (x:Zadc)[225]:ud c ck ze H1 e A D B st:=⟨x.ev.mono s,x.ft,x.hg,x.wl,x.sm⟩
#where
abbrev WY [98]:Zbo:=(sQ 32 Zgn).map fun p=>⟨p.toArray⟩
def SZ [98]:rV 32 z=WY z:=D6 ZaY (by
 unfold WY;rw[ZK]
 exact #[cq,aQr,fun p _=>ZaA] (Za_s _))
abbrev Nr (o:Eb):Str:=if o=Za5 then "done" else Ri o
abbrev iV [71][464]:Zcv:=#[ajZ,ZaD5,ZaaJ]
inductive Ww [12]:Zaa
 | mk (t td w m ls:Addr)(H0:Hp)[71][464][80](_:vs=[Zai t,Zai td])[121](_:#[aQ,td,ZTG])(_:ZnH)(_:Zaak)(_:#[fy,ZaaJ,#[iV,ZlJ x,g∈L/\ZdP]])(_:Zdm<300)(_:#[aSY,(aY (iV es d)),(gf (iV es d)),Q (Zaf (Nr ZaNa)) H'])
abbrev VH [32](F:ZeZ):Zaa:=∀ b∈F,(∀ C dx fs,H b≠Zab ZpL)/\∀ xs,H b≠Zab Zej
def fz.kept [402][76]{F:ZeZ}[40](k:Zaam)(so:VH H F)[456]:ZKm:=by
 have io:∀ {b C dx:Addr}[343],#[xJ,ZpL,ZpL]:=fun {b C dx fs} h=>k _ _ h #[aF,(so b z).1 _ _ _ h];refine⟨io ZiT,⟨⟨io Za'R,fun ps e=>(by cases e),fun ps e=>(by cases e)⟩,x.ki.hall.kept k #[bZ,(so _ z).1 _ _ _ x.ki.hall.ob] dj (fun b xs h z=>(so b z).2 _ h),x.ki.kB,fun ps e=>(by cases e)⟩,x.px⟩
structure DU where
 e:Addr
 t:Addr
 A:EA
 D:KA
 w:Addr
 m:Addr
 ls:Addr
section
variable {c:HX}{ck ze:Addr}{L:Zbp}{H H1 H2:Hp}{u:DU}{B:HA}{es:Zcv}
def Q6 {w m ls:Addr}[76][19]{H0:Hp}{F:ZeZ}[246](k:#[qj,F])(tu:#[aKr,ZF5])(dj:ZaHW):#[Sk,H1]:=by
 obtain⟨as,h3,hp⟩:=M.hs;refine⟨#[ad5,M.hw],#[ad5,M.hm],⟨as,#[ad5,h3],#[vq,hp,ZWJ]⟩,M.w0,M.m0,M.s0⟩;rw[vq]at e ⊢;exact k _ _ e #[fR,tu]
#where
def Mz [71][464]:#[bd,(iV es d),Zdm+1]:=by
 unfold iV;split
 ·rw[Zh];exact ZaN
 ·exact aXE _
section
variable {c:HX}{ck ze:Addr}{L:Zbp}{H H1 H2:Hp}{u v:DU}{B B':HA}{es es':Zcv}{lq:Addr}{as:ZeZ}{ds:Zcv}{Q:VK}{E:XK}
def Nb {x y:Str}(h:x=y)(q:Q Zx8 H):∃ z,ZaJ x=ZcL/\Q (.bl (Zlw (z=y))) H:=#[ib,x,#[mv,Zc h]]
#where
section
variable {c:HX}{ck ze:Addr}{L:Zbp}{G G1 G2 G3:Hp}{u v:DU}{B B':HA}
def My {w m ls t:Addr}(hw:G w=Zac)(hm:upd G w Zc5 m=Zac)(hl:upd (upd G w Zc5) m Zyl ls=Zac)(ht:upd Zau' ls Zkr t=Zac) :
  aD G ZaZP/\#[Fz,ZaZP,ZX5,(gf [])]/\#[gK,ZmZ,G b=Zac]:=by
 have s1:=#[uX,hw];have s2:=#[gl,.dT [],hm];have s3:=ZxL;have s4:=#[h7,#[kF,w,m,Zai ls]];refine⟨#[cq,ZKE,s3] s4,⟨#[aLM,Zge] _ _ ac,ZacB _ _ ac,⟨[],ZaBT,Zan⟩,rfl,rfl,rfl⟩,Zdx⟩;simp only[Zi,ZX,aQv]at hb;rcases hb with rfl | rfl | rfl
 ·exact hw
 ·exact ZrX hm
 ·exact ZWV hl
#where
def IG [128]:ZdP:=by
 unfold Ck at h
 show Zbac
 have:(10:Nat) ^ 12<=ZYN:=#[hY,Nat.pow_le_pow_right,ZaY]
 lia
def QP [128]:#[Eo,ZakQ,#[pZ,g]]:=by
 have e:#[hM,ZakQ,6]:=Zal
 have l:=(lH h).2;rw[<-dN]at l;have l:#[pZ,g]<=12:=l;have sl:Za9n:=ZQ
 lia
#print Wz
namespace L2
open PySem PySem.Spec PyProof.Rows
abbrev El [189][70]:Str:=#[me,#[aVR,x.cps.toList.drop,Ze8,Ze8,Ze8,Ze8]]
def Fp [70][42]:Za'S lo hi 1 n=(ZgM (ZVZ-ZVe)).map (ZVe+·):=by
 have c:∀ i:Int,max 0 (min (if i<0 then i+Zbk else i) Zbk)=#[a3,#[gx,i<0,(i+Zbk).toNat,min ZBY n]]:=fun i=>by
  by_cases h:i<0
  ·rw[ZcH,ZcH];lia
  ·rw[ZcG,ZcG];lia
 have e:Za'S lo hi 1 n=sliceRange ZaxE ZaxF 1:=by
  unfold Builtin.Str.strSliceIndices
  cases lo with
  | none =>
   cases hi with
   | none=>simp[HT.sIx]
   | some i=>simp only[HT.sIx,Zaoo,aQP,c];rfl
  | some j =>
   cases hi with
   | none=>simp only[HT.sIx,Zaoo,aQP,c]
   | some i=>simp only[HT.sIx,Zaoo,aQP,c]
 rw[e,sliceRange_one]
def US [42](hi:Zgk):ZVZ<=n:=HT.sIx_le n n Zbu hi
inductive Wr [264]:Zaa
 | mk [98](_:x=ZcL)[460](_:Q (Zaf ZaPa) H)
def NC [98][70]:#[bd,ZaPa,ZbK]:=by
 show (#[f5,((ZakM _).take _)]).size<=Za'N
 rw[Zv,ZL,ZI,ZR]
 lia
def Fo [60]:VG X Wr:=by
 intro pins s σ H x v vl vu lo hi sl Q I rx hs pl pu h;obtain⟨z,rfl,hz,q⟩:=h;obtain⟨t,rfl⟩:=rx;refine⟨Zf1,_,F.slot_str_getitem.lookup,ZMT _ _ _,?_⟩
 obtain⟨l,el,el2⟩:∃ l:ZaID,vl=Za'T l/\l.map (·.1)=lo:=by
  cases pl with
  | none=>exact ZJR
  | int i t=>exact ZaO5
 obtain⟨u,eu,eu2⟩:∃ u:ZaID,vu=Za'T u/\u.map (·.1)=hi:=by
  cases pu with
  | none=>exact ZJR
  | int i t=>exact ZaO5
 subst el eu el2 eu2;refine wpAny_getItem_str_slice (l:=l) (u:=u) (st:=Zac) hs rfl ?_;have e1:Za'U z l u Zac=(List.range (HT.sIx z.length z.length (u.map (·.1))-HT.sIx z.length 0 (l.map (·.1)))).map (HT.sIx z.length 0 (l.map (·.1))+·):=Fp _ _ _
 have e2:Za'W (z.cps[·]?)=(z.cps.toList.drop (HT.sIx z.length 0 (l.map (·.1)))).take (HT.sIx z.length z.length (u.map (·.1))-HT.sIx z.length 0 (l.map (·.1))):=#[a_,e1,Za6v]
 have e3:(⟨(Za'W (z.cps[·]?)).toArray⟩:Str)=El z (l.map (·.1)) (u.map (·.1)):=#[bm,e2]
 unfold sliceMade;rw[e3];split
 ·rename_i c
  have c2:=(Z7 _ _).mp c
  have c3:#[aW,Za'V]=ZbK:=#[vS,c2.2]
  rw[e1,Y5,aQl]at c3;have hh:=US z.length (u.map (·.1))
  have ez:El z (l.map (·.1)) (u.map (·.1))=z:=by
   unfold El;rw[show HT.sIx z.length 0 (l.map (·.1))=0 by by_cases q:ZbK=0<;>(first | lia | (have:=HT.sIx_le z.length 0 ZzD (l.map (·.1));lia)),aXg,show HT.sIx z.length z.length (u.map (·.1))-0=z.length by lia];rw[#[h1,aQm,ZR,ZaN]]
  rw[ez]at q;exact ZaQL
 ·exact⟨by have:=NC z (l.map (·.1)) (u.map (·.1));lia,ZfQ,H,Zg9,Za8,q⟩
abbrev T3 [352](q:ZaFC):DictEntry:=#[aXe,q.2,ZawU]
abbrev hObj [352][346][42]:Obj:=#[aXk,T3]
structure GR [1][352][84][109]:Zaa where
 nd:(xs.map (·.1)).Nodup
 ns:ZagH
 at':#[aXE,hObj]
abbrev Vp (q:ZaFC):ZaHI:=(ZUW,ZawU)
def Gd [57]:#[aZu,#[eE,ZatA,Tok],T3,Vp]
 | []=>Zan
 | q::l=>#[aZ',q.2,Gd]
def Ku:∀ [346],ZaFH->(ZCD Vp).map (·.1)=(xs.map (·.1)).map Sum.inr
 | [],_,_=>rfl
 | ZcI,[],h=>by cases h
 | ZcI,ZjJ,h=>by
  rw[aQA,Zr,Zr,#[aTV,Ku]];rfl
def IF:∀ [346][98],#[aMx,Zrs (ZCD Vp) Zaxq=(ZO0 z).map Zhr]
 | [],_,_,_=>rfl
 | ZcI,[],_,h=>by cases h
 | ZcI,ZjJ,z,h=>by
  have ih:=#[aYr,IF];unfold valueAt at *;rw[aQA,Zr,ZU,aQp]
  by_cases e:z=x.1
  ·have e1:ZaM4:=ZGM
   have e2:#[lz,#[Li,Vp]]:=Zayn;rw[e1,e2];rfl
  ·have e1:ZaMp:=Zra
   have e2:#[lA,#[Li,Vp]]:=ZaRQ;rw[e1,e2];exact ih
def Kt [7][9][41]{xs:Zo0}[153](g:#[aDI,GR])(k:ZqA):#[bd1,ZawH,Vp]:=by
 obtain⟨ts,n,hl,e⟩:=g.at';refine Za1A
 ·have hen:#[aXb,T3]:=Za_l
  obtain⟨q,_,rfl⟩:=ZazW;exact#[aM2,q.2]
 ·have:=#[aXU,Gd]
  simpa using this
 ·rw[Ku xs ts hl]
  exact ZaYa
abbrev R3 [109](ty:TE):TE:=#[aVZ,Q (.bl (!#[ho,(ZO0 z)])) H1]
abbrev X8 [109](ty:TE):TE:=#[ahi,∃ z b,y=ZcL/\ZO0 z=Zab b/\Q Zqu H1]
def MN [227][403][207][425]:PC X ZB4 i o (R3 xs ty):=by
 intro pins s σ H Q I h;refine ZaeD;obtain ⟨y,H1,I1,ry,z,e1,q1⟩:=zz;refine bS #[aU8,ho,s1,ZbV,I1] ZTz;obtain ⟨x,H2,I2,rx,ex,eh⟩:=zz;subst ex eh e1;obtain rfl:ZQK:=rx;obtain⟨t,rfl⟩:=ry;obtain⟨ts,hl,dd⟩:=ZaWh;refine Za6V Zaga g.ns ZB3 ?_;rw[ZaW1,Option.isSome_map];exact#[dt,ZhZ,H2,ZHb,q1]
def UJ [227][156][403][425][207](hs:Tp i):#[M3,o,i,(X8 xs ty)]:=by
 intro pins s σ H Q I h;refine #[aRn,(bS #[aO',ho,ZbV] ZhV)];obtain ⟨x,H1,I1,rx,ex,eh⟩:=zz;subst ex eh;obtain rfl:ZQK:=rx;refine bS #[D1,hi,h] ZGV;obtain ⟨y,H2,I2,ry,z,b,e1,e2,q2⟩:=zz;subst e1;obtain⟨t,rfl⟩:=ry;obtain⟨ts,hl,dd⟩:=ZaWh;exact⟨ZOt,Za6T Zaga ZB3 (#[cE,ZaW1,e2]) #[mj,b,H2,ZHb,q2]⟩
def OS [9][7][75]{base:Heap}{N:Zbo}{qual:Str}{sc:Scope}{f c':Addr}{y:Str}{cy:Addr}[52]{outer:Zc9}{s0:Shared}{H0:Hp}{E:XK}:gH Zg1 (De Zg1 P w K mg ZaO N Zbg sc f c' y cy A ZbA s0 H0 E) E:=by
 intro pins σ H s e s' I hc;obtain⟨ea,C,od,H',B,rfl,fl,un,hok,os,bare,hsB,trB,hE⟩:=hc
 let X:Cx:=De Zg1 P w K mg ZaO N Zbg sc f c' y cy A ZbA s0 H0 E
 show ZamN
 have hstk:Za4N:=I.ok.frames
 have frS:Zae0:=by unfold kN;rfl
 refine ZaZh;have ltl:ZacQ:=ZLm;have noEx:Zaqb:=ZRH
 have h0B:Zaow:=fun b o e hf=>by
  obtain⟨o',e'⟩:=ZaMR;refine ZaQT;rw[frS];intro z;rcases Znj with z | z
  ·exact ZAL
  ·exact hf z
 have unS:ZaQ_:=by
  have u1:ZaQ9:=I.base;refine Za1m
  ·refine Za0H
   rw[frS];intro z;rcases Znj with z | z
   ·exact ZAL
   ·exact hf z
  ·obtain⟨sl,e1⟩:=ZaIH
   obtain⟨sl2,e2⟩:=Za0v;exact ZaDq
  ·obtain⟨o',e'⟩:=ZIV
   exact ZaWV
  ·obtain⟨o',e'⟩:=ZIV
   exact ZaQU
  ·obtain⟨m1,e1⟩:=ZaNx
   obtain⟨m2,e2⟩:=ZaI0;exact Zaf'
 have slot2:Zaqg:=fun b o hf e n=>by
  obtain⟨sl,e1⟩:=ZaJf;obtain⟨_,o2,ho2,hnf⟩:=ZajV
  have e2:o2=o:=by
   have:ZacC:=ho2;rw[e]at this;exact ZsO
  subst e2;obtain⟨sl2,e3⟩:=ZLx;exact ZJO
 refine Za1B;refine ZaSG;obtain⟨sl,q⟩:=Zac4;exact Zk4
section
variable {X:Cx}{CX:Cf}{k:Nat}{E:XK}{x y:Str}{p pos:Pos}{e e1 e2:Expr}{es:Zbv}{te t1 t2:TE}{t:TA}
def Hc {iy:Nat}{fw c0 P cy:Addr}{fdw:FuncData}{psw:Zbo}{sp:ZeY->ZeY->V->Sp}{params:Arguments}{body:Expr}{scope:Scope}{lpos:Pos}{qual:Str}
  (W:∀ (b':Heap)(f c' cy:Addr)(vy:V)(pm ct:Value),Mod X.K ZcJ b'->wM ZcJ b'->C4 b' Zbg ZlS Zfr ZbT y vy f c' cy pm ct->aV Zck X.w X.K ZcJ b' CX k fw fdw psw (sp f c' vy))
  (hr:ZjD) (hg:Zeo) (hm:#[sK,ZawQ]) (hk:#[bck,ZawQ]) (hb:iB X.K fdw psw []) (hx:Ziv)
  (h1:ZaL_) (h2:ZadR) (hc:ZaE4) (C:ZaUw) (B:ZaIO) (hq:ZaS0) (hdf:ZaUb) (hcl:Za7a) (hcy:Zacf)
  (hfn:ZaF9) (hN:#[kG,X.N[iy]?]) (hkd:#[aBQ,Ze2])
  (hdb:Za79:=by decide) (he:#[DK,ZaQh,e1,Zab0]:=by rfl)
  (he2:#[DK,Zab0,e2,[ZFp]]:=by rfl) (he3:#[EZ,[ZFp],ZaZy]:=by rfl)
  (hpl:#[amd,Zab0] (·.1)=false:=by rfl) :
  PE X (ZcW Zxa ZaQh [] pos) (fun σ H Q=>t1 σ H fun x1 H1=>t2 σ H1 fun x2 H2=>Zoo H2 P lpos Zbg/\∃ vy,#[au,σ[iy]?,#[fb,vy]] /\
   ∀ (f c':Addr)(H3:Hp),qr H3 c' Zbg->Zoo H3 P lpos Zbg->(#[ef,#[bc,H2],P,ZXh])->sp f c' vy ZVY H3 Q E):=by
 intro pins s σ H Q I h;refine ZLG;refine ZahW (h₀:=Zfq) ZBT hk (Q:=EP X Zav σ Q) ?_ he hpl;rw[he,he2,he3]
 show #[kA,(Zahc [#[jY,e1],#[jY,e2],#[jY,ZaZy]])]
 refine aQf (bS #[ko,h1] fun u1 s1 zz=>?_);obtain ⟨x1,H1,I1,r1,q1⟩:=zz;refine aQf (bS #[D2,h2] fun u2 s2 zz=>?_);obtain ⟨x2,H2,I2,r2,hT,vy,hσ,q2⟩:=zz;refine aQf (Oh I2 hc C B hq hT hdf hcl hcy fun f c' pm ct H3 s3 I3 hfo hsz hfH hcf hT3 hk3 hkk=>?_);refine aQS #[c7,I3.kIn];have q3:=q2 f c' H3 hcf hT3 hk3;obtain⟨m,hn,hl⟩:=I3.loc;obtain⟨uy,ry,ly⟩:=hl iy y vy hN hσ #[Gm,hkd]
 have cl:s3.heap.IsCell cy (Zab uy):=by
  rcases ly with ⟨z,_⟩ | ⟨_,c,e,ce⟩
  ·have z:#[aBQ,Zls]:=z
   rw[hkd]at z;cases z
  ·rw[hcy]at e;cases e;exact ce
 obtain⟨oc,hoc,hdc⟩:=cl;have e0:=Og (y:=y) (cy:=cy) I3 hfH #[aR,hfo] (Zz I2.lt hsz) hcy hfn;have F:=W _ f c' cy vy pm ct e0.mod (let ⟨bm,ob,b1,b2,b3,b4⟩:=B;⟨bm,ob,b1,b2,oV (I3.bk _ _ b3) (Zam #[aR,b3]),b4⟩) ⟨oV hfo #[Gm,rfl],uy,ry,oc,oV hoc #[AC,rfl],hdc⟩;have r3:bF ZaId (Zu4++[]):=ZagN #[gu,bF ZVY Zu4,ZaC r1 (ZaC r2 (ZaC rfl Zan))] Zan
 have hl3:#[aW,(Zu4++[]:Zb')]=psw.length:=#[Wz,r3.length,q3]
 refine #[Lr,aXL,ZMC X.A ZdC s3 H3 #[ei,Zu4] (Zu4++[]) ZaId Q E hr e0 (hb s3 Zu4 I3.kIn hl3) r3 q3]
 cases r with
 | error e=>exact hx Zav σ H3 s3 e s' I3 hq
 | ok fl =>
  cases fl with
  | ret u=>exact I3.after hq
  | next=>exact Zvy
  | brk=>exact Zvy
  | cont=>exact Zvy
#where
#print L2
namespace Wz
open PySem L2
abbrev oj [214]:Bool:=#[lx,c=32\/c=40\/c=41]
abbrev eQ [34]:Zbq:=l.takeWhile fun c=>! oj c
abbrev toS [34]:Str:=⟨Zaj0⟩
def gV [34]:aZ (toS l)=l:=by unfold aZ toS;simp
def ic [34]:#[ad4,toS]:=#[a_,dN,gV]
def iz [98]:toS Zgn=z:=by cases z with | mk a=>unfold toS aZ;simp
def Vg [34]:#[aX,eQ,l]<=Zcc:=by unfold eQ;exact #[aw2,0].length_le
open Classical in
noncomputable def rdNum (z:Str):Zgk:=if h:ZxO then #[c3,Zos,Za_u] else none
def Rk [226]:ds=es:=by
 have e:=Za_o b.eq
 have inj:∀ {x y:Zbq},x.map (·+48)=y.map (·+48)->x=y:=fun {x}=>by
  induction x with
  | nil=>intro y h;cases y with | nil=>rfl | cons _ _=>cases h
  | cons a x ih =>
   intro y h
   cases y with
   | nil=>cases h
   | cons b y =>
    rw[Zr,Zr]at h;injection h with h1 h2;rw[ih h2,#[eA,a=b]]
 exact inj e
def JD [353]:ZCP z=Zab Zast:=by
 unfold rdNum;rw[dif_pos ⟨ds,h⟩];have:=Rk (Exists.choose_spec (⟨ds,h⟩:ZxO)) h;rw[this]
def SI [383]:ZCP z=Zac:=by
 unfold rdNum;rw[dif_neg (fun ⟨ds,q⟩=>h ds q)]
abbrev numAt [34]:ZaBZ:=#[aY0,ZCP]
abbrev dI [268]:Nat->Zbq->#[xU,ZdZ]
 | 0,_=>none
 | n+1,l=>#[cx,ZakY,(rd (ZcY 1)).bind fun p=>(dI rd n p.2).map #[bl,(p.1::q.1,q.2)],#[akS,ZaCl,ZaO7]]
abbrev jV [244][81]:ZXp:=if w=ZaG then (#[avQ,ZaPq,Zkd,fs]) else match fs with
 | [f]=>#[c3,Zoy,f]
 | _=>none
abbrev fC [244][236]:ZXp :=
 if ZaAv then (match gs with
  | ZAV=>Zab ZaIL
  | _=>none)
 else if ZaAx then (match gs with
  | ZEP=>#[avQ,ZEQ,.pl,#[FQ,ZCF]]
  | _=>none)
 else #[akR,ZLt,#[gx,ZaAw,Zab ZaEi,#[fh,ZIz,ZaEj,#[akS,ZIy,ZaEh]]]]
abbrev figM:ZaIz
 | 0,_=>none
 | d+1,l =>
  if ZakW then
   (if ZaSM then #[aRc,ZtB]
   else #[aRd,ZlX])
  else ZakT
abbrev brM [453]:Zas9 :=
 if toS (eQ l)=ZaG\/toS (eQ l)=ZaU then #[aVH,ZtB,(jV ZT2 q.1).map]
 else #[aVH,ZlX,(fC ZT2 q.1).map]
def vA [453](h:ZakW):ZfA Zm6 l=brM d (ZcY 1):=#[cE,ZfA,ZcH]
def zF [453](h:#[akX,40]):ZfA Zm6 l=ZakT:=#[a_,ZfA,ZcG]
abbrev Ts [268]:Zaa:=∀ l a r,ZaQS->∃ k,r=ZcY k
def Lg [13](h:Ts rd){l:Zbq}{a:α}{r:Zbq}(e:ZaQS):#[GG,Ze5]:=by
 obtain⟨k,rfl⟩:=h l a r e;rw[ZI]
 lia
def Fm:Ts ZlX:=fun l a r h=>by
 unfold numAt at h;obtain⟨n,_,e⟩:=ZM0 h;injection e with _ e;exact Zaxg
def xQ [13](h:Ts rd):∀ n,Ts (dI rd n)
 | 0=>fun l a r e=>by cases e
 | n+1=>fun l a r e=>by
  rw[dI]at e;split at e
  ·obtain⟨p,e1,e2⟩:=ZHG
   obtain⟨q,e3,e4⟩:=ZM1;injection e4 with _ e4;obtain⟨k,hk⟩:=h _ p.1 p.2 e1;obtain⟨k2,hk2⟩:=#[aZ0,xQ];exact⟨1+(k+k2),by rw[<-e4,hk2,hk,aQh,aQh]⟩
  ·split at e
   ·injection e with e
    injection e with _ e;exact⟨1,ZB1⟩
   ·cases e
def zS:∀ d,Ts (ZfA d)
 | 0=>fun l a r e=>by rw[figM]at e;cases e
 | d+1=>fun l a r e=>by
  by_cases h:ZakW
  ·rw[vA d l h]at e
   unfold brM at e;split at e
   ·obtain⟨p,e1,e2⟩:=ZHG
    obtain⟨q,e3,e4⟩:=ZM1;injection e4 with _ e4;obtain⟨k,hk⟩:=#[aYt,ZYH];exact Za0M
   ·obtain⟨p,e1,e2⟩:=ZHG
    obtain⟨q,e3,e4⟩:=ZM1;injection e4 with _ e4;obtain⟨k,hk⟩:=#[aYt,Fm];exact Za0M
  ·rw[zF d l h]at e
   split at e
   ·injection e with e
    injection e with _ e;exact Zaxg
   ·cases e
def UV [214]:(!(Builtin.Str.occurrences #[da," ()"] ⟨#[c]⟩ 0 #[En," ()"] 1).isEmpty)=oj c:=by
 rw[StrLaws.found_one]
 have e:#[GY," ()"]=[32,40,41]:=Zal
 rw[e];unfold oj;rw[aQN];simp only[Zi,ZX,aQv]
def Qz [98]{a b:Nat}(h:#[st,b]):El z ZayE (Zab (b:Int))=toS (ZUx (b-a)):=by
 unfold El toS aZ;rw[HT.sIx_nat,HT.sIx_nat,aQW h]
 by_cases q:Zsu
 ·rw[aQW q]
 ·have hz:Zaj':=ZtR
  rw[#[fN,b,min a ZbK,0],#[fN,b,a,0],aXH,aXH]
def Em [98](a:Nat):El z ZayE (Zab (Zhb+1))=toS (ZUx 1):=by
 unfold El toS aZ
 have hz:Zaj':=ZtR
 rw[#[pR,(Zhb+1),#[a3,a+1]],HT.sIx_nat,HT.sIx_nat]
 by_cases q:#[st,a+1]
 ·rw[aQW q,ZHI,#[fN,a+1,a,1]]
 ·rw[#[UD,Za'X,#[sh,a+1]]]
  by_cases q2:Zsu
  ·rw[aQW q2,#[fN,ZbK,a,0],aXH,Za'6];rfl
  ·rw[Za'Y,Nat.sub_self,aXH,Za'6];rfl
def Et [34][214]:decide (ZaJ (toS (ZrA 1))=V.str ⟨#[c]⟩)=#[lx,#[pz,ZakU]]:=by
 rw[aQN]
 cases l with
 | nil=>exact⟨(fun h=>by have h:=ZHt;unfold toS at h;injection h with h;cases h),(fun h=>by cases h)⟩
 | cons x l =>
  constructor
  ·intro h
   have h:=ZHt;unfold toS at h;injection h with h;have h:=Z6 Za'Z h;simp at h;rw[h];rfl
  ·intro h
   have h:x=c:=Zl h;rw[h];rfl
#print Wz
set_option maxRecDepth 1000000
namespace Wz
open PySem L2
abbrev GK [316]:Zaa:=#[ee,Zdf,(ZaTl),ZfO]
def df [16][110]:ZhK:=#[ajT,s]
def GK.refl [38]:GK H H:=fun _ _ e _=>e
def GK.trans [265](a:ZyG)(b:GK H1 H2):GK H H2:=ZaXA
def GK.tup [195][45][31][188]:ZaAj:=k b _ e fun _ z=>nomatch z
def GK.lst [195][45][31](e:#[cp,Zmx]):#[ph,Zmx]:=k b _ e fun _ z=>nomatch z
def GK.fg [195][69][93]:ZJn:=ZaSJ
def TY [16][361](k:ZhK)(h:Zgw):GK H ZaJp:=fun b u e n=>#[avu,k b u e n]
def NY {P:Addr}[16][156]{qual:Str}(t:ZJV)(k:#[ef,Zdf,P,ZfO]):ZhK:=fun b o e n=>by
 obtain⟨ps,q⟩:=t.tbl
 exact k b o e #[aF,by rw[z,q]at e;injection e with e;exact n ps ZB1]
abbrev KT [1](q:Addr)[289]:Zaa:=#[GS,#[ab4,q,#[aqH,bF vs ZCO]]]
def KT.sq [7]{q:Addr}[455](h:KT K q vs)[32]:aU K H q vs:=ZXr
structure LJ where
 (q1 q2 q3 q4 q5 q6 q7:Addr)
abbrev szL (q:LJ):Zo0:=[(Zb6,q.q1),(Za',q.q2),(Zcd,q.q3),(Zcm,q.q4),(Zc0,q.q5),(ZaG,q.q6),(ZaU,q.q7)]
structure Xl [404](w:World)(cF kd cs:Addr)(q:LJ):Zaa where
 eF:eW K cF
 mF:#[b1,Za'1,cF]
 ff:Za8j
 md:∃ u,#[au,mg Za'2,u]/\bE (Zag 12) u
 dg:∃ u,#[au,mg Za'3,u]/\bE (Zaf ZCx) u
 dp:∃ u,#[au,mg Za'4,u]/\bE (Zag 8) u
 ml:Zbb4
 mt:Zbb6
 mkd:ZaMX
 kd:KT K kd #[tU,ZOU]
 ms:#[b1,"SIZES",cs]
 sz:GR K Zi2 cs ZR4
 t1:KT K q.q1 #[co,2,2]
 t2:KT K q.q2 #[co,2,60]
 t3:KT K q.q3 #[co,2,60]
 t4:KT K q.q4 #[co,2,60]
 t5:KT K q.q5 #[co,4,4]
 t6:KT K q.q6 #[co,1,60]
 t7:KT K q.q7 #[co,1,1]
inductive xW [12]:Zaa
 | mk [98](a:Nat)(_:ZaPT)(_:ZvF)(_:Zsu)(_:#[aXB,#[cS,Zark]])
inductive PK [65][130]:Zaa
 | mk (z:Str) (a:Nat) (h_0:ZaPT) (h_1:Zii) (h_2:ZvF) (h_3:Zsu) (h_4:J H) (h_5:ZQz)
  (h_6:∀ x r,R Zgp=Zab (x,r)->∀ (t:Addr)(v:V)(H':Hp),ZhK->ZQA->#[aPu,v]->ZaQN->Q Zqd H')
  (h_7:ZaWn):PK P0 lp ql cF J R At vs H Q E
inductive Hz (P0:Addr)(lp:Pos)(ql:Str)(cF fl:Addr)[130]:Zaa
 | mk (z:Str) (a:Nat) (h_0:vs=[ZcL,ZkL,Zai fl]) (h_1:Zii) (h_2:ZvF) (h_3:Zsu) (h_4:J H) (h_5:ZQz)
  (h_6:∀ xs r,ZaZC=Zab (xs,r)->∀ (t q:Addr)(vs':Zbr)(H':Hp),ZhK->ZQA->#[dT,#[aPu,Zs1],#[b0,q,#[cS,vs']],#[aP7,vs'],Zqd])
  (h_7:ZaZC=Zac->ZQE):#[a1C,J,R,At]
inductive B0 (cF:Addr)(d:Nat)[55]:Zaa
 | figs [244](q:Addr)(ps:ZeZ)[81][430](h_1:Zafu)(h_2:#[aQ,q,#[TF,Zkb]])(h_3:ZaP8)(h_4:#[vG,Zer])(h_5:#[aW2,jV,fs])(h_6:#[ad',w]->#[w9,cF]):Za0L
 | nums [244](q:Addr)[236][430](h_1:¬ (Zafu))(h_2:#[ER,Zow])(h_4:#[vG,Zki])(h_w:#[vG,Zfv])(h_5:#[aW2,fC,gs])(h_6:#[u1,w]->#[w9,cF]):Za0L
inductive rH [65](d e:Nat)(R:Zbq->#[xU,ay])[55]:Zaa
 | mk (z:Str) (a:Nat) (h_0:vs=[ZcL,ZkL,Zag e]) (h_1:Zii) (h_2:ZvF) (h_3:Zsu) (h_5:ZQz)
  (h_6:∀ f r,R Zgp=Zab (f,r)->∀ (t p:Addr)(H':Hp),ZhK->ZQA->#[b0,t,#[zM,ZSd]]->#[x7,d]->Q Zqd H')
  (h_7:ZaWn):rH P0 lp ql cF d e R vs H Q E
inductive Lp [65][55]:Zaa
 | mk (z:Str) (h_0:ZaaX) (h_1:Zii) (h_2:ZvF) (h_5:ZQz) (h_6:#[atR,ZfA,8,Zgn,ZFy,#[dT,ZhK,ZQA,#[x7,8],ZfL]])
  (h_7:(Zafd)->ZQE):Lp P0 lp ql cF vs H Q E
inductive wC [12]:Zaa
 | mk [216](_:#[w_,(.bl (gI z))])
def R7 [137](hs:ZKU):eQ l=ZrA (n+1)++eQ (ZcY ZdX):=by
 have hn:=ZayZ
 have e:ZaTG:=by
  rw[aQH hn]
  congr 1
  exact ZaKu
 rw[h,e,ZH,hc,ZG,aQb]
 congr 1
 unfold eQ;rw[List.takeWhile_cons,hs];rfl
def R8 [137](hs:ZZM):ZaX1:=by
 have hn:=ZayZ
 have e:ZaTG:=by
  rw[aQH hn]
  congr 1
  exact ZaKu
 have e2:eQ (ZcY n)=[]:=by
  rw[e];unfold eQ;rw[List.takeWhile_cons,hs];rfl
 rw[h,e2,aQg]
def Vf {l:Zbq}[69](h:ZaSl)(hn:Zcc<=n):ZaX1:=by
 rw[Za'5 hn]at h;rw[h]
 show ZasY++[]=ZrA n
 rw[aQg]
def Ik [301](h:Zii):#[WQ,aZ z]:=fun c hc=>by
 unfold oK at h;rw[<-Array.all_toList]at h;exact ZF (ZrY h c hc)
def Nt [301](h:Zii)(a:Nat):oK (toS (eQ Zgp)):=Aj fun c hc=>by
 have hc:c∈aZ (toS (eQ Zgp)):=hc;rw[gV]at hc;exact Ik h c (ZO1 (#[aw2,0].subset hc))
def JZ [301]{a:Nat}(h:Zsu):ZEb=#[pg,#[aX,ZGZ,ZEa]]/\#[st,ZEb]:=by
 have h1:=Vg (Zgo a);rw[ZI,<-dN]at h1;rw[ZI,ZI,<-dN]
 lia
def lG {a:Nat}(h:a<=1000001):Zav9<10 ^ 100:=by
 have e:Zav9=a:=Zad
 rw[e];exact #[aFT,aQL]
abbrev GL [316]:Zaa:=#[g6,Zdf,(ZaTl),(∀ xs,o≠Zbw xs),ZfO]
def Ks [195]:ZHY:=#[ajQ,k b o e n]
def TZ [38][361][31](h:ZqV):GL H ZYO:=fun b u e n n2=>by
 rw[#[s7,#[UA,h,n2 _ ZGs]]];exact e
def GL.tup [426][45][31][188]:ZaAj:=k b _ e (fun _ z=>nomatch z) fun _ z=>nomatch z
def GL.fg [426][69][93]:ZJn:=ZaSJ
def GL.code [426]{c':Addr}{q:Str}(h:qr H c' q):qr H' c' q:=by
 obtain⟨oc,vs,t,e,r⟩:=h;exact⟨oc,vs,t,k _ _ e (fun _ z=>nomatch z) (fun _ z=>nomatch z),r⟩
def L5 [78]{l r:ZdZ}{e k:Nat}(h:r=(ZcY e).drop k):ZcY (Zcc-Ze5)=r:=by
 rw[aQh]at h;subst h;rw[ZI]
 by_cases q:#[GG,e+k]
 ·rw[#[aNs,e+k]]
 ·rw[#[aNs,Zcc],aXf,Za'6]
def Hb [13][69]{l r:Zbq}{x:α}(h:ZakY)(e:rd ZEp=Zab (x,r)):ZaWq=(dI rd n r).map #[bl,(x::q.1,q.2)]:=by
 rw[dI,ZcH,e];rfl
def OR [305](h:ZakY)(e:rd ZEp=Zac):ZaY6:=by
 rw[dI,ZcH,e];rfl
def DF [305](h:ZaCl):ZaWq=Zab ZaO7:=by
 rw[dI,#[asK,h],ZcH]
def MM [305](h:#[akX,32])(h2:#[akX,41]):ZaY6:=by
 rw[dI,ZcG,Zt0]
def oJ:Zp5=⟨#[32]⟩:=Zal
def PP:#[da,")"]=⟨#[41]⟩:=Zal
def RX:#[da,"("]=⟨#[40]⟩:=Zal
def Eu [301]{e c:Nat}(h:#[pz,ZWW]):ZaKn:=by
 rw[List.head?_drop]at h;have:=#[ri,h];rw[<-dN]at this;exact this
inductive Ll [55]:Zaa
 | mk [216](_:∀ ds H',ZxN->ZbU->Q ZaJc H')(_:(ZaFO)->ZAc)
#print Wz
set_option maxRecDepth 1000000
set_option maxHeartbeats 8000000
namespace Wz
open PySem PySem.Spec PyProof.Rows L2 PySem.SetTable
def CW:#[aYQ,ZiK]:=ZWI
def sU:#[aYQ,"frozenset"]:=ZWI
section
variable {P:Program}{w:World}{A:Around}{E:ZfE}{s:Shared}
def Pn {l:Addr}{its:Zix}{ns:Zbp}{Q:ZfE}(hh:Zfj)(hl:#[ami,l,its])(hi:#[aip,ZCO])(hb:ZBK+1<scanBound)
  (h:∀ (h':Heap)(tk:Nat),h'.SetOf Zak0 s.heap.objs.size (fun k'=>#[aoJ,0].any (· == k')) ZavH->(#[y9,ZIk])->Q ZcN ZOh) :
  #[fF,ZvZ,(Zfs (Za4 ZiK) ZAn),Q]:=by
 obtain⟨c,tl,mro⟩:=aXJ.mro;have made:=aXJ.made;have sub:=aXJ.sub;have nt:=aXJ.notType;have cc:=aXJ.canCreate;have tc:=F.typeCall_set_1 Zeh;refine Za8P
 show #[hI,(callAny (Za4 ZiK) _)]
 refine Zg ⟨#[ayV,Za'7],aXs F.entry_type_call ?_⟩;rw[Around.under_plain (weight_type_call_type ZiK ZAn []) rfl]
 repeat (any_goals (first | assumption | wp_step))
 refine aQY (code_set_new_1 Zeh (E:=E) (Q₁:=fun obj s₁=>∃ led:Bool,ZKO/\s₁={ s with heap:=s.heap.push (Hn #[] 0 ZnN) }) fun led=>#[dU,led,rfl]) fun r s₁ hr=>?_
 cases r with
 | error e=>exact hr
 | ok fl =>
  cases fl with
  | ret obj =>
   obtain⟨led,rfl,rfl⟩:=hr;have hS:(s.heap.push (Hn #[] 0 ZnN)).get? s.heap.objs.size=some (Hn #[] 0 ZnN):=Zct;have hT:Shared.TypeIs { s with heap:=s.heap.push (Hn #[] 0 ZnN) } ZcN "set":=ZasU;have li:=aXJ.init.lookup;have bi:=aXJ.init.bind ZcN
   repeat (any_goals (first | assumption | wp_step))
   refine aQY (codeAny_call_builtin (R:=wants (fun r s₂=>r=Zay/\∃ h' tk,s₂=ZOh/\h'.SetOf Zak0 s.heap.objs.size (fun k'=>#[aoJ,0].any (· == k')) ZavH/\(#[y9,ZIk])) E) aXJ.init.plain F.entry_set_init (check_set_init_1 hT ?_)) fun r₂ s₂ hr₂=>?_
   ·obtain⟨⟨oc,od,odt,osl⟩,ho,hc,nl,hd⟩:=hl
    have hc:oc=Za4 Zf2:=hc;have hd:odt=Za2 its nl:=hd;subst hc;subst hd;have ho':(s.heap.push (Hn #[] 0 ZnN)).get? l=ZtV:=Y7 _ ho;have s1:=CW;have s2:=sU
    have ne:#[bcv,Zf2,ZiI]:=Zaw
    have hl1:(s.heap.push (Hn #[] 0 ZnN)).IsTuple l its:=#[ci,_,ho',nl,rfl];unfold Builtin.«set.__init__» noKeywords Builtin.Frozenset.updateFrom;generalize hPI:pyIter=PI
    wp_walk
    subst hPI;refine aXk hl1 #[Gt,wpAny_runValue];have lt:#[dV,l]:=Zk ho
    have h3:A.in1.in1.in1.handled=Zac:=by simp[hh]
    have neI:l≠(s.heap.push (Hn #[] 0 ZnN)).objs.size:=#[aE,Z2,Zq (aQx lt)]
    have Sf:s.heap.objs.size∉[(s.heap.push (Hn #[] 0 ZnN)).objs.size,l]:=by
     rw[Z2];intro z;rcases Znj with z | z
     ·exact #[qh,ZaMW]
     ·exact ZoD (Zcz z) (Z1 lt)
    have W:=(Walks.tuple (prog:=P) (w:=w) h3 _ l neI its).toS;refine codeAny_set_update_loopS W Zax Sf (ZNl) (fun i v hv=>IntsAre.int_at hi i v #[bj,aXn,hv]) hb (ZBK-0) 0 _ Zah ZzD ⟨ZEA,hl1.push _⟩ ?g0 ?fin
    case g0=>exact SetOf_congr ((setObjOf_fresh (knd:=ZakZ P w) led).setOf (Y7 _ hS) (by unfold scanBound;lia)) Zui rfl
    case fin =>
     rintro⟨h',g',d',tk',os'⟩ hm hS';have eg:g'=s.gens:=hm.gens;have ed:d'=s.drawn:=hm.drawn;have eo:ZaDP:=hm.os;subst eg;subst ed;subst eo;refine Zg (Zg ⟨rfl,h',tk',rfl,hS',#[ak1,hm.heap b o ZH2 ZazA]⟩);rw[Z2]at z;rcases Znj with z | z
     ·exact ZoD z (Zq hb)
     ·exact #[oG,Zcz,z,(Zq (aQx hb))]
   ·cases r₂ with
    | error e=>exact hr₂
    | ok g =>
     cases g with
     | ret r =>
      obtain⟨rfl,h',tk,rfl,hg,hk⟩:=hr₂
      repeat (any_goals (first | assumption | wp_step))
      exact h _ _ hg hk
     | _=>exact hr₂.elim
  | _=>exact hr.elim
#where
section
variable {X:Cx}
inductive RQ [1][11]:Zaa
 | mk [158][166][62](_:aU K H p Zym)[66]
def LU [112]:#[id,ZiK,(RQ X.K)]:=by
 intro pins s σ H xs us Q I r h;obtain⟨p,ns,rfl,hq,hz,q⟩:=h;obtain⟨u,rfl,rx⟩:=ZeR;cases rx;obtain⟨its,rv,pl,_⟩:=Zn3;have hl:=rv.length;rw[Y5]at hl;refine #[a_w,Pn,pl];rw[show Zbdv by unfold firstMet;rw[Zv,<-hl,AA]]at hS;obtain⟨d1,d2⟩:=ZaWp;exact Zbdw
#where
#print Wz
set_option maxRecDepth 1000000
set_option maxHeartbeats 8000000
namespace Wz
open PySem L2
def WA (q:LJ):#[R5,Zb6,q.q1]:=rfl
def WB (q:LJ):#[R5,Za',q.q2]:=rfl
def WC (q:LJ):#[R5,Zcd,q.q3]:=rfl
def WD (q:LJ):#[R5,Zcm,q.q4]:=rfl
def WE (q:LJ):#[R5,Zc0,q.q5]:=rfl
def WF (q:LJ):#[R5,ZaG,q.q6]:=rfl
def WG (q:LJ):#[R5,ZaU,q.q7]:=rfl
def WH {q:LJ}[274](h1:w≠Zb6)(h2:w≠Za')(h3:w≠Zcd)(h4:w≠Zcm)(h5:w≠Zc0)(h6:w≠ZaG)(h7:w≠ZaU):#[ft,ZR4] w=Zac:=by
 unfold szL;rw[ZU,Ziy h1,ZU,Ziy h2,ZU,Ziy h3,ZU,Ziy h4,ZU,Ziy h5,ZU,Ziy h6,ZU,Ziy h7];rfl
#print Wz
namespace L2
open PySem
abbrev m8 (st:Stmt):Expr:=match #[D0,0].getD 1 (Stmt.Pass Zu8) with
 | Stmt.If _ (Stmt.Assign _ (Expr.Call _ [_,_,l] _ _) _::_) _ _=>l
 | _=>Expr.Constant Zay 0 Zu8
#print L2
namespace Wz
open PySem L2
abbrev Xf (d:Nat)[32](v:V)(f:ay):Zaa:=∃ p,v=Zcs/\#[xx,d]
abbrev Vs (_:Hp)(v:V)(x:Int):Zaa:=v=Zag x
inductive PH [65](d:Nat)(fl c1:Addr)(vy:V)[55]:Zaa
 | mk (h:ZaSO)(h2:#[a1C,#[aLl,ql],ZtB,(Xf d)])
abbrev SL [65]:Nat->Sp
 | 0=>fun _ _ _ _=>ZiM
 | d+1=>rH P0 lp ql cF Zm6 Zm6 (brM d)
def yT {d:Nat}[38]:∀ [455][175],Za0 (Xf d H) vs fs->∃ ps:ZeZ,vs=Zkb Za6/\ZaP8
 | _,_,Zan=>#[ib,[],Zan]
 | _,_,ZaMQ=>by
  obtain⟨ps,rfl,p⟩:=yT t;obtain⟨q,rfl,hq⟩:=h;exact#[ib,q::ps,ZaC hq p]
def wf [38]:∀ [455]{gs:Zbp},Za0 (Vs H) vs gs->vs=Zow Zar
 | _,_,Zan=>rfl
 | _,_,ZaMQ=>by
  rw[wf t,show _=Zar _ from h];rfl
def xO [13](h:Ts rd):∀ [42][34][390](r:Zbq),dI rd n l=Zab (xs,r)->#[GG,ZaL]
 | 0,l,xs,r,e=>by cases e
 | n+1,l,xs,r,e=>by
  rw[dI]at e;split at e
  ·rename_i hd
   obtain⟨p,e1,e2⟩:=ZHG;obtain⟨q,e3,e4⟩:=ZM1;injection e4 with e5 e6;have h1:=#[aZ0,xO];have h2:=Lg h (show rd ZEp=Zab (p.1,p.2) from e1)
   have h3:0<Zcc:=by cases l with | nil=>cases hd | cons _ _=>exact Zbdi
   rw[ZI]at h2;rw[<-e5,Zx]
   lia
  ·split at e
   ·injection e with e
    injection e with e _;rw[<-e];exact Zce
   ·cases e
abbrev xE [167]:Zbq:=ZK2
mutual
noncomputable def ay.txt:ay->Zbq
 | Zen=>#[JY,ZdJ,ZaeC]
 | Zke=>#[JY,ZaG,ZoI fs]
 | Zoz=>#[JY,ZaU,ZGb]
 | ZeP=>Zia
noncomputable def ay.txtL:Zb9->Zbq
 | []=>[]
 | Zfm=>ZGb++ZoI fs
end
def wF:#[aIW,ZoI,Zav1]
 | []=>#[bm,ZoI]
 | Zfm=>#[WH,ZoI,wF]
abbrev ay.Good:#[c2,Nat,ay]
 | 0,_=>False
 | _+1,Zen=>Zap7
 | _+1,ZeP=>Zhg
 | n+1,Zoz=>ZDD
 | n+1,Zke=>#[aTM,ZDD]
abbrev u8 (r:Zbq):Zaa:=∀ c,#[pz,r.head?]->ZZM
def Cb {p r:Zbq}(hp:∀ c∈p,ZKU)(hr:u8 r):ZaOw/\(p++r).drop #[aW,(eQ (p++r))]=r:=by
 have e:ZaOw:=by
  induction p with
  | nil =>
   cases r with
   | nil=>rfl
   | cons c r =>
    unfold eQ;rw[aXN,List.takeWhile_cons,hr c rfl];rfl
  | cons c p ih =>
   have:=ih fun d hd=>hp d #[dM,hd];unfold eQ at this ⊢;rw[aXe,List.takeWhile_cons,hp c Ze]
   show c::_=_
   rw[this]
 exact⟨e,#[a_,e,List.drop_left]⟩
def zL {c:Nat}(h:ZZL):ZKU:=by
 unfold eZ at h;have:=ZF h;unfold oj;exact ZqE
def QD {c:Nat}(h:ZLf):ZKU:=by
 unfold oj;exact ZqE
def EO [345]:#[ot,Zia,eZ c=Zae]:=by
 unfold gI at h;rw[Z7]at h;exact #[WO,h.2]
def OD [128]{r:Zbq}(hr:u8 r):ZlX (xE g++r)=Zab (g,r):=by
 obtain⟨e1,e2⟩:=Cb (p:=xE g) (#[gQ,QD ((lH h).1 c hc)]) hr;unfold numAt;rw[e2,e1];obtain⟨ds,N,e⟩:=vV h;rw[#[bh,toS (xE g)=gn g,iz _],JD N,e];rfl
def wY (r:Zbq):u8 (41::r):=fun c h=>by cases Zl h;rfl
def wk [13]{tx:α->Zbq}(rest:Zbq):∀ [390][42],(#[rF,∀ r,u8 r->rd (tx x++r)=Zab (x,r)])->ZaL<n->dI rd n Za''=Zab (xs,rest)
 | [],n,_,hn=>by
  obtain⟨m,rfl⟩:ZaS8:=⟨n-1,by simp at hn;lia⟩;exact DF rfl
 | ZcI,n,h,hn=>by
  rw[Zx]at hn;obtain⟨m,rfl⟩:ZaS8:=⟨n-1,Zad⟩
  have e:((x::xs).flatMap ZUd)++ZU8=32::(tx x++Za''):=ZaA
  rw[e]
  have he:u8 (Za'_++ZU8):=by
   cases xs with
   | nil=>exact wY ZcV
   | cons y ys=>intro c hc;cases ZH4;rfl
  rw[Hb rfl (h x Ze _ he),wk ZcV xs m (ZQT) Zah];rfl
def vB [78](tx:α->Zbq):∀ xs:ZdZ,ZaL<=#[aX,Za'9,ZUd]
 | []=>ZaN
 | ZcI=>by
  have:=vB tx xs;rw[List.flatMap_cons,Zh,Zx,Zx]
  lia
def D5 (f:bB):(#[ot,aZ ZdJ,eZ c=Zae]):=by
 have k:∀ s:Str,s∈Zwz->#[ot,aZ s,eZ c=Zae]:=by
  have:#[aQz,(aZ s).all eZ]:=Zal
  intro s hs c hc;exact #[Ug,(ZrY Zcl s hs)]
 cases f<;>exact k _ (by unfold kindsL bB.word;simp)
def zP:(#[ot,aZ ZaG,eZ c=Zae])/\(#[ot,aZ ZaU,eZ c=Zae]):=by
 have:(aZ ZaG).all eZ=Zae/\(aZ ZaU).all eZ=Zae:=Zal
 exact⟨#[WO,Zhe],#[WO,Zts]⟩
def OE [423]:fC ZdJ ZlY=#[c3,.pl,f]:=by
 unfold fC
 cases f with
 | pair a b=>rw[#[Ba,Zaqq,Zb6]];rfl
 | line g=>rw[#[Dy,Za',Zb6],#[Dy,Za',Zc0],Zafo,#[Ba,(ZCQ g),Za']];rfl
 | star g=>rw[#[aaQ,Zb6],#[aaQ,Zc0],Zafo,#[aaQ,Za'],#[Ba,(ZO2 g),Zcd]];rfl
 | all g=>rw[#[Jf,Zb6],#[Jf,Zc0],Zafo,#[Jf,Za'],#[Jf,Zcd],#[Ba,(Zak3 g),Zcm]];rfl
 | quad a b c d =>
  rw[#[Dy,Zc0,Zb6],#[Ba,Zatk,Zc0]]
  show #[aaK,ZEQ]
  rw[Y9 (ok.2.2 a b c d rfl)]
def zR:∀ (d:Nat)(f:ay),ZY5->∀ r,u8 r->ZfA d (Zkk++r)=Zab (f,r)
 | 0,_,h,_,_=>h.elim
 | d+1,ZeP,h,r,hr=>by
  have h:Zhg:=h;obtain⟨e1,e2⟩:=Cb (p:=Zia) (#[gQ,zL (EO h c hc)]) hr
  have hd:(Zia++r).head?≠Zab 40:=by
   have hl:=(uA h).1;rw[dN]at hl
   cases e:Zia with
   | nil=>rw[e]at hl;simp at hl
   | cons c l =>
    intro z;have hc:=EO h c (#[yu,Ze]);have z:c=40:=Zl z;rw[z]at hc;cases hc
  rw[ay.txt,ZaOK,e2,e1,iz,ZcH]
 | d+1,Zen,h,r,hr=>by
  obtain⟨ok,gs⟩:Zap7:=h
  have e:#[afy,ZqN,ZdJ,ZaeC]:=#[fp,ZwA]
  rw[e,Zac3,aXK,aXg]
  have he:u8 (ZaeC++41::r):=by
   cases f.gs with
   | nil=>exact wY r
   | cons y ys=>intro c hc;cases ZH4;rfl
  obtain⟨e1,e2⟩:=Cb (p:=aZ ZdJ) (#[gQ,zL (D5 f c hc)]) he;unfold brM;rw[e2,e1,iz,Y8 (#[aF,Zai5 ZXP ZWt]),#[agn,ZlY,OD (gs g hg) hr,xE,ZlY]]
  show (fC ZdJ ZlY).map _=_
  rw[OE ok];rfl
 | d+1,Zoz,h,r,hr=>by
  have h:ZY5:=h
  have e:#[afy,ZAh,ZaU,ZaGW]:=#[fp,ZwA]
  rw[e,Zac3,aXK,aXg];obtain⟨e1,e2⟩:=Cb (p:=aZ ZaU) (#[gQ,zL (zP.2 c hc)]) (show u8 (ZaGW++41::r) from fun c hc=>by cases ZH4;rfl);unfold brM;rw[e2,e1,iz,Y9 (Zap rfl),#[agn,[f],#[avv,zR d f h r hr],ZwA,[f]]]
  have e9:jV ZaU [f]=#[c3,Zoy,f]:=by unfold jV;rw[Zdz]
  rw[Option.bind_some,e9];rfl
 | d+1,Zke,h,r,hr=>by
  obtain⟨h1,h2,h3⟩:#[aTM,ZY5]:=h
  have e:#[afy,ZakK,ZaG,ZaGV]:=by rw[ZwA,wF];simp
  rw[e,Zac3,aXK,aXg]
  have he:u8 (ZaGV++41::r):=by
   cases fs with
   | nil=>exact wY r
   | cons y ys=>intro c hc;cases ZH4;rfl
  obtain⟨e1,e2⟩:=Cb (p:=aZ ZaG) (#[gQ,zL (zP.1 c hc)]) he;unfold brM;rw[e2,e1,iz,Y9 (Zam rfl),#[agn,fs,zR d g (h3 g hg) r hr,ZwA,fs]]
  show (jV ZaG fs).map _=_
  unfold jV;rw[ZaB,Y9 ZuP];rfl
def ay.Good.up:#[awu,#[DB,ZdX]]
 | 0,_,h=>h.elim
 | n+1,Zen,h=>h
 | n+1,ZeP,h=>h
 | n+1,Zoz,h=>#[aJB,h]
 | n+1,Zke,h=>⟨h.1,ZHE,fun f hf=>#[aJB,ZaOs]⟩
def ay.Good.le {n m:Nat}[467](h:ZDD)(hl:n<=m):#[DB,m]:=by
 induction hl with
 | refl=>exact h
 | step _ ih=>exact ih.up
abbrev tI [454]:Nat:=if ZpX then 16030 else ZaFS
abbrev tS:ZaFF
 | []=>0
 | ZcI=>tI x+ZuI
def Ca:∀ a b:ZkZ,tS (a++b)=tS a+tS b
 | [],b=>#[f7,aXN,tS]
 | x::a,b=>by rw[aXe,tS,tS,Ca a b];lia
def GS:∀ gs:Zbp,(∀ g∈gs,ZmO)->#[aX,Zak4,ZaaI]<=13*Zki
 | [],_=>ZaN
 | g::gs,h=>by
  have ih:=GS gs ZanR;have h2:=(lH (h g Ze)).2;have h3:#[aX,xE,g]=ZaT5:=rfl;rw[List.flatMap_cons,Zh,Zx,Zx]
  lia
def O9 (f:bB):#[aX,aZ,ZdJ]<=4:=by
 have k:#[aQz,#[lx,#[aX,aZ,s]<=4]]:=Zal
 cases f<;>exact ZF (ZM.mp k _ (by unfold kindsL bB.word;simp))
def AO [261](h:ZpK)(e:ZpX)(g:ZDE):#[CR,x.1]<=790:=by
 rw[e]at g;rcases Ztv e with ⟨f,z⟩ | ⟨w,z⟩
 ·rw[z]at g ⊢
  obtain⟨ok,gs⟩:Zap7:=g;have h1:=GS ZlY gs;have h2:=O9 f;have h3:=Zp4;rw[ay.txt,Zx,Zh,Zh,ZS]
  lia
 ·rw[z]at g ⊢
  have h1:=uA (show Zhg from g);rw[ay.txt,<-dN]
  lia
def PY [261](h:ZpK)(g:ZDE):ZaFS<=tI x:=by
 unfold tI;split
 ·rename_i e
  have:=AO h e g
  lia
 ·exact ZaN
def HR:#[qc,#[aX,ZoI,fs]=ZaGB]
 | []=>#[bm,ZoI]
 | Zfm=>by rw[ZoI,Zh,Zx,HR fs,Zr,aQy]
def Lx (f:ZuL)[81]:#[zu,((Zaav).map f).sum=k*(Zkf f).sum]
 | 0=>by rw[Za'z,Za'A,Za'B];rfl
 | k+1=>by rw[aQi,aQk,Zp,Zbaa,Lx f fs k,Za'C,aXW]
def P3:∀ [39],ZR'->ZaCK->((xs.map (·.1)).map Zak9).sum<=ZuI
 | [],_,_=>ZaN
 | ZcI,h,g=>by
  have ih:=P3 (ZQT) #[QS,g];have:=PY ZAy (g x Ze);rw[Zr,Zr,aQy,tS]
  lia
def LC:#[aTr,tS,ZO3]
 | [],_=>rfl
 | ZcI,h=>by
  rw[tS,LC ZQT,Zx];unfold tI;rw[Y9 ZAy]
  lia
def G8:∀ [39],ZR'->ZaCK->ZaCJ->((xs.map (·.1)).map Zak9).sum<=800*ZaL
 | [],_,_,_=>ZaN
 | ZcI,h,g,e=>by
  have ih:=G8 (ZQT) (#[QS,g]) #[QS,e];have:=AO ZAy (e x Ze) (g x Ze);rw[Zr,Zr,aQy,Zx]
  lia
def Ff [81]:Zawv=ZaGB+5:=by
 have e:#[aX,aZ,ZaG]=3:=Zal
 rw[ay.txt,Zx,Zh,Zh,HR,e,ZS]
 lia
def FW (f:ay):#[CR,ZAh]=Zak5+7:=by
 have e:#[aX,aZ,ZaU]=4:=Zal
 rw[ay.txt,Zx,Zh,Zh,Zx,e,ZS]
 lia
def Vd [39]{k:Nat}[303](g:ZWr)[304]:(ay.row (List.replicate k (xs.map (·.1))).flatten).txt.length+1<=ZuI+6:=by
 rw[Ff,Lx];rcases hk with rfl | ⟨hk,h1⟩
 ·have:=P3 ok g
  rw[Nat.one_mul]
  lia
 ·have h2:=G8 ok g h1
  rw[LC h1];have:=aXG hk h2
  lia
def AC [39][261](h:∀ y∈xs,ZaNU)(hx:ZDE):#[jZ,xs++[x],ZaNU]:=fun y hy=>by
 rcases ZIh with z | z
 ·exact h y z
 ·rw[ZcA];exact hx
def L8 [175]{M:Nat}(h:#[OP,#[DB,M]])[283](h1:1<=ZaFL)(h2:ZaFL<=60):#[DF,ZHn,Zkd,Zaav]:=by
 refine#[aKz,AS,AS,ZWS];obtain⟨l,hl,hf⟩:=Za81 hf;rw[(List.mem_replicate.mp hl).2]at hf;exact h f hf
inductive PF [12]:Zaa
 | mk (d c:Int)(_:#[adV,d])(_:0<=d)(_:∀ (p:Addr)(f:bB)(H':Hp),#[aZ,p]->ZbU->#[dT,p6 H' p f,f.Ok,(Zap6),ZfL])
inductive FE [12]:Zaa
 | mk (s nm:Addr) (d:Int) (ws:Zbo) (xs:ZkZ) (h_0:vs=[Zai s,ZHc,Zai nm]) (h_1:0<=d) (h_2:Qr H s xs) (h_3:ZaL5) (h_4:Zawn) (h_5:ZaBA) (h_6:ZWq) (h_7:ZaL<=20) (h_n:ZWr)
  (h_8:∀ (ys:ZkZ)(H':Hp),Qr H' s ys->(∀ x∈ys,ZpK)->Zn9<=ZaL+1->Cj ys<=ZuH+20->#[dT,(∀ x∈ys,ZDE),tS ys<=ZuI+ZO3,(#[vo,Zim,s,ZAl]),ZaH]):#[Ie,FE]
inductive Fz [12]:Zaa
 | mk (l nm:Addr) (c:Int) (ds:Zbp) (ws:Zbo) (h_0:vs=[Zai l,ZzE,Zai nm]) (h_1:#[aQ,l,Zol]) (h_2:#[ajy,0<=d]) (h_3:ZiO<=9) (h_4:ZaL5) (h_5:Zawn) (h_6:ZaBA)
  (h_7:∀ (p:Addr)(f:ay)(H':Hp),ZbU->#[x7,8]->#[dT,Za'x,ZDC,Zak7,ZfL]):#[Ie,Fz]
inductive B3 [42][12]:Zaa
 | mk [158][424](_:ZDD)(_:#[ak6,Zak_])(_:#[w_,(Zaf (toS Zkk))])
def Al:ZaNA:=Zal
def JU {x y:Str}(h:aZ x=aZ y):x=y:=by rw[<-iz x,h,iz]
def II [128]:Zbac:=by
 have h1:=h.1;have h2:=h.2;exact Zz (#[eA,Zbab<10 ^ 12]) (Zal)
def Hl [175][467](h:ZIL):#[ak6,Zawv]:=by
 rw[Ff]
 have:∀ l:Zb9,f∈l->#[ak6,#[Z4,Zak9]]:=fun l=>by
  induction l with
  | nil=>intro z;cases z
  | cons x l ih =>
   intro z;rw[Zr,aQy];rcases Znj with rfl | z
   ·lia
   ·have:=ih z;lia
 have:=Zcl _ h
 lia
def Qx (f:ay):#[afq,#[aOM,Zak'],ZAh]:=by
 refine JU ?_
 have e1:#[aO6,Zak',ZaU]:=Zal
 have e2:ZaeG:=Zal
 rw[eG,eG,gV,gV,e1,e2,ay.txt];simp
def Pk [175](h:ZGc):#[afq,#[fH,Zala]++#[KL," ",Zkf,ZSJ],ZakK]:=by
 cases fs with
 | nil=>exact #[uf,h]
 | cons f fs =>
  refine JU ?_
  have e1:#[aO6,Zala,ZaG]:=Zal
  have e2:ZaeG:=Zal
  have e3:#[aeB,(Zkf ZSJ).map,aZ (ZbC " ")]=ZON Zav1:=by
   rw[ZK,Al]
   show #[j3,(Zkf fun f=>32::Zabv)]=_
   have e:(fun f:ay=>32::Zabv)=fun f:ay=>ZGb:=ZO4 fun f=>#[d9,gV]
   rw[e];rfl
  rw[eG,eG,Zr,Kz,e3,gV,gV,e1,e2,ay.txt,ay.txtL,wF];simp
def SE {f:bB}(h:1<=Zaku):#[afq,#[fH,"("]++ZdJ++ZbC " "++#[KL," ",Zww,gn],ZqN]:=by
 refine JU ?_
 have e1:aZ #[da,"("]=[40]:=Zal
 have e2:ZaeG:=Zal
 rw[eG,eG,eG,eG,e1,e2,gV,ay.txt,Al]
 cases e:f.gs with
 | nil=>rw[e]at h;exact #[uf,h]
 | cons g gs =>
  have e3:#[aeB,(Zow gn).map,aZ (ZbC " ")]=Zak4 ZaaI:=by
   rw[ZK,Al];rfl
  rw[Zr,Kz,e3]
  show _=#[JY,ZdJ,((32::xE g)++Zak4 ZaaI)]
  simp[xE]
def Eh:#[awu,∀ c∈f.txt,c<128]
 | 0,_,h=>h.elim
 | n+1,ZeP,h=>fun c hc=>by
  rw[ay.txt]at hc;have:=EO (show Zhg from h) c hc;unfold eZ at this;have:=ZqT
  lia
 | n+1,Zen,h=>fun c hc=>by
  rw[ay.txt]at hc;rcases Zuq with rfl | hc
  ·decide
  rcases Zny with hc | hc
  ·have:=D5 f c hc
   unfold eZ at this;have:=ZqT
   lia
  rcases Zny with hc | hc
  ·obtain⟨g,hg,hc⟩:=Zay8
   rcases Zuq with rfl | hc
   ·decide
   ·have:=(lH (h.2 g hg)).1 c hc
    lia
  ·rw[ZYC];decide
 | n+1,Zoz,h=>fun c hc=>by
  rw[ay.txt]at hc;have ih:=Eh (n:=n) (f:=f) h;rcases Zuq with rfl | hc
  ·decide
  rcases Zny with hc | hc
  ·have:=zP.2 c hc
   unfold eZ at this;have:=ZqT
   lia
  rcases Zny with hc | hc
  ·rcases Zuq with rfl | hc
   ·decide
   ·exact ih c hc
  ·rw[ZYC];decide
 | n+1,Zke,h=>fun c hc=>by
  rw[ay.txt,wF]at hc;rcases Zuq with rfl | hc
  ·decide
  rcases Zny with hc | hc
  ·have:=zP.1 c hc
   unfold eZ at this;have:=ZqT
   lia
  rcases Zny with hc | hc
  ·obtain⟨g,hg,hc⟩:=Zay8
   rcases Zuq with rfl | hc
   ·decide
   ·exact Eh (n:=n) (Ztv g hg) c hc
  ·rw[ZYC];decide
def zC [69][467](h:ZDD):#[SN,oK]:=Aj #[gQ,Eh h c (by have hc:c∈Zabv:=hc;rwa [gV]at hc)]
def GK.seq [7][16][41][31][202][415]:ZaI2:=by
 rcases h with (h | ⟨o,h⟩) | h
 ·exact Zam (Zam (g _ _ h fun _ z=>nomatch z))
 ·exact Zam (Zap ⟨o,g _ _ h fun _ z=>nomatch z⟩)
 ·exact ZXr
#print Wz
namespace L2
open PySem
def L6 [9][7][161]{sp sp':Sp}(m:#[Od,sp' vs H Q E->Zjn])(F:ZaoQ):#[aoP,sp'] :=
 ⟨#[akz,F.len vs H Q E (m vs H Q E h)],#[a'm,ZMC A ZbA s H Zhs us vs Q E hr e0 hb r (m vs H Q E h)]⟩
#print L2
set_option maxHeartbeats 8000000
namespace Wz
open PySem L2
abbrev JC [98]:Zgk:=if Zage then some (numV (ZaLZ (· - 48))) else none
def RS [98]:ZCP z=JC z:=by
 unfold JC
 by_cases h:ZxO
 ·have h2:Zage:=ZFW h
  rw[ZHh];obtain⟨ds,N⟩:=h;rw[JD N]
  have e:ZaLZ (· - 48)=ds:=by
   unfold aZ;rw[N.eq,ZK]
   have:((· - 48) ∘ (·+48):Nat->Nat)=id:=ZO4 #[cy,#[gd,x+48-48=x]]
   rw[this,List.map_id]
  rw[e]
 ·have h2:¬ (Zage):=#[bl,h ((pj z).mpr q)]
  rw[Zt0,SI (fun ds q=>h ⟨ds,q⟩)]
abbrev Jm [34]:ZaBZ:=#[aY0,JC]
def Jn:ZlX=Jm:=funext fun l=>by unfold numAt Jm;rw[RS]
abbrev F9:ZaIz
 | 0,_=>none
 | d+1,l =>
  if ZakW then
   (if ZaSM then #[aRc,(F9 d)]
   else #[aRd,Jm])
  else ZakT
def Ga:∀ d,ZfA d=F9 d
 | 0=>ZO4 fun l=>#[a_,ZfA,F9]
 | d+1=>ZO4 fun l=>by rw[ZfA,F9,Ga d,Jn]
abbrev N8 [98]:Bool:=match F9 8 Zgn with
 | Zab (_,[])=>false
 | _=>true
def Nv [301](h:ZaMj):Zafd:=fun f e=>by
 unfold N8 at h;rw[Ga 8]at e;rw[e]at h;cases h
def Eg {x y:Str}(h1:oK x)(h2:oK y):oK (x++y):=Aj fun c hc=>by
 have hc:c∈aZ (x++y):=hc;rw[eG]at hc;rcases Zny with z | z
 ·exact Ik h1 c z
 ·exact Ik h2 c z
def fS (x y:Str):ZaYK:=Zai6 x y
def NQ [29][92][28]:∀ i,i<=Zdm->#[aX,(ZwB i).filter,xf]=#[hC,gf,ZwB,i]/\∀ p∈Zaek,Zauy
 | 0,_=>⟨rfl,fun p hp=>by cases hp⟩
 | i+1,hi=>by
  obtain⟨ih1,ih2⟩:=NQ dn nm i Zah;obtain⟨d,hd⟩:∃ d,#[au,es[i]?,d]:=Zaxm;have P:=pC dn nm i;have hj:=dn i d hd;have hn:=nm d (Zy hd);rw[ZH,hd,ZG,xv,aQM,Zh,ih1]
  cases d with
  | come g=>exact Zayi
  | go g=>exact Zayi
  | exch a b =>
   have nm2:Zz'∉Zaek:=fun z=>by
    have m:o9 #[atH,0].circ a b=Zae:=by
     rw[P.al a b];unfold uv;exact Zc z
    cases e1:ZaP Zav8 a with
    | none=>simp[bf,e1]at hj
    | some x =>
     cases e2:ZaP Zav8 b with
     | none=>simp[bf,e1,e2]at hj
     | some y=>by_cases q:a=b<;>simp[bf,e1,e2,m,q]at hj
   have e:wU (gf (ZwB i)) ZGf=Zaek++[Zz']:=by
    show wT _ _=_
    unfold wT;rw[Y8 nm2]
   rw[e,Zh];refine#[db,ZpP];rcases ZY6 with z | z
   ·exact ih2 p z
   ·rw[ZcA]
    have ha:=(hn a Zavk).1;have hb:=(hn b Zavk).1;unfold j7;split
    ·exact⟨hb,ha⟩
    ·exact⟨ha,hb⟩
def Bg [78][Zbad α]:#[aXu,ZdZ]
 | [],m,_,_=>Zce
 | x::l,m,nd,h=>by
  obtain⟨n1,n2⟩:=ZaaR;have hx:=ZabE;have ih:=Bg (m:=ZaiF x) n2 #[jV,#[aRA,y≠x,#[aF,#[fP,n1,z,hy]]] (h y ZQR)];rw[Za7C hx]at ih;have:ZayK:=ZaiG hx;rw[Zx];lia
def GM [29][19](nd:ml.Nodup)(h:Zawa):Zai'<=Zhv*Zhv:=by
 have:=Bg (m:=L.flatMap fun a=>L.map fun b=>Zqt) nd fun p hp=>by
  obtain⟨h1,h2⟩:=h p hp;exact aXI.mpr ⟨p.1,h1,ZlQ #[dU,p.2,h2]⟩
 have sm:∀ (m l:Zbp),#[aX,l.flatMap,fun a=>m.map fun b=>Zqt]=Zcc*ZNn:=fun m l=>by
  induction l with
  | nil=>simp
  | cons a l ih=>rw[List.flatMap_cons,Zh,ih,Y5,Zx,Nat.add_mul,Nat.one_mul,aXW]
 rw[sm]at this;exact this
def Sn [29][92][28]:#[aX,Zbaf,xf]<=Zhv*Zhv:=by
 obtain⟨h1,h2⟩:=NQ dn nm Zdm Zbu;have P:=ZaJh;rw[ZD]at h1 h2 P;rw[h1];exact GM P.mo.nd h2
abbrev Ad [71][58][80]:Zaa:=ZnH/\(ZGH)/\(Zaww)/\ZaHN/\Zdm<=60+Zbag/\∀ p∈ps,ZaST
def Oi [92][44][29](dn:ZaaU)(nm:#[TA,Zyg])(hL:ZaHN)(h:Zdm<=60+Zbag):#[bd,ZJ5,285]:=by
 have e:=Sn dn nm
 have f:Za0s:=List.filter_eq_self.mpr fun d hd=>by
  obtain⟨p,_,rfl⟩:=ZazU;rfl
 rw[aQM,f,Zh,Y5]at e;rw[Zh,Y5];have:Zhv*Zhv<=15*15:=aXG hL hL
 lia
def Km [29][92]{e:ZgI}(P:Zacd)(hj:bf ZcK Zs5=Za5):e.1∈L/\e.2∈L:=by
 have hj:bf ZcK ZaTD=Za5:=hj
 cases e1:ZaP Zm4 e.1 with
 | none=>simp[bf,e1]at hj
 | some x =>
  cases e2:ZaP Zm4 e.2 with
  | none=>simp[bf,e1,e2]at hj
  | some y=>exact⟨#[aRH,e1],#[aRH,e2]⟩
inductive Pq [419][55]:Zaa
 | mk (p l:Addr)(A:HA)[71][58][80](_:vs=[Zcs,Zk2])(_:bq c.C H p A ZcK)(_:Zy8)(_:ZaHk)(_:#[aQk,#[a9h,Zt5->Ev c H H' q B ZazO->Q #[aj,q] H']])
inductive Hx [300][55]:Zaa
 | mk (k r:Addr)(A:KA)(B:HA)[71][58][80](_:vs=[Zai k,Zai r])(_:Nl c ck H k A mI B ZcK)(_:cR H r ps)(_:r∉Zdp)(_:ZaHk)(_:#[aQk,#[aqN,ZazO]])
def Nl.self [193][38][234]:#[JK,st,H]:=⟨B,x.hall,x.kp,fun b o e _ _=>e,ZavC,ZOr (ZO5 _)⟩
def oU.step [193][265][149]{B B1:HA}{st2:dM}{s:uX}(hk:∃ o,#[aQ,k,o])(kB:k∉Zdp)(k1:ZaJT)[213](x:oU c ck H1 k A B1 st2 s H2):#[JK,st2,H2]:=by
 obtain⟨B2,h1,h2,h3,h4,h5⟩:=x;refine#[aRu,B2,h3 b o (k1 b o e n n') ZH2 n',Zdx,ZwC h5]
 ·rcases f1 b z with y | y
  ·exact n y
  ·rw[e]at y;cases y
 ·rcases h4 b hb with y | y
  ·exact f1 b y
  ·exact Zap (t1.free y)
def oU.kin [193]{H H1:Hp}[149]{B:HA}{st st1:dM}(I:ZaHl)(x:#[aqM,st1,H1]):∃ B1,Nl c ck H1 k A mI B1 st1/\(ZaJT)/\(Zavr)/\ZIY:=by
 obtain⟨B1,h1,h2,h3,h4,h5⟩:=x;refine⟨B1,⟨h2,h1,ZcM,fun ps e=>by cases e⟩,h3,h4,h5⟩;rcases h4 _ z with y | y
 ·exact I.kB y
 ·rw[I.kp.ob]at y;cases y
structure Xc [1][419](cq y0 y1 cB cT cU cL cF:Addr):Zaa where
 xB:#[a8c,[Zd',Zfx,Zea,Zf',y0,y1,cq],cB]
 xT:#[a8c,[Zd',Zfx,Zea,Zf',y0,y1,cq,cB],cT]
 xU:#[a8c,[Zd',Zfx,Zea,Zf',y0,y1,cq,cB,cT],cU]
 xL:#[a8c,[Zd',Zfx,Zea,Zf',y0,y1,cq,cB,cT,cU],cL]
 xF:#[a8c,[Zd',Zfx,Zea,Zf',y0,y1,cq,cB,cT,cU,cL],cF]
structure gE [404](w:World)[419](cq cX ck cb ze dl y0 y1 cB cT cU cL cF kd cs:Addr)(q:LJ):Zaa where
 k:HK K mg ck
 e:Vw K mg ze
 mP:#[b1,Zbah,cq]
 mQ:#[b1,Zbai,cX]
 ms:#[b1,Zbaj,dl]
 gd:GD K Zi2 dl ZCS
 mN:#[b1,Zbak,y0]
 m:#[b1,"NoWay",y1]
 xn:#[a8c,[y0,y1,cq,cB,cT,cU,cL,cF],Zga]
 g:Xk K mg Zea cU cb cB cT kd cL
 r:Xl K mg w cF kd cs q
 x:Xc K c cq y0 y1 cB cT cU cL cF
section
variable {K:PySem.W.Frag}{mg:Zo6}{w:World}{c:HX}{cq cX ck cb ze dl y0 y1 cB cT cU cL cF kD cs:Addr}{q:LJ}(u:gE K mg w c cq cX ck cb ze dl y0 y1 cB cT cU cL cF kD cs q)
include u
def gE.mkd:type_of% u.g.mkd:=u.g.mkd
def gE.ml:type_of% u.g.ml:=u.g.ml
def gE.mt:type_of% u.g.mt:=u.g.mt
def gE.kd:type_of% u.g.kd:=u.g.kd
def gE.mp:type_of% u.g.mp:=u.g.mp
def gE.eU:type_of% u.g.eU:=u.g.eU
def gE.mU:type_of% u.g.mU:=u.g.mU
def gE.eB:type_of% u.g.eB:=u.g.eB
def gE.mB:type_of% u.g.mB:=u.g.mB
def gE.eT:type_of% u.g.eT:=u.g.eT
def gE.mT:type_of% u.g.mT:=u.g.mT
def gE.bb:type_of% u.g.bb:=u.g.bb
def gE.tt:type_of% u.g.tt:=u.g.tt
def gE.uu:type_of% u.g.uu:=u.g.uu
def gE.eL:type_of% u.g.eL:=u.g.eL
def gE.mL:type_of% u.g.mL:=u.g.mL
def gE.ll:type_of% u.g.ll:=u.g.ll
def gE.f:type_of% u.g.f:=u.g.f
def gE.md:type_of% u.r.md:=u.r.md
def gE.dg:type_of% u.r.dg:=u.r.dg
def gE.eF:type_of% u.r.eF:=u.r.eF
def gE.mF:type_of% u.r.mF:=u.r.mF
def gE.ff:type_of% u.r.ff:=u.r.ff
def gE.dp:type_of% u.r.dp:=u.r.dp
def gE.sz:type_of% u.r.sz:=u.r.sz
def gE.t1:type_of% u.r.t1:=u.r.t1
def gE.t2:type_of% u.r.t2:=u.r.t2
def gE.t3:type_of% u.r.t3:=u.r.t3
def gE.t4:type_of% u.r.t4:=u.r.t4
def gE.t5:type_of% u.r.t5:=u.r.t5
def gE.t6:type_of% u.r.t6:=u.r.t6
def gE.t7:type_of% u.r.t7:=u.r.t7
def gE.msz:type_of% u.r.ms:=u.r.ms
#where
def cR.gk [401][202]:ZaaN:=by
 obtain⟨as,h1,p⟩:=h;exact#[ai9,g.lst h1,g.tup z]
def i8.gk [16][221][171](h:ZaNk)[202]:i8 H' l ds:=by
 obtain⟨as,h1,p⟩:=h;exact#[ai9,g.lst h1,by rw[vq]at z ⊢;exact g.tup z]
def GK.dK [195][45]{xs:Zip}(e:#[cp,ZaxV]):#[ph,ZaxV]:=k b _ e fun _ z=>nomatch z
def GK.ins [195]{b C dx:Addr}{xs:ZoZ}(e:#[cp,Zaz6]):#[ph,Zaz6]:=k b _ e fun _ z=>nomatch z
def bq.gk [196][111][254][202]:Zade :=
 ⟨Zacr,x.nd,ZoJ x.w,ZaCF,ZoJ x.c,#[vq,x.cs,fun a y e=>ZoJ e],x.d.gk g⟩
section
variable {c:HX}{ck ze cb:Addr}{H H':Hp}{e:Addr}{A:EA}{D:KA}{B B':HA}{st st':dM}{F:ZeZ}{P0:Addr}{lp:Pos}{ql:Str}
def fz.gk [40][202]:ZKm :=
 ⟨Zacr,⟨⟨g.ins Za'R,fun ps e=>(by cases e),fun ps e=>(by cases e)⟩,x.ki.hall.gk g,x.ki.kB,x.ki.pB⟩,x.px⟩
def gZ.gk [285][202]:ZaYg :=
 #[agw,Zacr,ZoJ x.f1,ZoJ x.f2,ZoJ x.f3,g.fg (x.fg e he),#[R7,0].gk g]
def iX.gk [46][202]:ZaeQ :=
 ⟨ZaCF,fun e he=>⟨fun h=>(let ⟨l,e1,e2,e3⟩:=ZLc h;⟨l,e1,e2.gk g,e3⟩),Zadx⟩⟩
def sE.gk [217][202]:Zabc :=
 ⟨ZoJ x.hw,g _ _ x.hm (fun _ z=>nomatch z),x.hs.gk g,x.w0,x.m0,x.s0⟩
abbrev J6 [32](F:ZeZ):Zaa:=∀ b∈F,ZAO
def J6.soft (m:Zabd):VH H F:=#[cX,⟨fun C dx fs z=>#[c',m].ins z,fun xs z=>#[c',m].tup z⟩]
def AK (t:ZQz)[122]:ZQA:=by
 have no:∀ [422],Zdf->#[adm,.dK]->#[adm,.dT]->#[adm,Zbw]->ZF5:=fun {b o} e n1 n2 n3 hb=>by
  rcases m b hb with ⟨k,h⟩ | ⟨k,h⟩ | ⟨k,h⟩<;>rw[e]at h<;>injection h with h
  ·exact n1 _ h
  ·exact n2 _ h
  ·exact n3 _ h
 rcases t with t | ⟨c',t,oc,vs,tk,q,r⟩
 ·exact Zam (k _ _ t (no t (fun _ z=>nomatch z) (fun _ z=>nomatch z) (fun _ z=>nomatch z)))
 ·exact Zap ⟨c',k _ _ t (no t (fun _ z=>nomatch z) (fun _ z=>nomatch z) (fun _ z=>nomatch z)),oc,vs,tk,k _ _ q (no q (fun _ z=>nomatch z) (fun _ z=>nomatch z) (fun _ z=>nomatch z)),r⟩
def DH [221][129](x:ZI6)[122](n:l∉F):ZaaN:=by
 obtain⟨as,h1,p⟩:=x;exact#[ai9,k _ _ h1 n,#[aEU,(m a y)]]
def DI [221][129][171](x:ZI6)(y:ZaNk)(ne:ZYK):False:=by
 obtain⟨as,h1,p⟩:=x;obtain⟨as2,h2,p2⟩:=y
 have e:as=as2:=by
  have:=Zalb h2;injection this with this;injection this with this;exact #[aNM,fun a b z=>Zbal]
 subst e
 cases p2 with
 | nil=>exact ne rfl
 | cons a _ =>
  cases p with
  | cons b _ =>
   rw[b]at a
   rename_i d _ _ _ _ _ _
   have a:=Zl a;rw[vq]at a;injection a with a;injection a with a;cases a
def RU {p l:Addr}[129](S:#[LC,p])[354]:ZIP:=fun hb=>by
 obtain⟨as,h1,_⟩:=id x;simp only[HA.fp,Zi]at hb;rcases hb with z | z | z | z | hb
 ·rw[z,S.w]at h1;cases h1
 ·rw[z,S.h]at h1;cases h1
 ·rw[z,S.c]at h1;cases h1
 ·exact DI x (z▸S.d) ne
 ·obtain⟨i,hi,e⟩:=aQX hb
  obtain⟨y,_,q⟩:=ZaoO;rw[e,h1]at q;cases q
def Pl {H0:Hp}{w m ls l:Addr}[19][129][246][354]:l∉ZmZ:=fun hb=>by
 obtain⟨as,h1,_⟩:=id x;simp only[Zi,ZX,aQv]at hb;rcases hb with z | z | z
 ·rw[z,M.hw]at h1;cases h1
 ·rw[z,M.hm]at h1;cases h1
 ·exact DI x (z▸M.hs) ne
def AV {H0:Hp}{w m ls:Addr}[19][246]:J6 H ZmZ:=fun b hb=>by
 obtain⟨as,h3,_⟩:=M.hs;simp only[Zi,ZX,aQv]at hb;rcases hb with rfl | rfl | rfl
 ·exact #[h',M.hw]
 ·exact #[mT,#[aR,M.hm]]
 ·exact #[nx,#[aR,h3]]
def gZ.kp [285][122](n:ZwD∉F/\ZwE∉F/\ZwF∉F)[281]:ZaYg :=
 #[agw,k _ _ ZiT #[aF,(m _ z).ins ZiT],k _ _ x.f1 n.1,k _ _ x.f2 n.2.1,k _ _ x.f3 n.2.2,(x.fg e he).mono fun b ys z=>#[aEU,(m _ y)],#[aU3,ZR7,ZR7]]
def iX.kp [46][122](n:d∉F)[281]:ZaeQ :=
 ⟨k _ _ x.h n,fun e he=>⟨fun h=>(let ⟨l,e1,e2,e3⟩:=ZLc h;⟨l,e1,#[aU3,e2,e2],e3⟩),Zadx⟩⟩
def sE.kp [217](k:Zaam)(mu:Zabd)(n:ZaHW):Zabc :=
 Q6 x k (fun b xs e z=>(mu b z).tup e) n
def fz.kp [40][122][456]:ZKm:=x.kept k m.soft dj
#where
abbrev Fr [32](b:Addr):Zaa:=∀ o,Zdf->∃ ps,o=Ze1 ps
def VS [38][45](h:Za9):Fr H b:=fun o e=>by rw[h]at e;cases e
def VR [16][45][202](h:Zpa):Fr H b:=fun o e=>by
 cases o with
 | tbl ps=>exact#[fK,ps]
 | _=>exact absurd (g b _ e fun _ z=>nomatch z) (by rw[h];exact fun z=>nomatch z)
abbrev Nm [172]:Zaa:=ZaST
def Tt {l:Zbp}(h:∀ g∈l,ZdP):∀ p∈qK l,Nm p:=by
 induction l with
 | nil=>exact fun p hp=>nomatch hp
 | cons g l ih =>
  intro p hp;rcases ZY6 with z | z
  ·obtain⟨o,ho,rfl⟩:=ZG8
   exact⟨h g Ze,h o #[dM,ho]⟩
  ·exact ih (ZanR) p z
def Wl [423](h:∀ g∈f.gs,ZdP):∀ p∈f.row,Nm p:=by
 cases f with
 | pair a b=>intro p hp;rw[Zcz hp];exact⟨#[uV,a],#[uV,b]⟩
 | line g=>intro p hp;exact⟨h _ (aXM hp).1,h _ (ZO1 (aXM hp).2)⟩
 | star g =>
  intro p hp;obtain⟨o,ho,rfl⟩:=ZdI hp;refine#[m1,h o (ZO1 ho)]
  cases g with
  | nil=>simp at ho
  | cons a g=>exact h a Ze
 | all g=>exact Tt h
 | quad a b c d =>
  have h1:=#[uV,a];have h2:=#[uV,b];have h3:=#[uV,c];have h4:=#[uV,d];intro p hp;simp only[bB.row,Pb,Zi,ZX,aQv]at hp;rcases hp with z | z | z | z | z | z<;>rw[z]<;>constructor<;>assumption
def wZ [20](sb:ZaLj):∀ [42](f:ay),ZDD->ZDe->ZaqY
 | 0,_,h,_=>h.elim
 | n+1,Zen,h,_=>by
  rw[ay.rowF];exact Wl h.1 #[eB,IG (h.2 g hg)]
 | n+1,ZeP,h,hl=>by
  rw[ay.rowF];rw[ay.len]at hl;unfold gW at hl;unfold j3
  cases e:Zlj with
  | none=>exact fun p hp=>nomatch hp
  | some x=>rw[e]at hl;exact sb x ZuW hl
 | n+1,Zoz,h,hl=>by
  rw[ay.rowF];rw[ay.len]at hl;exact #[lu,wZ sb n f h hl p (Za9' hp)]
 | n+1,Zke,h,hl=>by
  rw[ay.len]at hl;rw[ay.rowF,oE];intro p hp0;obtain⟨f,hf,hp⟩:=ZakF hp0;refine wZ sb n f ZaOs ?_ p hp;refine ZV ?_ hl;clear hl hp h hp0
  induction fs with
  | nil=>cases hf
  | cons g fs ih =>
   rw[ay.lenL];rcases Zcw hf with z | z
   ·rw[z];lia
   ·have:=ih z;lia
#print Wz
namespace L2
open PySem PySem.Spec PyProof.Rows
def Rv [60]{a:Str}{j:Nat}[190]{p1 p2 pos:Pos}[106](ha:Zbam<=10) :
  #[acH,[Zkg (Zaf a) j p1,#[amL,e,p2]],(#[aPw,Q (Zaf (a++ZKi)) H1])]:=by
 intro pins s σ H Q I hq;have sl:Za9n:=ZQ;have hsa:PE X (Zkg (Zaf a) j p1) (tC (Zaf a)):=ak;refine ZX_
 show #[aIC,(#[jX,(Zkg (Zaf a) j p1)]::#[amK,e,p2]::[])]
 refine #[aDA,#[aO',hsa,Zaf a]];obtain ⟨x,H1,I1,rx,ex,eh⟩:=zz;subst ex eh;obtain⟨tk,rfl⟩:=rx
 have e0:ZiS++a=a:=by cases a with | mk c=>show (⟨#[]++c⟩:Str)=⟨c⟩;rw[Array.empty_append]
 dsimp only;rw[e0];refine #[bd5,#[D1,he,hq]];obtain ⟨x5,H5,I5,rx5,i,ei,hi,q5⟩:=zz;subst ei;obtain⟨tk5,rfl⟩:=rx5
 have hd:ZKz:=by
  by_cases h0:ZahJ
  ·rw[h0];decide
  ·exact Za9k
 have li:ZZP:=by
  have:=Zagi;rw[PySem.ofString_length]
  lia
 have l3:#[kO,a,ZKi]=Zbam+#[pZ,i]:=Zai7;exact Za8t
#print L2
namespace Wz
open PySem L2
def wj {c:Nat}:∀ {p r:Zbq},c∉p->bV c ZUl=(p,[c],r)
 | [],r,_=>by unfold bV;rw[aXN,jB,ZaB];rfl
 | a::p,r,h=>by
  have ih:=wj (p:=p) (r:=r) #[bZ,h Zz1];have na:¬ a=c:=ZaS7
  have e:bV c (a::ZUl)=(a::#[aaY,0].1,#[aaY,0].2.1,#[aaY,0].2.2):=by
   unfold bV;rw[jB,Y8 na];cases jr c (p++c::r)<;>rfl
  rw[aXe,e,ih]
abbrev rdF [98]:ZXp:=match ZUb with
 | Zab ZFy=>Zab f
 | _=>none
def ww [301][467]:Zmr↔ZfA 8 Zgn=Zab ZFy:=by
 unfold rdF
 cases e:ZUb with
 | none=>exact⟨fun h=>(nomatch h),fun h=>(nomatch h)⟩
 | some q =>
  obtain⟨g,r⟩:=q
  cases r with
  | nil=>exact⟨#[gc,(by injection h with h;rw[h])],#[gc,(by injection h with h;injection h with h;rw[h])]⟩
  | cons a r=>exact⟨fun h=>(nomatch h),fun h=>(by injection h with h;injection h with _ h;cases h)⟩
def BF [301](h:Zafd):ZmW:=by
 cases e:rdF z with
 | none=>rfl
 | some f=>exact #[oG,ww.mp,e,(h f)]
structure Ln [98]:Zaa where
 as:Zii
 ln:#[sh,900000]
section
variable (c:HX)(ck ze cb cF cU cL cB cT P0:Addr)(lp:Pos)(ql:Str)
structure FM [355](E:XK):Zaa where
 nf:ZaFE
 un:#[qp,ZUt,#[QC,cU]]
 tl:∀ f,Zmr->ZcF->ZDf->#[QC,cL]
 ro:ZaWj
 ok:ZaZ_
 no:#[aRe,∀ H1,ZyG->ZQD->lR c E H1 ZaG3]
structure FR [282](E:XK):Zaa where
 nf:ZaFE
 ok:Za0F
 ba:#[qp,ZgT bs w f=.bad,#[QC,cB]]
 ta:#[qp,ZgT bs w f=ZOS,#[QC,cT]]
 un:#[qp,ZgT bs w f=ZOT,#[QC,cU]]
inductive Ps [55]:Zaa
 | mk [275][98](_:Zabn)(_:ZabO)[218](_:FM c ck ze cF cU cL P0 lp ql H e A D B es bs L z Q E)
inductive Pz [55]:Zaa
 | mk (e:Addr)(A:EA)(dx:Addr)(Y:BA)[30](r w z:Str)(_:vs=[Zai e,ZXk])(_:ZLR)[218](h_r:ZaCh)(h_p:ZaGY)(h_w:Zt8)(h_l:ZJv)(h_b:ZRr)(_:ZaJx)
#where
inductive Lj [184][12]:Zaa
 | mk [56](_:Q (Zaf Zald) H)
inductive SO [184][12]:Zaa
 | mk [56](_:#[jK,Zkr])
inductive SQ [184][12]:Zaa
 | mk [56](_:#[w_,(Zag 0)])
inductive SN [184][12]:Zaa
 | mk [56](_:Q ZaH H)
inductive Px [300][55]:Zaa
 | mk [259][364][181](_:vs=[Zai k,ZkL,ZmN])[312](_:bK a)(_:bK b)(_:#[Uv,ZaAV,#[aqN,#[aSw,ZrE]],#[aSw,bf]])
inductive JO [300][55]:Zaa
 | mk [259][364][167](_:vs=[Zai k,Zag g])[312](_:ZdP)(_:ZZH->#[aqN,ZaPm])(_:ZafC->#[w9,Zd'])
inductive SM [300][55]:Zaa
 | mk (k t:Addr)[167](_:vs=[Zai k,Zek])(_:#[mD,Zaxy])(_:JO c ck [Zai k,Zag g] H Q E)
def Kd [76][272](hj:ZafC):bf st Zjm=Zoc:=by
 show #[axJ,Zoc]
 by_cases h:ZVq
 ·rw[ZcH]
 ·exact #[oE,(show #[axJ,Za5] by rw[ZcG]),hj]
inductive mH where
 | come [167] | rings | state
abbrev mH.w0:mH->Str
 | ZHa=>"come" | ZO_=>"rings" | ZO'=>"state"
abbrev mH.ns:mH->Zbp
 | ZhA=>[g] | _=>[]
abbrev oM [151][179](q:mH)(Q:VK)(R:ZjE):Zaa:=match q with
 | ZhA=>ZdP/\(ZZH->#[gO,#[Fo,H,ZaPm]->#[mq,ZiU]])/\(ZafC->#[w8,R H'])
 | ZO_=>ZaJ2
 | ZO'=>#[w8,#[mq,Zale]]
def oM.mono [88]{H H1:Hp}[23][76]{q:mH}{Q:VK}{R:ZjE}[331][225]:#[zm,H1,Q,R]:=by
 cases q with
 | come g=>exact⟨h.1,fun j H' m=>ZHE j H' (m.back s),fun j H' x=>Ztv j H' (ZOo x)⟩
 | rings=>exact ZaXJ
 | state=>exact ZaXJ
def oM.imp [384]{q:mH}{Q Q':VK}{R R':ZjE}[331](i:∀ v H',ZHC->Q' v H')(j:#[gO,R H'->R' H']):#[zm,H,Q',R']:=by
 cases q with
 | come g=>exact⟨h.1,fun d H' m=>i _ _ (ZHE d H' m),fun d H' x=>j _ (Ztv d H' x)⟩
 | rings=>exact ZaXI
 | state=>exact ZaXI
structure vh [98](q:mH):Zaa where
 as:Zii
 ln:Zaz1
 wd:rV 32 z=ZgU::ZaEB
 gs:∀ g∈q.ns,ZmO
inductive PD [419](ck ze:Addr)[55]:Zaa
 | mk (e t:Addr)(A:EA)(D:KA)[364](q:mH)(_:vs=[Zai e,Zek])(_:Zadc)(_:#[mD,#[VP,ZgU,ZTK]])(_:ZaWg)
abbrev Nu:Zbo:=[ZcD,ZlW,Zll]
def Qv [457]:¬ ZgU=s:=fun e=>h (by rw[<-e];cases q<;>simp[Nu,mH.w0])
def zD [457]:#[lB,ZgU,s]:=dS (Qv h)
def LL (q:mH):ID ZCS ZgU=Zag (#[aW,ZaF3]:Nat):=by
 cases q with
 | come g=>show ID ZCS #[da,ZcD]=Zar 2;decide +kernel
 | rings=>show ID ZCS #[da,ZlW]=Zar 1;decide +kernel
 | state=>show ID ZCS #[da,Zll]=Zar 1;decide +kernel
section
variable (c:HX)(ck ze cb cF cU cL cB cT P0:Addr)(lp:Pos)(ql:Str)
inductive xS [55]:Zaa
 | ask [107](h_3:ZaWg):ZZj
 | dance [275](y z:Str)[36](h_5:FM c ck ze cF cU cL P0 lp ql H e A D B es bs L z Q E):ZZj
 | name [262](h_5:ZaJx):ZZj
structure Vv [355]:Zaa where
 nf:ZaQc
 un:#[qp,ZUt,#[U2,Zalf]]
 tl:∀ f,Zmr->ZcF->ZDf->#[U2,Zban]
 ro:ZaWj
 ok:ZaZ_
 no:#[aRe,#[QB,Q (Zaf (Ri ZaG3)) H']]
abbrev We:DO->Str
 | Za5=>"done"
 | .bad=>"no: BadName"
 | ZOS=>"no: Taken"
 | ZOT=>"no: Unknown"
structure VE [282]:Zaa where
 nf:ZaQc
 ok:Za0F
 no:#[qp,Zaf7,#[QB,Q (Zaf (We Zadd)) H']]
inductive kh [55]:Zaa
 | ask [107](h_3:#[zm,H,Q,(Q (Zaf Zbao))]):ZZi
 | dance [275](y z:Str)[36](h_5:Vv c ck ze P0 lp ql H e A D B es bs L z Q):ZZi
 | name [262](h_5:VE cb P0 lp ql H Zkl Y bs w z Q):ZZi
inductive jk [12]:Zaa
 | mk (e:Addr)(z r:Str)(_:vs=[Zai e,ZcL,ZXk])(_:#[Ee,kh,ZaMS,(#[M4,∃ y,v=Ztf/\Q (.bl (Zlw (y=r))) H1]),E0])
#where
section
variable {c:HX}{ck ze cb P0:Addr}{lp:Pos}{ql:Str}{vs:Zbr}{H:Hp}{Q Q':VK}{E E':XK}
def kh.imp [306](i:∀ v H1,Q v H1->Q' v H1):#[Ee,kh,vs,Q',E']:=by
 rcases h with ⟨e,A,D,B,st,z,q,h0,h1,h2,h3⟩ | ⟨e,A,D,B,es,Y,bs,L,y,z,h0,hy,hp,h1,h2,h3,h4,s⟩ | ⟨e,A,Y,bs,y,r,w,z,h0,hy,hq,h1,h2,h3,h4,hr,hp,hs,hw,hl,hb,s⟩
 ·exact .ask e A D B st z q h0 h1 h2 (h3.imp i fun H'=>i _ H')
 ·exact ZCT e A D B es Y bs L y z h0 hy hp h1 h2 h3 h4 ⟨ZaLm,#[baz,s.un],fun f a b d H' g t=>i _ _ (s.tl f a b d H' g t),s.ro,fun f a b d h H1 H' g t m=>i _ _ (s.ok f a b d h H1 H' g t m),fun f a b d h H' g t=>i _ _ (s.no f a b d h H' g t)⟩
 ·exact Zds e A Y bs y r w z h0 hy hq h1 h2 h3 h4 hr hp hs hw hl hb ⟨ZaLm,fun f a b H1 p g t x H' e1 e2 e3 e4 e5 e6 e7=>i _ _ (s.ok f a b H1 p g t x H' e1 e2 e3 e4 e5 e6 e7),#[baz,s.no]⟩
def kh.ob [306]:∃ (e:Addr)(z:Str)(dx:Addr)(a b d:V),vs=ZaMS/\#[aQ,e,#[pq,(Ib a b d)]]:=by
 rcases h with ⟨e,A,D,B,st,z,q,h0,I,_⟩ | ⟨e,A,D,B,es,Y,bs,L,y,z,h0,hy,hp,h1,_⟩ | ⟨e,A,Y,bs,y,r,w,z,h0,hy,hq,h1,_⟩
 ·exact#[agl,z,ZwG]
 ·exact#[agl,y,h1.ob]
 ·exact#[agl,y,h1]
#where
inductive Fx [419](ck ze cb:Addr)[12]:Zaa
 | mk (e dx:Addr)(_:#[nv,e])(_:#[aQ,e,ZaAS])(_:∀ (A:EA)(D:KA)(B:HA)(Y:BA)(H':Hp),fz c ck ze H' e A D B Zlg->gZ cb H' Zkl Y []->#[dT,(#[ef,Zdf,e,ZfO]),Zavs,(#[aVz,Za9/\Zyf]),ZaH])
abbrev Tj [5][419](ck ze cb:Addr):Zaa:=#[arK,ze,aV P w K mg ZaO dR 3 fI fd ZfC Zagj,ZfC]
def DE [60]{c:HX}{ck ze cb:Addr}{p pos:Pos}(M:#[VI,Tj,c,ck,ze,cb])(U:Vw X.K ZcJ ze)(hr:d6 4 X.A)(hg:Gl X ZOY):#[afX,ZOY,ze,Zagj]:=by
 obtain⟨fI,fd,M,G,hb⟩:=M;exact #[agA,U.mE]
open Classical in
noncomputable def dncS (es:Zcv) (bs:Zcu) (f:ay):Str:=if ZcF then (if ZDe then ZaX_ else "no: TooLong") else "no: Unknown"
open Classical in
noncomputable def dncE (es:Zcv) (bs:Zcu) (f:ay):Zcv:=#[ajZ,ZcF/\ZDe,ZaQe]
structure HZ [80][71]:Zaa where
 dn:ZnH
 nm:ZGH
 ln:Zdm<=12+Zbag
 ne:Ztm
structure Sb [30]:Zaa where
 nm:#[rR,gI e.w=Zae]
 sm:ZaLj
inductive JM [12]:Zaa
 | mk (t d p w m ls:Addr) (es:Zcv) (bs:Zcu) (tv:ZeQ) (f:ay) (cn:Int) (h_0:vs=#[kF,t,d,Zcs]) (h_1:ZZ6) (h_2:ZaVD) (h_3:ZEF) (h_4:ZIN) (h_5:Za'x) (h_6:ZnO) (h_d:d∉ZmZ) (h_s:ZaqZ)
  (h_7:#[gO,ZaZ1->ZaBG->#[mq,ZVn]]):#[Ie,JM]
abbrev kK:Zbo:=["",Zb6,ZaG,ZbH,"Hey",Zbap]
abbrev y4 [244]:Zaa:=ZJM\/Zhg
inductive JR [12]:Zaa
 | mk (d p:Addr) (bs:Zcu) (tv:ZeQ) (w:Str) (f:ay) (h_0:vs=[Zai d,ZHm,Zcs]) (h_1:ZEF) (h_2:ZIN) (h_3:Za'x) (h_4:Znu) (h_b:ZRr) (h_5:Zaf7->#[w_,(Zaf (We Zadd))])
  (h_6:Zy7->∀ (x:BE)(tv':ZeQ)(H':Hp),x.w=w->ZabB->#[dT,Zae5,ZaI8,ZaBF,ZayB]):#[Ie,JR]
inductive Ls [12]:Zaa
 | mk (c:Int)[394][30](tv:ZeQ)(_:vs=[ZzE,Zm5])(_:0<=c)(_:ZEF)(_:ZuO)(h_b:ZRr)(_:#[aLk,Znu])
abbrev j6 [98]:Str:=#[fH,ZCU]++z
abbrev p8 (w z:Str):Str:=((#[fH,ZPa]++w)++Zazc)++z
inductive FB [1][12]:Zaa
 | mk (t d a w m ls:Addr) (ns:Zbp) (k:Nat) (cn:Int) (es:Zcv) (bs:Zcu) (tv:ZeQ) (h_0:vs=[Zek,Zm5,ZbV,ZXd,Zag cn]) (h_1:ZZ6) (h_2:ZaVD) (h_3:ZEF) (h_4:ZKW) (h_6:ZnO) (h_7:ZuO) (h_b:ZRr) (h_d:d∉ZmZ) (h_k:k<=100)
  (k_1:∀ (z:Str)(r:Addr)(H':Hp),Zni->ZmW->ZbU->#[aJu,Zaf (j6 z)]->Q ZjA H')
  (k_2:∀ (f:ay)(r:Addr)(H':Hp),ZDC->Zak7->#[dT,ZaZ1,ZaBG,#[b0,r,#[sT,Zafm,Zaw8]],ZjA])
  (k_3:∀ (wd z:Str)(r:Addr)(H':Hp),y4 wd->Zni->#[dT,ZmW,ZbU,#[aJu,Zaf (p8 wd z)],ZjA])
  (k_4:∀ (wd:Str)(f:ay)(r:Addr)(H':Hp),y4 wd->ZDC->Zak7->#[pD,ZgT bs wd f]->ZbU->#[b0,r,#[cS,[Zacm,Zaf (We (ZgT bs wd f))]]]->Q ZjA H')
  (k_5:∀ (wd:Str)(f:ay)(x:BE)(tv':ZeQ)(r:Addr)(H':Hp),y4 wd->ZDC->Zak7->ZgT bs wd f=Za5->x.w=wd->ZabB->Zae5->ZaI8->ZaBF->#[b0,r,#[cS,[Zacm,Zaf ZiU]]]->Q ZjA H'):FB K vs H Q E_
structure mG [419](ck ze cb P0:Addr)(lp:Pos)(ql:Str)(H0 H:Hp)(u:DU)(B:HA)(es es1:Zcv)(Y:BA)[394](bs bs1:Zcu)(tv:ZeQ):Zaa where
 ev:#[aZQ,fz]
 tt:#[aQ,u.t,#[cS,#[kF,u.w,u.m,Zai u.ls]]]
 md:#[aZM,H,(aY es1),es1]
 bk:gZ cb H u.A.bk Y bs
 td:#[EE,bs1]
 ta:ZQz
 wB:#[gK,ZyN,Zyf]
 yB:#[gK,ZV',ZaRo]
 dY:d≠ZwD/\d≠ZwE/\d≠ZwF
 ne:bs≠[]\/bs1≠[]->Ztm/\ZTJ
 g0:GK H0 H
 f0:∀ b,ZaPx->Fr H0 b
def KG {H0 H H1:Hp}{F:ZeZ}(g:GK H0 H)(k:#[qj,F])(f:∀ b∈F,Fr H0 b):GK H0 H1:=fun b o e n=>k b o (g b o e n) fun z=>by
 obtain⟨ps,q⟩:=f b z o e;exact n ps q
section
variable {c:HX}{ck ze cb P0:Addr}{lp:Pos}{ql:Str}{H0 H H1 H2:Hp}{u:DU}{B:HA}{es es1 es2:Zcv}{Y:BA}{d:Addr}{bs bs1 bs2:Zcu}{tv tv':ZeQ}
def mG.gk [6](g:ZyG)(t:ZQD):mG c ck ze cb P0 lp ql H0 H1 u B es es1 Y d bs bs1 tv :=
 ⟨x.ev.gk g,g.tup x.tt,x.md.gk g,x.bk.gk g,x.td.gk g,t,ZwH,ZrZ,Zr0,ZoK,x.g0.trans g,ZoL⟩
def mG.mono [6][225]:mG c ck ze cb P0 lp ql H0 H1 u B es es1 Y d bs bs1 tv:=x.gk (df s) (x.ta.same s)
def NF [71](h:Ztm):#[cK,0].deeds≠[]:=#[zr,B8]
def mG.law [6](M:#[aZM,H1,Zax7,es2])(k:#[qj,ZyN])(n2:ZTJ->es2≠[]):mG c ck ze cb P0 lp ql H0 H1 u B es es2 Y d bs bs1 tv:=by
 have mu:=AV x.md;have ro:#[aZv,l∉ZyN]:=#[aLn,Pl,x.md,(h n).2];exact#[aZc,ZwH b z hb,M,#[aWl,Zan4,Zan4,Zan4],#[aRg,Zan4],#[gc,⟨ZaGc,n2 (ZoK h).2⟩],#[Gm,hb]]
def qP {b l:Addr}[367][44](e:#[cp,ZXW])(r:Zy8):l≠b:=fun z=>by
 obtain⟨as,h,_⟩:=r;rw[z,e]at h;cases h
def mG.told [6](T:iX H1 d bs2 tv')(k:#[qj,[d]])[468]:mG c ck ze cb P0 lp ql H0 H1 u B es es1 Y d bs bs2 tv':=by
 have mu:J6 H [d]:=#[aPf,Zalg]
 have y:=ZrZ d (ZaA);have n1:∀ [45],b≠d->b∉[d]:=fun n z=>n (Zcz z);exact#[aZc,#[Kw,y.1],#[aFj,#[Kw,y.2]],x.bk.kp k mu ⟨n1 (Zw #[r0,0].1),n1 (Zw #[r0,0].2.1),n1 (Zw #[r0,0].2.2)⟩ fun _ l ps r=>n1 (qP Zalg r),T,#[bf,n2],#[AC,(#[fp,Zy0])]]
def mG.define [6](b2:gZ cb H1 u.A.bk Y bs2)(k:#[vn,Zim->a≠ZwD->a≠ZwE->a≠ZwF->#[hP,H1]])[468]:mG c ck ze cb P0 lp ql H0 H1 u B es es1 Y d bs2 bs1 tv:=by
 have mu:J6 H ZaSV:=fun b hb=>by
  simp only[Zi,ZX,aQv]at hb;rcases hb with rfl | rfl | rfl
  ·exact #[h',Zalh]
  ·exact #[h',Zali]
  ·exact #[h',Zalj]
 have k:#[qj,ZaSV]:=fun b o e n=>by
  simp only[Zi,ZX,aQv,not_or]at n;exact k b o e n.1 n.2.1 n.2.2
 have yy:#[aVz,ZaRo]:=fun b hb=>x.yB b (by
  simp only[Zi,ZX,aQv]at hb ⊢;rcases hb with h | h | h
  ·exact Zt4
  ·exact ZaaL
  ·exact Zap (Zap (Zam h)))
 refine⟨#[atz,(yy b z).1 hb],ZVT,#[aFj,(yy b z).2 hb],b2,x.td.kp k mu ?_ (#[bat,?_]),ZV9,x.wB,x.yB,x.dY,#[bf,n2],KG x.g0 k fun b hb=>x.f0 b (Zap (Zap (by
  simp only[Zi,ZX,aQv]at hb ⊢;rcases hb with h | h | h
  ·exact Zt4
  ·exact ZaaL
  ·exact Zap (Zap (Zam h))))),x.f0⟩
 ·simp only[Zi,ZX,aQv,not_or];exact x.dY
 ·simp only[Zi,ZX,aQv]at z
  rcases z with z | z | z
  ·exact qP Zalh r z
  ·exact qP Zali r z
  ·exact qP Zalj r z
def mG.move [6](mv:Cm c ck ze H u.e u.A u.D B Zax7 H1)(n2:Ztm->es2≠[]):∃ B',mG c ck ze cb P0 lp ql H0 H1 u B' es2 es1 Y d bs bs1 tv:=by
 obtain⟨B',e2,k,f,t⟩:=mv;have mu:J6 H Zdp:=x.ev.ki.hall.mu;have ro:#[aZv,ZIP]:=#[aLn,RU,x.ev.ki.hall,(h n).1]
 have nw:∀ [45],(Zzq)->Zyf->b∉B'.fp:=fun {b} ZnE n z=>by
  rcases f b z with y | y
  ·exact n y
  ·rw[e]at y;cases y
 have tr:#[gK,ZV',Zzq]:=fun b hb=>by
  simp only[Zi,ZX,aQv]at hb;rcases hb with rfl | rfl | rfl | rfl
  ·exact Zaxi
  ·exact Zaxj
  ·exact Zaxk
  ·exact Zaxh
 exact⟨B',e2,ZVT,x.md.kp k mu ZwH,#[aWl,Zan5,Zan5,Zan5],#[aRg,Zan5],ZV9,#[cX,nw (AV x.md b hb).some #[c',ZwH]],#[SS,nw #[c',tr] #[kt,ZrZ],ZrZ],Zr0,#[gc,#[fd,n2 ZaGc,(ZoK h)]],KG x.g0 k #[cX,ZoL b (Zam hb)],#[cX,hb.elim #[bZ,(f b z).elim (fun y=>ZoL b (Zam y)) fun y=>VR x.g0 y] #[aF,ZoL b (Zap z)]]⟩
def mG.pre [29][28]:Zacd:=by
 have:=ZaJh
 rwa [ZD]at this
def mG.desk [29][6][28](hL:Zhv<=40)(sm:Zaww)(he:ZaHO):#[aZQ,ud]:=by
 have p:=ZCV dn nm;have:=Zaes;exact⟨x.ev,Ko ZwI p.of Zah p.sz he,ZwI,Zad,#[afg,sm]⟩
def mG.weak {G:Hp}[6](s:aD G H0):mG c ck ze cb P0 lp ql G H u B es es1 Y d bs bs1 tv :=
 ⟨x.ev,x.tt,x.md,x.bk,x.td,x.ta,ZwH,ZrZ,Zr0,ZoK,ZRJ x.g0,#[NL,ZoL b hb o #[fR,s]]⟩
#where
def iX.last [38]{d:Addr}[20]{x y:BE}{tv:ZeQ}(t:#[EE,ZFF])(hw:y.w=x.w)(hn:y.n=x.n)(hr:ZmR->y.r=x.r):#[EE,(bs++[y])]:=by
 refine ZaCj
 ·have h:=t.h
  rw[Zp]at h ⊢;rw[h]
  show Zab #[aT_,ZAN,x.w]=Zab #[aT_,ZfY y.w,y.w]
  rw[hw]
 ·rcases ZqP with z | z
  ·exact t.r e ZaA3
  ·rw[ZcA]
   have q:=t.r x (ZB _ Ze);rw[hw,hn];refine⟨Zzw,q.2⟩;obtain⟨l,e1,e2,e3⟩:=q.1 h;exact⟨l,e1,#[aE,hr h,e2],#[aE,hr h,e3]⟩
def HZ.rowOk {cn:Int}[92][44][431](h:ZWX):Ad es ps Zadb :=
 ⟨x.dn,x.nm,ZaHZ,by unfold namesL;rw[Y5,aQl];decide,by have:=x.ln;lia,h⟩
def NP {cn:Int}[92][431]:Zdm<=160:=by
 have e:=Sn x.dn x.nm
 have l:#[aW,Zadb]=12:=by unfold namesL;rw[Y5,aQl];rfl
 rw[l]at e;have:=x.ln
 lia
def vw [92](h:ZnH)[42]:cz (ZwB n):=fun j d hd=>by
 rw[List.getElem?_take]at hd;split at hd
 ·rename_i q
  rw[List.take_take,ZHI];exact h j d hd
 ·cases hd
def OC [29][44]:∀ [92],ZaaU->(ZGH)->(ZWX)->∀ i,i<=Zeu->Zatm
 | es,dn,nm,sp,0,_=>by simpa using nm
 | es,dn,nm,sp,i+1,hi=>by
  have ih:=OC dn nm sp i Zah;obtain⟨p,hp⟩:∃ p,ZaCm:=Zaxm;rw[rR (es:=es) hp]
  have e1:#[J5,0].take Zab6=ZDO:=by
   rw[List.take_append,aQm Zti,ZaRY,List.map_take]
  have e2:#[au,ZJ5[ZVj]?,ZFL]:=by
   rw[aQ0 Zti,ZaRY,ZE,hp];rfl
  have hj:=dn _ _ e2;rw[e1]at hj
  have dni:ZVg:=#[aS_,dn]
  have Pi:=ZCV dni ih;obtain⟨q1,q2⟩:=ZK0;have hs:=sp p (Zy hp);intro d hd g hg;rcases ZIg with z | z
  ·exact ih d z g hg
  ·rw[ZcA]at hg
   simp[dZ,names]at hg;rcases hg with y | y<;>rw[y]
   ·exact⟨q1,hs.1⟩
   ·exact#[fd,q2,hs]
def HZ.dance [29][92][44](x:HZ L es)(sp:ZWX)(hb:Zqm):HZ L (Zyg):=by
 have dn:=J9 ps es x.dn hb;refine⟨dn,?_,?_,#[aF,ZoK ZaHS]⟩
 ·have:=OC dn x.nm sp Zeu Zbu
  rwa [ZD]at this
 ·have f:Za0s:=List.filter_eq_self.mpr fun d hd=>by
   obtain⟨p,_,rfl⟩:=ZazU;rfl
  rw[aQM,f,Zh,Zh];have:=x.ln
  lia
def HZ.dnc [29][92][20][467](x:HZ L es)(sp:ZaqZ):HZ L ZVm:=by
 unfold dncE Iw;split
 ·rename_i h
  split
  ·rename_i hb;exact x.dance (sp h.1 h.2) hb
  ·exact x
 ·exact x
def Sb.snoc [20]{x:BE}(h:ZuO)(hw:gI x.w=Zae)(hs:ZmR->∀ p∈x.r,Nm p):Sb (bs++[x]):=by
 refine⟨Ztu,Ztu⟩
 ·rcases ZqP with z | z
  ·exact h.nm e z
  ·rw[ZcA];exact hw
 ·rcases ZqP with z | z
  ·exact h.sm e z
  ·rw[ZcA];exact hs
def Bd [92][272]:iV es (Zhz g)≠[]:=by
 unfold iV;split
 ·simp
 ·rename_i h
  intro z;subst z;exact h rfl
section
variable {c:HX}{ck ze cb cF cU cL cB cT P0:Addr}{lp:Pos}{ql:Str}{H H1:Hp}{e:Addr}{A:EA}{D:KA}{B:HA}{es:Zcv}{Y:BA}{bs:Zcu}{L:Zbp}{w z:Str}{Q:VK}{E:XK}
def FM.mono (x:FM c ck ze cF cU cL P0 lp ql H e A D B es bs L z Q E)[225]:FM c ck ze cF cU cL P0 lp ql H1 e A D B es bs L z Q E :=
 ⟨ZaZw,ZaHA,fun f a b d H' g=>x.tl f a b d H' ZRK,x.ro,fun f a b d h H1 H' g=>x.ok f a b d h H1 H' ZRK,fun f a b d h H1 g=>x.no f a b d h H1 ZRK⟩
def FR.mono {bk:Addr}(x:#[Wk,H,bk])[225]:#[Wk,H1,bk] :=
 ⟨ZaZw,fun f a b H1 p g=>x.ok f a b H1 p ZRK,#[Wj,x.ba],#[Wj,x.ta],ZaHA⟩
#where
def Kl {h k b:V}:#[hU,ZLv,ZoH,b]:=by
 rw[<-F5,aE,ZaB]
def KP [402][447][40](mv:#[a0A,mI]):Zac8 :=
 Q8 (d:=Zhz 0) (m:=0) x ((Dz _ _).symm▸mv)
def J8:kK.all (fun w=>! gI w&&w.cps.all (· < 128)&&#[lx,Zfv<=13]&&!(aZ w).contains 32)=true:=Zal
def xX [274](h:Znu):Zt8/\Zfv<=13/\ZaKs:=by
 rcases h with h | h
 ·have:=ZrY J8 w h
  simp only[Z7,Bool.not_eq_true',aXz]at this;refine⟨#[he,0].1.2,#[he,0].2,ZcM⟩;have q:=Zts;rw[List.contains_iff_mem.mpr z]at q;cases q
 ·refine⟨OB h,#[e9,uA h],ZcM⟩
  have:=EO h 32 z;revert this
  decide
def SY [274](h:Znu):ZaN4↔ZJM:=by
 constructor
 ·intro n
  rcases h with h | h
  ·exact h
  ·rw[h]at n;cases n
 ·intro m
  have:=ZrY J8 w m;simp only[Z7,Bool.not_eq_true']at this;exact #[he,0].1.1
def uh [98]:bV 32 (aZ (j6 z))=(ZIc,[32],aZ z):=by
 have e:aZ (j6 z)=ZIc++ZYQ:=by unfold j6;rw[eG];rfl
 rw[e];exact ZayX
abbrev vT (w z:Str):Str:=toS (Zia++ZYQ)
def Rg (w z:Str):aZ (p8 w z)=ZAe++32::ZafU:=by
 unfold p8 vT;rw[eG,eG,eG,gV,#[lZ,aZ #[da,ZPa]=ZAe++[32]],#[lZ,ZaNA]];simp
def xy (w z:Str):bV 32 (aZ (p8 w z))=(ZAe,[32],ZafU):=by
 rw[Rg];exact ZayX
def uw {w z:Str}(h:ZaKs):bV 32 (aZ (vT w z))=(Zia,[32],aZ z):=by
 unfold vT;rw[gV];exact wj h
def zQ [467](h:ZDC):rdF ZsY=Zab f:=by
 refine ww.mpr ?_;rw[gV];have:=zR 8 f h [] (fun c hc=>nomatch hc)
 rwa [aQg]at this
def Lc [467](h:ZDC){c:Nat}(hc:ZZM):rdF (toS (Zkk++[c]))=Zac:=by
 refine BF ZWG;rw[gV,zR 8 f h [c] (#[f8,by injection hx with hx;rw[<-hx];exact hc])]at hg;injection hg with hg;injection hg with _ hg;cases hg
def BG [301](h:ZaMj):ZmW:=BF (Nv h)
def RT [34]:rdF (toS (32::l))=Zac:=by
 refine BF ZWG;rw[gV,zF 7 _ #[kC,Zab 32≠Zab 40]]at hg;have e:eQ (32::l)=[]:=rfl;rw[e,Zdz]at hg;cases hg
abbrev PM (f:ay):Zbo:=[ZSI++ZbC ")",#[aOM," "],ZSI++ZbC " ","(pair 1)","(quad 1 2 3 1)","(name hey)"]
def FF (l m:Zbq):ZaX3=toS (l++m):=by
 rw[<-iz (ZaX3),eG,gV,gV]
def UX [467](g:ZDC)(tl:Zak7):∀ z∈PM f,Zni/\ZmW:=by
 have ag:=zC g
 have l1:ZaUv:=#[aE,ic,tl]
 intro z hz;unfold PM at hz;simp only[Zi,ZX,aQv]at hz
 have e1:ZbC ")" = toS [41]:=Zal
 have e2:ZbC " " = toS [32]:=Zal
 rcases hz with rfl | rfl | rfl | rfl | rfl | rfl
 ·exact⟨⟨Eg ag (by unfold oK;decide +kernel),#[f7,fS,#[pN,")",1]]⟩,#[cB,e1,FF,ZaNF]⟩
 ·exact⟨⟨Eg (by unfold oK;decide +kernel) ag,ZaJa⟩,#[cB,e2,FF,RT _]⟩
 ·exact⟨⟨Eg ag (by unfold oK;decide +kernel),ZaJa⟩,#[cB,e2,FF,ZaNF]⟩
 ·exact⟨⟨by unfold oK;decide +kernel,Zal⟩,Zz8⟩
 ·exact⟨⟨by unfold oK;decide +kernel,Zal⟩,Zz8⟩
 ·exact⟨⟨by unfold oK;decide +kernel,Zal⟩,Zz8⟩
section
variable {c:HX}{ck ze cb P0:Addr}{lp:Pos}{ql:Str}{H0 H:Hp}{u:DU}{B:HA}{es es1:Zcv}{Y:BA}{d:Addr}{bs bs1:Zcu}{tv:ZeQ}{cn:Int}{Q:VK}{E:XK}
def Qn (cn:Int):#[aW,(ZeU 12 cn)]<=40/\#[tP,Zp']:=⟨by unfold namesL;rw[Y5,aQl];decide,ZaHZ⟩
def yW [301]{y:Str}[23][20]{Y:BA}(ev:ZabO)[469][307][432](hy:y=j6 z)[89]:ZaQV:=by
 subst hy
 have no:ZaLo:=fun h=>by rw[hn]at h;cases h
 exact⟨e,_,_,rfl,ZCT e A D B es Y bs [] _ z rfl (by unfold j6;rw[fS,ZKl];have:=ln.ln;lia) (uh z) ev bk ta ln ⟨Zawx,Zq3,Zq3,Zq3,Zq3,Zq3⟩⟩
def EM {w z:Str}(hw:Znu)(ln:Zni):#[aU1,p8]/\#[aU1,vT]/\32∈ZafU:=by
 have l1:=(xX hw).2.1;have l2:=ln.ln
 have e:aZ (vT w z)=Zia++ZYQ:=by unfold vT;rw[gV]
 refine#[k1,?_,ZGM]
 ·unfold p8
  rw[fS,fS,fS,#[pN,ZPa,5],#[pN," ",1]]
  lia
 ·rw[dN,e,Zh,Zx,<-dN,<-dN]
  lia
def pD {w z y:Str}{e:Addr}{A:EA}{Y:BA}[20](ob:ZLR)[469](bl:ZRr)[307](hw:Znu)[432](hy:y=p8 w z)[89]:ZaQV:=by
 subst hy
 have no:ZaLo:=fun h=>by rw[hn]at h;cases h
 obtain⟨n1,n2,n3⟩:=Zafa;obtain⟨w1,w2,w3⟩:=xX hw;exact#[dt,e,_,_,Zds e A Y bs _ _ w z rfl n1 (xy w z) ob bk ta ln n2 ZadI n3 w1 Zah bl ⟨Zawx,Zq3,Zq3⟩]
def Ho {f:ay}{es1:Zcv}{bs1:Zcu}(x:mG c ck ze cb P0 lp ql H0 H u B es es1 Y d bs bs1 tv)(he:es1=dncE es bs f)(e5:ZnO)(b5:ZuO)(g:ZDC)(tl:Zak7)
  (k:∀ B' H',mG c ck ze cb P0 lp ql H0 H' u B' ZVm es1 Y d bs bs1 tv->ZF3):#[Ef,u.e,Zaf Zafm,Zaf ZVn]:=by
 have ln:Zabw:=Zady;have rd:=zQ g
 have fx:Zaf1:=ZS9
 have sm:=Zau6;refine⟨u.e,_,_,rfl,ZCT u.e u.A u.D B es Y bs Zadb _ ZsY rfl (by unfold j6;rw[fS,ZKl];have:=ln.ln;lia) (uh _) x.ev x.bk x.ta ln ⟨Zzw,fun f' h kn H' g t=>?_,fun f' h kn lg H' g t=>?_,fun f' h kn le=>?_,fun f' h kn le hb H1 H' g t mv=>?_,fun f' h kn le hb H' g t=>?_⟩⟩
 ·rw[rd]at h;cases h
 ·rw[Zjs]at kn
  have e:Zacn:=by unfold dncE;rw[ZaQA]
  refine Nb (by unfold dncS;rw[ZHg]) Zae9
 ·rw[Zjs]at kn lg
  have e:Zacn:=by unfold dncE;rw[ZaMh]
  refine Nb (by unfold dncS;rw[Zqx,Zns]) Zae9
 ·rw[Zjs]at kn le ⊢
  exact#[tQ,e5.rowOk (sm le),Zwy (#[asG,x.bk.rw]) f kn le,le]
 ·rw[Zjs]at kn le hb mv ⊢
  have e:#[Uc,ZasT]:=by unfold dncE Iw;rw[ZadN,ZjB]
  obtain⟨B',x'⟩:=#[aOt,0].move mv (fun n z=>n ZaHS);exact Nb (by unfold dncS;rw[Zqx,Y9 le,ZjB]) (k B' H' (#[yu,x']))
 ·rw[Zjs]at kn le hb ⊢
  have e:Zacn:=by unfold dncE Iw;rw[ZadN,Znk]
  exact Nb (by unfold dncS;rw[Zqx,Y9 le,Znk]) Zae9
def JG {w:Str}{f:ay}{y:BE}(x:mG c ck ze cb P0 lp ql H0 H u B es es1 Y d bs (bs++[y]) tv)(hd:Zy7)(yw:y.w=w)(yn:y.n=ZDd)(yr:y.n<=ZbB->y.r=ZCM)(hw:Znu)(bl:ZRr)(g:ZDC)(tl:Zak7)
  (k:∀ (y':BE) H',y'.w=w->y'.n=ZDd->(y'.n<=ZbB->y'.r=ZCM)->mG c ck ze cb P0 lp ql H0 H' u B es es1 Y d ZaB9 ZaB9 tv->Q Zx8 H'):#[Ef,u.e,Zaf (p8 w ZsY),Zaf ZiU]:=by
 have ln:Zabw:=Zady;have rd:=zQ g
 have fx:Zaf1:=ZS9
 obtain⟨n1,n2,n3⟩:=Zafa;obtain⟨w1,w2,w3⟩:=xX hw;have ne:=ZoK (Zap Za7);refine#[Vw,Zds u.e u.A Y bs _ _ w _ rfl n1 Zayl x.ev.ob x.bk x.ta ln n2 ZadI n3 w1 Zah bl ⟨Zzw,fun f' h _ H1 p g t y' H' a1 a2 a3 a4 a5 a6 a7=>?_,fun f' h n=>?_⟩]
 ·rw[rd]at h;cases h
 ·rw[Zjs]at a2 a4 a5
  have x':=#[aOt,0].define a6 a7 ne;exact Nb rfl (k y' H' a1 a4 a5 ⟨x'.ev,x'.tt,x'.md,x'.bk,x'.td.last #[nf,a1,yw] (#[a_,a4,yn]) (#[gc,#[a_,yr h,a5 (#[vP,a4,yn,h])]]),x'.ta,x'.wB,x'.yB,x'.dY,#[bf,ne],x'.g0,x'.f0⟩)
 ·rw[Zjs]at n;exact #[oE,hd,n]
def Hq {w:Str}{f:ay}(x:mG c ck ze cb P0 lp ql H0 H u B es es1 Y d bs bs1 tv)(hd:Zaf7)(hw:Znu)(bl:ZRr)(g:ZDC)(tl:Zak7)
  (k:ZaAl):#[Ef,u.e,Zaf (p8 w ZsY),Zaf (We Zadd)]:=by
 have ln:Zabw:=Zady;have rd:=zQ g
 have fx:Zaf1:=ZS9
 obtain⟨n1,n2,n3⟩:=Zafa;obtain⟨w1,w2,w3⟩:=xX hw;refine#[Vw,Zds u.e u.A Y bs _ _ w _ rfl n1 Zayl x.ev.ob x.bk x.ta ln n2 ZadI n3 w1 Zah bl ⟨Zzw,fun f' h n=>?_,fun f' h n H' g t=>?_⟩]
 ·rw[rd]at h;cases h
 ·rw[Zjs]at n;exact #[oE,n,hd]
 ·rw[Zjs];exact ZV_
def Ml:vh ZlW ZO_:=⟨by unfold oK;decide +kernel,Zal,#[Pb,SZ],fun g h=>nomatch h⟩
def Mm:vh Zll ZO':=⟨by unfold oK;decide +kernel,Zal,#[Pb,SZ],fun g h=>nomatch h⟩
def Om [128]:vh ZaLY (Zhz g):=by
 have e:aZ ZaLY=[99,111,109,101,32]++ZK2:=#[bm,eG]
 have ls:=lH h;refine⟨Aj Zie,by rw[dN,e,Zh];show 5+_<=900;lia,D6 ZaY ?_,#[f8,#[zr,ZayJ]]⟩
 ·rw[e]at hc
  rcases Zny with hc | hc
  ·exact (Zaw:#[WQ,[99,111,109,101,32]]) c hc
  ·have:=ls.1 c hc;lia
 ·show _=sQ 32 (aZ (Zal9++gn g))
  rw[e]
  show _=sQ 32 (99::111::109::101::32::ZK2)
  rw[fD,fD,fD,fD,fD,Lv (fun hc=>#[e9,ls.1 _ hc])];rfl
def JF {g:Int}(x:mG c ck ze cb P0 lp ql H0 H u B es ZaeL Y d bs bs1 tv)(dn:ZnH)(nm:∀ d∈es,#[iV,ZD9,g∈Zp'/\ZdP])(he:ZaHO)(hg:ZmO)
  (k:∀ B' H',mG c ck ze cb P0 lp ql H0 H' u B' ZaeL ZaeL Y d bs bs1 tv->ZF3):#[Ef,u.e,Zaf (Zal9++gn g),Zaf (Nr (bf ZcK Zjm))]:=by
 refine#[a1c,Zjm,dn,nm,he,(Om hg),⟨IG hg,fun hj H' mv=>?_,fun hj H' s=>?_⟩]
 ·have e:iV es Zjm=es++[ZhA]:=by unfold iV;rw[Zdj]
  have mv:Cm c ck ze H u.e u.A u.D B (aY (es++[ZhA])) H':=#[aE,sx,mv]
  rw[<-e]at mv;obtain⟨B',x'⟩:=x.move mv ZWC;exact Nb (by unfold Nr;rw[Zdj]) (k B' H' x')
 ·have e:iV es Zjm=es:=by unfold iV;rw[ZgE]
  refine Nb (#[Pb,Kd hj]) (k B H' ?_);rw[e]at x ⊢;exact ZaFw
def Hr [6](e5:ZnO)[308]:#[Ef,u.e,Zaf ZlW,Zaf (rq (fV Zm4))] :=
 #[a1c,ZO_,e5.dn,e5.nm,(#[zv,NP,e5]),Ml,Za0o]
def Hs [23][332][308]:#[Vs,Zaf Zll,Zale]:=by
 have p:Qq (ZeU 12 0) []:=Wm;have:=Zaes;exact#[dt,e,_,_,(.ask e A D B ZX5 _ ZO' rfl ⟨ev,Ko ZwI p.of (ZaK4) p.sz ZzD,ZwI,ZaK4,#[afg,(Qn 0).2]⟩ Mm Za0o)]
def CP [274][23]{Y:BA}[332](bk:gZ cb H Zkl Y [])[307](nm:Zhg)[89]:#[Vs,Zaf (#[fH,ZCU]++w),Zalf]:=by
 have g:#[DF,8,Zds,w]:=nm
 have ew:toS #[IG,0].txt=w:=#[aE,ZwA,iz w]
 have rd:rdF w=Zab (Zds w):=by have:=zQ g;rwa [ew]at this
 have ln:Ln w:=⟨OB nm,#[zv,uA,nm]⟩
 have un:¬ bH [] (Zds w):=fun h=>by have:=h w (#[Wv,ZOM]);cases this
 have fx:∀ {f':ay},rdF w=Zab f'->f'=Zds w:=ZS9
 exact⟨e,_,_,rfl,ZCT e A D B [] Y [] [] (j6 w) w rfl (by unfold j6;rw[fS,ZKl];have:=ln.ln;lia) (uh w) ev bk ta ln ⟨fun h=>(by rw[rd]at h;cases h),fun f' h _ H' g t=>ZV_,ZLp,ZLp,ZLp,ZLp⟩⟩
def mG.tr [6][45](hb:ZaPx):Zzq:=by
 rcases hb with z | z | z
 ·exact x.ev.ki.hall.tracked z
 ·exact (AV x.md b z).some
 ·simp only[Zi,ZX,aQv]at z
  rcases z with rfl | rfl | rfl | rfl
  ·exact Zaxi
  ·exact Zaxj
  ·exact Zaxk
  ·exact Zaxh
def mG.lock {H1:Hp}[361][6](hl:Zgw)[225](h1:H1 l=Zab o):mG c ck ze cb P0 lp ql (upd H0 l o) H1 u B es es1 Y d bs bs1 tv:=by
 have y:=ZaFw;refine⟨y.ev,y.tt,y.md,y.bk,y.td,y.ta,y.wB,y.yB,y.dY,y.ne,fun b o' e n=>?_,fun b hb o' e=>?_⟩
 ·by_cases z:b=l
  ·rw[z,ac]at e;rw[z,h1];exact e
  ·rw[ZtX]at e;exact y.g0 b o' e n
 ·have z:b≠l:=fun z=>by obtain⟨_,q⟩:=x.tr hb;rw[z,hl]at q;cases q
  rw[ZtX]at e;exact ZoL b hb o' e
def Oz [29][92]{d:aX}[28][337]:cz (iV es d)/\#[jZ,iV es d,#[iV,ZlJ y,g∈L/\ZdP]]:=by
 unfold iV;split
 ·refine⟨hW dn ‹_›,Zx'⟩
  rcases ZIh with hy | hy
  ·exact nm y hy
  ·rw[ZaCf];exact hn
 ·exact⟨dn,nm⟩
def TC [20][274][467](h:Zy7):Zhg:=by
 unfold defO at h
 cases e:gI w with
 | true=>rfl
 | false=>rw[Zik]at h;cases h
#where
def FX:∀ [179][58],fK st ps=Za5\/fK st ps=Zod\/fK st ps=Zlq\/∃ g,fK st ps=ZzK
 | _,[]=>ZkP
 | st,Zhj=>by
  unfold fK;split
  ·exact FX _ ps
  ·unfold dZ bf
   dsimp only;split
   ·exact ZaI7
   ·split
    ·exact ZaI7
    ·split
     ·exact #[mT,rfl]
     ·split
      ·exact Zap (Zap (Zam rfl))
      ·exact ZkP
def UU {c:HX}{ck ze cb cF cU cL cB cK P0:Addr}{lp:Pos}{ql:Str}{vs:Zbr}{H:Hp}{Q:VK}{E E':XK}(h:ZaOh)
  (eA:#[nK,Zbao,Zd']) (eS:#[nK,Zbau,Zea]) (eT:#[nK,Zbav,Zf'])
  (eB:#[nK,"no: BadName",cB]) (eK:#[nK,"no: Taken",cK]) (eU:#[nK,Zalf,cU]) (eL:#[nK,Zban,cL]) (eF:#[nK,ZPc,cF])
  (eN:∀ dx H',#[mq,Zbaw]->E' #[aj,Zga] ZsM H'):xS c ck ze cb cF cU cL cB cK P0 lp ql vs H Q E':=by
 have ra:∀ {H1:Hp}[76][44],#[pD,fK st ps]->(#[gO,aD H1 H'->Q (Zaf (Ri ZaPl)) H'])->lR c E' H1 ZaPl:=fun {H1 st ps} n k=>by
  rcases FX st ps with o | o | o | ⟨g,o⟩
  ·exact #[oE,o,n]
  ·rw[o]at k ⊢
   exact #[aLp,eS,Zod,Zbau]
  ·rw[o]at k ⊢
   exact #[aLp,eT,Zlq,Zbav]
  ·rw[o]at k ⊢
   exact fun dx H' s _=>eN dx H' (#[gu,#[bax,Zayj],#[ask,#[bax,(Zoe 0)]]]▸k H' s)
 rcases h with ⟨e,A,D,B,st,z,q,hv,I,L,k⟩ | ⟨e,A,D,B,es,Y,bs,L,y,z,hv,yl,hp,ev,bk,tI,ln,sd⟩ | ⟨e,A,Y,bs,y,r,w,z,hv,yl,hp,ob,bk,tI,ln,rl,hp2,hs,wa,wl,bl,sd⟩
 ·exact .ask e A D B st z q hv I L (k.imp (#[ew,h]) eA)
 ·exact ZCT e A D B es Y bs L y z hv yl hp ev bk tI ln ⟨ZaTu,#[bay,eU H' (sd.un f a b H' g t)],fun f a b lg H' g t=>eL H' (sd.tl f a b lg H' g t),sd.ro,sd.ok,fun f a b lg hb H1 g t=>ra hb fun H' s=>sd.no f a b lg hb H' (g.trans (df s)) (t.same s)⟩
 ·have no:∀ f,Zmr->∀ o,ZgT bs w f=o->#[pD,o]->#[QB,Q (Zaf (We o)) H']:=fun f a o b n H' g t=>by
   subst b;exact sd.no f a n H' g t
  exact Zds e A Y bs y r w z hv yl hp ob bk tI ln rl hp2 hs wa wl bl ⟨ZaTu,sd.ok,fun f a b H' g t=>eB H' (no f a _ b (fun z=>nomatch z) H' g t),fun f a b H' g t=>eK H' (no f a _ b (fun z=>nomatch z) H' g t),fun f a b H' g t=>eU H' (no f a _ b (fun z=>nomatch z) H' g t)⟩
#print Wz
namespace Wk51
open PySem L2 Wz
abbrev fJ [219]:Stmt:=PySem.Challenge.pw_lastwaltz_k51_names_and_dances_at_the_de.main.body.getD i (.Pass Zu8)
structure Txt [25]:Zaa where
 len:#[dB,ZBZ]
 range:#[dB,Zvd]
 isinstance:#[dB,ZMw]
 tuple:#[dB,Zf2]
 list:#[dB,ZdE]
 int:#[dB,Zrp]
 bool:#[dB,ZahQ]
 all:#[dB,Zcm]
 any:#[dB,"any"]
 sorted:#[dB,ZNe]
 reversed:#[dB,Zry]
 bset:#[dB,ZiK]
 bmin:#[dB,"min"]
 bmax:#[dB,ZjU]
 dict:#[dB,ZiI]
 zip:#[dB,Zd7]
 enumerate:#[dB,Zhp]
 sum:#[dB,"sum"]
 str:#[dB,Zf1]
section
variable {P:Program}{w:World}{K:PySem.W.Frag}{mg:Zo6}{base:Heap}{c:HX}{co cq ck f P0 P1 cB cT kd cL cF cs cX fX cb ze dl y0 y1 cU:Addr}{yy:ZeZ}{qz:LJ}{lp:Pos}{ql:Str}{fd:FuncData}
noncomputable abbrev kq:Stmt:=bU (fJ 15) 0
noncomputable abbrev A4:Zbo:=Zl'
def zw:#[aV,A4,Zl',kq]:=fF
noncomputable abbrev pJ:Stmt:=#[k',0]
noncomputable abbrev Gq:Zbo:=ZfC
def Fh:#[k5,Gq,pJ]:=fF
noncomputable abbrev pI:Stmt:=#[k',1]
noncomputable abbrev Gp:Zbo:=Zl'
def Fg:#[aV,Gp,Zl',pI]:=fF
noncomputable abbrev jG:Stmt:=#[k',3]
noncomputable abbrev zf:Zbo:=[ZfB,Zr1,Zl0,Zalk,"other_mask"]
def jD:#[aV,zf,Zr2,jG]:=fF
noncomputable abbrev nO:Stmt:=#[k',4]
noncomputable abbrev EH:Zbo:=Zall
def CQ:#[aV,EH,Zall,nO]:=fF
noncomputable abbrev jF:Stmt:=#[k',5]
noncomputable abbrev zd:Zbo:=[ZfB,Zr1,Zl0,ZbaA]
def oF:#[aV,zd,Zr2,jF]:=fF
noncomputable abbrev mj:Stmt:=#[k',7]
noncomputable abbrev Cv:Zbo:=ZfC
def BN:#[k5,Cv,mj]:=fF
noncomputable abbrev nU:Stmt:=#[k',8]
noncomputable abbrev EI:Zbo:=Zl'
def CS:#[aV,EI,Zl',nU]:=fF
noncomputable abbrev rJ:Stmt:=#[k',10]
noncomputable abbrev I0:Zbo:=Zr2
def Ht:#[aV,I0,Zr2,rJ]:=fF
noncomputable abbrev kX:Stmt:=#[k',15]
noncomputable abbrev yJ:Zbo:=Zua
def wz:#[k5,yJ,kX]:=fF
noncomputable abbrev nY:Stmt:=fJ 20
noncomputable abbrev EL:Zbo:=[ZaG]
def CU:#[gB,EL,ZaG,nY]:=fF
noncomputable abbrev pT:Stmt:=fJ 21
noncomputable abbrev GA:Zbo:=ZLA
def Fl:#[aV,GA,ZLA,pT]:=fF
noncomputable abbrev pM:Stmt:=fJ 27
noncomputable abbrev Dy:Zbo:=Zp2
def JI:#[gB,Dy,ZeW,pM]:=fF
noncomputable abbrev jH:Stmt:=fJ 28
noncomputable abbrev zg:Zbo:=[ZeV,"unlike",ZPd]
def jE:#[Y',zg,jH]:=fF
noncomputable abbrev jJ:Stmt:=fJ 29
noncomputable abbrev zi:Zbo:=[ZeV,"many"]
def oH:#[Y',zi,jJ]:=fF
noncomputable abbrev iD:Stmt:=fJ 30
noncomputable abbrev pe:Zbo:=[ZeV,Zr3]
def tV:#[Y',pe,iD]:=fF
noncomputable abbrev iN:Stmt:=#[qM,0]
noncomputable abbrev vM:Zbo:=ZfC
def uN:#[k5,vM,iN]:=fF
noncomputable abbrev gR:Stmt:=#[qM,1]
noncomputable abbrev sI:Zbo:=ZKJ
def rC:#[aV,sI,ZKJ,gR]:=fF
noncomputable abbrev iO:Stmt:=#[qM,3]
noncomputable abbrev vN:Zbo:=#[l_,ZeW]
def uO:#[nt,vN,ZeW,iO]:=fF
noncomputable abbrev gT:Stmt:=#[qM,4]
noncomputable abbrev sL:Zbo:=Zma
def rE:#[aV,sL,Zma,gT]:=fF
noncomputable abbrev d9:Stmt:=#[qM,5]
noncomputable abbrev nE:Zbo:=[ZfB,ZeV,ZPd]
def ij:#[aV,nE,Zma,d9]:=fF
noncomputable abbrev eP:Stmt:=#[qM,6]
noncomputable abbrev kI:Zbo:=Zma
def rD:#[aV,kI,Zma,eP]:=fF
noncomputable abbrev gS:Stmt:=#[qM,7]
noncomputable abbrev sJ:Zbo:=[ZfB,ZeV,ZaG,ZPd]
def gM:#[aV,sJ,Zma,gS]:=fF
noncomputable abbrev jo:Stmt:=fJ 37
noncomputable abbrev tM:Zbo:=Zp2
def BV:#[gB,tM,ZeW,jo]:=fF
noncomputable abbrev uV:Stmt:=fJ 38
noncomputable abbrev Mw:Zbo:=#[QU,ZPe]
def uQ:#[aV,Mw,[ZgV,ZwJ],uV]:=fF
noncomputable abbrev pS:Stmt:=fJ 39
noncomputable abbrev Gz:Zbo:=#[VN,ZeW,ZPe,"number"]
def kU:#[aV,Gz,[ZgV,ZwJ],pS]:=fF
noncomputable abbrev rP:Stmt:=fJ 40
noncomputable abbrev Jf:Zbo:=#[VN,ZbaD,ZCW,"part"]
def ni:#[aV,Jf,ZbaE,rP]:=fF
noncomputable abbrev pL:Stmt:=fJ 41
noncomputable abbrev Gs:Zbo:=[ZeW,ZCW,"fewest","most"]
def pG:#[aV,Gs,[ZeW,ZCW],pL]:=fF
noncomputable abbrev bC:Stmt:=fJ 42
noncomputable abbrev EK:Zbo:=#[aQ1,ZCW]
noncomputable abbrev aG:Str:=(#[ez,Zl1]++".<locals>.")++ZCX
noncomputable abbrev aL:Pos:=XH (m8 bC)
def eY:#[aV,EK,ZQV,bC]:=fF
noncomputable abbrev pK:Stmt:=fJ 43
noncomputable abbrev Gr:Zbo:=#[aQ1,ZPe]
def pF:#[aV,Gr,ZQV,pK]:=fF
noncomputable abbrev mz:Stmt:=fJ 44
noncomputable abbrev CC:Zbo:=[ZgV,ZeV,ZPe]
def mh:#[gB,CC,ZgV,mz]:=fF
noncomputable abbrev uS:Stmt:=fJ 46
noncomputable abbrev Ms:Zbo:=ZaCL
def JH:#[aV,Ms,[Zb5,Zalm],uS]:=fF
noncomputable abbrev k9:Stmt:=fJ 48
noncomputable abbrev yN:Zbo:=[Za',ZwK,"numbers"]
def pH:#[gB,yN,Za',k9]:=fF
noncomputable abbrev sy:Stmt:=fJ 50
noncomputable abbrev GE:Zbo:=[Zb5]
def MW:#[Zb,GE,sy]:=fF
noncomputable abbrev pU:Stmt:=fJ 51
noncomputable abbrev GB:Zbo:=[Zb5,Ze6,Zaln,Zalk]
def kW:#[aV,GB,[Zb5,Ze6],pU]:=fF
noncomputable abbrev rQ:Stmt:=fJ 52
noncomputable abbrev Jg:Zbo:=[Zb5,"placed",ZlW,Ze6,Zaln,Zl0]
def iW:#[Zb,Jg,rQ]:=fF
noncomputable abbrev mx:Stmt:=fJ 66
noncomputable abbrev CA:Zbo:=[Zb5,ZaG,ZCY,Zr1,Zl0]
def jj:#[aV,CA,[Zb5,ZaG],mx]:=fF
noncomputable abbrev mr:Stmt:=#[nA,0]
noncomputable abbrev Cy:Zbo:=Zua
def BP:#[nt,Cy,Zb5,mr]:=fF
noncomputable abbrev ko:Stmt:=#[nA,2]
noncomputable abbrev A3:Zbo:=ZfC
def zu:#[k5,A3,ko]:=fF
noncomputable abbrev gU:Stmt:=#[nA,4]
noncomputable abbrev sN:Zbo:=ZfC
def rF:#[k5,sN,gU]:=fF
noncomputable abbrev mw:Stmt:=#[nA,5]
noncomputable abbrev Cz:Zbo:=ZfC
def BQ:#[k5,Cz,mw]:=fF
noncomputable abbrev nV:Stmt:=#[nA,6]
noncomputable abbrev EJ:Zbo:=ZfC
def CT:#[k5,EJ,nV]:=fF
noncomputable abbrev mq:Stmt:=#[nA,8]
noncomputable abbrev Cw:Zbo:=Zl'
def BO:#[aV,Cw,Zl',mq]:=fF
noncomputable abbrev iP:Stmt:=#[nA,10]
noncomputable abbrev vO:Zbo:=[ZfB,Zr1,Zl0,Zb6]
def l7:#[aV,vO,Zr2,iP]:=fF
noncomputable abbrev km:Stmt:=#[nA,11]
noncomputable abbrev AZ:Zbo:=#[aRr,ZaG]
def kf:#[nt,AZ,ZaG,km]:=fF
noncomputable abbrev jQ:Stmt:=fJ 72
noncomputable abbrev vS:Zbo:=#[qa,ZlW]
def tT:#[Zb,vS,jQ]:=fF
noncomputable abbrev kj:Stmt:=#[ut,0]
noncomputable abbrev AY:Zbo:=ZfC
def zt:#[k5,AY,kj]:=fF
noncomputable abbrev mi:Stmt:=#[ut,1]
noncomputable abbrev Cu:Zbo:=ZX4
def BL:#[nt,Cu,Za',mi]:=fF
noncomputable abbrev jm:Stmt:=#[ut,2]
noncomputable abbrev xx:Zbo:=[ZfB,Za',"first","blank",ZCZ,ZwK]
def eJ:#[nt,xx,Za',jm]:=fF
noncomputable abbrev gy:Stmt:=#[ut,3]
noncomputable abbrev qV:Zbo:=[ZfB,ZgV,ZaG]
def ju:#[nt,qV,ZgV,gy]:=fF
noncomputable abbrev gQ:Stmt:=#[ut,4]
noncomputable abbrev sH:Zbo:=[ZfB,ZCZ,ZeW,"blank",ZgV]
def eO:#[nt,sH,ZCZ,gQ]:=fF
noncomputable abbrev f6:Stmt:=#[ut,5]
noncomputable abbrev qe:Zbo:=#[aRr,ZwK]
def pE:#[nt,qe,ZwK,f6]:=fF
noncomputable abbrev my:Stmt:=fJ 75
noncomputable abbrev CB:Zbo:=Zads
def BS:#[aV,CB,[Zi3,Ze_],my]:=fF
noncomputable abbrev rN:Stmt:=fJ 76
noncomputable abbrev Jd:Zbo:=[ZbS]
def Hu:#[gB,Jd,ZbS,rN]:=fF
noncomputable abbrev pO:Stmt:=fJ 77
noncomputable abbrev Gv:Zbo:=[ZbS,ZnS,ZLX,ZbaF,ZPf,"_law_count",Ze_,"_law_now"]
def db:#[aV,Gv,[ZbS,ZnS,ZLX],pO]:=fF
noncomputable abbrev pP:Stmt:=fJ 78
noncomputable abbrev Gw:Zbo:=[Ze_,ZbS,ZbaF,"_law_turn","_law_number"]
def kR:#[ZT,Gw,Ze_,pP]:=fF
noncomputable abbrev uU:Stmt:=fJ 79
noncomputable abbrev Mv:Zbo:=Zadt
def JJ:#[aV,Mv,[ZPg,ZC0],uU]:=fF
noncomputable abbrev uT:Stmt:=fJ 80
noncomputable abbrev Mt:Zbo:=[Zec,ZwL,Zl2,ZwM]
def BU:#[aVb,Mt,uT]:=fF
noncomputable abbrev pN:Stmt:=fJ 81
noncomputable abbrev Gu:Zbo:=[Zec,ZwL,Zl2,"_law_kept"]
def wA:#[aVb,Gu,pN]:=fF
noncomputable abbrev k7:Stmt:=fJ 82
noncomputable abbrev yM:Zbo:=[Zec]
def Fk:#[Za,yM,k7]:=fF
noncomputable abbrev pQ:Stmt:=fJ 83
noncomputable abbrev Gx:Zbo:=[Zec,"_law_seen",ZbaG,ZwM,ZbaH,"_law_here"]
def fZ:#[Za,Gx,pQ]:=fF
noncomputable abbrev kY:Stmt:=fJ 84
noncomputable abbrev yK:Zbo:=Zaau
def Fi:#[ZT,yK,ZnS,kY]:=fF
noncomputable abbrev rL:Stmt:=fJ 85
noncomputable abbrev Jb:Zbo:=[ZgW,Zalp,Zec,ZwL,"_law_story",Zl2]
def jY:#[aV,Jb,[ZgW,Zalp],rL]:=fF
noncomputable abbrev rO:Stmt:=fJ 86
noncomputable abbrev Je:Zbo:=[ZbS,"_law_letters",Zr4,Zgf]
def jZ:#[gB,Je,ZbS,rO]:=fF
noncomputable abbrev kZ:Stmt:=fJ 87
noncomputable abbrev yL:Zbo:=[Zgf,ZnS,ZC1]
def kT:#[gB,yL,Zgf,kZ]:=fF
noncomputable abbrev jn:Stmt:=fJ 88
noncomputable abbrev qW:Zbo:=[Zgf,ZbS,Zl3,"_law_ranks_here",Zalq,ZC1,Zalr]
def hZ:#[ZT,qW,Zgf,jn]:=fF
noncomputable abbrev pR:Stmt:=fJ 89
noncomputable abbrev Gy:Zbo:=ZFV
def Fj:#[Io,Gy,pR]:=fF
noncomputable abbrev fE:Stmt:=fJ 90
noncomputable abbrev jO:Zbo:=[ZC2,Zgf,Zr5,Zl3,ZnS,"_law_parts","_law_deep",ZPh,"_law_often"]
def de:#[aCq,jO,ZC2,Zgf,fE]:=fF
noncomputable abbrev jP:Stmt:=fJ 91
noncomputable abbrev vQ:Zbo:=[ZC3,ZbS,Zr5,ZC2,Zgf]
def nN:#[aCq,vQ,ZC3,ZbS,jP]:=fF
noncomputable abbrev iR:Stmt:=fJ 92
noncomputable abbrev vR:Zbo:=[ZdK,Zl3,Zalr,ZPf,Ze_,ZPg,ZPj,ZC0]
def cx:#[Io,vR,iR]:=fF
noncomputable abbrev rK:Stmt:=fJ 93
noncomputable abbrev Ja:Zbo:=[ZdK,Ze',Zl3,"_law_inner",ZPf,ZPh,"_law_piece"]
def gO:#[aV,Ja,[ZdK,Ze'],rK]:=fF
noncomputable abbrev dX:Stmt:=fJ 94
noncomputable abbrev jf:Zbo:=[ZdK,Zl3,Zalr]
def fW:#[Io,jf,dX]:=fF
noncomputable abbrev kz:Stmt:=fJ 95
noncomputable abbrev A8:Zbo:=ZaSW
def zA:#[aV,A8,[Zl3,Ze_,ZPj],kz]:=fF
noncomputable abbrev iQ:Stmt:=fJ 96
noncomputable abbrev vP:Zbo:=[ZgW,Zl2,Zr6]
def l9:#[aV,vP,[ZgW,Zl2],iQ]:=fF
noncomputable abbrev gC:Stmt:=fJ 97
noncomputable abbrev ox:Zbo:=[Zec,ZbaG]
def nh:#[Za,ox,gC]:=fF
noncomputable abbrev rM:Stmt:=fJ 98
noncomputable abbrev Jc:Zbo:=[ZPk,ZC4,Zr6,ZbaJ]
def yX:#[aV,Jc,[ZPk,ZC4,Zr6],rM]:=fF
noncomputable abbrev ky:Stmt:=fJ 99
noncomputable abbrev A7:Zbo:=[ZdK,ZbaJ,ZPh]
def iJ:#[Io,A7,ky]:=fF
noncomputable abbrev fk:Stmt:=fJ 100
noncomputable abbrev lX:Zbo:=[ZgW,Ze',ZdK,ZPf,"_law_spare",ZPg,ZC0,Zr6]
def bX:#[aCp,lX,ZgW,Ze',fk]:=fF
noncomputable abbrev f7:Stmt:=fJ 101
noncomputable abbrev ng:Zbo:=[Ze',Zr4,ZdK]
def uP:#[aCp,ng,Ze',Zr4,f7]:=fF
noncomputable abbrev jI:Stmt:=fJ 102
noncomputable abbrev zh:Zbo:=[ZbS,Ze',"_law_words"]
def oG:#[aV,zh,[ZbS,Ze'],jI]:=fF
noncomputable abbrev kr:Stmt:=fJ 103
noncomputable abbrev A6:Zbo:=[ZgW,Ze',Zi3,Ze_,ZbS,Zl3,ZC3,Zr5,ZdK,"_law_text","_law_spoilt",Zr4]
def cO:#[aV,A6,Zagh,kr]:=fF
noncomputable abbrev JT:Stmt:=fJ 104
noncomputable abbrev Wc:Zbo:=[Zi3,"_law_desk",ZgW,Ze',ZbS,ZwM,Ze_,ZC4,Zr6,ZC0,Zr4]
def l8:#[gB,Wc,Zi3,JT]:=fF
variable (T:Txt mg)(U:ZaN6)(VM:HM K c)(UO:gE K mg w c cq cX ck cb ze dl y0 y1 cB cT cU cL cF kd cs qz)
include T U VM UO
def zn (F:#[zR,ZbaK,kq]) : #[cO,Zl',ZaTC]:=by
 refine #[amR,zw]
 ·obtain⟨ea,g,rfl,_⟩:=h
  rfl
 ·obtain⟨ea,g,rfl,hg,hx,k⟩:=h
  refine⟨_,ae (bh (OU (fI:=Zwj) rfl U.mW U.wS U.wR U.wI #[dS,Zak,(jh (cG ZyD (cG ak (lZ)))),bp])) (
   af (O8 Zak Zao rfl)),?_⟩
  refine⟨_,rfl,_,rfl,g,rfl,hg,#[aoY,#[aF,⟨ea,Zga,_,rfl,hx,U.eN,?_⟩]]⟩;exact#[sX,ea,Zga,hx,U.gN,k]
def ES (F:#[zR,ZbaL,pJ]) : #[cO,ZfC,(PB c.C)]:=by
 refine #[amR,Fh]
 ·obtain⟨p,dx,rfl,_⟩:=h
  rfl
 ·obtain⟨p,dx,rfl,hp,k⟩:=h
  refine⟨_,ae Zabq (
   ae Zabq (
   ae Zabq (
   af (gq Zak Zfl rfl)))),?_⟩
  intro w hw;have n1:p≠w:=ao hp hw;refine⟨_,rfl,p,c.C,dx,[],rfl,#[mS,n1,hp],Zc1,Zr7,ZKg,?_⟩;intro h hh;have n2:p≠h:=ZaBW;refine#[afW,n2,U.nH,1];intro cc hc;have n3:p≠cc:=ZaaA;refine#[afW,n3,U.nC,2];refine⟨ZaH0,fun d hd=>?_⟩;have n4:p≠d:=ZI5;refine#[afW,n4,U.nD,3];rw[Zz5]at hh;have wh:w≠h:=ZaBW;rw[Zum]at hc;have hcw:h≠cc:=ZaaA;rw[#[dc,hcw],Zum]at hc;have hwc:w≠cc:=ZaaA;rw[ZH0]at hd;have hdc:cc≠d:=ZI5;rw[#[dc,hdc],ZH0]at hd;have hdh:h≠d:=ZI5;rw[#[dc,hdh],ZH0]at hd;have hdw:w≠d:=ZI5;rw[#[dc,hdw]]at hd;rw[#[dc,hwc]]at hc;rw[#[dc,wh]]at hh;refine k ⟨dx,w,h,cc,d,[]⟩ _ ⟨ac,?_,?_,?_,?_,Zan,[],?_,Zan⟩ (fun b o e hb=>?_) Zdx
  ·simp[HA.fp,wh,hwc,hdw,hcw,hdh,hdc]
  ·rw[ZHZ,ai hdw,ZHZ,ai hwc,ZHZ,ai wh,ZHZ,ac]
   rfl
  ·rw[Zz5,ai hdh,Zz5,ai hcw,Zz5,ac]
   rfl
  ·rw[Zum,ai hdc,Zum,ac]
   rfl
  ·rw[ZH0,ac]
   rfl
  ·rw[Zfi,#[pC,hd],Zfi,#[pC,hc],Zfi,#[pC,hh],Zfi,#[pC,hw]]
   exact e
  ·simp[HA.fp]at hb
   rcases hb with rfl | rfl | rfl | rfl
   ·exact hw
   ·exact hh
   ·exact hc
   ·exact hd
def ER (F:#[aq,ZcD,ZbaM,pI])[142] : #[g2,2,Zl',(Pr c)]:=by
 refine #[amS,Fg]
 ·obtain⟨p,B,st,g,rfl,_⟩:=h
  rfl
 ·obtain⟨p,B,st,g,rfl,S,ft,hg,k⟩:=h
  have hu:=ZbE
  refine⟨_,ae #[ac6,#[Kq,rj],U.eA,U.mA,(lZ)] (
   ae (bh (#[FP,fR,hr,Zao,Zao])) (
   #[aVv,(bp)])),?_⟩
  have g1:ZaUK:=ZaR7
  refine⟨_,rfl,_,rfl,p,c.C,ZbM,_,_,rfl,ZcC,Zc1,Zr7,Mb _,B.w,_,rfl,g1,_,rfl,?_⟩
  cases e:ZqU with
  | some m =>
   refine aM #[fe,g,hg,ZaoZ];exact qQ (o:=Zoc) k (ZbaN) Za7 _ (ZWA)
  | none =>
   refine ar ⟨_,rfl,p,ZbM,_,rfl,ZcC,#[ayV,Ic],_,rfl,_,rfl,p,B,st,g,g,rfl,S,by have:=ft.w;lia,by have:=ft.h;lia,?_⟩;have S1:=IJ (IK S ZFk) ZGu;have k1:#[Ad,ZaZe]:=(qU Ou).on (qU Ot);have t1:Tr H ZaZe:=#[qJ,Zals];generalize #[acU,#[bt,B.w,#[bW,ZFk]],ZGu]=H1 at S1 k1 t1;obtain⟨as,hd,hp⟩:=id S1.d;have hl:ZakP=Zwh:=ZzX;refine⟨_,rfl,p,c.C,ZbM,_,_,rfl,ZPl,Zc1,U.nD,T5 _,ZaAt,_,rfl,ZGn,ZCA⟩;have td:B.d≠t:=ZaIt;refine#[aWf,B.d];refine Df k (ZbaN) _ ⟨B,Dp S1 hd hp Zjm ht,(k1.on (Od ht)).on (qU Sy),ZavC,#[qJ,t1.upd]⟩
def xI (F:#[aq,ZcQ,ZbaO,jG])[59](uf:#[afB,ZC5,Zr2,SR])[142](iF:#[afB,ZC6,Zr2,SK]) : #[g2,4,Zr2,(JN c)]:=by
 refine #[amS,jD]
 ·obtain⟨p,B,st,a,b,rfl,_⟩:=h
  rfl
 ·obtain⟨p,B,st,a,b,rfl,S,ft,ha,hb,k⟩:=h
  have hr1:d6 1 _:=hr.mono (Zaw)
  refine⟨_,ae (iM (i:=3) jD.nd rfl ZM7 #[aVd,ZaCA]) (
   ae (iM (i:=4) jD.nd rfl ZM7 #[aVd,#[nc,ZaD]]) (
   ae #[ac6,#[hi,bA,Zao,ZaD],U.eS,U.mS,(lZ)] (
   ae #[ac6,(gL (#[FP,uf,hr1,Zao,ZaD])),U.eT,U.mT,(cG (kQ (pv 2)) (cG ak (lZ)))] (
   ae #[aHh,Zao,Zc8] (
   ae #[aHh,ZaD,ZaM] (
   ae #[aHi,Zao,ZaD] (
   ae #[aHi,ZaD,Zao] (
   #[aVv,(az ZaD (bp))])))))))),?_⟩
  have no:#[baP,m∈([Zq',ZC5,ZBn,ZC6]:Zbo)->ZaDx]:=fun B m hm=>by
   simp only[Zi,ZX,aQv]at hm;rcases hm with rfl | rfl | rfl | rfl<;>exact Zsz
  have n1:ZaBt:=ZLB;have n2:ZaBu:=ZLB;have n3:#[QI,ZBn]:=ZLB;have n4:#[QI,ZC6]:=ZLB;refine⟨_,rfl,p,ZbM,_,rfl,ZcC,n1 B,_,rfl,p,B,st,a,rfl,S,ha,?_⟩
  cases ea:ZAM with
  | none=>exact qQ (o:=ZYY) k (by simp[bf,ea]) Za7
  | some ma =>
   refine⟨_,rfl,p,ZbM,_,rfl,ZcC,n1 B,_,rfl,p,B,st,b,rfl,S,hb,?_⟩
   cases eb:ZJS with
   | none=>exact qQ (o:=ZX') k (by simp[bf,ea,eb]) Za7
   | some mb =>
    refine ZaWe
    by_cases eab:a=b
    ·rw[#[ug,eab]]
     refine aM #[fe,a,ha,ZaoZ];exact qQ (o:=Zod) k (by simp[bf,ea,eb,eab]) Za7 _ (ZWA)
    ·rw[#[aaB,eab]]
     refine ar ⟨_,rfl,p,ZbM,_,rfl,ZcC,n2 B,_,rfl,_,rfl,p,B,st,a,b,rfl,S,Zawy⟩
     cases em:ZaE6 with
     | true =>
      refine aM #[fe,a,ha,#[jV,⟨y,rfl,hy,_,rfl,Zaw,_,rfl,b,rfl,hb,ZaoZ⟩]];exact qQ (o:=Zlq) k (ZbaQ) Za7 _ s1
     | false =>
      refine ar ?_;have S1:=ZIt;have kd:=Df k (ZbaQ)
      have wa:Zaex:=by unfold wr;rw[ea];rfl
      have wb:Zaey:=by unfold wr;rw[eb];rfl
      have l1:=EF ZaI a mb;have l2:=EF Zdn mb a;have f1:=ft.w;have f2:=ft.h;refine⟨_,rfl,p,ZbM,_,rfl,ZPl,n3 B,_,rfl,_,rfl,p,B,st,a,mb,rfl,S1,Zad,Zad,?_⟩;have S2:=IJ (IK S1 Zxv) ZxV;have k2:#[Ad,ZaYH]:=#[aWU,#[G1,s1].on];have t2:Tr H ZaYH:=#[qJ,(ZOr s1).upd];generalize #[acU,#[eI,B.w,ZasS],ZxV]=H2 at S2 k2 t2;refine⟨_,rfl,p,ZbM,_,rfl,S2.ob,n3 B,_,rfl,_,rfl,p,B,_,b,ma,rfl,S2,#[av0,Zxv],#[av0,ZxV],?_⟩;have S3:=IJ (IK S2 ZFb) Zzj;have k3:#[Ad,ZaTP]:=#[aWU,k2.on];dsimp only at S3 ⊢;have t3:Tr H ZaTP:=#[qJ,t2.upd];generalize #[acU,Zauh,Zzj]=H3 at S3 k3 t3;refine⟨_,rfl,p,ZbM,_,rfl,S3.ob,n4 B,_,rfl,_,rfl,p,B,_,a,b,rfl,S3,by have:=ft.c;show ZaB3;lia,ZaEq,fun H4 ⟨B4,S4,k4,p4,t4⟩=>?_⟩;dsimp only at S4;refine⟨_,rfl,p,B4.dx,_,rfl,S4.ob,n4 B4,_,rfl,_,rfl,p,B4,_,b,a,rfl,S4,by have:=ft.c;have:=ZaE7;show #[FD,ZsP];lia,#[aoa,Ah (n:=999) (ZaEq) ZaY x hx],fun H5 ⟨B5,S5,k5,p5,t5⟩=>?_⟩
      dsimp only at S5;have k4':#[Ad,H4]:=k3.on k4
      have f4:∀ x∈B4.fp,ZaI_:=fun x hx=>by
       rcases p4 x hx with z | z
       ·exact Zam z
       ·by_cases hq:ZayT
        ·exact Zam hq
        ·refine Zap ?_
         cases e:H x with
         | none=>rfl
         | some o=>rw[k3 x o e hq]at z;cases z
      have k5':#[Ad,H5]:=k4'.trans k5 f4
      have f5:∀ x∈B5.fp,ZaI_:=fun x hx=>by
       rcases p5 x hx with z | z
       ·exact f4 x z
       ·by_cases hq:ZayT
        ·exact Zam hq
        ·refine Zap ?_
         cases e:H x with
         | none=>rfl
         | some o=>rw[k4' x o e hq]at z;cases z
      obtain⟨as,hd,hp⟩:=id S5.d;have hl:ZakP=Zwh:=ZzX;refine⟨_,rfl,p,c.C,B5.dx,_,_,rfl,S5.ob,Zc1,U.nD,T5 _,ZaAt,_,rfl,_,rfl,#[EK,3],ZCA⟩;have td:B5.d≠t:=ZaIt;refine#[aWf,B5.d];have S6:=Dp S5 hd hp ZGf ht;refine kd _ ⟨B5,?_,?_,f5,#[qJ,(#[cq,t3.trans,t4] t5).upd]⟩
      ·show bq c.C _ p B5 Zaqt
       rw[wa,wb];exact S6
      ·intro x o e hx
       have h5:=k5' x o e hx
       have hx5:x≠B5.d:=fun z=>by
        rcases f5 B5.d Sy with q | q
        ·exact hx (#[mv,z])
        ·rw[z,q]at e;cases e
       show #[aT,(upd H5 t _),B5.d,_,x,o]
       rw[ai hx5,ai (ao h5 ht)];exact h5
def CD (F:#[aq,ZBn,ZbaR,nO]) : #[cO,Zall,(Fw c.C)]:=by
 refine #[amR,CQ]
 ·obtain⟨p,B,st,g,m,rfl,_⟩:=h
  rfl
 ·obtain⟨p,B,st,g,m,rfl,S,hw,hh,k⟩:=h
  have hu:=ZbE
  have nwh:B.w≠B.h:=by have:=S.nd;simp[HA.fp]at this;exact #[he,0].1
  have npw:p≠B.w:=dD S.ob S.w (by intro z;cases z)
  refine⟨_,ae ZaJt (
   af (iH hu Zdg ZaD Zao rfl)),?_⟩
  refine⟨_,rfl,_,rfl,p,c.C,ZbM,_,_,rfl,ZcC,Zc1,Zr7,Mb _,_,rfl,B.w,_,rfl,ZoM (k:=Zsq) S.w #[bj,IS,#[hY,Zz,hw]],?_⟩;rw[wv];refine⟨_,rfl,_,rfl,p,c.C,ZbM,_,_,rfl,#[mS,npw,ZcC],Zc1,U.nH,VX _,_,rfl,B.h,_,rfl,ZoM (k:=#[hF,m]) #[bj,#[dc,nwh],S.h] #[bj,IS,#[hY,Zz,hh]],?_⟩;rw[wv];exact k
def xH (F:#[aq,ZC6,ZbaS,jF]) : #[cO,Zr2,(SK c.C)]:=by
 refine #[amR,oF]
 ·obtain⟨p,B,st,a,b,rfl,_⟩:=h
  rfl
 ·obtain⟨p,B,st,a,b,rfl,S,hl1,hl2,k⟩:=h
  have hu:=ZbE
  refine⟨_,ae (iM (i:=3) oF.nd rfl ZM7 (O1 Zdg Zao gJ ZK4)) (
   af (iH hu ZaM ZaD tQ rfl)),?_⟩
  refine⟨_,rfl,p,c.C,ZbM,_,_,rfl,ZcC,Zc1,U.nC,T4 _,B.c,rfl,ZaII,_,rfl,ZC9⟩;have s1:ZaxB:=ZAu;have S1:=ZIt;have ap:=S.apart;have lenc:B.cs.length=ZrD:=Zt ZwN
  have lc:#[my,#[aW,(dQ B.cs Zd_)]]:=#[aE,si lenc,#[hY,Zz,hl1]]
  have np:=S.pne;simp only[HA.fp,Zi,not_or]at np;refine⟨_,Zsv,S1.c,rfl,lc,#[OV,?_],fun hv=>?_⟩
  ·rcases ZacJ with ⟨h1,h2,h3⟩ | ⟨ad,h1,h2,h3,h4⟩
   ·rw[h1]at hv;cases hv
   ·rw[h2]at hv
    cases hv
    have lk:#[my,#[aX,uo,ZaD3]]:=by
     have e:∀ ci:Zil,(#[ai_,ZaEc])->#[FD,ZJ0]:=by
      intro ci
      induction ci with
      | nil=>intro _;show 0<ZbB;decide
      | cons x r ih =>
       intro h;unfold tH;split
       ·exact ZabE
       ·exact ih ZQT
     unfold uo;rw[Y5];exact #[hY,Zz,(e _ hl2)]
    refine#[nP,ad,ZoM (k:=ZpW) h3 lk,?_];rw[La]
    have adfp:ad∈Zdp:=by simp[HA.fp,h1]
    have nn:∀ x,x∉B.cs->x≠ad:=fun x hx z=>#[h1,hx,z,h1];obtain⟨q1,q2⟩:=h4 b (upd ZTN ad #[hR,(qc ZaD3 b)]) ap.cs (fun x _ hx o e=>#[ch,hx,e]) ac;refine k _ ⟨B,⟨#[H5,np.2.2.2.2,ZPl],S.nd,#[H5,ap.w,S1.w],#[H5,ap.h,S1.h],by rw[ai (nn _ ap.c),S1.c,q2],q1,?_⟩,(Od hl).on (qU adfp),#[f8,Zam hx],#[qJ,Zals]⟩;obtain⟨as,hd,hp⟩:=S1.d;refine#[aPy,#[H5,ap.d,hd]];obtain⟨xs,ex⟩:=jU x;rw[#[s7,#[Up,S1.tup,#[bj,z,adfp]]]];exact e
  ·rcases ZacJ with ⟨h1,h2,h3⟩ | ⟨ad,h1,h2,h3,h4⟩
   ·have lB:ZIP:=fun z=>by obtain⟨o,e⟩:=S.tracked z;rw[hl]at e;cases e
    have lB':=lB;simp only[HA.fp,Zi,not_or]at lB';obtain⟨l1,l2,l3,l4,l5⟩:=lB';refine#[nP,l,ZoM (k:=ZpW) #[mS,l3,ac] #[kC,0<ZlE],?_];rw[#[eC,jX [] ZGI (Ze3 Zae)=uo [b]],oB _ hv]
    have e1:∀ x o,Zab7->x≠B.c->x≠l->#[bD,Za0w,o]:=fun x o e hx hy=>by
     rw[ai hy,ai hx,ai hy];exact e
    have nl:∀ x o,Zab7->x≠l:=fun x o e=>ao e hl;refine k _ ⟨⟨ZbM,B.w,B.h,B.c,B.d,B.cs++[l]⟩,#[aWJ,e1 _ _ S.w ap.wc (nl _ _ S.w),e1 _ _ S.h ap.hc (nl _ _ S.h)],?_,Zf9,#[qJ,(Zals _ _).upd]⟩
    ·exact e1 _ _ ZcC np.2.2.1 (nl _ _ ZcC)
    ·refine J4.fp ⟨ap.wh,ap.wc,ap.wd,ap.hc,ap.hd,ap.cd,?_,?_,?_,?_,?_⟩
     ·simp[ap.w,Zw l1]
     ·simp[ap.h,Zw l2]
     ·simp[ap.c,Zw l3]
     ·simp[ap.d,Zw l4]
     ·exact vU ap.cs l5
    ·show Za0w B.c=Zab (.dK (dQ ZaGl ZsP))
     rw[#[dc,l3],ac,h3 b,ug a [b] l lenc]
    ·show Xi _ ZaGl ZsP
     rw[h3 b];exact bI (vm ZwN fun x hx o e=>#[aWI,#[bZ,#[fP,ap.c,z,hx]]]) #[h8,ac]
    ·obtain⟨as,hd,hp⟩:=S.d
     refine#[aPy,e1 _ _ hd (Zw ap.cd) (nl _ _ hd)];obtain⟨xs,ex⟩:=jU x;exact e1 t _ e #[bZ,#[Up,S.tup,#[bj,z,Sx]]] (nl t _ e)
    ·intro x o e hx
     exact #[aWI,#[bZ,#[h1,hx,z,Sx]]]
    ·simp only[HA.fp,Zi,Zn]at hx ⊢
     rcases hx with hx | hx | hx | hx | hx | hx | hx
     ·exact #[Ai,hx]
     ·exact Zam ZaE'
     ·exact Zam (Zap (Zap (Zam hx)))
     ·exact Zam #[AC,ZaE']
     ·exact Zam #[AC,#[AC,hx]]
     ·exact #[h1,Zap,hx,hl]
     ·cases hx
   ·rw[h2]at hv;cases hv
def Bl (F:#[aq,Zr3,ZbaT,mj]) : #[cO,ZfC,(Hw c.C)]:=by
 refine #[amR,BN]
 ·obtain⟨p,B,st,rfl,_⟩:=h
  rfl
 ·obtain⟨p,B,st,rfl,S,hl,k⟩:=h
  refine#[Z3,#[ajj,vk,ZbaU,ZbaV,#[nc,Zdg]]];refine⟨_,rfl,p,c.C,B.dx,_,_,rfl,S.ob,U.cl,U.nW,Mb _,B.w,_,Zhd,rfl,S.w,?_,by unfold aR;rw[Y5];exact hl,k⟩;unfold dk aR;rw[ZK,ZK];rfl
def CF (F:#[aq,Zq',ZbaW,nU])(NG:Ac P w K mg ZaO c) : #[g2,3,Zl',(wD c)]:=by
 refine #[amS,CS]
 ·obtain⟨p,B,st,g,rfl,_⟩:=h
  rfl
 ·obtain⟨p,B,st,g,rfl,S,hg,k⟩:=h
  have hu:=ZbE
  refine⟨_,ae (aK #[Kq,oz] (af (OO NG U hr dw rfl ZBW rfl Zao)) au) (
   ZayD),?_⟩
  have g1:ZaUK:=ZaR7
  refine⟨_,rfl,_,rfl,p,c.C,ZbM,_,_,rfl,ZcC,Zc1,Zr7,Mb _,B.w,_,rfl,g1,_,rfl,?_⟩
  cases e:ZqU with
  | none =>
   rw[e]at k;exact aM #[fe,g,hg,fun dx hdx=>k dx _ (ah hdx) ac]
  | some m =>
   rw[e]at k;refine ar ⟨_,rfl,p,c.C,ZbM,_,_,rfl,ZcC,Zc1,Zr7,Mb _,_,rfl,B.w,_,rfl,(by rw[e]at g1;exact g1),k⟩
def GU (F:#[aq,ZC5,ZbaX,rJ]) : #[cO,Zr2,(SR c.C)]:=by
 refine #[amR,Ht]
 ·obtain⟨p,B,st,a,b,rfl,_⟩:=h
  rfl
 ·obtain⟨p,B,st,a,b,rfl,S,k⟩:=h
  have hu:=ZbE;refine#[hc,af (aq (Ju (rj hu ZaD (OY hu Zdg Zao gJ ZK4))))];refine⟨_,rfl,_,rfl,p,c.C,ZbM,_,_,rfl,ZcC,Zc1,U.nC,T4 _,B.c,rfl,ZaII,_,rfl,ZC9⟩;have s1:ZaxB:=ZAu;have S1:=ZIt;refine#[hc,#[mw,Zsv,S1.c]];rcases ZacJ with ⟨h1,h2,h3⟩ | ⟨ad,h1,h2,h3,h4⟩
  ·rw[h1]
   refine#[ci,l,_,#[mw,ZpW,ac],?_];have:=k _ s1;unfold o9 at this;rw[h2]at this;exact this
  ·rw[h2]
   refine#[ci,ad,_,#[mw,ZpW,h3],?_];rw[FG];exact k _ s1
def ET (F:#[aq,ZCY,ZbaY,kX])[458] : #[bi,3,ZfC,ZaBk]:=by
 refine #[amR,wz]
 ·obtain⟨p,A0,st,rfl,_⟩:=h
  rfl
 ·obtain⟨p,A0,st,rfl,S,ndc,lc9,k⟩:=h
  have hu:=ZbE
  refine⟨_,ae (bd 1 wz.nd ZaWO) (
   ae ZaR5 (
   ae ZaR5 (
   ae (RE (gq Zao (#[xi,OX,am kX,yJ,ZbaB,[Zac,Zac],Ci,(O5 (cu Zak rfl)),#[pb,⟨#[a0n,ZbaC,ZbaC],cZ,pv 0,bM oW Zajh ZPm aXj Zl7⟩]]) rfl)) (
   ae (gq Zao #[aU2,ZGw] rfl) (
   ZIE))))),?_⟩
  try dsimp only[cxK,cxK']
  intro x dx nx ndx nex;refine#[ci,x,dx,ac,fun B H1 S1 kp fr=>ZqG]
  have s0:aD H #[h_,dx,Ztl,x,#[hG,c.C,[]]]:=#[aff,nx,ndx]
  have E1:Ev c H H1 x B Zlg:=⟨#[aen,kp,nx],S1,AD,#[aKK,fr]⟩;have S1:=E1.hall;have xo:=S1.ob;have s1:=E1.same;have px:#[tk,Zqf]:=#[avA,nx];clear E1 S1;refine#[Lh,s1 _ _ ZcC,Zr7,Mb,A0.w,s1 _ _ S.w,ZWY];have xw:x≠lw:=ao xo hlw;refine#[LL,#[ch,xw,xo],Zr7];rw[UQ];have fw:#[aZ,lw]:=ZrX hlw;have s2:aD H (upd #[eI,lw,Ztj] x ZD8):=cw #[s6,hlw] nx
  have w2:#[aT,Zad_,x,ZD8,lw,Ztj]:=#[Z1,xw]
  have x2:#[aT,Zad_,x,ZD8,x,ZD8]:=ac;generalize upd Zad_ x ZD8=H2 at s2 w2 x2 ⊢;refine#[Lh,s2 _ _ ZcC,U.nH,VX,A0.h,s2 _ _ S.h,fun lh hlh=>?_];have xh:x≠lh:=ao x2 hlh;have wh:lw≠lh:=ao w2 hlh;refine#[LL,#[ch,xh,x2],U.nH];rw[UP];have fh:#[aZ,lh]:=s2.free hlh;have s3:aD H (upd ZUm x ZD7):=cw (Zge (ah hlh)) nx
  have w3:#[aeU,lw,Ztj]:=#[tT,#[dc,xw],wh,w2]
  have h3:#[aeU,lh,Zayv]:=#[Z1,xh]
  have x3:#[aeU,x,ZD7]:=ac;generalize upd ZUm x ZD7=H3 at s3 w3 h3 x3 ⊢;have cl:=Zt ZwN;have kl:=si cl;refine#[Lh,#[gC,ZcC],U.nC,T4,ZgX,ZaAO,fun oo lc hlc=>?_];have c3:=ZaAO
  have cne:∀ b,Za9->ZHq:=fun b e z=>by rw[z,S.c]at e;cases e
  have hFz:#[aT,H3,ZgX,ZTe,ZgX,ZTe]:=ac;have hF:∀ b,ZHq->upd H3 ZgX ZTe b=H3 b:=#[cX,Zfi];generalize upd H3 ZgX ZTe=HF at hlc hFz hF ⊢
  have lcc:lc≠ZgX:=fun z=>by rw[z,hFz]at hlc;cases hlc
  have flc3:H3 lc=Zac:=#[c_,hF lc lcc,hlc]
  have flc:#[aZ,lc]:=ZC7 flc3
  refine L7 (d:=A0.c) (o:=oo) (kvs:=dQ ZPn Zd_) #[di,∃ (v1 v2:Zgi)(cs:ZeZ),σ=[v1,v2]/\aD HF HK/\HK lc=Zab (.dK (dQ cs (ZbaZ i)))/\#[kU,(#[E7,y,#[adZ,HK]]),cs,ZbaZ,i]/\(#[NM,HF b=Zac/\b≠lc])/\Za8z]
   ⟨none,none,[],rfl,ah hlc,ac,Zan,(fun b h=>nomatch h),aQo⟩ #[jd,#[Gv,t1],ZaDs] ?_ ?_
  ·rintro i q σ HK T hq ⟨v1,v2,cs,rfl,t1,hd,pc,fr2,ndcs⟩ hT
   obtain⟨a,y,ha,hy,rfl⟩:=LX cl hq;have csl:=Zt pc;obtain⟨y',hy',hA⟩:=#[aiI,ZwN,ha];rw[hy]at hy';cases hy';have hil:i<ZrD:=#[ri,hy]
   have aF:#[adZ,HF]:=by
    rw[hF a (ZcM)]
    ·exact #[gC,hA]
    ·have:=S.nd
     simp only[HA.fp,ZW,Zi,not_or]at this;exact #[fP,#[cl,0].2.2.1.2,z,Zy ha]
   refine#[pt,T,ac];have sT:=#[gm,[kV (ZeX y.1),Za6 a],hT];refine R4 #[nP,a,sT _ _ (t1 _ _ aF),#[C8,⟨_,#[hF,y.1],#[aE,ai (ao ZaIb hl),sT _ _ hd],rfl,#[cB,si csl,ZL,Zpi],?_⟩]];have lF:HF l=Zac:=t1.free (sT.free hl);have llc:l≠lc:=(ao ZaIb hl).symm
   have lcs:l∉cs:=fun z=>by
    obtain⟨j,hj⟩:=aQ8 z;obtain⟨z',_,e⟩:=#[aiI,pc,hj];have:=sT _ _ e;rw[hl]at this;cases this
   refine⟨_,_,cs++[l],rfl,cw (ZwC (Zalt (ah hl))) hlc,?_,?_,Zdx,vU ndcs lcs⟩
   ·rw[ac,oB _ (F0 (ZcM)),ZH,hy,ZG,ug _ _ _ csl]
    have hn:(st.circ.map (·.1))[i]? = Zab y.1:=#[pQ,hy]
    rw[List.map_take]at z;obtain⟨j,hj⟩:=aQ8 z;have hj2:=Zay1;rw[ZL]at hj2;rw[ZXT]at hj;have:=(Zba0 (Zg') ndc).mp (hj.trans hn.symm)
    lia
   ·rw[ZH,hy,ZG]
    refine bI (Zba1 pc fun b z hb e=>?_) (ZaC (#[jo,ai llc]) Zan);rw[ai #[c',fr2].2];exact ZFh _ _ #[fR,sT]
   ·rcases Zex hb with z | z
    ·exact fr2 b z
    ·rw[ZcA];exact⟨lF,llc⟩
  rintro σ HK ⟨v1,v2,cs,rfl,t1,hd,pc,fr2,ndcs⟩;rw[kl,ZD]at hd pc
  have xF:#[bD,HF,ZD7]:=#[aE,hF x (cne x nx),x3]
  refine#[LL,t1 _ _ xF,U.nC];rw[UM]
  have nfz:#[afh,H ZgX]:=fun o' u' z=>by rw[S.c]at z;cases z
  refine⟨ZgX,oo,.dK (dQ ZPn Zd_),#[ch,(cne x nx).symm,ZaDs],nfz,?_⟩
  have lcx:lc≠x:=fun z=>by rw[z,x3]at flc3;cases flc3
  have csx:#[NM,Zqf/\ZHq/\Za9]:=fun b hb=>by
   have e:=#[kt,fr2]
   have n1:ZHq:=fun z=>by rw[z,hFz]at e;cases e
   refine⟨(fun z=>by rw[z,xF]at e;cases e),n1,?_⟩;rw[hF b n1]at e;exact ZC7 e
  generalize hH4:upd (upd HK x ZaYk) ZgX (.dK (dQ ZPn Zd_))=H4
  have g4:∀ b,Zqf->b≠ZgX->H4 b=HK b:=fun b n1 n2=>by rw[<-hH4,ai n2,ai n1]
  have x4:#[bD,H4,ZaYk]:=by rw[<-hH4,ai (cne x nx),ac]
  have s4:aD H H4:=fun b o e=>by
   by_cases hb:b=ZgX
   ·rw[hb,S.c]at e
    rw[hb,<-hH4,ac];exact e
   ·rw[g4 b #[de,px] hb]
    exact t1 _ _ #[bj,hF b hb,#[gC,e]]
  have up4:#[FG,ZXh,x,ZgX,H4]:=fun b o e n1 n2=>#[aE,g4 b n1 n2,t1 _ _ #[bj,hF b n2,e]]
  have w4:=up4 _ _ w3 (Zw xw) ZaFV;have h4:=up4 _ _ h3 (Zw xh) ZaFW
  have c4:H4 lc=Zab #[Td,cs]:=#[aE,g4 lc lcx lcc,hd]
  have pc4:Za0 (#[E7,y,#[adZ,H4]]) cs Zd_:=Wz.Paired.mapP' pc fun b z hb e=>by
   rw[g4 b Zaz0 #[c',csx].2.1];exact e
  have flc4:lw≠lc:=fun z=>by rw[z,flc3]at w3;cases w3
  have flh4:lh≠lc:=fun z=>by rw[z,flc3]at h3;cases h3
  have wcs:lw∉cs:=fun z=>by
   have e:=(fr2 lw z).1;rw[hF lw ZaFV,w3]at e;cases e
  have hcs:lh∉cs:=fun z=>by
   have e:=(fr2 lh z).1;rw[hF lh ZaFW,h3]at e;cases e
  clear hH4 up4 g4;obtain⟨qs,hq,hqp⟩:=S.d;refine#[Lh,s4 _ _ ZcC,U.nD,T5,A0.d,#[h4,#[qe,hq]],fun ld hld=>?_];have xd:x≠ld:=ao x4 hld;refine#[LL,#[ch,xd,x4],U.nD];rw[UN];have fd5:#[aZ,ld]:=Zalu hld
  have up:#[Gq,H4,x,(upd H4 ld #[ml,qs.map]),x,#[D6,{ B with w:=lw,h:=lh,c:=lc,d:=ld }]]:=#[wr,#[ch,n,(ah hld) _ _ e]]
  refine#[bO,k x ⟨ZbM,lw,lh,lc,ld,cs⟩ _ nx ⟨?_,?_,up _ _ w4 (Zw xw),up _ _ h4 (Zw xh),up _ _ c4 lcx,?_,qs,?_,?_⟩ (Zdx) ?_]
  ·rw[ac,<-VW _ cs]
  ·have d1:lw≠ld:=ao w4 hld
   have d2:lh≠ld:=ao h4 hld;have d3:lc≠ld:=ao c4 hld
   have d4:ld∉cs:=fun z=>by
    obtain⟨j,hj⟩:=aQ8 z;obtain⟨z',_,e⟩:=#[aiI,pc4,hj];rw[hld]at e;cases e
   have d5:lc∉cs:=#[aF,(fr2 lc z).2 rfl];simp[HA.fp,wh,flc4,flh4,wcs,hcs,d1,d2,d3,d4,d5,ndcs]
  ·exact Zba1 pc4 fun b z hb e=>up _ _ e Zaz0
  ·rw[#[dc,xd],ac]
  ·exact #[vq,hqp,fun a z e=>up _ _ #[fR,s4] #[fR,px]]
  ·simp[HA.fp]at hb
   rcases hb with rfl | rfl | rfl | rfl | z
   ·exact fw
   ·exact fh
   ·exact flc
   ·exact fd5
   ·exact (csx b z).2.2
  ·exact cw (ZwO (ah hld)) nx
def CN (F:#[aq,ZPo,ZPo,nY]) : #[cO,[ZaG],(HE K)]:=by
 refine #[amR,CU]
 ·obtain⟨l,xs,rfl,_⟩:=h
  rfl
 ·obtain⟨l,xs,rfl,hS,k⟩:=h
  refine#[Z3,#[aSF,Zak]];exact#[tA,l,xs,hS,k]
def E8 (F:#[aq,ZL1,ZL1,pT]) : #[g2,2,ZLA,ZaLD]:=by
 refine #[amS,Fl]
 ·obtain⟨a,b,c,d,rfl,_⟩:=h
  rfl
 ·obtain⟨a,b,c',d,rfl,k1,k2⟩:=h
  have hu:=ZbE
  have two:Zo9:=Zaw
  have four:#[o8,4]:=Zaw
  have six:#[o8,6]:=Zaw
  refine⟨_,ae #[DY,#[aUD,bM (LS rfl) Zajh Zalv Zalw (cE (c5 #[dS,Zak,Zao,#[dS,ZaD,ZaM,bp]]))],U.eS,U.mS,Zba] (
   af (aq (c5 #[dS,#[fJ,Zak,Zao],#[fJ,ZaD,ZaM],#[dS,#[fJ,Zak,ZaD],#[fJ,Zao,ZaM],#[dS,#[fJ,Zak,ZaM],ZaGp,bp]]]))),?_⟩
  try dsimp only[cxK,cxK']
  refine⟨_,rfl,_,rfl,_,rfl,_,rfl,four,ZC9⟩;have s1:=#[ms,ZaXc,hl];refine#[p3,l,Zas7,ZyT,#[av3,(4:Nat)],fun q S n hq hn hnd=>?_];have s2:=#[gl,Zad9,hq];refine⟨q,_,_,rfl,ac,_,_,rfl,rfl,_,rfl,?_⟩;have s12:=Zhh;generalize upd #[hJ,#[eG,ZaXc]] q ZVA=H2 at s12 ⊢;have hn:n<=4:=hn;have hnd:n=4↔ZavX:=hnd
  by_cases nd:ZavX
  ·rw[Zb (#[e9,hnd.mpr nd])]
   refine ar #[nb,fun t1 h1=>#[nb,#[aLq,#[nb,fun t4 h4=>#[nb,fun t5 h5=>#[nb,fun t6 h6=>⟨six,ZWZ⟩]]]]]];have g1:=#[gm,[ZyY,ZyW],h1];have g2:=#[gm,[ZF9,ZF8],h2];have g3:=#[gm,[ZyY,ZF9],h3];have g4:=#[gm,[ZyW,ZF8],h4];have g5:=#[gm,[ZyY,ZF8],h5];have g6:=#[gm,[ZyW,ZF9],h6];have g7:=#[ms,[Za6 t1,Za6 t2,Za6 t3,Za6 t4,Za6 t5,Za6 t6],hlq];have g67:=Zalx g7;have g57:=g5.trans g67;have g47:=g4.trans g57;have g37:=g3.trans g47;have g27:=ZwP g37;have g17:=ZC_ g27;refine k1 nd lq _ (Zaly (g1.free (g2.free (g3.free (g4.free (g5.free (g6.free hlq))))))) (ZwQ g17) #[cr,[t1,t2,t3,t4,t5,t6],ac];exact ZaC #[qy,g27] #[s',#[qy,g37],#[qy,g47],#[s',#[qy,g57],#[qy,g67],#[h8,#[qy,g7]]]]
  ·rw[Zc (by have:n≠4:=#[jj,nd,hnd.mp];lia)]
   exact aM (k2 nd H2 s12)
def uE (F:#[aq,ZBp,ZBp,pM]) : #[cO,Zp2,wC]:=by
 refine #[amR,JI]
 ·obtain⟨z,rfl,_⟩:=h
  rfl
 ·obtain⟨z,rfl,asc,len,k⟩:=h
  have hu:=ZbE;have sl:Za9n:=ZQ
  have zl:Znq:=Zad
  have hz:Zaj_:=ZtR
  refine⟨_,ae #[IT,(ax lI Zak (#[ajp,kd,UO.mkd]) rfl),(BD (iA (BB yR yR Zdw ZaN0 #[ajk,UO.ml]))),(tQ)] (
   #[bY,#[ajo,#[a1d,pM,Dy,UO.mt]]]),?_⟩
  try dsimp only[cxK,cxK']
  obtain⟨o,its,n,k1,k2,k3,k4,k5⟩:=UO.kd;refine⟨_,rfl,kd,ZOU ZaJ,rfl,#[nx,⟨o,its,n,k1,k2,k3,k4,k5⟩],rfl,Di _,_,rfl,?_⟩;unfold gI at k;rw[#[af0,ZaRb,ZaRb,Zacu,vD z Zwz]]
  by_cases c1:Zacu
  ·rw[Zc c1]at k ⊢
   exact Zaf3
  rw[Zb c1]at k ⊢;refine ar Za1p
  by_cases h1:ZFx
  ·rw[ZaD9]
   refine aM Zaf9
   by_cases h2:Zx0
   ·rw[ZaNm]
    rw[Zc (#[bh,ZV3,ZuP])]at k;refine ZaXR;refine #[a1w,eZ]
    ·refine Zaee
     rw[Ui];exact ZO9
    refine#[ci,q,_,ZaxQ,?_];rw[#[alz,#[atb,eZ] id=Za's eZ,Za7j]];exact ZK7
   ·rw[ZaN7]
    rw[#[aPU,h2,q.2]]at k;exact Zaf3
  ·rw[ZaGG]
   rw[#[aPU,h1,q.1]]at k;exact #[mz,Zaf3]
def xJ (F:#[aq,ZL6,ZL6,jH]) : #[cO,[ZeV],Pw]:=by
 refine #[amR,jE]
 ·obtain⟨p,n,f,rfl,_⟩:=h
  rfl
 ·obtain⟨p,n,f,rfl,hn,hf,k⟩:=h
  have sl:Za9n:=ZQ
  refine⟨_,ae ZaIT (
   ae #[yU,Zv_,Zfl] (
   ae (bd 1 jE.nd Zfl) (
   ae #[le,ZJP,2,jE.nd,(af #[i4,(ax #[afp,MD,18] ZaD Zao rfl),#[uE,Zao,Zl9]])] (
   ZIE)))),?_⟩
  try dsimp only[cxK,cxK']
  obtain⟨xs,hp⟩:=hf.hd;refine Zq0
  cases f with
  | pl f =>
   rw[DX];refine Zi';rw[DZ];exact ZaV8
  | name w =>
   rw[WW];refine Zi';rw[WX];exact ZaV8
  | back f =>
   obtain⟨q,e1,e2⟩:=hf;rw[DT];exact #[aZD,#[avc,[q],(ZaC (ZakI #[Tx,hl]) Zan)]]
  | row fs =>
   obtain⟨t,as,e1,e2,fl,pr⟩:=hf;have al:=ZgH;rw[D3];refine Zli;rw[#[GU,#[lz,ZaJ #[da,ZaG]=ZaJ (ZbC ZaG)]]];refine Zab5;have s1:=ZxL;refine Zapf
   refine m7 (K:=K) (a:=t) (xs:=ZDH) #[di,∃ (v:Zgi)(bs:ZeZ)(gs:Zb9),σ=[ZfM,Zha,v]/\ZeK/\HK l=Zab #[ml,Zj5]/\Za0 (bR n HK) bs gs/\gs=#[yh,0].foldl Zi0 []/\Zki<=i]
    ⟨Zac,[],[],rfl,s1,ac,Zan,rfl,ZaN⟩ ZaOR ?_ ?_
   ·rintro i y σ HK hi ⟨v,bs,gs,rfl,s2,hl2,pg,eg,gl⟩
    obtain⟨b,hb,rfl⟩:=ZbI;have hil:=#[ri,hb];obtain⟨g,hg,hB0⟩:=#[aiI,pr,hb];have hB:bR n HK b g:=hB0.mono #[jS,s2];have bl:=Zt pg
    have rdP:#[aWP,bs,Zow,ZoB]:=by
     clear eg gl bl hl2
     induction pg with
     | nil=>exact Zan
     | cons a _ ih=>exact ZaY8
    have es:#[Zk,0].foldl Zi0 []=Zi0 gs g:=by rw[ZH,hg,ZG,aXU,eg];rfl
    refine⟨_,rfl,_,rfl,l,bs,g.dt,Zow ZoB,rfl,ZaA1,#[Y_,hB.rd],rdP,Zawz⟩;have hkb:kb=Zae↔g∈gs:=hkb.trans ⟨fun z=>by obtain⟨u,hu,e⟩:=ZG8;rw[ZaA0]at hu;exact hu,#[aF,aQa (f:=ZoB) z]⟩
    cases kb with
    | true =>
     refine ar ⟨_,bs,gs,rfl,s2,hl2,pg,?_,Zad⟩;rw[es];unfold likeStep;rw[Y9 (hkb.mp rfl)]
    | false =>
     refine aM #[aR8,Zg']
     have up:∀ c xs,HK c=Zab Zej->#[aT,HK,l,#[hL,Zj5 Za6,ZEu],c,Zej]:=fun c xs e=>by rw[ai (fun z=>by rw[z,hl2]at e;cases e)];exact e
     refine⟨_,bs++[b],gs++[g],rfl,ZabM,ZxF,#[vs,pg,ZaFP,(ZaC (hB.mono up) Zan)],?_,ZuT⟩;rw[es];unfold likeStep;rw[Y8 (fun z=>by have:=hkb.mpr z;cases this)]
   rintro σ HK ⟨v,bs,gs,rfl,s2,hl2,pg,eg,gl⟩;rw[Y5,al,ZD]at eg;subst eg;exact#[bO,k l bs HK hl s2 hl2 pg]
def xM (F:#[aq,ZPp,ZPp,jJ]) : #[cO,[ZeV],Pu]:=by
 refine #[amR,oH]
 ·obtain⟨p,f,rfl,_⟩:=h
  rfl
 ·obtain⟨p,f,rfl,hf,ok,k⟩:=h
  refine⟨_,ae ZaB_ (
   ae ZaB_ (
   ae (bd 1 oH.nd (#[aji,Zwc])) (
   ae #[wa,#[sm,(aI ri Zao ZaIq)]] (
   #[bY,#[ajj,LP,T.bmax,PyProof.Rows.boot_max,(eI ZaIq Zdw)]])))),?_⟩
  try dsimp only[cxK,cxK']
  obtain⟨xs,hp⟩:=hf.hd;refine Zq0;have o1:=ok.1;have o2:=Zp4
  cases f with
  | pair a b =>
   rw[Zaqr];exact ZgF
  | quad a b c d =>
   rw[ZDR];refine Zi';rw[ZaOC];exact ZgF
  | line g =>
   obtain⟨q,e1,e2⟩:=hf;have g0:ZuF:=o1;rw[ZDR];refine Zli;rw[ZDR];refine ar ⟨_,rfl,p,_,1,_,rfl,rfl,ZbQ,rfl,q,_,rfl,ZZy,_,rfl,p,_,0,_,rfl,rfl,ZbQ,rfl,rfl,_,rfl,?_⟩;rw[ZDR];refine Za1i
   have e:#[pV,ZdO>ZaGS,ZdO,ZaGS,((ZCQ g).row.length:Nat)]:=by
    show #[pV,ZdO>ZOG,ZdO,ZOG,(ZaT6:Nat)]
    rw[Y5,List.length_zip,ZI,Zns]
    lia
   rw[e];exact k
  | star g =>
   obtain⟨q,e1,e2⟩:=hf;have g0:ZuF:=o1;rw[ZDR];refine Zli;rw[ZDR];refine ar ⟨_,rfl,p,_,1,_,rfl,rfl,ZbQ,rfl,q,_,rfl,ZZy,_,rfl,p,_,0,_,rfl,rfl,ZbQ,rfl,rfl,_,rfl,?_⟩;rw[ZDR];refine Za1i
   have e:#[pV,ZdO>ZaGT,ZdO,ZaGT,((ZO2 g).row.length:Nat)]:=by
    show #[pV,ZdO>ZOG,ZdO,ZOG,(#[aX,Zs9,ZKS]:Nat)]
    rw[Y5,Y5,ZI,Zns]
    lia
   rw[e];exact k
  | all g =>
   obtain⟨q,e1,e2⟩:=hf;have g0:ZuF:=o1;have g1:ZqL:=o2;rw[ZDR];refine Zli;rw[ZDR];refine ar ⟨_,rfl,p,_,1,_,rfl,rfl,ZbQ,rfl,q,_,rfl,ZZy,_,rfl,p,_,0,_,rfl,rfl,ZbQ,rfl,rfl,_,rfl,?_⟩;rw[ZaQR];have lm:#[aX,(Zak3 g).gs.map,Zar]=Zfz:=Y5 ..;rw[lm];refine aM ⟨_,rfl,_,rfl,_,_,rfl,rfl,_,_,rfl,rfl,ZA2,_,_,rfl,rfl,ZbR,?_⟩
   have e:ZaRq/2=ZaOb:=by
    have h:=AR g
    have h2:#[a3,2*ZVS]=#[a3,Zfz*(Zfz-1)]:=#[d9,h]
    rw[Int.natCast_mul,Int.natCast_mul,#[cn,Int.natCast_sub]]at h2;have h3:ZaRq=2*ZaOb:=h2.symm;rw[h3]
    lia
   rw[e];exact k
def CM (F:#[aq,ZPq,ZPq,iD])[143] : #[bi,3,[ZeV],Fy]:=by
 refine #[amR,tV]
 ·obtain⟨p,f,rfl,_⟩:=h
  rfl
 ·obtain⟨p,f,rfl,hf,ok,k⟩:=h
  have two:Zo9:=Zaw
  refine⟨_,ae #[wa,#[yK,ZaMU]] (
   ae (bd 1 tV.nd Zv_) (
   ae #[wa,(Hd rfl (eI Zao (gK BW Zao (fU (aj)) pA)) Zajh ZC' Zajh T.zip)] (
   ae #[wa,(#[xj,iD,pe,ZaHM,ZSf,(rm (gK BW Zao (fU (aj)) pA)),ZaHM,bc (eI #[v7,Zy5,Zao] Zak)])] (
   ae #[wa,(#[xi,OW,am iD,pe,ZV4,[Zac,Zac,Zac,ZW2],Ci,#[auj,Zl7],#[pb,⟨#[a0n,ZaED,ZaED],cZ,RC K (gK (RW K) ZaM (fU (aI dH Zak (aj))) pA),fG 2 (#[mi,ZV4]),cZ,bc (eI Zao ZaD)⟩]])] (
   #[bY,#[aYz,Zv',Zv',Zv',Zv']]))))),?_⟩
  try dsimp only[cxK,cxK']
  obtain⟨xs,hp⟩:=hf.hd;refine Zq0;have o1:=ok.1;have o2:=Zp4
  cases f with
  | pair a b =>
   have hp:ZLD:=hf;rw[Zaqr];refine aM ⟨_,rfl,p,_,1,_,rfl,rfl,Zi_,rfl,_,rfl,p,_,2,_,rfl,rfl,Zi_,rfl,two,ZaLf⟩;have s1:=ZaA4;exact ZaZ3
  | line g =>
   obtain⟨q,e1,e2⟩:=hf;have e2:Zaa1:=e2;have g0:ZuF:=o1;have g1:ZqL:=o2;rw[ZDR];refine ar ⟨_,rfl,p,_,1,_,rfl,rfl,ZbQ,rfl,_,rfl,p,_,0,_,rfl,rfl,ZbQ,rfl,rfl,_,rfl,?_⟩;rw[#[sW,#[dN,(ZCQ g).word,Za']]];refine aM #[hH,_,rfl,_,rfl,ZaW6];rw[Ke,<-List.map_drop];have s1:=ZaJj;refine⟨q,r,_,_,rfl,Zape,ZbL ac,#[rB,Y5,Y5,ZI],#[sR,ZI],fun l ts H' hl s2 hl2 pr=>?_⟩;rw[Qh]at pr;exact k l H' ZVl ZTY ⟨ts,hl2,wg (f:=fun p:ZgI=>ZaFd) (R:=fun t p=>ZaD4) pr⟩
  | star g =>
   obtain⟨q,e1,e2⟩:=hf;have e2:Zaa1:=e2;have g0:ZuF:=o1;have g1:ZqL:=o2;rw[ZDR];refine ar ⟨_,rfl,p,_,1,_,rfl,rfl,ZbQ,rfl,_,rfl,p,_,0,_,rfl,rfl,ZbQ,rfl,rfl,_,rfl,?_⟩;rw[ZDR];refine Zli;rw[#[sW,#[dN,(ZO2 g).word,Zcd]]];refine aM #[eJ,ZaW6];rw[Ke,<-List.map_drop];have s1:=ZaJj;have hr2:#[d1,r,ZZs,r,ZZs]:=ac;generalize upd H r ZZs=H1 at s1 hr2 ⊢;refine#[aMl,ZC9]
   have dl:#[aX,Zdr,1]<=60:=ZWF
   refine m7 (K:=K) (a:=r) (xs:=Zs9 Zar) #[di,#[SW,σ=[v,Zye]/\Zaa7/\cR HK l (#[mf,(Zdr 1).take] ZKS)]]
    #[h3,ZAu,Zu3] #[jd,Zp9,#[fI,s2,hr2]] ?_ ?_
   ·rintro i y σ HK hi ⟨v,rfl,s2,row⟩
    obtain⟨o,ho,rfl⟩:=ZbI;obtain⟨as,hl2,pr⟩:=row;have al:=ZgH;rw[Y5,ZL]at al
    obtain⟨x0,gt,rfl⟩:∃ x0 gt,g=x0::gt:=by
     cases g with
     | nil=>simp at g0
     | cons x0 gt=>exact#[dU,x0,gt]
    refine gD ⟨_,rfl,q,_,0,_,rfl,rfl,#[fI,s2,Zapi],ZbX,_,rfl,two,ZCA⟩;have st:=#[h7,#[co,x0,o]];refine#[FR,st _ _ hl2,Zqk,#[aIQ,st]];have:=BJ (a:=x0) (b:=o) hl2 pr ht;rw[ZH,ho,ZG,Zp];exact this
   rintro σ HK ⟨v,rfl,s2,row⟩;rw[Y5,ZD]at row;exact k l HK ZVl ZTY row
  | all g =>
   obtain⟨q,e1,e2⟩:=hf;have e2:Zaa1:=e2;have g0:ZuF:=o1;have g1:ZqL:=o2;have rl:=ZaEy;have rl:Zayc:=rl;rw[ZDR];refine ar ⟨_,rfl,p,_,1,_,rfl,rfl,ZbQ,rfl,_,rfl,p,_,0,_,rfl,rfl,ZbQ,rfl,rfl,_,rfl,?_⟩;rw[ZDR];refine Zli;rw[ZDR];refine Zli;rw[ZaQR];refine aM #[fe,q,Zaxl,ZC9]
   refine w9 (K:=K) (a:=q) (xs:=ZYL) #[di,∃ (v0 v1 v2:Zgi)(ps:ZeF),σ=[v0,v1,v2,Zye]/\ZeK/\cR HK l ps/\ps++qK (Zdr i)=qK g]
    ⟨Zac,Zac,Zac,[],rfl,ZAu,Zu3,rfl⟩ ZaZX ?_ ?_
   ·rintro i y σ HK T hi ⟨v0,v1,v2,ps,rfl,s2,row,ep⟩ hT
    obtain⟨x,hx,rfl⟩:=ZbI;have hil:=ZYA;have sT:=ZaMv;have hTT:ZaYI:=ac;have row:=ZaDl;have s2:=ZaDk;generalize ZaUq=HK at hTT row s2 ⊢;refine ZaIF
    have ed:ZaOZ:=ZaSr
    rw[ed]at ep;have ep:ps++(ZFB (ZxB)++qK (Zdr Zcf))=qK g:=ep;have epl:=#[tI,ep];rw[Zh,Zh,Y5]at epl;have ei:(ZkB+1)=#[a3,i+1]:=rfl;refine P6 #[au1,#[auQ,ZRR,xD Zcf Zbdj (Zg')]];rw[ei,F1,<-List.map_drop];have s3:=#[Gr,ZFB,hr1];have hr2:#[aT,HK,r,ZZt,r,ZZt]:=ac;have row:=ZaAJ;have s3:=ZZB
    have nrl:r≠l:=fun z=>by
     obtain⟨as,hl2,_⟩:=row;rw[<-z,hr2]at hl2;cases hl2
    generalize upd HK r ZZt=H3 at row s3 hr2 ⊢;clear s2 hTT hr1;refine#[aMl,?_]
    refine m7 (K:=K) (a:=r) (xs:=ZFB Zar) (fun j σ H4=>#[SW,σ=[Zayo,#[c4,x],v,Zye]/\(#[ef,ZXh,l,#[bc,H4]])/\cR H4 l (ps++(#[aqn,0].take j).map ZxB)])
     #[g7,ZajS,by simpa using row] (fun j σ H4 _ #[pu,s4]=>ZbL (s4 _ _ hr2 nrl)) ?_ ?_
    ·rintro j y σ H4 hj ⟨v,rfl,s4,row4⟩
     obtain⟨o,ho,rfl⟩:=ZIj;obtain⟨as,hl4,pr⟩:=row4;have al:=ZgH;rw[Zh,Y5,ZL]at al;refine gD #[nb,ZCA];have st:=#[h7,#[co,x,o]];refine#[FR,st _ _ hl4,Za9o,fun b u e n=>?_]
     ·rw[Zqg];exact st _ _ (s4 b u e n)
     ·have:=BJ (a:=x) (b:=o) hl4 pr ht
      rw[ZH,ho,ZG,Zp,<-aQb];exact this
    rintro σ H4 ⟨v,rfl,s4,row4⟩;rw[Y5,ZD]at row4;exact⟨_,_,_,_,rfl,fun b u e=>s4 b u (s3 b u e) (fun z=>by rw[z,hl]at e;cases e),row4,#[aE,aQb,ep]⟩
   rintro σ HK ⟨v0,v1,v2,ps,rfl,s2,row,ep⟩;rw[Y5,aXf]at ep;have ep:ps++[]=qK g:=ep;rw[aQg]at ep;rw[ep]at row;exact k l HK hl s2 row
  | quad a b c d =>
   obtain⟨q,e1,e2⟩:=hf;have e2:ZaCB:=e2;rw[ZDR];refine ar ⟨_,rfl,p,_,1,_,rfl,rfl,ZbQ,rfl,_,rfl,p,_,0,_,rfl,rfl,ZbQ,rfl,rfl,_,rfl,?_⟩;rw[ZDR];refine Zli;rw[ZDR];refine Zli;rw[ZDR];exact ar ⟨_,rfl,q,_,0,_,rfl,rfl,Zjt,rfl,_,rfl,q,_,1,_,rfl,rfl,Zjt,rfl,_,rfl,q,_,2,_,rfl,rfl,Zjt,rfl,_,rfl,q,_,3,_,rfl,rfl,Zjt,rfl,a,b,c,d,rfl,ZaXK,Za0Z⟩
def uB (F:#[zR,Zba2,iN]) : #[cO,ZfC,(Fu cb)]:=by
 refine #[amR,uN]
 ·obtain⟨b,dx,rfl,_⟩:=h
  rfl
 ·obtain⟨b,dx,rfl,hb,k⟩:=h
  refine⟨_,ae ZaJ0 (
   ae ZaJ0 (
   af (gq Zak (gJ) rfl))),?_⟩
  try dsimp only[cxK,cxK']
  intro d1 h1;have n1:b≠d1:=ao hb h1;refine⟨_,rfl,b,cb,dx,[],rfl,#[mS,n1,hb],ZdL,ZDa,ZKg,?_⟩;intro d2 h2
  have n2:b≠d2:=fun z=>by rw[<-z,ac]at h2;cases h2
  refine⟨_,rfl,b,cb,dx,_,rfl,(#[jo,ai n2]),ZdL,ZPr,#[kC,1<ZbF],?_⟩;intro d3 h3
  have n3:b≠d3:=fun z=>by rw[<-z,ac]at h3;cases h3
  refine⟨_,rfl,b,cb,dx,_,rfl,(#[jo,ai n3]),ZdL,ZalA,(#[zx,Tw,2]),?_⟩;rw[FY]
  have h2':upd H d1 Zc5 d2=Zac:=by rw[Zz5]at h2;exact h2
  have h3':upd ZaMe d2 Zc5 d3=Zac:=by
   rw[Zum]at h3
   by_cases z:d3=d2
   ·rw[z,ac]at h3;cases h3
   ·rw[ZtX,Zum]at h3;rw[ZtX];exact h3
  have s1:=#[uX,h1];have s2:=#[uX,h2'];have s3:=#[uX,h3']
  have keep:#[vo,#[aT,#[h_,d1,Zc5,d2,Zc5],d3,Zc5,a,o],b,#[aT,#[kz,#[kz,ZaMe,b,#[hG,cb,#[Zz,Zkc,d1]],d2,Zc5],b,#[hG,cb,(bW ZiY #[aj,d2] #[Zz,Zkc,d1])],d3,Zc5],b,#[hG,cb,(Cg #[aj,d1] #[aj,d2] #[aj,d3])],a,o]]:=fun a o e n=>by
   rw[Zqg]
   by_cases z3:a=d3
   ·rw[z3,ac]at e ⊢;exact e
   ·rw[ai z3]at e ⊢
    rw[Zqg]
    by_cases z2:a=d2
    ·rw[z2,ac]at e ⊢;exact e
    ·rw[ai z2]at e ⊢
     rw[Zqg];exact e
  have d12:d1≠d2:=fun z=>by rw[<-z,ac]at h2';cases h2'
  have d13:d1≠d3:=fun z=>by rw[<-z,s2 _ _ ac]at h3';cases h3'
  have d23:d2≠d3:=fun z=>by rw[<-z,ac]at h3';cases h3'
  refine k ⟨dx,d1,d2,d3⟩ _ (#[atY,Zd4,#[nm,#[kD,#[fR,s1]]]]) ⟨ac,Zd4 d1 _ #[nm,#[kD,ac]] (Zw n1),Zd4 d2 _ #[nm,ac] (Zw n2),Zd4 d3 _ ac (Zw n3),(fun e he=>nomatch he),(fun e he=>nomatch he),aQo,Zce,d12,d13,d23⟩ h1 #[ya,h2'] (ZWV h3')
def qZ (F:#[aq,ZPs,Zba3,gR])[238][15] : #[g2,14,ZKJ,ZaZz]:=by
 refine #[amS,rC]
 ·obtain⟨b,p,A,bs,w,f,rfl,_⟩:=h
  rfl
 ·obtain⟨b,p,A,bs,w,f,rfl,B,hf,asc,wl,bl,kd0,kd1,kd2,kd3⟩:=h
  have hu:=ZbE;have sl:Za9n:=ZQ
  refine⟨_,ae #[DY,#[nd,#[oX,i7,Zl7]],UO.eB,UO.mB,Zba] (
   ae #[DY,#[Kq,rj],UO.eT,UO.mT,#[aVs,ZaAc]] (
   ae #[aYf,Zl9] (
   ae ZaJt (
   ae (iH hu Zdg Zao #[apH,Zl9] rfl) (
   af #[DX,#[hi,yR,Zatv,ZaDL],iH hu Zdg Zao #[aFu,Zl9] rfl]))))),?_⟩
  try dsimp only[cxK,cxK']
  have nC:Zaar:=Zo3;have nL:Zaas:=Zo3;have nR:Zaat:=Zo3;refine#[hH,w,rfl,asc,Zad,Zawy];unfold defO at kd0 kd1 kd2 kd3
  cases nm:gI w with
  | false =>
   refine aM ?_;exact kd1 (#[d9,Y9 nm]) H1 s1
  | true =>
   rw[ZaIh]at kd0 kd1 kd2 kd3;have B1:=ZalF
   have g1:eE H1 Zeb ZjC ((wW bs w).map #[cj,Zax1]):=#[K1,B1.f1]
   refine ar ⟨_,rfl,_,rfl,b,cb,ZbG,_,_,rfl,B1.ob,ZdL,ZDa,Ej,Zeb,_,rfl,g1,_,rfl,?_⟩
   cases e:Zlj with
   | some x =>
    have hm:w∈bs.map (·.w):=ZlQ ⟨x,ZuW,ZaKt⟩;exact #[sl,w,Zad,#[aoX,#[aF,kd2 (#[d9,Zt2]) H1 s1]]]
   | none =>
    have hm:=ZOW e;rw[Zk3]at kd0 kd2 kd3;have hf1:ZaE2:=ZaOU;refine ar ⟨_,rfl,b,ZbG,_,rfl,B1.ob,nC,_,rfl,b,p,A,bs,f,rfl,B1,hf1,#[alB,?_],#[alB,kd3 #[tN,ZHg] H2 (ZgY s2)]⟩;rw[Zqx]at kd0;have B2:=Zaz9;have hf2:ZaE3:=ZaGU;have s12:=Zhh
    have e1:lN H2 Zeb ZjC ZfL #[g3,Zeb,Zarr]:=by
     have q:=#[Lq,Za6 p,B2.f1]
     rwa [ZaIs]at q
    refine⟨_,rfl,_,rfl,b,cb,ZbG,_,_,rfl,ZDb,ZdL,ZDa,Ej,_,rfl,Zeb,_,rfl,e1,?_⟩;generalize h3:upd H2 Zeb Zarr=H3
    have n3:ND H2 H3:=#[c_,h3,EN B2.f1]
    have k3:#[vo,#[hP,H2],Zeb,#[hP,H3]]:=#[aLr,h3]
    have f31:H3 Zeb=Zab Zarr:=by rw[<-h3,ac]
    clear h3
    have ob3:=n3 _ _ B2.ob fun _ q=>nomatch q
    refine⟨_,rfl,b,ZbG,_,rfl,ob3,nL,_,rfl,b,p,A,bs,f,rfl,⟨ob3,k3 _ _ B2.f2 Zazm⟩,ZPt n3,kn,fun H4 s4=>?_⟩;have n4:=n3.trans (SA s4);have ob4:=s4 _ _ ob3;have f42:=s4 _ _ (k3 _ _ B2.f2 Zazm)
    have e2:lN H4 ZeD ZjC ZaV' (upd H4 ZeD Zar2):=by
     have q:=#[Lq,Zar1,f42]
     rwa [ZaIs]at q
    refine⟨_,rfl,b,cb,ZbG,_,_,rfl,ob4,ZdL,ZPr,Io,_,rfl,ZeD,_,rfl,e2,?_⟩;generalize h5:upd H4 ZeD Zar2=H5;have n5:ND H2 H5:=#[fP,n4.trans,h5,EN f42]
    have k5:#[vo,#[hP,H4],ZeD,Zaz5]:=#[aLr,h5]
    have f52:H5 ZeD=Zab Zar2:=by rw[<-h5,ac]
    clear h5
    have ob5:=n5 _ _ B2.ob fun _ q=>nomatch q
    have f51:=k5 _ _ #[qe,f31] B.d12;have f53:=k5 _ _ #[qe,(k3 _ _ B2.f3 (Zw B.d13))] (Zw B.d23)
    have g5:eE H5 ZeD ZjC (Zab (Zag (ZDc (gW bs)))):=by
     have q:=#[mw,Zmn,f52]
     rwa [DQ _ _ _ _ (#[cE,jq,e]),ZaB]at q
    refine⟨_,rfl,b,cb,ZbG,_,_,rfl,ob5,ZdL,ZPr,Io,_,rfl,ZeD,_,rfl,g5,_,_,rfl,rfl,_,rfl,?_⟩;have kd0:=kd0 rfl;have kp:#[vn,Zim->ZaAa->ZaAb->Zaz5]:=fun a o z m1 m2=>k5 _ _ #[qe,(k3 _ _ #[pT,s12] m1)] m2
    by_cases c:ZDe
    ·rw[#[ks,Zayb]]
     have BR:Vj cb H5 b A bs:=⟨ob5,f53,#[OR,#[fd,#[aBf,0].1.nd n5,ZaBf]],B.nd⟩;refine aM ⟨_,rfl,b,ZbG,_,rfl,ob5,nR,_,rfl,b,p,A,bs,f,rfl,BR,ZPt n5,kn,c,fun l H6 hl s6 row=>?_⟩;have f63:=s6 _ _ f53;have lf:(#[aX,ZalC,kg])<=Zru:=aQI ..
     have vn:f8 ZaM_ ZaAY=Zac:=by
      rw[jq,jc.mpr (ZcM)]
      ·rfl
      ·obtain⟨u,hu,eu⟩:=ZG8
       exact hm (ZlQ ⟨u,(ZagV hu).1,eu⟩)
     have e3:lN H6 Zhx ZjC Zeh ZaXQ:=by
      have q:=#[Lq,Za6 l,f63]
      rwa [oB _ vn]at q
     refine⟨_,rfl,b,cb,ZbG,_,_,rfl,s6 _ _ ob5,ZdL,ZalA,Nw,_,rfl,Zhx,_,rfl,e3,?_⟩;have n7:ND H6 ZaXQ:=EN f63;have n7':=(n5.trans (SA s6)).trans n7;refine #[a0O,⟨w,f,ZDd,ZCM,p,l⟩,Zui,fun a o z m1 m2 m3=>#[ch,m3,s6 _ _ (kp a o z m1 m2)]];refine Ka B2 n7' hm #[mS,B.d13,s6 _ _ f51] #[mS,B.d23,s6 _ _ f52] (by rw[ac];show Zab (ZrT (_++_))=Zab ZaJK;rw[Zt1]) (ZPt n7') #[fG,⟨row.nd n7,Zwy (ZaH1) f kn c⟩] bl
    ·rw[#[kw,Zayb]]
     refine ar (#[a0O,⟨w,f,ZDd,[],p,p⟩,ZaMJ,fun a o z m1 m2 _=>kp a o z m1 m2]);exact Ka B2 n5 hm f51 f52 (by rw[f53];show #[tW,ZrT]=Zab ZaJK;rw[ZtY,aQg]) (ZPt n5) ZaMJ bl
def uC (F:#[aq,ZPu,Zba4,iO]) : #[uv,2,ZeW,ZaOJ]:=by
 refine #[amS,uO]
 ·obtain⟨b,A,bs,w,rfl,_⟩:=h
  rfl
 ·obtain⟨b,A,bs,w,rfl,B,wl,k1,k2⟩:=h
  have hu:=ZbE
  refine⟨_,ae #[DY,#[Kq,oz],UO.eU,UO.mU,(jh (cG ak (cG ZaAc lZ)))] (
   ZayD),?_⟩
  try dsimp only[cxK,cxK']
  have g1:eE H Zeb ZjC ((wW bs w).map #[cj,Zax1]):=#[K1,B.f1]
  refine⟨_,rfl,_,rfl,b,cb,ZbG,_,_,rfl,Zkh,ZdL,ZDa,Ej,Zeb,_,rfl,g1,_,rfl,?_⟩
  cases e:Zlj with
  | none =>
   exact #[sl,w,Zad,#[ed,y,hy,#[aF,k2 e H ZO6]]]
  | some x =>
   rw[e]at g1;exact ar ⟨_,rfl,b,cb,ZbG,_,_,rfl,Zkh,ZdL,ZDa,Ej,_,rfl,Zeb,_,rfl,g1,k1 x e⟩
def re (F:#[aq,ZPv,Zba5,gT])[15] : #[g2,14,Zma,ZaPF]:=by
 refine #[amS,rE]
 ·obtain⟨b,p,A,bs,f,rfl,_⟩:=h
  rfl
 ·obtain⟨b,p,A,bs,f,rfl,B,hf,k1,k2,k3⟩:=h
  refine⟨_,ae #[aYf,Zl7] (
   ae #[DY,#[hi,KY,#[apH,Zl7],ZaDL],UO.eL,UO.mL,#[aVs,(kQ (jW Zajh UO.mp))]] (
   #[bY,#[aFu,Zl7]])),?_⟩
  try dsimp only[cxK,cxK']
  have nC:Zaar:=Zo3;have nL:Zaas:=Zo3;have nR:Zaat:=Zo3;refine⟨_,rfl,b,ZbG,_,rfl,Zkh,nC,_,rfl,b,p,A,bs,f,rfl,B,hf,fun kn H1 s1=>?_,k1⟩;have B1:=ZalF;have hf1:ZaE2:=ZaOU;refine⟨_,rfl,b,ZbG,_,rfl,B1.ob,nL,_,rfl,b,p,A,bs,f,rfl,B1.l,hf1,kn,fun H2 s2=>?_⟩;have B2:=Zaz9;have hf2:ZaE3:=ZaGU;have s12:=Zhh;refine Zaf9
  by_cases lg:ZDf
  ·rw[#[ks,(ZbB:Int)<ZUQ]]
   exact aM #[tA,Zaw,ZbB,Zal,#[aoY,#[aF,k2 kn lg H2 s12]]]
  ·rw[#[kw,(ZbB:Int)<ZUQ]]
   exact ar ⟨_,rfl,b,ZbG,_,rfl,ZDb,nR,_,rfl,b,p,A,bs,f,rfl,B2.r,hf2,kn,Zad,fun l H3 hl s3 r=>k3 kn Zah l H3 (Zaly hl) (ZwQ s3) r⟩
def mJ (F:#[aq,ZDg,Zba6,d9])[203](M_FigureBook_told:#[uG,cb,ZPu,2,ZeW,ZaOJ])[239](M_FigureBook_check_names:#[aJr,ZI9,(DJ cb cU n)]):#[g2,(n+3+1),Zma,(DJ cb cU (n+1))]:=by
 refine #[amS,ij]
 ·obtain⟨b,p,A,bs,f,rfl,_⟩:=h
  rfl
 ·obtain⟨b,p,A,bs,f,rfl,B,hf,k1,k2⟩:=h
  refine⟨_,ae #[i4,ZFv,#[aUH,Zba7,ZIA]] (
   #[bbg,ZaOl,(fG 2 ij.nd),#[aUH,ZPw,Zl9]]),?_⟩
  try dsimp only[cxK,cxK']
  obtain⟨xs,hp⟩:=hf.hd;refine Zq0;have nT:#[QG,ZPu]:=Zo3;have nC:Zaar:=Zo3
  apply #[q4,HH=H/\σ=[ZHv,ZfM,Zac]/\∀ w,f=Zds w->ZcF]
  ·intro rest
   cases f with
   | name w =>
    rw[DW];obtain⟨e1,wl⟩:=hf;refine aM ⟨_,rfl,b,ZbG,_,rfl,Zkh,nT,_,rfl,p,_,1,_,rfl,rfl,ZbQ,rfl,b,A,bs,w,rfl,B,Zad,Ztu,fun he HX sX=>k2 (#[aF,ZOW he (jy.mp z)]) HX sX⟩;exact ZcV _ _ #[E1,#[v3,jy.mpr (ZlQ ⟨e,(iC he).1,(iC he).2⟩)]]
   | pl f=>rw[DY];exact ar (rest _ _ ⟨rfl,rfl,fun w z=>by cases z⟩)
   | back f=>rw[DV];exact ar (rest _ _ ⟨rfl,rfl,fun w z=>by cases z⟩)
   | row fs=>rw[D4];exact ar (rest _ _ ⟨rfl,rfl,fun w z=>by cases z⟩)
  rintro σ HH ⟨rfl,rfl,hname⟩;refine#[aVc,f,hf,fun l as H1 hl s1 hl1 pr=>#[k6,l,hl1,?_]];have al:=ZgH
  refine cD (K:=K) (a:=l) (xs:=ZDH) #[di,#[gJ,[ZHv,ZfM,v],Zaa7,∀ u∈f.inner.take i,ZadX]]
   #[h3,ZUJ,#[i1,by simp at hu]] ZaGX ?_ ?_
  ·rintro i y σ HK hi ⟨v,rfl,s2,kn⟩
   obtain⟨a,ha,rfl⟩:=ZbI;obtain⟨u,hu,hA⟩:=ZaiJ;have s12:=Zhh;have B2:=ZaKc;refine⟨_,rfl,b,ZbG,_,rfl,ZDb,nC,_,rfl,b,a,A,bs,u,rfl,B2,ZA6,fun ku H3 s3=>?_,fun nk H3 s3=>?_⟩
   ·refine#[g7,ZZB,Zf9]
    rw[ZH,hu,ZG]at hx;rcases ZqH with z | z
    ·exact kn x z
    ·rw[ZcA];exact ku
   ·refine k2 #[bZ,nk ?_] H3 (ZwQ s3)
    by_cases q:ZacA
    ·obtain⟨w,rfl⟩:=q
     cases (show #[au,Zayp[i]?,u] from hu)
    ·exact (yH (ZaXL)).mp z u (Zy hu)
  rintro σ HK ⟨v,rfl,s2,kn⟩;rw[Y5,al,ZD]at kn;refine k1 ?_ HK (ZgY s2)
  by_cases q:ZacA
  ·obtain⟨w,e⟩:=q
   exact hname w e
  ·exact (yH (ZaXL)).mpr kn
def q8 (F:#[aq,Zq9,Zba8,eP])[203](lM:#[bb,ZPp,1,[ZeV],Pu])[239](M_FigureBook_length:#[KQ,Zq9,ZI9,ZaGu]):#[bi,(n+3+1),Zma,(xV cb ZdX)]:=by
 refine #[amR,rD]
 ·obtain⟨b,p,A,bs,f,rfl,_⟩:=h
  rfl
 ·obtain⟨b,p,A,bs,f,rfl,B,hf,kn,k⟩:=h
  have hu:=ZbE;have sl:Za9n:=ZQ
  refine⟨_,ae #[wb,ZaE_] (
   ae #[wb,#[apH,ZIA]] (
   ae #[wb,#[ajj,LV,T.sum,PyProof.Rows.boot_sum,#[xk,eP,kI,ZaSX,[Zac,Zab 0,ZW2],ZaOl,ZaSX,aI ri (UH K 18 (T8 hr ZaY) #[v7,Zy5,ZaD] Zak) (dm ZPx Zao ZdL ZoW fb Zl8)]]] (
   #[bY,#[oX,lM,Zl7]]))),?_⟩
  try dsimp only[cxK,cxK']
  obtain⟨xs,hp⟩:=hf.hd;have nL:Zaas:=Zo3;refine Zq0
  cases f with
  | name w =>
   rw[DW];obtain⟨e1,wl⟩:=hf
   have g1:eE H ZeD ZjC ((wW bs w).map #[cj,Zapd]):=#[K1,B.f2]
   cases e:Zlj with
   | none=>exact Zaro
   | some x =>
    rw[e]at g1;refine aM ⟨_,rfl,b,cb,ZbG,_,_,rfl,Zkh,ZdL,ZPr,Io,_,rfl,p,_,1,_,rfl,rfl,ZbQ,rfl,ZeD,_,rfl,g1,?_⟩;have:=ZadO;rw[ay.len,show ZLa by unfold gW;rw[e]]at this;exact this
  | pl f =>
   rw[DY];refine Zi';rw[DX];refine Zi';rw[DZ];have:=ZadO;rw[ay.len]at this;exact #[aRI,Zcl]
  | back f =>
   rw[DV];refine Zi';rw[DT];obtain⟨q,e1,e2⟩:=hf;rw[ay.len]at k;exact aM ⟨_,rfl,b,ZbG,_,rfl,Zkh,nL,_,rfl,p,_,1,_,rfl,rfl,ZbQ,rfl,b,q,A,bs,f,rfl,B,e2,Zaa4,k⟩
  | row fs =>
   rw[D4];refine Zi';rw[D3];refine Zi';rw[HS];have hf0:=hf;obtain⟨t,as,e1,e2,fl,pr⟩:=hf;have al:=ZgH;refine aM #[aVc,Zke,hf0,fun l us H1 hl s1 hl1 pu=>#[k6,l,hl1,Zic]];have pu:#[kU,(bR n H1),us,ZrP,fs]:=pu;have ul:=Zt pu;have B1:=ZalF;have olen:#[aX,ZrP,fs]<=100:=ZV (OI fs) fl
   refine cD (K:=K) (a:=l) (xs:=ZlV Za6) #[di,#[gJ,[v,ZHv,ZfM],Zaa7,HK q=Zab #[kS,#[mf,#[aBl,0].take],#[gS,#[a3,ZAS*ZYx]]]]]
    ZuQ ZaGX ?_ ?_
   ·rintro i y σ HK hi ⟨v,rfl,s2,hq2⟩
    obtain⟨a,ha,rfl⟩:=ZbI;obtain⟨u,hu,hA⟩:=#[aiI,pu,ha];have s12:=Zhh;have B2:=ZaKc;have e2':=s12 _ _ e2;have prd:#[aWP,as,ZiZ,fs]:=bR.rds hn (Zvp pr #[alH,#[Py,s12 _ _ y]]);have hA2:bR n HK a u:=hA.mono #[jS,s2];have ku:ZadX:=om.mp kn u (v9.mp (Zy hu));refine gD ⟨_,rfl,p,_,1,_,rfl,rfl,#[fI,s12,e1],rfl,t,rfl,#[aR,e2'],_,rfl,as,u.dt,_,e2',#[Y_,hA2.rd],prd,Zie⟩;have hc:c=ZAS:=Tz hc;have cle:=Tx fs u;refine⟨_,rfl,b,ZbG,_,rfl,ZDb,nL,_,rfl,b,a,A,bs,u,rfl,B2,hA2,ku,fun H3 s3=>?_⟩;refine⟨_,_,rfl,rfl,ZA2,_,#[gC,hq2],#[rB,Y5,Y5,ZL],_,rfl,#[aEd,s3],?_⟩;rw[ac,ZH,hu,ZG,Zp,Zp,hc,<-Int.natCast_mul];rfl
   rintro σ HK ⟨v,rfl,s2,hq2⟩;rw[Y5,ul,ZD]at hq2;refine#[ci,q,_,ZaxP,?_];have:=#[aTT,HK];rw[ay.len,vK,<-Qy,<-HI,ZK]at this;exact this
def rc (F:#[aq,Zq_,Zba9,gS])(qv:#[bb,ZPo,1,[ZaG],(HE K)])(qu:#[bb,ZPq,3,[ZeV],Fy])[239](M_FigureBook_row_of:#[KQ,Zq_,ZI_,ZaGv]):#[bi,(n+4+1),Zma,(sw cb ZdX)]:=by
 refine #[amR,gM]
 ·obtain⟨b,p,A,bs,f,rfl,_⟩:=h
  rfl
 ·obtain⟨b,p,A,bs,f,rfl,B,hf,kn,lt,k⟩:=h
  have hu:=ZbE;have sl:Za9n:=ZQ
  refine⟨_,ae #[wb,#[aU2,(cE ZaE_)]] (
   ae #[wb,#[oX,qv,#[aYc,ZIA]]] (
   ae (aK ZFv (ae (bd 2 gM.nd Zfl) (
   ae #[le,(rm Zv'),3,gM.nd,#[jg,(ii ZJ PySem.F.slot_list_extend PySem.F.type_list_extend Mr ZaD #[aYc,ZqD])]] (
   ZEN))) Zqr) (
   #[bY,#[oX,qu,Zl7]]))),?_⟩
  try dsimp only[cxK,cxK']
  obtain⟨xs,hp⟩:=hf.hd;have nL:Zaat:=Zo3;have okr:Zbdy:=ZaH1;refine Zq0
  cases f with
  | name w =>
   rw[DW];obtain⟨e1,wl⟩:=hf
   cases e:Zlj with
   | none=>exact Zaro
   | some x =>
    rw[ay.len,show ZLa by unfold gW;rw[e]]at lt
    have g1:eE H Zhx ZjC (((wW ZaLI w).map #[cj,Za6 e.l])):=#[K1,B.f3]
    rw[LM B.nd e lt]at g1;obtain⟨⟨as,hl,pr⟩,rl⟩:=B.rw x ZuW lt;refine aM ⟨_,rfl,b,cb,ZbG,_,_,rfl,Zkh,ZdL,ZalA,Nw,_,rfl,p,_,1,_,rfl,rfl,ZbQ,rfl,Zhx,_,rfl,g1,x.l,_,rfl,#[h4,hl],#[Pz,?_]⟩;refine k l2 _ h2 (ah h2) ?_;rw[ay.rowF,show ZaPG by unfold j3;rw[e]];exact#[jc,as,#[vr,pr,ah h2 _ _ z]]
  | pl f =>
   rw[DY];refine Zi';rw[DX];refine Zi';rw[DZ];rw[ay.rowF]at k;exact #[aRI,k]
  | back f =>
   rw[DV];refine Zi';rw[DT];obtain⟨q,e1,e2⟩:=hf;rw[ay.len]at lt;rw[ay.rowF]at k;refine aM ⟨_,rfl,b,ZbG,_,rfl,Zkh,nL,_,rfl,p,_,1,_,rfl,rfl,ZbQ,rfl,b,q,A,bs,f,rfl,B,e2,Zaa4,lt,fun l H1 hl s1 row=>?_⟩;obtain⟨as,hl1,pr⟩:=row;refine#[ci,l,_,ZaxO,#[Pz,k l2 _ #[ya,h2] ZaCu ?_]];rw[<-List.map_reverse];exact ZaYb
  | row fs =>
   rw[D4];refine Zi';rw[D3];refine Zi';rw[HS];obtain⟨t,as,e1,e2,fl,pr⟩:=hf;have al:=ZgH;rw[ay.len]at lt;rw[ay.rowF,oE]at k;have kn:=ZaCH;refine aM #[pM,ZC9];have s1:=ZxL;refine Zapf
   refine m7 (K:=K) (a:=t) (xs:=ZDH) #[di,#[gJ,[ZHv,ZfM,Zha,v],ZeK,cR HK l ZaWa]]
    #[h3,s1,Zu3] ZaC' ?_ ?_
   ·rintro i y σ HK hi ⟨v,rfl,s2,row⟩
    obtain⟨a,ha,rfl⟩:=ZbI;obtain⟨u,hu,hA⟩:=ZaiJ;have um:=Zy hu;have ul:=KI (e:=gW bs) um;have B2:=ZalE s2;obtain⟨cs,hl2,pc⟩:=ZYi;refine⟨_,rfl,#[se,hl2],_,rfl,b,ZbG,_,rfl,ZDb,nL,_,rfl,b,a,A,bs,u,rfl,B2,ZA6,kn u um,Zad,fun l3 H3 hl3 s3 row3=>?_⟩;obtain⟨ds,hl4,pd⟩:=row3;have hl2':=ZaAP;have rl1:=Zt pc;have rl2:=Zt pd
    have len1:=ay.row_lenL okr Zyh (#[eB,ZaXW]) (by
     have:=sf (e:=gW bs) i fs
     lia)
    rw[oE]at len1;have len2:=#[aPe,okr,Zah];have lle:=sf (e:=gW bs) i fs;refine#[aWY,hl2',hl4,?_];refine#[qO,#[aIQ,s3]];rw[ZH,hu,ZG,List.flatMap_append,List.flatMap_singleton,<-Zp]
    have up:∀ c xs,H3 c=Zab Zej->#[aT,H3,l,#[ml,(cs++ds).map],c,Zej]:=fun c xs e=>by rw[ai (fun z=>by rw[z,hl2']at e;cases e)];exact e
    exact#[aUy,#[jR,up _ _ #[pT,s3]],#[jS,up]]
   rintro σ HK ⟨v,rfl,s2,row⟩;rw[Y5,al,ZD]at row;exact#[bO,k l HK hl s2 row]
def rh (F:#[aq,ZBo,ZBo,jo]) : #[cO,Zp2,Ll]:=by
 refine #[amR,BV]
 ·obtain⟨z,rfl,_⟩:=h
  rfl
 ·obtain⟨z,rfl,asc,len,k1,k2⟩:=h
  have hu:=ZbE
  refine⟨_,ae #[IT,(iA (BB yR yR Zdw ZaN0 #[ajk,UO.md])),(BD (iA (gL (bw (og rfl) Zajh T.all aXt #[a1d,jo,tM,UO.dg])))),Zjq] (
   ae #[oQ,#[h2,jC,#[gt,#[v7,IQ,Zak]],(iI #[xZ,Zak])],Zjq] (
   #[bY,(bM LO Zajh T.int PyProof.Rows.boot_int Zl8)])),?_⟩
  try dsimp only[cxK,cxK']
  have sl:Za9n:=ZQ
  have zl:Znq:=Zad
  have hz:Zaj_:=ZtR
  have zz:#[GY,"0"]=[48]:=Zal
  refine Za1p
  by_cases h1:ZFx
  ·rw[ZaD9]
   refine aM Zaf9
   by_cases h2:Zx0
   ·rw[ZaNm]
    refine ZaXR;refine #[a1w,tL]
    ·refine Zaee
     rw[TD];exact ZO9
    refine⟨q,_,rfl,ZaxQ,_,rfl,?_⟩
    by_cases h3:Za_r
    ·rw[show ZaIV id=Zae from ZM.mpr fun b hb=>by obtain⟨c,hc,rfl⟩:=ZdI hb;exact h3 c hc]
     obtain⟨c,l,hcl⟩:∃ c l,Zev=c::l:=by
      cases e:z.cps.toList with
      | nil=>rw[hz,e]at h1;exact #[uf,h1]
      | cons c l=>exact#[dU,c,l]
     refine ar ⟨_,rfl,z,_,c,rfl,rfl,zl,#[aE,hcl,ZbX],rfl,_,rfl,?_⟩;rw[PU,zz]
     show #[PA,#[lz,[c]=[48]]]
     have fin:#[Uq,Za_p,Zev]->ZxO:=fun h4=>(pj z).mpr ⟨h1,h2,h3,h4⟩
     by_cases h4:c=48
     ·rw[#[ug,h4]]
      refine aM Zmc;rw[PU,zz]
      by_cases h5:ZaGD
      ·rw[Zc h5]
       obtain⟨ds,N⟩:=fin #[bl,q.2 h5];exact ar ZaZY
      ·rw[Zb h5]
       exact #[aeT,#[GE,#[aLK,0].2.2.2 ⟨#[cE,hcl,h4],h5⟩]]
     ·rw[Zb (#[bl,h4 (Za_b q).1])]
      obtain⟨ds,N⟩:=fin #[bl,h4 (#[ba_,q.1,hcl,Zl Zcl])];exact #[pj,ZaZY]
    ·rw[#[bh,ZaIV id=Zaz,#[ash,#[bl,h3 #[gQ,ZrY q _ (aQa hc)]]]]]
     exact #[aeT,#[GE,h3 #[aLK,0].2.2.1]]
   ·rw[ZaN7]
    exact aM (k2 #[GE,h2 (ZFW ZVk).2.1] H ZO6)
  ·rw[ZaGG]
   exact #[mz,aM (k2 #[GE,h1 (ZFW ZVk).1] H ZO6)]
def Bu (F:#[aq,ZBl,ZBl,uV]) : #[cO,Zzc,xW]:=by
 refine #[amR,uQ]
 ·obtain⟨z,a,rfl,_⟩:=h
  rfl
 ·obtain⟨z,a,rfl,zl,al,k⟩:=h
  have sl:Za9n:=ZQ
  have two:Zo9:=Zaw
  have zl2:Znq:=Zad
  refine⟨_,ae (bd 2 uQ.nd Zao) (
   ae (wu ZY #[h2,jC,(ax Bw ZaD (ZaOH) Zfa),(iI (ax Fb (aJ IQ Zak ZaD Zv5) (ak) rfl))] (af (UL (i:=2) uQ.nd rfl ZM7 Zdw Ub))) (
   #[jI,#[arQ,(fU (pv 2))],ZaD])),?_⟩
  try dsimp only[cxK,cxK']
  have hz:ZacT:=ZZQ
  have fin:∀ e:Nat,a<=e->ZZY->eQ Zgp=ZaVn->∀ (v:Zgi),WQ (WT (mD (Yu Wr ZaaT (P2 (HL 1)) (P2 (HL 2))) (mD (HL 2) qg))) { nx:=fun x H'=>Q ZMJ H',rt:=Q } [Zab3,#[c4,a],ZYe] H:=fun e h1 h2 h3 _=>by
   refine⟨_,rfl,_,rfl,_,rfl,_,rfl,_,rfl,z,rfl,zl2,_,rfl,two,ZCA⟩;have:=k t ht;rw[h3,ZL,ZI,hz,ZHI,ZaOk]at this;rw[Qz z h2];exact this
  refine Zh6;refine#[ayU,∃ e:Nat,σ=[Zab3,#[c4,a],ZYe]/\H'=H/\a<=e/\ZZY/\m=Zy2/\eQ Zgp=ZaVn++eQ (ZGZ (e-a)),⟨_,a,rfl,rfl,ZaN,al,rfl,#[bm,Nat.sub_self]⟩];rintro m σ H' ⟨e,rfl,rfl,h1,h2,rfl,h3⟩;refine#[agd,rfl,z,zl2,_]
  by_cases lt:ZaKn
  ·rw[#[ks,(e:Int)<Ztc]]
   have hc:#[au,Zgn[e]?,ZG0]:=Zty
   have hc2:#[au,Zgp[e-a]?,ZG0]:=#[cB,List.getElem?_drop,ZaOk,hc]
   refine aM ⟨_,rfl,_,rfl,z,e,ZG0,rfl,rfl,zl2,aN (j:=e) hc,_,_,rfl,rfl,_,rfl,?_⟩;rw[UV]
   cases hs:oj ZG0 with
   | true=>exact ar (fin e h1 h2 (R8 h3 hc2 hs) Zac)
   | false =>
    refine aM ⟨#[ahv,ZaNZ],ZMk,_,rfl,_,_,rfl,rfl,ZaAg,Zad,e+1,rfl,rfl,Zad,Zad,rfl,?_⟩;rw[#[fN,e+1,a,e-a+1]];exact R7 h3 hc2 hs
  ·rw[#[kw,(e:Int)<Ztc]]
   exact #[pj,(fin e h1 h2 (Vf h3 #[pJ,ZI]) Zac)]
def E7 (F:#[aq,ZPC,ZPC,pS])[99][215] : #[g2,2,Zzc,(PK P0 lp ql cF ZUX ZlX Vs)]:=by
 refine #[amS,kU]
 ·obtain⟨z,a,rfl,_⟩:=h
  rfl
 ·obtain⟨z,a,rfl,asc,zl,al,_,tI,k1,k2⟩:=h
  have two:Zo9:=Zaw
  refine⟨_,ae #[qZ,#[dd,gG,ZtF],2,kU.nd,3,kU.nd] (
   ae #[sV,4,kU.nd,fQ,Zl9] (
   ae #[DY,#[uU,Zc8],ZDh,ZwR,(jh (cG ak (cG ZyD lZ)))] (
   #[jI,Zc8,ZaM]))),?_⟩
  try dsimp only[cxK,cxK']
  refine Zagm;have s1:=Zarl;have wp:=JZ al;have ea:ZlX Zgp=(ZCP (toS (eQ (Zgo a)))).map fun n=>(n,ZGZ ZEa):=rfl;refine Zace;refine⟨_,rfl,_,rfl,ZaM7,Zyv,fun ds H2 N s2=>?_,fun no H2 s2=>?_⟩
  ·rw[JD N]at ea
   refine#[m_,#[nb,ZPF]];have s12:=ZKE (#[gm,[ZaQt,Zag ZS4],ht2]);exact k1 _ _ ea t2 ZaJc _ ZaH3 (Zr8 s12) #[nf,ac,wp.1] rfl
  ·rw[SI no]at ea
   exact#[eJ,#[sl,a,Zt_,#[ed,y,hy,#[cy,k2 ea H2 (df (ZgY s2)) (Zr8 (ZgY s2))]]]]
def yQ (F:#[aq,ZwS,ZwS,rP])[78]{J:ZjE}{R:ZKn}{At:ZaRT}{fl:Addr}{fdl:FuncData}{ol:Obj}{lv:Nat}{pa pb:Str}(hJ:∀ H H',J H->ZHY->J H')(hAt:∀ H H' v x,At H v x->ZHY->ZaQN)(shr:Ts R)(LA:aV P w K mg ZaO Zg1 lv fl fdl [pa,pb] (PK P0 lp ql cF J R At))(lob:ZrJ fl=Zab ol)(lod:ol.data=ZvV fdl)(lbi:#[awh,Zd2=#[aW,Zazs]->ZBS s fdl ZpH (#[azs,0].zip us)]):#[g2,(lv+1),ZbaE,(Hz P0 lp ql cF fl J R At)]:=by
 refine #[amS,ni]
 ·obtain⟨z,a,rfl,_⟩:=h
  rfl
 ·obtain⟨z,a,rfl,asc,zl,al,j0,tI,k1,k2⟩:=h
  have two:Zo9:=Zaw
  have sl:Za9n:=ZQ
  have zl2:Znq:=Zad
  refine⟨_,ae (bd 3 ni.nd Zfl) (
   ae (wu PassesOwn.leaving #[gt,ZarR] (ae #[qZ,(OV (i:=2) LA ZoW rfl ZM7 lob lod lbi bZ (eI Zak ZyJ)),4,ni.nd,1,ni.nd] (
   #[yI,ZaM,Zyz]))) (
   ae #[DY,#[xZ,ZarR],ZDh,ZwR,(jh (cG ak (cG ZyD lZ)))] (
   #[jI,#[ajl,ZqD],ZyJ]))),?_⟩
  try dsimp only[cxK,cxK']
  have hz:ZacT:=ZZQ;refine#[pM,ZWZ];have s1:=#[xK,hlq];refine#[ayU,∃ (e:Nat)(vs:Zbr)(xs:ZdZ)(fu:Nat)(v4:Zgi),σ=[Zab3,ZYe,#[bz,fl],#[bz,lq],v4]/\ZhK/\ZQA/\J H'/\#[b0,lq,Zax4]/\#[aP7,vs]/\ZZY/\m=Zy2/\Zy2<fu/\ZiF<=e/\dI R Zaug (Zgo a)=(dI R fu ZTE).map #[bl,(xs++q.1,q.2)],⟨_,a,[],[],#[aX,Zgo,a]+1,Zac,rfl,df s1,ZIu,hJ _ _ j0 (Ks (df s1)),ac,Zan,al,rfl,#[f7,ZI,hz],Zce,by show _=Option.map (#[bl,q]) _;rw[Option.map_id']⟩];rintro m σ H2 ⟨e,vs,xs,fu,v4,rfl,g2,t2,j2,h2,pr,el,rfl,fl2,vl,pm⟩;refine⟨_,rfl,_,rfl,_,rfl,_,rfl,_,_,rfl,rfl,_,rfl,z,rfl,zl2,rfl,_,rfl,?_⟩;rw[Em,oJ,Et];obtain⟨fu,rfl⟩:∃ n,fu=n+1:=⟨fu-1,Zad⟩
  by_cases hd:#[au,ZWW,32]
  ·rw[Zc hd]
   have elt:=Eu hd;refine #[ahw,ZaNZ,ZMk];refine⟨rfl,_,rfl,_,rfl,_,_,rfl,rfl,z,e+1,ZWy,asc,zl,Zad,j2,t2,fun x r hr t v H5 g5 t5 ht av=>?_,fun hr H5 g5 t5=>?_⟩
   ·rw[<-aQh]at hr
    refine ZaE1;have h5:=g5.lst h2;refine#[yP,h5,lq,h5,Zad];have g6:=TZ (o:=Zbw (vs++[v])) h5;obtain⟨k,hk⟩:=shr _ _ _ hr
    have rl:Ze5<=ZaAg:=by
     rw[hk,aQh,aQh,ZI,hz]
     lia
    refine⟨#[pg,(ZbK-Ze5)],Zad,ZSc,vs++[v],xs++[x],fu,_,rfl,TY (ZwP g5) hlq,Wz.TabI.put t5 h5,hJ _ _ (hJ _ _ j2 (Ks g5)) g6,ac,#[vs,pr,#[Mj,hAt _ _ _ _ (hAt _ _ _ _ q (Ks g5)) g6],#[h8,(hAt _ _ _ _ av g6)]],Zad,rfl,Zad,ZuT,?_⟩;rw[pm,Hb hd hr,Option.map_map,show Zgo (ZSc)=r by rw[<-hz];rw[aQh]at hk;exact L5 hk]
    congr 1
    funext q
    show (xs++(x::q.1),q.2)=(ZaIo++q.1,q.2)
    rw[aQb];rfl
   ·rw[<-aQh]at hr
    refine k2 (#[cE,pm,OR hd hr]) H5 (ZwP g5) t5
  ·rw[Zb hd]
   refine ar ⟨_,rfl,_,rfl,_,rfl,_,rfl,_,_,rfl,rfl,_,rfl,z,rfl,zl2,rfl,_,rfl,?_⟩;rw[Em,PP,Et]
   by_cases hd2:#[au,ZWW,41]
   ·rw[Zc hd2]
    have elt:=Eu hd2;refine ar #[aT1,lq,h2,fun q hq=>#[kN,_,_,rfl,two,ZCA]];have w1:=#[gm,vs,hq];have w2:=#[h7,[Zai q,Zag ((e:Int)+1)]];have w12:=df (Zba' w2);refine k1 xs (#[TE,0].drop 1) (by rw[pm,DF hd2];show Zab (xs++[],_)=_;rw[aQg]) t q vs _ (ZwP w12) (t2.same (Zba' w2)) (by rw[ac,ZI,ZI,hz,#[eA,(#[pg,(Zy2-1)]:Nat)=e+1],aXR];rfl) #[qy,w2] #[UB,pr,#[Py,hAt _ _ _ _ y (Ks w12)]]
   ·rw[Zb hd2]
    exact #[sl,e,Zt_,#[ed,y,hy,#[cy,k2 (#[cE,pm,MM hd hd2]) H2 g2 t2]]]
def EU (F:#[aq,ZDi,ZDi,pL]){dd:Nat}:#[g2,1,Zadu,(B0 cF dd)]:=by
 refine #[amS,pG]
 ·rcases h with ⟨w,q,ps,fs,rfl,_⟩ | ⟨w,q,gs,rfl,_⟩<;>rfl
 ·have two:Zo9:=Zaw
  have sl:Za9n:=ZQ
  refine⟨_,ae #[JL,(gu (MN UO.sz Zak (ZaRf)))] (
   ae #[qZ,(UJ UO.sz (ZaRf) Zak Zv5),2,pG.nd,3,pG.nd] (
   ae #[DY,(iA (BB yR yR ZaD #[ajn,Zl7] ZaM)),ZDh,ZwR,(jh (cG ak (cG (Jv (pv 0)) lZ)))] (
   ae #[JL,#[h2,jC,#[gt,Zak],(iI #[aUD,bM (LU rfl) Zajh Zalv Zalw Zl7])]] (
   ae #[oR,Zak,#[Ur,Zv',Zv']] (
   ae #[oR,Zak,#[mA,Zv']] (
   ZaBr)))))),?_⟩
  try dsimp only[cxK,cxK']
  rcases h with ⟨w,q,ps,fs,rfl,hw,hq,pr,fl,k1,k2⟩ | ⟨w,q,gs,rfl,hw,hq,gl,wl,k1,k2⟩
  ·have pl:=ZgH
   rcases hw with rfl | rfl
   ·refine ZkK
    rw[WF];refine #[q8,qz.q6,WF];refine#[mm,qz.q6,UO.t6.sq H];refine Zan9;rw[Y5,pl]
    by_cases c:ZaPq
    ·rw[ZJ4]
     refine Zane;rw[#[ks,ZsU<=60]];refine Zmd;rw[#[Q_,ZaG]];refine Zpk;rw[#[Q9,ZaG]];refine Zmd;rw[#[Q',ZaG]];refine ar ⟨_,rfl,_,rfl,two,fun p hp=>k1 (Zkd fs) (by unfold jV;rw[ZaB,Zt1]) p _ ZuD ⟨q,ps,ac,ZaqI,Zad,#[vr,pr,ZalG ZaLs]⟩⟩
    ·have nn:#[ad',ZaG]:=by
      unfold jV;rw[ZaB,ZtY]
     by_cases c1:ZGc
     ·rw[ZJ4]
      refine Zane;rw[#[kw,ZsU<=60]];exact ZO7
     ·rw[ZaGF]
      exact ZO8
   ·refine ZkK
    rw[WG];refine #[q8,qz.q7,WG];refine#[mm,qz.q7,UO.t7.sq H];refine Zan9;rw[Y5,pl]
    by_cases c:1<=Zer/\Zer<=1
    ·rw[ZJ4]
     refine Zane;rw[#[ks,ZsU<=1]];refine Zmd;rw[#[Q_,ZaU]];refine Zpk;rw[#[Q9,ZaU]];refine Zmd;rw[#[WL,ZaU,ZaU]];obtain⟨f,rfl⟩:=#[aQq,Zer];obtain⟨p0,rfl⟩:=#[aQq,Zeu]
     obtain⟨hf,_⟩:bR dd H p0 f/\True:=by cases pr with | cons hf _=>exact⟨hf,ZB0⟩
     exact aM ⟨_,rfl,q,_,0,_,rfl,rfl,ZHr,ZbX,two,fun p hp=>k1 (Zoy f) (by unfold jV;rw[Zdz]) p _ ZuD #[jc,p0,ZDj ZaLs]⟩
    ·have nn:#[ad',ZaU]:=by
      unfold jV;rw[Zdz]
      match fs,c with
      | [],_=>rfl
      | [f],c=>exact Zafs
      | _::Zdh,_=>rfl
     by_cases c1:ZGc
     ·rw[ZJ4]
      refine Zane;rw[#[kw,ZsU<=1]];exact ZO7
     ·rw[ZaGF]
      exact ZO8
  ·by_cases w1:ZaAv
   ·subst w1
    refine ZkK;rw[WA];refine #[q8,qz.q1,WA];refine#[mm,qz.q1,UO.t1.sq H];refine Zan9;rw[Y5]
    by_cases c:#[aNp,2,2]
    ·rw[Zpm]
     refine Zane;rw[#[ks,Zkj<=2]];refine Zmd;rw[#[Q_,Zb6]];refine Zpk;rw[#[WL,Zb6,Zb6]]
     match gs,c,hq,k1 with
     | ZAV,_,hq,k1=>exact aM ⟨_,rfl,q,_,0,_,rfl,rfl,ZHr,ZbX,_,rfl,q,_,1,_,rfl,rfl,ZHr,rfl,#[EX,3],fun p hp=>k1 ZaIL (by unfold fC;rw[ZaB]) p _ ZuD ⟨ac,⟨#[av2,2],#[Fs,2],fun _ _ _ _ z=>by cases z⟩⟩⟩
    ·have nn:#[u1,Zb6]:=by
      unfold fC;rw[ZaB]
      match gs,c with
      | [],_=>rfl
      | [_],_=>rfl
      | ZAV,c=>exact Zafs
      | ZaJL,_=>rfl
     by_cases c1:ZIF
     ·rw[Zpm]
      refine Zane;rw[#[kw,Zkj<=2]];exact ZO7
     ·rw[ZKj]
      exact ZO8
   by_cases w2:ZaAw
   ·subst w2
    refine ZkK;rw[WB];refine #[q8,qz.q2,WB];refine#[mm,qz.q2,UO.t2.sq H];refine Zan9;rw[Y5]
    by_cases c:ZLt
    ·rw[Zpm]
     refine Zane;rw[ZYS];refine Zmd;rw[#[Q_,Za']];refine Zpk;rw[#[Q9,Za']];refine Zmd;rw[#[Q',Za']];refine ar ⟨_,rfl,_,rfl,two,fun p hp=>k1 ZaEi (by unfold fC;rw[Zdz,Zdz,Zt1,ZaB]) p _ ZuD ⟨ZaqJ,⟨c.1,c.2,fun _ _ _ _ z=>by cases z⟩⟩⟩
    ·have nn:#[u1,Za']:=by
      unfold fC;rw[Zdz,Zdz,ZtY]
     by_cases c1:ZIF
     ·rw[Zpm]
      refine Zane;rw[ZZc];exact ZO7
     ·rw[ZKj]
      exact ZO8
   by_cases w3:ZIz
   ·subst w3
    refine ZkK;rw[WC];refine #[q8,qz.q3,WC];refine#[mm,qz.q3,UO.t3.sq H];refine Zan9;rw[Y5]
    by_cases c:ZLt
    ·rw[Zpm]
     refine Zane;rw[ZYS];refine Zmd;rw[#[Q_,Zcd]];refine Zpk;rw[#[Q9,Zcd]];refine Zmd;rw[#[Q',Zcd]];refine ar ⟨_,rfl,_,rfl,two,fun p hp=>k1 ZaEj (by unfold fC;rw[Zdz,Zdz,Zt1,#[ze,Zcd,Za'],ZaB]) p _ ZuD ⟨ZaqJ,⟨c.1,c.2,fun _ _ _ _ z=>by cases z⟩⟩⟩
    ·have nn:#[u1,Zcd]:=by
      unfold fC;rw[Zdz,Zdz,ZtY]
     by_cases c1:ZIF
     ·rw[Zpm]
      refine Zane;rw[ZZc];exact ZO7
     ·rw[ZKj]
      exact ZO8
   by_cases w4:ZIy
   ·subst w4
    refine ZkK;rw[WD];refine #[q8,qz.q4,WD];refine#[mm,qz.q4,UO.t4.sq H];refine Zan9;rw[Y5]
    by_cases c:ZLt
    ·rw[Zpm]
     refine Zane;rw[ZYS];refine Zmd;rw[#[Q_,Zcm]];refine Zpk;rw[#[Q9,Zcm]];refine Zmd;rw[#[Q',Zcm]];refine ar ⟨_,rfl,_,rfl,two,fun p hp=>k1 ZaEh (by unfold fC;rw[Zdz,Zdz,Zt1,#[ze,Zcm,Za'],ZaI9,ZaB]) p _ ZuD ⟨ZaqJ,⟨c.1,c.2,fun _ _ _ _ z=>by cases z⟩⟩⟩
    ·have nn:#[u1,Zcm]:=by
      unfold fC;rw[Zdz,Zdz,ZtY]
     by_cases c1:ZIF
     ·rw[Zpm]
      refine Zane;rw[ZZc];exact ZO7
     ·rw[ZKj]
      exact ZO8
   by_cases w5:ZaAx
   ·subst w5
    refine ZkK;rw[WE];refine #[q8,qz.q5,WE];refine#[mm,qz.q5,UO.t5.sq H];refine Zan9;rw[Y5]
    by_cases c:#[aNp,4,4]
    ·rw[#[pl,4,Zkj]]
     refine Zane;rw[#[ks,Zkj<=4]];refine Zmd;rw[#[WL,Zc0,Zc0]]
     match gs,c,hq,k1,k2 with
     | ZGA,_,hq,k1,k2 =>
      refine aM #[kN,q,ZGA,ZHr,#[av3,4],fun l S n hl nle niff=>⟨l,S,n,rfl,ac,_,_,rfl,rfl,_,rfl,?_⟩];have s1:=#[gl,Zad9,hl];have nle:n<=4:=nle;have niff:n=4↔ZavW:=niff
      by_cases nd:ZavW
      ·rw[ZaCg]
       rw[ZaCg]at s1;refine Zmd;rw[#[Q9,Zc0]];refine Zmd;rw[#[Q',Zc0]];exact ar ⟨_,rfl,_,rfl,two,fun p hp=>k1 (.pl (ZCF a b d e)) (by unfold fC;rw[Zdz,ZaB];show Zbeg;rw[Y9 nd]) p _ ZaCv ⟨#[jc,q,ZaCv _ _ hq],⟨#[av2,4],#[Fs,4],fun _ _ _ _ z=>by cases z;exact nd⟩⟩⟩
      ·rw[Zc (show Zbk<4 by have h9:¬ n=4:=#[jj,nd,niff.mp];lia)]
       exact aM (k2 (by unfold fC;rw[Zdz,ZaB];show Zbeg;rw[Y8 nd]) _ s1)
    ·have nn:#[u1,Zc0]:=by
      unfold fC;rw[Zdz,ZaB]
      match gs,c with
      | [],_=>rfl
      | [_],_=>rfl
      | [_,_],_=>rfl
      | [_,_,_],_=>rfl
      | ZGA,c=>exact Zafs
      | _::_::ZaJL,_=>rfl
     by_cases c1:4<=Zki
     ·rw[#[pl,4,Zkj]]
      refine Zane;rw[#[kw,Zkj<=4]];exact ZO7
     ·rw[#[sI,4,Zkj]]
      exact ZO8
   refine ZkK;rw[WH w1 w2 w3 w4 w5 #[bZ,hw (Zam z)] #[bZ,hw (Zap z)]];refine aM (k2 ?_ H ZO6);unfold fC;rw[Y8 w1,Y8 w5];split<;>first | rfl | (rw[Y8 w2,Y8 w3,Y8 w4])
def vY {fl c1 cy:Addr}{pm ct:Value}{d lv:Nat}(lL:#[aIK,lv,ZaVT])(Lm:C4 ZaO aG ZVa ZVb ZGh ZoN (Zag ZUR) fl c1 cy pm ct) :
  aV P w K mg ZaO Zg1 (lv+1) fl (Za91 ZCX aG ZVa ZVb ZGh [(ZoN,cy)] pm #[aj,c1] ct) [Zbba,"place"] (PK P0 aL aG cF #[aLl,aG] ZtB (Xf d)):=by
 refine Ug (ps:=[Zbba,"place"]) (y:=ZoN) ⟨rfl,rfl,rfl,Zal,Zal,Zal,Zf9,rfl⟩ Lm (ZakA) (ZakA) (#[bbb,?_])
 ·have hm:=aQF hx
  exact #[EI,∀ p∈#[Gh,0].names,p.2=Zv2->p.1=ZoN] _ hm rfl
 ·obtain⟨z,a,rfl,_⟩:=h
  rfl
 ·obtain⟨z,a,rfl,_,_,_,hc,_⟩:=h
  exact hc
 ·obtain⟨z,a,rfl,asc,zl,al,hc,tI,k1,k2⟩:=h
  refine#[hc,ka lL ZoW rfl OS (uY Zak Zao (aI uJ ZaD aj))];refine⟨_,rfl,_,rfl,_,rfl,_,_,rfl,rfl,z,a,#[bm,#[eA,(ZUR-1)=#[a3,d]]],asc,zl,al,tI,#[bbc,k1 f r hr t ZfL H' g t' ht #[ib,p,hf]],k2⟩
def CI (F:#[aq,Zl1,Zl1,bC]){c0 fw fN:Addr}{fdw:FuncData}{d lv:Nat}(hco:ZaE5)(CK:ZaQx)(BK:Zapk)(hmw:#[b1,ZwS,fw])(hkw:#[bci,fw])(hbw:iB K fdw ZbaE [])(WS:∀ (b:Heap)(fl c1 cy:Addr)(vy:V)(pm ct:Value),#[a1s,b,wM mg b,b,aV P w K mg b Zg1 (lv+2) fw fdw ZbaE ZaZ9])(hmN:#[b1,ZPC,fN])(wN:#[jv,ZwS,3,ZbaE,#[aYY,fN]])[99](tY:#[jv,ZDi,1,Zadu,ZaNb])(hlv:5<=lv):#[g2,(lv+3),ZQV,#[T_,Zm6,Zm6,(brM d)]]:=by
 refine F.okXC eY hco (ZakA) (#[bbb,?_])
 ·obtain⟨z,a,rfl,_⟩:=h
  rfl
 ·obtain⟨z,a,rfl,asc,zl,al,tI,k1,k2⟩:=h
  have two:Zo9:=Zaw
  refine⟨_,ae #[qZ,#[oX,gG,ZtF],3,ZPD,1,ZPD] (
   ae (aK (ax lI ZaM ZaBd rfl) #[aZR,(Hc (iy:=2) (y:=ZoN) WS ZoW rfl hmw hkw hbw bZ Zak Zao rfl CK BK rfl rfl rfl rfl rfl rfl rfl)] #[aZR,#[ack,wN,(uY Zak Zao (#[ajp,fN,hmN]))]]) (
   af (aq (bc #[hT,#[ack,tY,ZaIm]])))),?_⟩
  try dsimp only[cxK,cxK']
  refine Zagm;have wp:=JZ al;have ea:brM d Zgp=brM d (Zgo a):=rfl;have dl:ZGZ ZEa=Zgo (ZEb):=aQh
  conv at ea=>rhs;unfold brM;rw[dl]
  have s1:=Zarl;refine Zace
  have wlen:ZaU9:=Zyv
  generalize toS (eQ (Zgo a))=w at ea s1 wlen ⊢;generalize ZEb=b at ea s1 wp ⊢;have bl:=wp.2;generalize #[cT,H,t,[Zaf w,Zag #[a3,b]]]=H1 at s1 ⊢;refine#[yi,#[PE,#[aW8,t2]]];have s2:=#[G2,#[gm,[Zaf ZaG,Zaw7],ht2]];have tI2:=Zr8 s2;rw[#[af0,ZaWz,ZaWz,Zaez,vD w [ZaG,ZaU]]];generalize #[cT,H1,t2,[Zaf ZaG,Zaw7]]=H2 at s2 tI2 ⊢;have hz:ZacT:=ZZQ
  by_cases hw:Zafu
  ·rw[Y9 hw]at ea
   rw[Zc (show Zaez by rcases hw with rfl | rfl<;>simp)];refine aM ⟨_,rfl,_,rfl,tI2,_,rfl,fun fl c1 H3 cf tI3 bt=>⟨rfl,z,b,rfl,asc,zl,bl,cf,tI3,fun fs r hp t3 q vs' H4 g4 t4 ht3 hq pr=>?_,#[bbd,?_]⟩⟩
   ·have g24:=ZIC (ZaXn g4)
    refine ZaNK;obtain⟨ps,rfl,pf⟩:=yT pr;have fl2:=xO ZYH _ _ _ _ hp;rw[ZI,hz]at fl2;rw[hp]at ea;refine#[eJ,.figs w q ps fs rfl hw hq pf Zah ZaTv #[a00,(jV w fs).map]];have s6:=ZaWw;exact #[a1t,(jV w fs).map _=_]
   ·exact #[aYT,(ZIC (ZaXn g4))]
  ·rw[Y8 hw]at ea
   rw[Zb (show ¬ Zaez by simpa using hw)];refine ar ⟨_,rfl,_,rfl,z,b,rfl,asc,zl,bl,ZB0,tI2,fun gs r hp t3 q vs' H4 g4 t4 ht3 hq pr=>?_,#[bbd,?_]⟩
   ·have g24:=ZIC g4
    refine ZaNK;have e9:=wf pr;subst e9;have fl2:=xO Fm _ _ _ _ hp;rw[ZI,hz]at fl2;rw[hp]at ea;refine#[eJ,.nums w q gs rfl hw hq Zah wlen ZaTv #[a00,ZaPv]];have s6:=ZaWw;exact #[a1t,ZaPv _=_]
   ·exact #[aYT,(ZIC g4)]
def vX (F:#[aq,ZwT,ZwT,pK]){d lv:Nat}(qq:#[jv,Zl1,(lv+3),ZQV,(SL P0 lp ql cF d)])[99][238]:#[g2,(lv+4),ZQV,(rH P0 lp ql cF d d ZtB)]:=by
 refine #[amS,pF]
 ·obtain⟨z,a,rfl,_⟩:=h
  rfl
 ·obtain⟨z,a,rfl,asc,zl,al,tI,k1,k2⟩:=h
  have two:Zo9:=Zaw
  have sl:Za9n:=ZQ
  have zl2:Znq:=Zad
  refine⟨_,ae #[JL,Zaad] (
   ae #[oR,ZarR,#[ack,qq,(uY Zak ZyJ ZaD)]] (
   ae #[qZ,#[oX,gG,ZtF],3,pF.nd,4,pF.nd] (
   ae #[DY,#[nd,#[oX,i7,ZqD]],ZDh,ZwR,(jh (cG ak (cG ZyD lZ)))] (
   #[jI,ZaBe,Zc8])))),?_⟩
  try dsimp only[cxK,cxK']
  refine Zmc
  cases d with
  | zero=>exact aM (k2 #[tN,ZfA] H GK.refl tI)
  | succ d =>
   rw[Zb (#[bh,¬ Zar (((d+1:Nat)):Int)=Zar 0,Zaci])];refine ar ⟨_,rfl,_,rfl,_,rfl,_,rfl,_,_,rfl,rfl,_,rfl,z,rfl,zl2,rfl,_,rfl,?_⟩;rw[Em,RX,Et]
   by_cases hd:#[au,#[gp,0].head?,40]
   ·rw[Zc hd]
    have alt:=Eu hd;rw[vA d _ hd,aQh]at k1 k2;exact aM ⟨_,rfl,_,rfl,_,_,rfl,rfl,_,rfl,z,a+1,ZWy,asc,zl,Zad,tI,k1,k2⟩
   ·rw[Zb hd]
    rw[ZaOK]at k1 k2;refine ar Zagm;have wp:=JZ al;have s1:=Zarl;refine Zace
    have wlen:ZaU9:=Zyv
    refine#[hH,_,rfl,ZaM7,wlen,fun H2 s2=>Zh6];have s12:=Zhh
    cases nm:gI (toS (eQ Zgp)) with
    | false =>
     rw[nm]at k2;exact #[sl,a,Zt_,#[ed,y,hy,#[cy,k2 rfl H2 ZaH3 (Zr8 s12)]]]
    | true =>
     rw[nm]at k1;refine ar #[yi,#[asp,ZPF]];have s3:=ZwQ ((#[gm,[Zaf ZbH,Zaf Zaph],hp]).trans (#[gm,#[sF,ZS4],ht2]));exact k1 _ _ rfl t2 p _ (df s3) (Zr8 s3) #[nf,ac,wp.1] ⟨ah ht2 _ _ ac,#[zv,uA,nm]⟩
def Bt (F:#[aq,ZL4,ZL4,mz])(lL:#[aIK,37,ZaVU]) : #[g2,38,Zavl,ZaZx]:=by
 refine #[amS,mh]
 ·obtain⟨z,rfl,_⟩:=h
  rfl
 ·obtain⟨z,rfl,asc,zl,tI,k1,k2⟩:=h
  have sl:Za9n:=ZQ
  have zl2:Znq:=Zad
  refine⟨_,ae #[qZ,(ka lL Zbx rfl bZ (uY Zak Zdw #[ajk,UO.dp])),1,mh.nd,2,mh.nd] (
   ae #[JL,(ax kJ ZaD (ZaOH) Zfa)] (
   ZIE)),?_⟩
  try dsimp only[cxK,cxK']
  refine⟨_,rfl,z,0,rfl,asc,zl,Zce,tI,#[bbc,?_],fun hn H' g t'=>k2 (fun f q=>by rw[aXg]at hn;rw[hn]at q;cases q) H' g t'⟩;rw[aXg]at hr;refine ZaE1;refine⟨_,rfl,_,rfl,z,rfl,zl2,rfl,_,rfl,?_⟩
  by_cases r0:r=[]
  ·subst r0
   rw[#[sW,Zar #[a3,#[pg,#[DW,Zbq]]]=Zar Ztc]];exact #[mz,k1 f hr p H' g t' hf]
  ·have rl:=Lg (zS 8) hr
   have rp:0<Ze5:=Za85 r0;rw[<-dN]at rl;rw[Zb (#[bh,¬ Zar ZSd=Zar Ztc,#[bl,#[e9,ZoC q]]])];exact aM (k2 (fun f2 q=>r0 (by rw[hr]at q;injection q with q;injection q with _ q)) H' g t')
def Jo (F:#[aq,ZPG,ZPG,uS])(ny:#[kH,ck,ZcD,3,Zl',(JO c ck)]) : #[g2,6,ZaCL,(SM c ck)]:=by
 refine #[amS,JH]
 ·obtain⟨k,t,g,rfl,_⟩:=h
  rfl
 ·obtain⟨k,t,g,rfl,ht,q⟩:=h
  have T0:aU K H t Zy':=Zqz;refine#[hc,af (aK ZFv #[aNw,ny,ZIA] (gj))]
  try dsimp only[cxK,cxK']
  obtain⟨k',D,B,st,g',hv,I,ft,sg,q1,q2⟩:=q;cases hv;refine ZmH;rw[Zs4];exact aM ⟨_,rfl,k,Zl4,_,rfl,ZDk,Zo4,_,rfl,t,_,_,_,rfl,rfl,T0,rfl,k,D,B,st,g,rfl,I,ft,sg,q1,q2⟩
def E9 (F:#[aq,ZPH,ZPH,k9])[215] : #[bi,2,[Za'],Wx]:=by
 refine #[amR,pH]
 ·obtain⟨z,w0,ws,rfl,_⟩:=h
  rfl
 ·obtain⟨z,w0,ws,rfl,asc,len,hw,k1,k2⟩:=h
  have hu:=ZbE
  refine⟨_,ae (bd 1 pH.nd (O3 Zak Zba)) (
   ae #[a1D,2,k9,yN,Zp2,(ca (gK Lh Zao (fU (aj)) pA)),Zp2,bg fQ Zbx rfl Zl8,pH.nd] (
   ae #[oQ,(ax lI Zjq ZaD rfl),Zjq] (
   #[bY,(aI Rr (bc (cE #[v7,jL,Zao])) (#[aUL,Zl9]))]))),?_⟩
  try dsimp only[cxK,cxK']
  have sl:Za9n:=ZQ
  have sp:Zp5=⟨#[32]⟩:=Zal
  obtain⟨wl,wok⟩:=Ng (c:=32) ZaY asc;rw[hw]at wl wok;have wl:Zj0+1<=ZbK+1:=wl;refine⟨_,rfl,rfl,z,_,rfl,rfl,#[bm,sp],Zad,ZWY⟩;rw[#[N6,(Zaj1 z Zp5)=w0::ws,sp,hw]];have s1:=#[Gk,ZUi,hlw];have h1:#[d1,lw,ZYW,lw,ZYW]:=ac;generalize upd H lw ZYW=H1 at s1 h1 ⊢;refine#[eJ,EQ #[ci,lw,_,ZqC,fun l3 hl3=>?_]];rw[Ke,#[eC,#[tU,ZUi].drop 1=ZiW ZaJ]];have s2:=#[Gk,ZiW,hl3];have h3:#[aT,H1,l3,ZtD,l3,ZtD]:=ac;have h2:=ZaCn;have s02:=Zhh;generalize upd H1 l3 ZtD=H2 at s2 h3 h2 s02 ⊢;refine#[k6,l3,h3,fun ln hln=>?_];refine lE (K:=K) ZaJ (rs:=ws) (f:=Zhw) hln h3 Zah (fun r HK Q' hr0 sK kk=>?_) (fun H3 s3 h4=>?_)
  ·obtain⟨ra,rl⟩:=wok r #[dM,hr0]
   refine⟨_,rfl,r,rfl,ra,Zad,fun ds H' N s'=>?_,fun n H' s'=>?_⟩
   ·have:=ZaOi
    rw[Bi N]at this;exact this
   ·have:=ZaOi
    rw[GQ n]at this;exact this
  have s03:=ZZC;have h2:=#[gC,h2]
  have fl:(ZiW Zhw).all qT=Zae:=ZM.mpr fun v hv=>by
   obtain⟨w,_,rfl⟩:=ZY7;exact uk (xG w)
  refine⟨_,rfl,ln,_,rfl,#[h4,h4],rfl,fl,_,rfl,?_⟩
  have ein:IM ZMJ (ZiW Zhw)=Zae↔ZaLd:=by
   unfold IM;rw[List.any_eq_true];constructor
   ·rintro⟨v,hv,e⟩
    obtain⟨w,hw0,rfl⟩:=ZY7;have e:=#[aX8,0].mp e;refine⟨w,hw0,fun ds N=>?_⟩;rw[Bi N]at e;cases e
   ·rintro⟨w,hw0,n⟩
    refine#[bN,aQa hw0,#[aX8,0].mpr (GQ n)]
  cases hb:IM ZMJ (ZiW Zhw) with
  | true =>
   rw[#[eC,#[gs,if Zjb then !true else true]]];exact aM (k2 (ein.mp hb) H3 s03)
  | false =>
   have al:Zawo:=fun w hw0=>Classical.byContradiction fun n=>by
    rw[ein.mpr ⟨w,hw0,fun ds N=>n ⟨ds,N⟩⟩]at hb;cases hb
   rw[#[eC,#[oT,if Zjb then !false else false]]];refine ar ⟨_,rfl,lw,_,_,_,rfl,rfl,ZaxM,ZbX,Zapq,ZW0⟩;have s4:=#[gm,ZVy,ht1];have h5:#[aT,H3,t1,Zaxz,t1,Zaxz]:=ac;have h6:=s4 _ _ h4;have s04:=ZalI s4;have ht0:=ZalJ ht1;generalize #[cT,H3,t1,ZVy]=H4 at s4 h5 h6 s04 ⊢;refine#[aT1,ln,h6,ZPF];have s5:=#[gl,ZcR (ZiW Zhw),ht2];have h7:#[aT,H4,t2,Zad3,t2,Zad3]:=ac;have h8:=s5 _ _ h5;have s05:=ZaHF;generalize upd H4 t2 Zad3=H5 at s5 h7 h8 s05 ⊢;refine⟨t1,t2,_,_,rfl,rfl,ZbL h8,ZbL h7,ZaA,#[alK,Y5,1+Zj0<=_],#[cj,?_],fun _ t3 ht3=>?_⟩
   ·refine k1 al t1 H5 ht0 s05 ?_
    rw[e];exact h8
   ·exact k1 al t3 _ (s05.free ht3) (ZalL (ah ht3)) ac
def MC (F:#[aq,ZPI,ZPI,sy])(nv:aW P w K mg ZaO dR c.C Zr3 1 ZfC (Hw c.C))[59] : #[ael,4,HD]:=by
 refine #[amR,MW]
 ·obtain⟨p,B,st,rfl,_⟩:=h
  rfl
 ·obtain⟨p,B,st,rfl,S,G,h64,sm,k⟩:=h
  have hu:=ZbE;refine#[hc,#[bY,(#[xi,dv,am sy,GE,ZaEE,Zaba,Ci,(ca (rn nv Zak Zc1 Zbx fb)),#[pb,⟨fG 0 (#[mi,ZaEE]),#[aXN,(dm c8 Zao Zc1 Zbx K0 Zl8)],pv 0⟩]])]]
  try dsimp only[cxK,cxK']
  have nos:#[baP,ZZh->ZZg->ZZf->ZZe->ZaDx]:=fun B m h1 h2 h3 h4=>So B h1 h2 h3 h4;have nG:#[QI,Zr3]:=ZsA;have nM:#[QI,"moment"]:=ZsA;have nI:#[QI,"inside"]:=ZsA;have nS:#[QI,"story"]:=ZsA;have nW:ZaBt:=ZsA;have nR:#[QI,"wearer"]:=ZsA;have nT:ZaBu:=ZsA;have nP:#[QI,"pairs"]:=ZsA;have nQ:#[QI,"partners"]:=ZsA
  have two:Zo9:=Zaw
  have nil0:ZH6:=Zce
  have dkk:∀ wl:ZeF,(dk wl).map (·.1)=#[aN1,wl]:=fun wl=>by unfold dk aR;rw[ZK,ZK];rfl
  have ksl:#[hC,im,aR,ZaI]<64:=#[cB,xj,AT,h64]
  have ksm:∀ g,g∈ZaJD↔ZYs:=fun g=>Dw;refine⟨_,rfl,p,ZbM,_,rfl,ZcC,nG B,p,B,_,rfl,S,h64,fun lg hlg=>?_⟩;have sg:=#[Ei,#[Tf,0].map,hlg];have hg1:#[d1,lg,ZTg,lg,ZTg]:=ac;generalize upd H lg ZTg=H1 at sg hg1 ⊢;refine#[k6,lg,hg1,fun lm hlm=>?_];have ew:b9 ZaI=#[Tf,0].filter ZRU:=rfl;rw[ew]at k;generalize ZaJD=ks at hg1 ksl ksm k
  refine cD (K:=K) (a:=lg) (xs:=Zazt) #[tO,#[gJ,[v,ZfM],aD H1 HH,#[eN,lm,#[kS,ZPK,ZRU]]]]
   #[h3,ah hlm,ac] (#[alM,#[pu,s],Zbs (s _ _ hg1)]) ?_ ?_
  ·rintro i y σ HH hi ⟨v,rfl,s2,hm2⟩
   obtain⟨g,hg,rfl⟩:=ZbI;have hil:i<Zwk:=Zz9;have gk:=(ksm g).mp (Zy hg);have S2:=(ZDl sg).mono s2
   have tk:ZPJ Zcf=ZPJ i++[g]:=by rw[ZH,hg,ZG]
   have ll:#[aX,ZPK,ZRU]<=64:=ZaTO;refine P7 ⟨_,rfl,p,ZbM,_,rfl,S2.ob,nW B,_,rfl,p,B,st,g,rfl,S2,sm g gk,?_⟩;rw[nc gk];refine Zmc
   by_cases hm:#[E4,g,g]
   ·rw[#[awB,ZaIx,hm]]
    refine ar #[qO,s2]
    have fg:#[aU',[]]:=#[cE,aQC,Y8 (#[aF,(ZF z) hm])]
    rw[tk,aQM,fg];simpa using hm2
   ·rw[#[a8u,#[Yo,ZaIx]]]
    refine aM #[mb,_,hm2,Zqk];refine#[qO,cw s2 hlm]
    have fg:#[aU',[g]]:=#[cE,aQC,Y9 (Zc hm)]
    rw[ac,tk,aQM,fg,Zp];rfl
  ·rintro σ HH ⟨v,rfl,s2,hm2⟩
   rw[Y5,ZD]at hm2;exact k lm HH (sg.free hlm) (sg.trans s2) hm2
def Fa (F:#[aq,ZPL,ZPL,pU])[59] : #[g2,5,#[qa,Ze6],(Lq c)]:=by
 refine #[amS,kW]
 ·obtain⟨p,B,st,g,rfl,_⟩:=h
  rfl
 ·obtain⟨p,B,st,g,rfl,S,G,h64,smk,sm,k⟩:=h
  have hu:=ZbE
  refine⟨_,ae (bd 2 kW.nd ZaDH) (
   ae (bd 3 kW.nd (#[aWd,Zl7])) (
   ae (wu PassesOwn.leaving #[hi,kJ,ZaM,Zao] (ae #[LK,ZaD,ZqD] (
   af (bd 3 kW.nd (#[aWd,ZqD]))))) (
   ZEN))),?_⟩
  try dsimp only[cxK,cxK']
  have nW:#[QH,Zq']:=Zsz;refine#[g7,#[EK,1],ZC9];have s1:=#[ms,[ZsD],hl];have hl1:#[d1,l,#[eG,[ZsD]],l,#[hE,(cJ ZgA g 1)]]:=ac;generalize #[p6,H,l,[ZsD]]=H1 at s1 hl1 ⊢;have S1:=ZIt;refine⟨_,rfl,p,ZbM,_,rfl,ZPl,nW,_,rfl,p,B,st,g,rfl,S1,sm,?_⟩
  by_cases hg:ZYs
  ·have P:=wq G
   have R:=ZajC hg;have ol:=ZajD hg;rw[Y9 (ZCb hg)]at k;rw[nc hg];unfold gB at k;generalize #[aq1,CO]=M at R k ol;have i1:bJ ZgA 1 g=wr ZaI g:=rfl;rw[<-i1];refine#[cr,fun n σ HH=>∃ i,n=M-i/\1<=i/\i<=M/\σ=#[aWr,ZacY]/\Zt6/\#[eN,l,#[hE,(cJ ZgA g i)]],⟨_,1,rfl,ZaN,R.1,rfl,s1,hl1⟩];rintro n σ HH ⟨i,rfl,h1,hM,rfl,s2,hl2⟩;refine ZaWe
   by_cases e:bJ ZgA i g=g
   ·rw[#[awB,ZacY,e]]
    have:i=M:=by
     by_cases hlt:i<M
     ·exact #[oE,e,(R.2.2 i Zah hlt)]
     ·lia
    rw[this]at hl2;exact #[mz,k l HH hl s2 hl2]
   ·rw[show #[Yo,ZacY] by simpa using e]
    have hlt:i<M:=by
     by_cases hlt:i<M
     ·exact hlt
     ·have:i=M:=Zad
      rw[this]at e;exact #[oE,ZzN,e]
    have ik:bJ ZgA i g∈Zhd:=ZaSa;refine #[ahw,σ'=#[aWr,(bJ ZgA Zcf g)]/\ZbU/\#[b0,l,#[hE,(cJ ZgA g (i+1))]],fun σ' H' ⟨a1,a2,a3⟩=>⟨M-Zcf,Zad,i+1,rfl,Zad,Zad,a1,a2,a3⟩];refine#[aR8,ZaJn];have s3:aD H (upd HH l Zarx):=ZabM
    have hl3:#[aT,HH,l,Zarx,l,#[hE,(cJ ZgA g (i+1))]]:=ZaRC
    generalize upd HH l Zarx=H3 at s3 hl3 ⊢;have S3:=ZDl s3;refine⟨_,rfl,p,ZbM,_,rfl,S3.ob,nW,_,rfl,p,B,st,_,rfl,S3,smk _ ik,?_⟩;rw[nc ik];exact#[sd,s3,hl3]
  ·have en:ZaHg:=by
    cases e:ZqU with
    | none=>rfl
    | some m=>exact #[aMa,hg]
   rw[Y8 (#[fp,en])]at k;rw[en];exact fun dx H' s hx=>k dx H' (ZgY s) hx
def G0 (F:#[aq,ZPM,ZPM,rQ])(D7:#[aeb,ZPI,4,HD])(uc:#[jv,ZPL,5,#[qa,Ze6],(Lq c)]) : #[ael,6,Lr]:=by
 refine #[amR,iW]
 ·obtain⟨p,B,st,rfl,_⟩:=h
  rfl
 ·obtain⟨p,B,st,rfl,S,G,h64,smk,k⟩:=h
  have hu:=ZbE;have nil0:ZH6:=Zce
  refine⟨_,ae (bd 1 ZDm (Jt LR Zajh Zalv Zalw)) (
   ae (bd 2 ZDm Zfl) (
   ae (dO ZY rfl (ca #[dd,D7,Zl8]) (fG 3 ZDm) (af (aK (ax MG ZaM Zao rfl) (ae (bd 4 ZDm (ka uc Zbx rfl K0 (eI Zak ZaM))) (
   ae #[le,#[xR,4],5,ZDm,#[jg,(ii PySem.F.plainAttrs_set PySem.F.slot_set_add PySem.F.type_set_add Rb Zao Zt9)]] (
   ZaI1))) Zqr))) (
   ZEN))),?_⟩
  try dsimp only[cxK,cxK']
  have P:=wq G;obtain⟨w1,w2,w3,w4⟩:=P.wrong;refine#[db,fun lp hlp=>?_];have sA:=#[gl,Zhn Zapb 0,hlp];have hp1:#[d1,lp,Zapc,lp,Zapc]:=ac;generalize upd H lp Zapc=H1 at sA hp1 ⊢;refine ZaQl;have sB:=ZaBH;have lr0:Zaxs:=sA.free hlr;have hr1:ZaYC:=ac;have hp2:=sB _ _ hp1;generalize ZaQQ=H2 at sB hr1 hp2 ⊢;refine⟨_,rfl,p,B,st,rfl,(ZDl sA).mono sB,G,h64,smk,#[bbe,?_]⟩;have lplr:lp≠lr:=dD hp2 hr1 (by intro z;cases z)
  have lsr:ls≠lr:=fun z=>by rw[z,hr1]at hls;cases hls
  have lsp:ls≠lp:=fun z=>by rw[z,hp2]at hls;cases hls
  refine⟨ls,rfl,ZazJ,cD (K:=K) (a:=ls) (xs:=(b9 ZaI).map Zar) (fun i σ HH=>∃ (Sf:ZZD)(n:Nat)(as:ZeZ)(v3 v4 v5:Zgi),σ=#[aVV,v3,v4]/\Zt6/\#[eN,ls,ZaGI]/\#[eN,lp,(Zhn Sf n)]/\#[aTi,Sf,Ztp]/\n<=ZavG /\
    #[eN,lr,ZDI]/\#[aR0,ZaFq]/\(Zawd)/\lr∉as)
   ⟨_,0,[],none,none,none,rfl,ZbbM,h3,#[gC,hp2],fun y=>rfl,ZaN,ZaAQ,Zan,(fun a h=>nomatch h),(fun h=>nomatch h)⟩ (fun i σ HH _ zz=>by obtain⟨_,_,_,_,_,_,_,_,h,_⟩:=zz;exact ZXx) ?_ ?_⟩
  ·rintro i y σ HH hi ⟨Sf,n,as,v3,v4,v5,rfl,s4,hls4,hp4,hS4,hn4,hr4,hpa,has,hnr⟩
   obtain⟨g,hg,rfl⟩:=ZbI;have hil:i<#[aX,b9,ZaI]:=Zz9;obtain⟨gk,gw⟩:=ZaJI;obtain⟨q1,q2,q3,q4,q5⟩:=Pa P i;have qn:=Lb hg;have lpa:=Zt hpa;refine⟨_,rfl,_,rfl,lp,Sf,n,g,rfl,rfl,hp4,_,rfl,?_⟩;rw[hS4]
   by_cases hq:g∈Ztp
   ·rw[Zc hq]
    have e:qR ZaI Zcf=qR ZaI i:=by rw[qn];unfold wE;rw[Y9 hq]
    refine ar ⟨Sf,n,as,_,_,_,rfl,s4,hls4,hp4,?_,?_,hr4,?_,has,hnr⟩
    ·rw[e];exact hS4
    ·rw[e];exact hn4
    ·rw[e];exact hpa
   ·rw[Zb hq]
    have e:qR ZaI Zcf=(Ztp++Zaq2,ZaFq++[Zaq2]):=by rw[qn];unfold wE;rw[Y8 hq]
    refine aM ⟨_,rfl,_,rfl,p,B,st,g,rfl,ZDl s4,G,h64,smk,smk g gk,?_⟩;rw[Y9 (ZCb gk)];intro l H5 hl s5 h5
    have rl:#[bd,ZaRX,ZlO]:=#[aE,Du,ZaFz]
    generalize Zaq2=r at e h5 rl
    have llr:l≠lr:=fun z=>by rw[z,hr4]at hl;cases hl
    have llp:l≠lp:=fun z=>by rw[z,hp4]at hl;cases hl
    refine⟨_,rfl,l,rfl,#[fc,h5],cD (K:=K) (a:=l) (xs:=Zazv) (fun j σ HK=>∃ (Sg:ZZD)(n':Nat)(v5:Zgi),σ=#[aVV,ZTC,Zha]/\HK lp=Zab (Zhn Sg n')/\#[aTi,Sg,ZaT2]/\n'<=ZavG+j/\(#[ef,Zyb,lp,#[bc,HK]]))
     ⟨Sf,n,_,rfl,s5 _ _ hp4,(fun y=>#[cB,aXH,aQg,hS4 y]),hn4,fun b o z _=>z⟩ (fun j σ HK _ ⟨_,_,_,_,_,_,_,kk⟩=>Zbs (kk _ _ h5 llp)) ?_ ?_⟩
    ·rintro j y σ HK hj ⟨Sg,n',v5,rfl,hp6,hS6,hn6,kk⟩
     obtain⟨x,hx,rfl⟩:=ZIj;have hjl:j<Ze5:=ZYA;refine⟨_,rfl,Zap (Zap (Zap ⟨rfl,Sg,n',hp6⟩)),_,rfl,lp,Sg,n',x,rfl,rfl,hp6,Zad,?_⟩;refine⟨_,_,_,rfl,ac,Zzt,?_,#[adF,kk b o z nb]⟩
     ·rw[hS6,ZH,hx,ZG,<-aQb,<-Bool.decide_or]
      congr 1
      rw[Zn (s:=ZaT2),Zf]
     ·split<;>lia
    ·rintro σ HK ⟨Sg,n',v5,rfl,hp6,hS6,hn6,kk⟩
     rw[Y5]at hn6;have hr6:=kk _ _ (s5 _ _ hr4) (Zw lplr);refine ZaWN
     have up:ZaZ5:=#[adF,z]
     refine⟨Sg,n',as++[l],_,_,_,rfl,#[aLt,(kk b o #[aQH,s5] (ao z hlp))],up _ _ (kk _ _ (s5 _ _ hls4) lsp) lsr,up _ _ hp6 lplr,Zzt,?_,ZxF,?_,#[Ou,?_],ZcM⟩
     ·rw[hS6,e,Y5,ZD]
     ·rw[e];show n'<=#[kO,Ztp,r];rw[Zh];exact hn6
     ·rw[e]
      refine bI (Wz.Paired.mapP' hpa fun a q ha z=>up a _ (kk a _ #[pT,s5] (dD z hp4 (by intro q;cases q))) ZaRs) #[aNL,(kk _ _ h5 llp)]
     ·rcases Zex ha with z | z
      ·exact has a z
      ·rw[ZcA];exact ZaBh
     ·rcases ZW' with z | z
      ·exact hnr z
      ·exact ZaHp
  ·rintro σ HH ⟨Sf,n,as,v3,v4,v5,rfl,s4,hls4,hp4,hS4,hn4,hr4,hpa,has,hnr⟩
   rw[Jx ZaI (#[kx,ZaN])]at hpa;exact#[bO,k lr as HH lr0 s4 hr4 hpa has]
def Bp (F:#[aq,ZPN,ZPN,mx])(qJ:aW P w K mg ZaO dR c.C ZCY 3 ZfC ZaBk)[123] : #[g2,5,#[qa,ZaG],(Pq c)]:=by
 refine #[amS,jj]
 ·obtain⟨p,l,B,es,ps,L,rfl,_⟩:=h
  rfl
 ·obtain⟨p,l,B,es,ps,L,rfl,S,row,⟨dn,nm0,smL,hL,l60,sp⟩,k⟩:=h
  have hu:=ZbE
  refine⟨_,ae (bd 2 jj.nd (rn qJ Zak Zc1 Zbx fb)) (
   ae (dO Zbbf rfl ZIs #[u9,3,jj.nd,4,jj.nd] #[jg,(dm eC ZaD Zc1 Zbx bZ ZaIm)]) (
   ZEN)),?_⟩
  try dsimp only[cxK,cxK']
  have P:=pC dn nm0 Zdm;rw[ZD]at P;have nT:#[QH,ZCY]:=Zsz;refine⟨_,rfl,p,ZbM,_,rfl,ZcC,nT,p,B,aY es,rfl,S,P.ci.kn,by have:=P.ci.kk;lia,fun x B1 H1 nx S1 fr1 s1=>?_⟩;have E1:Ev c H H1 x B1 ZcK:=⟨s1,S1,P.good,fr1⟩;obtain⟨qs,hq,hqp⟩:=ZYi;have hql:=ZYa
  refine⟨_,rfl,l,rfl,#[fc,(E1.same _ _ hq)],cD (K:=K) (a:=l) (xs:=ZYZ) #[tO,∃ (B2:HA)(v w:Zgi),#[aVO,[ZfM,Zha,#[bz,x],v,w],Ev c H HH x B2 ZDP]]
   ⟨B1,Zac,Zac,rfl,by simpa using E1,Zbbh,Zbbi,ZaA⟩ (#[alM,#[Gv,E],Zbs (ZalN _ _ hq)]) ?_ ?_⟩
  ·rintro i y σ HH hi ⟨B2,v,w,rfl,E,di,nm,ek⟩
   obtain⟨b,hb,rfl⟩:=ZbI;obtain⟨e,he,hB⟩:=ZaGw;have hbK:=ZalN _ _ hB;have il:=ZYB;have hsm:=Zae3;have Pi:=ZaP3;rw[ZD]at Pi;have ft:=Za0y;have nX:#[QF,(bL B2),ZcQ]:=Ic B2 (Zal);have ed:=Zafi;rw[<-ek]at ed;have en:=ZKt;refine ZKN;refine⟨_,rfl,x,B2.dx,_,rfl,E.hall.ob,nX,_,rfl,_,rfl,x,B2,_,e.1,e.2,rfl,E.hall,ft,ZFq,hsm.2,?_⟩;unfold D8
   show if bf _ Zs5=Za5 then _ else lR c _ _ (bf _ Zs5)
   by_cases hj:ZJ2
   ·rw[Zdj]
    rw[Zdj,Zuw,<-en]at ed;intro H2 mv;have g2:=Do E.good (d:=dZ e) (fun g hg=>by simp[dZ,names]at hg;rcases hg with z | z<;>rw[z];exact ZFq;exact hsm.2)
    have mv2:C5 c.C HH x B2 (gz ZDP Zs5) H2:=by unfold gz;rw[Zdj];exact mv
    obtain⟨B',E2,_⟩:=E.moved mv2 g2;rw[Zuw,<-en]at E2
    exact⟨B',_,_,rfl,E2,ZapW,by
     rw[en];intro d hd g hg;rcases ZIg with z | z
     ·exact ZaJ5
     ·rw[ZcA]at hg
      obtain⟨q1,q2⟩:=ZK0;simp[dZ,names]at hg;rcases hg with y | y<;>rw[y]
      ·exact Zacy
      ·exact ZacO,ed⟩
   ·rw[ZgE]
    rw[ZgE]at ed;rw[ed,ZgE]at k;exact MR k ZalN
  ·rintro σ HH ⟨B2,v,w,rfl,E,di,nm,ek⟩
   rw[Y5,hql,aXf]at ek;rw[Y9 (show Zqm from ek)]at k;rw[Y5,hql,ZD]at E;exact#[bO,k x B2 HH nx E]
def Bn (F:#[zR,Zbbj,mr]) : #[cO,Zua,ZZ5]:=by
 refine #[amR,BP]
 ·obtain⟨k,dx,p,rfl,_⟩:=h
  rfl
 ·obtain⟨k,dx,p,rfl,hk,q⟩:=h
  refine⟨_,ae #[yH,Zao] (
   ae (gq Zak (ji) rfl) (
   ae #[yH,Zdw] (
   af (gq Zak Zjq rfl)))),?_⟩
  try dsimp only[cxK,cxK']
  refine⟨_,rfl,_,rfl,k,ck,dx,[],rfl,hk,ZgZ,ZPO,ZKg,?_⟩;refine⟨_,rfl,k,ck,dx,_,rfl,ac,ZgZ,UO.k.nP,#[kC,1<ZbF],?_⟩;refine⟨_,rfl,k,ck,dx,_,rfl,ac,ZgZ,UO.k.nD,(#[zx,Sw,2]),?_⟩;refine⟨_,rfl,k,ck,dx,_,rfl,ac,ZgZ,UO.k.nB,(#[zx,V5,3]),?_⟩;rw[lj,lj,lj,KD];exact q
def zm (F:#[aq,Zll,Zbbk,ko]) : #[cO,ZfC,(Lj ck)]:=by
 refine #[amR,zu]
 ·obtain⟨k,B,rfl,_⟩:=h
  rfl
 ·obtain⟨k,B,rfl,S,q⟩:=h
  refine⟨_,ae #[oS,#[uU,Zdg]] (
   gj),?_⟩
  try dsimp only[cxK,cxK']
  exact⟨_,rfl,k,ck,ZbM,_,_,rfl,ZcC,ZgZ,UO.k.nP,KF,_,rfl,aM q⟩
def rg (F:#[aq,ZalO,Zbbl,gU])[85] : #[aRR,SO]:=by
 refine #[amR,rF]
 ·obtain⟨k,B,rfl,_⟩:=h
  rfl
 ·obtain⟨k,B,rfl,S,q⟩:=h
  refine⟨_,ae #[aPr,Zfl] (
   gj),?_⟩
  try dsimp only[cxK,cxK']
  exact#[a1u,aM #[pM,q]]
def Bo (F:#[aq,ZalP,Zbbm,mw])(iw:#[K_,ZalO,2,SO]) : #[bi,3,ZfC,(SQ ck)]:=by
 refine #[amR,BQ]
 ·obtain⟨k,B,rfl,_⟩:=h
  rfl
 ·obtain⟨k,B,rfl,S,q⟩:=h
  refine#[Z3,#[ajn,(cE (rn iw Zak ZgZ Zbx fb))]]
  try dsimp only[cxK,cxK']
  exact⟨_,rfl,k,ZbM,_,rfl,ZcC,Zo4,k,B,rfl,S,#[C8,#[ci,l,_,ZZO,q _ ZFh]]⟩
def CG (F:#[aq,"due",Zbbn,nV])[85] : #[aRR,SN]:=by
 refine #[amR,CT]
 ·obtain⟨k,B,rfl,_⟩:=h
  rfl
 ·obtain⟨k,B,rfl,S,q⟩:=h
  refine⟨_,ae #[aPr,Zjq] (
   gj),?_⟩
  try dsimp only[cxK,cxK']
  exact#[a1u,aM q]
def Bm (F:#[aq,ZcD,Zbbo,mq])(qI:#[kH,c.C,ZcD,2,Zl',(Pr c)]) : #[g2,3,Zl',(JO c ck)]:=by
 refine #[amS,BO]
 ·obtain⟨k,D,B,st,g,rfl,_⟩:=h
  rfl
 ·obtain⟨k,D,B,st,g,rfl,I,ft,sg,q1,q2⟩:=h
  refine#[hc,af (bh (dm qI Zdg Zc1 Zbx bZ Zl7))]
  try dsimp only[cxK,cxK']
  have nX:#[QH,ZcD]:=Zsz;refine⟨_,rfl,k,ck,Zl4,_,_,rfl,ZDk,ZgZ,ZPO,EB,D.p,ZbM,_,rfl,Zbbp,nX,_,rfl,D.p,B,st,g,rfl,ZalQ,ft,sg,?_⟩;unfold D8
  by_cases hj:ZZH
  ·rw[Zdj]
   rintro H1 ⟨B1,S1,k1,f1,t1⟩;exact q1 hj H1 (Dx I S1 k1 f1 t1 ZO6)
  ·rw[ZgE,Kd hj]
   exact q2 hj
def uD (F:#[aq,ZcQ,Zbbq,iP])(oS:#[K_,"due",2,SN])[123] : #[g2,5,Zr2,(Px c ck)]:=by
 refine #[amS,l7]
 ·obtain⟨k,D,B,st,a,b,rfl,_⟩:=h
  rfl
 ·obtain⟨k,D,B,st,a,b,rfl,I,ft,sa,sb,q⟩:=h
  have two:Zo9:=Zaw
  refine⟨_,ae (bd 3 l7.nd (rn oS Zak ZgZ Zbx fb)) (
   ae (bh (dm eC Zdg Zc1 Zbx bZ (eI Zao ZaD))) (
   af (aK (ax #[afp,UD,2] ZaM #[fJ,ZaGp,#[fJ,ZaD,Zao]] rfl) (gj) (af #[i4,(gu (Rt ZaM)),(gj)])))),?_⟩
  try dsimp only[cxK,cxK']
  refine⟨_,rfl,k,Zl4,_,rfl,ZDk,Zo4,k,D,rfl,I.kp,?_⟩;have nX:#[QH,ZcQ]:=Zsz;refine⟨_,rfl,k,ck,Zl4,_,_,rfl,ZDk,ZgZ,ZPO,EB,D.p,ZbM,_,rfl,Zbbp,nX,_,rfl,_,rfl,D.p,B,st,a,b,rfl,ZalQ,ft,sa,sb,?_⟩;unfold D8
  by_cases hj:ZaAV
  ·rw[Zdj]at q ⊢
   rintro H1 ⟨B1,S1,k1,f1,t1⟩;refine⟨_,rfl,_,rfl,_,rfl,two,#[aLq,#[pn,fun t4 h4=>?_]]⟩;have g2:=#[gm,Zzf,h2];have e2:#[aT,H1,t2,Zaed,t2,Zaed]:=ac;generalize #[cT,H1,t2,Zzf]=H2 at g2 e2 h3 h4 ⊢;have g3:=#[gm,ZaMu,h3];have e3:#[aT,H2,t3,ZaNB,t3,ZaNB]:=ac;generalize #[cT,H2,t3,ZaMu]=H3 at g3 e3 h4 ⊢;have g4:=#[gm,Zaeu,h4];have e4:#[aT,H3,t4,#[cS,Zaeu],t4,#[TF,[t2,t3].map]]:=ac;generalize #[cT,H3,t4,Zaeu]=H4 at g4 e4 ⊢;refine⟨t4,[t2,t3],_,_,rfl,#[pp,e4],Zam Zh0,ZaC (Hi (g4 _ _ (g3 _ _ e2)) Zaym) #[h8,(Hi (g4 _ _ e3) Zaym)],Zawz⟩
   have nk:kb=Zaz:=by
    cases kb with
    | false=>rfl
    | true=>exact absurd (hkb.mp rfl) (by unfold WV;simp)
   rw[nk];exact ar #[m_,(q _ (Dx I S1 k1 f1 t1 (#[cq,ZwP,g3] g4)))]
  ·rw[ZgE]at q ⊢
   exact q
def zk (F:#[aq,Zl5,Zbbr,km])(oO:#[jv,ZPN,5,#[qa,ZaG],(Pq c)])(jb:#[kH,ck,ZcQ,5,Zr2,(Px c ck)]) : #[uv,6,ZaG,ZaCZ]:=by
 refine #[amS,kf]
 ·obtain⟨k,r,D,B,es,ps,L,rfl,_⟩:=h
  rfl
 ·obtain⟨k,r,D,B,es,ps,L,rfl,I,row,rB,ok,q⟩:=h
  have hu:=ZbE
  refine⟨_,ae #[aNt,oO] (
   #[bbg,ZIs,#[u9,2,kf.nd,3,kf.nd],#[aNw,jb,(eI ZaD ZaM)]]),?_⟩
  try dsimp only[cxK,cxK']
  have ok0:=ok;obtain⟨dn,nm0,smL,hL,l60,sp⟩:=ok;refine⟨_,rfl,k,ck,Zl4,_,_,rfl,ZDk,ZgZ,ZPO,EB,_,rfl,D.p,r,B,es,ps,L,rfl,ZalQ,row,ok0,?_⟩
  by_cases hb:Zqm
  ·rw[ZjB]at q ⊢
   intro x B1 H1 hx E1;have s1:=E1.same;have I1:=I.mono s1;have row1:=ZPP s1;obtain⟨qs,hq,hqp⟩:=id row1;have hql:=ZYa
   have rk:r≠k:=fun z=>by rw[z,I1.kp.ob]at hq;cases hq
   refine⟨_,rfl,r,rfl,ZazK,cD (K:=K) (a:=r) (xs:=ZYZ) #[tO,∃ (v w:Zgi),#[aVO,[#[bz,k],#[bz,r],v,w],oU c ck H1 k D B ZDP mI HH]]
    ⟨Zac,Zac,rfl,by simpa using I1.self,Zbbh,Zbbi,ZaA⟩ (fun i σ HH _ zz=>by obtain⟨_,_,_,⟨_,_,_,k2,_⟩,_⟩:=zz;exact Zbs (k2 _ _ hq rB rk)) ?_ ?_⟩
   ·rintro i y σ HH hi ⟨v,w,rfl,mv,di,nm,ek⟩
    obtain⟨b,hb',rfl⟩:=ZbI;obtain⟨e,he,hB⟩:=#[aiI,hqp,hb'];obtain⟨B2,I2,k2,f2,t2⟩:=mv.kin I1;have hbK:=k2 _ _ hB (I1.hall.tup hB) (fun z=>by rw[z,I1.kp.ob]at hB;cases hB);have hsm:=Zae3;have Pi:=ZaP3;rw[ZD]at Pi;have lno:=ZaOI;have ft:=Za0y;have ed:=Zafi;rw[<-ek,hb]at ed;have en:=ZKt
    have hj:ZJ2:=by
     by_cases z:ZJ2
     ·exact z
     ·rw[Zem]at ed;exact ed.symm
    rw[Zdj,Zuw,<-en]at ed;refine ZKN;refine⟨_,rfl,k,Zl4,_,rfl,I2.kp.ob,Zo4,_,rfl,_,rfl,k,D,B2,_,e.1,e.2,rfl,I2,ft,ZFq,hsm.2,?_⟩;rw[Y9 (show bf _ ZaTD=Za5 from hj)];intro H2 mv2
    have mv2:oU c ck HH k D B2 (aY (ZA0)) mI H2:=#[cB,en,sx,mv2]
    refine⟨_,_,rfl,oU.step #[aR,I1.kp.ob] I1.kB k2 f2 t2 mv2,ZapW,?_,#[aE,hb,ed]⟩;rw[en];intro d hd g hg;rcases ZIg with z | z
    ·exact ZaJ5
    ·rw[ZcA]at hg
     obtain⟨q1,q2⟩:=ZK0;simp[dZ,names]at hg;rcases hg with y | y<;>rw[y]
     ·exact Zacy
     ·exact ZacO
   ·rintro σ HH ⟨v,w,rfl,mv,di,nm,ek⟩
    rw[Y5,hql,ZD]at mv;exact q HH (oU.pre s1 mv)
  ·rw[Znk]at q ⊢
   exact q
def CL (F:#[aq,ZPQ,ZPQ,jQ])(wO:#[aeb,ZPM,6,Lr]) : #[ael,7,HB]:=by
 refine #[amR,tT]
 ·obtain⟨p,B,st,rfl,_⟩:=h
  rfl
 ·obtain⟨p,B,st,rfl,S,hg,wl,sm,q⟩:=h
  refine⟨_,ae #[a1D,1,jQ,vS,Zalo,(ca #[dd,wO,Zl8]),Zalo,#[a0p,Zalo,[Ze6],[Ze6]],tT.nd] (
   ae #[oS,#[hi,#[afp,UC,1],Zao,Zfl]] (
   #[bY,(sr K Zba Zao)])),?_⟩
  try dsimp only[cxK,cxK']
  refine⟨_,rfl,p,B,st,rfl,S,hg,wl,sm,fun l as H1 hl s1 h1 p1 f1=>?_⟩;have PW:=wq hg;have al:=Zt p1;obtain⟨rl,rsz⟩:=Hk PW wl sm;refine#[k6,l,h1,fun q2 hq2=>BH (K:=K) hq2 ⟨as,h1,p1⟩ rl rsz fun H2 s2 h2=>?_];refine#[g7,Zce,fun l3 hl3=>?_];have s3:=#[xK,hl3];refine⟨q2,l3,_,_,rfl,rfl,ZOH (Ld #[nm,h2]),ZOH (Ld (ws:=[]) ac),#[cX,Zh6]⟩;rw[#[eC,(if Zjb then !b else b)=b]];have sF:=ZKE s3
  by_cases z:fV ZaI=[]
  ·rw[hb.mpr (Zzs)]
   refine aM (show Q (Zaf Zald) _ from ?_);have:=q _ sF;unfold rq at this;rw[ZeO]at this;exact this
  ·have nb:b=Zaz:=by
    cases b with
    | false=>rfl
    | true =>
     have:=hb.mp rfl;injection this with _ this
     cases e:fV ZaI with
     | nil=>exact #[oE,e,z]
     | cons r rs=>rw[e]at this;cases this
   rw[nb];refine ar ⟨rfl,_,rfl,_,q2,(fV ZaI).map wy,rfl,rfl,Zbs #[nm,h2],DG rl rsz,?_⟩;have:=q _ sF;unfold rq at this;rw[Zem]at this;exact this
def zj (F:#[zR,Zbbs,kj])[458](MK:Xm P w K mg ZaO ck)(MF:Tk P w K mg ZaO cb) : #[bi,3,ZfC,Zagj]:=by
 refine #[amR,zt]
 ·obtain⟨e,dx,rfl,_⟩:=h
  rfl
 ·obtain⟨e,dx,rfl,he,q⟩:=h
  refine⟨_,ae #[yH,ZaWO] (
   ae #[yH,(Rs MK UO.k Zbx rfl ZGw)] (
   af (gq Zak (UF MF UO.f Zbx rfl) rfl))),?_⟩
  try dsimp only[cxK,cxK']
  intro x hx1 nx nhx nex;refine#[ci,x,hx1,ac,fun B H1 S1 kp1 fr1=>ZqG]
  have s0:aD H #[h_,hx1,Ztl,x,(Zfo c.C hx1 [])]:=#[alR,#[auE,nx,nhx]]
  have ex:e≠x:=ao he nx;have he1:H1 e=Zab ZaAS:=kp1 _ _ (s0 _ _ he) ex;have s1:ZHA:=#[alR,kp1 b o (s0 b o e') (ao e' nx)];have eB:e∉Zdp:=#[aF,S1.noins z he1];refine⟨_,rfl,e,ze,dx,[],rfl,he1,Zgg,ZalS,ZKg,?_⟩;have st:∀ {G:Hp}{fs gs:ZoZ}{y:dM},bq c.C G x B y->G e=Zab #[pq,fs]->bq c.C (upd G e #[pq,gs]) x B y:=fun {G fs gs y} S ge=>S.kept (fp:=[e]) (#[alT,#[aE,Zaep,e']]) #[bZ,#[VK,ex]] (#[alU,#[fP,eB,ZcA,hb]]) (fun b xs e' z=>by rw[ZcA,ge]at e';cases e');have S2:=st (gs:=bW Zb5 Zg4 []) S1 he1;have he2:#[aT,H1,e,ZRP,e,ZRP]:=ac
  have k2:#[Gq,H1,e,H1,e,ZRP]:=ZawC
  have t2:∀ [45],upd H1 e ZRP b=Zac->H1 b=Zac:=fun {b} z=>by
   cases e':H1 b with
   | none=>rfl
   | some o =>
    by_cases y:b=e
    ·rw[y,he2]at z;cases z
    ·rw[k2 b o e' y]at z;cases z
  generalize upd H1 e ZRP=H2 at S2 he2 k2 t2 ⊢;refine⟨_,rfl,e,ze,dx,_,_,rfl,he2,Zgg,ZalS,#[a_,aE,ZaB],fun kp kdx hkp hkdx nkd=>⟨kp,kdx,x,rfl,ac,rfl,?_⟩⟩;rw[lj];have tr2:∀ [422],#[bc,H2]->b≠kp/\b≠kdx:=fun {b o} e'=>⟨(fun z=>(by rw[z,hkp]at e';cases e')),(fun z=>(by rw[z,hkdx]at e';cases e'))⟩
  have s3:aD H2 ZaYR:=#[alR,#[tT,ai (tr2 e').1,(tr2 e').2,e']]
  have K3:ja ck ZaYR kp ZaPL mI:=⟨ac,fun ps e'=>(by cases e'),fun ps e'=>(by cases e')⟩
  have kB:kp∉Zdp:=fun z=>by obtain⟨o,q'⟩:=S2.tracked z;rw[hkp]at q';cases q'
  have ke:e≠kp:=(tr2 he2).1;generalize upd #[g3,kdx,Zas8] kp ZauI=H3 at s3 K3 ⊢;have he3:=#[gC,he2];refine⟨_,rfl,e,ze,dx,_,rfl,he3,Zgg,ZDn,#[kC,1<ZbF],?_⟩;have S4:=st (gs:=bW Zhy ZawL ZRO) (S2.mono s3) he3;have he4:#[aT,H3,e,ZRQ,e,ZRQ]:=ac
  have k4:#[Gq,H3,e,H3,e,ZRQ]:=ZawC
  generalize upd H3 e ZRQ=H4 at S4 he4 k4 ⊢;intro b bdx nb nbd neb;refine#[ci,b,bdx,ac,fun A5 H5 kp5 B5 y1 y2 y3=>ZqG];have s5:aD H4 H5:=fun y o e'=>kp5 y o (ZaSB) (ao e' nb);have he5:=s5 _ _ he4
  have sM:aD H4 #[kz,H4,bdx,(Ziz b),b,(Zfo cb bdx [])]:=fun y o e'=>ZaSB
  refine⟨_,rfl,e,ze,dx,_,rfl,he5,Zgg,ZalW,(#[zx,Sm,2]),?_⟩;rw[F5];have S6:=st (gs:=Ib #[aj,x] ZawL Zqu) (S4.mono s5) he5
  have k6:#[aY4,H3]:=#[alX,#[ch,n,s5 _ _ (k4 y o e' n)]]
  have mE:J6 H5 [e]->ZiM:=fun m=>(m e Ze).ins he5
  have kE:#[aY4,H5]:=#[alX,Zati]
  have be:ZkV:=fun z=>by rw[z,he4]at nb;cases nb
  have nF:∀ [41][367],H5 a=Zab ZXW->a≠e:=fun {a kv} q z=>by rw[z,he5]at q;cases q
  have B6:gZ cb (upd H5 e Zau0) b A5 []:=⟨kE _ _ B5.ob be,kE _ _ B5.f1 (nF B5.f1),kE _ _ B5.f2 (nF B5.f2),kE _ _ B5.f3 (nF B5.f3),(fun e' he'=>nomatch he'),(fun e' he'=>nomatch he'),B5.nd,B5.ln,B5.d12,B5.d13,B5.d23⟩
  have fr4:∀ [41],H4 a=Zac->Zm7/\a∉Zdp:=fun {a} q=>by
   have q3:H3 a=Zac:=by
    cases e':H3 a with
    | none=>rfl
    | some o =>
     by_cases y:a=e
     ·rw[y,he4]at q;cases q
     ·rw[k4 a o e' y]at q;cases q
   exact⟨ZrX (t2 (ZC7 q3)),fun z=>by obtain⟨o,r⟩:=S4.tracked z;rw[q]at r;cases r⟩
  refine q ⟨dx,x,kp,b⟩ ZaPL B A5 _ ⟨ac,⟨⟨k6 _ _ K3.ob (Zw ke),fun ps e'=>(by cases e'),fun ps e'=>(by cases e')⟩,S6,kB,fun ps e'=>(by cases e')⟩,rfl⟩ B6 (#[alX,k6 _ _ #[nm,(k2 _ _ (s1 _ _ e') n)] n]) (#[jV,ZDo (fr1 y hy)]) (Zx');simp only[Zi,ZX,aQv]at hy;rcases hy with rfl | rfl | rfl
  ·exact #[adK,y1]
  ·exact #[adK,y2]
  ·exact #[adK,y3]
def Bk (F:#[aq,"say",Zbbt,mi])(M_Evening_answer:#[uG,ze,ZalY,40,Za',Za1I]) : #[bi,41,ZX4,ZaHB]:=by
 refine #[amR,BL]
 ·rcases h with ⟨e,D0,D,B,st,z,q,rfl,_⟩ | ⟨e,A,D,B,es,Y,bs,L,y,z,rfl,_⟩ | ⟨e,A,Y,bs,y,r,w,z,rfl,_⟩<;>rfl
 ·obtain⟨e0,z0,dx,x1,x2,x3,hv,ob⟩:=h.ob
  subst hv;refine#[hc,af (RF rfl rfl (fun pins E=>#[bY,(dm Zbbu Zak Zgg Zbx Wj Zl7)]) #[xq,U.mA,#[xq,U.mM,#[xq,U.mS,#[xq,U.mT,#[xq,UO.mN,#[xq,UO.m,#[xq,UO.mP,#[xq,UO.mB,#[xq,UO.mT,#[xq,UO.mU,#[xq,UO.mL,#[xq,ZwR,#[xq,U.mN,#[xq,UO.mQ,UK]]]]]]]]]]]]]])]
  try dsimp only[cxK,cxK']
  have hB:=UO.x.xB;have hT:=UO.x.xT;have hU:=UO.x.xU;have hL:=UO.x.xL;have hF:=UO.x.xF;have hN:=UO.xn;simp only[List.forall_mem_cons,List.getD_cons_zero,List.getD_cons_succ]at hB hT hU hL hF hN;refine⟨_,rfl,e0,dx,_,rfl,ob,Zup,_,rfl,UU h ?_ ?_ ?_ ?_ ?_ ?_ ?_ ?_ ?_⟩
  ·exact #[ng,VM.aa,ZgF]
  ·exact #[ng,VM.sa,#[hB,VM.sm,VM.ss,ZgF]]
  ·exact #[ng,VM.ta,#[hB,VM.tm,VM.ts,ar #[bN,VM.tt,ZgF]]]
  ·exact #[ng,hB.1,#[aoV,hB,hB,hB,hB,#[hB,#[o_,hB.2],#[xI,hB],ar #[bN,UO.bb,ZgF]]]]
  ·exact #[ng,hT.1,#[aoW,hT,hT,hT,hT,hT,hT,hT,UO.tt,ZgF]]
  ·exact #[ng,hU.1,#[aoW,hU,hU,hU,hU,hU,hU,hU,#[IU,hU],ar #[bN,UO.uu,ZgF]]]
  ·exact #[ng,hL.1,#[aoW,hL,hL,hL,hL,hL,hL,hL,#[IU,hL],#[hB,#[xI,hL.2.2.2],UO.ll,ZgF]]]
  ·exact #[ng,hF.1,#[aoW,hF,hF,hF,hF,hF,hF,hF,#[IU,hF],#[hB,#[xI,hF.2.2.2],#[IU,hF.2.2],ar #[bN,UO.ff,ZgF]]]]
  ·exact fun dx H' k σ' _=>#[bN,VM.na,#[hB,VM.nm,VM.ns,#[hB,VM.nt,hN.1,#[aoW,hN,hN,hN,hN,hN,hN,hN,VM.nn,ZgF]]]]
def vW (F:#[aq,ZalY,Zbbv,jm])(tZ:#[bb,ZPH,2,[Za'],Wx])(M_Evening_number_line:#[uG,ze,ZalZ,8,ZwK,ZaV5])(M_Evening_dance_line:#[uG,ze,Zal0,39,ZgV,Za1v])(M_Evening_name_line:#[uG,ze,Zal1,39,ZCZ,Za1F]) : #[uv,40,Za',Za1I]:=by
 refine #[amS,eJ]
 ·rcases h with ⟨e,D0,D,B,st,z,q,rfl,_⟩ | ⟨e,A,D,B,es,Y,bs,L,y,z,rfl,_⟩ | ⟨e,A,Y,bs,y,r,w,z,rfl,_⟩<;>rfl
 ·have hn:∃ (e:Addr)(z:Str),Zabn:=by
   rcases h with ⟨e,D0,D,B,st,z,q,rfl,_⟩ | ⟨e,A,D,B,es,Y,bs,L,y,z,rfl,_⟩ | ⟨e,A,Y,bs,y,r,w,z,rfl,_⟩<;>exact#[dQ,_]
  obtain⟨e,z0,rfl⟩:=hn;have sl:Za9n:=ZQ
  refine⟨_,ae #[afE,(K5 Zao Zba),ZPR,ZPR,ZPR] (
   ae #[aP6,#[gt,ZaM],Zbbw] (
   ae #[aP6,(ax xN Zba Zc8 rfl),Zbbx] (
   ae #[sV,5,ZPR,tZ,Zl7] (
   ae #[i4,#[h2,Hf,#[uU,Zfg],(BD (ax kJ (Rw UO.gd Zajh UO.ms #[v8,Zfg] ZK4) (#[aji,Zt9]) Zfa))],(gj)] (
   #[bY,#[atw,Zbby,Zt9]]))))),?_⟩
  try dsimp only[cxK,cxK']
  have bb:#[lz,ZaJ #[me,[32]]=ZaJ (ZbC " ")]:=Zal
  rcases h with ⟨e',D0,D,B,st,z,q,hv,I,L,ok⟩ | ⟨e',A,D,B,es,Y,bs,L,y,z,hv,yl,hp,ev,bk,tI,ln,ok⟩ | ⟨e',A,Y,bs,y,r,w,z,hv,yl,hp,ob,bk,tI,ln,rl,hp2,hs,wa,wl,bl,ok⟩
  ·cases hv
   have zl:=L.ln;refine Zasb;obtain⟨p1,p2,p3⟩:=Js L.wd;rw[p1,p2];generalize #[yw,(bV 32 Zal2).2.2]=rs;generalize (if ZDp gn=[] then Str.empty else ⟨#[32]⟩:Str)=bl;have s1:=#[gm,[Zaf ZgU,ZUM,ZUL],hl];have h1:#[d1,l,ZaUI,l,ZaUI]:=ac;generalize #[cT,H,l,[Zaf ZgU,ZUM,ZUL]]=H1 at s1 h1 ⊢;refine ZS1;refine Zmc;rw[ZH3];refine Zpk;rw[ZH3];refine #[pj,⟨_,rfl,z0,ZgU,ZaEB,rfl,L.as,L.ln,L.wd,fun al t H2 ht s2 h2=>?_,fun bad=>?_⟩]
   ·have s02:=Zhh
    have e1:(ZDp gn).map Zhw=ZDp Zar:=by
     rw[ZK];exact aQr #[eB,UA (L.gs g hg)]
    rw[e1]at h2;have at0:FL ZaF3 0=#[c3,ZaJ,ZgU]:=ZbX;refine#[m_,⟨_,rfl,t,_,_,_,rfl,rfl,ZbL h2,at0,_,rfl,_,rfl,t,_,rfl,#[pp,h2],?_⟩];rw[LL];refine⟨rfl,_,rfl,?_⟩;rw[Zs4];exact ar ⟨_,rfl,e,ZDq,_,rfl,s02 _ _ ZwG,Zup,_,rfl,e,t,D0,D,B,st,q,rfl,I.mono s02,h2,ok.mono s02⟩
   ·obtain⟨w,hw,n⟩:=bad
    obtain⟨g,hg,rfl⟩:=ZdI hw;obtain⟨e,N,_⟩:=vV (L.gs g hg);exact ZoD N (n e)
  ·cases hv
   have e1:bV 32 Zal2=(ZIc,[32],aZ z):=hp;refine Zasb;rw[e1];have s1:=#[ac5,Zaaa,Zxg]
   have h1:#[d1,l,#[ji,Zaaa,Zxf,Zxg],l,#[ji,Zl5,Zxf,ZcL]]:=by
    rw[ac,#[bh,(#[pG,Zl5]:Str)=Zl5,iz _],ZaYv]
   generalize #[cT,H,l,[Zaf Zaaa,Zxf,Zxg]]=H0 at s1 h1 ⊢;refine ZS1;refine Zmc;rw[Zs4];refine aM Zmc;rw[bb];exact aM ⟨_,rfl,e,ZbG,_,rfl,s1 _ _ ev.ob,Zup,_,rfl,e,A,D,B,es,Y,bs,L,z,rfl,ev.mono s1,ZaAe,ZIu,ln,ZaAd⟩
  ·cases hv
   have e1:bV 32 Zal2=(ZAe,[32],aZ r):=hp;refine Zasb;rw[e1];have s1:=#[ac5,ZZ',ZY4]
   have h1:#[d1,l,#[ji,ZZ',Zxf,ZY4],l,#[ji,ZbH,Zxf,ZXk]]:=by
    rw[ac,#[bh,(#[pG,ZbH]:Str)=ZbH,iz _],#[bh,(#[pG,r]:Str)=r,iz r]]
   generalize #[cT,H,l,[Zaf ZZ',Zxf,ZY4]]=H0 at s1 h1 ⊢;refine ZS1;refine Zmc;rw[#[bh,#[DT,ZbH,Zl5],#[o2,dS]]];refine Zpk;rw[Zs4];refine Zane;rw[oJ,StrLaws.found_one,Zc (show 32∈Zbbz from hs)];exact aM ⟨_,rfl,e,ZbG,_,rfl,ZaaV,Zup,_,rfl,e,A,0,Y,bs,r,w,z,rfl,ZaaV,ZaAe,ZIu,ln,rl,hp2,wa,wl,bl,ZaAd⟩
def qf (F:#[aq,Zal0,ZbbA,gy])(M_FigureBook_spread:#[kH,cb,ZPv,14,Zma,ZaPF])[160](lQ:#[uG,ck,Zl5,6,ZaG,ZaCZ]) : #[uv,39,ZgV,Za1v]:=by
 refine #[amS,ju]
 ·obtain⟨e,A,D,B,es,Y,bs,L,z,rfl,_⟩:=h
  rfl
 ·obtain⟨e,A,D,B,es,Y,bs,L,z,rfl,ev,bk,tI,ln,ok⟩:=h
  have zl:=ln.ln
  refine⟨_,ae (bd 2 ju.nd (dm ZbbB Zdg ZdL Zbx bZ (cE (ka hG Zbx rfl bZ Zl7)))) (
   ae (bh (dm lQ Zdg ZgZ Zbx bZ Zl9)) (
   #[bY,(Rv #[ajn,Zl9] ZkE)])),?_⟩
  try dsimp only[cxK,cxK']
  have nS:#[QG,ZPv]:=Zo3;refine⟨_,rfl,e,ze,ZbG,_,_,rfl,ev.ob,Zgg,ZalW,Kl,Zkl,Y.dx,_,rfl,bk.ob,nS,_,rfl,z,rfl,ln.as,Zad,tI,#[bbC,?_],#[aXM,g1]⟩;have hf:=ZaCe;have ev1:=ev.gk g1;have bk1:=ZaEz;refine⟨Zkl,p,Y,bs,f,rfl,bk1,hF.up,#[alB,ok.un f hf kn H2 ZUk ZTZ],fun kn lg H2 s2=>ok.tl f hf kn lg H2 ZUk ZTZ,fun kn lg l H2 hl s2 row=>?_⟩;obtain⟨rok,rl⟩:=ok.ro f hf kn lg;have ev2:=ev1.mono s2
  have lB:ZIP:=fun z=>by obtain⟨o,q⟩:=ev1.ki.hall.tracked z;rw[hl]at q;cases q
  have g2:=ZC_ (df s2);have t2:=t1.same s2;refine⟨_,rfl,e,ze,ZbG,_,_,rfl,ev2.ob,Zgg,ZDn,rZ,ZrV,Zl4,_,rfl,ev2.ki.kp.ob,Zo4,_,rfl,ZrV,l,D,B,es,_,L,rfl,ev2.ki,row,lB,rok,?_⟩
  by_cases hb:ZTV
  ·rw[ZjB]
   intro H3 mv;have mE:=KP ev2 mv;obtain⟨as,hr,hp⟩:=ZYi;have al:=ZzX;obtain⟨_,_,k3,_⟩:=id mE;refine⟨_,rfl,l,_,rfl,#[h4,(k3 _ _ hr lB)],_,rfl,?_,?_⟩
   ·rw[Y5,al];exact Zt_
   ·have:=ok.ok f hf kn lg hb H2 H3 g2 t2 mE
    rw[Y5,al];exact this
  ·rw[Znk]
   exact ok.no f hf kn lg hb H2 g2 t2
def qY (F:#[aq,Zal1,ZbbD,gQ])(M_FigureBook_define:#[kH,cb,ZPs,14,ZKJ,ZaZz])[160] : #[uv,39,ZCZ,Za1F]:=by
 refine #[amS,eO]
 ·obtain⟨e,A,dx,Y,bs,r,w,z,rfl,_⟩:=h
  rfl
 ·obtain⟨e,A,dx,Y,bs,r,w,z,rfl,ob,bk,tI,ln,rl,hp,wa,wl,bl,ok⟩:=h
  have zl:=ln.ln
  refine⟨_,ae #[afE,(K5 Zao Zba),eO.nd,eO.nd,eO.nd] (
   ae (bh (dm ZbbE Zdg ZdL Zbx bZ (eI ZaD (ka hG Zbx rfl bZ Zyz)))) (
   Zxp)),?_⟩
  try dsimp only[cxK,cxK']
  have nD:#[QG,ZPs]:=Zo3;refine#[asa,r];have e1:bV 32 Zbbz=(Zia,[32],aZ z):=hp;rw[e1];have s1:=#[ac5,ZZ_,Zxg]
  have h1:#[d1,l,#[ji,ZZ_,Zxf,Zxg],l,#[ji,w,Zxf,ZcL]]:=by
   rw[ac,#[bh,(#[pG,w]:Str)=w,iz w],ZaYv]
  generalize #[cT,H,l,[Zaf ZZ_,Zxf,Zxg]]=H0 at s1 h1 ⊢;refine ZS1;refine⟨_,rfl,e,ze,ZbG,_,_,rfl,ZaaV,Zgg,ZalW,Kl,Zkl,Y.dx,_,rfl,s1 _ _ bk.ob,nD,_,rfl,_,rfl,z,rfl,ln.as,Zad,ZIu,#[bbC,?_],#[aXM,(ZaAT g1)]⟩;have hf:=ZaCe;have g1:=ZaAT g1;exact⟨Zkl,p,Y,bs,w,f,rfl,ZaEz,hF.up,wa,wl,bl,fun hd x H2 a1 a2 a3 a4 a5 a6 a7=>ok.ok f hf hd H1 p g1 t1 x H2 a1 a2 a3 a4 a5 a6 a7,#[adG,ok.ba],#[adG,ok.ta],#[adG,ok.un]⟩
def pq (F:#[aq,ZalZ,ZbbF,f6])[85](nA:#[K_,ZalP,3,SQ])(qt:#[aeb,ZPQ,7,HB])(zU:#[jv,ZPG,6,#[qa,Zalm],(SM c ck)]) : #[uv,8,ZwK,ZaV5]:=by
 refine #[amS,pE]
 ·obtain⟨e,t,D0,D,B,st,q,rfl,_⟩:=h
  rfl
 ·obtain⟨e,t,D0,D,B,st,q,rfl,I,ht,k⟩:=h
  refine⟨_,ae Zab_ (
   ae Zab_ (
   ae #[wb,(UI #[Wb,da,Zdg] #[Wb,nA,Zdg] (Zal))] (
   ae Zab_ (
   ae #[wb,#[dd,qt,ZGw]] (
   ae #[aNt,zU] (
   Zxp)))))),?_⟩
  try dsimp only[cxK,cxK']
  have T0:aU K H t ZaF2:=Zqz;have at0:FL ZaF2 0=#[c3,Zaf,ZgU]:=ZbX;have ki:=I.ev.ki;refine#[i7,t,_,T0,at0];rw[ZH3];refine Zanq;rw[ZH3];refine Zanq
  cases q with
  | state =>
   rw[#[GU,#[lz,#[dN,mH.state.w0,Zll]]]];refine aM ⟨_,rfl,e,ze,ZDq,_,_,rfl,ZwG,Zgg,ZDn,rZ,ZwU,Zl4,_,rfl,ZbbG,Zo4,ZwU,D,rfl,ki.kp,_,rfl,Zal,?_⟩;refine⟨_,rfl,e,ze,ZDq,_,_,rfl,ZwG,Zgg,ZDn,rZ,ZwU,Zl4,_,rfl,ZbbG,Zo4,ZwU,D,rfl,ki.kp,#[al3,#[qO,Zal]]⟩;have:=ZK7;rw[#[lZ,(#[ez,Zale])=#[fH,Zald]++ZbC " "++ZbC (ZlL ZdO)]]at this;exact this
  | rings =>
   rw[ZbbI];refine Zanq;rw[ZbbI];refine Zanq;rw[#[GU,#[lz,#[dN,ZbbH,ZlW]]]];exact aM ⟨_,rfl,e,ze,ZDq,_,_,rfl,ZwG,Zgg,ZalS,QF,D0.x,B,st,rfl,I.ev.hall,I.hg,I.wl,I.sm,k⟩
  | come g =>
   rw[Zapy];refine Zanq;rw[Zapy];refine Zanq;rw[Zapy];obtain⟨k1,k2,k3⟩:=k;exact ar ⟨_,rfl,e,ze,ZDq,_,_,rfl,ZwG,Zgg,ZDn,rZ,_,rfl,ZwU,t,g,rfl,ht,ZwU,D,B,st,g,rfl,ki,I.ft,k1,fun hj H1 mv=>k2 hj H1 (KP I.ev mv),k3⟩
def Bq (F:#[aq,ZL2,ZL2,my]) : #[cO,Zads,(JL K)]:=by
 refine #[amR,BS]
 ·obtain⟨a,ns,k,rfl,_⟩:=h
  rfl
 ·obtain⟨a,ns,i,rfl,hS,hi,k⟩:=h
  refine#[hc,ae (aK (ax Bw Zao (#[aji,Zad6]) Zfa) #[oP,(aJ jL Zak Zao Zv5)] au) #[oP,aj]];refine#[an8,a,Zam hS];unfold lS at k;rw[Y5]
  by_cases hc:i<(Zfn:Int)
  ·rw[ZHi]at k
   rw[Zc hc];refine aM ⟨_,rfl,_,rfl,a,_,_,_,rfl,rfl,hS,?_,k⟩;have e:i=#[a3,ZBY]:=(ZajA hi).symm
   have hl:ZBY<Zfn:=Zad
   rw[e];refine aN ?_;rw[ZE,aQ1,aXy,Zs hl];rfl
  ·rw[ZHd]at k
   rw[Zb hc];exact ar k
def GY (F:#[aq,ZLV,ZLV,rN]) : #[cO,[ZbS],FD]:=by
 refine #[amR,Hu]
 ·obtain⟨c,rfl,_⟩:=h
  rfl
 ·obtain⟨c,rfl,k⟩:=h
  refine#[hc,ae (aK #[hi,Bw,Zak,aj] #[oP,(Wk Ve Zak)] au) #[oP,Zak]];refine#[aUd,_,rfl];unfold d7 at k
  by_cases hc:c<0
  ·rw[ZHi]at k
   rw[Zc hc];exact aM #[eJ,k]
  ·rw[ZHd]at k
   rw[Zb hc];exact #[mz,k]
def EW (F:#[aq,ZLW,ZLW,pO])[94] : #[bi,2,[ZbS,ZnS,ZLX],Fv]:=by
 refine #[amR,db]
 ·obtain⟨c,m,b,rfl,_⟩:=h
  rfl
 ·obtain⟨c,m,b,rfl,⟨m0,m1⟩,⟨b0,b1⟩,k⟩:=h
  refine⟨_,ae #[M8,3,(bg fO hr rfl Zad6)]
   (ae #[M8,4,Zfl]
   (ae (aK #[hi,Wh,ZaM,ZaNl]
    (ae #[M8,3,(aI uJ ZaM ZaNl)]
    (ae #[M8,5,(aI cI ZaM Zacc)]
    (ae #[M8,3,(aI dq ZaM Zacc)]
    (ae (dO ZY rfl #[aTE,#[nc,Zfg]] ZaSL
     (ae #[LK,Zc8,#[nc,(aI cI ZaM ZaD)]]
     (af (iM (i:=3) db.nd rfl ZM7 (aI dq ZaM ZaD)))))
    ZX0))))
    au)
   (ae #[M8,7,(aI dH (aI cI ZaM aj) aj)]
   (ae (dO ZY rfl #[aTE,#[nc,(aI cI ZaM Zacc)]] ZaSL
     (ae #[M8,7,ZaI6]
     #[uE,Zc8,#[nc,(aI cI (aI dq ZaI6 aj) ZaD)]]))
   ZX0)))),?_⟩
  refine#[fe,_,ZaH0,ZC9]
  have big:Zaps=1000000000000000000:=Zaw
  have room:∀ ds:Zbp,#[azl,ZbF]->#[my,#[aX,Zok,Zar]]:=fun ds h=>Zqk
  have app:#[awD,upd ZazC l #[hL,Zok Zar,Zar z]=upd H l #[hE,(ds++[z])]]:=fun ds z=>#[xE,lj]
  have inb:#[awD,(ZapF)->∀ d∈ds++[z%b],ZapE]:=fun ds z h d hd=>by
   rcases ZIg with hd | hd
   ·exact h d hd
   ·rw[Zcz hd];exact⟨ZVv,Z5 _ b0⟩
  refine#[agd,_,rfl,ZaS3,_];refine XC #[fG,?_] (Zsf)
  ·refine#[agz,ZaS3]
   refine ZaJ_;refine#[avf,⟨ZatV,#[gd,m+1<ZMq]⟩];have cb:=#[F1,Z5,Zapt,0<m+1];have cn:=#[aPR,Zapt]
   refine⟨_,rfl,_,rfl,Zad,Zad,oh (n:=(Zapt%Znl).toNat) #[a08,ZaEJ,#[px,Zapt%Znl],Zac]
    ⟨_,none,[],rfl,rfl,rfl,fun _ z=>nomatch z⟩ ?_ ?_⟩
   ·rintro i σ H2 hi ⟨z,v,ds,rfl,rfl,hlen,hds⟩
    refine⟨_,rfl,ZaAu,_,rfl,_,rfl,_,_,rfl,rfl,b0,l,_,_,rfl,rfl,ac,ZaM',?_⟩;refine#[afQ,⟨b0,b1⟩];exact#[aVu,z%b,inb ds z hds]
   ·rintro σ H2 ⟨z,v,ds,rfl,rfl,hlen,hds⟩
    exact ZaVN
  ·refine#[agz,#[iR,2147483629]]
   have cb:=#[F1,Z5,(d7 c),0<m+1];have cn:=#[aPR,(d7 c)];refine ZaJ_
   refine⟨_,rfl,Zad,Zad,oh (n:=(Zmg%Znl).toNat) #[a08,Zab ZaPN,Zac,ZaEJ]
    ⟨_,none,[],rfl,rfl,rfl,fun _ z=>nomatch z⟩ ?_ ?_⟩
   ·rintro i σ H2 hi ⟨z,v,ds,rfl,rfl,hlen,hds⟩
    refine#[LQ,ZYq,ZaAh];refine⟨_,rfl,ZaAu,_,rfl,_,_,rfl,rfl,ZYq,_,_,rfl,rfl,#[iR,998244353],_,_,rfl,rfl,ZbR,_,rfl,_,_,rfl,rfl,b0,l,_,_,rfl,rfl,ac,ZaM',?_⟩;exact#[aVu,_,inb ds _ hds]
   ·rintro σ H2 ⟨z,v,ds,rfl,rfl,hlen,hds⟩
    exact ZaVN
def EX (F:#[aq,ZLU,ZLU,pP])[94] : #[bi,2,ZIX,zT]:=by
 refine #[amR,kR]
 ·obtain⟨k,c,rfl,_⟩:=h
  rfl
 ·obtain⟨i,c,rfl,⟨i0,i1⟩,k⟩:=h
  refine⟨_,ae (iM (i:=2) kR.nd rfl ZM7 (bg fO hr rfl ZaCA))
   (ae (iM (i:=3) kR.nd rfl ZM7 (aI dH aj (aI cI (aI ri ZaD aj) aj)))
   (ae (iM (i:=4) kR.nd rfl ZM7 (aI cI (aI dH (aI ri Zak ZaM) (aI OJ ZaD aj)) aj))
   (ae (aK #[hi,bA,(aI cI ZaD aj),aj] #[oP,(aI dH Zc8 aj)] au)
   ZX0))),?_⟩
  refine#[eJ,?_];refine#[Bf,ZYq,ZB'];refine⟨_,rfl,_,rfl,_,_,rfl,rfl,#[kv,#[gd,(Zaag:Int)<i],#[gd,i<(Zz7:Int)]],_,rfl,_,_,rfl,rfl,ZbR,_,_,rfl,rfl,_,_,rfl,rfl,ZaAh,?_⟩;refine#[To,ZZo,?_];unfold j4 at k;dsimp only at k
  by_cases hc:ZJt
  ·rw[ZHi]at k
   rw[Zc (show ZaJE by rw[hc])];exact aM #[hH,_,_,rfl,rfl,k]
  ·rw[ZHd]at k
   rw[Zb (#[bh,¬ ZaJE,#[aF,hc (Zbal)]])];exact #[mz,k]
def Jq (F:#[aq,ZL5,ZL5,uU]) : #[cO,Zadt,Py]:=by
 refine #[amR,JJ]
 ·obtain⟨a,b,rfl,_⟩:=h
  rfl
 ·obtain⟨a,b,rfl,k⟩:=h
  refine⟨_,ae #[oQ,#[hi,Bw,Zao,Zak],#[fJ,Zao,Zak]] (
   ZaBr),?_⟩
  try dsimp only[cxK,cxK']
  refine ZaJ6;unfold j7 at k
  by_cases hc:b<a
  ·rw[ZHi]at k
   rw[Zc hc];exact aM #[fe,_,ZGn,k]
  ·rw[ZHd]at k
   rw[Zb hc];exact ar #[fe,_,ZGn,k]
def Jp (F:#[aq,ZL0,ZL0,uT])[162] : #[aWM,Pt]:=by
 refine #[amR,BU]
 ·obtain⟨w,m,t,wl,ml,d,rfl,_⟩:=h
  rfl
 ·obtain⟨w,m,t,wl,ml,d,rfl,hw,hm,ht0,k⟩:=h
  have hu:=ZbE
  have ht:ZaNX:=#[c_,vq,ht0]
  have gw:∀ (H2:Hp)(x:Int),ZXL->eE H2 w Zazo ((ZaP wl x).map Zar):=fun H2 x s2=>#[EU,lA,ZX1,#[kD,hw]]
  have two:Zo9:=Zaw
  refine⟨_,ae #[le,(rm (gK BW ZaD (fU (aj)) pA)),3,BU.nd,(af #[oQ,#[h2,jC,#[xZ,Zv9],(iI (gu (oz hu ZaM Zak)))],ZaBe])] (
   ae #[aVw,Zv9,Zak] (
   ae #[oQ,#[h2,jC,#[gt,Zv9],(iI #[hi,kJ,ZacZ,Zv9])],ZU7] (
   ae #[oQ,#[h2,jC,#[gt,Zv9],(iI #[hi,bA,Zv9,Zv9])],ZU7] (
   ae #[aVw,ZaVq,Zao] (
   #[jI,Zba,Zjq]))))),?_⟩
  try dsimp only[cxK,cxK']
  refine#[sX,t,_,Zqz,QA d,Zic];have s1:aD H #[bt,q,ZaxA]:=ah hq
  have hq1:#[d1,q,ZaxA,q,#[xm,ZaL0]]:=#[a_,ac,NE]
  generalize #[cT,H,q,ZauL]=H1 at s1 hq1
  refine⟨q,rfl,#[aR,ZbL hq1],m7 (K:=K) (a:=q) (xs:=ZaPX) #[x3,#[gJ,[ZFu,ZXG,ZF2,v],H2=H1,(ZJN->#[jZ,Zaqi i,#[jl,(ZaP wl y)]])]]
   #[h3,rfl,fun _ y hy=>by simp at hy] (#[al4,#[pu,e],#[yu,ZbL hq1]]) ?_ ?_⟩
  ·rintro i y σ H2 hi ⟨v,rfl,rfl,hp⟩
   obtain⟨x,hx,rfl⟩:=ZbI;refine#[i7,t,_,ZaAU,ZbX]
   have nxt:(ZJN->#[jl,(ZaP wl x)])->(ZJN->#[jZ,Zaqi (i+1),#[jl,(ZaP wl y)]]):=fun h hc y hy=>by
    rw[DP hx]at hy;rcases ZIh with z | z
    ·exact hp hc y z
    ·rw[ZcA];exact h hc
   by_cases hc:Zj8 d=ZcD
   ·rw[#[ug,hc]]
    exact #[pj,#[g7,rfl,nxt #[aF,#[oE,hc,z]]]]
   ·rw[#[DS,hc]]
    refine aM #[LE,w,gw _ x s1]
    cases e:ZaP wl x with
    | none =>
     refine aM #[yi,fun r hr2=>?_];refine k r _ #[ya,hr2] #[s6,hr2] ?_;rw[ac,Ob hc (hp hc) hx e];rfl
    | some z=>exact ar #[g7,rfl,nxt #[bf,ZFr]]
  ·rintro σ H2 ⟨v,rfl,rfl,hp⟩
   have fin:∀ (o:Eb)(H3:Hp)(r:Addr),dF wl (uv ml) d=o->aD H H3->H3 r=Zac->Q ZjA (upd H3 r #[kp,OM,o]):=fun o H3 r e s3 h3=>k r _ (ZC7 h3) (ZDr (ah h3)) #[nf,ac,e];rw[Y5,ZD]at hp;have T0:aU K H2 t ZFw:=ZaAU
   cases d with
   | come g =>
    refine ZmH;rw[ZaTw];refine aM ⟨_,rfl,t,_,_,_,rfl,rfl,T0,rfl,_,rfl,w,_,rfl,gw _ g s1,_,rfl,?_⟩
    cases e:ZaBc with
    | some z=>exact aM #[yO,Zoc,ZbbJ,s1]
    | none =>
     refine Zanr;rw[show #[lB,(Zj8 (Zhz g)),Zhu] from cg];refine Zuz;rw[ZaLu];refine Zuz;rw[ZaLu];exact #[aNf,ZbbJ]
   | go g =>
    have hg:=#[auH,Zhu,g];obtain⟨z,e⟩:=Zn7 hg;refine ZmH;rw[ZaLv];refine Zuz;rw[ZaTx];refine aM ⟨_,rfl,_,rfl,t,_,_,_,rfl,rfl,T0,rfl,w,_,rfl,(#[ba_,gw H2 g s1,e,Zcl]),_,rfl,t,_,_,_,rfl,rfl,T0,rfl,rfl,_,rfl,?_⟩
    by_cases hz:z=g
    ·rw[#[ug,hz]]
     refine Zanr;rw[ZaLw];refine Zuz;rw[ZaLw];exact #[aNf,ZbbK]
    ·rw[#[aMo,hz]]
     exact aM #[yO,Zwg,ZbbK,s1]
   | exch a b =>
    have ha:=#[aJY,a];have hb:=#[aJY,b];obtain⟨za,ea⟩:=Zn7 ha;obtain⟨zb,eb⟩:=Zn7 hb;refine ZmH;rw[ZaLx];refine Zuz;rw[ZaLy];refine Zuz;rw[ZaTy];refine aM ⟨_,rfl,t,_,_,_,rfl,rfl,T0,rfl,_,rfl,t,_,_,_,rfl,rfl,T0,rfl,rfl,_,rfl,?_⟩
    by_cases hab:a=b
    ·rw[#[ug,hab]]
     exact aM #[yO,Zod,by simp[dF,ea,eb,hab],s1]
    ·rw[#[aMo,hab]]
     refine Zanr;rw[ZaTy];refine aM ⟨_,rfl,t,_,_,_,rfl,rfl,T0,rfl,_,rfl,t,_,_,_,rfl,rfl,T0,rfl,a,b,rfl,fun kt hk=>?_⟩;have s2:=#[G2,#[gm,#[co,ZV7,#[Gg,0].2],hk]];refine#[aUd,m,eE.t (k:=ZaOq) #[kD,hm] ac];rw[Ra]
     by_cases hmt:Zz'∈ml
     ·rw[Zc hmt]
      exact aM #[aPd,Zlq]
     ·rw[Zb hmt]
      exact ar #[aPd,Za5]
def EV (F:#[aq,ZLY,ZLY,pN])[162] : #[aWM,Ft]:=by
 refine #[amR,wA]
 ·obtain⟨w,m,t,wl,ml,d,rfl,_⟩:=h
  rfl
 ·obtain⟨w,m,t,wl,ml,d,rfl,hw,hm,ht0,l1,l2,hj,k⟩:=h
  have hu:=ZbE
  have ht:ZaNX:=#[c_,vq,ht0]
  have T0:aU K H t ZFw:=Zqz;have nwt:t≠w:=dD ht hw (by intro z;cases z);have nwm:m≠w:=dD hm hw (by intro z;cases z);have ntm:t≠m:=dD ht hm (by intro z;cases z)
  have sz:∀ v:ZeF,v.length<=ZbB->#[my,#[aX,dk,v]]:=fun v h=>#[aE,IS,#[y4,h]]
  refine⟨_,af (aK ZayC (af (iH hu Zak Zv9 Zv9 rfl)) (af (aK ZayC #[jg,(O0 Zak Zv9 ZK4)] (ae (bd 3 wA.nd ZacZ) (
   ae (iH hu Zak Zv9 ZacZ rfl) (
   ae (iH hu Zak Zv9 ZaM rfl) (
   af (iH hu Zao ZaVq (tQ) rfl)))))))),?_⟩
  try dsimp only[cxK,cxK']
  cases d with
  | come g =>
   refine ZmH;rw[ZaTw];refine aM ⟨_,rfl,t,_,_,_,rfl,rfl,T0,rfl,_,rfl,_,rfl,t,_,_,_,rfl,rfl,T0,rfl,w,_,rfl,ZoM (k:=Zsq) hw ZadM,?_⟩;rw[wv]
   exact ZaVB
  | go g =>
   refine ZmH;rw[ZaLv];refine Zanr;rw[ZaTx]
   obtain⟨z,e⟩:∃ z,#[gy,wl,g,z]:=by
    cases e:ZaBc with
    | none=>simp[dF,e]at hj
    | some z=>exact ZY1
   refine aM ⟨_,rfl,w,rfl,#[h',Zam hw],_,rfl,t,_,_,_,rfl,rfl,T0,rfl,_,Zsq,_,hw,rfl,#[cE,lA,e],?_⟩;rw[NI]
   exact ZaVB
  | exch a b =>
   refine ZmH;rw[ZaLx];refine Zanr;rw[ZaLy]
   obtain⟨za,ea⟩:#[aTn,a]:=by
    cases e:ZaP wl a with
    | none=>simp[dF,e]at hj
    | some z=>exact ZY1
   obtain⟨zb,eb⟩:#[aTn,b]:=by
    cases e:ZaP wl b with
    | none=>simp[dF,ea,e]at hj
    | some z=>exact ZY1
   have ga:#[aNS,(Zag a),za]:=#[afk,Zsv,hw,ea]
   have gb:#[aNS,(Zag b),zb]:=#[afk,ZpW,hw,eb]
   refine ar #[aYA,t,_,T0,w,ga];refine⟨_,rfl,_,rfl,t,_,_,_,rfl,rfl,T0,rfl,w,_,rfl,gb,_,rfl,_,rfl,t,_,_,_,rfl,rfl,T0,rfl,w,_,rfl,ZoM (k:=Zsv) hw ZadM,?_⟩;rw[wv];have lp:=EF wl a zb;have T1:#[aSj,(put wl a zb)]:=ZaRF;refine⟨_,rfl,_,rfl,_,rfl,t,_,_,_,rfl,rfl,T1,rfl,w,_,rfl,ZoM (k:=ZpW) ac ZadM,?_⟩;rw[wv,lj];have T2:#[aSj,Zae4]:=ZaRF;refine⟨_,rfl,_,rfl,t,_,_,_,rfl,rfl,T2,rfl,_,rfl,t,_,_,_,rfl,rfl,T2,rfl,a,b,rfl,fun kt hk=>?_⟩;have hkm:m≠kt:=ao Zaue hk;have hkw:w≠kt:=ao ac hk;refine⟨m,_,rfl,lN.t (k:=ZaOq) (#[tT,ai hkm,nwm,hm]) ac (by unfold AX;rw[Y5];exact #[y4,l2]),?_⟩;rw[Q9]
   have wa:wr wl a=za:=by unfold wr;rw[ea];rfl
   have wb:wr wl b=zb:=by unfold wr;rw[eb];rfl
   refine k _ ?_ ac fun x o e h1 h2=>?_
   ·rw[#[dc,nwm],ai hkw,ac]
    show Zab (ZrT (dk Zae4))=Zab (ZrT (dk (put (put wl a (wr wl b)) b (wr wl a))))
    rw[wa,wb]
   ·have e':#[d1,w,#[bW,Zae4],x,o]:=ZatE
    rw[ai h2,ai (ao e' hk)];exact e'
def E6 (F:#[aq,ZPS,ZPS,k7]) : #[cO,[Zec],Lu]:=by
 refine #[amR,Fk]
 ·obtain⟨d,w,rfl,_⟩:=h
  rfl
 ·obtain⟨d,w,rfl,hd,h64,k⟩:=h
  have hu:=ZbE
  refine⟨_,af (aq (dv (so:=am k7) (N:=yM) (N':=[ZwM,Zec]) (src:=Zaba) rfl rfl ⟨rfl,Zal,Zal,Zal,Zal,rfl,Zal⟩ rfl
    (ca (bw (vk rfl) Zajh ZbaU ZbaV Zad6))
    #[pb,⟨zO (i:=0) (#[mi,[ZwM,Zec]]) rfl ZM7,#[aXN,(jg hu Zao Zak Zv5)],pv 0⟩])),?_⟩
  have hkl:#[aX,aR,w]<64:=by unfold aR;rw[Y5];exact h64
  refine⟨_,rfl,d,_,aR w,rfl,hd,QX w,hkl,Zic⟩;have hqd:d≠q:=ao hd hq;refine#[k6,q,ac,fun r hr0=>?_];have hrq:q≠r:=ao ac hr0;have hrd:d≠r:=ao (#[N6,#[d1,q,#[hE,(im (aR w))],d,#[bW,w]],ai hqd,hd]) hr0
  have hHr:#[aZ,r]:=by rw[#[dc,hrq]]at hr0;exact hr0
  generalize hks:im (aR w)=ks at *
  have hsl:Zwk<64:=#[Nz,hks,xj,hkl]
  refine cD (K:=K) (a:=q) (xs:=Zazt) #[SX,σ=[v,Zx5]/\ZXL/\H2 q=Zab #[hD,ZvR]/\H2 r=Zab #[kS,ZPK,ZRV]]
   ⟨Zac,rfl,cw (ah hq) hHr,#[jo,ai hrq],ac⟩ (fun i σ H2 _ zz=>by obtain⟨_,_,_,h,_⟩:=zz;exact ZXx) ?_ ?_
  ·rintro i y σ H2 hi ⟨v,rfl,s2,hq2,hr2⟩
   obtain⟨g,hg,rfl⟩:=ZbI;have hil:=Zz9
   have hgk:g∈aR w:=#[Nz,Dw,hks,Zy hg]
   obtain⟨m,hm⟩:=Zn7 (ZCb hgk)
   have hwr:wr w g=m:=by unfold wr;rw[hm];rfl
   have hval:f8 (dk w) Zsr=#[c4,m]:=#[cE,lA,hm]
   have gt:eE H2 d ZasQ (Zab (Zag m)):=#[EU,hval,Zsq,#[kD,hd]]
   refine P7 ⟨_,rfl,_,rfl,d,_,rfl,gt,_,rfl,rfl,_,rfl,?_⟩
   have nxt:(#[pf,ZPJ].filter ZRV).map Zar=(ZPK ZRV).map Zar++#[x_,ZZU,ZsD]:=by
    rw[DP hg,aQM,Zp]
    congr 1
    by_cases hne:ZZU<;>simp[hne]
   by_cases hne:ZZU
   ·rw[#[alz,#[Yo,m],#[DQ,hne (by rw[hwr];injection z)]]]
    have hfl:#[aX,(ZPK ZRV).map,Zar]<=i:=by
     rw[Y5];exact ZaTO
    refine aM #[mb,_,hr2,Zpi];refine#[Tl,cw s2 hHr,#[ch,hrq,hq2]];rw[ac,nxt,Y9 hne]
   ·have hne':wr w g=g:=by simpa using hne
    rw[#[alz,#[oT,#[Tn,m]],Zc (by rw[<-hwr,hne'])]];refine ar #[Tl,s2,hq2];rw[nxt,Y8 hne,aQg];exact hr2
  ·rintro σ H2 ⟨v,rfl,s2,hq2,hr2⟩
   refine k r H2 hHr s2 ?_;rw[Y5,ZD]at hr2;unfold b9;rw[hks];exact hr2
def E4 (F:#[aq,ZPT,ZPT,pQ])(qp:#[bb,ZPS,1,[Zec],Lu]) : #[bi,3,[Zec],Hy]:=by
 refine #[amR,fZ]
 ·obtain⟨w,W,rfl,_⟩:=h
  rfl
 ·obtain⟨w,W,rfl,hw,h64,P,k⟩:=h
  have hu:=ZbE;have nil0:ZH6:=Zce
  refine⟨_,ae (bd 1 ZwV gJ) (
   ae (bd 2 ZwV Zfl) (
   ae (dO ZY rfl (ca #[dd,qp,Zl8]) (fG 3 ZwV) (af (aK #[aPb,ZaM] (ae (bd 4 ZwV Zfl) (
   ae (bd 5 ZwV ZaM) (
   ae (wu ZY #[aPb,Zfg] (ae (iH hu Zao Zfg (tQ) rfl) (
   ae #[LK,Zc8,Zt9] (
   af (bd 5 ZwV (jg hu Zak Zfg Zv5)))))) (
   ZaI1)))) Zqr))) (
   ZEN))),?_⟩
  try dsimp only[cxK,cxK']
  obtain⟨w1,w2,w3,w4⟩:=P.wrong;intro sn hsn;have sA:=#[uX,hsn];have hs1:#[d1,sn,Zc5,sn,#[hR,[]]]:=ac;generalize upd H sn (.dK [])=H1 at sA hs1 ⊢;refine ZaQl;have sB:=ZaBH;have lr0:Zaxs:=sA.free hlr;have hr1:ZaYC:=ac;have hs2:=sB _ _ hs1;generalize ZaQQ=H2 at sB hr1 hs2 ⊢;refine#[kN,w,W,(ZbbL sB) _ _ hw,h64,#[bbe,?_]];have snlr:sn≠lr:=dD hs2 hr1 (by intro z;cases z)
  have lsr:ls≠lr:=fun z=>by rw[z,hr1]at hls;cases hls
  have lss:ls≠sn:=fun z=>by rw[z,hs2]at hls;cases hls
  refine⟨ls,rfl,ZazJ,cD (K:=K) (a:=ls) (xs:=(b9 W).map Zar) (fun i σ HH=>∃ (as:ZeZ)(v3 v4 v5:Zgi),σ=#[aun,v3,v4,v5]/\Zt6/\#[eN,ls,#[kS,b9,W]]/\#[eN,sn,#[hR,ZnF]] /\
    #[eN,lr,ZDI]/\#[aR0,Zacp]/\lr∉as)
   ⟨[],none,none,none,rfl,ZbbM,h3,#[gC,hs2],ZaAQ,Zan,(fun h=>nomatch h)⟩ (fun i σ HH _ zz=>by obtain⟨_,_,_,_,_,_,h,_⟩:=zz;exact ZXx) ?_ ?_⟩
  ·rintro i y σ HH hi ⟨as,v3,v4,v5,rfl,s4,hls4,hs4,hr4,hpa,hnr⟩
   obtain⟨g,hg,rfl⟩:=ZbI;have hil:i<ZaF5:=Zz9;obtain⟨gk,gw⟩:=ZaJI;obtain⟨q1,q2,q3,q4,q5⟩:=Pa P i;have qn:=Lb hg;have lpa:=Zt hpa;have isin:∀ (HH:Hp)[199](x:Int),#[eN,sn,#[hR,ks]]->eE HH sn Zazo (f8 (uo ks) (ZX1:cQ)):=fun HH ks x h=>#[mw,ZX1,h];refine#[LE,sn,isin HH _ g hs4];rw[FG]
   by_cases hq:g∈ZnF
   ·rw[Zc hq]
    have e:qR W Zcf=qR W i:=by rw[qn];unfold wE;rw[Y9 hq]
    refine ar ⟨as,_,_,_,rfl,s4,hls4,?_,hr4,?_,hnr⟩
    ·rw[e];exact hs4
    ·rw[e];exact hpa
   ·rw[Zb hq]
    have R:=ZajC gk;have ol:=ZaFz
    have e:qR W Zcf=(ZnF++Zach,Zacp++[Zach]):=by rw[qn];unfold wE;rw[Y8 hq]
    unfold gB at e;have ap:=BI R q3 hq;generalize ZaFe=M at R ol e ap;generalize qR W i=Q0 at hs4 hpa q1 q2 q3 q4 q5 hq e ap lpa;refine aM #[Uw,ZC9];have sC:=ZxL;have hl5:#[aT,HH,l,Zkr,l,#[hE,#[uJ,0]]]:=ac;have hs5:=sC _ _ hs4
    have llr:l≠lr:=fun z=>by rw[z,hr4]at hl;cases hl
    have lls:l≠sn:=fun z=>by rw[z,hs4]at hl;cases hl
    generalize #[p6,HH,l,[]]=H5 at sC hl5 hs5 ⊢;refine Zh6;refine#[cr,fun n σ HK=>∃ j,n=M-j/\j<=M/\σ=#[aW4,ZKk]/\HK sn=Zab #[hR,(Q0.1++cJ Zcg g j)]/\HK l=Zab #[hE,#[uJ,j]]/\(#[FG,Zyb,sn,l,HK]),⟨_,0,rfl,Zce,rfl,#[GD,#[eC,cJ Zcg g 0=[]],aQg,hs5],hl5,fun b o z _ _=>z⟩];rintro n σ HK ⟨j,rfl,jM,rfl,hs6,hl6,kk⟩;refine#[LE,sn,isin HK _ _ hs6];rw[FG]
    by_cases hjM:j=M
    ·have Ey:Zaew∈Q0.1++cJ Zcg g j:=by
      rw[hjM,ZzN];exact Zog (Zap (ZajB ZaM1))
     rw[Zc Ey];rw[hjM]at hs6 hl6;have hr6:=kk _ _ (sC _ _ hr4) (Zw snlr) (Zw llr);refine ar ZaWN
     have up:ZaZ5:=#[adF,z]
     have l0:Zgw:=ZaBh;have lsl:ls≠l:=ao hls4 hl;refine⟨as++[l],_,_,_,rfl,#[aLt,(kk b o #[aQH,sC] (ao z hsn) (ao z l0))],up _ _ (kk _ _ (sC _ _ hls4) lss lsl) lsr,?_,ZxF,?_,ZcM⟩
     ·rw[e];exact up _ _ hs6 snlr
     ·rw[e]
      exact bI (Wz.Paired.mapP' hpa fun a q ha z=>up a _ (kk a _ #[pT,sC] (dD z hs4 (by intro q;cases q)) (ao z hl)) ZaRs) #[aNL,hl6]
     ·rcases ZW' with z | z
      ·exact hnr z
      ·exact ZaHp
    ·have jl:j<M:=Zad
     have nd:=uM ZN7 R.2.2
     have nin:Zaew∉Q0.1++cJ Zcg g j:=fun z=>by
      rcases ZW' with z | z
      ·exact ap _ (ZajB #[dU,j,jl]) z
      ·obtain⟨j2,hj2,ej⟩:=l6.mp z
       have e1:#[au,#[uJ,M][j]?,ZKk]:=by unfold cJ;rw[ZE,aQG jl];rfl
       have e2:#[au,#[uJ,M][j2]?,ZKk]:=by unfold cJ;rw[ZE,ZXV,ej];rfl
       have:=(Zba0 #[bj,sj,jl] nd).mp (Za4V e2.symm)
       lia
     rw[Zb nin];have ik:Zaew∈Zio:=r6 P.cl gk j;refine #[ahw,σ'=#[aW4,(bJ Zcg ZdW g)]/\#[b0,sn,ZacS]/\#[b0,l,#[hE,(cJ Zcg g (j+1))]]/\(#[g6,Zyb,b≠sn,b≠l,ZfO]),fun σ' H' ⟨a1,a2,a3,a4⟩=>⟨M-ZdW,Zad,j+1,rfl,Zad,a1,a2,a3,a4⟩]
     have lenQ:#[bd,(Q0.1++cJ Zcg g j),200]:=#[f7,Zh,sj]
     refine⟨_,rfl,_,rfl,sn,_,rfl,lN.k (k:=ZaVt) (v:=Ze3 Zae) hs6 (by unfold uo;rw[Y5];exact #[y4,lenQ]),?_⟩;rw[La,show qc (Q0.1++cJ Zcg g j) ZKk=Q0.1++cJ Zcg g ZdW by unfold qc;rw[Y8 nin,uL,aQb]]
     have hl7:#[aT,HK,sn,ZacS,l,#[hE,#[uJ,j]]]:=#[ch,lls,hl6]
     refine#[yP,hl7,l,hl7,ZaJn];have wl:w≠l:=ao ZaCR hl;have ws:w≠sn:=ao hw hsn
     have hw8:#[aT,(upd HK sn ZacS),l,#[arw,#[uJ,j],Zcg,j],w,#[bW,W]]:=#[tT,ai wl,ws,kk _ _ (sC _ _ ZaCR) ws wl]
     refine#[nP,w,(#[afk,ZaVt,hw8,nc ik]),?_];refine⟨rfl,#[Z1,lls],ZaRC,fun b o z n1 n2=>#[tT,ai n2,n1,kk b o z n1 n2]⟩
  ·rintro σ HH ⟨as,v3,v4,v5,rfl,s4,hls4,hs4,hr4,hpa,hnr⟩
   rw[Jx W (#[kx,ZaN])]at hpa;exact#[bO,k lr HH lr0 s4 ⟨as,hr4,hpa⟩]
def EY (F:#[aq,ZPU,ZPU,kY])[67] : #[bi,3,Zaau,Lk]:=by
 refine #[amR,Fi]
 ·obtain⟨m,n,rfl,_⟩:=h
  rfl
 ·obtain⟨m,n,rfl,⟨m0,m1⟩,k⟩:=h
  refine#[hc,#[bY,(#[xj,kY,yK,ZIX,ZSf,(oA Zajh ZDs Zl8),ZIX,bg cV Zbx rfl ZtF])]]
  try dsimp only[cxK,cxK']
  refine#[hH,_,rfl,Zad,Zad,ZC9]
  refine oh (n:=m.toNat) #[SX,σ=[v,#[c4,n]]/\H2=upd H l #[aGJ,fun (k:Nat)=>j4 ZtS n]]
   ZJR ?_ ?_
  ·rintro i σ H2 hi ⟨v,rfl,rfl⟩
   refine gD ⟨_,rfl,_,rfl,_,_,rfl,ZIQ,_,ac,by simp only[Y5,aQl];exact Zpi,?_⟩;refine Zh6;rw[lj,List.range_succ,Zp,Zp];simp
  ·rintro σ H2 ⟨v,rfl,rfl⟩
   exact ZaJR
def GW (F:#[aq,ZL3,ZL3,rL])[125] : #[bi,3,ZaFK,JQ]:=by
 refine #[amR,jY]
 ·obtain⟨t,ld,w,m,ls,H0,es,ds,L,rfl,_⟩:=h
  rfl
 ·obtain⟨t,ld,w,m,ls,H0,es,ds,L,rfl,ht,M,dl,nl,dn,hL,nm,len,k⟩:=h
  have hu:=ZbE
  refine⟨_,ae #[afE,Zak,ZPV,ZPV,ZPV] (
   ae (dO ZY rfl ZIs (fG 5 ZPV) (ae (bh #[qK,iS,ZaD,ZaM,Zfg]) (
   #[yI,Zc8,Zt9]))) (
   #[EM,0])),?_⟩
  try dsimp only[cxK,cxK']
  refine⟨_,rfl,t,_,rfl,Zqz,rfl,_,_,rfl,_,_,rfl,_,_,rfl,rfl,?_⟩;obtain⟨qs,hq,hqp⟩:=dl;have hql:=ZYa;have pre:=pC dn nm
  have tk:∀ i,#[aCo,0].take Zab6=ZCn:=#[iB,by rw[List.take_append,#[cn,aQm],ZbbN]]
  rw[Zh]at len
  refine⟨_,rfl,ld,rfl,ZazK,cD (K:=K) (a:=ld) (xs:=ZYZ) #[tO,#[gJ,[ZF2,#[bz,ld],ZFu,ZXG,#[bz,ls],v],#[xC,HH,ZY3,(gf (ZCn))],(#[ef,Zdf,w,b≠m->b≠ls->#[bc,HH]])]]
   #[h3,by simpa using M,#[bbO,e]] (fun i σ HH _ #[i9,_,_,kp]=>bN.of (kp _ _ hq (dD hq M.hw (by intro z;cases z)) (dD hq M.hm (by intro z;cases z)) nl)) ?_ ?_⟩
  ·rintro i y σ HH hi ⟨v,rfl,M1,kp⟩
   obtain⟨b,hb,rfl⟩:=ZbI;obtain⟨d,hd,hT0⟩:=ZaGw;have hil:ZaxY:=Zay0;obtain⟨xs,ex⟩:=jU d;obtain⟨as0,hl0,_⟩:=M.hs
   have hT:HH b=Zab ZTG:=by
    rw[ex]at hT0 ⊢;exact kp _ _ hT0 (dD hT0 M.hw (by intro z;cases z)) (dD hT0 M.hm (by intro z;cases z)) (dD hT0 hl0 (by intro z;cases z))
   have hj:bf ZY3 d=Za5:=by
    have:=dn Zab6 d (#[cB,#[cn,aQ0],ZbbN,hd]);rw[tk]at this;exact this
   have P:=pre (ZVj);rw[tk]at P
   have tn:es++ZCm (i+1)=(es++ZCm i)++[d]:=by rw[ZH,hd,ZG,aQb]
   have lno:=qX P.good P.of;have pm:=P.ml;have pf:=aQI xf (ZCn);rw[Zh,ZL]at pf;obtain⟨as,hl,hp⟩:=id M1.hs;have hal:=ZzX;rw[B8,Zh,ZL]at hal;refine⟨_,rfl,_,rfl,_,rfl,w,m,b,#[Y3,0].worn,gf (ZCn),d,rfl,M1.hw,M1.hm,hT,Zad,Zad,(Gg P.al d).trans hj,fun H3 h1 h2 k3=>?_⟩;obtain⟨M4,hl1⟩:=M1.done hj h1 h2 k3 hl hp hT;rw[Zuw,Be hj,<-tn]at M4;refine#[yP,hl1,ls,hl1,Zqk];exact#[g7,M4,fun y o e n1 n2 n3=>#[ch,n3,k3 y o (kp y o e n1 n2 n3) n1 n2]]
  ·rintro σ HH ⟨v,rfl,M1,kp⟩
   rw[Y5,hql,ZD]at M1;exact#[bO,k HH M1 kp]
def GZ (F:#[aq,ZPW,ZPW,rO])[124] : #[bi,3,[ZbS],SU]:=by
 refine #[amR,jZ]
 ·obtain⟨c,rfl,_⟩:=h
  rfl
 ·obtain⟨c,rfl,k⟩:=h
  have sl:Za9n:=ZQ
  refine⟨_,ae (bd 1 ZPX (ak)) (
   ae (bd 2 ZPX (ak)) (
   ae #[le,(ca #[dd,iT,(uY Zak Zdw (aj))]),3,ZPX,(af (bd 2 ZPX (aI bz ZaD (aJ IQ Zao ZaM Zv5))))] (
   ae #[oS,(ax lI ZaD (c5 (py #[aYG,#[aYG,(bp)]])) rfl)] (
   ZEN)))),?_⟩
  try dsimp only[cxK,cxK']
  refine⟨_,rfl,c,12,26,rfl,ZbR,ZbR,fun l ds hl hd hn=>#[k6,l,ac,?_]⟩;have s1:=#[Ei,Zok,hl]
  refine cD (K:=K) (a:=l) (xs:=Zazu) #[di,∃ (v:Zgi)(w:Str),σ=[ZyX,#[tx,ZrQ],#[tx,w],v]/\aD ZazC HK/\ZaF'/\Zfv=i]
   #[p3,Zac,_,ZUJ,Zal,Zal] #[jd,ZLz,#[m8,ac]] ?_ ?_
  ·rintro i y σ HK hi ⟨v,w,rfl,s2,aw,lw⟩
   obtain⟨d,hd1,rfl⟩:=ZbI;have hil:=#[ri,hd1];obtain⟨d0,d1⟩:=hd d (Zy hd1);obtain⟨c2,hc,e⟩:=Q3 d0 d1;refine⟨_,rfl,_,rfl,_,rfl,_,d,c2,rfl,rfl,#[Pb,sl],e,w,_,rfl,rfl,?_,?_⟩
   ·show #[lF,ZawS]
    lia
   exact⟨_,_,rfl,s2,Mj aw hc,#[a_,Ol,lw]⟩
  rintro σ HK ⟨v,w,rfl,s2,aw,lw⟩;rw[Y5]at lw;refine#[g7,#[BE,sl],#[al5,#[auU,l2,ZZO]]];have s3:=ZKE (#[Eh,["",Zb6,Za',Zcd,Zcm,Zc0,ZaG,ZaU,ZbH].map,#[cy,ZaJ (ZbC x)],hl2]);refine o8 #[fG,?_] (fun c9=>?_)
  ·exact k _ _ ZkE s3
  ·have c9:IM (ZaJ w) #[tU,(#[ez,""]::Zwz).map]=Zaz:=c9
   rw[vD]at c9;exact#[bO,k w _ (Wd aw Zah (ZbbP c9)) s3]
def E3 (F:#[aq,ZPY,ZPY,kZ]) : #[cO,[Zgf],Lo]:=by
 refine #[amR,kT]
 ·obtain⟨d,rfl,_⟩:=h
  rfl
 ·obtain⟨d,rfl,d0,k⟩:=h
  refine⟨_,ae (bd 1 kT.nd #[FE,ZaAr]) (
   ae #[zQ,#[xr,KY,ZRN],(bd 1 kT.nd ZaEf)] (
   ae (bd 2 kT.nd ZRN) (
   #[bY,(#[xj,kZ,yL,ZaRp,[Zac,Zab 0,Zab 2],(oA Zajh ZDs Zl7),ZaRp,aI cI (aI dH ZaAD (aI ri ZaD Zak)) (aj)])]))),?_⟩
  try dsimp only[cxK,cxK']
  have em:ZaTz:=ZaLz;refine#[agz,#[iR,6]];refine⟨_,rfl,_,_,rfl,rfl,ZbR,_,_,rfl,rfl,#[iR,61],_,_,rfl,rfl,_,rfl,?_⟩;have a1:=#[mY,d,6]
  apply #[q4,HH=H/\∃ m:Nat,σ=[ZSb,#[c4,Zs0],Zac]/\2<=m/\m<=60]
  ·intro rest
   by_cases c1:d/6%61>54
   ·rw[Zc c1]
    have a2:=#[mY,(d/366),53];refine aM #[Bf,ZbR,53];exact ZcV _ _ #[aYP,8,d/366%53]
   ·rw[Zb c1]
    exact #[pS,#[aYP,2,d%6]]
  rintro σ HH ⟨rfl,m,rfl,m0,m1⟩;have a3:=#[mY,(d/366),6];refine#[LQ,ZbR,#[iR,6]];refine#[hH,Zs0,rfl,Zad,Zad,ZC9]
  refine oh (n:=m) #[x3,∃ (v:Zgi)(xs:Zbp),σ=[v,ZSb,#[px,d/366%6]]/\ZaL=i/\(∀ r∈xs,ZaUh)/\H2=upd HH l #[hD,Zrt]]
   ⟨none,[],rfl,rfl,(fun _ z=>nomatch z),rfl⟩ ?_ ?_
  ·rintro i σ H2 hi ⟨v,xs,rfl,hx,hr2,rfl⟩
   refine gD ⟨_,rfl,_,_,rfl,rfl,ZbR,_,rfl,_,rfl,_,_,rfl,rfl,ZA2,_,_,rfl,rfl,_,_,rfl,rfl,ZZn,_,ac,Zqk,?_⟩;refine⟨_,xs++[(d/2196+d/366%6*(0+ZkB))%12],rfl,#[Uz,hx],fun r hr3=>?_,?_⟩
   ·rcases Zex hr3 with z | z
    ·exact hr2 r z
    ·rw[ZcA];exact #[mY,_,12]
   ·rw[lj,Zp]
    rfl
  rintro σ H2 ⟨v,xs,rfl,hx,hr2,rfl⟩;exact k l xs hl Zah Zah hr2
def EZ (F:#[aq,ZPZ,ZPZ,jn])(qj:#[bb,ZPY,1,[Zgf],Lo])[67] : #[bi,3,ZaBM,PF]:=by
 refine #[amR,hZ]
 ·obtain⟨d,c,rfl,_⟩:=h
  rfl
 ·obtain⟨d,c,rfl,d0,k⟩:=h
  have two:Zo9:=Zaw
  have three:ZYG:=Zaw
  have em:ZaTz:=ZaLz
  refine⟨_,ae (bd 2 ZDt ZaAr) (
   ae #[sV,3,ZDt,qj,(cE ZaAC)] (
   ae #[oQ,Zaad,#[Ur,ZaHf,ZaHf]] (
   ae (aK Zaad (ae (bd 4 ZDt ZRN) (
   ae (bd 5 ZDt ZaEf) (
   #[jI,Zba,#[ajl,#[xk,jn,qW,[Ze_,ZbS,Zalq,ZC1],[Zac,ZW2,Zab 4,Zab 5],(oA Zajh ZDs (cE (aj))),[Ze_,ZbS,Zalq,ZC1],bg cV Zbx rfl #[hT,#[sk,(aI dH ZaD (aI ri ZaM Zak))]]]]]))) Zqr) (
   ae (bd 6 ZDt (#[aUL,#[xk,jn,qW,ZaBN,ZSf,ZIZ,ZaBN,bg cV Zbx rfl ZtF]])) (
   #[jI,(aJ jL (c5 (uY Zba Zba (ak))) (aI uJ ZaD (aj)) Zv5),Zjr]))))),?_⟩
  try dsimp only[cxK,cxK']
  refine#[aQY,ZZo];refine⟨_,rfl,_,_,rfl,rfl,ZbR,d/5,rfl,Zad,fun lr rs hlr r0 r1 rb=>?_⟩;have s1:=#[Ei,ZgR,hlr];have h1:#[d1,lr,ZHV,lr,ZHV]:=ac;generalize upd H lr ZHV=H1 at s1 h1 ⊢;refine Zmc
  by_cases c0:d%5=0
  ·rw[Zc (Z6 Zar c0)]
   obtain⟨x,y,rt,rfl⟩:∃ x y rt,rs=ZaMB:=by
    match rs,r0 with
    | ZaMB,_=>exact⟨x,y,rt,rfl⟩
   have bx:=rb x (ZaA);have bY:=rb y (ZaA);refine aM ⟨_,rfl,lr,_,0,_,rfl,rfl,ZqC,ZbX,_,rfl,x,c,rfl,#[Jw,bx],_,rfl,lr,_,1,_,rfl,rfl,ZqC,Zz4,_,rfl,y,c,rfl,#[Jw,bY],ZwW,ZCA⟩;exact k t (ZDu _ _) _ #[ya,ht] #[s6,ht] ac ⟨ZadD,ZabD,fun _ _ _ _ z=>by cases z⟩ (#[eB,(Zcw hg).elim (#[cj,#[yu,ZqI]]) fun hg=>#[avv,ZqI]])
  rw[#[aaB,c0]];refine Zmd
  by_cases c4:d%5=4
  ·rw[Zc (Z6 Zar c4)]
   have a1:=#[mY,(d/5),12];have a2:=#[mY,(d/60),3];refine aM #[LQ,ZbR,ZZn];refine#[Bf,ZbR,3];refine⟨4,rfl,Zaw,Zaw,ZC9⟩
   refine oh (n:=4) #[SX,σ=[v,ZyX,#[px,ZRW],#[px,1+ZEr]]/\H2=upd H1 l #[aGJ,ZVO]]
    ZJR ?_ ?_
   ·rintro i σ H2 hi ⟨v,rfl,rfl⟩
    have a3:=#[aeV,ZkB];refine gD ⟨_,rfl,_,rfl,_,rfl,_,_,rfl,rfl,ZA2,_,_,rfl,rfl,_,_,rfl,rfl,ZZn,_,rfl,_,c,rfl,#[Jw,a3],_,ac,#[aoL,aQl],?_⟩;refine Zh6;rw[lj,List.range_succ,Zp,Zp];rfl
   rintro σ H2 ⟨v,rfl,rfl⟩;have s2:=#[Ei,ZaL2,hl];refine#[aJg,Zic];have s3:=#[Gr,ZaL2,hq];refine ZZw;have s4:=#[gm,[Zaf Zc0,Zs1],hp]
   have nd:∀ i j:Int,0<=i->i<4->0<=j->j<4->i≠j->#[Tt,i]≠#[Tt,j]:=fun i j i0 i1 j0 j1 n e=>by
    have bi:=#[aeV,i];have bj:=#[aeV,j];have:=QO Zah Zah e;obtain⟨st,est⟩:∃ st,st=ZEr:=Za8;rw[<-est]at this a2
    have:st=0\/st=1\/st=2:=Zad
    rcases this with rfl | rfl | rfl<;>lia
   have s12:=Zhh;refine k p (ZCF _ _ _ _) _ (Zaly (ZC7 hp)) #[aLM,ZwQ] #[jc,q,ZaBT] ⟨#[iQ,ZEV<=4],#[Fs,(4:Nat)],fun a b c' d' z=>?_⟩ (fun g hg=>by have hg:g∈#[yd,4] (ZVO):=hg;obtain⟨j,_,rfl⟩:=ZazV;exact ZqI);cases z;simp only[ZW,Zi,ZX,aQv,not_or,aQo,and_true,not_false_eq_true];exact⟨⟨#[va,0,1],#[va,0,2],#[va,0,3]⟩,⟨#[va,1,2],#[va,1,3]⟩,#[va,2,3]⟩
  rw[#[aaB,c4]];refine ar #[fe,lr,#[fc,h1],ZC9]
  refine cD (K:=K) (a:=lr) (xs:=ZgR Zar) #[SX,σ=[v,ZyX]/\ZaC6/\H2 l=Zab #[kS,#[mf,rs.take],ZES]]
   #[h3,ZAu,ac] (#[al4,Zp9,#[m8,h1]]) ?_ ?_
  ·rintro i y σ H2 hi ⟨v,rfl,s2,hl2⟩
   obtain⟨r,hr3,rfl⟩:=ZbI;have br:=rb r (Zy hr3);refine gD ⟨_,rfl,_,rfl,r,c,rfl,#[Jw,br],_,hl2,ZaoM,?_⟩;refine#[qO,ZabM];rw[ac,ZH,hr3,ZG,Zp,Zp];rfl
  rintro σ H2 ⟨v,rfl,s2,hl2⟩;rw[Y5,ZD]at hl2;refine⟨l,_,rfl,#[kv,Zbs hl2,Zic]⟩;have s3:=#[Gr,Zarb,hq];have hq3:#[aT,H2,q,Zarc,q,Zarc]:=ac;have s13:=ZaFo;generalize upd H2 q Zarc=H3 at s13 hq3 ⊢;refine⟨ZwW,ZWY⟩;have s4:=#[ms,ZauJ,hlw];have a5:=#[mY,d,5]
  have fin:∀ (f:bB),ZAt->ZlY=ZgR (ZES)->(∀ a b c d,f≠ZCG)->∀ p,upd H3 lw Zax6 p=Zac->Q ZfL #[kz,H3,lw,Zax6,p,ZVE]:=fun f fp fg fq p hp=>by
   have s5:=#[gm,[Zaf ZdJ,Zs1],hp];refine k p f _ (s13.free (Zalu hp)) (s13.trans (ZwO s5)) (p6.of fp ac (s5 _ _ (s4 _ _ (#[aE,fg,hq3])))) #[k1,?_,fun a b c d z=>#[qh,#[FQ,fq]]] (fun g hg=>by rw[fg]at hg;obtain⟨r,_,rfl⟩:=ZazV;exact ZqI)
   ·rw[fg,Y5];exact r0
   ·rw[fg,Y5];exact r1
  obtain⟨z,ez⟩:∃ z,z=d%5:=Za8;rw[<-ez]at a5 c0 c4
  have c3:z=1\/z=2\/z=3:=Zad
  refine Zaee;rw[<-ez];rcases c3 with rfl | rfl | rfl
  ·exact⟨lw,_,_,_,rfl,rfl,ZyT,ZbX,_,rfl,two,fun p hp=>fin #[adJ,ZrN] rfl rfl (fun _ _ _ _ z=>by cases z) p hp⟩
  ·exact⟨lw,_,_,_,rfl,rfl,ZyT,Zz4,_,rfl,two,fun p hp=>fin #[adJ,ZCE] rfl rfl (fun _ _ _ _ z=>by cases z) p hp⟩
  ·exact⟨lw,_,_,_,rfl,rfl,ZyT,aN (j:=2) rfl,_,rfl,two,fun p hp=>fin #[adJ,Zv1] rfl rfl (fun _ _ _ _ z=>by cases z) p hp⟩
def E5 (F:#[aq,ZP0,ZP0,pR]) : #[cO,[ZdK],HC]:=by
 refine #[amR,Fj]
 ·obtain⟨p,n,f,rfl,_⟩:=h
  rfl
 ·obtain⟨p,n,f,rfl,hf,pn,k⟩:=h
  have two:Zo9:=Zaw
  cases n with
  | zero=>exact hf.elim
  | succ n =>
  refine#[hc,#[bY,((SD (kP lI Zv_ ZaBd rfl) (Fd (kP Bw #[ajn,Zwc] (aj) Zfa))))]]
  try dsimp only[cxK,cxK']
  obtain⟨xs,hp⟩:=hf.hd;refine⟨_,rfl,p,_,0,_,rfl,rfl,Zi_,ZbX,two,#[Cz,#[aW8,t]]⟩;have s1:=#[h7,[Zaf Zb6,Zao9]];rcases pn with ⟨g,rfl⟩ | ⟨w,rfl⟩
  ·cases g with
   | pair a b=>exact ZaL6
   | quad a b c d =>
    obtain⟨q,e1,e2⟩:=Zqb;exact #[KR,⟨_,rfl,p,_,1,_,rfl,rfl,Zyk,rfl,q,_,rfl,Zapj,_,_,rfl,rfl,Zyp⟩]
   | line g =>
    obtain⟨q,e1,e2⟩:=Zqb;exact #[KR,⟨_,rfl,p,_,1,_,rfl,rfl,Zyk,rfl,q,_,rfl,Zapj,_,_,rfl,rfl,Zyp⟩]
   | star g =>
    obtain⟨q,e1,e2⟩:=Zqb;exact #[KR,⟨_,rfl,p,_,1,_,rfl,rfl,Zyk,rfl,q,_,rfl,Zapj,_,_,rfl,rfl,Zyp⟩]
   | all g =>
    obtain⟨q,e1,e2⟩:=Zqb;exact #[KR,⟨_,rfl,p,_,1,_,rfl,rfl,Zyk,rfl,q,_,rfl,Zapj,_,_,rfl,rfl,Zyp⟩]
  ·exact ZaL6
def Br (F:#[aq,ZP1,ZP1,fE])(qo:#[bb,ZP0,1,[ZdK],HC]) : #[aCW,4,ZC2,Zgf,FE]:=by
 refine #[amR,de]
 ·obtain⟨s,nm,d,ws,xs,rfl,_⟩:=h
  rfl
 ·obtain⟨s,nm,d,ws,xs,rfl,d0,sh,hn,wl,wn,ok,xl,okn,k⟩:=h
  have two:Zo9:=Zaw
  have sl:Za9n:=ZQ
  refine⟨_,ae (bd 3 ZoO #[sk,Zao]) (
   ae (aK #[h2,jC,Zaae,(iI (BC ZaD Zui))] (ae #[LK,Zak,(cE (bc (eI #[mA,#[aVS,ZaAD]] Zdw)))] (
   af (K8))) Zqr) (
   ae (bd 4 ZoO ZaEg) (
   ae #[zQ,Zaae,(bd 4 ZoO (aj))] (
   ae (bd 5 ZoO (gK Lh Zak (fU (aI uJ Zajq (bw (Db rfl) Zajh T.bmin ZbbQ (eI Zc8 Zajq)))) pA)) (
   ae (bd 6 ZoO #[FE,(Ry rfl Zajh T.bmax #[a0J,fE,jO,ZI0])]) (
   ae #[DX,#[xr,KY,Zjr],K8] (
   ae #[le,ZI0,7,ZoO,#[jg,(UG ZJ PySem.F.slot_list_pop PySem.F.type_list_pop Uj Zak)]] (
   af (aK Zaae #[uE,Zak,#[aSf,#[v8,#[v7,jL,Zfg]]]] (ae (bd 8 ZoO (aj)) (
   ae #[zQ,(PW.pt (jC #[xs,Zjr] (jC #[xs,Zas'] (iI (gL #[ajo,#[xk,fE,jO,ZPi,Zh5,ZI0,ZPi,bg qo Zbx rfl (cE #[v7,Zy5,Zak])]]))))),(bd 8 ZoO ZaEg)] (
   #[yI,Zak,#[aSf,#[ajl,(cE (aI UE (#[xj,fE,jO,ZPi,Zh5,ZI0,ZPi,aJ Zy5 Zak Zdw Zv5]) ZG4))]]])))))))))))),?_⟩
  try dsimp only[cxK,cxK']
  obtain⟨ts,h1,pr⟩:=sh;obtain⟨us,rfl,rfl,hU⟩:=QU pr;rw[ZK]at h1;have h1:#[aQ,s,#[g0,ZlV,Zam']]:=h1;rw[Y5]at xl;refine#[aQY,#[iR,4]];refine Zmc
  apply #[q4,H=HH/\σ=#[aod,Zac,Zac,Zac,Zac,Zac]]
  ·intro rest
   refine o8 #[fG,?_] (#[bf,#[pS,Zh0]]);refine#[Tm,!#[tU,ZiW].isEmpty,ZaxN];refine o8 (fun ne=>?_) (#[bf,ZcV _ _ Zh0])
   have wpos:0<Zj0:=by cases ws with | nil=>cases ne | cons _ _=>exact Zbdi
   have i0:0<=ZaUl:=ZVv;have i1:ZaUl<Zj0:=#[S7,Z5];obtain⟨j,hj⟩:=Zabx
   have hjl:j<Zj0:=Zad
   have hwj:=Zs hjl;refine⟨_,rfl,ZaAs,_,rfl,_,rfl,_,_,rfl,rfl,ZbR,_,rfl,nm,_,rfl,#[h4,hn],_,_,rfl,rfl,by show ZdO<_;rw[Y5];lia,nm,_,j,ZUN,rfl,#[a_,Y5,hj],ZaxN,aN (j:=j) (#[pQ,hwj]),two,#[lu,ZaAy]⟩;have s1:=#[gm,[Zaf ZbH,ZUN],hp];have s2:=#[G2,#[h7,#[sF,1]]];refine#[aQ0,ZaCn]
   have ts':t≠s:=fun z=>by rw[z,s1 _ _ h1]at ht;cases ht
   have kp:=(AL (s:=s) s2).trans (zK (o:=#[aSv,ZlV]));have up:=ZaAH
   have hp2:#[aT,#[h_,p,ZaIR,t,#[zM,1]],s,#[hL,(ZlV Zam'),Zek],p,ZaIR]:=by
    rw[ai (fun z=>by rw[z,h1]at hp;cases hp)];exact ZacR
   refine k (us.map (·.2.2)++[(Zds ZP2,1)]) _ (Pp (zM hU) up (#[EW,ac]) #[aVM,#[bh,bR 1 _ p (Zds ZP2),⟨hp2,#[zv,uA,(wl _ ZaLH)]⟩]]) (OH ok #[afZ,Zap Za8]) #[GD,Zh,ZS,ZaN] #[bj,wJ,ZaN] (AC okn #[gu,#[DF,1,Zds,ZP2],wl _ ZaLH]) #[bj,Ca,ZaN] kp
  rintro σ HH ⟨rfl,rfl⟩;have n0:#[afe,3,3,3]:=ZadA;refine#[Bf,ZbR,3];refine Zmc
  apply #[q4,∃ mn:Int,H=HH/\σ=#[aod,#[c4,mn],Zac,Zac,Zac,Zac]/\1<=mn/\mn<=3]
  ·intro rest
   have:=n0 (d/4);refine o8 ?tt fun c=>ZcV _ _ #[ci,1+d/4%3,rfl,Zad,Zad];exact #[bf,ZcV #[aod,#[c4,1],Zac,Zac,Zac,Zac] H #[ci,1,rfl,Zaw,Zaw]]
  rintro σ HH ⟨mn,rfl,rfl,mn1,mn3⟩;refine⟨_,rfl,_,rfl,s,_,rfl,ZZN,_,rfl,_,rfl,s,_,rfl,ZZN,_,_,rfl,_,_,rfl,rfl,_,rfl,s,_,rfl,ZqC,Zic⟩
  obtain⟨j,ej,jl,jl3⟩:∃ j:Nat,#[kQ,Zanb,(if (Zanb:Int)<mn then (Zanb:Int) else mn)]=ZkI/\j<=Zd2/\Zd2<=j+3:=by
   rw[Y5];split
   ·exact⟨0,Zad,Zce,Zad⟩
   ·exact#[ab2,Zd2-mn.toNat,Zad]
  rw[ej,F1,<-List.map_drop]
  have hqs:q≠s:=fun z=>by rw[z,h1]at hq;cases hq
  have s1:=#[Eh,Zvh,Zam',hq];have hq1:#[d1,q,Zana,q,Zana]:=ac;generalize upd H q Zana=H1 at s1 hq1 ⊢
  have dl:#[aX,Zvg,j]<=3:=ZWF
  have du:∀ u∈Zvi,u∈us:=#[i1,ZO1 hu];refine#[fe,q,#[fc,hq1],Zie];refine #[aZf,Zag ZtE,hq1,#[aZN,u.1,#[fI,sK,(s1 _ _ (hU u (du u hu)).1)],ZO9],fun H2 s2 hc2=>?_];have s12:=Zhh;have back:ZAc:=fun H' s=>k _ H' ⟨us.map (·.1),#[aE,ZK,s _ _ h1],zM #[i1,(hU u hu).mono ZavF]⟩ ok ZXb Zti okn Zti (AL s);refine#[p3,c,Zvh (#[gS,ZavM]),ZaGN,Zsf,fun M hM hle=>?_]
  ·exact#[a0R,aM (back _ s12)]
  refine#[a0R,o8 #[fG,back _ s12] (fun c7=>?_)];obtain⟨u0,hu0,rfl⟩:=ZdI hM;generalize eM:u0.2.2.2=M at *
  have M7:M<=6:=#[zv,ZbbP,c7]
  have hle:∀ u∈Zvi,ZtE<=M:=#[i1,#[e9,hle _ (aQa (f:=fun u:FP=>ZavM) hu)]]
  have okU:#[rU,p9 u.2.2]:=#[i1,ok _ (aQa (f:=fun u:FP=>u.2.2) hu)]
  have M1:1<=M:=#[e9,(okU u0 (du _ hu0)).1]
  have hs2:=s12 _ _ h1;have hq2:=s2 _ _ hq1;refine#[mb,q,rfl,#[fc,hq2]]
  refine cD (K:=K) (a:=q) (xs:=Zvh Zam') #[di,#[gJ,#[aoe,Zac],Nq s H2 HK,HK s=Zab #[g0,(ZBs (ZZm)).map,Zam']]]
   #[h3,AL (ZO5 _),#[cB,Nat.sub_zero,ZD,hs2]] #[jd,#[pu,kp],Zbs (ZaTY)] ?_ ?_
  ·rintro i y σ HK hi ⟨v,rfl,kp,hs⟩
   have hil:=ZYz;rw[Y5,ZI]at hil
   have hlt:ZZm-1<Zd2:=Zad
   refine⟨_,rfl,#[se,hs],s,_,Za6 us[ZZm-1].1,rfl,rfl,hs,?_,_,rfl,ZbbR zK,?_⟩
   ·rw[Y5,ZL,ZHI,ZE,ZXT,Zs hlt];rfl
   ·rw[ac,<-List.map_dropLast,List.dropLast_eq_take,List.take_take,ZL]
    congr 4
    lia
  rintro σ H3 ⟨v,rfl,kp,hs3⟩;rw[Y5,ZI,#[fN,Zd2,(Zd2-j),j]]at hs3;have hq3:=ZaTY;have kp:Nq s H H3:=#[cq,AL,s12] kp;have up3:=ZaAH;have hU3:#[rU,Tl H3 u]:=#[i1,(hU u hu).mono up3];have tU:∀ u∈ZBs j,u∈us:=#[i1,aXD hu]
  have wt:Cj (us.map (·.2.2))=Cj (ZBt (·.2.2))+Cj (Zvh (·.2.2)):=by rw[<-wJ,<-Zp,ZakH]
  have tw:tS (us.map (·.2.2))=tS (ZBt (·.2.2))+tS (Zvh (·.2.2)):=by rw[<-Ca,<-Zp,ZakH]
  have tlen:#[aX,ZBs,j]<=Zd2:=Zasu
  clear hq2 hs2 hc2 back
  have fin:∀ (f:ay)(H4:Hp)(p t:Addr),aD H3 H4->H4 t=Zab #[cS,[Zcs,Zas4]]->bR ZHn H4 p f->R9 ZIv<=Cj (Zvh (·.2.2))->#[DB,ZHn]->Zak8<=tS (Zvh (·.2.2))+10->Q ZaH ZaPn:=fun f H4 p t s4 ht hf hw hwn hwt=>by
   have hs4:=ZaBU
   have ts':t≠s:=fun z=>by rw[z,hs4]at ht;cases ht
   have kp4:Nq s H3 ZaPn:=#[cq,AL,s4] zK;have up4:=(zK (s:=s) (H:=H4) (o:=#[aSv,ZBt])).tup hs4;refine k (ZBt (·.2.2)++[ZIv]) _ (Pp (zM #[i1,hU3 u (tU u hu)]) (kp4.tup hs3) (#[EW,ac]) ⟨p,up4 _ _ #[nf,ht,#[pR,(1+(M:Int)),#[a3,M+1]]],ZDj up4⟩) (OH (Zf9) ⟨#[gd,1<=M+1],#[gd,M+1<=7],#[aF,by have z:M+1=1:=z;lia]⟩) (by rw[Zh,ZS,Y5,Y5];lia) (by rw[wJ,wt];show _+(R9 ZIv+0)<=_;lia) (AC (Zf9) hwn) (by rw[Ca,tw];show _+(tI ZIv+0)<=_;unfold tI;rw[ZaIi];show _+(Zak8+0)<=_;lia) (ZbbR kp4)
   ·obtain⟨u,hu,rfl⟩:=Zk9
    exact okU u (tU u hu)
   ·obtain⟨u,hu,rfl⟩:=Zk9
    exact okn _ (aQa (f:=fun u:FP=>u.2.2) (tU u hu))
  refine Zmc;refine ZFj
  ·cases ed:Zvi with
   | nil=>rw[ed]at hu0;cases hu0
   | cons u ur =>
    have um:u∈Zvi:=#[Wv,ed]
    have hU:=hU3 u (du u um);rw[ed]at hq3;refine⟨_,rfl,#[se,hs3],_,rfl,q,_,0,_,rfl,rfl,Zbs hq3,ZbX,u.1,_,0,_,rfl,rfl,Zaxe,ZbX,two,ZaHX⟩;have s4:=(#[gm,[Zaf ZaU,ZW_],hp]).trans (ZaNJ);refine⟨s,_,_,rfl,rfl,ZaBU,Zg',fin (Zoy ZF4) _ p t s4 ac ⟨Zyy,ZacR,(hU.2.le (hle u um)).mono #[jS,s4]⟩ ?_ #[gu,#[DF,ZHn,Zoy,ZF4],(okn _ (aQa (f:=fun u:FP=>u.2.2) ZaGE)).le (hle u um)] (by rw[FW,ed,Zr,tS];have:=PY ZaOT (okn _ (aQa (f:=fun u:FP=>u.2.2) ZaGE));lia)⟩;have:=#[aOT,0].few;rw[ed,Zr,Cj];unfold R9 at *;rw[ZaIi]
    show #[aBz,ay.back]
    rw[ay.names]
    lia
  ·have nt:#[afe,20,20,20]:=ZadA
   refine Zmc
   apply rG (fun σ HH=>∃ n:Nat,aD H3 HH/\σ=#[aoe,#[c4,n]]/\(1<=n/\(n=1\/(n<=20/\∀ x∈Zvh (·.2.2),ZpX))))
   ·intro rest
    refine #[aQd,?tw1];intro c2
    have M1':M=1:=#[e9,ZoC (ZF c2)]
    have one:∀ x∈Zvh (·.2.2),ZpX:=fun x hx=>by
     obtain⟨u,hu,rfl⟩:=Zk9;have:=hle u hu;have:=(okU u (du u hu)).1
     lia
    refine⟨_,rfl,_,_,rfl,rfl,ZbR,_,_,rfl,rfl,ZZo,rfl,_,rfl,?_⟩;refine #[aQd,?tw2];intro _;refine#[fe,q,#[fc,hq3],Zie];refine LK ZatL (rs:=Zvi) hc hq3 Zah #[asi,?_] (fun H4 bs s4 hc4=>?_)
    ·have hU:=#[aEn,0].mono #[jS,sK]
     exact⟨_,rfl,u.1,_,0,_,rfl,rfl,Zaxe,ZbX,Zyy,_,_,rfl,hU.2,(okU u (du u hu)).2.2 (one _ (aQa (f:=fun u:FP=>u.2.2) hu)),fun H5 b s5=>kk H5 b s5⟩
    refine⟨c,bs,rfl,Zbs hc4,_,rfl,o8 ?tw3 #[bf,ZcV _ _ #[auu,s4]]⟩;intro _;refine#[Bf,ZbR,20];have:=nt (d/60);obtain⟨n,en⟩:=aQQ Zhe;rw[en];exact ZcV #[aoe,#[px,1+n]] H4 ⟨1+n,s4,ZWy,Zad,Zap #[mB,one]⟩
   rintro σ H4 ⟨n,s4,rfl,p1,hn⟩;have hq4:=s4 _ _ hq3;refine⟨_,rfl,#[se,#[qe,hs3]],_,rfl,q,rfl,ZazL,Zie⟩;refine #[aZf,ZW_,hq4,⟨_,rfl,u.1,_,0,_,rfl,rfl,#[fI,sK,#[qe,(hU3 u (du u hu)).1]],ZbX,ZO9⟩,fun H5 s5 hc5=>?_]
   have n20:n<=20:=by rcases hn with z | z<;>lia
   have fl:#[aX,Zvg,j]*n<=3*20:=aXG dl n20;refine⟨_,rfl,c,n,_,rfl,rfl,hc5,Zad,Zad,#[sR,aXy],ZC9⟩;rw[aXy,xq (fun u:FP=>Za6 Zyy)];refine#[aJg,#[PE,#[pn,ZaHX]]];have s6:=#[cq,ZwO,s5] ((#[cq,ah,hl] (ah ht2)).trans (#[cq,ah,hp] (ZaNJ)));refine⟨s,_,_,rfl,rfl,s6 _ _ hs3,Zg',fin (Zkd (List.replicate n (Zvh (·.2.2.1))).flatten) _ p t s6 ac ⟨t2,(List.replicate n (Zvh (·.2.1))).flatten,ZacR,(#[cq,ah,hp] (ah ht)) _ _ (by rw[ac,xq,ZK];rfl),#[rB,AS,Y5,ZMY],yS (Kn (#[i1,#[aEn,0].mono #[jS,s6]]) hle) n⟩ ?_ (L8 (ZWS) n ?_ ?_) ?_⟩
   ·have:=Vh (k:=n) (d:=M+1) (Zf9) Zah hn
    ·rw[ZK]at this;exact this
    obtain⟨u,hu,rfl⟩:=Zk9;exact ZaJw
   ·obtain⟨u,hu,rfl⟩:=ZazT
    exact (okn _ (aQa (f:=fun u:FP=>u.2.2) ZaE8)).le (hle u hu)
   ·rw[Y5]
    have p2:0<#[aX,Zvg,j]:=ZaiG hu0;exact aXG p1 p2
   ·rw[Y5,Nat.mul_comm]
    lia
   ·have:=Vd (k:=n) (Zf9) (Zf9) hn
    ·rw[ZK]at this
     have this:ZaZ7<=tS (Zvh (·.2.2))+6:=this
     show ZaZ7<=_
     lia
    ·obtain⟨u,hu,rfl⟩:=Zk9
     exact ZaJw
    ·obtain⟨u,hu,rfl⟩:=Zk9
     exact okn _ (aQa (f:=fun u:FP=>u.2.2) ZaE8)
def CJ (F:#[aq,ZP3,ZP3,jP])(qi:#[bb,ZPZ,3,ZaBM,PF])(nj:#[bb,ZP1,4,[ZC2,Zgf,Zr5],FE])[67] : #[aCW,5,ZC3,ZbS,Fz]:=by
 refine #[amR,nN]
 ·obtain⟨l,nm,c,ds,ws,rfl,_⟩:=h
  rfl
 ·obtain⟨l,nm,c,ds,ws,rfl,hl,d0,dl,hn,wl,wn,k⟩:=h
  have two:Zo9:=Zaw
  have sl:Za9n:=ZQ
  refine⟨_,ae (bd 3 nN.nd Zfl) (
   ae #[le,#[xR,0],4,nN.nd,(af (aK #[U_,Zc8] #[uE,ZaM,(cE (bc (eI #[dd,qi,#[hT,ZaAE]] Zdw)))] #[jg,#[qK,nj,ZaM,ZaAE,ZaD]]))] (
   ae #[oQ,(iA (BC ZaM Zui)),#[mA,#[fJ,ZaHe,ZaHe]]] (
   ae #[oQ,#[xs,#[ajn,ZqD]],#[v8,Zatp]] (
   #[jI,Zba,#[ajl,#[a0J,jP,vQ,ZIZ]]])))),?_⟩
  try dsimp only[cxK,cxK']
  refine#[pM,fun s hs=>#[mb,l,rfl,#[aR,Zbs (ah hs _ _ hl)]]]
  refine cD (K:=K) (a:=l) (xs:=Zazu) #[di,∃ (v:Zgi)(xs:ZkZ),σ=[Zha,ZyX,Zaoc,#[bz,s],v]/\ZeK/\Qr HK s xs/\(ZWq)/\Zaql/\ZuH<=20*i/\(ZWr)/\ZuI<=ZO3*i]
   ⟨none,[],rfl,ah hs,Zu3,(fun x hx=>nomatch hx),ZaN,ZaN,(fun x hx=>nomatch hx),ZaN⟩ #[jd,ZLz,#[m8,hl]] ?_ ?_
  ·rintro i y σ HK hi ⟨v,xs,rfl,s2,sh,ok,xl,xw,okn,xt⟩
   obtain⟨d,hd,rfl⟩:=ZbI;have hil:=Zay0;have dd:=d0 d (Zy hd);obtain⟨ts,h1,pr⟩:=id sh;have tl:=ZgH;refine#[To,#[iR,2],?_];refine ZFj
   ·refine⟨_,rfl,ZaAs,_,rfl,_,_,rfl,rfl,ZbR,_,rfl,_,c,rfl,Zad,fun p f H1 hp s3 fa fo fg=>ZaAy⟩
    have h2:=ah (o:=ZcR #[sF,1]) ht _ _ #[nm,h1];refine#[aQ0,h2]
    have up:∀ b ys,H1 b=Zab ZpE->#[aT,#[eI,t,#[zM,1]],s,ZaB',b,ZpE]:=fun b ys e=>by
     rw[ai (fun z=>by rw[z,ZaAN]at e;cases e)];exact ah ht _ _ e
    have ts':t≠s:=fun z=>by rw[z,ZaAN]at ht;cases ht
    refine⟨_,xs++[(Zen,1)],rfl,cw (#[cq,Zge,s3] (ah ht)) hs,#[aWt,ZxF,#[alH,fun b ys e=>up b ys #[fR,s3]],#[aVM,ZakB (n:=1) up #[gu,bR 1 H1 p (.pl f),⟨fa,fo⟩]]],Zf9,ZuT,#[awA,wJ,ZuH,20],AC okn (#[bh,#[DF,1,.pl,f],⟨fo,fg⟩]),#[awA,Ca,ZuI,ZO3]⟩;rcases ZqH with z | z
    ·exact ok x z
    ·rw[ZcA];exact#[afZ,#[XH,f]]
   ·refine⟨_,rfl,_,rfl,_,_,rfl,rfl,ZbR,_,rfl,s,nm,_,ws,xs,rfl,Zad,sh,s2 _ _ hn,wl,wn,ok,Zad,okn,fun ys H' sh' ok' yl yw okn' yt kp=>?_⟩
    exact⟨_,ys,rfl,fun a o e=>kp a o #[kD,e] (ao e hs),sh',ok',Zad,Zad,okn',Zad⟩
  rintro σ HK ⟨v,xs,rfl,s2,sh,ok,xl,xw,okn,xt⟩;obtain⟨ts,h1,pr⟩:=sh;have tl:=ZgH;rw[Y5]at xl xw xt;have nw:=ZaJy
  cases pr with
  | nil =>
   have lg:#[iV,#[aLJ,0].gs,ZmO]:=fun g hg=>by
    rcases Zcw hg with rfl | hg
    ·exact ZqI
    ·rw[ZasZ];exact ZqI
   have lok:#[aLJ,0].Ok:=⟨ZadD,ZabD,fun _ _ _ _ z=>by cases z⟩;refine#[Tm,Zaz,ZqC];refine aM ⟨_,rfl,0,c,rfl,ZbR,_,rfl,1,c,rfl,ZbR,two,fun q hq=>ZZw⟩;refine k p Zauf _ (Zge (#[cq,ah,hq] (ah hp))) (bR.le (n:=1) ⟨#[jc,q,ZaC8],⟨ZadD,ZabD,fun _ _ _ _ z=>by cases z⟩⟩ ZaY) #[bj,ZOM,Zce] #[aWD,8] (ZV (AO (x:=(.pl (ZrN ZTq),1)) #[afZ,Zam Za8] rfl #[aWD,1]) ZaY)
  | cons a pr2 =>
   rename_i t x ts2 xs2
   refine#[Tm,Zae,ZqC];refine ar ⟨_,rfl,s,_,rfl,ZZN,rfl,_,rfl,?_⟩;refine ZFj
   ·obtain⟨p,e1,e2⟩:=a
    have o:=ok x Ze;have:=o.2.1;have f1:=o.few;rw[Cj]at xw;exact⟨_,rfl,s,_,0,_,rfl,rfl,ZqC,ZbX,t,_,0,_,rfl,rfl,ZbQ,ZbX,k p x.1 HK s2 #[oV,e2.le] Zah #[oV,#[aBD,0].le] (by have:=PY ZaBC ZaBD;rw[tS]at xt;lia)⟩
   ·obtain⟨ps,p1,p2⟩:=N9 (ZaC a pr2) ok
    have pl:=Zt p1;have pl2:=Zt p2;refine#[fe,s,#[fc,h1],Zic]
    refine cD (K:=K) (a:=s) (xs:=(t::ts2).map Za6) #[x3,#[gJ,[v],aD HK H2,H2 q=Zab #[ml,ZDN]]]
     ZuQ (#[al4,#[pu,s3],Zbs #[nm,h1]]) ?_ ?_
    ·rintro i y σ H2 hi ⟨v,rfl,s3,hq2⟩
     obtain⟨u,hu,rfl⟩:=ZbI;obtain⟨p,hp,n,e⟩:=#[aiI,p1,hu];refine gD ⟨_,rfl,u,_,0,_,rfl,rfl,#[fI,s3,e],ZbX,_,hq2,#[sR,ZL],_,rfl,cw s3 hq,?_⟩;rw[ac,ZH,hp,ZG,Zp];rfl
    rintro σ H2 ⟨v,rfl,s3,hq2⟩;rw[Y5,pl,ZD]at hq2;refine⟨q,_,rfl,#[kv,Zbs hq2,#[PE,ZZw]]⟩;have s4:=ZDr ((#[gl,ZcR (Zkb Za6),ht2]).trans (#[gm,[Zaf ZaG,Zai t2],hp]));refine k p (Zkd (ZaNH (·.1))) _ (Zge s4) (bR.le (n:=8) ⟨t2,ps,ac,ZaC8,?_,#[vr,p2,ZalG fun _ _ e=>s4 _ _ e]⟩ ZaY) #[pJ,ZOM] (show ay.Good 8 (Zkd (ZaNH (·.1))) from ⟨#[kx,Zbdi],Zg',fun f hf=>by obtain⟨y,hy,rfl⟩:=ZazT;exact (okn y hy).le (ok y hy).2.1⟩) (by rw[Ff];have:=P3 ok okn;lia);rw[Y5]
    lia
def uI (F:#[aq,ZP4,ZP4,iR])[143](lK:#[bb,ZP5,1,[Zl3,Ze_,ZPj],SS]) : #[bi,3,[ZdK],Fy]:=by
 refine #[amR,cx]
 ·obtain⟨p,f,rfl,_⟩:=h
  rfl
 ·obtain⟨p,f,rfl,hf,ok,k⟩:=h
  have two:Zo9:=Zaw
  refine⟨_,ae (bd 1 Zr9 Zv_) (
   ae #[Af,#[yK,ZaMU]] (
   ae (bd 2 Zr9 Zv_) (
   ae #[Af,#[aYz,Zv9,Zv9,Zv9,Zv9]] (
   ae (bd 3 Zr9 Zfl) (
   ae (dO ZY rfl ZaJN #[u9,4,Zr9,5,Zr9] (af (dO ZY rfl ZaJN #[u9,6,Zr9,7,Zr9] (af #[i4,(gL #[qK,lK,Zao,Zc8,Zjr]),#[uE,ZaM,(cE (bc (eI Zfg Zte)))]])))) (
   #[EM,3])))))),?_⟩
  try dsimp only[cxK,cxK']
  obtain⟨xs,hp⟩:=hf.hd;refine#[a1G,0,Zi_,ZbX];have o1:=ok.1;have o2:=Zp4;have rl:=ZaEy
  by_cases cp:Zaxa
  ·obtain⟨a,b,rfl⟩:ZaLA:=by
    cases f with
    | pair a b=>exact ZaM0
    | _=>cases cp
   have hp:ZLD:=hf;rw[Zaqr];refine aM ⟨_,rfl,p,_,1,_,rfl,rfl,Zi_,rfl,_,rfl,p,_,2,_,rfl,rfl,Zi_,rfl,two,ZaLf⟩;have s1:=ZaA4;exact ZaZ3
  have cp:ZAt:=by cases q:f.isP with
   | true=>exact #[oE,q,cp]
   | false=>rfl
  obtain⟨q,e1,e2⟩:=hf.gr cp
  have nP:#[zn,Zb6]:=by cases f<;>first | (dsimp only[bB.word];decide +kernel) | cases cp
  rw[#[DS,nP]];refine ar #[a1G,1,ZbQ,rfl]
  by_cases cU:∃ a b c d,f=ZCG
  ·obtain⟨a,b,c,d,rfl⟩:=cU
   have e2:ZaCB:=e2;rw[ZaOC];exact aM ⟨_,rfl,q,_,0,_,rfl,rfl,Zjt,rfl,_,rfl,q,_,1,_,rfl,rfl,Zjt,rfl,_,rfl,q,_,2,_,rfl,rfl,Zjt,rfl,_,rfl,q,_,3,_,rfl,rfl,Zjt,rfl,a,b,c,d,rfl,ZaXK,Za0Z⟩
  have nQ:#[zn,Zc0]:=by
   cases f with
   | quad a b c d=>exact Za0r
   | pair=>cases cp
   | _=>dsimp only[bB.word];decide +kernel
  have er:we ZdJ ZlY ZlY 0=ZrO:=by
   cases f with
   | quad a b c d=>exact Za0r
   | pair=>cases cp
   | line g=>exact G9 g g 0 rfl
   | star g=>exact ON g
   | all g=>exact KZ g g 0 rfl
  rw[#[DS,nQ]];refine Zab5;have s0:=ZxL;refine#[mb,q,rfl,#[aR,#[fI,s0,e2]]];generalize hw:f.word=w at er;generalize f.gs=g at er e2 o1 o2
  refine w9 (K:=K) (a:=q) (xs:=ZYL) #[di,∃ (v4 v5 v6 v7:Zgi)(ps:ZeF),σ=#[aZ6,v4,v5]/\ZeK/\cR HK l ps/\ps++we w g (Zdr i) i=ZrO]
   ⟨Zac,Zac,Zac,Zac,[],rfl,s0,Zu3,er⟩ #[RS,⟨_,_,_,_,_,_,s2,_⟩] ?_ ?_
  ·rintro i y σ HK T hi ⟨v4,v5,v6,v7,ps,rfl,s2,row,ep⟩ hT
   obtain⟨x,hx,rfl⟩:=ZbI;have hil:=ZYA;have sT:=ZaMv;have hTT:ZaYI:=ac;have row:=ZaDl;have s2:=ZaDk;generalize ZaUq=HK at hTT row s2 ⊢;refine ZaIF
   have ed:ZaOZ:=ZaSr
   rw[ed]at ep;have ep:ps++#[aqo,Ey w i x g 0]=ZrO:=ep;refine#[mb,q,rfl,#[aR,ZRR]]
   refine w9 (K:=K) (a:=q) (xs:=ZYL) (fun j σ H4=>∃ (v6 v7:Zgi)(qs:ZeF),σ=#[aZ6,Zayo,#[c4,x]]/\aD H H4/\cR H4 l qs/\qs++#[aqo,Ey w i x (Zdr j) j]=ZrO)
    #[Fi,ps,s2,row,ep] ZaOR ?_ ?_
   ·rintro j y σ H4 T2 hj ⟨v6,v7,qs,rfl,s4,row4,eq4⟩ hT2
    obtain⟨o,ho,rfl⟩:=ZIj;have hjl:=#[ri,ho];have sT:=#[gm,ZaES,hT2];have hTT:#[aT,H4,T2,ZaNC,T2,ZaNC]:=ac;have row4:=row4.mono sT;have s4:=ZwO sT;generalize #[cT,H4,T2,ZaES]=H4 at hTT row4 s4 ⊢;refine#[pt,T2,hTT]
    have ed2:Zdr j=o::Zdr (j+1):=#[atS,hjl,ho]
    rw[ed2]at eq4;have eq4:qs++#[aqo,(#[x_,ZafL=Zae,(x,o)]++Ey w i x (Zdr (j+1)) ZdW)]=ZrO:=eq4;refine⟨_,rfl,_,rfl,_,rfl,w,i,j,rfl,_,rfl,?_⟩
    by_cases tg:ZafL=Zae
    ·rw[tg]
     rw[Y9 tg]at eq4;obtain⟨as,hl4,pr⟩:=row4;have al:=ZgH;have el:=#[tI,eq4];simp only[Zh,ZS]at el;refine aM ⟨_,rfl,#[se,hl4],_,rfl,_,rfl,two,ZCA⟩;have st:=#[h7,#[co,x,o]];refine⟨l,_,_,rfl,rfl,st _ _ hl4,Za9o,_,_,qs++[(x,o)],rfl,cw (ZwO st) hl,BJ hl4 pr ht,?_⟩;rw[<-eq4];simp only[aQb]
    ·rw[Y8 tg]at eq4
     rw[show rS w i j=Zaz by cases z:ZafL with
      | true=>exact #[qh,tg]
      | false=>rfl]
     exact ar #[Fi,qs,s4,row4,eq4]
   rintro σ H4 ⟨v6,v7,qs,rfl,s4,row4,eq4⟩;rw[Y5,aXf]at eq4;exact⟨_,_,_,_,qs,rfl,s4,row4,eq4⟩
  rintro σ H4 ⟨v4,v5,v6,v7,qs,rfl,s4,row4,eq4⟩;rw[Y5,aXf]at eq4;have eq4:qs++[]=ZrO:=eq4;rw[aQg]at eq4;rw[eq4]at row4;exact#[bO,k l H4 hl s4 row4]
def GV (F:#[aq,ZDw,ZDw,rK])(i6:#[TO,ZP4,3,Fy])[239](fM:#[aMz,ZI_,(uR n)]):#[bi,(n+4+1),ZTW,(uR (n+1))]:=by
 refine #[amR,gO]
 ·obtain⟨p,d,bs,tv,f,rfl,_⟩:=h
  rfl
 ·obtain⟨p,d,bs,tv,f,rfl,td,hf,kn,k1,k2⟩:=h
  have hu:=ZbE;have sl:Za9n:=ZQ
  refine⟨_,ae (bd 2 ZwX Zv_) (
   ae #[oR,ZaD,(jg hu Zao Zv_ Zv5)] (
   ae (aK #[gt,ZaD] (ae (bd 3 ZwX #[oX,fM,#[hT,Zv_]]) (
   ae #[oQ,#[uU,ZaM],Zjq] (
   #[bY,#[aSF,ZaM]]))) Zqr) (
   ae #[yU,ZaD,#[oX,i6,Zl8]] (
   ae (bd 4 ZwX Zfl) (
   ae (dO ZY rfl ZJP (fG 5 ZwX) (ae (bd 6 ZwX #[oX,fM,#[hT,Zfg]]) (
   ae #[IT,#[uU,Zjr],(BD #[xr,KY,(aI dH #[ajn,Zyz] (#[aji,#[l6,6]]))]),Zjq] (
   af (bd 4 ZwX (aI Jr Zc8 Zjr)))))) (
   #[EM,4])))))),?_⟩
  try dsimp only[cxK,cxK']
  obtain⟨xs,hp⟩:=hf.hd;refine Za1q
  cases f with
  | name w =>
   refine Zmc;rw[DW];obtain⟨e1,wl⟩:=hf
   cases e:Zlj with
   | none=>exact Zaro
   | some x =>
    have g1:=td.get w;rw[e]at g1;refine aM #[aYA,p,1,ZbQ,d,g1];rw[ay.len,ay.rowF,show ZLa by unfold gW;rw[e],show ZaPG by unfold j3;rw[e]]at k1;rw[ay.len,show ZLa by unfold gW;rw[e]]at k2;have tr:=td.r x ZuW
    by_cases lg:ZaBO
    ·show ZaMr
     rw[tr.2 lg];exact k2 lg H ZO6
    ·obtain⟨l,e2,r,_⟩:=#[cn,tr.1]
     show ZaMr
     rw[e2];exact k1 Zah l H ZO6 r
  | pl f =>
   refine Zmc;rw[DY];refine Zmd;rw[DX];refine Zmd;rw[DZ];rw[ay.len,ay.rowF]at k1;exact aM #[kN,p,f,Zqb,hf.2,fun l H1 _ s1 r=>k1 (bB.rl hf.2) l H1 s1 r]
  | back f =>
   refine Zmc;rw[DV];refine Zmd;rw[DT];obtain⟨q,e1,e2⟩:=hf;rw[ay.len]at k1 k2;rw[ay.rowF]at k1;have kn:=Zaa4;refine aM ⟨_,rfl,p,_,1,_,rfl,rfl,ZbQ,rfl,_,rfl,q,d,bs,tv,f,rfl,td,e2,kn,fun le l H1 s1 r=>?_,fun lg H1 s1=>?_⟩
   ·obtain⟨as,hl1,pr⟩:=r
    refine#[m_,#[tA,l,_,ZaxO,#[Pz,k1 le l2 _ ZaCu ?_]]];rw[<-List.map_reverse];exact ZaYb
   ·exact#[eJ,#[aeT,lg]]
  | row fs =>
   refine Zmc;rw[D4];refine Zmd;rw[D3];refine Zmd;rw[HS];obtain⟨t,as,e1,e2,fl,pr⟩:=hf;have al:=ZgH;rw[ay.len]at k1 k2;rw[ay.rowF,oE]at k1;have kn:=ZaCH;refine ZaPS;have s1:=ZaBI;refine Zapf
   refine m7 (K:=K) (a:=t) (xs:=ZDH) #[di,∃ (l:Addr)(v3 v5 v6:Zgi),σ=[ZfM,Zx5,#[tx,#[akK,0].word],v3,Zha,v5,v6]/\ZeK/\cR HK l ZaWa/\ZapD<=ZbB]
    ⟨l0,Zac,Zac,Zac,rfl,s1,Zu3,ZaRy⟩ ZaZX ?_ ?_
   ·rintro i y σ HK hi ⟨l,v3,v5,v6,rfl,s2,row,ll⟩
    obtain⟨a,ha,rfl⟩:=ZbI;obtain⟨u,hu,hA⟩:=ZaiJ;have um:=Zy hu
    have tk:ZlU (gW bs) ZZk=ZapD+ZYx:=by rw[vK,vK,ZH,hu,ZG,Zp,Zbaa];simp
    have tl:=sf (e:=gW bs) Zcf fs;refine⟨_,rfl,_,rfl,a,d,bs,tv,u,rfl,Zr_ s2,ZA6,kn u um,fun le l3 H3 s3 r3=>?_,fun lg H3 s3=>?_⟩
    ·have s23:=ZZB
     have r2:=ZaAJ;obtain⟨cs,hl2,pc⟩:=id r2;obtain⟨ds,hl4,pd⟩:=id r3;have rl1:=Zt pc;have rl2:=Zt pd;have len1:=ZakG Zal6 Zyh (#[eB,ZaXW]) ll;rw[oE]at len1;have len2:=#[aPe,Zal6,le];refine#[m_,⟨_,rfl,l,_,rfl,ZaA1,_,rfl,l3,_,rfl,#[h4,hl4],_,_,rfl,rfl,_,_,rfl,rfl,_,rfl,?_⟩];rw[Y5,Y5]
     by_cases ov:ZapD+ZYx<=ZbB
     ·rw[ZqE]
      refine ar ⟨_,rfl,_,rfl,l,l3,_,_,rfl,rfl,hl2,hl4,ZVc,fun l5 hl5=>?_⟩;refine⟨l5,_,_,_,rfl,s23.trans (ah hl5),?_,Zad⟩;rw[ZH,hu,ZG,List.flatMap_append,List.flatMap_singleton,<-Zp];exact#[aUy,ZaEH,ZaEH]
     ·rw[ZXU]
      exact aM (k2 Zah _ s23)
    ·exact#[eJ,aM (aM (k2 Zah _ ZaDV))]
   rintro σ HK ⟨l,v3,v5,v6,rfl,s2,row,ll⟩;rw[Y5,al,ZD]at row ll;exact#[bO,k1 ll l HK s2 row]
def uG (F:#[aq,ZwY,ZwY,dX])[239](dz:#[aEZ,ZdX,(B3 n)]):#[aUV,B3]:=by
 refine #[amR,fW]
 ·obtain⟨p,f,rfl,_⟩:=h
  rfl
 ·obtain⟨p,f,rfl,hf,g,tl,k⟩:=h
  have sl:Za9n:=ZQ
  refine⟨_,ae (bd 1 fW.nd Zv_) (
   ae #[Af,Zv_] (
   ae #[Af,(aI bz #[mP,#[oX,dz,Zwc]] (ak))] (
   ae #[Af,(aI bz #[mP,(sr K Zba (#[xj,dX,jf,ZPi,Zh5,ZJP,ZPi,bg dz ZoW rfl Zl8]))] (ak))] (
   ae #[aVP,(cE (gK BW Zak (fU (aj)) pA))] (
   ae #[zQ,#[xZ,Zao],#[aVP,Zwc]] (
   #[bY,(aI bz (aI bz (aI bz #[mP,Zao] (ak)) (sr K Zba (#[xj,dX,jf,ZGF,Zh5,#[xR,2],ZGF,ZatC]))) (ak))])))))),?_⟩
  try dsimp only[cxK,cxK']
  obtain⟨xs,hp⟩:=hf.hd;refine Za1q;refine Zmc
  have b1:ZabI:=Zal
  have b2:ZaD8:=Zal
  have b3:#[hM,"(",1]:=Zal
  have b4:#[hM,Zak',6]:=Zal
  have b5:#[hM,Zala,5]:=Zal
  have la:∀ x y:Str,ZaYK:=strLen_append
  cases f with
  | name w =>
   rw[DW];refine aM #[aZN,p,ZbL Zqb,?_];have:=ZadO;rw[ay.txt,iz]at this;exact this
  | back f =>
   rw[DV];refine Zmd;rw[DT];obtain⟨q,e1,e2⟩:=hf;have bt:=FW f;refine aM ⟨_,rfl,p,_,1,_,rfl,rfl,ZbQ,rfl,q,f,rfl,e2,g,Zad,#[al3,⟨_,_,rfl,rfl,Zyv,_,_,rfl,rfl,#[f7,la,ic],?_⟩]⟩;rw[Qx];exact ZK7
  | row fs =>
   rw[D4];refine Zmd;rw[D3];refine Zmd;rw[HS];obtain⟨t,as,e1,e2,fl,pr⟩:=hf;have al:=ZgH;have fl60:=g.2.1;refine aM ⟨rfl,_,rfl,p,_,1,_,rfl,rfl,ZbQ,rfl,t,rfl,Zaxl,Zic⟩
   refine m7 (K:=K) (a:=t) (xs:=ZDH) #[di,#[gJ,[v],ZeK,HK q=Zab #[g5,(#[mf,ZrS] ZSJ).map]]]
    ZuQ ZaC' ?_ ?_
   ·rintro i y σ HK hi ⟨v,rfl,s2,hq2⟩
    obtain⟨a,ha,rfl⟩:=ZbI;obtain⟨u,hu,hA⟩:=ZaiJ;have um:=Zy hu;have:=Hl um;refine gD ⟨_,rfl,a,u,rfl,ZA6,g.2.2 u um,Zad,#[aqE,ZaoM,#[aEd,s5]]⟩;rw[ac,ZH,hu,ZG,Zp,Zp];rfl
   rintro σ HK ⟨v,rfl,s2,hq2⟩;rw[Y5,al,ZD]at hq2
   have jl:#[aR3,(Zkf ZSJ)]:=by
    have:=Z6 ZbbS (Pk g.1);rw[ic,la,la]at this
    lia
   refine⟨_,q,Zkf ZSJ,rfl,rfl,ZaxP,#[afj,Zak_],_,_,rfl,rfl,Zad,_,_,rfl,rfl,#[gN,la],?_⟩
   ·obtain⟨u,hu,rfl⟩:=ZIi
    have:=Hl hu;rw[ic]
    lia
   ·rw[Y5,b1]
    lia
   rw[Pk g.1];exact k HK s2
  | pl f =>
   obtain⟨hA,ok⟩:=hf;have gs:=g.2;have ok1:=ok.1;have ok2:=Zp4;rw[DY];refine Zmd;rw[DX];refine Zmd;rw[DZ];refine ar #[sX,p,_,Zi_,?_,ZW0]
   ·intro z
    have z1:=z.1;rw[#[eC,ZmC=#[a3,1]],HT.sIx_nat,Zx]at z1
    lia
   rw[Ke,aXK,aXg];have s1:=#[gm,xs,ht1];refine#[ci,t1,_,#[pp,ac],ZW1];have s2:=#[G2,#[ms,xs,hl1]];refine Zmc
   apply #[q4,∃ lg:Addr,σ=[ZfM,#[tx,ZdJ],#[bz,lg]]/\Zt6/\#[eN,lg,#[hD,Zww]]]
   ·intro rest
    by_cases cp:Zaxa
    ·obtain⟨a,b,rfl⟩:ZaLA:=by
      cases f with
      | pair a b=>exact ZaM0
      | _=>cases cp
     have hp2:ZLD:=hA
     have ex:xs=Zzf:=by
      have:=hp.symm.trans hp2;injection this with this;injection this with this;injection this
     subst ex;rw[#[GU,#[lz,#[aMN,(ay.pl (ZDu a b))]]]];exact #[pS,#[ed,l1,s2,ac]]
    ·have cp:ZAt:=by cases e:f.isP with | true=>exact #[oE,e,cp] | false=>rfl
     obtain⟨q,e1,e2⟩:=hA.gr cp
     have wn:#[lA,#[aMN,ZqN]]:=by
      cases f with
      | pair a b=>cases cp
      | line g=>show #[Id,Za'];decide +kernel
      | star g=>show #[Id,Zcd];decide +kernel
      | all g=>show #[Id,Zcm];decide +kernel
      | quad a b c d=>show #[Id,Zc0];decide +kernel
     rw[wn];exact aM ⟨_,rfl,p,_,1,_,rfl,rfl,#[fI,s2,e1],rfl,q,_,rfl,#[pp,#[kD,e2]],#[al5,VU (ZcV _ _ #[ed,l2,Zge (ah hl2),ac])]⟩
   rintro σ H3 ⟨lg,rfl,s3,hlg⟩
   have wl:f.word.length<=4:=#[aE,dN,O9 f]
   refine⟨_,rfl,_,_,rfl,rfl,Zad,_,_,rfl,rfl,#[gN,la],rfl,_,rfl,lg,rfl,#[fc,hlg],Zie⟩;refine lE (fun x:Int=>Zar x) (rs:=ZlY) (f:=#[cy,Zaf (gn x)]) hc hlg Zah (fun x HK Q' hx sK kk=>#[bO,Zap #[ed,x,II (gs x hx),ZO9]]) (fun H4 s4 hc4=>?_)
   have jl:#[aR3,(Zww gn)]:=by
    have:=Z6 ZbbS (SE (f:=f) Zah);rw[ic,la,la,la,la]at this
    lia
   refine⟨_,c,Zww gn,rfl,rfl,#[Vh,hc4],#[afj,100],_,_,rfl,rfl,#[f7,la,la],_,_,rfl,rfl,#[rB,la,la,la],?_⟩
   ·obtain⟨x,hx,rfl⟩:=ZIi
    have:=(lH (gs x hx)).2;rw[dN]
    lia
   ·rw[Y5,b1]
    lia
   rw[#[cn,SE]];exact k _ ZacB
def zq (F:#[aq,ZP5,ZP5,kz]) : #[cO,ZaSW,SS]:=by
 refine #[amR,zA]
 ·obtain⟨w,k,j,rfl,_⟩:=h
  rfl
 ·obtain⟨w,kk,j,rfl,k⟩:=h
  refine⟨_,ae #[oQ,#[hi,yR,ZaD,Zao],(tQ)] (
   ae #[oR,Zak,(kP bA Zao (aj) Zfa)] (
   #[bY,((SD (kP bA Zak (ak) Zfa) (Fd (kP bA ZaD ZyJ Zfa))))])),?_⟩
  try dsimp only[cxK,cxK']
  refine ZaJ6;unfold rS at k
  by_cases c1:j<=kk
  ·rw[#[pl,j,ZGT]]
   rw[Y9 c1]at k;exact ZgF
  ·rw[#[sI,j,ZGT]]
   rw[Y8 c1]at k;refine Zmd
   by_cases c2:ZIz
   ·rw[Zc (Z6 ZaJ c2)]
    rw[Y9 c2]at k;refine aM #[qO,rfl];rw[#[bh,#[t7,Zar ZGT=Zar 0,kk,0],ZOQ ⟨Zaci,#[aF,Zzs]⟩]];exact k
   ·rw[#[DS,c2]]
    rw[Y8 c2]at k;refine Zmd
    by_cases c3:ZIy
    ·rw[Zc (Z6 ZaJ c3)]
     rw[Y9 c3]at k;exact ZgF
    ·rw[#[DS,c3]]
     rw[Y8 c3]at k;refine ar #[afQ,rfl];rw[#[bh,#[t7,Zar ZkI=Zar (ZGT+1),j,kk+1],ZOQ ⟨Zaci,#[aF,Zzs]⟩]];exact k
def uF (F:#[aq,ZP6,ZP6,iQ])[133][152] : #[bi,4,ZaFJ,Ww]:=by
 refine #[amR,l9]
 ·obtain⟨t,td,w,m,ls,H0,es,d,L,rfl,_⟩:=h
  rfl
 ·obtain⟨t,td,w,m,ls,H0,es,d,L,rfl,ht,M,htd,dn,hL,nm,hl,k⟩:=h
  refine⟨_,ae (bd 2 l9.nd #[qK,lC,Zv_,Zv_,Zao]) (
   ae #[yU,Zv9,#[mP,Zv9]] (
   ae (bh #[dd,jv,(eI Zak ZaDH)]) (
   Zxp))),?_⟩
  try dsimp only[cxK,cxK']
  have at0:#[aXP,0,ZFu]:=ZbX;have at1:#[aXP,1,ZXG]:=Zz4;refine⟨_,rfl,t,_,_,_,rfl,rfl,Zqz,at0,_,rfl,t,_,_,_,rfl,rfl,Zqz,at1,_,rfl,w,m,td,_,_,d,rfl,M.hw,M.hm,htd,fun r H1 hr1 s1 h1=>?_⟩;have o0:FL (OM (dF Zm4 ZaJo d)) 0=Zab (ZaJ (Fc (dF Zm4 ZaJo d))):=aN (j:=0) (Wi _);refine#[i7,r,_,ZS0,o0];rw[DC]
  have pr:Zacd:=by
   have:=pC dn (#[xD,nm,(aQ6 _ hx)]) Zdm
   rwa [ZD]at this
  rw[Gg pr.al]at o0 h1 ⊢
  by_cases hj:ZaD5
  ·rw[Zc hj]
   have ne:iV es d=ZaaJ:=by unfold iV;rw[Zdj]
   refine ar #[fe,_,Zapq,ZW1];have s2:=#[ms,ZaCM,hl1];have h2:#[aT,H1,l1,ZaGd,l1,ZaGd]:=ac;have s02:=Zhh;have l10:=ZrX hl1;generalize #[p6,H1,l1,ZaCM]=H2 at s2 h2 s02 ⊢
   have lls:l1≠ls:=by
    obtain⟨as,hs,_⟩:=M.hs
    exact fun z=>by rw[z,hs]at l10;cases l10
   refine⟨t,l1,w,m,ls,H0,es,[d],L,rfl,s02 _ _ ht,ZaDj,⟨[td],h2,ZaC (s02 _ _ htd) Zan⟩,lls,hW dn hj,hL,nm,ZuT,fun H3 M3 k3=>?_⟩;have:=#[aT0,H3,M3,fun b o e n1 n2 n3=>k3 b o #[de,s02] n1 n2 n3];unfold Nr at this;rw[Zdj]at this;exact this
  ·rw[Zb hj]
   have ne:iV es d=es:=by unfold iV;rw[ZgE]
   have ll:#[Eo,ZOZ,#[aX,Fc,ZaNa]]:=by
    cases bf (aY es) d with
    | noguest g=>exact ZaWu
    | _=>decide +kernel
   refine #[a1x,r,ZS0,o0];have:=#[aT0,H1,ZwZ s1,#[bbO,s1 b o e]];unfold Nr at this;rw[ZgE]at this;exact this
def vZ (F:#[aq,ZP7,ZP7,gC])(qk:#[bb,ZPT,3,[Zec],Hy]) : #[bi,4,[Zec],yY]:=by
 refine #[amR,nh]
 ·obtain⟨w,W,rfl,_⟩:=h
  rfl
 ·obtain⟨w,W,rfl,hw,wl,pw,sm,k⟩:=h
  refine⟨_,ae (bd 1 nh.nd #[dd,qk,Zl8]) (
   ae #[oS,(iA (BC Zao Zui))] (
   #[bY,(sr K Zba (#[xj,gC,ox,ZbaI,Zh5,ZIs,ZbaI,#[a0p,ZbaI,ZGF,ZGF]]))])),?_⟩
  try dsimp only[cxK,cxK']
  refine⟨_,rfl,w,W,rfl,hw,wl,pw,fun l H1 hl s1 h1=>?_⟩;obtain⟨rl,rsz⟩:=Hk pw wl sm;obtain⟨as,ha,hp⟩:=id h1;have al:=ZzX;refine#[Tm,_,Zbs ha]
  by_cases z:fV W=[]
  ·have a0:as=[]:=ZbbT (#[cE,al,z])
   subst a0;have:=ZK7;unfold rq at this;rw[ZeO]at this;exact ZXq
  ·have a0:∃ a0 at1,as=a0::at1:=by
    cases as with
    | nil=>exact #[oG,ZbbT,al.symm,z]
    | cons a0 at1=>exact#[dQ,_]
   obtain⟨a0,at1,rfl⟩:=a0;refine ar #[aWH,l,ha,fun q2 hq2=>BH (K:=K) hq2 h1 rl rsz fun H2 s2 h2=>?_];refine#[aSc,(fV W).map wy,ZaxM,DG rl rsz];have:=#[aTT,H2];unfold rq at this;rw[Zem]at this;exact this
def GX (F:#[aq,ZP8,ZP8,rM])(M_Evening_say:aW P w K mg ZaO dR ze "say" 41 ZX4 ZaHB) : #[bi,42,[ZPk,ZC4,Zr6],ZaHC]:=by
 refine #[amR,yX]
 ·obtain⟨e,z,r,rfl,_⟩:=h
  rfl
 ·obtain⟨e,z,r,rfl,k⟩:=h
  refine⟨_,ae (bd 3 yX.nd (dm ZbbU Zak Zgg Zbx fb Zl7)) (
   #[bY,((OT (bw Ny Zajh T.isinstance PyProof.Rows.boot_isinstance #[dS,ZaM,(Ru (v:=.ty Zf1) Zajh T.str aQ4 rfl),bp]) (Fd (kP bA ZaM ZaD Zfa))))]),?_⟩
  try dsimp only[cxK,cxK']
  obtain⟨e',z',dx,x1,x2,x3,hv,h1⟩:=k.ob;cases hv;refine⟨_,rfl,e,dx,_,rfl,h1,Zup,_,rfl,?_⟩;refine k.imp fun v H1 q=>?_;obtain⟨y,rfl,q⟩:=q;refine⟨_,rfl,_,_,_,Zae,rfl,vi.str _,rfl,_,rfl,aM #[mb,_,rfl,rfl]⟩;rw[#[bh,#[t7,#[dN,y,r],y,r],ZOQ ⟨ZrM,Z6 _⟩]];exact q
def zp (F:#[aq,Zw0,Zw0,ky])[239](c6:#[aEY,ZdX,(sv n)]):#[aUV,sv]:=by
 refine #[amR,iJ]
 ·obtain⟨p,f,rfl,_⟩:=h
  rfl
 ·obtain⟨p,f,rfl,hf,nl,k⟩:=h
  have sl:Za9n:=ZQ
  refine⟨_,ae ZaIT (
   ae #[wa,#[oX,c6,Zwc]] (
   ae (bd 1 iJ.nd Zfl) (
   ae #[DX,#[gt,Zv_],dO ZY rfl ZJP (fG 2 iJ.nd) (af (bd 1 iJ.nd (aI Jr Zao #[oX,c6,Zl9])))] (
   ZIE)))),?_⟩
  try dsimp only[cxK,cxK']
  obtain⟨xs,hp⟩:=hf.hd;refine Zq0
  cases f with
  | name w =>
   rw[DW];obtain⟨e1,wl⟩:=hf;exact #[aZD,#[C8,ZaJR]]
  | pl f =>
   rw[DY];refine Zi';rw[DX];refine Zab5;have s1:=ZxL;refine ZaCD;rw[DZ];exact #[mz,k l _ hl s1 ac]
  | back f =>
   rw[DV];refine Zi';rw[DT];obtain⟨q,e1,e2⟩:=hf;rw[ay.names]at nl k;exact aM ⟨_,rfl,p,_,1,_,rfl,rfl,ZbQ,rfl,q,f,rfl,e2,nl,k⟩
  | row fs =>
   rw[D4];refine Zi';rw[D3];refine ZaPS;have s1:=ZaBI;refine ZaCD;rw[HS];obtain⟨t,as,e1,e2,fl,pr⟩:=hf;have al:=ZgH;rw[ay.names]at nl k;refine aM Zapf
   refine m7 (K:=K) (a:=t) (xs:=ZDH) #[di,∃ (v:Zgi)(l:Addr),σ=[ZfM,Zha,v]/\ZeK/\Zgw/\HK l=Zab #[g5,(ZcZ (ZrS i)).map]]
    #[p3,Zac,l0,s1,hl0,ac] #[RS,ZLz] ?_ ?_
   ·rintro i y σ HK hi ⟨v,l,rfl,s2,hl,hl2⟩
    obtain⟨a,ha,rfl⟩:=ZbI;obtain⟨u,hu,hA⟩:=ZaiJ
    have nt:ZcZ ZZk=ZcZ (ZrS i)++u.names:=by rw[ZH,hu,ZG,ph,ZcZ,ZcZ,aQg]
    have nt2:=GG Zcf fs;have nt3:=#[tI,nt];rw[Zh]at nt3;refine#[sX,a,u,ZA6,Zad,fun l3 H3 hl3 s3 h3=>?_];refine#[aWY,ZaAP,h3,fun l4 h4=>?_];refine⟨_,l4,rfl,#[cq,Zge,s3] (ah h4),#[aDV,0].free h4,?_⟩;rw[ac,nt,Zp]
   rintro σ HK ⟨v,l,rfl,s2,hl,hl2⟩;rw[Y5,al,ZD]at hl2;exact#[bO,k l HK hl s2 hl2]
def sO (F:#[aq,ZP9,ZP9,fk])[47][133][125][152] : #[aON,ZgW,Ze',JM]:=by
 refine #[amR,bX]
 ·obtain⟨t,d,p,w,m,ls,es,bs,tv,f,cn,rfl,_⟩:=h
  rfl
 ·obtain⟨t,d,p,w,m,ls,es,bs,tv,f,cn,rfl,ht,M,td,hf,fl,x5,dW,sp,k⟩:=h
  have hu:=ZbE
  have two:Zo9:=Zaw
  have three:ZYG:=Zaw
  have one1:#[o8,1]:=Zaw
  have sl:Za9n:=ZQ
  refine⟨_,ae #[aZV,fk,lX,ZSf] (
   ae #[sV,3,Zr',fM,#[hT,ZaD]] (
   ae #[oS,#[uU,ZaM]] (
   ae (bd 4 Zr' #[fJ,(bM oW Zajh ZPm aXj Zwc),(bM Iq Zajh ZPm aXj Zwc)]) (
   ae (dO ZY rfl ZIZ #[u9,5,Zr',6,Zr'] (ae #[sV,7,Zr',lC,(uY ZHF ZHF ZaeZ)] (
   ae #[yU,ZaxI,#[mP,ZaxI]] (
   af (bh #[qK,iS,ZHF,ZHF,ZaeZ]))))) (
   ae (dO ZY rfl ZIZ #[u9,5,Zr',6,Zr'] #[jg,#[dd,jv,(eI Zak #[yK,ZaeZ])]]) (
   #[bY,#[aOo,(cE (#[aji,ZqD]))]])))))),?_⟩
  try dsimp only[cxK,cxK']
  refine#[kN,p,f,hf,Zad,fun l5 H1 hl5 s1 hl1=>#[k6,l5,hl1,Zic]];refine lE ZaSK (rs:=f.names) (f:=fun z=>.bl (decide (z∈bs.map (·.w)))) hq hl1 Zah (#[bbV,?_]) (fun H2 s2 hc2=>?_)
  ·refine#[nP,d,(Zr_ (ZgY sK)).get z,?_]
   rw[Il];exact ZO9
  refine⟨q,f.names.map fun z=>decide (z∈bs.map (·.w)),rfl,ZaGN,_,rfl,?_⟩;have s02:=Zhh
  by_cases kn:ZcF
  case neg =>
   rw[show (f.names.map fun z=>decide (z∈bs.map (·.w))).all id=false from ZaRj];have:=k H2 (by unfold dncE;rw[ZaQA];exact ZaDj) #[G1,s02];unfold dncS at this;rw[ZHg]at this;exact ZXq
  rw[ZaCI];have td2:=Zr_ s02;refine #[aZA,td2,s02,fun le l H3 s3 row=>?_,fun lg H3 s3=>?_]
  case refine_2 =>
   have s03:=ZZC;have:=k H3 (by unfold dncE;rw[ZaMh];exact ZaDi) #[G1,s03];unfold dncS at this;rw[Zqx,Zns]at this;exact#[eJ,ZXq]
  have s03:=ZZC;have sp:=sp kn le
  have kD:#[Uc,ZaQe]:=by unfold dncE;rw[ZadN]
  have kS:dncS es bs f=ZaX_:=by unfold dncS;rw[Zqx,Y9 le]
  have pl:ZasN:=#[aE,#[aQW,le],le]
  rw[kD,kS]at k;clear kD kS;generalize ZCM=ps at sp row k pl;have ht3:=s03 _ _ ht;have M3:=ZaDi;have at0:∀ [185],FL [x,y,z] 0=Zab x:=fun {x y z}=>ZbX;have at1:∀ [185],FL [x,y,z] 1=Zab y:=fun {x y z}=>Zz4;have bt0:∀ {x y:V},FL Zza 0=Zab x:=fun {x y}=>ZbX;have bt1:∀ {x y:V},FL Zza 1=Zab y:=fun {x y}=>Zz4;have P5:=ZCV x5.dn x5.nm
  have hfree:qG ((AX (gf es)).map (·.1)):=QL (c:=cn) fun p hp=>by
   obtain⟨h1,h2⟩:=Ox P5.ci P5.al P5.mo p hp;exact⟨#[hY,uz,h1],#[hY,uz,h2]⟩
  refine ZaCt;refine⟨_,rfl,t,_,_,_,rfl,rfl,ZbL ht3,at0,w,_,rfl,M3.hw,fun w2 hw2n=>?_⟩;have g1:=#[gl,.dK (dk Zm4),hw2n];have hw1:#[aT,H3,w2,Zayw,w2,Zayw]:=ac;generalize upd H3 w2 #[bW,Zm4]=H4 at g1 hw1 ⊢;refine⟨_,rfl,t,_,_,_,rfl,rfl,#[fI,g1,ht3],at1,m,_,rfl,g1 _ _ M3.hm,hfree,fun m2 hm2n=>#[pn,fun t9 ht9=>?_]⟩;have g2:=#[gl,.dT (AX (gf es)),hm2n];have g3:=#[gm,ZUn,ht9]
  have wm2:w2≠m2:=fun z=>by rw[<-z,hw1]at hm2n;cases hm2n
  have hT9:#[aT,ZaPo,t9,ZXF,t9,ZXF]:=ac;have hm5:=g3 _ _ (show #[aT,H4,m2,ZWd,m2,ZWd] from ac);have g23:=ZwP g3;have hw5:=g23 _ _ hw1;generalize #[cT,ZaPo,t9,ZUn]=H5 at hT9 hm5 g23 hw5 ⊢;have s05:aD H H5:=ZalI (ZC_ g23);have w2n:#[aZ,w2]:=ZalJ hw2n;have m2n:#[aZ,m2]:=(ZalI g1).free hm2n;have row5:=ZPP (ZC_ g23);clear row hw2n hm2n ht9 g1 g2 g3 g23 hw1 ht3 M3 td2;obtain⟨as,hl5',hp5⟩:=id row5;have asl:=Zt hp5
  have nw:#[aTt,.dK,w2]:=#[aLB,hw5]
  have nmm:#[aTt,.dT,m2]:=#[aLB,hm5]
  have sK:∀ {HH:Hp},(ZaJU)->Zt6:=fun kk b o e=>kk b o ZZK (ao e w2n) (ao e m2n)
  have L15:#[bd,(ZeU 12 cn),15]:=by unfold namesL;rw[Y5,aQl];decide
  refine⟨_,rfl,l,rfl,#[fc,hl5'],cD (K:=K) (a:=l) (xs:=ZDH) #[tO,#[awE,σ=Za1b/\ZVg/\Zau5/\(#[fy,ZDO,ZacV])/\#[eN,w2,#[bW,Zav7]]/\#[eN,m2,#[Uf,ZaH5]]/\ZaJU]]
   ⟨Zac,Zac,Zac,rfl,by simpa using x5.dn,ZaA,by simpa using x5.nm,by simpa using hw5,by simpa using hm5,fun b o e _ _=>e⟩ (fun i σ HH _ ⟨_,_,_,_,_,_,_,_,_,kk⟩=>bN.of (kk _ _ hl5' (nw hl5' (by intro kv z;cases z)) (nmm hl5' (by intro kv z;cases z)))) ?_ ?_⟩
  ·rintro i y σ HH hi ⟨v1,v2,v3,rfl,di,bi,nmi,hwi,hmi,kk⟩
   obtain⟨b,hb,rfl⟩:=ZbI;obtain⟨e,he,hB⟩:=#[aiI,hp5,hb];have hbK:ZaH4:=kk _ _ hB (nw hB (by intro kv z;cases z)) (nmm hB (by intro kv z;cases z));have hT9K:#[eN,t9,ZXF]:=kk _ _ hT9 (nw hT9 (by intro kv z;cases z)) (nmm hT9 (by intro kv z;cases z));have hsm:=Zae3;have ed:=Zafi;rw[<-bi]at ed;have en:=ZKt;have Pi:=ZCV di nmi;have ll:=Oi di nmi L15 (by have:=x5.ln;lia);refine ZKN;refine⟨_,rfl,t9,_,_,_,rfl,rfl,Zaxb,bt0,_,rfl,t9,_,_,_,rfl,rfl,Zaxb,bt1,_,rfl,_,rfl,ZwW,fun tt htt=>?_⟩;have sT:=ZaJ3;have hTT:#[aT,HH,tt,Zafz,tt,Zaea]:=ac;generalize #[afw,HH,tt]=HT at sT hTT ⊢;refine⟨w2,m2,tt,_,_,dZ e,rfl,sT _ _ hwi,sT _ _ hmi,hTT,fun r2 H12 hr2 s12 hrt2=>?_⟩
   have ej:dF Zav7 (uv (gf ZaEk)) (dZ e)=ZaVp:=#[a_,KC,vG Pi.al]
   rw[ej]at hrt2;have k12:#[auw,H12]:=#[bbW,s12 _ _ (sT _ _ (kk b o h1 h2 h3))];have o0:∀ o:Eb,FL (OM o) 0=Zab (ZaJ (Fc o)):=fun o=>aN (j:=0) (Wi o);refine#[i7,r2,_,Zaxc,o0 _];rw[DC]
   by_cases hj:ZJ2
   ·rw[Zdj,Zuw,<-en]at ed
    rw[Zc hj];have hT9L:=s12 _ _ (sT _ _ hT9K);refine ar ⟨_,rfl,t9,_,_,_,rfl,rfl,Zaxd,bt0,_,rfl,t9,_,_,_,rfl,rfl,Zaxd,bt1,_,rfl,_,rfl,ZwW,ZPF⟩;have sT2:=#[auO,ht2];have hTT2:#[aT,H12,t2,Zafz,t2,Zaea]:=ac;generalize #[afw,H12,t2]=HT2 at sT2 hTT2 ⊢;have sS:=Zalt (ZwQ sT2);have pml:=Pi.ml;have pfl:=aQI xf (ZDO);have wll:=ZaOI;refine⟨w2,m2,t2,_,_,dZ e,rfl,sS _ _ hwi,sS _ _ hmi,hTT2,Zad,Zad,ej.trans hj,fun H14 h14w h14m k14=>?_⟩;refine⟨_,_,_,rfl,ZapW,ed,?_,?_,?_,#[bbW,k14 b o (sT2 _ _ (k12 b o h1 h2 h3)) h2 h3]⟩
    ·rw[en]
     intro x hx g hg;rcases ZqH with z | z
     ·exact nmi x z g hg
     ·rw[ZcA]at hg
      obtain⟨q1,q2⟩:=ZK0;simp[dZ,names]at hg;rcases hg with y | y<;>rw[y]
      ·exact Zacy
      ·exact ZacO
    ·rw[h14w,en,sx,Ai]
    ·rw[h14m,en,xv]
   ·rw[ZgE]at ed
    rw[Zb hj]
    have ll:#[Eo,ZOZ,#[aX,Fc,(bf ZDP Zs5)]]:=by
     cases ZaVp with
     | noguest g=>exact ZaWu
     | _=>decide +kernel
    refine #[a1x,r2,Zaxc,o0 _]
    have nb:#[aua,ps]:=#[aE,ed,hj]
    have sF:=sK k12;have:=k H12 (by unfold Iw;rw[Y8 nb];exact ZwZ sF) #[G1,sF];rw[Y8 nb,ed]at this;exact this
  ·rintro σ HH ⟨v1,v2,v3,rfl,di,bi,nmi,hwi,hmi,kk⟩
   rw[Y5,asl,aXf]at bi;have hb:Zqm:=bi;have hl6:=kk _ _ hl5' (nw hl5' (by intro kv z;cases z)) (nmm hl5' (by intro kv z;cases z));have row6:cR HH l ps:=⟨as,hl6,Paired.mapP hp5 fun b e hB=>kk _ _ hB (nw hB (by intro kv z;cases z)) (nmm hB (by intro kv z;cases z))⟩;have sF:=sK kk;clear di bi nmi hwi hmi kk nw nmm sK hT9 hm5 hw5 w2n m2n wm2 row5 hp5 s05;have M6:=ZwZ sF;have ht6:=sF _ _ ht;have x6:=x5.dance sp hb;have lW:=Pl M6 (NF _ x5.ne) row6;obtain⟨as6,hl6,hp6⟩:=id row6;have asl6:=Zt hp6;have mu:=AV M6;have e6:=NP x6;rw[Zh,Y5]at e6
   refine⟨_,rfl,l,rfl,#[fc,hl6],cD (K:=K) (a:=l) (xs:=as6.map Za6) (fun i σ HJ=>#[awE,σ=Za1b/\#[Fz,HJ,ZDP,ZaH5]/\Kp ZmZ HH HJ])
    ⟨v1,v2,v3,rfl,by simpa using M6,ZajS⟩ (fun i σ HJ _ ⟨_,_,_,_,_,kk⟩=>Zbs (kk _ _ hl6 lW)) ?_ ?_⟩
   ·rintro i y σ HJ hi ⟨v1,v2,v3,rfl,MJ,kk⟩
    obtain⟨b,hb',rfl⟩:=ZbI;obtain⟨e,he,hB⟩:=#[aiI,hp6,hb'];have il:=ZYB;have hbK:HJ b=Zab Zat':=kk _ _ hB #[Tj,hB];have htJ:HJ t=Zab ZTu:=kk _ _ ht6 #[Tj,ht6];have en:=ZKt;refine ZKN;refine⟨_,rfl,_,rfl,_,rfl,ZwW,fun tt htt=>⟨one1,ZW1⟩⟩;have sT:=ZaJ3;have hTT:#[aT,HJ,tt,Zafz,tt,Zaea]:=ac;generalize #[afw,HJ,tt]=HT at sT hTT hl1 ⊢;have s2:=#[ms,ZaCN,hl1];have h2:#[aT,HT,l1,ZaGe,l1,ZaGe]:=ac;have sT2:=Zalt s2;have l10:=sT.free hl1;generalize #[p6,HT,l1,ZaCN]=HT2 at s2 h2 sT2 ⊢
    have lls:l1≠ls:=by
     obtain⟨bs',hs,_⟩:=MJ.hs
     exact fun z=>by rw[z,hs]at l10;cases l10
    have dnA:=x6.dn
    have e1:#[J5,0].take (Zdm+Zcf)=ZA0:=by
     rw[List.take_append,aQm Zti,#[fN,Zdm+Zcf,Zdm,i+1],List.map_take]
    have dn1:cz (ZA0):=#[aS_,dnA]
    have nm1:#[fy,ZA0,ZacV]:=#[f8,x6.nm x (by rw[<-e1]at hx;exact aXD hx)];refine⟨t,l1,w,m,ls,ZEw,_,[dZ e],Zp',rfl,sT2 _ _ htJ,MJ.on sT2,⟨[tt],h2,ZaC #[kD,hTT] Zan⟩,lls,#[c_,en,dn1],Zad,#[c_,en,nm1],?_,fun H3' M3' k3=>?_⟩
    ·rw[<-en,Zh,Y5,ZL];lia
    ·exact⟨_,_,_,rfl,#[apV,M3'],#[alT,k3 b o (sT2 _ _ (kk b o e' n)) Zan' Zan' Zan']⟩
   ·rintro σ HJ ⟨v1,v2,v3,rfl,MJ,kk⟩
    rw[Y5,asl6,ZD]at MJ
    have nl:#[Eo,Zal7,ZaCc]:=by
     have e:#[hM,Zal7,7]:=Zal
     have:ZaCc<=Zwn:=KW (#[bh,bK ZasI,Zt_])
     lia
    refine#[tA,l,_,#[h4,(kk _ _ hl6 lW)],Zap ⟨_,rfl,?_,_,_,rfl,rfl,?_,?_⟩]
    ·rw[Y5,asl6];exact Zt_
    ·rw[Y5,asl6];exact nl
    ·have:=k HJ (by unfold Iw;rw[ZjB];exact MJ) #[FU,kk b o #[fR,sF] n]
     rw[ZjB]at this;rw[Y5,asl6];exact this
def uH (F:#[aq,ZP_,ZP_,f7])[47] : #[aON,Ze',Zr4,JR]:=by
 refine #[amR,uP]
 ·obtain⟨d,p,bs,tv,w,f,rfl,_⟩:=h
  rfl
 ·obtain⟨d,p,bs,tv,w,f,rfl,td,hf,fl,wok,bl,k1,k2⟩:=h
  have hu:=ZbE;have sl:Za9n:=ZQ
  refine⟨_,ae #[oS,(ax lI Zao ZaUB rfl)] (
   ae #[oS,(gu (rj hu Zao Zak))] (
   ae #[aZV,f7,ng,Zaba] (
   ae (iH hu Zak Zao #[dd,fM,(eI ZaD Zak)] rfl) (
   Zxp)))),?_⟩
  try dsimp only[cxK,cxK']
  refine#[g7,Zaa6,fun l1 h1=>⟨l1,ZQo,rfl,ZZO,rfl,Di _,_,rfl,?_⟩];have t1:=ZaP0;have e1:Zbas=ZaIS:=rfl;rw[#[af0,ZaRa,ZaRa,ZJM,vD w kK]];generalize ZaIS=H1 at t1 e1 ⊢
  try rw[e1]
  clear e1;unfold defO at k1 k2
  by_cases hw:ZJM
  ·rw[Zc hw]
   rw[Y9 ((SY wok).mpr hw)]at k1;exact aM (k1 (fun z=>nomatch z) H1 t1)
  have nm:Zhg:=by
   cases e:gI w with
   | true=>rfl
   | false=>exact #[oG,(SY wok).mp,e,hw]
  rw[Zb hw];rw[ZaIh]at k1 k2;refine ar #[LE,d,(Zr_ t1).get w];rw[Il]
  by_cases hm:w∈bs.map (·.w)
  ·rw[Zt2]at k1
   rw[Zc hm];exact aM (k1 (fun z=>nomatch z) H1 t1)
  rw[Zk3]at k1 k2;rw[Zb hm];refine ar #[kN,p,f,ZDj (#[jS,t1]),Zad,fun l5 H2 hl5 s2 hl2=>#[k6,l5,hl2,Zic]];refine lE ZaSK (rs:=f.names) (f:=fun z=>.bl (decide (z∈bs.map (·.w)))) hq hl2 Zah (#[bbV,?_]) (fun H3 s3 hc3=>?_)
  ·refine#[nP,d,(Zr_ (ZwC (Zge sK))).get z,?_]
   rw[Il];exact ZO9
  refine⟨q,f.names.map fun z=>decide (z∈bs.map (·.w)),rfl,#[Vh,hc3],_,rfl,?_⟩;have s03:=#[Gz,ZwC]
  by_cases kn:ZcF
  case neg =>
   rw[show (f.names.map fun z=>decide (z∈bs.map (·.w))).all id=false from ZaRj];rw[ZHg]at k1;exact aM (k1 (fun z=>nomatch z) H3 s03)
  rw[ZaCI];rw[Zqx]at k2;have td3:=Zr_ s03
  have put:#[bbX,ZaGs->lN H7 d ZjC v ZaeS]:=fun v H7 s7=>by
   have q:=#[Lq,v,(s7 _ _ td3.h)]
   rwa [oB _ (#[cE,jq,jc.mpr hm])]at q
  have fin:#[bbX,ZaGs->((ZDe->∃ l,v=Zk2/\cR H7 l ZCL)/\(ZDf->v=ZaH))->Q ZayB ZaeS]:=fun v H7 s7 r=>by
   have h7:=s7 _ _ td3.h;have nd7:ND H7 ZaeS:=EN h7;refine k2 rfl ⟨w,f,ZDd,ZCM,p,0⟩ _ _ rfl rfl Zui ((td3.mono s7).snoc nd7 (x:=⟨w,f,ZDd,ZCM,p,0⟩) (v:=v) hm #[tN,ac] #[fd,Zzw,r]) ZaEC
   ·obtain⟨l,e1,e2⟩:=r.1 h
    exact⟨l,e1,e2.nd nd7,#[aQW,h]⟩
   ·rw[Zaep]
    exact s7 _ _ #[fR,s03]
  refine #[aZA,td3,s03,fun le l H4 s4 row=>?_,fun lg H4 s4=>?_]
  ·exact#[nP,d,put #[aj,l] H4 s4,fin Zeh H4 s4 ⟨#[bf,#[ib,l,row]],ZGN⟩]
  ·exact#[nP,d,put ZaH H4 s4,fin ZaH H4 s4 ⟨ZGN,Zm3⟩]
def xK (F:#[aq,ZP',ZP',jI])(tX:#[bb,ZPW,3,[ZbS],SU]) : #[bi,4,ZaBL,Ls]:=by
 refine #[amR,oG]
 ·obtain⟨c,d,bs,tv,rfl,_⟩:=h
  rfl
 ·obtain⟨c,d,bs,tv,rfl,c0,td,b5,bl,k⟩:=h
  have hu:=ZbE;have sl:Za9n:=ZQ
  refine⟨_,ae (bd 2 oG.nd (aI Jr ZaUB (ZaWW))) (
   ae #[oQ,#[U_,Zak],#[aVS,ZaAC]] (
   #[bY,#[dd,tX,Zl8]])),?_⟩
  try dsimp only[cxK,cxK']
  refine⟨Zaa6,fun l1 h1=>?_⟩;have t1:=ZaP0;have m1:#[d1,l1,Zbar,l1,ZasX]:=ac;have t1:aD H #[bt,l1,Zbar]:=t1;generalize Zbas=H1 at t1 m1 ⊢;refine⟨_,rfl,d,_,bs.map (·.w),rfl,t1 _ _ td.h,ZaCP,#[Pz,?_]⟩;have t2:=ah (o:=Zbw ((bs.map (·.w)).map V.str)) h2;refine⟨l1,l2,_,_,rfl,rfl,t2 _ _ m1,ac,?_,fun l3 h3=>?_⟩
  ·rw[Y5,Y5,Y5];show 6+_<=_;lia
  have s3:=#[cq,ZwC,t2] (ah (o:=Zbw (ZQo++(bs.map (·.w)).map V.str)) h3)
  have m3:upd (upd H1 l2 (Zbw ((bs.map (·.w)).map V.str))) l3 (Zbw (ZQo++(bs.map (·.w)).map V.str)) l3=some (Zbw ((kK++bs.map (·.w)).map V.str)):=#[a_,ac,Zp]
  generalize upd (upd H1 l2 (Zbw ((bs.map (·.w)).map V.str))) l3 (Zbw (ZQo++(bs.map (·.w)).map V.str))=H3 at s3 m3 ⊢;refine ZTp
  ·have lp:0<(kK++bs.map (·.w)).length:=#[alK,Zh,0<6+_]
   refine⟨_,rfl,_,rfl,_,_,rfl,rfl,ZbR,_,rfl,l3,_,rfl,#[h4,m3],_,_,rfl,rfl,Zg',?_⟩;rw[Y5];have i0:=aQc (c/3) (show (((kK++bs.map (·.w)).length:Nat):Int)≠0 by lia);have i1:=Z5 (c/3) (show ZdO<(((kK++bs.map (·.w)).length:Nat):Int) by lia);obtain⟨j,hj⟩:=Zabx
   have jl:j<(kK++bs.map (·.w)).length:=Zad
   refine⟨l3,_,_,Zaf (kK++bs.map (·.w))[j],rfl,rfl,Zbs m3,ZaS5,?_⟩;refine k _ H3 ?_ s3;rcases Zex (ZOL jl) with z | z
   ·exact Zam z
   ·obtain⟨e,he,q⟩:=ZG8
    exact #[fP,Zap,q,ZaD7]
  ·exact#[eJ,fun w H4 nm s4=>k w H4 (Zap nm) ZacB]
def zo (F:#[aq,ZQa,ZQa,kr])[94][145][124](oN:#[bb,ZP3,5,[ZC3,ZbS,Zr5],Fz])(dz:#[aEZ,10,(B3 9)])(iK:#[aOz,ZP9,ZgW,Ze',JM])(j5:#[bb,ZP',4,ZaBL,Ls])(iZ:#[aOz,ZP_,Ze',Zr4,JR]) : #[bi,15,Zagh,(FB K)]:=by
 refine #[amR,cO]
 ·obtain⟨t,d,a,w,m,ls,ns,k,cn,es,bs,tv,rfl,_⟩:=h
  rfl
 ·obtain⟨t,d,a,w,m,ls,ns,k,cn,es,bs,tv,rfl,ht,M,td,hS,x5,b5,bl,dW,hk,k1,k2,k3,k4,k5⟩:=h
  have hu:=ZbE;have sl:Za9n:=ZQ
  refine⟨_,ae #[Qc,5,fO,(cE #[dd,dP,(eI ZaD ZaM)])] (
   ae #[Qc,6,iT,(uY #[dd,dP,(eI ZaD (aI dH ZaM (aj)))] Zdw (aj))] (
   ae (bd 7 ZQb (ZaWW)) (
   ae #[i4,ZaGC,#[uE,Zte,(cE (ak))]] (
   ae #[Qc,8,oN,(uY Zjr Zc8 Zte)] (
   ae #[Qc,9,dz,#[l6,8]] (
   ae (bd 10 ZQb (kP bA ZaCa (aj) Zfa)) (
   ae #[zQ,Zat1,(bd 9 ZQb (aJ jL (c5 #[dS,ZaDb,ZaaD,#[auP,ZaDb]]) ZaCa Zv5))] (
   ae (aK ZaGC (ae #[aMn,ZaaD] (
   #[jI,ZaaD,#[qK,iK,Zak,Zao,ZG4]])) Zqr) (
   ae #[Qc,11,j5,#[hT,#[sm,Zfg]]] (
   ae #[aMn,ZaRZ] (
   #[jI,ZaRZ,#[qK,iZ,Zao,(pv 11),ZG4]]))))))))))),?_⟩
  try dsimp only[cxK,cxK']
  refine⟨_,rfl,_,rfl,a,ns,k,rfl,hS,Zad,_,rfl,?_⟩;have q0:0<=ZaXT:=Qt _;generalize ZaXT=kd at q0 ⊢;refine⟨_,rfl,_,rfl,_,_,rfl,rfl,a,ns,_,rfl,hS,Zad,_,9,219600,rfl,ZbR,ZbR,fun l1 ds hl1 dps dln=>?_⟩;have s1:=#[Ei,Zok,hl1];have m1:#[d1,l1,Zol,l1,Zol]:=ac;generalize upd H l1 Zol=H1 at s1 m1 ⊢;refine⟨_,rfl,d,_,bs.map (·.w),rfl,s1 _ _ td.h,ZaCP,#[al5,?_]⟩;have s2:=s1.trans (ah (o:=Zbw ((bs.map (·.w)).map V.str)) hl2);have l2n:=ZrX hl2;have m12:=ah (o:=Zbw ((bs.map (·.w)).map V.str)) hl2 _ _ m1;have m2:upd H1 l2 (Zbw ((bs.map (·.w)).map V.str)) l2=some (Zbw ((bs.map (·.w)).map V.str)):=ac
  have l12:l1≠l2:=fun z=>by rw[<-z,m1]at hl2;cases hl2
  generalize upd H1 l2 (Zbw ((bs.map (·.w)).map V.str))=H2 at s2 m12 m2 ⊢
  have bnm:∀ z∈bs.map (·.w),gI z=Zae:=fun z hz=>by
   obtain⟨e,he,rfl⟩:=ZdI hz;exact ZaD7
  apply #[q4,∃ ws:Zbo,σ=[ZF2,Zx5,ZS3,#[c4,k],Zapa,#[c4,kd],#[bz,l1],#[bz,l2],Zac,Zac,Zac,Zac]/\Zt6/\#[eN,l1,Zol]/\#[eN,l2,ZtD]/\(∀ z∈ws,gI z=Zae)/\Zj0<=60]
  ·intro rest
   refine ZTp
   ·refine⟨_,rfl,#[se,m2],l2,_,_,rfl,rfl,m2,ZVc,?_⟩
    refine rest _ _ ⟨bs.map (·.w)++[#[ez,"lostlost"]],rfl,cw s2 l2n,#[ch,l12,m12],ZxF,fun z hz=>?_,by rw[Zh,Y5];show _+1<=_;lia⟩;rcases Zex hz with y | y
    ·exact bnm z y
    ·rw[Zcz y];decide +kernel
   ·exact rest _ _ ⟨bs.map (·.w),rfl,s2,m12,m2,bnm,Zg'⟩
  rintro σ H3 ⟨ws,rfl,s3,m13,m23,wnm,wl⟩;clear s1 m1 s2 m12 m2 hl1 hl2 l2n bnm;refine⟨_,rfl,_,rfl,_,rfl,l1,l2,cn,ds,ws,rfl,m13,#[f8,(dps x hx).1],Zad,m23,wnm,Zad,fun p f H4 s4 hf nl g tl=>?_⟩;have s04:=ZDr s4;refine⟨_,rfl,p,f,rfl,hf.up,g.up,Zad,fun H5 s5=>?_⟩;have s05:=ZaHF;have hf5:bR 9 H5 p f:=hf.up.mono #[jS,s5];clear m13 m23 s3 s4 s5 hf wnm wl;have M5:=ZwZ s05;have td5:=Zr_ s05;have ht5:=s05 _ _ ht;have smf:ZaqZ:=ZavK
  have two:Zo9:=Zaw
  have dl:#[hM,ZCU,6]:=Zal
  have nl5:#[hM,ZPa,5]:=Zal
  have bl1:ZabI:=Zal
  have tl5:ZaUv:=#[aE,ic,tl]
  refine#[agd,_,rfl,ZbR,Zaw];generalize #[lx,#[at0,kd/7%5]]=spo
  cases spo with
  | true =>
   have r1:ZaD8:=Zal
   refine#[eJ,aM ⟨_,rfl,_,_,rfl,rfl,Zad,_,rfl,_,_,rfl,rfl,Zad,_,rfl,_,_,rfl,rfl,Zad,Zaa6,ZWZ⟩];have s6:=#[Gk,(PM f).map,hlq];have m6:#[aT,H5,lq,ZV0,lq,ZV0]:=ac
   show _
   refine#[LQ,ZbR,Zaw];have i0:=#[aUU,aQc,(6:Int)≠0];have i1:=#[aUU,Z5,ZdO<6];obtain⟨j,hj⟩:=Zabx
   have jl:j<#[aX,PM,f]:=#[gd,j<6]
   obtain⟨zln,zrd⟩:=UX g tl _ (ZOL jl);refine⟨lq,(PM f).map ZaJ,_,Zaf ZaLC,rfl,rfl,Zbs m6,ZaS5,?_⟩;generalize ZaLC=z at zln zrd;have zl:=zln.ln;have s06:aD H ZaQy:=ZalL s6;have td6:iX ZaQy d bs tv:=ZbbY s6;refine ZTp
   ·refine#[eJ,#[anc,Zad,two,Ztd]]
    exact k1 z r _ zln zrd (ZbbZ (ah hr)) ac
   ·refine⟨_,rfl,_,_,rfl,rfl,ZbR,_,rfl,_,d,bs,tv,rfl,ZaNu,td6,b5,bl,#[bb0,?_]⟩
    have wl:=ZaJd;refine#[eJ,aM ⟨_,rfl,_,_,rfl,rfl,Zad,_,_,rfl,rfl,#[gN,fS],_,rfl,_,_,rfl,rfl,ZaEI,two,Ztd⟩];exact k3 wd z r _ wok zln zrd (#[cq,ZbbZ,s7] (ah hr)) ac
  | false =>
   refine ZaCt;refine ZTp
   ·refine#[m_,⟨_,rfl,_,_,rfl,rfl,Zad,_,rfl,_,rfl,_,rfl,t,d,p,w,m,ls,es,bs,tv,f,cn,rfl,ht5,M5,td5,hf5,nl,x5,dW,smf,fun H6 M6 k6=>ZZx⟩]
    have s7:=#[gm,[Zaf Zafm,Zaw8],hr];exact k2 f r _ g tl (M6.on s7) #[FU,s7 _ _ (k6 b o ZZK n)] ac
   ·refine⟨_,rfl,_,_,rfl,rfl,ZbR,_,rfl,_,d,bs,tv,rfl,ZaNu,td5,b5,bl,#[bb0,?_]⟩
    have wl:=ZaJd;refine#[m_,⟨_,rfl,_,_,rfl,rfl,Zad,_,_,rfl,rfl,#[gN,fS],_,rfl,_,_,rfl,rfl,ZaEI,_,rfl,_,rfl,_,rfl,d,p,bs,tv,wd,f,rfl,ZbbY s7,hf5.mono (#[jS,s7]),nl,wok,bl,fun nd H8 s8=>ZZx,fun hd x tv' H8 xw xn xr td8 k8=>ZZx⟩]
    ·exact k4 wd f r _ wok g tl nd (#[cq,#[cq,ZalL,s7],s8] (ah hr)) ac
    ·have s9:=#[gm,[Zacm,Zaf ZiU],hr]
     exact k5 wd f x tv' r _ wok g tl hd xw xn xr (td8.mono s9) #[FU,s9 _ _ (k8 b o (s7 _ _ ZZK) n)] ac
def UB (F:#[aq,ZQd,ZQd,JT])(ME:Tj P w K mg ZaO c ck ze cb)[145](qh:#[bb,ZPU,3,Zaau,Lk])(eR:#[bb,ZP8,42,[ZPk,ZC4,Zr6],ZaHC])(iY:#[bb,ZP6,4,ZaFJ,Ww])(lJ:#[bb,ZQa,15,Zagh,(FB K)])(jw:#[bb,ZP7,4,[Zec],yY]) : #[bi,43,[Zi3],ZaNV]:=by
 refine #[amR,l8]
 ·obtain⟨a,ns,rfl,_⟩:=h
  rfl
 ·obtain⟨a,ns,rfl,hS,hlen,hP,k⟩:=h
  have hu:=ZbE
  have two:Zo9:=Zaw
  have three:ZYG:=Zaw
  have nil0:ZH6:=Zce;have sl:Za9n:=ZQ;have tI:Zoo H P0 aL aG:=Zam hP
  refine⟨_,ae (bd 1 Zkm ZaYB) (
   ae (bd 2 Zkm (bc #[dS,gJ,OZ,(az (c5 bp) bp)])) (
   ae (bd 3 Zkm gJ) (
   ae (bd 4 Zkm ZaMV) (
   ae #[le,(ca #[oX,qh,(eI (aI uJ Zdw #[sk,ZaMV]) Zc8)]),5,Zkm,(af #[oQ,#[nd,#[oX,eR,(uY Zao #[aOo,Zt9] #[oX,iY,(eI ZaD #[mA,Zfg])])]],(tQ)])] (
   ae (dO ZY rfl (MO Zajh ZDs (uY Zdw #[ajj,Db,T.bmin,ZbbQ,(eI Zajq Zdw)] (aj))) (fG 6 Zkm) (ae #[qZ,#[oX,lJ,#[dS,ZaD,ZaM,#[dS,Zak,Zjr,#[nc,Zc8]]]],7,Zkm,8,Zkm] (
   ae #[oQ,#[nd,#[oX,eR,(uY Zao Zte ZG4)]],(tQ)] (
   af #[oQ,#[nd,#[oX,eR,(uY Zao Zba #[oX,jw,(cE Zv9)])]],(tQ)])))) (
   ae (bd 9 Zkm ZaYB) (
   ae #[le,(RA (pv 3)),10,Zkm,(af #[oQ,#[nd,#[oX,eR,(uY Zx4 #[mP,(pv 10)] (ak))]],(tQ)])] (
   ae #[IT,#[nd,#[oX,eR,(uY Zx4 Zba (ak))]],(BD (iA (gL Zaev))),(tQ)] (
   #[bY,((OT Zaev (Fd Zaev)))]))))))))),?_⟩
  try dsimp only[cxK,cxK']
  intro e1 dx1 ne1 ndx1 nex1;refine#[ci,e1,dx1,ac,fun A1 D1 B1 Y1 G1 X1 K1 kp1 fr1 fy1=>ZqG]
  have s0:aD H #[h_,dx1,(Ziz e1),e1,(Zfo ze dx1 [])]:=#[aff,ne1,ndx1]
  have s1:aD H G1:=#[aen,kp1,ne1];have fB:∀ b∈B1.fp,Za9:=#[aKK,fr1];have fY:#[afN,Za9/\b∉B1.fp]:=#[SS,ZDo #[kt,fy1],fy1];clear kp1 fr1 fy1 s0;intro w1 hw1 m1 hm1;refine#[Uw,fun l1 hl1=>⟨ZwW,ZW0⟩];obtain⟨s2,M1,f1⟩:=My hw1 hm1 hl1 ht1;have T1:#[aT,Za07,t1,ZaVa,t1,ZaVa]:=ac;generalize #[cT,Za07,t1,#[kF,w1,m1,Zai l1]]=G2 at s2 M1 T1 ⊢;intro d hd;have s3:=#[uX,hd];have td3:iX (upd G2 d Zc5) d [] ZHX:=⟨ac,fun e he=>nomatch he⟩;generalize upd G2 d (.dK [])=G3 at s3 td3 ⊢;have s03:=ZaFo;have dn0:#[aZ,d]:=ZWV hd
  have trY:#[afN,∃ o,#[bc,G1]]:=fun b hb=>by
   simp only[Zi,ZX,aQv]at hb;rcases hb with rfl | rfl | rfl
   ·exact#[aR,K1.f1]
   ·exact#[aR,K1.f2]
   ·exact#[aR,K1.f3]
  have dY:#[afN,d≠b]:=fun b hb z=>by
   obtain⟨o,q⟩:=ZaAk;rw[<-z]at q;rw[s2 _ _ q]at hd;cases hd
  have X3:mG c ck ze cb P0 aL aG H G3 ZLS B1 [] [] Y1 d [] [] ZHX:=by
   refine⟨#[Gz,X1.mono],#[gC,T1],M1.on s3,#[Gz,K1.mono],td3,Zr8 s03,#[alU,?_],Zdx,⟨Zabf,Zabf,Zabf⟩,#[gc,ZMl #[bZ,#[oF,z]] (ZWw)],df s03,#[cX,VS ?_]⟩
   ·obtain⟨o,q⟩:=Zbb1 z
    rw[f1 b hb]at q;cases q
   ·by_cases z:b=d
    ·subst z
     refine⟨Zzt,Zzt⟩
     ·obtain⟨o,q⟩:=Zbb1 y
      rw[s2 _ _ q]at hd;cases hd
     ·obtain⟨o,q⟩:=(AV M1 b y).some
      rw[q]at hd;cases hd
    ·have hb:b∈[Y1.d1,Y1.d2,Y1.d3]:=by
      simp only[Zi,ZX,aQv]at hb ⊢;rcases hb with y | y | y | y
      ·exact Zam y
      ·exact #[mT,y]
      ·exact #[nx,y]
      ·exact #[oE,y,z]
     refine⟨#[c',fY].2,Zzt⟩;obtain⟨o,q⟩:=ZaAk;rw[f1 b y]at q;cases q
   ·rcases hb with z | z | z
    ·exact fB b z
    ·exact ZrX (f1 b z)
    ·by_cases y:b=d
     ·rw[y];exact dn0
     ·refine (fY b ?_).1
      simp only[Zi,ZX,aQv]at z ⊢;rcases z with y' | y' | y' | y'
      ·exact Zam y'
      ·exact #[mT,y']
      ·exact #[nx,y']
      ·exact #[oE,y',y]
  clear X1 K1 fB fY s1 s2 M1 f1 T1 hw1 hm1 hl1 ht1 hd s3 td3 trY dY ne1 ndx1 nex1;have hS3:=s03.seq hS;refine⟨_,rfl,a,ns,1,rfl,hS3,Zaw,?_⟩;generalize lS ns 1=cn;have c0:0<=Zzl:=ZTS;have c3:Zzl<3:=ZTT;refine⟨_,rfl,a,ns,0,rfl,hS3,Zaw,_,_,rfl,rfl,Zaw,_,_,rfl,rfl,_,rfl,_,cn,rfl,ZIQ,fun lq G4 hlq s4 hq4=>?_⟩
  have smm:ZaPh<=12/\0<ZaPh/\12-Zzl<=12:=Zad
  clear c0 c3;generalize 12-Zzl=mm at smm hq4 ⊢;have lqn:#[aZ,lq]:=ZalJ hlq;have X4:=X3.lock hlq s4 hq4
  have qlen:#[aW,(ZeU mm cn)]=mm.toNat:=by unfold namesL;rw[Y5,aQl]
  clear X3 hlq s4
  refine⟨lq,rfl,ZazL,cD (K:=K) (a:=lq) (xs:=(ZeU mm cn).map Zar) #[tO,∃ (B:HA)(es:Zcv)(v5:Zgi),σ=#[asc,Zac,Zac,Zac,Zac,Zac]/\mG c ck ze cb P0 aL aG #[bt,lq,#[hD,(ZeU mm cn).map]] HH ZLS B es es Y1 d [] [] ZHX/\ZnH/\(∀ x∈es,ZacV)/\Zdm<=i/\(0<i->Ztm)]
   ⟨B1,[],none,rfl,X4,F3,(fun x hx=>nomatch hx),ZaN,#[aF,#[uf,z]]⟩ (#[alM,#[Gv,X],Zbs (X.g0.lst ac)]) ?_ ?_⟩
  ·rintro i y σ HH hi ⟨B,es,v5,rfl,X,dn,nm,le,_⟩
   obtain⟨g,hg,rfl⟩:=ZbI;have hil:=Zz9;have gm:g∈Zp':=#[el,uz,(Zy hg)];have gg:ZmO:=Mx gm;have sg:=IG gg
   have hn:#[fy,ZlJ (Zhz g),x∈Zp'/\bK x]:=#[f8,by rw[ZayJ];exact⟨gm,sg⟩]
   obtain⟨dn',nm'⟩:=Oz dn nm hn
   have gl:#[Eo,Zal8,#[pZ,g]]:=by
    have:=QP gg;rw[#[pN,ZakQ,6]]at this;rw[#[pN,Zal8,5]]
    lia
   refine#[eJ,Zap ⟨g,rfl,sg,_,_,rfl,rfl,gl,_,rfl,_,rfl,two,ZCA⟩];have sT:=#[h7,Zy'];have hT:#[aT,HH,t,Zaxy,t,(iU (Zhz g))]:=ac;generalize #[cT,HH,t,Zy']=HT at sT hT ⊢;have X:=ZQe sT;refine⟨t1,t,w1,m1,l1,ZEw,es,ZhA,Zp',rfl,X.tt,X.md,hT,dn,#[hY,ZV,Zatr],Zf9,Zad,fun J1 M1 k1=>?_⟩
   ·rcases ZqH with z | z
    ·exact nm x z
    ·rw[ZcA];exact hn
   have X:=X.law M1 (#[wr,k1 b o e Zan' Zan' Zan']) (ZWC);exact JF X dn nm Zah gg fun B' H' X'=>#[bO,ar ⟨B',_,_,rfl,X',dn',nm',#[el,ZV,(Mz es _)],ZWC⟩]
  rintro σ HH ⟨B,es,v5,rfl,X,dn,nm,le,ne⟩;rw[Y5,qlen]at le ne;have e5:ZnO:=⟨dn,nm,Zad,ne smm.2.1⟩;have X:=X.weak (ah lqn);clear dn nm le ne X4 hq4 lqn smm qlen;refine⟨_,rfl,a,_,rfl,Zam (Zbb2 hS),_,_,rfl,_,_,rfl,?_,?_⟩
  ·rw[Y5];split<;>refine⟨Zaw,Zaw,Zad,Zad⟩
  generalize er:(ZCI 2 _ 2).toNat=n;rw[Y5]at er
  have nb:n<=16/\∀ i,i<n->ZLs<Zfn:=by
   rw[nJ]at er;split at er
   ·split at er<;>(constructor;lia;intro i hi;lia)
   ·constructor;lia;intro i hi;lia
  clear er
  refine IC #[di,∃ (B:HA)(es:Zcv)(bs:Zcu)(tv:ZeQ)(v5 v6 v7 v8:Zgi),#[asd,v6,Zac,Zac,mG c ck ze cb P0 aL aG H HK ZLS B es es Y1 d bs bs tv,ZnO/\ZuO/\Zru<=i]]
   ⟨B,es,[],ZHX,v5,none,none,none,rfl,X,e5,⟨(fun e he=>nomatch he),fun e he=>nomatch he⟩,ZaN⟩ ?_ ?_
  ·rintro i σ H2 hi ⟨B,es,bs,tv,v5,v6,v7,v8,rfl,X,e5,b5,bl⟩
   have ki:=nb.2 i hi
   have hk:(2:Int)+ZsZ*2=#[a3,ZLs]:=Zad
   have i16:i<16:=Zad
   rw[hk]
   apply #[q4,∃ (B:HA)(es:Zcv)(bs:Zcu)(tv:ZeQ)(v7 v8:Zgi),#[asd,#[c4,#[a3,ZLs]],Zac,Zac,mG c ck ze cb P0 aL aG H HH ZLS B es es Y1 d bs bs tv,ZnO/\ZuO/\#[Rq,i+1]]]
   ·intro rest
    refine⟨_,rfl,_,rfl,_,rfl,_,rfl,_,rfl,t1,d,a,w1,m1,l1,ns,ZLs,cn,es,bs,tv,rfl,X.tt,X.md,X.td,Zbb2 hS,e5,b5,Zad,(X.yB d Za7).2,Zad,fun z r H3 ln rd s3 hr=>?_,fun f r H3 g tl M3 k3 hr=>?_,fun wd z r H3 wok ln rd s3 hr=>?_,fun wd f r H3 wok g tl nd s3 hr=>?_,fun wd f x tv' r H3 wok g tl hd xw xn xr td3 k3 hr=>?_⟩
    ·have X:=ZQf
     refine ZBg;exact yW X.ev X.bk X.ta ln rd rfl Zagr
    ·have e6:=e5.dnc (f:=f) (bs:=bs) ZavK
     have X:=X.law M3 k3 #[bf,e6.ne];refine ZBg;exact Ho X rfl e5 b5 g tl fun B' H4 X'=>#[bO,#[pS,⟨B',_,bs,tv,_,_,rfl,X',e6,b5,Zad⟩]]
    ·have X:=ZQf
     refine ZBg;exact pD X.ev.ob X.bk Zah X.ta wok ln rd rfl Zagr
    ·have X:=ZQf
     refine ZBg;exact Hq X nd wok Zah g tl Zagr
    ·have X:=X.told td3 k3 ⟨e5.ne,e5.ne⟩
     refine ZBg;exact JG X hd xw xn xr wok Zah g tl fun y' H4 yw yn yr X'=>#[bO,#[pS,⟨B,es,bs++[y'],tv',_,_,rfl,X',e5,b5.snoc #[bj,yw,TC hd] (#[gc,#[aE,yr h,wZ b5.sm 8 f g Zah]]),ZuT⟩]]
   rintro σ HH ⟨B,es,bs,tv,v7,v8,rfl,X,e5,b5,bl⟩;have p:=ZCV e5.dn e5.nm;have pl:=Zaes;have l12:=Qn cn;refine⟨_,rfl,_,rfl,t1,_,_,_,rfl,rfl,ZbL X.tt,ZbX,w1,_,rfl,X.md.hw,Zad,wq ZwI,#[afg,l12.2],fun H3 s3=>?_⟩;have X:=ZQf;exact Hr X e5 fun H4 s4=>#[bO,ar ⟨B,es,bs,tv,_,_,_,_,rfl,ZQe s4,e5,b5,bl⟩]
  rintro σ H2 ⟨B,es,bs,tv,v5,v6,v7,v8,rfl,X,e5,b5,bl⟩;intro e2 dx2 ne2 ndx2 nex2;refine#[ci,e2,dx2,ac,fun A2 D2 B2 Y2 G5 X2 K2 kp2 fr2 fy2=>ZqG]
  have s0:aD H2 (upd #[g3,dx2,(Ziz e2)] e2 (Zfo ze dx2 [])):=#[aff,ne2,ndx2]
  have s5:aD H2 G5:=#[aen,kp2,ne2]
  have dB:d∉B2.fp:=fun z=>by have:=ZDo (fr2 d z);rw[X.td.h]at this;cases this
  have dY2:#[gK,[Y2.d1,Y2.d2,Y2.d3],b∉[d]]:=fun b hb z=>by have:=ZDo #[kt,fy2];rw[ZcA,X.td.h]at this;cases this
  have X:=ZQe s5;clear kp2 fr2 fy2 s0 s5 ne2 ndx2 nex2;have yd:=X.yB d (ZaA);have td:=X.td.h;have n1:∀ [45],d≠b->b∉[d]:=fun n z=>#[VK,n];refine#[tA,d,_,td,fun o=>?_]
  have mu:J6 G5 [d]:=#[aPf,td]
  have k6:Kp [d] G5 (upd G5 d ZKI):=fun b o' e n=>#[tb,Zaep]
  have ev1:=#[alV,X.ev.kp,k6,#[Kw,yd.1]];have bk1:=X.bk.kp k6 mu ⟨n1 X.dY.1,n1 X.dY.2.1,n1 X.dY.2.2⟩ #[bat,qP td r (Zcz z)];have ta6:=AK X.ta k6 mu;have ev2:=#[alV,X2.kp,k6,#[Kw,dB]];have bk2:=K2.kp k6 mu ⟨Zabg,Zabg,Zabg⟩ ZWw;have hd6:#[aT,G5,d,ZKI,d,ZKI]:=ac;generalize upd G5 d ZKI=G6 at k6 ev1 bk1 ta6 ev2 bk2 hd6 ⊢;clear X X2 K2 k6 mu td
  refine NU (d:=d) (o:=o) (kvs:=Zj5 #[cj,ZEO]) #[di,∃ v10:Zgi,#[asd,v6,#[bz,e2],v10,GK G6 HK,Zoo HK P0 aL aG]]
   #[h3,GK.refl,ta6] (fun i σ HK _ #[pu,g]=>g _ _ hd6 (fun _ z=>nomatch z)) ?_ ?_
  ·rintro i p σ HK hi ⟨v10,rfl,g6,t6⟩
   obtain⟨e,he,rfl⟩:=ZbI;have nm:=b5.nm e (Zy he)
   have wl:#[Eo,ZCU,e.w.length]:=by
    have:=uA nm;rw[ZKl]
    lia
   refine#[afQ,wl];exact CP (ev2.gk g6) (bk2.gk g6) t6 nm fun H' g t=>#[bO,ar #[g7,Zalx g,t]]
  rintro σ HK ⟨v10,rfl,g6,t6⟩
  have b50:ZRr:=Zad
  have w0:y4 "":=Zam (by unfold kK;exact Ze);have l0:Ln "":=⟨by unfold oK;decide +kernel,Zal⟩;have l1:Ln Zal_:=⟨by unfold oK;decide +kernel,Zal⟩;have r0:rdF "" = Zac:=Zz8;have r1:rdF Zal_ = Zac:=Zz8;refine#[bO,Hs (ev2.gk g6) fun H7 s7=>ZaEP];have g7:=Zalx (df s7);have t7:=t6.same s7;refine#[a02,"",g7,g7,t7,l0,r0,fun H8 g8 t8=>ZaEP];have g8:=g7.trans g8;refine#[bO,yW (z:="") (ev1.gk g8) (bk1.gk g8) t8 l0 r0 ZkE fun H9 g9 t9=>?_];have g9:=g8.trans g9;refine#[bO,aM #[a02,Zal_,g9,g9,t9,l1,r1,fun H10 _ _=>?_]];exact k H10
#where
def all_mk2 {l:PySem.W.OpenLaw}{w:World}[7][153][75]{fa:Addr}{C cW cA cM cS cT cN fN cq cX ck cb ze dl y0 y1 cB cTk cU cL cF kd cs q1 q2 q3 q4 q5 q6 q7 t1 t2 t3 t4 t5 t6 u1 u2 u3 u4 u5 u6 u7 s1 s2 s3 s4 s5 s6 s7 s8 s9 s10 s11 s12 s13 s14 s15 s16 n1 n2:Addr}[418](G:ZuM)(hfa:#[b1,ZQd,fa]){c0 P0:Addr}(CK:ZaQx)(htab:#[au,ZQg K Zl1,(c0,P0)])(aC:#[Qv,ZNO,C])(Uu:#[Qv,Za8v,cW])(Uk:#[Qv,ZNP,cA])(Uq:#[Qv,ZNQ,cM])(Rf:#[Qv,ZCj,cS])(Us:#[Qv,ZNR,cT])(Ur:#[Qv,Zwi,cN])(b_cN:#[bb8,cN,Zfw,#[o7,fN]])(pg:ZaFg)(hd:Zbc5)(po:ZbdG)(sa:Zbcb)(KR:#[bb9,C,Zob])(Ba:#[bb9,C,ZlN])(A9:#[bb9,C,Zj7])(GF:#[bb9,C,Zj6])(TF:eW K cA)(TL:eW K cM)(QE:eW K cS)(TN:eW K cT)(TM:ui K cN fN=Zae)(g1:#[bb_,cN,ZNy,Za7K])(g2:#[bb9,cN,Za7L])(g3:#[bb',cN])(g4:#[bb9,cN,Ze6])(g5:#[bc6,cN])(g6:#[GC,cN,ZNw])(g7:#[GC,cN,ZCd])(g8:#[aUY,cN])(tN:#[ai1,K,#[aj,fN]])(wS:#[aUg,cW])(wR:#[a7Y,cW])(wI:#[a70,cW])(x_aa:#[a8b,cA,cA])(x_ma:#[a8a,cM,cA])(x_mm:#[a8b,cM,cM])(x_sa:#[a8a,cS,cA])(x_sm:#[a8a,cS,cM])(x_ss:#[a8b,cS,cS])(x_ta:#[a8a,cT,cA])(x_tm:#[a8a,cT,cM])(x_ts:#[a8a,cT,cS])(x_tt:Za8l)(x_na:#[a8a,cN,cA])(x_nm:#[a8a,cN,cM])(x_ns:#[a8a,cN,cS])(x_nt:#[a8a,cN,cT])(x_nn:#[a8b,cN,cN])(mk:ZbdJ)(kc:Zbcj)(Ux:#[Qv,Zbah,cq])(Uv:#[Qv,Zbai,cX])(Uw:#[Qv,ZOq,ck])(n_cb:#[Qv,ZOI,cb])(n_ze:#[Qv,ZOY,ze])(n_md:#[Qx,Za'2,12,t1])(n_dg:#[Qu,Za'3,(Zab (Zaf ZCx t2))])(n_dz:#[Qv,Zbaj,dl])(dzo:ZiP dl=Zab (L2.gObj Zi2 Wz.linesD [(s1,s2),(s3,s4),(s5,s6),(s7,s8),(s9,s10),(s11,s12),(s13,s14),(s15,s16)] n1))(dzs:#[agG,dl])(n_y0:#[Qv,Zbak,y0])(n_y1:#[Qv,"NoWay",y1])(Ul:#[Qv,Za'v,cB])(n_cTk:#[Qv,"Taken",cTk])(Ut:#[Qv,Za'u,cU])(Uo:#[Qv,Za'D,cL])(Um:#[Qv,Za'1,cF])(kpg:#[aa8,ck])(khd:#[bc6,ck])(kpo:#[bdF,ck])(ksa:#[bb',ck])(Gi:#[bb9,ck,Zb5])(Gj:#[bb9,ck,ZgP])(AJ:#[bb9,ck,Zka])(vJ:#[bb9,ck,Zop])(kmk:#[bdI,ck])(kkc:#[bci,ck])(bpg:#[aa8,cb])(bhd:#[bc6,cb])(bpo:#[bdF,cb])(bsa:#[bb',cb])(bna_figures:#[bb9,cb,Zkc])(bna_lengths:#[bb9,cb,ZiY])(bna_rows:#[bb9,cb,Zox])(bmk:#[bdI,cb])(bkc:#[bci,cb])(epg:#[aa8,ze])(ehd:#[bc6,ze])(epo:#[bdF,ze])(esa:#[bb',ze])(ena_hall:#[bb9,ze,Zb5])(ena_keeper:#[bb9,ze,Zhy])(ena_book:#[bb9,ze,ZoH])(emk:#[bdI,ze])(ekc:#[bci,ze])(xn:#[a8d,[y0,y1,cq,cB,cTk,cU,cL,cF],cN])(n_mp:#[Qx,Za't,ZbB,t3])(n_ml:#[Qx,Zbb3,12,t4])(n_mt:#[Qu,Zbb5,(Zab (Zaf ZrQ t5))])(n_kd:#[Qv,"KINDS",kd])(kdo:Zw1 K kd (Wz.kindsL.map L2.V.str))(n_dp:#[Qx,Za'4,8,t6])(n_cs:#[Qv,"SIZES",cs])(szo:ZiP cs=Zab (L2.hObj Zi2 (Wz.szL ⟨q1,q2,q3,q4,q5,q6,q7⟩) [u1,u2,u3,u4,u5,u6,u7] n2))(szs:#[agG,cs])(sz1:Zw1 K q1 #[co,2,2])(sz2:#[abS,q2])(sz3:#[abS,q3])(sz4:#[abS,q4])(sz5:Zw1 K q5 #[co,4,4])(sz6:Zw1 K q6 #[co,1,60])(sz7:Zw1 K q7 #[co,1,1])(TH:eW K cB)(e_cTk:eW K cTk)(TQ:eW K cU)(TK:eW K cL)(TJ:eW K cF)(x_bb2:Za8k)(x_tb2:#[a8a,cTk,cB])(x_tt2:#[a8b,cTk,cTk])(x_ub:Za8g)(x_ut:#[a8a,cU,cTk])(x_uu:Za8i)(x_lu:Za8h)(x_ll:Za8m)(x_ff:Za8j)(xB:#[a8d,[cA,cM,cS,cT,y0,y1,cq],cB])(xT:#[a8d,[cA,cM,cS,cT,y0,y1,cq,cB],cTk])(xU:#[a8d,[cA,cM,cS,cT,y0,y1,cq,cB,cTk],cU])(xL:#[a8d,[cA,cM,cS,cT,y0,y1,cq,cB,cTk,cU],cL])(xF:#[a8d,[cA,cM,cS,cT,y0,y1,cq,cB,cTk,cU,cL],cF])(x8:cC K C Zfw ZbaL pJ)(sZ:cC K ck Zfw Zbbj mr)(mO:cC K cb Zfw Zba2 iN)(qw:cC K ze Zfw Zbbs kj)(tq:bo K ZL2 my)(zZ:bo K ZLV rN)(ye:bo K ZLU pP)(yf:bo K ZPU kY)(nq:bo K ZBo jo)(yq:bo K ZPH k9)(qy:cC K ck Zll Zbbk ko)(kG:cC K ck ZalO Zbbl gU)(tj:cC K ck ZalP Zbbm mw)(sW:cC K C Zr3 ZbaT mj)(qA:cC K cN Zfw ZbaK kq)(va:cC K C Zq' ZbaW nU)(FN:bo K ZPI sy)(yu:bo K ZPL pU)(Ab:bo K ZPM rQ)(vd:bo K ZPQ jQ)(u9:cC K C ZBn ZbaR nO)(xZ:cC K C ZcD ZbaM pI)(sY:cC K ck ZcD Zbbo mq)(C0:bo K ZPG uS)(js:cC K ze ZalZ ZbbF f6)(pX:bo K ZL6 jH)(mR:cC K cb ZPu Zba4 iO)(eV:cC K cb ZDg Zba6 d9)(pZ:bo K ZPp jJ)(ir:cC K cb Zq9 Zba8 eP)(vf:bo K ZPo nY)(yp:bo K ZL1 pT)(ve:bo K ZPq iD)(iu:cC K cb Zq_ Zba9 gS)(kF:cC K cb ZPv Zba5 gT)(wP:bo K ZBl uV)(ya:bo K ZDi pL)(Aa:bo K ZwS rP)(yo:bo K ZPC pS)(oP:bo K Zl1 bC)(rW:bo K ZBp pM)(qB:bo K ZwT pK)(tE:bo K ZL4 mz)(x9:cC K C ZCY ZbaY kX)(zW:cC K C ZC5 ZbaX rJ)(pV:cC K C ZC6 ZbaS jF)(pW:cC K C ZcQ ZbaO jG)(tp:bo K ZPN mx)(vb:cC K ck "due" Zbbn nV)(mV:cC K ck ZcQ Zbbq iP)(qx:cC K ck Zl5 Zbbr km)(jR:cC K ze Zal0 ZbbA gy)(kC:cC K cb ZPs Zba3 gR)(kA:cC K ze Zal1 ZbbD gQ)(n6:cC K ze ZalY Zbbv jm)(sV:cC K ze "say" Zbbt mi)(zY:bo K ZP8 rM)(C3:bo K ZL5 uU)(C2:bo K ZL0 uT)(yb:bo K ZLY pN)(zX:bo K ZL3 rL)(mX:bo K ZP6 iQ)(yc:bo K ZLW pO)(yi:bo K ZPY kZ)(yg:bo K ZPZ jn)(yk:bo K ZP0 pR)(tz:bo K ZP1 fE)(vc:bo K ZP3 jP)(i9:bo K ZwY dX)(lP:bo K Zw0 ky)(qD:bo K ZP5 kz)(mZ:bo K ZP4 iR)(ue:bo K ZDw rK)(lO:bo K ZP9 fk)(z9:bo K ZPW rO)(pY:bo K ZP' jI)(mY:bo K ZP_ f7)(qC:bo K ZQa kr)(ym:bo K ZPS k7)(yj:bo K ZPT pQ)(n8:bo K ZP7 gC)(Sc:bo K ZQd JT)(S9:#[Qw,ZBZ])(LF:#[Qw,Zvd])(wL:#[Qw,ZMw])(LG:#[Qw,Zf2])(Qe:#[Qw,ZdE])(S8:#[Qw,Zrp])(Qc:#[Qw,ZahQ])(S0:#[Qw,Zcm])(S7:#[Qw,"any"])(HV:#[Qw,ZNe])(Cd:#[Qw,Zry])(Tc:#[Qw,ZiK])(Tb:#[Qw,"min"])(Ta:#[Qw,ZjU])(Qd:#[Qw,ZiI])(Tf:#[Qw,Zd7])(yZ:#[Qw,Zhp])(Te:#[Qw,"sum"])(Td:#[Qw,Zf1]) :
  #[a8x,∀ [154][252],ZBS s fd #[ei,[v]] [(Zi3,v)],#[apl,ZnX,aV Zfu w K mg ZaO dR 43 fa fd Zavm ZaNV]]:=by
 obtain⟨c,rfl,rfl,rfl,rfl,rfl,rfl,rfl,rfl⟩:∃ c:HX,c.C=C/\c.cW=cW/\Zd'=cA/\Zfx=cM/\Zea=cS/\Zf'=cT/\Zga=cN/\Zwj=fN:=⟨⟨C,cW,cA,cM,cS,cT,cN,fN⟩,rfl,rfl,rfl,rfl,rfl,rfl,rfl,rfl⟩;have T:Txt mg:=⟨#[dA,S9],#[dA,LF],#[dA,wL],#[dA,LG],#[dA,Qe],#[dA,S8],#[dA,Qc],#[dA,S0],#[dA,S7],#[dA,HV],#[dA,Cd],#[dA,Tc],#[dA,Tb],#[dA,Ta],#[dA,Qd],#[dA,Tf],#[dA,yZ],#[dA,Te],#[dA,Td]⟩;have U:ZaN6:=⟨⟨pg,hd,po,sa⟩,KR,Ba,A9,GF,#[b8,aC],TF,TL,QE,TN,#[b8,Uk],#[b8,Uq],Zazd,#[b8,Us],#[b8,Ur],#[b8,Uu],TM,⟨g1,g2,g3,g4,g5,g6,g7,g8⟩,tN,wS,wR,wI⟩;have VM:HM K c:=⟨x_aa,x_ma,x_mm,x_sa,x_sm,x_ss,x_ta,x_tm,x_ts,x_tt,x_na,x_nm,x_ns,x_nt,x_nn⟩;have UO:gE K mg w c cq cX ck cb ze dl y0 y1 cB cTk cU cL cF kd cs ⟨q1,q2,q3,q4,q5,q6,q7⟩:=⟨⟨⟨kpg,khd,kpo,ksa⟩,Gi,Gj,AJ,vJ,#[b8,Uw]⟩,⟨⟨epg,ehd,epo,esa⟩,ena_hall,ena_keeper,ena_book,#[b8,n_ze]⟩,#[b8,Ux],#[b8,Uv],#[b8,n_dz],⟨Zal,dzs,[(s1,s2),(s3,s4),(s5,s6),(s7,s8),(s9,s10),(s11,s12),(s13,s14),(s15,s16)],n1,rfl,dzo⟩,#[b8,n_y0],#[b8,n_y1],#[u6,xn],⟨⟨⟨QE,Zazd,x_ss⟩,⟨⟨bpg,bhd,bpo,bsa⟩,bna_figures,bna_lengths,bna_rows,#[b8,n_cb]⟩,#[tr,n_mp],ZaDe,ZaDf,Zaze,kdo,TQ,#[b8,Ut],TH,#[b8,Ul],e_cTk,#[b8,n_cTk],x_bb2,x_tb2,x_tt2,x_ub,x_ut,x_uu⟩,TK,#[b8,Uo],x_lu,x_ll⟩,⟨TJ,#[b8,Um],x_ff,#[tr,n_md],#[tr,n_dg],#[tr,n_dp],ZaDe,ZaDf,Zaze,kdo,#[b8,n_cs],⟨#[Dx,(([Zb6,Za',Zcd,Zcm,Zc0,ZaG,ZaU]:Zbo)).Nodup],szs,[u1,u2,u3,u4,u5,u6,u7],n2,rfl,szo⟩,sz1,sz2,sz3,sz4,sz5,sz6,sz7⟩,⟨#[u6,xB],#[u6,xT],#[u6,xU],#[u6,xL],#[u6,xF]⟩⟩
 obtain⟨F8,Er,FS,Gf,yx⟩:=x8;obtain⟨Cs,Ax,Co,Ct,tF⟩:=sZ;obtain⟨vz,uj,vj,vC,m4⟩:=mO;obtain⟨Au,y7,Ae,AF,qE⟩:=qw;obtain⟨Av,y9,Af,N6,qF⟩:=qA;obtain⟨Aw,yF,Ag,jx⟩:=Aa;obtain⟨yE,Es,FT,yz⟩:=yo;obtain⟨f_law,TU,a_law,G_law⟩:=Sc;have e:=hfa.symm.trans (ZC X G a_law);cases e;have eN:=Zl (Zl (Af.symm.trans b_cN))
 have eN2:Av=Zwj:=by injection eN
 refine#[k1,TU,fun base KB _ BK=>?_]
 ·obtain⟨_,_,_,_,_,_,_,_,_,rfl,_,_⟩:=G_law.ex
  exact fun s v=>ZahV
 ·have z:#[AG,Bs,h]:=⟨X,G⟩
  have MH:#[AG,WZ,c]:=⟨F8,Er,⟨mk,FS,Gf,kc⟩,ES T U VM UO yx ,(yx.binds (ps:=ZfC) (by intro _ _ _ _ _ _;(repeat refine Zsg);exact ZfW))⟩;have MK:#[AG,Xm,ck]:=⟨Cs,Ax,⟨kmk,Co,Ct,kkc⟩,Bn T U VM UO tF ,(tF.binds (ps:=Zua) (by intro _ _ _ _ _ _;(repeat refine Zsg);exact ZfW))⟩;have MF:#[AG,Tk,cb]:=⟨vz,uj,⟨bmk,vj,vC,bkc⟩,uB T U VM UO m4 ,(m4.binds (ps:=ZfC) (by intro _ _ _ _ _ _;(repeat refine Zsg);exact ZfW))⟩;have ME:#[th,Tj,c,ck,ze,cb]:=⟨Au,y7,⟨emk,Ae,AF,ekc⟩,zj T U VM UO qE MH MK MF,(qE.binds (ps:=ZfC) (by intro _ _ _ _ _ _;(repeat refine Zsg);exact ZfW))⟩;have dP:=#[sc,tq,Bq];have fO:=#[sc,zZ,GY];have cV:=#[sb,ye,EX,fO];have qh:=#[sb,yf,EY,cV];have fQ:=#[sc,nq,rh];have tZ:=#[sb,yq,E9,fQ];have da:=#[ux,qy,zm];have iw:=#[nC,kG,rg,da];have nA:=#[nC,tj,Bo,iw];have nv:=#[ux,sW,Bl];have NG:#[AG,Ac,c]:=⟨y9,eN2▸zn T U VM UO qF ,(qF.binds (ps:=Zl') (by intro _ _ _ _ _ _;(repeat refine Zsg);exact ZfW))⟩;have c8:=#[nC,va,CF,NG];have D7:=#[ur,FN,MC,nv,c8];have uc:=Ow z yu #[ew,Fa T U VM UO h c8];have wO:=#[ur,Ab,G0,D7,uc];have qt:=#[sb,vd,CL,wO]
  have fR:=#[ux,u9,CD];have qI:=#[nC,xZ,ER,fR];have ny:=#[nC,sY,Bm,qI];have zU:=Ow z C0 #[ew,Jo T U VM UO h ny];have M_Evening_number_line:=#[Im,js,pq,da,nA,qt,zU];have fm:=#[sc,pX,xJ];have M_FigureBook_told:=#[ux,mR,uC]
  have R_FigureBook_check_names:#[zd,#[aPI,ZI9,(DJ cb cU n)]]:=by
   intro n
   induction n with
   | zero=>exact fun _=>Vr eV fun _ _ _=>m5 (by intro _ _ _ _ h;cases h;exact Zu')
   | succ n ih=>exact #[afl,eV,mJ,fm,Zba7]
  have M_FigureBook_check_names:#[aPI,12,(DJ cb cU 9)]:=R_FigureBook_check_names 9 Zbu;have lM:=#[sc,pZ,xM]
  have R_FigureBook_length:#[zd,#[zk,dR,Zq9,ZI9,ZaGu]]:=by
   intro n
   induction n with
   | zero=>exact fun _=>Vr ir fun _ _ _=>m5 (by intro _ _ _ _ h;cases h;exact Zu')
   | succ n ih=>exact #[afl,ir,q8,fm,lM]
  have M_FigureBook_length:#[zk,dR,Zq9,12,ZaGQ]:=R_FigureBook_length 9 Zbu;have qv:=#[sc,vf,CN];have Cquadrille:=Ow z yp #[ew,#[pc,E8]];have qu:=#[sb,ve,CM,Zal']
  have R_FigureBook_row_of:#[zd,#[zk,dR,Zq_,ZI_,ZaGv]]:=by
   intro n
   induction n with
   | zero=>exact fun _=>Vr iu fun _ _ _=>m5 (by intro _ _ _ _ h;cases h;exact Zu')
   | succ n ih=>exact #[afl,iu,rc,qv,qu]
  have M_FigureBook_row_of:#[zk,dR,Zq_,13,ZaGR]:=R_FigureBook_row_of 9 Zbu;have M_FigureBook_spread:=#[mk,kF,re T U VM UO h ZPw ZPx ZQh];have i7:=#[sc,rW,uE]
  have RB:∀ d:Nat,d<=8->∀ b:Zvk,ZnX b->wM mg b->dC Zfu w K mg b ZwT (4*d+5) ZQV ZaVT:=by
   intro d
   induction d with
   | zero =>
    intro _ b kb bb;have gG:ZaVW:=ZaP2;have i7:ZaSg:=ZaP1;exact #[a1H,1,(W7 X G oP fun _ _ _=>m5 fun _ _ _ _ h=>h)]
   | succ d ih =>
    intro hd b kb bb;have gG:ZaVW:=ZaP2;have i7:ZaSg:=ZaP1;have fQ:#[atB,ZBo,Ll]:=Ov X G nq #[ew,#[pc,rh]];have tY:dC Zfu w K mg b ZDi 1 Zadu ZaNb:=W7 X G ya #[ew,#[pc,EU]];have LN:aV Zfu w K mg b ZVz 2 yE Es Zzc (PK P0 aL aG cF ZUX ZlX Vs):=E7 T U VM UO yz gG fQ
    have wN:dC Zfu w K mg b ZwS 3 ZbaE #[aYY,yE]:=by
     obtain⟨_,_,_,_,_,_,_,_,_,rfl,lk,_⟩:=id yz.ex;exact⟨Aw,yF,yQ T U VM UO jx (fun _ _ j _=>j) (fun _ _ _ _ a _=>a) Fm LN (kb _ _ lk) rfl (fun s us hl=>match us,hl with | [_,_],_=>ZahV),#[b8,Ag],jx.kp,jx.binds (ps:=ZbaE) (by intro _ _ _ _ _ _;(repeat refine Zsg);exact ZfW)⟩
    have WS:∀ (b2:Heap)(fl c1 cy:Addr)(vy:V)(pm ct:Value),#[a1s,b2,wM mg b2,b2,aV Zfu w K mg b2 ZVz (4*d+5+2) Aw yF ZbaE ZaZ9]:=by
     intro b2 fl c1 cy vy pm ct md2 bl2 lm
     by_cases hv:ZaSO
     ·subst hv
      refine L6 (fun _ _ _ _ h=>by cases h;assumption) (yQ T U VM UO jx (fun _ _ j g=>g.code j) (fun _ _ _ _ a g=>?_) ZYH (vY T U VM UO (ih Zah b2 md2.kin bl2) lm) lm.ob rfl (fun s us hl=>match us,hl with | [_,_],_=>ZahV));obtain⟨p,e,hp⟩:=a;exact⟨p,e,g.fg hp⟩
     ·exact m5 (fun _ _ _ _ h=>by cases h;exact hv (Za87))
    have qq:dC Zfu w K mg b Zl1 (4*d+5+3) ZQV (SL P0 aL aG cF Zm6):=by
     obtain⟨f9,fd9,a9,g9⟩:=oP;exact⟨f9,fd9,CI T U VM UO g9 (P4 htab a9 g9) CK bb (ZC X G Ag) jx.kp (jx.binds (ps:=ZbaE) (by intro _ _ _ _ _ _;(repeat refine Zsg);exact ZfW)) WS (ZC X G FT) wN gG tY Zah,#[b8,a9],g9.kp,g9.binds (ps:=ZQV) (by intro _ _ _ _ _ _;(repeat refine Zsg);exact ZfW)⟩
    exact #[a1H,4*d+5,qq]
  have lL:#[th,dC,ZwT,37,ZQV,ZaVU]:=RB 8 Zbu ZaO KB BK;have hG:=Ow z tE #[ew,Bt T U VM UO h lL];have qJ:=#[nC,x9,ET,MH];have uf:=#[ux,zW,GU];have iF:=#[ux,pV,xH];have eC:=#[Im,pW,xI,c8,uf,fR,iF];have oO:=Ow z tp #[ew,#[sJ,Bp,qJ,eC]];have oS:=#[nC,vb,CG,da];have jb:=#[mk,mV,#[sJ,uD,oS,eC]];have lQ:=#[mk,qx,#[sJ,zk,oO,jb]];have M_Evening_dance_line:=#[mk,jR,qf T U VM UO h ZbbB hG lQ];have M_FigureBook_define:=#[Im,kC,qZ,i7,ZPw,ZPx,ZQh];have M_Evening_name_line:=#[mk,kA,#[sJ,qY,ZbbE,hG]];have M_Evening_answer:=#[Im,n6,vW,tZ,Zbby,Zbbw,Zbbx];have M_Evening_say:=#[nC,sV,Bk,Zbbu];have eR:=#[sb,zY,GX,ZbbU];have lD:=#[sc,C3,Jq];have lC:=#[sb,C2,Jp,lD];have iS:=#[sb,yb,EV,lD];have jv:=#[sb,zX,GW,iS];have iY:=#[ur,mX,uF,lC,jv];have iT:=#[sb,yc,EW,fO];have qj:=#[sc,yi,E3];have qi:=#[ur,yg,EZ,qj,cV];have qo:=#[sc,yk,E5]
  have nj:=#[sb,tz,Br,qo];have oN:=#[sa,vc,CJ T U VM UO h qi nj cV]
  have R_law_figure_text:#[aPE,ZwY,(B3 n)]:=by
   intro n
   induction n with
   | zero=>exact fun _=>Ov X G i9 fun _ _ _=>m5 (by intro _ _ _ _ h;cases h;exact Zu')
   | succ n ih=>exact #[aRD,i9,uG]
  have dz:#[th,aO,ZwY,10,ZFV,(B3 9)]:=R_law_figure_text 9 Zbu
  have R_law_names_of:#[aPE,Zw0,(sv n)]:=by
   intro n
   induction n with
   | zero=>exact fun _=>Ov X G lP fun _ _ _=>m5 (by intro _ _ _ _ h;cases h;exact Zu')
   | succ n ih=>exact #[aRD,lP,zp]
  have c6:#[th,aO,Zw0,10,ZFV,(sv 9)]:=R_law_names_of 9 Zbu;have lK:=#[sc,qD,zq];have i6:=#[ur,mZ,uI,Zal',lK]
  have R_law_flat:#[zd,#[aPA,ZI_,(uR n)]]:=by
   intro n
   induction n with
   | zero=>exact fun _=>Ov X G ue fun _ _ _=>m5 (by intro _ _ _ _ h;cases h;exact Zu')
   | succ n ih=>exact fun hn=>Ov X G ue #[ew,GV T U VM UO h i6 Zah ZS5]
  have fM:#[aPA,13,(uR 9)]:=R_law_flat 9 Zbu;have iK:=#[sa,lO,sO T U VM UO h c6 fM lC iS jv];have tX:=#[sb,z9,GZ,iT];have j5:=#[sb,pY,xK,tX];have iZ:=#[ur,mY,uH,c6,fM];have lJ:=#[sa,qC,zo T U VM UO h fO dP iT oN dz iK j5 iZ];have qp:=#[sc,ym,E6];have qk:=#[sb,yj,E4,qp];have jw:=#[sb,n8,vZ,qk];exact UB T U VM UO G_law ME dP qh eR iY lJ jw
def walk {l:PySem.W.OpenLaw}{q:Program}{loose:Zbo}{XP:Zaax}{YP:Zaaw}{d:DefRec}{K:Params->Za98}{c0 P0:Addr}(hn:l.most=Zab 63)(hdf:ZYU)
  (hY:ZaLc)
  (hTY:∀ (w:World)(h:Heap),ZVV->ZaCG=some (PySem.W.tabObj #[])) (hch:ZaPk) (htab:#[Ol,ZaWx]) (hnt:ZaPj)
  (F:∀ (w:World)(mg:Zo6)(fa:Addr)(h:Heap),#[jh,0].In h->ZuM->Zaim->ZaHm->ZaWx ->
   #[a8x,#[atW,(Zi3,u)],#[a0K,dR,43,Zavm,(FA (K Zi2) P0)]]) :
  ZaJ' :=
 L2.walk_ofT (n:=63) (k:=43) (x:=Zi3) (nm:=Zl1) (CX:=#[bf,dR]) (sp:=fun w=>FA (K Zi2) P0) hn ZaY hdf #[sd,Zaw,Zaw] hY hTY hch htab hnt F (fun _ _ a ns hl hT hS=>⟨a,ns,rfl,hS,hl,hT,Zm3⟩) fun _ _ _ _ _ z=>z
#print Wk51
namespace PySem.W.Fast
#check[11262112260224487292,10496572707126467796,14529860813213867114,14186975696260514516,18418315669425301490,1464027127189522605,855737888624968254,12276594353716007050,16823550765249551705,2513446340841814231,3153453913196573445,526741724095348558,3328112555428614694,7846203162555842261,4178945732939964384,7508757069872298361,12475868110021925343,12690816421886687491,11272777766624200744,15121118530961430221,71876327881136855,11835438785396809960,4425314811608872079,13857235623783205283,1836758561077510085,15610726353978562964,16744358784220025739,1384259252197696397,13114322837839781137,881791406317977360,11295365532439380961,5056516317482339233,17090798959745636922,16012500199179329251,1347836396840380280,11277320844810302454,16336558972123844345,11116247499240552692,1190056455283483018,113955313849356722,8749313440903599682,7317630655214855909,14071878020159934115,7634524943331569242,11078950719731036517,6024371846922966790,12282514135606427049,2204606563126541126,6049649100699083304,13502425456615776365,6208998875487672236,1527326687469212253,1503494753958034020,4950291943130352971,7873093910223968691,11186237799602378225,15682205520707678831,12110855930699385718,11805883515995861473,8378708376398045904,17477144582106323936,2133437759720495113,17847112951204788941,8373436691791261250,16857098592991453522,4852058622105486736,9475501509069669914,5861012223861411560,9979926157942111720,13619309039037956874,6849238237157236821,10696980075230215525,13462898914213808342,5965509874481648188,14426277844647853622,9901171446226590308,16990856061428113895,7745401282962673653,11656765341653315302,1702805857455698466,3306592522251472892,12958438167845679962,16130121140157605330,14092382513852582931,1460513937601351758,10387984620232988046,4570969027049038990,14200698011004374673,16911303449799020,9855633091915509896,15265567539563750823,17650700202214612961,14177645030642340438,8101119972331399511,12720977861869639212,9544859915828591214,637564396015691553,14057383859162921112,15800109048875873442,18386130489439307820,586319234522780413,4238112070364703658,574431714286016429,5555639323056759555,1774364875467522352,13169432820335665690,14066411492831317987,4078048093302070382,4248817310012893367,2238062308031113875,8214172960353788714,2208897789683814787,2160087779621350458,4818664302094114990,15039148053903817465,3187754039673961490,11172669319573355142,2948840198687739560,14143220817916522308,17547896718595682857,953325108191254506,511624831624702781,2202443297187824112,1163006133063374245,14121654063647104280,4159982028859614051,357273089730176825,17287174042644435408,7955363486865886223,3257295798521615131,12432995197269936123,3823305085535999720,8050788223109628834,6971687780356241493,3252249865296380446,5584205015651290946,12527137552263413437,12614090890187462854,3405661301571357103,4585278357459792681,10252444720421421084,4005933816025493558,78820187175945167,8339737110972258018,6874785380466406750,1402649552654944224,11393521691792036969,1479288350703059342,10566829355034334929,6437576125625601291,13673650092861246708,9680772819588556059,2277574631475656430,8283731254043449449,9869694847486389420,15332581726452004418,13456491801071404831,1950993255675049689,3172237805756454582,15923666774582872643,548379712396075220,8729926325112485820,1259509528016988223,17182933477120603490,8701880259363727049,1614739598553477099,6674033897526306151,9292707165251513751,6775058857500364634,10896774133641213844,1773474970914389917,1962443745175729410,8158803724677084200,11019146911161152266,79407719496209527,788872991303747458,3179552773885137904,12114745073720159010,6026381602546963858,17623190293564842717,18365208324506560166,17125113433683811162,10296868691369425465,12409049746379641420,12626514236831014660,1292356730998465878,10983999940960915598,11755877206803855285,113619591127743411,14740831379440898301,2153029435531569677,17332695916946865984,3816147342732009792,10833989739457150116,2654274411636486991,12466003984778226353,687063170626899012,2522487627938907882,8612868915231649503,3295670775793581009,1108364655431806357,13701948496066911166,16745743827075331070,11106750726067373929,10691178231024421749,11040343381450280545,4531929607783680181,10202247486970044277,9379945164655131532,15184574619171739495,2446489318870115507,9905291276492150552,4065470812716253788,2264054849800166982,12098427170407633894,613811723145213246,1161559046913829462,3186721165293925555,9189588334466588139,17431567333374768720,12395618527211983866,4200910525656905500,5500080169447407937,3156485667197039950,5735385825503642820,914791782599708657,1254328119250811003,12492492190896007506,10875909154276953136,16653617112446445223,8446828765813825076,10904581078389032531,12551256734943142440,6129409915907572904,16016485850192205647,14585551321245452442,7601004254370035544,3008216602574762528,7144997546396328497,9066288923646219716,4601492350244053228,2058566007771031763,675241877381678579,6420259768727328191,14099313685836394322,14634908830748981099,13944432760002891289,1029162507165989997,5683481632296391235,4519766334643763030,16177236243789584660,13747670897239669495,879761652819084077,14379082617249726835,16766879040184881040,2379802220871138760,16921664027584445741,16662721703601433839,12556146546410553621,2084868344954305522,5866758141536182074,3734345013132816529,12594055910499995455,15247853933323414228,18392957555778480878,9794998803542939065,17462692956560151657,14214365183257613030,13219789498235732121,8906737620718239374,17065271906097153838,2681420973678665791,10852903152334987253,9749066048644195305,14094892264884028827,11686290699143289032,3878716522799111991,18228663506732538088,1236025059198270132,8556609964265663598,10250549276060800996,3756898933101613145,11121549094904160231,13865678616633067694,1309683393303774697,414593501286327866,12538296856750334940,2811248969484781964,10426206288924532561,3891396090253212274,1108238746163045531,17857894435147852001,17277993608711040626,4565203788855734808,15035590846195628659,4691836088772031955,13855533229988709346,13744896568806875982,4660826831854968624,1084321935267529678,652804883282752501,18108170890242362434,16535028204299928561,2698290570659458855,15961948611349045534,11618261851396464115,11248863137389323891,2700745510172166127,4018151591884986031,12329733569428392289,11908849094109073151,12182773226294538041,5602935023186963110,7077198732193459024,5471700112961487788,8941935588693604629,8137925284900059732,17937199407676601671,9641107266764541881,5223734214238155877,2982945293852753048,3544635825035920255,18255654362484320341,9087112167079206826,5178918989948288205,16584671698814523538,1648368878391938104,12624469255286631284,8619334780160860505,3253176817385775080,11630440011343074585,7195570305901863903,7369880728100971849,10514308686293227295,11239378696429080936,8481120813312364829,4681191373218598052,18030467022324851465,2114477382335545430,1666990831484896655,14924321222668965838,14092828561985860065,5948548249986650328,10199765047151721636,12572518044317568072,8092157317574707818,499641355409627732,11623805822964830185,18419373421753560910,17561504270149848135,10786830771810392871,4687630316414783911,14519928277544560764,5480887894123711711,17185268675143720021,967169607219866454,6583306833371473,1370353256527352295,7123806041927154768,9750554924604132257,6255382737248146293,15349353962430697298,15349963633582754237,6666332908745658199,16563557582590006458,8765727203547473528,10154212031610718546,7034102301499322599,7359422875619810748,3580844445774562054,17534890640296211255,6171171055953599145,11742880708347699034,1043803677017966419,5650815703110741734,10450902661190774633,1151296026044399776,104515093002021088,16304448343709942728,13185634387740892855,7808115041200318816,11620688648354880823,11375311107401733795,13046534381209343513,15348188681761110083,16918973314246989690,1050085428328053363,4651643087590581376,1963567683332270564,8080185521035507078,5742516278641685688,12844136588911584521,9993437993227479603,11256156775752699681,10325089944708489659,5018434450106973419,5173615146759491399,1571250957576680860,9222459578992566370,9678598200835713357,13787355294878093468,4406519914023722282,16670824653733582366,3202337679480683849,18343903541496227986,5044798029236556416,16566329761693917069,15101267846459270981,10515845150496091397,2659266530486888403,3703823801163372581,9456755163228100500,7343373349197836634,1706142130265935766,5283891198014728798,1676964128139417977,6118436390917663747,12456808684025225925,327925212861416873,7995383226480907287,12360320277426868324,4939190518384141166,2350586213166596185,7298235734124174671,13720841943115500856,9871380535462340610,5030331120640743511,1967551619963059734,18092690572069692725,18273440752049425545,17353456454411290047,6745894959879638279,4039199699104395625,14453065102319406854,6536518671968515992,10391641030146500945,4170706675144900991,9402505133856848544,14450390946921746164,15382862440863635595,6465577843229692861,10847147346453298210,10185719642872970669,8260910671176172765,7691053310312859138,6398405775141135829,9103798908881717767,2142743230888196495,4862364682873532393,7352692756999655623,17639843994523771881,7974060001332790662,13027372007257220912,14898745387986387452,8119291292516419568,16887573159896838838,14314130526460552131,2986888127742509658,18124823301863929836,9765981859060901838,10392878815415560184,6178863046592390152,15013010464159137101,607643117177855596,14508053378572951482,3016380391847494088,14906733674725635409,10160603885994697457,16477139673914369376,12771285138549992639,17232809613001960020,10777382181646456979,10063347742826683141,10528746963162749149,4293825162318933472,18422603848363059631,15296054421795463704,28656223434606515,10082842833794501213,17170625641738974008,2290284589932702774,2400583798907806791,3955419687134596178,17626678403428362291,8391274759693973163,1932321205707649267,13015727091912999540,5685340592054182004,10086291502377827840,3384226834789451447,11154004906383633583,11716422773708173055,5078951187768097036,16263513211564057664,4951706743693971258,13259150030774392996,623910166565167944,6473222911618909397,13444282622498735739,11978859507458009717,5341940354119399478,12318100852026605153,992825287547497670,14647880511749799529,675591706024633751,8249317522369549607,14302897732058219942,15271144764157826877,13453626480947576376,16269414680264355064,14904733272062617833,13257876541892056128,10601350045909177574,15180915244383863924,918151639640473741,12348623253907952513,10080048714473303970,9922898489556245951,9296043882232233435,16003720790315986189,12376017634079884395,3663580421295885545,16027276714377810955,16087238731628252653,15116667540741558306,4177588248743649248,3070261342106122115,10142217866669959083,211589319554165093,10552094824290493338,2894841503844643791,322264454843014724,5154723837621795352,11528910099959468612,12644584294834718928,10666224190714368456,14886161475021416974,11933432884825609888,18054902762216241930,5833968361542502622,9972243558234663851,4682945382657888543,5149886277594815238,16470651321061223347,5818230303479654136,7097475265210526052,7100261805978170270,3034016783419280102,14778012713382863249,17224262111837796260,18409708209104322127,1984193983450826645,18161679263562863750,13635871526777858827,3172239664246629468,2388489194334838621,1770899935471410406,11729656301923633803,17662030347243331425,1722086913371738421,12087935151594755862,10317746907325265028,17333655544046769018,16692306767884206976,16151735320694431386,14036948892087428961,3732217481033525358,2322763646257318561,947390964063755196,15537066058918095721,14950122398155742941,17208226391918711640,3245318497660845757,14597580884972041642,10916609220175350950,16035520634283301594,1659237322614960390,440155799304390476,3965948126427893092,17455906618504332725,14036622716841165246,13005936355461911600,14665521543074694669,4482251181752112047,17804107320265035664,5345306236617452080,16259963218827099023,7281401929172206338,9111451853276678889,3415303563372271116,3561303666740482505,2787945384078403876,6543762676716782560,11983392650587526296,2032555547444647937,15778859324499826903,16078677502321304451,13795487441677437659,14579516515352941831,12388009067381977104,11805563020684805982,12139737066250993996,16183397767917555479,13055041085996808222,3773253621814308096,12967404932081064367,12528633643020500437,16745591411296156856,8758985749296645700,73227902973019215,9205746020171381903,10744904847684723313,4185222686898265320,10597959444384608536,11974442823950319596,10725002987994161782,14840381062962194666,16954926094678952120,14967746562868922297,3623155806756689558,11301388405893589621,14102084129703377962,11289899110128954779,10362929396525676726,11195350972896833617,16812295176190281727,11956670724162159902,4177143329800182889,1288371057429131330,18214909158418493623,17307874177882531132,7018311630210116420,13091861868670118304,14649428721208977493,17037428310453454857,8446634357087897291,5309775675642543727,2793242989699163767,5559544281233883699,2935464372550141136,9571555757115345625,6313971208159733289,4613860978996658130,7776842657501899969,11131608366701086000,562189730961195595,17647659600870597973,9339704102397868430,6645691604589608706,11867517240460667254,7467920367063914276,6844869310645911085,16065649003915537108,12353227097943898462,2260173431224359700,241987165395495118,2002937977884634650,8504213552586294833,13133625787836735505,16849343522324066678,7966563157415315532,17187022823411916098,3948411968185118075,10800164443623319845,15388459527166463078,12725906609483991750,815491997708925397,15032877273163984663,3692577962787466277,14641148217806273031,10903504353470608083,2389423677718993963,3765502276312593722,14146974477562511104,18202240588872139849,10550054388016968975,210589491284061673,2608491972824503102,9055015571318312969,5269644906278496744,1867252585504826774,10933536307681759235,17787390619498031206,892405589194578414,10777251406666662665,11892151912484725455,306542420109387762,18319591587547832992,5820265379253301135,7873099955174677534,2920492553336180465,5390239280502501032,6733044924391293270,13910897008773942724,17315117399359115473,6890639824227262275,17016298220938409929,174685011250108996,3492913897977545107,14721443885322692453,16810224400721857609,8364138142167279051,9226213483622615157,6361460540335583042,10071455088969617647,16534548754631302282,4332318732943230712,14121427695228179089,5083900282055736202,12018205075387984452,13672200062144647742,8659387508756040884,16313634811229387450,14397100101063890844,1156634628653359956,5679036002807450993,16063837233438071556,10893982498628164558,6709653091888821381,13284383342753422683,10471951118190828598,13231691574666894580,610984197183788572,9236786714160338301,12875254453403434673,1424617524396150161,18291088773945646928,1700342140977094159,208441735471988507,17466957256005002868,16004673230452065865,7363081848829361077,12854701916884694496,818440114230715020,8659142106738561345,16275436061855642518,1361854552386828156,14348748209815990111,17260311462248866497,12296243088070086203,8968259513408010859,15559353530281204484,5569539003571527615,12229249001382482216,16411473252087137966,13371667032255588003,4339013850100868578,5751713293190458474,9559607054885898603,13685006924606220513,4889654823359893820,12321088244587380831,11480504109949165680,15933928457355147570,7940722444627639540,2602522972174238703,13191017791441233785,18284284202355377725,17530847910228646522,11510752052502296327,9605608756268395085,15075929049885348611,1542411859725620039,8305029879722283835,2265534720125344208,1643080099333229383,14848866522832933044,6303594351979761123,14954483919866276511,18390453526377775827,1464322520425245454,17864988003060638688,18241509103077235732,18183839165079001559,12933591820239897451,3815242502527559828,17335283332703141773,12036617364332481097,3659303841980031413,3637163976145167502,4199762810361294783,10924273269565955404,9956281086720866189,6326070978014896201,12931124538693493184,17547589811494446543,12345011805545089729,16782535702184003275,3481658513358121628,803636707450584298,11989737187887024811,435798056035948768,1211519618620515867,3447825366901991680,152916526964706009,767856739071314112,11095877640766940079,17265698356304745966,12410280754216666763,1128031895906693619,7460783598275710921,17572228428488932662,10161364171863716004,6835384849697932630,4249384427542243183,4431621225522951759,214441697489040924,16506964636570162073,14017949216841781654,17951435551513396564,13726420126691558954,9896864224620074132,5338926449557357387,5887228957021312388,3190325978593167902,8498494854273012132,12481501399351356607,3826184453025574931,13320491618448281704,12953505700475448433,8785734005541822804,8452875021645712064,4986202553917545305,11515563182641572331,1568246420312997436,3913508054451729930,653126517637159823,16602771166127056896,5547894594091094178,8596170198850441293,8331641144516840309,16469832941023375765,3281670672896814423,757469820050192411,5240924166398439264,7174131056664599958,13015687091156029608,17832020398840687977,6342803613628586256,4729251739019612223,9932120389108869584,7941357231472386868,6551007739440206134,17239169627731641693,8623545941503863381,7507407828685810577,8769570001906570890,5083014394512134874,6760227775345114940,3029932482144287679,3192142443146829708,15213139368666319450,8947754300063208599,14541371386165151459,6701502671569188427,11421746441767943764,16406879281774011571,15608288974893971145,4467151708678935184,3929298919096688525,12105746882509206106,5300469565756641871,1932697956692713341,3599456292287585306,7555488431415625480,2306448483273489707,14388169593002253900,191971806887557993,12947827557152109568,8108566148020208586,17266144404594887253,10598979123741096326,10209772517729837761,2262276319651378339,6138986054994290882,10736668702993110785,11356069266717498052,9837482693726756442,14008070935731494887,16585783814735631103,286489794774619639,450506783779603659,1938229574377432434,2528430156973908669,2672455652031672979,10545047421835308716,10471729131763254779,918305353149483271,2220348672851253366,12788056749682512128,2916557104045062172,2259933965642117359,7212487251586086945,10130789147201332191,10832439763956898184,3422710294737597371,521347846322727363,10885967835369145153,17828660356836853289,10045810153283067046,18064913248530721104,6334113544904003583,8105424894804430651,11955905080553031250,6266101360935979142,6168785020481706914,5051894406843581513,13028668001268979630,2188692765127000822,15991100392975072703,12835472754632822332,9648086708331749624,8939181119554818862,12554130860952264354,18201750340718718292,3009667020176215847,6728994863201980881,2350526168581896625,16524189978636997742,11970089390044473813,5073830315770717814,1663728693100006891,3349866346106662795,4739447321927837962,3169782792475486367,8958578866160443032,6286122400822465382,14558962144247453336,9464795040578158916,11138004999891068553,6147494748810129075,17966133883424743639,9418435628944169481,16177141792127501677,10294811265052892102,17466273381023627143,17158906170179018547,2735870055265488401,7528990585084036262,769185987782085411,6932132890254956781,10436811247171889502,5217453529503869767,18197487022800515405,9462637178515234874,18332417794470593232,18055144393731432702,5483241976852103001,8919701375182892727,12549941402623904685,16495501139003292046,17180906267148643302,7410689215495006565,13743022561144011346,17815848351681736592,10010248557674793100,10869016477445898174,1998862287172318751,8255549275912426617,4003882398241773797,1721354324384931502,16266175269186134113,13011094306141257504,15372052181282471767,359598237288842999,9480415164218357950,1176118151388680538,10336489629098943745,18033465167428641394,15800702547725908959,8804611881345745178,5191470045802362259,5895332004173004411,14945830124861183028,17691174582692501817,11659761784862083914,15605990810664488081,8513186435170915533,9119937548486485031,812755729612107264,14061683993279313648,2340098924476632664,13682543394407590211,9366903069950130850,14685588814260989361,14124771592146819175,7258076757818473581,3238543676992715145,12231550169875928951,7879759210734068703,6713822810844750668,9452114764004453909,18249122356374258410,9445820485571030261,12832272442826468350,2196746375241317913,12797986796675032343,3729493138077559504,12006633444443849545,15295026711465839688,12915211722368250611,15210522626103821867,2884137401052789478,676736413005499060,7247914428347142900]
#print PySem.W.Fast
open PySem PySem.W PyProof.Rows
end
set_option maxRecDepth 100000 in
set_option maxHeartbeats 0 in
theorem PySem.Challenge.cw_lastwaltz_k51_names_and_dances_at_the_de_holds : PySem.Challenge.rw_lastwaltz_k51_names_and_dances_at_the_de.Holds := by
 w_on;o_law;k_head;(case hw=>w_witness2)
 k_fill
 refine Wk51.walk (l:=PySem.Challenge.rw_lastwaltz_k51_names_and_dances_at_the_de) (c0:=492) (P0:=488) rfl rfl (fun w h Y=>PySem.W.km_in_of Y) (fun w h Y=>PySem.W.km_tabs_of Y _ (Ze)) (fun w=>by kernel_rfl) (fun w=>by kernel_rfl) (fun w=>by kernel_rfl) ?F
 case F =>
  intro w mg fa h KX G hmg CK htab;refine' Wk51.all_mk2 KX G hmg CK htab ?aC ?Uu ?Uk ?Uq ?Rf ?Us ?Ur ?b_cN ?pg ?hd ?po ?sa ?KR ?Ba ?A9 ?GF ?TF ?TL ?QE ?TN ?TM ?g1 ?g2 ?g3 ?g4 ?g5 ?g6 ?g7 ?g8 ?tN ?wS ?wR ?wI ?x_aa ?x_ma ?x_mm ?x_sa ?x_sm ?x_ss ?x_ta ?x_tm ?x_ts ?x_tt ?x_na ?x_nm ?x_ns ?x_nt ?x_nn ?mk ?kc ?Ux ?Uv ?Uw ?n_cb ?n_ze ?n_md ?n_dg ?n_dz ?dzo ?dzs ?n_y0 ?n_y1 ?Ul ?n_cTk ?Ut ?Uo ?Um ?kpg ?khd ?kpo ?ksa ?Gi ?Gj ?AJ ?vJ ?kmk ?kkc ?bpg ?bhd ?bpo ?bsa ?bna_figures ?bna_lengths ?bna_rows ?bmk ?bkc ?epg ?ehd ?epo ?esa ?ena_hall ?ena_keeper ?ena_book ?emk ?ekc ?xn ?n_mp ?n_ml ?n_mt ?n_kd ?kdo ?n_dp ?n_cs ?szo ?szs ?sz1 ?sz2 ?sz3 ?sz4 ?sz5 ?sz6 ?sz7 ?TH ?e_cTk ?TQ ?TK ?TJ ?x_bb2 ?x_tb2 ?x_tt2 ?x_ub ?x_ut ?x_uu ?x_lu ?x_ll ?x_ff ?xB ?xT ?xU ?xL ?xF ?x8 ?sZ ?mO ?qw ?tq ?zZ ?ye ?yf ?nq ?yq ?qy ?kG ?tj ?sW ?qA ?va ?FN ?yu ?Ab ?vd ?u9 ?xZ ?sY ?C0 ?js ?pX ?mR ?eV ?pZ ?ir ?vf ?yp ?ve ?iu ?kF ?wP ?ya ?Aa ?yo ?oP ?rW ?qB ?tE ?x9 ?zW ?pV ?pW ?tp ?vb ?mV ?qx ?jR ?kC ?kA ?n6 ?sV ?zY ?C3 ?C2 ?yb ?zX ?mX ?yc ?yi ?yg ?yk ?tz ?vc ?i9 ?lP ?qD ?mZ ?ue ?lO ?z9 ?pY ?mY ?qC ?ym ?yj ?n8 ?Sc ?S9 ?LF ?wL ?LG ?Qe ?S8 ?Qc ?S0 ?S7 ?HV ?Cd ?Tc ?Tb ?Ta ?Qd ?Tf ?yZ ?Te ?Td
  (case aC=>k_is)
  (case Uu=>k_is)
  (case Uk=>k_is)
  (case Uq=>k_is)
  (case Rf=>k_is)
  (case Us=>k_is)
  (case Ur=>k_is)
  (case b_cN=>k_is)
  (case TF=>kernel_rfl)
  (case TL=>kernel_rfl)
  (case QE=>kernel_rfl)
  (case TN=>kernel_rfl)
  (case TM=>kernel_rfl)
  (case g8=>kernel_rfl)
  (case x_aa=>kernel_rfl)
  (case x_ma=>kernel_rfl)
  (case x_mm=>kernel_rfl)
  (case x_sa=>kernel_rfl)
  (case x_sm=>kernel_rfl)
  (case x_ss=>kernel_rfl)
  (case x_ta=>kernel_rfl)
  (case x_tm=>kernel_rfl)
  (case x_ts=>kernel_rfl)
  (case x_tt=>kernel_rfl)
  (case x_na=>kernel_rfl)
  (case x_nm=>kernel_rfl)
  (case x_ns=>kernel_rfl)
  (case x_nt=>kernel_rfl)
  (case x_nn=>kernel_rfl)
  (case Ux=>k_is)
  (case Uv=>k_is)
  (case Uw=>k_is)
  (case n_cb=>k_is)
  (case n_ze=>k_is)
  (case n_md=>k_is)
  (case n_dg=>k_is)
  (case n_dz=>k_is)
  (case dzo=>exact rfl)
  (case dzs=>kernel_rfl)
  (case n_y0=>k_is)
  (case n_y1=>k_is)
  (case Ul=>k_is)
  (case n_cTk=>k_is)
  (case Ut=>k_is)
  (case Uo=>k_is)
  (case Um=>k_is)
  (case xn=>kernel_rfl)
  (case n_mp=>k_is)
  (case n_ml=>k_is)
  (case n_mt=>k_is)
  (case n_kd=>k_is)
  (case kdo=>exact⟨_,_,_,rfl,rfl,rfl,by decide,.cons ⟨_,rfl⟩ (.cons ⟨_,rfl⟩ (.cons ⟨_,rfl⟩ (.cons ⟨_,rfl⟩ (.cons ⟨_,rfl⟩ (.cons ⟨_,rfl⟩ (.cons ⟨_,rfl⟩ (.cons ⟨_,rfl⟩ .nil)))))))⟩)
  (case n_dp=>k_is)
  (case n_cs=>k_is)
  (case szo=>exact rfl)
  (case szs=>kernel_rfl)
  (case sz1=>exact⟨_,_,_,rfl,rfl,rfl,by decide,.cons ⟨_,rfl⟩ (.cons ⟨_,rfl⟩ .nil)⟩)
  (case sz2=>exact⟨_,_,_,rfl,rfl,rfl,by decide,.cons ⟨_,rfl⟩ (.cons ⟨_,rfl⟩ .nil)⟩)
  (case sz3=>exact⟨_,_,_,rfl,rfl,rfl,by decide,.cons ⟨_,rfl⟩ (.cons ⟨_,rfl⟩ .nil)⟩)
  (case sz4=>exact⟨_,_,_,rfl,rfl,rfl,by decide,.cons ⟨_,rfl⟩ (.cons ⟨_,rfl⟩ .nil)⟩)
  (case sz5=>exact⟨_,_,_,rfl,rfl,rfl,by decide,.cons ⟨_,rfl⟩ (.cons ⟨_,rfl⟩ .nil)⟩)
  (case sz6=>exact⟨_,_,_,rfl,rfl,rfl,by decide,.cons ⟨_,rfl⟩ (.cons ⟨_,rfl⟩ .nil)⟩)
  (case sz7=>exact⟨_,_,_,rfl,rfl,rfl,by decide,.cons ⟨_,rfl⟩ (.cons ⟨_,rfl⟩ .nil)⟩)
  (case TH=>kernel_rfl)
  (case e_cTk=>kernel_rfl)
  (case TQ=>kernel_rfl)
  (case TK=>kernel_rfl)
  (case TJ=>kernel_rfl)
  (case x_bb2=>kernel_rfl)
  (case x_tb2=>kernel_rfl)
  (case x_tt2=>kernel_rfl)
  (case x_ub=>kernel_rfl)
  (case x_ut=>kernel_rfl)
  (case x_uu=>kernel_rfl)
  (case x_lu=>kernel_rfl)
  (case x_ll=>kernel_rfl)
  (case x_ff=>kernel_rfl)
  (case xB=>kernel_rfl)
  (case xT=>kernel_rfl)
  (case xU=>kernel_rfl)
  (case xL=>kernel_rfl)
  (case xF=>kernel_rfl)
  all_goals first | (refine' Wz.fact_mk ?a ?l ?c ?k;(case a=>k_is);(case l=>k_is);(case c=>k_is);(case k=>k_is)) | (refine' Wz.mfact_mk ?a ?i ?l ?c ?k;(case a=>k_is);(case i=>k_is);(case l=>k_is);(case c=>k_is);(case k=>k_is)) | k_is
