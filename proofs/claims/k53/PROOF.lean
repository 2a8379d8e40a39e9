import PyProof.Rows.All
import Wide.All
import OpenK.AllK
import Wide.FinOn
import Lean
import PyProof.EqAt
import PyProof.EqKinds
import PyProof.TupleCall
import PyProof.NeData
import PyProof.DictItems
import PyProof.JoinWalk
import PyProof.CallStr
import OpenK.KOwn
import KE.KTryMore
import PyProof.EnumMake
import KE.KLam
import KE.KNestM
import KE.KEqDict
import PyProof.Conv_int
import PyProof.StrWalks
import PyProof.StrCalls2
import PyProof.StrLawsIn
import PyProof.StrCalls6
import PyProof.StrLawsReplace
import PyProof.SliceStr2
import PyProof.StrBlock2
import PySem.Challenge.RW_lastwaltz_k53_each_refusal_its_own
set_option Elab.async false
set_option linter.all false
set_option compiler.extract_closed false
set_option tactic.hygienic false
set_option hygiene false
local macro_rules|`(command|#check[$ns,*])=>return Lean.mkNullNode (<-ns.getElems.mapM fun n=>do
 let x:=Lean.mkIdent (.mkSimple s!"tw{n.raw.isNatLit?.getD 0}")
 `(theorem $x:ident:True:=⟨⟩))
def Z_i:Nat->Lean.Syntax->StateM (List Lean.Syntax) Lean.Syntax
|n+1,.node i k a=>if k==`Lean.Parser.Term.cdot then modifyGet fun|x::l=>(x,l)|_=>(.missing,[]) else return .node i k (<-a.mapM (Z_i n))
|_,s=>return s
def Z_c (c:Char):Nat:=let v:=c.toNat;if v>96 then v-97 else if v==95 then 62 else if v>64 then v-39 else if v==39 then 63 else v+4
def Z_n:List Char->Option Nat
|[a,b]=>some (Z_c a*64+Z_c b)
|[a,b,c]=>some (3328+(Z_c a*64+Z_c b)*64+Z_c c)
|_=>none
def Z_s (t:Array Lean.Syntax):Nat->Lean.Syntax->Lean.Syntax
|n+1,.node i k a=>
 if k==`«term#[_,]» then let b:=a[1]!.getSepArgs.toList;match b.head?.bind fun x=>if b.length>1&&x.isIdent then Z_n x.getId.toString.toList else none with
  |some m=>if m<t.size&&t[m]!.isNatLit? !=some 0 then ((Z_i 9999 t[m]!).run (b.tail.map (Z_s t n))).1 else .node i k (a.map (Z_s t n))
  |_=>.node i k (a.map (Z_s t n))
 else .node i k (a.map (Z_s t n))
|_,.ident _ r n p=>match n.toString.toList with
 |'Z'::l=>match Z_n l with
  |some m=>if m<t.size&&t[m]!.isNatLit? !=some 0 then t[m]! else .ident .none r n p
  |_=>.ident .none r n p
 |_=>.ident .none r n p
|_,.atom _ v=>.atom .none v
|_,s=>s
def Z_t (c:Lean.Syntax):Array Lean.Syntax:=c[1][1].getSepArgs.foldl (fun t x=>t.push (Z_s t 9999 (if x.getKind==`Lean.Parser.Term.paren&&(x[1].getKind==`Lean.Parser.Term.byTactic||x[1][1].getKind==`Lean.Parser.Term.byTactic) then x[1] else x))) #[]
def Z_x (b:Array (Array Lean.Syntax))(x:Lean.Syntax):Option (Array Lean.Syntax):=if x.isOfKind `Lean.Parser.Term.instBinder then x[2].isNatLit?.map (b[·]!) else none
def Z_b (b:Array (Array Lean.Syntax)):Nat->Lean.Syntax->Lean.Syntax
|n+1,.node i k a=>.node i k (a.flatMap fun x=>(Z_x b x).getD #[Z_b b n x])
|_,s=>s
def Z_v (c:Lean.Syntax):Array (Array Lean.Syntax):=c[1][1].getSepArgs.foldl (fun b x=>b.push (x[1].getArgs.flatMap fun x=>(Z_x b x).getD #[x])) #[]
def Z_d (x:Lean.Syntax):Lean.Syntax:=let d:=x[1];let k:=d.getKind
 if k==`Lean.Parser.Command.definition then x.setArg 1 (.node .none `Lean.Parser.Command.theorem #[.atom .none "theorem",d[1],.node .none `Lean.Parser.Command.declSig #[d[2][0],if d[2][1].getNumArgs==0 then .node .none `Lean.Parser.Term.typeSpec #[.atom .none ":",.node .none `Lean.Parser.Term.typeOf #[.atom .none "type_of%",d[3][1]]] else d[2][1][0]],d[3]])
 else if k==`Lean.Parser.Command.abbrev&&x[0][4].getNumArgs==0 then (x.setArg 1 (.node .none `Lean.Parser.Command.definition #[.atom .none "def",d[1],d[2],d[3],Lean.mkNullNode])).setArg 0 (x[0].setArg 4 (Lean.mkNullNode #[.node .none `Lean.Parser.Command.noncomputable #[.atom .none "noncomputable"]]))
 else x
def Z_o:Nat->Lean.Syntax->Lean.Syntax
|n+1,.node i k a=>let a:=a.map (Z_o n)
 if k==`Lean.Parser.Tactic.obtain&&a[2]![1].isIdent then Lean.Unhygienic.run do
  let v:=a[3]![1][0]
  let (b,z):=a[1]![0][0][0][1].getSepArgs.foldl (fun (b,z) p=>let q:=p[0][0][0][0];if q.getId==`rfl then let y:=Lean.mkIdent ((`r).appendIndexAfter (z.size+1));(b.push y.raw,z.push y) else (b.push (if q.isIdent then q else .node .none `Lean.Parser.Term.hole #[q]),z)) ((#[]:Array Lean.Syntax),(#[]:Array Lean.Ident))
  let b:Array (Lean.TSyntax `Lean.Parser.Term.funBinder):=b.map (⟨·⟩)
  let t<-if v.isOfKind `Lean.Parser.Term.app then `(($(⟨v⟩))) else pure ⟨v⟩
  let c<-if v.getId.isAtomic&&v.isIdent then pure #[<-`(tactic|clear $(⟨v⟩):ident)] else pure #[]
  return (<-`(tactic|($(#[<-`(tactic|refine $(⟨a[2]![1]⟩):term $t fun $b*=>?_)]++c++(<-z.mapM fun y=>`(tactic|subst $y)));*))).raw
 else .node i k a
|_,s=>s
local macro_rules|`(mutual $c:command $cs:command* end)=>do
 if !c.raw.isOfKind `Lean.Parser.Command.check then Lean.Macro.throwUnsupported
 let t:=Z_t c
 let cs:=cs.raw.map (Z_s t 9999)
 let b:=Z_v cs[0]!
 return Lean.mkNullNode (<-(cs.extract 1 cs.size).mapM fun x=>do
  if x.isOfKind `Lean.Parser.Command.where then return (<-`(command|end)).raw
  if x.isOfKind `Lean.Parser.Command.print then return (<-`(command|end $(⟨x[1]⟩):ident)).raw
  return Z_d (Z_o 9999 (Z_b b 9999 x)))
mutual
#check[Prop,
some,
none,
true,
.int,
(by lia),
(Zaf),
· = Zab ·,
pins,
.ref,
(Zaj ·),
.inl,
dL K · · · f fd,
.none,
.nil,
(pv 0),
.inr,
s.heap.objs.size,
0,
0,
(pv 1),
Yb rfl,
V.int,
.str,
(pv 2),
false,
(by decide +kernel),
st.worn,
(by decide),
.cons,
s.heap,
(ZaC),
X.env,
"row",
.lst,
.non,
H ·=Zab ·,
.fields,
(by simp),
(ZaM),
(k:Int),
base,
upd · · · ·=Zab ·,
xs.length,
V.ref,
.seq,
cY hr,
fun z=>·,
(by rw[·];exact ·),
(#[aW,·,·]),
V.str,
·.length,
#[aZ,(· ·)],
((·:Nat):Int),
aw · · (ai ·),
Paired,
· b=Zab o,
"hall",
B.dx,
⟨_,·⟩,
[Za5,·],
fun q=>·,
H ·=Zac,
"back",
"guest",
.tup,
#[aZ,·]<=·,
List,
Zbd Str,
Zbd Int,
Zbd V,
Zbd Expr,
Zbd Nat,
S.ob,
hr.m,
(pv 3),
⟨·,·,(·)⟩,
.type,
st.circ,
I.hok,
look,
⟨·,·,?_⟩,
Ya _,
qual,
this,
U.cl,
⟨_,rfl,·,rfl,·,·⟩,
(#[aV,·]),
0,
(Ya _),
Zbd Env,
Bool,
X.prog,
· x=Zab ·,
Zab #[ak,·],
⟨·,?_⟩,
#[a7,rfl],
Zaj p,
#[ah,mg ·,#[ak,·]],
(upd H · ·),
X.mg,
scope,
l.length,
fun e=>·,
cC.of,
[Zae ·,Zae ·],
X8 Yl,
Value,
Zbd ZbR,
iter,
outer,
#[ak,a],
#[a_,b],
X5 ?_,
1000,
(by simpa using hb),
s.heap.get?,
(by rw[·,·]),
pure,
wpAny,
if · then · else ·,
fun x=>·,
z.length,
(ZaA),
Q #[ak,·] ·,
H b=Zab ·,
Yt X G ·,
s'.heap,
s.toks,
st.hold,
2000,
·->·->Zaa,
⟨_,·,·,·⟩,
Zbd ba,
(n:Int),
#[a4,Zb0],
e_.toArray,
X.env.locals,
"go",
aS X Zai σ · ·,
Zaj a,
ah (Yz ·),
X8 h,
.Name,
Addr,
Zbd Zcq,
keep,
fun b o e=>·,
.Call,
.done,
ay H H',
(Zab ·),
(e::es),
(i+1),
(· b o e),
H' ·=Zab ·,
(pv 4),
Yf e,
Yb h,
Gl X x,
h.get?,
V.bl,
Yn.mp,
(by rw[·];rfl),
kvs.length,
(by rw[·,·];rfl),
UO.f.cl,
.tail,
(dI P w),
aT P w K mg ZaP ZcO · f fd · ·,
· (Zaf),
(c5 a b),
aT P w K mg ZaP d8 · f fd · ·,
(am),
#[ak,Zar],
Zab (Zae ·),
⟨[],[],[],[]⟩,
_::_,
YK X G ·,
mg · = Zac,
c.cN,
X.stack,
show · from ·,
l.prog,
left,
"come",
l.drop,
bL.of,
⟨_,·,·⟩,
#[c8,rfl,·],
⟨·,rfl,·,·⟩,
#[c_,_,·,·],
⟨rfl,·⟩,
YB _,
·<Zar,
cR hi,
.ins,
absurd,
Zdf · ·,
name,
"all",
(· : Str),
t.length,
"one",
"other",
(bC · Zbk rfl aA ·),
0,
r0 a b,
(ae (ax ·)),
Sum.inl,
"list",
Zbn Zds,
"zip",
"NoGuest",
"name",
"line",
(· b hb),
(Zbb ·),
#[ah,·,x],
#[c8,·,rfl],
Zar+1,
#[cS,1,·,·],
(n+1),
cH g,
(· ·).trans,
GK H H',
X8 (ZaA),
·.filter,
"enumerate",
fun _=>·,
(by rw[<-·];exact ·),
Yj.mp,
ZdN z,
s2.heap.objs.size,
.builtin,
Zbd (·×·),
#[dR,Int,Int],
#[dR,Zcq,Obj],
#[dR,cZ,V],
(bA z),
#[cd,·,Hp],
⟨·,[]⟩,
#[aK,a,·],
#[bE,p],
Ym _ rfl,
bo x v,
Zbd α,
GO rfl,
dJ k X.A,
"figure",
fs.length,
.tbl,
h'.get?,
#[a4,Zd8],
Yp.mp,
TabI,
A.d1,
A.d2,
A.sa,
(Zbn ·),
Zdr ·,
#[ak,l],
#[c8,·,?_],
ZaY ·=ZaY ·,
HH ·=Zab ·,
ae (aL ·),
#[b4,·,Zab ·,·],
Zbd Stmt,
X8 (ZaM),
ah hb,
A.handled=Zac,
bo v u,
bT (fo 19) ·,
"exchange",
.own,
body,
Value.ref,
X.base,
s1.heap.objs.size,
A.dx,
∀ x∈·,·,
W.length,
other,
YD.mp,
S.mono,
g.length,
"pair",
s1.trans,
(aE _),
(ar · · · ZeG),
(·)=Zad,
#[dW,St],
(.dK kvs),
Zbq · ·=Zab ·,
⟨·,·,rfl⟩,
q0 a,
bX P w K mg ZaP · · · ·,
(#[c2,·,·]),
#[dz,xs],
#[aW,ah ·,·],
#[cR,0].worn,
(fm · Zbk rfl ·),
· (#[aW,·,·]),
s2 _ _ ·,
#[a2,·,#[a8,·],·],
x=Zcm,
#[b4,·=Zad,·,·],
Zab o,
X.calm=Zad,
Zal rfl,
(bz · Zap Zbv Zbk aA ·),
db (hf it ZaN) fun f0 f1 f2 f3 f4 f5=>?_,
.dict,
(by rw[·];simp),
.bool,
rest,
fun i=>·,
·.lookup,
s₁,
.cell,
fun b hb=>·,
c.cA,
c.cM,
w.params,
figM,
"mask",
#[cd,·,Shared],
#[fg,ZbR],
#[fg,Unit],
ag (o:=·) ·,
#[fj,Zbb ·,·],
Zb3 · A · · E s,
#[dV,0].drop,
(aB),
gF t,
(cu Zap rfl),
(Yh _ ·),
(Zfm a),
r1 a b,
⟨o,·⟩,
zq B Zb7,
#[ak,C],
(#[b4,·,·,·]),
(dZ (be · (be · ·))),
s0 a b c,
(ZaD · Zao),
(a,b),
(0:Int),
bw xs us,
Ze6 Zaz,
⟨·,_,·,·⟩,
aR ?_,
Q (Zae ·) H,
iX r,
PA X Zcy t,
fE CX X E,
Type,
ns.length,
o.data,
items,
.ret,
rawInt,
args,
ps.length,
.free,
items.size,
Str.ofString,
(ZfU ·),
"tuple",
Zbn ZfW,
r.length,
fun x hx=>·,
0,
#[fZ,?_],
"__init__",
c.cS,
.come,
B.fp,
(by rw[·,·];exact ·),
numW,
"star",
"quad",
"terms",
(Zal rfl),
q1 a,
(Ym _ rfl),
Zal ⟨·,·⟩,
YV · · (x:=·) rfl ·,
#[aK,p,·],
(#[dM,·,·]),
az (I.tuple ·) ·,
Zaj l,
(k+1),
Za3 · · (· ·),
Zae a,
bo y u,
[a,b],
· (so:=·) (N:=·) (N':=·) (src:=·) rfl rfl · rfl · ·,
· (#[dM,·,·]),
s3 _ _ ·,
upd · · (Zbb ·),
bn st d=Zcv,
(fun i σ HK=>·),
Zbd BE,
Zax _,
#[a7,q],
(· _ _ ac),
X8 (ZaC),
#[dR,Int,Zbf],
#[dA,X.N[i]?],
aQ ZaB,
x::xs,
PE X e te,
f::fs,
Option,
ZgE ·,
#[gF,V],
#[gF,Zcq],
#[gF,Int],
∀ a b,·,
.set,
X.xe,
call,
pl.isList,
fun y=>·,
(by simp at h),
I.kIn,
fun g=>·,
eval,
(by rw[·]),
st.worn.length,
after,
show · from rfl,
x.length,
sizesD,
g.drop,
A.d3,
"hey",
∀ b o,#[a4,·]->·,
· b=Zac,
Zdf (· ·) ·,
(#[dL,·]),
(ay.refl _),
Zc7 e1,
(I.tok _),
(1:Int),
Zbd cZ,
(#[b1,·,·]),
(· (Zaj ·)),
ZbO (· _ _ ·),
⟨·,ac,·⟩,
(bv P w),
#[cQ,bK],
· _ _ _ _ ·,
#[a2,·,[·],·],
∀ b o,·->·->·->·,
#[c9,?_],
s1 a b c,
df bs f,
st.2,
⟨_,rfl,_,rfl,·⟩,
⟨·,rfl,·⟩,
#[a4,ZcG],
ZcI z,
Int×Int,
W i m σ H,
(dq aV),
Zae lo t,
Nat->Nat->ZeJ,
Zae hi u,
∀(_:·),0,
"guests",
Array,
Zhy ZbR,
"word",
Sum.inr,
YZ.mpr,
·.isSome,
Y0.mpr,
I.ok.kind,
I.pin,
·.toArray,
ns.map,
(by rw[·];lia),
A.in1,
K.lookup,
"deeds",
"circles",
c.cT,
gs.length,
"plan",
ws.map,
IsPair,
"lengths",
ba.dtL,
"tree",
A0.c,
#[cl,H,·],
#[hX,s],
(aI),
Zb3 _ _ · _ _ _,
Zaz=Zad,
#[a1,ZhP],
(i:Int),
ZbT f · g,
#[h0,(· >>= _)],
· a=Zab o,
(bO (fW · ·)),
fun u s1 zz=>?_,
#[eI,· == ·],
fq.k (k:=·) ·,
#[ak,p],
cD ZbC X.w · · · ·,
fun v s1 zz=>?_,
#[dg,rfl,·],
b=it,
#[bx,?_],
0,
(Zar+1),
#[cx,v],
s2 a b c,
ay H HK,
[Zcm],
fY f N g,
(ZgS · env),
0,
fun _ _ x=>x,
cC K H a xs,
bL K H a xs,
¬ b=a,
0,
0,
Zbd Nd,
X8 e,
Zae _,
mj A,
HK q=Zab ·,
vD c l,
(∃ m,W 0 m σ H),
∃ v:ZgG,σ=·/\·/\·,
Nat->St->Hp->Zaa,
I n s,
us.length,
cLine,
bs.map,
prog,
I.cell,
σ.set,
D.nx,
Value.none,
fun _ _ z=>·,
assign,
∀ b∈fp,·,
fun g hg=>·,
vs.length,
ZcK=ZiQ,
HT.sIx,
h'.objs.size,
Paired.mapP,
more,
fun _ _ h=>·,
show · by lia,
#[iX,·=·],
X9 (#[iX,¬ ·]),
"holders",
A.fp,
(by have:=·;lia),
G.ow,
G.wh,
left.filter,
"danced",
.exch,
"place",
"figures",
.name,
likeStep,
B.ob,
"self",
[Zjb],
[Zjb,Zdl,Zdm],
s2.trans,
#[dR,Str,·],
#[jf,V],
#[jf,Zcq],
· z · #[iW,·],
· a b c d e,
(.dK (dk ·)),
(aN · (ae (·)) ZhZ),
bR (j:=0) rfl,
#[a_,l],
X6 _ q,
· c=Zab o,
kv.1,
(ZaI (·++[·])),
(Yk ·).symm,
(.head _),
⟨·,_,rfl,·,rfl,_,_,rfl,_,_,rfl,rfl,?_⟩,
aG #[c9,·],
#[a7,ZbO ·],
#[fl,M,·,Q],
Zb0 ·=Zab ·,
#[dX,us],
(wr ZaB),
(Zcu · · [] i_),
#[aV,· (· z)],
H' b=Zab ·,
r2 a b,
¬ (#[dj,·]=·),
⟨·,rfl⟩,
st.1,
fl.1,
Zaj C,
x∈Zfo,
p.1=g,
#[ji,kN,·,·],
Zae i,
#[bE,l],
Zbd Dt,
q2 a,
q.2.1,
#[bc,·,·+1],
(fun i σ HH=>·),
fun B=>Zfu,
Zab v,
Yb e,
xW z,
#[a2,·,Zjc,·],
Zaq rfl,
Yx r,
x::r,
Pv 0 σ H,
#[dR,κ,V],
.pl f,
Hp->Zaa,
ZeF s2,
p.1=k,
a≠b,
[_,_],
Zae 0 0,
[Za5,Zff,Zba],
aO P w K mg ZaP d8 c.C · · · (· c.C),
ZipApart z TI TO i1 i2 l1 l2,
∀ g∈·,·,
Keyed,
Zhy Zkd,
h.objs.size,
.frz,
∀ b u,·,
mainGlobals,
X.fs,
p.isList,
fun y hy=>·,
starEach,
List.range,
ys.length,
{ s with heap:=· },
#[kp,h'],
(by show ·;lia),
s₁.heap,
False,
fun _ _=>Zkt,
bs.length,
(by simp[lT,GJ]at e),
A.cs,
"worn",
ds.length,
params,
word,
∀ c o,·,
f.word,
"moment",
"known",
"_law_k",
"deep",
UO.k.cl,
[Zjb,·],
#[kJ,Zba],
#[kJ,Zd5],
(·)=Zaz,
#[kM,· == ·],
(aj · (aj · ·)),
#[kO,·,·,aV],
(Zcp x ·),
(· (Zaf)),
E #[ak,·] · H',
· (cI I q ·),
#[kT,·,ZaN],
· T U VM UO h,
#[ji,nc,·,#[kV,·]],
#[ji,jF,·,#[kV,·]],
X6 _ e,
Pv i σ H,
0,
#[hD,·]=Zad,
Zb6-·,
· b=Zab u,
X5 (· (X5 ·)),
(.dK (vU ·)),
#[kQ,p],
#[ah,·,y],
(·::Ze7),
(upd H · (Zbb ·)),
X5 (· ?_),
Sem ZbR,
⟨_,rfl,p,·,_,rfl,·,·,_,rfl,p,·,·,·,rfl,·,·,·⟩,
Zhy Nat,
ZcG a=Zab ·,
(Yo (Yf e)),
(· _ _ e),
r3 a b,
#[bD,·,ZfS],
t.2.1,
#[ak,x],
Zaj Zar,
ah n,
#[cQ,Yi],
· σ H1 fun y H2=>·,
(a::l),
[Za5,Zdl,Zdm],
#[aV,?_],
#[ak,b],
(d+1),
Zaq ⟨·,·,·,·⟩,
bo x u,
#[bw,_,two,·],
Zal (ZbO ·),
[Za5,Zba,"ask"],
EP X Zai σ Q · ·,
(Zf1),
[Za5],
X8 hm,
.bl _,
ah z,
#[a7,e],
Zbn ZdK,
#[fg,Result],
#[c_,·,#[jw,·],·],
Yx rel,
#[dY,o],
Int->ZbB,
p::ps,
ZeC s1,
#[fk,[·,Zaw ·],·],
Zi_ w,
Zbq ZaB g,
(Fj ea C Zac),
ZaD r t,
fb X.K fd ps ds,
sp vs H Q E,
t::ts,
bw T_ ds,
(.fresh 0 0 led),
YQ (eK I hg hm ?_ z_),
"wears",
"free_tree",
pos',
base.get?,
∀ a o,·,
·.objs.size,
YM.mp,
K.In,
Zl4 ZaE,
I.hok.fresh,
I.loc,
fun p hp=>·,
fun x y H Q=>·,
A.units,
codeAny,
bare,
kindOf,
.local,
e_.toArray.size,
hlen,
value,
z.cps.toList,
e_.length,
"str",
"dict",
Zbn Zmj,
l.map,
w.length,
(by show ·;decide),
(#[mn,·]),
XCallee,
Zmp P w K mg ZaP · · · ·,
.compLoop,
YD.mpr,
field,
t1.trans,
gs.map,
"breaking",
x.cps.toList,
numV,
ys.size,
fun t ht=>·,
#[mA,?_],
h1.objs.size,
"rows",
f.dt,
ba.dt,
ba.lenL,
V.int.inj,
numAt,
"text",
U.nW,
"bracket_at",
"mask_walk",
"face_walk",
"talking_trees",
oM.nd,
(ZaI (· ·)),
#[mQ,·,Zaw],
#[mQ,·,ZaY],
#[mQ,·,ZcH],
#[mR,(· ·).map],
ZgS · ZaG,
(Zaz,#[mV,·]),
#[mW,e],
(dv (pv ·)),
#[mY,1],
#[mY,2],
#[mY,0],
#[mY,3],
#[mY,4],
#[gF,ZbR],
Str->Zm4,
Zkm · ZaG=·,
#[m6,·,·::Zkm · ZaG],
#[m7,Zcy,ZmX,es],
ZiK σ ·,
(ae (aN · (ae (ax ·)) ·)),
(aN · (ae (aL ·)) ZhZ),
(upd · · #[jk,·]),
·<=Zb6,
#[mQ,·,ZaS],
#[ak,f],
gT Zc1,
b∈Zne,
(fun cl C s2 H2 ex=>·),
⟨·,#[aV,·]⟩,
(env::ZbU),
(fun b o hb e=>·),
(#[hJ,·]),
#[fj,ZaI ·,·],
#[nl,[],·],
ah (ao e ·),
0,
#[ah,·,v],
(Zab (Zaj ·)),
#[cx,dx],
#[g2,·,b≠·],
eY (· Zbp e) ·,
#[e9,·] #[dj,·]=Zab ·,
H1 ·=Zac,
standAt ·,
#[fa,?_],
PE X (· · · pos) ·,
Zc7 (· _ _ ·),
(X6 _ e),
(Zb6:Int),
#[a_,a],
#[js,Zbu],
[(y,cy)],
#[ct,ZkY],
ZcG ·=Zab ·,
t.2.2,
Zaw a,
(· _ _ _),
Q (.bl ·) H,
(K Zfd),
gW X (ZdQ ·) ·,
#[dg,z,·],
Zdr b,
#[da,rfl],
·=Zb2 Zaz,
Zae (Zh3+1),
cD P w H h a ·,
[ZhA],
⟨Zdb,·⟩,
(d:Int),
#[cL,YC,·],
Zaj t,
b≠e,
Zi7 a b,
(#[b4,·,·,·])=·,
s3 a b c,
#[jj,u0],
#[jj,u1],
#[jj,u2],
#[jj,u3],
#[bJ,a,o],
fun a (·:·)=>· a=Zab ·,
(jc (jd ·)),
A3 a b l,
⟨0,0,0,0⟩,
(#[cJ,·]),
(sI),
[Za5,·,·,·],
fun o=>(·,o),
#[a_,q],
q3 a,
0,
Yg ?_,
#[aX,ah ·,·],
(wr W),
(Zax w),
t σ H Q,
(1+t0),
fun r=>(rH Zbo r).isNone,
0,
k _ _ Zf' e,
[ZmJ,"at"],
(qJ · (jH rfl (bM · (bM · gG)))),
0,
(#[gT,·]),
(fun i σ HH _ ·=>·),
(tO c l).map,
fun _ _ _=>Zkt,
(jz _).mem_iff,
Zaj c',
X8 hx,
b≠C,
Zal h,
Zl4 h,
#[a2,·,ZkK,·],
YO ?_,
#[kJ,Za5],
#[cP,·,·,(· c)],
Yx pr,
zp A,
#[g5,rfl],
bT (fo 33) ·,
bw vs us,
Sem ZbB,
#[nb,a],
ZeD<=60,
#[ft,e],
gq K ck ·,
jA c H p A ZcR · Q E,
#[eO,·,1,[·],·],
env.frame=Zab L,
IZ X.K C,
X.K=K,
(by rw[Z5,ZC];kernel_rfl),
AY bs w,
Zhy (ZgE ZbR),
aG ⟨_,rfl,_,·,rfl,· qz,?_⟩,
ak (hN σ7 H7 n7) fun m' hm w7=>?_,
k z0 z1 z2 z3 z4,
"first",
"wearer",
"_law_cell",
L.length,
xs.map,
sc.names.lookup,
X.s₀.heap.get?,
X.ex,
I.ok.above,
I.os,
I.free,
I.freeC,
Yd.mp,
(Zpb ·).1,
.next,
s₂,
fun D σ H=>·,
#[pf,· σ H ·],
I.kept,
sizeLine,
·<=Zpi,
Zpi=16777216,
#[pj,(·:Nat)],
#[pl,2],
#[pj,Zb6],
(by rw[·,·];lia),
I.laid,
ps.zip,
valueAt,
.all,
fun a b=>·,
"list_reverseiterator",
"reversed",
B.get?,
exOb,
I1.bk,
"Same",
2147483647,
·.flatten,
fun b o e n=>·,
.Lambda,
t[i]?,
acc.length,
a.size,
b.size,
fun c hc=>·,
y.length,
"NoText",
g5.objs.size,
.row,
ZpM fs,
RD.up,
once,
YT.mp,
"NoWay",
io.map,
"deed",
U.nH,
PW.pt,
A.sl,
dF.nd,
as.map,
ZpY ZaS,
#[nc,ZpY],
∀ b o,·->·->·,
#[p1,#[a4,·],·,·],
#[p1,b≠·,·,·],
(#[fa,·]),
#[p4,?_],
(· (pv 1)),
#[p6,dP],
#[aZ,(· (· ·))],
(fW Zap ·),
#[dn,·,#[p9,·]],
(ZiU · ·),
(Yf e),
#[dy,·].1,
Zb3 _ _ · _ _ s,
#[qc,(· >>= _)],
∃ m,m<n/\·,
ZhB w,
· a b c d,
⟨rfl,·,·⟩,
#[jf,ZbR],
(Yt X G ·),
q.1.1,
#[bD,ZbK,·],
[Zax ·,Zaj ·],
(upd H · (.dK [])),
(fun i σ HK _ ·=>·),
k=Zad,
#[a0,·,Zaw],
(dS Zbo a b),
#[ju,·,Zc7 ·],
(put Zcb mb a),
p.2.2+1,
(i:Nat),
(upd · · #[jr,·,·]),
(s5 _ _ ·),
#[a1,Zd6],
Zaw b,
∃ sl,· b=Zab { o with slots:=sl },
(ZgM (ZdQ ·) ·),
Yo (Yf e),
#[c8,#[b_,·],ZbG],
sIx ZfT 0 lo,
(oE),
(YB _),
#[pj,ZcK],
(Zkn ·).map,
#[dD,·,(· c.C)],
(· b o q),
KV kvs vs,
nE P w H ·,
(hU kvs k v),
· #[iM,·],
fun q hq=>?_,
(s1.free ·),
#[a1,0],
#[ed,T],
Yc (#[gW,·]),
PE X (Zcu Zk6 Zcy [] pos) ·,
#[g',ah ·,ac],
(au · H Zg8 · q),
sIx ZfT ZfT hi,
bv ZbC X.w,
· T U VM UO h · · · ·,
(ZmB),
(#[ee,·]:cZ),
#[bu,0].1,
#[ey,Zfo,·],
I.tok _,
Fr _,
b∉fp,
#[mR,r.map],
Zaq (Zaq ·),
(Zfe d),
Nat->ZbB,
#[h4,i],
#[p',·,#[iM,·]],
(ZeF (ag ·)),
(Yg ?_),
(vs++T_),
Un fs ex H · h ·,
TB T H',
#[dg,(Yk z).symm,·],
yK P w K · · [it] it (fun i h=>·),
Z2 hp (bD · ·),
(#[f6,·,·,·]),
(gj),
Zar<=·,
⟨·,Zag,·,·⟩,
⟨·,·,rfl,·⟩,
#[cJ,YS],
·%ZpA,
∀ fs:Zcf,·,
fun _ _ h'=>h',
#[pI,?_],
Zab (· _),
Zbd ZbB,
Zbd ExceptHandler,
0,
X8 c,
X8 z,
X8 h1,
X8 h2,
r=Zad,
Yb c,
Yb z,
Yb hj,
hf z,
b≠x,
b≠ZhW,
#[c9,h],
#[kJ,Zi8],
i<ZaR,
b∈T,
(Zi7 a b),
Yc rfl,
#[dA,xs[k1]?],
#[c',·,?_],
Yx r',
Zb0 ·=Zab o,
(.dK []),
#[cn,n3],
#[dR,V,V],
#[dR,Zg_,V],
#[m9,H1],
bT (fo 91) ·,
aQ l,
(ag hp),
2 ^ 40,
Zd_ hx,
Zo8=[],
Zal (Zal ·),
(dS ci a b),
a::l,
2<=ZeD,
gM st,
h.Ns Zki mg,
⟨q,hq⟩,
Zae 1 v,
(pK tl),
ltl b o e z,
x=Zae i,
gL (K Zfd) · ·,
(show False from r).elim,
(dq (dv ·)),
Zpw e=Zac,
oe.data=ZaL us,
X.env.frame=Zab Zcj,
Zdf (show #[dj,·]=· from w) Zb7,
gm · gs=Zac,
bD h7 fun _ s8 zz=>?_,
#[h9,apos.endLine,i_.line],
PI X tg ZbT wi,
ZbR->ZgH->TS,
0,
(dR cs ci),
(put Zqt ma b),
hl i σ H hi p,
(tG H ts ps),
I8.pinned (o_ fr8) (T.obj _ _ st8),
turn i n σ6 H6 w6,
k z0 z1 z2 z3,
⟨_,rfl,b,Zex,_,rfl,·,·,_,rfl,b,·,A,bs,·,rfl,·,·,·,·⟩,
swapsWith,
"met",
∀ dx H',·,
"range",
Zbn ZsA,
.func,
∃ a b,·,
∃ a b c,·,
∀ a b c,·,
.met,
.ext,
Heap,
h2.get?,
X.outer,
Zc1=ZaG::ZsK,
.function,
sc.kind=ZsM,
(by rw[·];decide),
I.ok,
I.len,
free,
I.bare,
.BoolOp,
False.elim,
ZsU hq,
fun b H1=>·,
s2.heap,
self,
BindsTo,
I1.kIn,
scope.names.lookup,
S.kind,
V.non,
vs.toArray,
getItem,
slice,
"int",
"set",
#[ed,Zs8],
trivial,
(by simp[e]),
model,
(Zta ZiH w),
#[fl,Ztb,·,Q],
(Zta P w),
Zl' Ztb A · R s,
NameKind.free,
names,
#[kc,Ztg d,·],
(Ztg d).map,
X.A.in1,
p1.isList,
p2.isList,
1000000,
"ValueError",
0,
{ s' with heap:=· },
st.circ.length,
st.deeds.length,
c.cW,
c.fN,
G.wn,
RD.flat,
pyIter,
ks.length,
Yp.mpr,
ts.length,
again,
ZtA I10 K_,
s'.heap.get?,
.noguest,
fun w hw=>·,
x.cps.toList.length,
V.str.inj,
X9 (#[aV,#[g4,ZtG,z,(by dsimp only[b9.word];decide +kernel)]]),
ps.map,
ba.rowL,
us.map,
"Unknown",
"BaseException.__getattribute__",
"ring",
"_law_script",
nO.k,
S.cs,
"length",
"row_of",
fun ds N=>·,
tI.same,
"parts_at",
"figure_at",
(by simp[c5]),
Wz.KT,
(· ZbC X.w),
#[tZ,Zta],
Zb3 Zt0 X.A · · ZgL s,
#[fl,Zt0,·,Q],
#[tZ,bv],
· K #[ak,·] ·=Zab ·,
#[e9,·] #[dj,·]=Zac,
#[t5,(bh B),·],
∀ B:HA,#[t6,·],
#[kN,·,#[dj,·]],
#[t8,·,"__debug__"],
#[t9,x],
∀ H',Zcw->·,
#[t',#[kS,·,Zac]],
(.ListComp elt · · pos),
(· #[ub,·,ZbL] · · acc env),
#[iX,·<=·],
Yc (#[ud,·,·]),
#[ue,(2:Int),Zh2],
#[dy,t_],
ZaY #[fV,·]=ZaY (ZfU ·),
#[g3,H'],
#[ah,·,(Zab (ZdQ ·))],
#[mn,#[pl,·]],
⟨#[uk,·],·⟩,
∃ o',· b=Zab o',
#[um,Zpw],
Zb6<=·,
#[uo,Ztm],
#[uo,12],
Zdf (·) Yl,
#[ur,show Zh1 from hs],
Zca+1,
⟨_,rfl,_,_,rfl,rfl,_,rfl,?_⟩,
aR Zuu,
·<Zpi,
(.dK (mi t)),
(ZgS · ZaG),
#[m',(ar bu · (aB) ZeG),·],
Zeu ·,
#[cl,H',·],
(Zc6 1),
(put ZaB a mb),
gT ZbU,
Mod K mg ·,
XD dx H',
uG · P w K mg ZaP N Zbt · f · A ZbU · · E,
#[uH,ZcO,sc,cd,s0,H0],
#[ak,ZdP],
Zbd Keyword,
Num z ds,
∃ ds,ZuL,
#[iO,js X Zai · b],
(ae (aL ·)),
#[eg,#[uO,·]],
#[kO,·,·,#[kO,·,·,·]],
az (I.tuple hq) ·,
(Zl6 (Ya _)),
o.cls=Zbn ·,
[u1,u2,Zaj f],
ZgE (·×Zbi),
#[ce,·,rfl,rfl],
(cx W),
(.dT (Cv ·)),
Zaw ·=Zaw ·,
(show · from r),
(pv 5),
(bz · Zu1 ZcM Zbk aA ·),
Zae g,
#[bD,·,Ze'],
#[ee,p.1],
(ZaI xs),
#[aK,l,Zu6],
#[a0,fG,l],
aT P w K mg ZaP CX k f fd ps ·,
fun e_ r pl hz=>?_,
Zax z,
Zaw g,
#[mV,o],
(Zkg o u),
#[k4,Zb,·],
#[eL,ZaB,·,m],
RD X.K H n · d,
Zd' H' P0 lp ql,
[p.1,p.2],
(· Zai s1 σ H1 _ I1 q1),
fun _ q=>q,
∃ k:Bool,(·)/\·,
0,
Zal #[a7,·],
(Zf4 a),
g∈L,
#[nb,1],
#[k2,ZfY],
#[uB,s'],
no _ Zb7,
(ZcN _ Zjt),
[Zac,Zab ·],
(ps++[y]),
⟨as,·,#[p',·,·]⟩,
(ZgZ 1).map,
(iq Zap · rfl),
aS X Zai σ' H' s',
[ZcH Zad],
(· (· · 0 lo)).take,
∀ (l:Addr)(H':Hp),Zjn->Zcw->·->Q Zef H',
bD (· Zai s1 σ H1 _ I1 ·) ·,
#[aW,·,e],
#[l8,?_],
r4 a b,
#[jj,u4],
#[jj,u5],
#[c',two,·],
ZbK · = Zac,
(ag hl),
#[k3,Zd8],
#[h7,Zfn,·],
#[uw,ZcK],
#[uT,ZfW],
#[uW,Zd0],
(ZhI Zaw),
(Zbq l g),
[Zdl,Zdm],
aO P w K mg ZaP ZcO c.C · · · (· c),
(fun h=>·),
[Zac],
#[aW,e,·],
#[dJ,[r]],
(lS z).mp,
fun i j=>Zae (·),
#[gR,32::bA (mr g)],
∀ a∈as,ZnC,
Zaj d,
#[dR,·,ZbR],
· (ZaC) ·,
X8 A.al.symm,
Yb hb,
Zf4 a,
#[tZ,dI],
#[dg,ZnD,·],
#[dg,·,ZaN],
#[bE,q],
ak (PySem.W.any_some ·) ·,
s4 a b c,
#[da,?_],
(upd H · (ZaI ·)),
(AV i),
Yi h2,
#[p9,Zau],
Zaq (Zal ·),
#[k2,e],
mh K · ·=Zad,
rel.val k,
ah (#[aV,·]),
(q _ ZuS),
· P w K mg ZaP ·,
#[ah,kvs[i]?,p],
⟨h1,h2⟩,
bw xs e_,
ZfU "__next__",
[x1,x2],
RD.tup (Zc7 ·) ·,
Zta ZiH w,
· (fun n s'=>·) ?_ m0 ·,
aO Zc3 w K mg ZaP · cb · · ZkL ·,
(fun j σ HK=>·),
·≠Zar,
⟨?_,·⟩,
⟨·,#[aW,·,·]⟩,
⟨·,ZaM⟩,
#[aW,·,· ·],
fun cl R_ q1 q3=>?_,
(by rw[<-hs3]),
fun u=>·*len u,
#[fV,·].cps.toList,
Zab j,
Zab _,
#[ak,q],
Zaj ea,
X8 A.ab,
ok=Zad,
Yb h1,
Yb hm,
.ok _,
(m+1),
aG ?_,
b≠a,
#[a7,#[hb,·,·]],
Zbn "list_iterator",
#[fg,Nat],
ZcI h,
Zf4 g,
.go g,
ND H H',
#[am,Zf2,·,·],
p.2.1,
Za ?_,
wpAny_noted ?_,
#[hX,Zkq],
b=Zew,
Zc7 e2,
b∈fs,
Yx hp,
#[pc,hx],
Str->Nat,
ay H HH,
(Zfm e),
#[cn,n2],
X.A.handled=Zac,
theTreesLotGoes x,
#[p6,dD],
(Ul x),
(ZaI []),
(ar qF · (aB) ZeG),
Yg h₁,
ZfP pos.col,
ZeB hc,
Zal (Zaq ·),
f2' y,
Q v H,
#[mS,ZpS],
PA X es t,
ZcI hx,
bA tl,
ag hl,
#[p_,·,ZcC],
cR hj,
(Fj ea C Znr),
#[qj,a9],
#[nw,apos.atName],
ae #[p6,aL],
Zl6 (Ya _),
(qv (lQ bq)),
u::us,
ay H1 HK,
(iV st d),
tn 0 h4,
·=Zar+·,
x∉Zfo,
Zae d v,
· Zc3 w K mg ZaP ·,
ba->Nat,
Zp List.length ·,
⟨t,ev⟩,
#[iO,b<ZdP],
PE X o ta,
#[qe,I m s₃],
#[am,x,Zbt,st],
(Uy d o kvs),
(Uz d o kvs),
c::cs,
#[c_,Zac,ag hq,ac],
-(2 ^ 40)<=·,
⟨sl2,e3⟩,
H6 C=Zac,
y=Zaj b,
Yg #[da,h₃],
#[fj,ZaI (· ZaY),·],
(iM ZA rfl · · ·),
[_,_,_],
∀ s',·->Q () s',
(Ze6 Zad),
#[ct,L_.extBut b o Zld ZnA],
S.fre y hy hf,
#[b1,e3,YR],
sm _ _ q,
(put Zcb g g),
ups b _ e1 hnf,
Zb3 Ztb A · Q E ·,
YA · ?_ (same E),
· fun _ _ _ _ _ _ _ q=>· q,
(fun h4 N_ L_=>?_),
X.N=N,
ZbK x=Zac,
#[dR,TE,TE],
PE X b tb,
Zmp Zc3 w K mg ZaP · · · ·,
aZ K x st,
PySem.W.isFn K Znd=Zad,
Zbq ZaB a,
X5 (wpAny_specialOf hT · ?_),
Yo (Q_ b hb),
[a,b,d,e],
#[sz,Zcw->ZuG->E_ #[ak,·] dx H'],
ZbR->ZbR->Zk',
#[m6,[e],[ZmX]],
ZcI (I3.stkSub b z),
b=e\/Zid,
kk HK Zg6,
(Uh ZaE a b).get? ·=Zab _,
dJ 2 X.A,
TB T H,
R (.ok Zpd) Ze_,
#[sz,·->·->ZuG->E_ #[ak,·] dx H'],
#[ct,Yo (Yw Zqa Zo9)],
#[fa,#[aW,sz3,Zo (flt b hb)]],
(rc · a9 g9),
(put l g m),
ak (hR _ O_) fun W a_ turn=>?_,
(qR W i).1,
(ax (bz · Zap Zbv · dw #[kP,·,·])),
X5 (YV he hd h1 ?_),
aM c.C H p A st,
db (t_ b hb) fun f0 f1 f2' f3 f4 f5=>?_,
⟨_,rfl,p,·,_,rfl,·,·,_,rfl,_,rfl,p,·,·,·,·,rfl,·,·,·,·⟩,
codeAny_loop rfl I (fun n s hI=>?_) n h,
k z0 z1 z2 z3 z4 z5,
"inside",
∀(xs:·),0,
∀(_:·)(_:·),0,
.Attribute,
(ZyP · · apos),
"word_at",
pos.line,
ZfP ZyS,
"dress",
"partners",
"read_number",
"is_name",
oe.cls,
B.StaysIn,
ZyZ ZaE,
ZyZ g,
Sum.inl.inj,
(by simpa using e),
IsTup,
h.push,
u.keep,
builtinsNs,
X.env.cells.lookup,
∀ x c,#[bD,Zy8,c]->·,
X.H₀,
I.ok.bs,
I.base.free,
Nat.le_of_lt,
I.ok.frf,
I.ok.bsz,
.Constant,
isTrue,
Zzf c env (ZgS c env),
wpAny_execs_nil,
fun x H1=>·,
I1.kept,
PySem.W.InstAt,
fun g h=>·,
(by simpa using h),
(Zzm),
I1.laid,
backTo,
(Zzp · (Zkm · ZaG)),
r.append,
F.run,
I.ok.mod.kin,
F.len,
A.deeper,
sc.names,
ZU.mp,
hr.hd,
bN · bp rfl Zzy rfl · ·,
#[jl,·,#[zz,·,·,Zfn]],
·.filterMap,
i.toNat,
xs[j]?,
"len",
kvs.map,
ks.map,
atKey,
dd.mapOf,
.NotIn,
s₁.heap.get?,
Or.inr,
(by simpa using hx),
fun b z=>·,
e_.toArray[i]?,
(by simpa using hl),
.error,
rv.get,
I1.hok.fresh,
2147483646,
dX.mpr,
fun b u e=>·,
#[zV,?_],
oe.dict,
"ValueError.__new__",
fun r s'=>·,
s0.heap.get?,
hx.new,
"__getattribute__",
st.deeds,
.already,
st.hold.length,
"AlreadyIn",
"Masked",
"Met",
(by simp[HA.fp]),
I.ok.glob,
compTurn,
r.take,
r.foldl,
B'.get?,
s3.heap.get?,
#[ns,ZAd,C],
T.all,
rs.map,
(by rw[·,·,·];exact ·),
(by simpa using ·),
fun e he=>·,
"0123456789",
(by simp[names]),
qs.length,
fun o e=>·,
(· #[An,·]),
b1.extBut,
xs.zip,
(ZAq ts).map,
.back,
ZAs f,
f.rowF,
"abcdefghijklmnopqrstuvwxyz",
e_.toList,
rdNum,
l.take,
"__class__",
xs[j],
"NotNew",
"twin",
"acquaint",
S1.ob,
s4.trans,
g2.trans,
y_.trans,
B2.ob,
f.len,
ZAJ (qh bs),
ZAK<=Zcc,
"check_names",
"figure_of",
ki.nd,
hT.same,
iC.nd,
dW.nd,
fun dx H' s=>·,
pM.getD,
decide,
ZAU (·),
ZAU (·)=·,
#[AW,·,Zad],
#[AW,·,Zaz],
#[AY,#[eh,·.word,·]],
fun kv=>#[AV,Zjq=·],
#[b5,#[AV,·]],
(ZAU (·)),
fun f=>#[AV,f=u],
pyNext,
(ZA4 it),
"<lambda>",
(·++".<locals>.")++ZA6,
(fun _ _=>·),
#[A8,Zkt],
#[A8,rfl],
(bP · · (am) ZA_),
#[A',bB,Zap],
#[uz,ZBa,·],
⟨_,rfl,·,·,·,?_⟩,
#[Bc,rfl,_,rfl],
aG ZBd,
aG (aG ZBd),
(· Zai s σ H _ I ·),
#[Bg,·,h],
(bD #[Bh,·] ·),
⟨_,rfl,·,_,·,_,rfl,rfl,·,·,rfl,_,rfl,?_⟩,
aG #[Bj,p,0,Zg7,rfl],
#[Bj,t,_,T0,rfl],
(dh X sc cl · N' · · ·),
#[Bm,C,s,H,ex],
Zab (Zf4 1),
Zc7 hp,
aG #[Bj,p,0,ZBp,Zjm],
#[Bj,p,0,ZBp,Zjm],
ZhB e.w,
(ZBs:cZ),
ZaT #[hH,·],
(pv 6),
(ai st),
(Zbb (· Zaw)),
(b,o),
(Zkn ·),
#[Bz,·].all,
#[bD,·,Zmc],
(dY st),
Zbd (ZgE ·),
#[BD,Nat],
#[zq,pos,·].any,
#[BF,es],
#[aZ,([]:·)],
(n,k),
(Zde c.C Za6 (bh ·)),
#[BJ,{ B with w:=lw,h:=lh }],
#[BJ,{ B with w:=lw }],
#[kp,g],
ZpD ZkA Zet ZbL s_,
Zdr a,
(ZBO:cZ),
Zdr g,
(ZBQ:cZ),
#[p8,fG,Zfm,a],
a+ZBS,
·=ZfR,
#[g2,·,#[a4,·]],
#[BV,ZAd,h4.get?],
[⟨tg,ZbT,ifs,0⟩],
bD (· Y rfl rfl rfl hc i · s6 σ6 H6 _ I6 (o_ fr6) st6 ·) fun r s7 zz=>?_,
[Zba,·],
(ZaD · (ZaD · ·)),
#[B0,·,·,Zao],
fun e_ rv p hz=>?_,
#[fZ,· x ·],
#[B3,·,#[fq,hx]],
#[ah,l.head?,·],
#[eM,·,rfl],
Q () ZBM,
#[ce,_,s2,_],
k b u q,
Zal #[qh,_,ZbO ·],
⟨_,rfl,#[B_,·],_,rfl,·,_,_,rfl,rfl,·,·,?_⟩,
IsZip · z TI TO ·,
∀ [265],#[t5,(B0 x y z),·],
#[aW,X7,·],
fun as hd hp=>?_,
ak S.d ZCd,
Zab p.1,
#[kQ,pos],
#[uF,b],
(gF t).map,
(hs.2 b (Yo (Yw Zqa ·))).trans,
(.bl _),
(ZM _),
Zdf (Yw · ·) ZCl,
s.heap.UpToSlots g,
(assignEach · ZaG),
Int×Zbf,
#[jp,Zd8],
(wr ZaB a),
#[nk,X7],
#[nq,f],
.at (Zax ·),
wr ZaB ·=·,
· (toS (fG Zfr)),
(au · H I rfl ·),
(p.1,p.2),
(Zae i t),
[x1,x2,Zaj f],
(put ZuD b ma),
W i m σ' H',
jD _ · rfl · rfl,
(#[Ai,·]),
⟨Zaf,·⟩,
#[gW,·=·],
#[ah,·,#[ak,·]],
(Zax z),
X8 (#[aV,·]),
ak (Zt.mp ·) ·,
e.n<=Zcc,
PySem.W.plainGet K · ·=Zad,
bA q.1,
vs=[ZbH,Zae ·],
[a,b,c,d],
#[ub,ZBX,sc],
∀ l,Zjn->#[b8,l,·],
⟨·,·,·,fun b o e hx=>?_,·,·,·⟩,
(ZgK #[g5,Zaz] 0),
dy · H' p f,
(n9 src σ),
(ZAl),
fl2.1,
(a:Int),
fun e_ rv pl hz=>?_,
Zaj b,
b≠T,
ZaS a,
#[dg,·,ZaF],
(uP i),
#[pB,(· #[a9,·])],
#[u0,∃ t,u=·],
#[aZ,·]<Zcc,
(us++ds),
(dI Zc3 w),
#[aK,q,#[Bx,·]],
(.List es ·),
#[a0,uD,g],
(·)/\#[bc,(bA (· ·)),·],
y=kV k,
Zqp↔d=e,
#[c_,rfl,rfl,rfl],
ZaR=·,
#[bu,0].2,
fun i v=>#[np,·],
(ZbM+1),
#[a_,x],
Zu ?_,
#[hX,s'],
Zax Zdw,
b∉ch,
#[pc,hi],
#[ei,·,#[mR,·]],
ZfP L,
#[aZ,·]=ZfR,
#[h6,ZcG],
(Zde C dx []),
.at (Zae ·),
[e,f],
v_ b o hf e n,
#[u9,sp],
⟨ds,N⟩,
[v,ZdZ],
Zeu (ZdC),
#[jC,e,h1.trans],
(dN · · · · ((· _ _).upd _ _)),
dC _ · · _ rfl #[bF,·],
∀ g,·->ZCn->ZB7,
nV B Zc1 ea · od ·,
(X.wish E),
(sx ry),
ay HK H5,
(Gz c fl),
qs dx H' s x,
i9 p fr,
#[la,Za6,Zbj,·,B,st,·,S,·,?_],
· (bD #[Bh,·] ·) hs,
fun i H x H'=>H'=H/\·,
· ZbC X.w X.K ZbK Zev · k ps sp,
· · Zai s1 σ H1 · I1 ·,
(eI 0 _ _ I4 st4 #[p4,#[ug,0].1] w0),
#[AV,#[aZ,·]+#[BH,ZuK]+(if ([]:ZuK).isEmpty then 0 else 1)<30],
(· (iy:=·) (y:=·) WS · rfl hmw hkw hbw · · · rfl CK BK rfl rfl rfl rfl rfl rfl rfl),
(#[po,·,·]),
(#[iP,·]),
(Zz9),
[ZmJ],
ZfY<=·,
ZhP<=·,
(ZnO:cZ),
⟨·,fun f=>·⟩,
#[b1,YR,·],
∃ c,#[bD,·,c],
#[ct,?_],
∃ (o:Obj)(e_:Zhz)(n:Nat),·,
#[iM,z],
YR ..,
#[fr,0].take,
fun iv s2 zz=>?_,
#[CP,0].Nodup,
(b,a),
fun _ _ p _=>?_,
(0,0),
(by rw[·];show ·<ZbY;decide),
∃ (v:ZgG),·,
#[fr,0].drop,
fun l2 m_=>?_,
ZdV[e],
fun t2 ht2=>?_,
fun l3 hl3=>?_,
#[ak,z],
#[ak,ea],
Zbd bY,
Zaj Zkf,
X8 hb,
X8 hd,
X8 hk,
#[a4,H],
Yb h2,
Yb hx,
Yb hd,
Yb hk,
Zae b,
(Zi4 x m).mpr z,
#[a_,Zar],
Zbn "dict_items",
Zbn "tuple_iterator",
#[fg,Zm4],
c5 a b,
F a b,
.pair a b,
ZtG h,
ba.dt_word h,
#[a1,ZAK],
GL H H',
Zal k,
Zal q,
e.2.1,
#[kJ,Zff],
#[kJ,ZhA],
#[kJ,ZaH],
#[bE,b],
Zc7 hq,
i<ZtF,
#[jf,Int],
.bl b,
Ze6 b,
x∈Zc4,
X9 (Zaf),
#[a8,Zba],
b∈ks,
#[cQ,ZS],
ZdN q,
b∉Zkj,
(·++[ZbM]),
Zaq x,
ZcG ·=Zab o,
#[Bh,ha],
#[cn,n1],
#[cn,n4],
q.2.2.1,
#[t',Q (.bl ·) H'],
#[dB,he],
s _ _ x.ob,
(#[dj,·],ZaS ·),
#[m',·,ZqF],
i=ZaR,
x.n<=Zcc,
dJ k A,
#[nc,ZiG],
ZeB hb,
BK.mono s2,
vs=[Zu'],
p∈ml,
#[ur,show Zh1 from fx],
ZcI hy,
wpAny_loadPart' hl,
#[hg,·,Za5,·],
#[qg,t0],
#[qg,t1],
#[k7,ys[k2]?],
∀ b,ZbW->·,
#[jG,m],
#[nv,a],
(p::r),
(RM K a),
(UB K a),
2<=ZhP,
(ba.pl f),
#[ql,Zfv],
hP b z,
u1.there b o e hx,
#[k_,Yg],
Zd' H P0 lp ql,
(rJ (lQ bq)),
(rK (lQ bq)),
ZfL<=n,
#[uN,H],
#[jM,·,· T U VM UO h · · ·],
#[uR,ZB2],
(rJ (du bJ)),
(rK (du bJ)),
(qv (du bJ)),
(rJ (ny aX)),
(rK (ny aX)),
(qv (ny aX)),
#[BZ,Za5],
#[nM,·,(· X.K)],
#[B5,40],
h _ Zg8,
V->Hp->VK->Zaa,
#[nS,o],
ZiT=ZdC,
#[Cc,Zhe],
(n+3),
#[qJ,Zjc,·],
ao ac hd,
Tr H #[na,·,B.h,·],
Zbp p _ hp,
ZhS h' Zar x y,
#[qK,hk],
#[qM,h],
Y3 he,
w::vs,
(ZtK ·).sum,
(hf b z),
Zae i tk,
· _ _ p Zag,
· _ _ Zkk Zag,
cC K H p xs,
cC K H l xs,
#[dG,fk,s2],
ZmG e fs,
(ZcN _ (ZcN _ Zjt)),
(ZcN _ (ZcN _ Zvt)),
#[Bi,ho,Zh8],
(Ds Zks H),
Int->Int->ZbB,
Zb3 Ztb A · (·) E ·,
x.1=a,
sv v=Zad,
(d7 · Zay am),
#[zq,i_,es].any,
[(f,Zu3)],
cC X.K H a xs,
bL X.K H a xs,
fK f g m,
#[CO,g],
(dE f v fs),
#[CR,#[bJ,l,·]],
#[b5,!#[AV,ZjK]],
X5 (m:=Builtin.Tuple.tupleExact _) ·,
vs=[ZbH,Zaj ·],
E5 X E,
(gX ci a),
#[ue,Zg9,Zqy],
#[Ao,·,aq2 _ _ e],
Kp Zf5 H #[na,·,B.h,·],
#[p3,S,b≠z,·],
bD (hl Zai s σ H _ I h) Zib,
ae (aL (bO (fW · ·))),
(Ztv rfl 1),
(d6 kvs k),
[#[uA,ea],u],
h2.2.symm,
(ZeF s2),
Zz0 b=Zab o2,
m6 a S1.cs,
(Zi4 x m).mp z,
#[fj,.dK [],·],
(xs++[v]),
#[bP,a,b],
x=Zax z,
cC X.K H b xs',
bL X.K H b xs',
#[iZ,(2:Int)<=Zh2],
⟨·,_,rfl,ZbO ·,·⟩,
v_ b o hf e (Zzc b hf),
#[p2,Zz0,b∉ZuE,Zun],
Zbi->#[uV,α],
X5 (X5 (YO ?_)),
2<=ZhP/\ZhP<=60,
.sq Zad [#[Cu,·],·],
dJ (k+1) X.A,
(dS Zqr b a),
aM C H' p A st,
(cK (gX Zbo g)),
N'.zip src,
St->XK,
[ZtO,ZkG],
⟨X,G⟩,
fun kv=>if Zjq=k then · else kv,
(gF t).Nodup,
(iN (Aq ·)),
Zvr/\·/\Q · H',
no _ _ Zb7,
PE X a ta,
#[aX,ah (nq ·),·],
(AO c ZhO),
(xx c x),
e1 _ _ · · (nl _ _ ·),
(Zkg oc (Zes c')),
· (Shared.heap ⟨·,g,d,tk,os⟩) · ·,
#[b9,(Zbb (k.map kV))],
#[kT,·,(Zp not ·)],
#[tc,(ZgM #[ed,·] ·)],
upd · B.h #[jk,·],
#[m7,[e],ZmX,[]],
[Zjb,Zba,Zff],
[Zjb,ZhA,Zd5],
#[hc,[],Zao],
#[jy,T,oT],
#[nu,(bh A),·,#[ak,·]],
(q::qs).map,
#[ny,Zze,·,j,·],
Za3 F l m,
ZiS n n hi,
#[zA,·,UO.eF,UO.mF],
#[Ca,ZaE,Zan],
Zbq ZaB b,
#[dM,ka,#[h_,Zqf,·]],
(kvs.any #[A0,k]),
#[CK,e2,fun q e3 e4=>?_],
#[dz,#[qm,Zdi,u]],
#[na,H1,lw,ZaB],
QA X es ta,
(· (x,t)).1=ZhB z,
#[a1,sIx n 0 lo],
(neC b o e hx),
#[jl,·,#[zz,UO.eF,UO.mF,#[fx,aB,·,gj]]],
og (I.lstM hH) fun z e_ n r hl e=>?_,
(PySem.W.kla_fn ZA6 · · · · · pm #[ak,·] ct),
hf it ZaN,
(Uk lo n),
(#[Bn,0].tried [] xe),
["at",Zdl,Zdm,Zhx],
[Zac,Zab ·,Zab ·],
∀ b xs,#[b9,ZeQ]->#[jD,ZeQ],
∀ ps,o≠Zd7 ps,
(fV Zcb m),
Zb3 Zt0 X.A · · ZgL ·,
ak (Option.bind_eq_some_iff.mp e) fun p e1 e2=>?_,
d=1\/d=2\/d=3,
(Kj lo d n),
behindInMarks op b=Zaz,
(.DictComp kx vx · · pos),
(B0 a b c),
⟨?_,?_,?_,?_,?_⟩,
allEq ks hk Zag,
gT Zc1=Zcj::ZuE,
["a","b","c","d"],
kI (o:=·) k · ZaN _ ·,
fun B=>no B _ ZaN,
(· T U VM UO ·),
defO bs w f=·->·,
ak (pw rv U_) fun ks he hk=>?_,
⟨m1++m2,#[b1,e2,Array.append_assoc]⟩,
qo (ZhG p hp) fun e n ne nf d=>?_,
· ZbC X.w X.K ZbK Zev ·,
wpAny_Call_method m.base m.few m.line ZX · · ·,
⟨_,rfl,x,c.C,Za6,_,rfl,·,Zbv,·,DA _,?_⟩,
dE · Zef (bh A)=bh ·,
Zdf (by rw[<-l1,l3,h,<-l4,l2]) hl,
sw B (m:=·) Zb7 Zb7 Zb7 Zb7,
PE X (Zcu #[yQ,o,m] · [] pos) (Kb C m sp · E ta ·),
bD (lO (X:=Y) I11 hys Zme ry) fun _ y_ I12=>ZtA I12 q11,
aG ⟨_,rfl,p,_,1,_,rfl,rfl,Zg7,rfl,_,rfl,p,_,0,_,rfl,rfl,Zg7,rfl,rfl,_,rfl,?_⟩,
"wearer_for",
"ring_with",
"is_new",
"tree_from",
"walk_since",
"check_two",
"told",
"hall_behind",
"quadrille",
"inner_figures",
"_law_size",
Sum.inr.inj,
(by simpa using h1),
tupleKind,
h1.get?,
fun b u q n _=>·,
fun b xs q=>·,
u.free,
u.there,
PySem.W.hideAll,
PySem.W.hideAll_none,
env.kindOf,
σ.length,
X.base.get?,
#[g2,ZIH,·],
I.base.keep,
I.base.slot,
ZIK b o e n hb hx,
I.ok.exfs,
I.ok.has,
ZIN y.1 Zbu,
I.ok.inj,
spliced,
fun σ H Q=>·,
#[IR,· σ H ·],
#[IS,·,#[zi,·]],
#[IT,ta,·],
#[IS,t,·],
#[IT,te,·],
fun _ _ _ H _ I h=>·,
fun _ _ q=>·,
#[IY,q],
.Return,
target,
[⟨ZI1,ZbT,ifs,0⟩],
∃ σ' H',·,
"dict_itemiterator",
I1.tuple,
I.ok.hd,
(ZI6 hc),
ZH.mp,
.call,
fs.lookup,
PySem.W.instObj,
A.depth,
.Tuple,
(ZJb · kk aq1),
s'.os,
I.ok.frames,
I2.kIn,
vs[i]?,
#[np,ZJg],
S.par,
ws.toArray,
(by simpa using hv),
IsPart,
eq_of_beq,
s3.heap.objs.size,
#[iO,b<ZJn],
ZJn=ZdP+1,
subscripted,
(by simp only[Yq]<;>lia),
h'.push,
e.symm,
.Subscript,
#[ny,ZJu,·,·,·],
fun v H1=>·,
"get",
Or.inl,
(ZJy rfl),
(tP (i:=·) · rfl ZJz ·),
ZJy rfl,
env.cells.lookup,
cl.lookup,
I.ok.noex,
"sorted",
us[j],
us.toArray.size,
xs.reverse,
g.get?,
g1.get?,
"BaseException",
#[ed,ZJL],
"object",
"type",
newId,
s1.heap.get?,
I.base.there,
ZJR b o e hx,
fun b u q=>·,
fun dx hdx=>·,
toString,
∀ b∈A.fp,·,
∀ b∈cs,·,
.masked,
.same,
∀ x∈st.circ,·,
"Hall",
ci.length,
I.ok.cab,
(by simp[hi]),
wpAny_of_eq,
(by simp;lia),
(ZJ6),
(by refine ·;exact ·),
Y0.mp,
wpAny_setField_rec,
wpAny_attempt,
show · by simp,
noteFrame,
ZKb x env,
s.TypeIs,
ZKd #[ak,·] ·,
fun i h h' st k=>·,
e0.bs,
{ s with heap:=·,toks:=· },
#[Kh,h',·],
#[Ki,tk],
#[Ki,t'],
#[cl,·,#[Kh,·,·]],
fun b o e _=>·,
t[j]?,
#[ah,ZKn,b],
Zv.mpr,
fun H5 s5=>·,
"Keeper",
fun b o q nf=>·,
fun u hu=>·,
fun σ H R=>·,
Txt.split,
dd.typeIs,
fun a ha=>·,
qs.map,
.notext,
s.trans,
fun H' s'=>h H' (ZKA s'),
xs[i]?,
#[dA,ZKC],
D.l1z,
b2.extBut,
D.l2z,
D.l2i1,
b4.extBut,
b5.extBut,
b3.extBut,
itb.length,
.line,
.star,
.quad,
g.map,
(#[qq,ZKP]:Nat)-1,
"FigureBook",
callerA,
World,
ba.namesL,
bs.filter,
(ZKV jI).map,
ba.row_len,
HO.dK,
"BadName",
"Taken",
"TooLong",
fun b u e n=>·,
"NoFigure",
e_.size,
ys.map,
Builtin.Range.rangeSize,
I.list,
az (ZK7 ·) ·,
az (ZK7 hq) ·,
#[K9,ZB2],
"NoMoment",
"NoPlan",
"inner",
"end",
"parts",
[ZhA,ZLd],
"linked",
[Zo1,Zhx,ZLf],
"group",
"_law_hall",
"_law_a",
"_law_b",
"_law_lost",
[ZLi,ZkG,ZLj,ZLk,ZLl],
#[a2,·,ZLm,·],
"story",
fun l hl=>·,
#[Lp,?_],
"turned_row",
"single_length",
"single_row",
UO.f.nL,
hf2.nd,
if · then _ else _,
"number_at",
T.tuple,
fun _ _ y=>·,
eZ.nd,
"read_figure",
"do_deed",
"hall_at",
"read_line",
"opened",
EV.good,
pP.same,
"chase_row",
fun dx H' s hx=>·,
"shut_group",
"strays",
"rings_of",
"closed_around",
"hub_of",
"hubless_rings",
"hub_row",
"one_row",
"two_row",
"home_row",
"dance",
"sends_home",
"both_ways",
"is_barred",
"morning_row",
"_law_cell_at",
"_law_guest",
"_law_place",
"_law_ask_hall",
"_law_ask_way",
"_law_ask_rest",
s0.free,
as.length,
"_law_classes",
"_law_asked",
"_law_refused",
"law",
show · by decide +kernel,
{ cls:=·,data:=· },
#[Ma,Zdt,·],
X.env.scope.names.lookup,
#[BB,ZMc],
.Assign,
PS X (ZMe · · pos) ·,
PySem.W.tabIn,
#[ah,ZMg K ·,·],
#[ah,ZMg (K Zfd) ·,·],
hs₁.extBut,
step_dedup,
YN.mp,
letOwnedTupleGo,
PySem.W.nsIn K · ·,
#[Mn,Zki,·],
#[ah,#[Mo,·],(Zab (Zaj ·))],
#[ah,#[Mo,·],Zac],
#[ah,#[Mo,·],(Zab (· · ·))],
(bP · Zau (am) ZA_),
#[Ms,bB],
#[uz,ZMt,·],
(dv ZMt),
(ar bu ZMt (aB) ZeG),
Pv (i+1),
#[ji,·,·,· T U VM UO h ·],
#[My,kN,·,·,·],
#[My,jF,·,·,·],
#[My,nc,·,·,·],
#[iO,Zui],
∃ i σ' H',·/\tn i ·/\(ZMC)/\·,
· (ZaA),
#[ME,jv],
#[ME,Fw],
(· X Zai σ Q),
#[MH,EP],
#[t1,·,ZMI],
#[m9,H],
∀ σ H,Pv · σ H->ZMK,
#[ML,ZaR],
[ZmJ,"at",·],
#[MN,ZkH],
s.heap.IsTupleIter · · ·,
#[MP,i1,l1,·],
#[MQ,k1],
#[MP,i2,l2,·],
#[MS,k2],
u=Zeu ·,
#[MU,a],
#[dL,?_],
GP ZMW,
(bj (bj (bj (bj ·)))),
#[L',#[AY,#[uh,·,·]]],
#[MZ,·,ZeE],
#[MZ,·,Zf9],
#[MZ,·,Za'],
{ cls:=·,dict:=Zac,data:=· },
Zbd (Zbd ·),
#[M4,Int],
#[M4,Nd],
ZhS ZaE · · ·,
#[M7,TI,#[ak,i1],#[ak,i2]],
#[M7,TO,a,b],
Zb2 (ForInStep.yield ·),
#[M_,r],
#[M_,ok],
(Kg hx),
#[LJ,qs _ H' s ZNb],
· C H b A bs,
#[Nd,sQ],
#[aW,·,q],
(Pt,bE,aY),
(Pk,aW,aD),
Q ZaJ H',
#[t',ZNi],
Zaq (Zc7 ·),
(Zbq ZaB g),
#[hD,ZNl],
#[k1,ZNl],
#[kl,dC y rfl hy _ rfl ·],
{ nx:=fun _ H'=>·,rt:=· },
(Pm,bW,bI),
(Pf,bV,bF),
(P0,aU,aJ),
#[cd,·,ZsI],
#[Nt,Nat],
([]:Zcr),
Zdf (show b∈ZNv from z) ZaN,
#[zN,ZNw],
(Zkg o ZeK),
(toS (fG ·)),
aT ZbC X.w X.K ZbK Zev · k · fd · ·,
#[NA,CX,f,ps,sp],
· == Ztf&&env.scope.kind == ZsM&&ZIF n == Zab Ze',
#[Ma,ZfX,·],
fb K fd · [],
#[NE,ps],
(qR ZaB i),
#[NG,0].1,
#[p8,fG,Zc6,1],
ZiS · 0 lo,
#[a_,p],
∀ p,ZNK->#[b8,p,·],
(szL q),
#[nu,ZNM,·,·],
X.fn x=Zad,
ZNO\/ZMd,
ZiE=ZfR->·,
(M_.2 b #[cA,neC]).trans,
X.pn++Zai,
∀ p∈ZNS,p.1≠·,
⟨σ',H',·,q⟩,
#[br,(fun i m σ H=>m=·-i/\i<=·/\ZkZ),⟨·,ZaN,Zdb,h0⟩],
#[NV,ZaR,ZaR,ZaR],
Zaq ⟨·,ZMx,(fun σ' H' p'=>dN (·-Zcz) Zag rfl q_ p'),(·)⟩,
⟨_,rfl,_,rfl,·,_,rfl,·,_,_,rfl,rfl,_,rfl,?_⟩,
#[NY,q,#[Nk,hq]],
⟨ZaM,·⟩,
#[N0,h.sa],
fun m hn hl=>?_,
ak Zl7 ZN2,
#[dM,hC,·],
#[ct,#[N4,ZqC]],
#[cL,·,Yu],
#[N6,ac],
#[p4,#[qb,·]],
#[N8,hf],
(ZzS (Ya _)),
I1.fpOk (Ya _) ZN_,
· Zbo a b,
#[Oa,lH],
ae (aL (pv ·)),
#[Oc,2],
#[BU,ZiQ],
gX Zbo ·=[],
#[Of,g],
k Zac _ · xU,
fun (a:Addr)(e:Dt)=>·,
∀ vs H Q E,· vs H Q E->·,
#[Oj,sp,ZOe],
(show · from ry),
#[Ol,#[MU,b]],
#[JT,Zjo],
#[uX,0].take,
(ZOo i),
∀ c∈·,·<=c/\c<·,
#[Oq,·,32,128],
#[pj,2],
Zd8 a=Zab ·,
∃ q,#[Ot,q],
#[jp,Zb0],
c≠z->c≠i1->c≠i2->ZOv->ZCq,
· y.1=Zab Zmc,
(Zde C dx fs),
#[dY,ZOy],
Zy8 y=Zab ·,
#[OA,cy],
iT (I.ok.funs.mem ·) ·,
pL mg ZaP,
(.dK (dR · Zbo)),
(put ZaB g g),
(getMethod · · pl),
W i n σ' H',
⟨_,rfl,_,rfl,·,_,rfl,·⟩,
#[OI,rfl,?_],
(sP N vs),
#[l2,(· ZaE a b)],
fun u hu ru=>?_,
ak (ZzR hx) ZOM,
#[f6,·,·,e],
#[ct,#[OO,#[nn,nx],#[nn,ndx]]],
∀ w:ZKT,·,
(Zeu ·),
#[a_,T],
#[a1,i+1],
Zae ZOT tk,
#[eI,#[NC,k]],
(Zbb (· ZaS)),
(Zkg o Zux),
#[bJ,tr,ZOX],
ZaS q1,
(ZfP L),
#[MY,#[MY,·]],
#[Bx,G60.map],
(upd (upd HH l0 #[mR,G60.map]) u ZO2),
#[qn,l],
#[aK,d,ZNy],
(u1.free b o e n hx),
#[NX,·,·,fun x H' y=>?_],
[e2,ZBN],
ZfM≠ZaL ·,
(.pl (· gs)),
(.dK (mi [(f0,none,0)])),
#[bJ,tr,ZO'],
(A.under (ZdQ "type.__call__" ·)),
#[Pb,⟨ZjJ::us,kw⟩],
#[sz,Zcw->#[cB,dx,(.xd ·)]->#[kS,·,Znr]],
I3.call' (ch:=fp) (s':=·) · · · · #[fa,⟨#[ug,0].2.2.2.1,#[ug,0].2.1,#[ug,0].2.2.2.2.1,#[ug,0].2.2.2.2.2⟩],
· a b c d e f g h i,
(show · by decide),
#[kh,#[k3,·]->·],
#[dM,·,z],
fun us s1 zz=>?_,
fun u s2 zz=>?_,
{ worn:=·,hold:=·,circ:=·,deeds:=Zz3++[·] },
#[ak,fw],
#[ak,e],
(pv 8),
b≠Zcj,
#[pj,#[aZ,·]],
#[ed,ZJO],
#[dz,Zvh],
(Zes a),
(Po x),
(ZaI ys),
#[dc,b],
wpAny_loadPart_at · ?_,
#[uk,3],
#[uk,2],
#[mo,·<ZbY],
#[BB,Zo6],
#[nn,h],
(.xd fs),
(ZgV st d),
#[uY,ml],
h _ ?_,
#[u4,Zo6],
#[MD,aS Y [] σ' H' s',Zb',ZOH],
#[pj,ZaR]/\·,
#[ve,g],
(Zaq (Zal ·)),
#[Co,es],
#[qo,ZB8,#[hb,s2,·]],
(.dT kvs),
Value.str x t,
(oF · Zap Zbv Zbk dw),
(qT P0 aU aJ cF · · ·),
∃ a,ZeN/\·,
#[hH,(· Zeu)],
Value.int i t,
lt x y=Zad,
Za3 (#[Oi,·]) as ds,
#[Mb,ZaT Zs4],
(l9 ml ZCy),
#[CD,Zgb,_],
[Zae f0],
R p.1 x,
#[IS,ty,fun y H1=>·],
PySem.W.codeIn K h_ ·=Zad,
(w0::ws).map,
#[ah,#[dV,0].head?,48],
#[na,H2,lh,Zcb],
GG (h1:=·) · · · · (fun b o hf e n=>·) fun b o hf e=>?_,
dJ k (Zzv ·),
bD (· _ s10 σ9 H10 _ I10 K_) ·,
qG NG U · bp rfl Zzy rfl ·,
vi (ix:=·) (so:=ai ·) (N:=·) (N':=·) (src:=·) rfl rfl Dg rfl · · · rfl rfl,
(excClassObj nm · C N bs bm hdct sn sub ab col dd k0 k1 k2 k3 k5 ·),
(fun _ s'=>·),
(#[kr,·]),
(ZzP),
((by simp[bn,e])),
(fun j σ HK _ ·=>·),
(ea,oe),
#[IY,Zjo],
fun _ o ho _=>?_,
#[dL,Zaz],
#[dL,Zac],
#[kl,?_],
fun j=>#[AV,·],
fun u eu ru=>?_,
#[AS,q dx H' · ·],
fun r B_=>?_,
Zab d,
Zab ZCI,
#[ak,t],
ZbM+1,
Ztx+1,
Zaj k,
Zaj TI,
#[a4,H'],
#[a4,F_.get?],
r5 a b,
#[a1,d+1],
#[c9,Yg h],
i<ZcK,
#[mY,5],
x∈gs,
#[jj,u6],
#[jj,u7],
#[jj,u8],
b∉ex,
b∉Zne,
Zaq Zqk,
#[kQ,np],
#[g5,True],
#[dB,e],
#[bD,ZJC,c],
#[MH,TP],
10 ^ 15,
(cK l),
(strValues l),
#[ha,Ztw,·],
vs=[Zgh],
#[ua,cU],
#[nk,Yq],
(Zpa x c e),
(Zf4 b),
∀ x c,#[bD,ZJD,c]->·,
(aj Zau aV),
(dv (aB)),
#[BV,Zb0,·],
[e,it],
(#[Lw,·])=_,
#[ND,ZaT ·],
#[qx,C_],
#[B6,rfl],
#[NJ,n],
#[NJ,ZaR],
(Builtin.Str.occurrences · · 0 · ·),
#[e9,(bh B)] m=Zac,
(ZBt,ZaS e.l),
#[Bi,he,Zh8],
(x.rw e he h),
#[vu,0],
#[vC,fU H' l ·],
[ZaY w0],
#[CF,Zaf],
(Str×Zcq),
(b0::aq3),
hC3 _ _ e3',
(ZgK S n),
sQ C H' b A ·,
(YY _ _ (YX (Yf e))).trans,
fun p=>#[AV,ZjL],
(AY bs w),
GM y x,
h.Ns N mN,
·.andThen .now,
Zlb×ZbB,
[ZmJ,"at",·,·,·],
∀ H',ZdH->Zvg->#[kS,cF,Zac],
∀ (cl:Zjh)(C:Addr)(s:Shared)(H:Hp)(ex:Zcr),·,
(Zaz,ZgS a ZaG),
YP w h,
!#[AV,Zaw ·=Zva],
#[aZ,(gX · g)]<64,
ZiS ZaR ZaR hi,
∃ a,ZeN/\Zga/\·,
#[Ku,tl σ H #[zi,·]],
(ZgV ZcW Zvn),
ah (· b o e),
(jX hu Zfp Zau · rfl),
(#[uH,CX,ZbL,·,s,H]),
PG ZBn tg g,
O0 ZBn ifs tt,
(hi-lo).toNat,
∀ y,· y=#[AV,y∈·],
(vS Zbp eb),
· · · (#[tE,·]) #[Cx,ZCk,?_],
PS X (.Raise #[cx,#[jB,·,[e]]] Zac pos) ·,
sj J · · #[Np,·,Zku] ZCV (upd H1 a (· [])),
((p,w)::P.zip vs),
dO rd ZdE l,
[Zcu (Zcp · p2) · [] pos2],
t #[Np,ZNi,Q] ZOK H,
cD ZbC X.w _ _ _ ·,
(BD R f gs n),
· Zai s1 σ H1 · · Q I1 r1 q1,
hx Zai σ · · e s' · hq,
⟨_,rfl,p,Za6,_,rfl,Zbj,·,_,rfl,p,B,·,·,rfl,S,·,·,·⟩,
Hl Zbt ZbL s f c' y cy,
[cA,cB,cM,cT,cF,cN,cO,cP,cX,cV,cQ,cS,cTk,cL,cU],
·=Zar,
[ZtO],
["_law_h"],
#[aZ,Zln],
#[aW,ZPC,·],
#[aW,ah (nn _ ·),·],
#[e5,e],
#[e5,hex],
#[aV,#[i2,·]],
∀ b∈Zne,·,
(ag ·).trans,
#[iM,z.elim],
(1:Nat),
(0:Nat),
(j:Int),
(k0:Int),
#[hJ,EO],
(by rw[isSubtype_type];kernel_rfl),
#[mn,ZfB<·],
#[tp,h'],
∀ g m,ZPK->·,
fun a b c d=>?_,
fun r hr=>?_,
fun x c h=>?_,
(Za5,h),
(ZhQ,p),
∀ d,d<10->·,
fun e he h=>⟨·,·.2⟩,
#[cR,0].circ,
∀ a∈xx c x,·,
fun H1 s1=>Zhi,
#[L',#[AX,#[uh,·,·]]],
fun lq hlq=>?_,
Zab p,
Zab u,
Zab m,
· (ZaC),
· (#[cJ,·]),
#[ak,r],
#[ak,W],
Zbd β,
Zew+1,
ZhP+1,
ZgX+1,
(I2.tok _),
X8 A.bl.symm,
#[cd,Zcq,·],
kb=Zad,
#[gF,Obj],
#[gF,Expr],
(Zb6+1),
Zal z,
Zd_ z,
S.tracked z,
b≠tr,
#[a_,t],
#[a_,ea],
#[a_,lr],
#[a7,h],
#[a7,#[cJ,ZmF]],
Zbn Zdu,
Zbn "slice",
#[pj,ZfT],
#[pj,Zko],
#[pj,Zmz],
ZhC h,
ZsU h,
ZH.mpr h,
ZMl h,
ZtD g,
Tr H H',
#[dg,w.symm,·],
ok.2.1,
X8 (Zaf),
#[c9,r],
#[hX,ZKj],
#[hX,ZKk],
ZAJ e,
b=Zar,
Zhy GenState,
#[a0,ZfU,·],
i<ZiQ,
X6 _ (X6 _ (X6 _ ·)),
#[mV,e],
Zb0 b,
k=Zaz,
#[a8,Zff],
#[a8,Zo1],
#[a8,ZhV],
b∈Zi1,
#[cQ,Yb],
Q ZbV H',
#[fV," "],
ZzL rfl,
#[dz,ys],
#[dW,It],
Zax x,
Zax w,
Zax Zc5,
Yc (#[gT,·]),
#[pc,h],
#[pc,e2],
#[pc,e1],
#[pc,B_],
Str->ZdS,
ay H H1,
ay H ZO4,
#[Bh,he],
#[ee,x],
ZBI::r,
(k,x)::r,
#[jk,ZaB],
(kV k),
ZhB x.w,
p.2.2.1,
#[dY,ZeK],
#[dY,ZPO],
#[t',Q · H'],
(Zdr x),
#[fq,hb],
(ZaI ZP0),
#[dB,hz],
r.map Zaw,
(fK ZjA g i).map Zaw,
get h2,
(aN · (ae (aL ·)) aI),
#[dc,it],
2 ^ 64,
Yb (ZaC),
qd.new _ _,
vP _ _,
#[eg,ae (aN · · ·)],
n _ rfl,
#[bD,Zy8,c],
Yg Zhi,
· · (#[dM,·,·]),
(yr d),
#[t6,ZyM],
Zd_ hu,
Zd_ he,
#[k1,(Zbq ZaB ·)],
#[k1,ZvS],
#[nb,e],
#[js,hi],
ZfP 1,
ZeB hv,
d.params.defaults=[],
s5 _ _ e,
tn i ZaE,
(dS c a b),
#[ua,Zf3],
#[nh,#[aV,·],·],
#[mS,ZhR],
#[mS,ZP4],
#[h6,H'],
#[h6,ZhL],
¬ m=ZhM,
¬ m=ZhN,
¬ m=Zi0,
¬ m=Zky,
(ba.name w),
qr x=Zad,
sv x=Zad,
#[Bx,Zvx],
#[uw,#[aZ,·]],
a≠Zea,
a≠Zeb,
#[Bz,Zkf],
#[jv,k],
#[BD,V],
#[BD,Expr],
List.ext_getElem hl,
#[k5,y.2],
#[hg,·,Zd5,·],
#[eW,·,Zba,·],
#[bJ,l,o],
#[bJ,x,o],
vD c Zmg,
#[uy,e],
df bs u,
#[qg,ZKO],
(Zn ?_),
#[K9,Zu_],
#[K9,ZCZ],
#[jF,Za5,·],
#[jF,Zky,·],
(Zkn ·).map ·,
ZdN hb,
f∈fs,
f∈us,
#[jG,t],
#[nv,dx],
#[ic,h2],
(UA K a),
(LW K a),
#[M4,Nat],
(aj Zfp aV),
#[nw,i1.pos],
(iF z).symm,
(ba.row fs),
#[ql,u],
I7.base.there b o e hx,
k b ob q,
#[qn,d1],
I7.base.slot b o e n hb hx,
#[th,ZdF],
#[Nd,Uv],
#[Nd,Ui],
-(2 ^ 64),
ay H1 HH,
#[uR,Zu_],
#[im,elt],
l.head?≠Zab ·,
#[Nt,ZKT],
#[Nt,(Zm5)],
(us++[]),
#[aK,d,Zvc],
#[IV,fun c H1=>·],
#[uY,ZPY],
#[B5,32],
PE X o to,
#[B6,Zac],
[a,b,c',d],
#[A0,k],
#[Cb,ZAM],
#[Cb,ZtR],
#[Cb,ZtS],
cx ZeS,
ZeC s4,
t≠it,
#[nW,Zll],
(IE ck),
· (Zty (Zaq ·)),
ao ac hc,
#[eL,ZCB,x,m],
#[eL,ZOF,x,m],
#[vf,ZbV],
Zbp p _ hk,
(Zza b o e n hx),
kE c E H o,
kE c E H (ZtD g),
#[vi,he],
vk.mp hx,
#[N0,h.sb],
#[qQ,hl],
#[dG,fk,s1],
#[Oc,3],
#[qo,ZB8,#[nz,s2,·]],
Int->Int->Int,
#[vy,iK],
Zd8 S,
Zd8 Zar,
#[CE,(#[iX,·])],
[ZaY tl],
v::Ze7,
fz (·) fun a_ _ _=>?_,
#[h4,m]=g,
(LS h a),
fd.code=Zaj c0,
X.env.code=Zaj c0,
#[zq,i_,[]].any,
(x a o e),
m3 t ht,
Zd' H P pos Zbt,
Zd' H' P pos Zbt,
dy n H p f,
#[NL,#[bJ,p,·]],
#[h5,Zmt #[ak,z] 3],
#[h5,Zmt #[ak,z] 2],
X5 (#[gd,hz,rfl,ZfD,?_]),
#[CU,n],
Yy T.hd,
Zzh ⟨·,·,·,·⟩,
ZJd=s.os,
sc.isCoroutine=Zaz,
sc.isGenerator=Zaz,
[ZBo,Zac],
[ZBo,ZBo],
∀ ds,¬ ZuL,
#[OL,V5],
ZbK ·=Zab #[ak,·],
IZ K C,
#[g2,H,Zun],
#[g2,H',Zun],
#[b8,Zar,Zkq],
Zbq Zcb g,
bL K H p xs,
bL K H t xs,
(PySem.W.methodObj #[ak,f] ·),
X9 (#[aV,· (ZtG z)]),
X9 (#[aV,· (ZmH z)]),
Zl_+n<ZiF,
g.natAbs<10 ^ 100,
pP P H H',
jA c H p A st d Q E,
Around.under_plainId ZY _,
⟨o',ZNR q⟩,
⟨sl,ZNR q⟩,
#[bJ,B.w,#[jk,ZOF]],
#[bJ,B.w,#[jk,(fV ZaB m)]],
Mk X.K C f,
ZtY K · #[bP,2,60],
bindL Zmb · m x,
bindC Zmb · m x,
Rd H a (.dK kvs),
Rd H a (.dT kvs),
Bp Zbo one,
Bp Zbo ZeA,
#[I3,Zvz/\· σ' H'],
#[C_,ZKP],
[tl].map ZaY,
#[Pg,#[pj,1]],
#[hD,(d6 (· ·) ·)]=#[AV,·],
dx≠x,
ZhL ·=Zab o/\ZvP/\·,
#[Pq,ZqN],
PE X ZCg (tC v),
(ZO.mp h3).1,
X.fn y=Zad,
ZaD ?_ ih,
tO c l,
#[AV,y=b],
(g i j),
#[ue,Zh2,60],
#[Px,hC],
min v.toNat n,
#[h7,Zay,Zbl],
OR L st,
vI f g m,
#[qs,t,ac],
Zal (Zaq (Zaq ·)),
(d7 kP Zau ZcT),
OU g B e c od ZO0,
#[PQ,dB],
#[PS,Zga],
G.sm x m h,
V->Zbg->#[cd,Hp,VK],
⟨y,H2,I2,ry,q2⟩,
#[Pd,[(Zba,Zu3)],Zc0],
#[P3,Zbt],
ZsU hq',
(#[Km,e]),
Nat×Nat,
Int->Int,
ZzX=od,
#[a0,·,l]=ZbM,
a == b,
x == n,
(Yk e).symm,
qg c/ZzT,
#[b5,! ZP1],
(aQ ·).Nodup,
(fk (ZeF ·)),
((n,c)::cs),
l.most=Zab n,
(hT _ mt),
iU (· · ·) fun bm N nm a_=>?_,
(dP (pv 2)),
(upd · dx (.xd ·)),
(m5 e).1,
#[bc,ZdV,100],
-Zcg<=i,
Zbq l h,
ao hd ht,
#[jr,ZpZ,ZOZ],
#[aZ,ZdV]=Zb6,
#[iZ,Zh2<=60],
dS ci a b,
#[hc,q,ag hp _ _ hq],
pL ZbK Zev,
#[jy,e,oe],
gX ci a,
az (id A_) fun o e c d=>?_,
ZfM=ZaL vs,
PA X [a] ta,
cC K H a ZvR,
dR cs ci,
lK H c' Zbt,
lK H c1 ql,
#[tc,#[ha,ZA4,z]],
cntF fs u,
ZaT #[PT,n_.map] c',
Zl_+1<ZiF,
(xZ xs lo hi),
UC (H x),
(ZbT ZjA i g),
lo+Zqv*ZnV,
#[vD,ho,q1,ZPk],
[a,b,c],
qw Zbo r g,
⟨x,H1,I1,r1,q1⟩,
#[dM,pe,#[h_,ZBQ,S.w]],
fT f N ks S,
Zb0 S,
List.getElem?_set_self hiσ,
r.inj r',
KasT α,
AutoSeq1.wpAny_loadPart' et,
(fun j t e=>?_),
Zbf×ZM5,
n_.length=Zmz,
ZL6=Ztr,
[pa,pb],
[ZkG,Zo3],
Zmz<xs.size,
[(f,y)],
(Zl3 z).2,
⟨Zc4,TI⟩,
#[aW,ZdN ·,h],
C∉Zne,
#[aV,h (Yh _ z)],
(m g).mp,
∀ (i j:Int)(t u:Tok)(s:Shared)(Q:Zfh)(E:Zfh),·,
#[po,Yr,YW],
#[zN,YY _ _ (Yz z)],
∀ w' s',·->·->Q w' s',
(by rw[X7,X7,·];lia),
fun σ H=>· (ZiJ i Zac) H,
∀ x∈S,f x∈S,
∀ {j:Nat}{b:Nd},#[ah,·,b]->·,
∀ n:Nat,n<=9->·,
fun n h=>X9 #[jC,h,ZmH],
fun n h=>Yc (Zp Zaw h),
(ZpY ZaS),
ZgE (ZbR->Sem Unit),
ZaD _ t,
#[Mo,x]=Zab ZCt,
qM _ _ hd,
(S++Zil),
PE X e2 t2,
Zi4 x m,
X8 (#[L',¬ #[dj,·]=·]),
s3 _ _ · (ax2 ax4 ·),
k5 _ _ (s4 _ _ ·) ·,
#[ji,nc,·,· T U VM UO h · ·],
#[bJ,d,u],
ak I.look fun od J hl=>?_,
(ts++[t]),
#[br,t1,t2],
#[br,u',r'],
#[br,Zlj,rfl],
(.UnaryOp · a pos),
PS X st t,
(Zbb (ZhR Zf7)),
¬ q.1=k,
#[t8,x,"__classdict__"],
(BP H a),
obj=Zaj Zar,
Yb (Yc z),
· b o e n h1 h2,
m7 · fs=Zac,
ZgK S n,
#[ei,kn,ZPF],
k _ _ z (ht _ _ z),
⟨_,rfl,_,·,·,_,rfl,·,?_⟩,
PySem.W.hideAll_get _ e ·,
Ke ps a b,
(d::l).map,
k b o #[bx,hc (by simp[z])] e,
az (id p) fun o eo c _=>?_,
au #[ak,·] _ (·) rfl (q _ ·),
ZtA I7 n7,
gq K C f,
bo (kV k) u,
[kV p.1,p.2],
#[eO,·,·,[Za5],(· c)],
V->ZgI->ZgI->Hp->VK->Zaa,
#[eP,#[ia,H,ZaE,·,·],·],
Zp Zab e,
#[zA,·,UO.eV,UO.mV],
bD (hi Zai s σ H _ I h) fun iv s1 zz=>?_,
Heap.get?_push_ne _ _ _ hb,
#[eL,(fV ZaB g),x,m],
(.pl (.pair a b)),
⟨ob,h1,h2.2.1⟩,
fun n=>#[AV,n=ZAT k ""],
#[aQ,ZP6,x,ZBK,·,·],
#[na,H2,B.w,ZCB],
#[Cv,a,ma],
#[Cv,b,mb],
#[gc,⟨xs,q,Zbs⟩,hd σ H p],
⟨_,rfl,p,c.C,A0.dx,_,_,rfl,·,Zbv,·,· A0,·,_,rfl,·,·⟩,
(.bl (ZAU (·))),
#[CJ,· (Df (z.trans ·))],
#[Ke,z,Zdu],
d6 kvs k=Zac,
#[na,H1,B.w,ZuD],
#[jx,(ZKb #[ak,e] env)],
#[p2,H,b≠P,#[a4,H']],
nf ts dT,
nf us hd,
ZJl vl lo,
ZJl vu hi,
(ZiN ZI1 env v),
(ZMm ZI1 it v),
(tC (Zax x)),
List.getElem?_set_ne (Yz hj),
Rd H a u,
(k _ _ Zf' e),
Za3 (dy n H) as fs,
(I7.hok b ob e).stay (fun c w' hc' q=>(M_.2 c ?_).trans q) (Zvj) ZIZ,
Bs Zc3 w K mg b h,
#[eT,jr,(fW ZcT Zau)],
(ax (bz · ZPo Zbv Zbk Ap ·)),
#[Db,∀ c∈bA (ZfU ·),_,ZfU,·,8],
aR (k H Zg6),
ak (hl i x v · · ·) fun u r l=>?_,
nE ZbC X.w H6 h',
jG T U VM UO fD,
h.Ns1 dx mA,
gY P.wrong fun w1 w2 w3 w4=>?_,
∀ a,ZeN->Zga->G,
∃ u,Zd8 e=Zab u,
#[aV,he (hx b z)],
#[kl,#[c_,y,hy,·]],
∀ ps,s.plan=Zab ps->·,
∀ (HK:Hp),Zij->·->Qf HK,
∀ (s:Shared)(u:Value),ZsZ s fd #[dX,[u]] [(·,u)],
kI (o:=·) k · ZaN,
ZtP (k:=Zqf) (v:=·) · ZCs,
fun hn=>Ur · #[iW,#[qZ,·,·,·,Zag,#[kR,ih]]],
cK (aQ ZaB),
aS X · σ H s,
#[dg,⟨Zbs,Zbs⟩,c],
#[a2,N,ps,st],
(sb2.2 b n1).trans ?_,
defaultsOf ZkA ZaG=([],[]),
w=ZaH\/w=Za',
BY H p f,
(Pj c x k),
gL X.K c0 P,
Zb3 _ ZhK (ZA4 #[ak,z] >>= _) _ _ s,
!#[AV,wr ZaB e.1∈Zfo],
cE K C m q st,
aM C H p A st,
jt ZaP · · · · · · fl c1 cy pm ct,
(jH rfl (bM · (bM · gG))),
·=sE d/\#[th,Zvo/\ZdF/\OS g],
((PySem.W.clsIn K ·).any fun cd=>lT cd.mro)=Zad,
Un (gT Zc1) · H H' ZaE ·,
#[NV,n,n,n],
#[CG,dE f v ((k,x)::r),#[fw,k=f,(k,v)::r,(k,x)::dE f v r]],
d6 kvs k=Zab v,
YQ (jE I hg hm hv ?_ hn z_),
k z0 z1 z2,
k HK t1 C_,
(CO c Pm bW bI),
(CO c Pf bV bF),
aT P w K mg ZaP d8 3 fl · ZvT ·,
i9 p (fr.take i),
∀ k,0<k->k<m->#[h4,k]≠g,
(Ut r ta tb),
(e1::e2::es),
(upd H6 l1 (ZaI ZvA)),
(Nh MH U Zbk rfl),
Zaw (ZbT ZjA i g),
⟨_,rfl,p,c.C,dx,_,rfl,#[qV,·],Zbv,·,#[PA,·],?_⟩,
GQ ZaE x dx C mA,
⟨a,b,c,·,e,f,g⟩,
aR ⟨_,rfl,_,rfl,p,B,_,·,rfl,·,·,ZtX,NQ A,·,?_⟩,
(show False from ‹dy 0 _ _ _›),
X.env.qual++ZA6 = Zbt,
#[sD,Zdp/\Zfs/\ZjE],
#[l2,(s1.heap.push (revObj a ((Zmd:Int)-1)))],
#[bN,#[C3,(Dm ZaF ZaF e)]],
#[i2,jx kvs k v],
rj (Db he) fun j h1 h2 h3 h4 h5=>?_,
#[AV,#[ah,N[j]?,p.1]/\Zo6 p.1=Zab ZfS],
⟨_,_,_,_,·,_⟩,
AY bs w=Zab e,
#[c',#[uk,·],#[pt,AT (xs:=·) (ys:=·) · · b ZaF ·]],
bD (· Zai s2 σ H2 _ I2 q2) ·,
au ZuJ H6 J7 rfl qn,
(EC c Pt bE aY),
(EH c Pk aW aD),
(a.free c ob q n hx),
(sliceBounds lo hi Zac n),
(KU h p d b),
⟨_,rfl,k,ck,dx,_,rfl,ac,ZkI,·,·,?_⟩,
(Yo (Yw hc (Nat.le_add_right _ _))),
(fJ ZbC X.w z t),
(ZJ3 x c hfn hc),
s.heap.IsSliceOf sl vl vu Zan,
I.lset (its':=·) hH e ZaN · ?_,
[Pm,Pf,Pt,Pk,P0].Nodup,
∃ (fI:Addr)(fd:FuncData),Mk K · fI/\aT P w K mg ZaP d8 1 fI fd · ·/\#[NE,·],
WI (ck:=ck) S1 hkp az1,
(f ZCz (Zae j u)),
⟨_,_,rfl,rfl,_,rfl,?_⟩,
ZMg (K Zfd) t.1=Zab (Zlh,ZnH),
jV v σ' H' · r q,
⟨_,rfl,_,rfl,z,a,rfl,zl,al,ZmB⟩,
yq K ea D od xs H Q,
Mv lk Y_ S len fun A outer s H vs Q E hr hsp=>·,
(Wi X Zai σ tg R),
ak (· I n (A:=·) · h1 h2 (fun hu'=>·)) fun k hk hr=>?_,
sj · (uP 0) (Ov · · q) #[Np,Qf H',Zku] #[k8,Zac] (upd H q (ZaI [])),
ak (hl j y v' e1 e2 e3) fun u' r' q=>?_,
wpAny_comp_letGo (cenv:=B) k4 _ · m · ns fun h' _ _ sb=>·,
k z0 z1 z2 z3 z4 z5 z6,
⟨_,rfl,_,rfl,lp,Sf,n,·,rfl,rfl,hp4,_,rfl,?_⟩,
aR ⟨_,rfl,p,Za6,_,rfl,Zbj,Zvs,_,rfl,_,rfl,p,B,_,·,·,rfl,S,xD,·,·,·⟩,
k z0 z1 z2 z3 z4 z5 z6 z7,
⟨_,rfl,_,rfl,_,rfl,p,B,a,b,l,·,rfl,S,A,·,fun dx H' s x=>·⟩,
⟨_,rfl,_,rfl,_,rfl,_,rfl,_,_,rfl,rfl,_,rfl,z,rfl,zl2,rfl,_,rfl,?_⟩,
(Cf CX P w K mg ZaP Zvv Zbt ZbL f c' y cy A ZbU s H E),
aG ⟨_,rfl,p,_,1,_,rfl,rfl,Zg7,rfl,q,_,rfl,#[Nk,e2],_,rfl,p,_,0,_,rfl,rfl,Zg7,rfl,rfl,_,rfl,?_⟩,
x_.length,
ZiE=Zabt,
X.A.units,
Zabv+n<ZiF,
sysModules,
#[kN,·,Zabx],
#[aby,a],
∃ a b c d e,·,
∀ a b c d e,·,
Value.bool,
xs.drop,
fun c xs q=>·,
Un.kept,
ZabF hk,
fun b u q _=>·,
#[abH,⟨u,ZB9⟩],
fun b u xs q=>·,
X.env.kindOf,
X.K.In,
I.ok.funs,
Heap.get?_none_of_le,
I.base.tups,
I.base.frzs,
I.stkSub,
I.base,
⟨·,Zo_,ZsS,ZabR,Zl7,ZiI,Zo',Zpa,·,Zbp,ZsQ⟩,
fun _ H Q=>·,
#[abT,Q · H],
I.ok.blt,
compareOp,
uz X (ZabW ·) ·,
#[abX,ZzJ,·],
#[abX,.NotEq,·],
#[abX,·,(TC fun i j=>.bl (ZAU (·)))],
h.elim,
fun σ' H'=>·,
σ[i]?,
I.list_inj,
I.tuple_inj,
T.done,
#[BY,Zab6,[],stop],
T.item,
#[BY,Zab8,[],go],
I7.unpinned,
getAttr,
PySem.W.looks_findIn,
List.lookup,
Zacb · ·=Zab ·,
Yn.mpr,
PySem.W.emptyDict,
True.intro,
fun s3 I3=>·,
s.heap.FunFrames,
Zach B ·,
#[aci,Zni],
Zach Zev ·,
I.ok.mod,
I.stkFree,
.of_eq,
Zacn rfl,
PySem.W.callWith_K,
Zacp (h₀:=Zev) Zzt · · he r_,
N.length,
envOfC,
(Zacs Zbt · Zar f ·),
#[act,ZbL,cd],
ws.length,
(by simpa using hw),
h1 w (Zacw),
Builtin.Slice.slicePlaces,
ht.typeIs,
Subscript_,
s3.toks,
s5={ s3 with heap:=h4,toks:=ZacB+#[BH,Zqi] },
qu (h':=h4) I3 hso S q1 q3 t_ Q_ (by simpa using N_) kp4 (ZacB+#[BH,Zqi]),
operate,
(by rw[·,<-·];exact ·),
typeIs_str,
I.write,
"list.append",
o.isSome,
o.getD,
vs.map,
Paired.snoc,
rel.put,
fun h' dd' hs=>·,
values,
I2.hok,
IntsAre,
ZacR · ns,
#[acS,vs],
d.name,
mg ZacU=Zab #[ak,fa],
if · then none else ·,
Option.none,
(by simpa using hk),
Eq.trans,
S.nocell,
σ[j]?,
bs.getD,
#[e8,Zac2 i Zaz],
s2.heap.get?,
(by simpa using e1),
⟨·,(Zac5),e2⟩,
(by have:=·;simpa using this),
out.toList,
x_.toArray.size,
RD.inj,
"__length_hint__",
if · then · else 0,
ns.getD,
#[e8,Zadb i 0],
m.length,
paired_get,
ak (Zade · ·) ·,
ob.dict,
ob.data,
Obj.isFreed_of_fields,
fun g a1 a2 a3 a4=>·,
#[adj,?_],
"__setattr__",
.ellipsis,
"__getattr__",
PySem.W.Looks,
codeAny_call_builtin,
fun b o n q=>·,
wpAny_letGo,
T.keeps,
typeLookup,
Zadt (Zbn ·) · = Zb2 Zac,
#[adu,Zmi,·],
"function",
oI.cls=Zbn Zadw,
fun b o e n hf hx=>·,
fun b o q=>·,
{ s1 with heap:=· },
PySem.W.specialIn,
s'.heap.UpToSlots,
un.slot,
PySem.W.exmOne,
ZadE K cls ·=Zab ·,
X.marked,
(ZadG ea oe),
Str.empty,
fun b hb o e=>·,
fun a q z=>·,
l.filter,
∀ x∈ci,·,
(by show ·;rw[·];rfl),
(by rw[·];trivial),
fun g m h=>·,
ds.map,
X.tried,
I2.kept,
ds.foldl,
holding,
(by rfl),
(ZadV),
(bc (· rfl) ZadW · · ·),
dM (v:=Zaj ·) ZadW · rfl,
(bc · ZadW T.len Zg ·),
#[adZ,eG,·],
#[adZ,jU,Zm1],
fun x s₄ h₄=>·,
notedBy,
.compStart,
ps.getD,
fun x c e=>·,
#[ad6,?_],
∀ x∈ks,·,
ml.length,
show · by rw[·];exact ·,
·.nodup_iff.mpr,
List.mem_of_mem_take,
P.ord_le,
call_meetsIn,
∃ (f:Addr)(fd:FuncData),·,
cenv.frame,
blk.locals,
wpAny_rule,
#[k4,Zaeg,·],
s.heap.Ns,
un.keep,
.of_wp,
F.called_enumerate,
vs.getD,
Zaem · Zan=·,
YM.mpr,
Zaeo ⟨·,·⟩,
List.filter_sublist,
T.last,
failedOf,
∀ t∈ts,·,
ZP.mpr,
l.toArray,
List.cons.inj,
Builtin.Str.strKind,
Zaex x,
arr.size,
arr.push,
s1.heap,
#[eP,#[ia,H1,ZaeB,·,·],I1.hok · _ ·],
Nat.toDigits,
Nat.digitChar,
z.cps.toList.length,
Zb6=ZaeF,
ZaeF=Zb6,
p.length,
rs.take,
#[dJ,(ZaeJ i)],
#[dJ,(ZaeJ (i+1))],
(by simpa using h2),
fun j h1 h2=>#[Ai,he j (ZIw) (ZaeM)],
"StopIteration",
Heap.IsTuple,
s1.heap.IsTuple,
F.args_zip_next_1,
h'.IsTupleIter,
ZaeS · · ·,
#[aeT,i1,l1,(k1+1)],
#[aeT,i2,l2,(k2+1)],
hs₄.extBut,
hs₂.extBut,
∀ t∈n_,·,
Heap.size_update,
ts.map,
#[nc,Zae0],
s₁.heap.Ns,
PySem.W.CodeHd,
∀ t∈tabs,·,
fun vs H Q E h=>·,
#[ae5,?_],
Prod.mk.inj,
call_meets,
fs.map,
ba.rowF,
ba.dt_inj,
fs.foldl,
fs.countP,
∀ e∈bs,·,
fs.take,
(Zafd i),
.taken,
.unknown,
kindsL.map,
(Zafh ZaY),
xs.lookup,
if · then · else none,
#[afk,·,Zab ·],
#[afl,zw #[Nz,l]=Zad,(Zi_ (toS (fG l)),Zc6 Zu8)],
intKind,
(Zafn P w),
funext,
Value.builtin,
PySem.W.kitOne,
#[t4,Zafr,·,#[ak,·],·],
bootBuiltins,
#[bD,Zaft,·],
Hi.getD,
"object.__class__",
(ZdQ Zafw),
PySem.W.takesIn K Zafx=Zab Zad,
"isinstance",
"members",
"_law_classes_here",
hr.mono,
#[kR,ZafC],
(ZafC (ZaC)),
(bC · ZafD rfl aA ·),
∀ (B:HA)(m:Str),·,
Tr.refl.upd,
T.list,
(dU n6 ZadW ZafI PyProof.Rows.boot_list ·),
kindsL,
b9.line,
b9.star,
row.mono,
UO.f.nF,
UO.f.nR,
"define",
"spread",
B.mono,
ZafS s1,
Int.natCast_add,
hT.but,
ks.take,
UO.k.nH,
"stand",
"state",
"step",
lv.length,
K3.kp.ob,
s3.trans,
fun _ H' s=>·,
pM.map,
#[mS,Zaf5],
(by show ·;decide +kernel),
#[af7,#[AY,#[uh,·,·]]],
#[af7,#[AX,#[uh,·,·]]],
s.heap.IsTuple,
Zaf_ · ·,
#[af',l1,xs],
#[af',l2,ys],
#[af',t,xs],
z.symm,
#[aV,· Zagd],
#[age,h.ab],
X.env.scope,
LX Zagg x,
Zagg=so,
UJ Zagg x,
AllBare,
Zagk s'.gens,
s.heap.push,
Zagm ·,
(Zagm Zace),
s1.toks,
(· (t':=Zagp) ·),
s3.heap,
Un (gT Zc1) fp · · Zagr ·,
tn 0 Zagr,
I2.hok.fresh,
Zagu (Ya ZdP),
leaving,
#[h0,(Zagw _ _)],
#[jx,(Zagw env ZPn)],
fun vs H1=>·,
t σ H #[agz,·],
#[IV,#[agz,·]],
∀ i σ H,·,
"start",
⟨·,[(ZagD,v)]⟩,
[⟨Zab ZagD,Zze (Zae 1) cj cp,kp⟩],
o.slots,
⟨ZagG,·⟩,
F_.objs.size,
· · (Zae6) (fun h_ A outer s H vs Q E hr h=>?_),
#[agJ,F.ok,·],
#[agJ,F.okX,·],
#[t4,ZadE,·,#[ak,·],·],
#[agM,·,·,Zad],
#[agM,·,·,Zaz],
#[agO,cT,·],
#[agO,ZhO,·],
#[agO,Zc0,·],
#[agO,cN,·],
#[agO,Zf3,·],
(ar · Zau (am) ZeG),
#[agU,bu],
#[m_,ZagV,·,#[m_,ZagV,·,·]],
#[agW,·,·,#[agW,·,·,·]],
#[agU,ve],
fun _ _ h'=>h'.elim,
X5 (YA · (·) ZagZ),
(YA · (·) ZagZ),
(upd H2 ZdP (· [])),
#[ag2,ZaI],
#[ag2,.dK],
#[uN,Zag3],
(#[L',·]),
(iW · #[ag6,(·:Zbe).Nodup]),
#[ng,⟨#[ag7,0,·],fS,·⟩],
(#[P',·,gK,lR,·,·,·,#[ng,⟨#[ag7,0,·],·,pv 0⟩],ZpX]),
{ D with nx:=·,ct:=·,bk:=ZiK },
fun σ2 H2=>tb #[ag_,·,·] σ2 H2,
#[ag',ZMx,ZMx],
[·,⟨t1,i1,c1,0⟩],
#[ahb,⟨t0,i0,c0,0⟩],
#[kl,#[c_,y,hy,(#[b5,·])]],
aR #[c',ZaF,#[bw,_,ZaC,#[ahd,k2 nn H Zg6]]],
#[jv,Zahe],
aR #[c',ZaF,#[bw,·,#[cQ,we],#[ahd,·]]],
#[c9,⟨XC,· _ _ rfl · x2 ·⟩],
#[ahh,Zes,(UO.kk _ · _ _ (jP k) rfl),·],
(bc (c8 K (ea:=ea) (oe:=oe) (us:=us) Ye hc ho hd rfl) ZadW T.isinstance PyProof.Rows.boot_isinstance #[kP,ZBv,·]),
#[ahj,(#[adY,·,·])],
⟨cP,cV,cQ,cO,cX,fX,cB,·,cU,cL,cF,ck,cb,kd,cs,dz⟩,
#[ahl,cT],
(· c Zahm T5),
#[cP,·,ZLm,#[ahn,·]],
#[mq,·,·,ZLm,#[ahn,·]],
(I7.pin ZBy (Yv _ (Yv _ (c7 hb e)))),
#[ahq,0].2.1,
PySem.W.fnOf · · · · · · kV doc pm an h_ ct,
#[ahs,·,·,(ie st),ZBC,ZBw,Zan],
#[aht,x,Zbt],
Pos×Str,
#[dR,Zcq,Zahv],
([ZNq,ZNr,ZNg,ZNh,ZNs]:Zahw),
(cK (aQ ZaB)).map,
#[mR,Zahy],
#[fj,ZaI (Zahy Zaw),hlg],
fun _ _ e=>e,
(ZahB),
(L0 _ _ _ _ ZahC ·),
#[M3,Zdt,#[Bu,([]:ZbS)]],
∃ N:ZeJ,(∀ σ' H',N σ' H'->∃ m',m'<m/\·)/\·,
ak (T.obj _ _ · b hb) ·,
(· pos Zai s σ H _ I ·),
#[ahH,ha,h],
(bD ZahI ZPj),
· i H · H'->g · σ H' #[ag',N,N],
(· i H/\ZMK)\/(· i H/\#[ahF,W Zcz m' σ' H',·]),
(loop _ rfl),
Yb (#[gW,·]),
#[ahN,#[k1,#[cx,·]]],
#[ahO,b],
#[nh,ZaC,·],
#[No,#[ahQ,·]],
#[ahR,?_],
T.keep _ _ _ · fun b _ o e=>·,
#[ahT,c5,kp4 b o e],
#[ahT,st2,#[aW,e3,ZkY]],
⟨_,rfl,_,·,·,rfl,?_⟩,
#[ahW,rfl,_],
ah (ao q hn),
#[Nf,ZahY],
#[ahL,·,·,∀ x H',#[ahK,·,x,x]],
#[ah0,·.stop,·.go,·.yld],
show p∈· from hp,
#[l8,Zdf (#[ah2,([]:ZdT)]) ZaN],
OY · z TI TO (ZfP T) ·,
#[ah4,ZaE,b],
#[ah4,h',Zad],
fun h' eb=>#[da,·],
show ·>0 by decide,
#[ah8,Zg9],
#[ah8,(#[a1,·])],
(n,NameKind.cell),
fun x_ U_ p2 _=>?_,
#[gg,q',Zaia],
#[K8,q',Zaia],
#[uC,0].drop,
#[gF,bY],
#[jf,Zaie],
#[fq,hy],
#[kl,· y Zaig],
(q1 x c e),
#[ad6,· x c Zaii],
jq #[dy,hn] ?_ Zie (Zal hb) (#[aij,f4]) (Zah3),
(fun A outer s H vs Q E hr h=>?_),
F.okXC · hco (Zae6) Zail,
Hm (ps:=·) (y:=·) ⟨rfl,rfl,rfl,ZaA,ZaA,ZaA,Zf1,rfl⟩ Lm (Zae6) (Zae6) Zail,
Zb2 (Zpq us),
(nr b o q nf),
(ot b Zaip).trans,
wT so sc · N' src,
#[air,N],
⟨·,ZaC⟩,
#[ait,ZaC],
fun m hn _=>?_,
ak (id I7.loc) Zaiv,
#[J8,·,ZcD],
fun o e _=>?_,
#[fa,#[aix,#[ahG,st2,Zaiy]]],
#[ed,Zadw],
#[nt,·,fun z hd vs rel dd=>?_],
#[aiB,y7],
#[aiB,Fg],
(ZgZ (i+1)),
#[aiE,0].map,
#[Bx,ZaiF],
#[ahG,·,fun o e d=>?_],
#[aiH,st8],
ZacL Zab,
(ZaiJ++[Zab vy]),
fun v s1 h1=>bD h1 ·,
∀ [427],(ZMC)->·,
fun a t=>· a=Zab Zux,
Za3 (#[aiN,·]) as ts,
#[LJ,k _ _ · ZNb],
#[aiP,s],
qs Zac H' s xU,
fun H' s=>ZaiR,
(KU Zh' ZaJ (Zae 0) ZaJ),
(Zde ck kdx ZaiT),
upd (upd H1 kdx (Zes kp)) kp ZaiU,
gr m' hm Zcz σ7 H7 Zab_ ⟨T.keep _ _ _ · #[adJ,#[ahq,0].1],Znx,w7⟩,
#[aiW,st8],
#[aW,ah (Yo ·),·],
#[fa,⟨#[aiY,#[dy,flt],#[qb,f2]],#[dy,f2].2⟩],
fun r s' hq=>?_,
ZI (Ze (·) Zai0),
fun e_ r' pl hz=>?_,
#[K9,Zai2],
#[uR,Zai2],
#[fZ,#[i2,·]],
#[ai5,· x hx],
{ s7 with heap:=h' },
#[cl,H6,Zai7],
#[Pe,Zai7,I7.os,un,hok,I7.bare],
fun _ s9 zz=>?_,
fun ok s10 zz=>?_,
bD (ht _ s9 σ9 H9 _ I9 q9) Zai',
fun x m h=>?_,
⟨·,fun x m=>?_,Zajb,Zajb,·⟩,
show x∈· from hx,
m9.mp (#[ajd,·]),
#[ak,it],
Zax ZeE,
(rel.val k),
#[ajh,0].isSome_eq,
#[kQ,px],
(Zab (ZiN Zajj ZaG)),
Zaw one,
[Zajl,Zaw ZeA],
fr.map Zaw,
(ZaI (ZCi Zaw++Zajn)),
#[k5,x.2],
(g.binds hb),
wr ZaB g,
#[gR,#[AV,Zajr≠g]],
#[k9,Zar,[·,x]],
#[ajt,ZjN],
#[ajt,ZnR],
#[aiL,fun itv s2 h2=>?_],
#[Bi,hi,Zajw],
[one,ZeA],
#[ajy,0].take,
⟨fun i H=>·,·,fun i H=>·⟩,
#[ajA,∃ xs x,·/\ZKD,·,∃ xs,·/\ZaR<=i],
·*1234567891%ZzT,
#[ajC,qg c],
(hd0::hdl),
Q3 X ZajE th,
(nn b hc),
k b o #[ajG,0].1 #[ajG,0].2 q,
(firstMet (Zadc) ·),
#[ajI,ZK4],
(ok f fd g),
#[uZ,ZaO,n],
∀ n:Int,¬ ZaO=n->#[AY,ZajL],
∀ n:Int,ZaO=n->#[AX,ZajL],
nE ZbC X.w H' ·,
#[ajO,h'],
#[ajO,Zb'],
ZAT k0 "",
fun n=>#[AV,n=ZajR],
.pl (Zps G60),
[ZajT,ZajT],
(· (R p.1)).map (#[b5,(x,ZCf,Zqu)]),
(rB hu Zfp · ZA_),
ZhL f=Zab ⟨oc,od,·,osl⟩,
#[ajX,ZsC (·)],
#[ah,ds[j]?,d1]->#[ah,ds'[j]?,d2]->·,
∀ j d1 d2,#[ajZ,(ks j=Zad↔d1=d2)],
·.bind #[a9,(· #[Nz,·] q.1).map fun f=>(f,q.2)],
#[aj1,(dO · (#[a0,Zaid,ZNI]+1) (Zaid ZNI)),·,ZuC],
#[aiM,#[iO,js Y · H' b]],
#[aj3,[]],
∀ [75],aS Y (·++mw fp s8.heap) σ7 H7 s'->Nx σ7 H7->#[qe,·],
#[aj5,[],#[MD,aS Y [] σ' H' s',Zb',ZCC]],
hg _ s8 σ6 H8 x u _ I8' r8 (step x H8 y8),
bD (Zaj7) Zai_,
(#[Lw,·]),
#[qc,#[aj9,·]],
#[dj,ZlY],
#[dj,ZmL],
#[dj,ZmM],
#[dj,ZmN],
#[dj,ZmO],
fun m a_ _=>?_,
ak Zl7 Zake,
fun z hd xs rel dd=>?_,
#[nt,zc,Zakg],
fun r s₁ h₁=>?_,
fun _ s₁' h₁'=>?_,
#[ag0,h₁,Zakj],
fun ok s₃ h₃=>?_,
fun _ o2 ho2 hnf=>?_,
#[OC,hf,Zakm],
fun H' s=>#[Oh,·],
#[ako,s],
b∉Zo8,
∀ b,Zakq,
#[g3,H0],
#[hh,b∈ZuE,#[a4,Zz0],Zaks,#[qA,ZsJ]],
#[ee,p.2],
([Zu5,Zaku]:Zg_),
(ag hdx),
#[JU,k dx _ Zakw ac],
#[iY,ZiE,·],
#[aky,Zkz],
Yb (#[Ka,·]),
#[akA,#[eI,#[uA,T] != ZiL]],
codeAny_builtin · ?_,
#[akC,F.entry_extend_loop],
#[ns,·,Zcj],
#[akE,Zz0],
Zcq×ZbR,
#[dR,Zg_,ZakG],
base.Ns Zki mg,
∀ base:ZsI,· ZaP->ZakI->ZOD->·,
#[bm,m,·,fun h' M_=>?_],
#[akK,hn],
#[Cw,Zax],
#[OE,A0.cs],
(Zkg oo ZakN),
pF c=Zad,
Zvp/\Zuq/\(∀ c∈bA z,ZakP)/\¬ (ZP5/\bA z≠[48]),
cw (Zmu ·) hq,
#[akR,s5],
#[ajV,Zi5],
(t++ZakT),
(fun r HK Q' B_ sK kk=>?_),
oh (K:=K) (f:=·) · · Zag ZakV (·),
(ZK6 · · d).toNat,
#[akX,lo,hi],
(Zkg o' u'),
∀ o' u',·≠Zab ZakZ,
#[ub,Zahc,ZbL],
ZtA (Zmr Zak1 · it acc env),
· g (ZAl),
#[ak3,sm],
Num w ds,
∃ w∈ws,∀ ds,¬ Zak5,
#[zq,i_,·].all (#[b5,! x.1]),
aQm (fun hab=>·) #[g5,·],
[·,Zaj C2,Zaj C3],
#[ND,#[Bu,#[ak9,#[uA,C1]]]],
(Zmr #[ub,·,sc] · Zajf · ·),
#[uQ,·,·,Zay,Zbl,(aj ZcC aV)],
#[ala,Zap,Zau],
(iN (· hu Zau Zfp)),
au ZcU _ (Zpp (t':=·) (o:=·) (·) Zbz ·) rfl ·,
I2.laid (t':=s2.toks) (ZOn) Zbz ·,
#[ale,(gU ZqG [] 0 Zao Zgb)],
ZadU [ov] #[OG,ov,·],
#[alg,m],
(turn n s hI),
#[vd,#[ag1,Zali,Zaki]],
C5 P w K mg ZaP · ZbU s H,
#[alk,A],
· ZahM (T.self _ 0 _ _ _ st4 ZahM),
#[alm,codeAny_compStart_list],
#[dj,ZaH],
[Zalo,Za'],
["sign"],
#[ct,X6 _ ·],
#[alr,ZnA],
#[ct,#[cA,·].1],
#[alt,ZKg],
fun b ob q=>Zjo,
fun y s11 zz=>?_,
#[P9,he,Zalw],
fun d1 d2 e1 e2=>?_,
fun us rv p1 _=>?_,
#[ady,?_],
fun lp hlp=>?_,
#[da,ZalB],
(#[dj,·],NameKind.local),
(Zakb,cm,Pm),
(Zakc,cf,Pf),
(Zaj',ct,Pt),
(Zakd,cj,Pk),
(Zaka,c0,P0),
Zaf_ a ·,
#[pj,ZK4],
#[tZ,Zafn],
s.heap.SetOf ZalL p S n,
(e::Ze7),
(Zzp pos (Zkm ZalN env)),
Zaf_ b ·,
(Zes x),
e=x\/#[aK,e,ZalQ],
(ZaG::ZbU),
(put ZaB a (wr ZaB b)),
#[mo,ZOs],
Zpp (#[adz,Zjo]) Zbz ⟨ZalU,[·,·],ZaD · #[fz,·],ZPZ⟩,
so.names.lookup y.1=Zab ·,
ZMc y=Zab ·,
(put Zcb (wr ZaB b) a),
#[Pl,put ZalT b ZCr,put ZalY ZCr b,dS Zqr b a,ZnZ],
(ZuU++[]),
#[nJ,ZacG],
ZaT e_ n,
ZfM=Zal2/\ZalK/\·,
Zl_+n<ZiF+1,
#[qB,ZacI,·],
#[qI,Zkv],
(EI c cQ),
(.dK ((ZiG #[bN,(ZBt,ZaS e.p)])++[·])),
#[al8,(Zqf,ZaS p)],
[Zcp x px],
#[dy,sb.2].trans e,
(LS ZaE a),
#[jx,(setFlight #[ak,e] ·)],
#[amb,Zac],
· (wr ZaB) ZgU g,
#[amd,fY],
(ZI' C ·),
#[amf,dx],
[ZakM,Zae #[a1,ZBT]],
#[fk,Zamh,ht],
#[agC,i<=ZaR->ZkZ->·],
⟨·,#[Cj,Zo9] e1⟩,
#[ajW,Zau],
#[ej,Zaml],
SP X Zai D Zpd s',
(hl.of_keeps #[Ks,·]),
#[amo,#[eM,o,Zaiq q]],
(g24.trans (fk ·)),
#[jB,(Zcp fn p),Zcy],
(Zab (Zcp x px)),
mN Zf2,
#[CH,Zamt,fI],
· #[An,k it ZaN o e],
#[Kf,#[amv,st.at]],
((by rw[ea];show ·;rw[·];rfl)),
Zdp/\Zfs,
#[sD,Zamy],
show #[lc,_] from x,
∃ ys,·/\#[uw,Zko]/\·,
fun u=>#[AV,∃ a,u=Zcm/\·],
#[amC,RD X.K H2 n ZbV d],
(Zpq us),
ZCN++[10],
#[C5,ZKy,ZamF],
#[jf,Zcq×Zcq],
Ztz=ZaR/\·,
X5 (#[gd,ei,di,·,?_]),
#[pj,·]/\k=((·:Int) != 0),
(.dK ((ZiG #[bN,(ZBt,Zaw e.n)])++[·])),
[e1,e2,ZBN],
((· ZMj ·).extBut ZaeX ·),
#[p2,Zb0,(∀ vs,#[O9,vs]),·],
#[amO,ZC1],
(bz · Zap Zbv Zbk dw ·),
fq H · (Zae g) (·.map Zaw),
#[amR,B.w,ZNl],
z.sameBut hs (cne y c e),
(upd H1 d ZNy),
(B0 #[ak,·] #[ak,·] #[ak,·]),
#[b9,(Zde C Zex #[amV,Zea,Zeb,Zg0])],
⟨_,rfl,p,c.C,Za6,_,_,rfl,·,Zbv,U.nD,KO _,·,_,rfl,·,·⟩,
(fT f N ks S),
#[pB,ZamY],
#[ak8,#[dg,hab,Zb7],·],
#[am0,?_],
(bO (BC Zfn Zay Zbl)),
(fW Zfn Zam2),
#[jH,0].elim fun old he=>·,
⟨Zaz,ZaN,(· · · Zag)⟩,
⟨i,c,h⟩,
fun ys hy=>#[aW,· hy hq,hx],
#[zN,Zdf z (noA b)],
x.1∈L/\x.2.Nodup/\·,
Zade · (Yi hi),
#[am_,ZtQ],
qs Zac H' (· s) xU,
#[af4,#[ana,Zje]],
#[ct,kp b o #[cA,s0] (ao e nx)],
0,
⟨Zanc,S1,om,#[fa,ZL5 (fr b hb)]⟩,
(iL Eu Zap #[p6,gH] ·),
#[anf,(gH (d7 kP Zau ZcT))],
fz (Dx I1 ·) fun t1 t2 _=>?_,
#[anh,d],
fun us s1 ⟨vs,H1,I1,r,q⟩=>#[bF,·],
fun a (x:ZCp)=>#[dY,Zajp],
Za3 (Zank) cs ci,
#[acc,x,(#[fw,ZOV,Zah',ZBI]::_),·],
eJ Zew [Zew] _ _ · rfl #[agq,·,ZnF] · · Zp5 ·,
#[ann,H1,Zzj,·,ZvQ,q],
#[e9,(names.map fun ZBI=>#[b4,(#[NC,k]),Zah',ZBI])],
eK (X:=ZadG ea ob) Im · · ?_ ·,
wpAny_items_cons (#[anq,·,·,·]),
∀ (j:Nat)(t:Addr),#[ah,·,t]->∃ x y,#[dA,ZzD]/\#[k7,ys[j]?]/\·,
Zaw (ZAJ (qh bs)),
#[amL,(Zqf,Zant)],
∀ H',yI · H p A · H'->ZNi,
#[anv,c.C,ZPE],
⟨xs,xs[i],q,(by simp[q_])⟩,
#[mW,(ZpD ZkA Zet ZbL s_)],
bS f fd ZajK · g.kp Zajq,
bQ ea C od · B rfl · ?_ (vR · · · trB) · · h0B trB hE,
rA I8 hN hi hk fun s9 I9=>·,
#[anB,#[ce,H',I9,q]],
(compPost Zt0 X.A ZgL · · ZuJ C),
#[anD,Zac,ZMI],
ho Zai s2 σ H2 x y v u · I2 · · ·,
jt · Zbt ZkA Zet ZbL y vy f c' cy pm ct,
dh X sc cl C N' s3 · fp,
#[anH,Zag3],
(if · then 1 else 0),
∃ b,Zdp,
#[aW,Zav,·],
#[aW,#[cn,·],·],
#[l2,(LS · b)],
(Ds h H).get?,
fun b o e n hx=>?_,
#[zV,ZkY],
#[cJ,e],
fun j y v' e1 e2 e3=>?_,
fun h' A_ sb=>?_,
(Zmy ds:Int),
#[ago,0].push,
#[iP,(· g hg).1],
fun w' hw rw'=>?_,
#[acO,ZPG],
fun b q=>?_,
(Zac1).join,
fun hg ht he=>?_,
#[adK,s _ _ z],
#[mn,#[pj,1]],
(by rw[·,ZaeZ,·]),
fun h2 fl2 ups=>?_,
fun x y=>ZPV,
∀ (l:Addr)(as:Zcr)(H':Hp),·,
∀ (s:Shared)(us:ZbS),·,
fun fl c1 H3 hcf hT3 bt=>?_,
fun lg hlg=>?_,
fun dx H' g t=>q dx H' · ·,
Zacv+1,
#[cl,·,{ s1 with heap:=·,toks:=Zagp }],
#[pj,ZaR],
#[a1,ZqE],
#[bE,tr],
PySem.W.noTabs ·=Zad,
#[ed,Ztn],
(ZB _ _),
#[ee,x.1],
#[dX,Zik],
Zaw c',
#[dB,hS],
#[uj,·,"type.__getattribute__"],
Dt->ZbB,
(Zal hx),
ZAy n,
#[h9,·,ZiL],
(ZAP s),
#[uy,ZbT],
(dq h1.h),
g.headD 0,
ZpJ<=ZbY,
#[uV,ba],
#[B_,hd],
#[cB,l,Zp0],
#[dy,M_.2].trans e,
X5 (X5 #[ag1,h₃,·]),
#[OW,ZpY],
#[cB,t,#[dz,[·,Zae #[a1,Zvq]]]],
#[C',p2],
#[Ph,Zb0,·],
(Zd7 ps),
(PySem.W.looks_clsIn X ·),
xs.all qr=Zad,
#[nz,s1,e2],
(Zu5,Zaw p.2),
#[adf,·,ha,fun u hu hA=>?_],
#[vm,Zal S.c],
bX Zc3 w K mg b · 1 ZnT ·,
#[P8,#[act,ZBw,·]],
#[alc,jb],
ZPB\/ZPH,
(z.cps.toList.map ·).all,
#[mo,0<ZbY],
(Ao f N g),
#[al5,[acc,x]],
Zb3 Ztb A · (·) ZA9 s₄,
(cK (aQ ZaB)),
ak (· (P:=ZbC) g ·) fun ts hl dd=>?_,
#[am9,∀ y∈x.2,y∈L],
(dv (cu Zap rfl)),
(#[cL,ka,e]),
[103,111],
#[Ma,Zan,ZaL ps],
∀ f,·≠Zab (f,[]),
∀ f,· · ·=Zab ·->∀ (p:Addr)(H':Hp),·,
#[l9,∃ i j,·/\·/\·],
∃ kvs k,·/\ZDc/\ZvO/\·,
fun _ s₅=>#[qe,I m s₅],
fun _ s₅ h₅=>Yg (Yg #[da,h₅]),
∀ k:ZbB,(·)->#[nK,(·)],
fun o x=>k it ZaN o x,
(p.1.push d,true),
fun b o z nb=>#[eR,nb,·],
∃ (v:ZgG)(bs:Zcr),·,
∀ b∈bs,b∈as,
(os.trans Zo_),
Zbq _ h,
(bj (Ax)),
eY (·) fun hz lo vs rel dd=>?_,
(ZMl nd).1,
H3 a=Zab ZeK,
#[dz,[Zajg,Zgk,Zae b]],
#[g2,Zb0,Zd9],
#[g4,kL.mp,·,(m4.mp e)],
ak (mZ.some_of (v:=v) (o:=·) ·) ·,
(ZBO,ZaS l),
#[jl,#[n8,#[amQ,cz,·]],·],
(Zde c.C dx []),
rj (Dw Zbp e) ·,
(ZMl nd).2,
#[am,m,q,st],
y.2=Zmc->#[Ox,·],
(Pj c Zahm k),
#[qm,ZaH,tt],
(Zh3+(m:Int)*1).toNat,
#[aht,m,q],
#[Mb,ZaT Zci n],
(ZhB a:cZ)=· b,
#[eU,h,z,Ye],
(#[a0,Zfm,a]+1),
(upd H kdx (Zes kp)),
(bD ZahI #[anj,Zs0]),
#[Cj,·] (ZIJ b o e n hb hx),
· (au [] H I Zao h),
v=.bl Zad,
(gE (ds:=[]) qm ·),
(Builtin.«zip.__next__» #[dX,[Zaj z]]),
· (h j (ZhE h1)),
KT H kvs xs,
(SP X Zai D),
PE ZBn elt te,
#[fj,Zbb (· Zaw),hr1],
(yQ ZaP h f cy).get?,
(iL · Zau (gH (am)) vh),
Zado Zt0 h #[ha,·,·] ·,
⟨_,rfl,_,rfl,·,_,rfl,·,_,rfl,?_⟩,
S.tup (xs:=xs) #[gf,ex,e] (by rw[z];simp[HA.fp]),
Q6 (Ke ps) (uQ st) ts ·,
#[ans,n_[j]?,ZhS h' t x y],
uF ZtQ #[adJ,·],
[Zajg,ZnI,Zqz],
fun c v _ q=>k c v q,
PySem.W.methodCall_KW (pl:=pl) · ht,
f=Zi_ w,
StateT SortSt Sem (· ·),
jF zb · #[iW,#[kV,·]],
X5 (wpAny_isInstance (T:=·) (b:=Zad) · · ?_),
(ZJb elts kk pos),
(· pos Zai s1 σ H1 _ I1 ·),
(ZpS ZajS).map ZcH,
(dU tu ZadW T.dict PyProof.Rows.boot_dict ·),
Zadt (Zbn ·) · = Zb2 (Zab (ZdQ ·)),
(· _ [_,_,l] _ _),
mZ (ZI_ f) (mA f),
#[ald,Zca,·,Zalv,?_,·],
(fin h' tk k),
PS X (.Try · ZajE [] [] pos) ·,
vY #[g',·,hst] O_ fl' ·,
[99,111,109,101],
fun i j=>· (g i j),
#[Lp,k l · _ hl ZvL ac ·],
·->ZkZ->ZOS->g #[ak,T] σ · Zaha,
(upd H3 a (.dK (hU kvs k z))),
Za3 (RD X.K H m) · ·,
ah (hm b _ q #[aV,z]),
(bz bg Zap Zbv hr aA ·),
Zae8 F.slot_str_split Zal1 F.entry_str_split (F.args_str_split_2 _ _) · ·,
ae (ax (ng Y8 Zh Zi iA Zfp (aj (bO #[kO,Zfn,Zau,·]) aV))),
(EF c · fl c1 vy),
kK ((hs.2 p.1 ·).trans e) n ne nf d,
((ot e (Yz ne)).trans he),
· (vX (xs:=·) I ZI7 pl fun I' St s2 S_ hI W st kp fin=>?_),
gu ZcU _ I2 rfl · · Zp5,
(Ed MK UO.k Zbk rfl Zm1),
#[bm,·,rfl,Cm (s:=Zkq) e c · ZaF ·],
#[amB,H2 a=Zab ZPv,#[m9,#[qw,H2,a,ys,y]]],
#[adj,hq g ⟨a1,f2,a2,a3⟩ a4],
fun kp kdx hkp az1 nkd=>⟨kp,kdx,p,rfl,ac,rfl,?_⟩,
zR (bS q _ rfl (Zc7 ·) (wk · · ZCs) (fun r hr1=>?_)),
(C0 X s3 · fp C E),
([ZalE,ZalF,ZalG,ZalH,ZalI]:ZamH),
⟨_,rfl,_,rfl,b,cb,Zex,_,_,rfl,·,ZcM,ZafO,Dc,·,·,·,·,·,·,?_⟩,
⟨·,_,_,rfl,rfl,#[eR,td,hd],#[Cc,bK (by have:=ft.d;lia)],?_⟩,
⟨_,rfl,bk,Y.dx,_,rfl,·,ZMF,_,rfl,_,rfl,ZPy,·⟩,
[101,120,99,104,97,110,103,101],
· q loose XP YP l.row.toRowW d [] (fun f vs=>PySem.call f vs),
P_ A ZbU s H vs Q E · hsp,
⟨I',_,_,_,_,St,·,rfl,W,st,·⟩,
Cf · P w K mg ZaP · Zbt · f c' y cy A ZbU · · E,
#[yO,·,Zn9],
∀(h:Zn9)(k:·),0,
∀(ho:PE X o ·),0,
#[aZ,ZNH],
#[aZ,ZajJ],
#[a9,?_],
#[b4,·,·,Zcv],
∃ o,ZDs,
#[aW,Zv6,·],
#[aW,·,Yl],
#[Iz,#[aW,·,n]],
#[IA,ZahZ],
#[abJ,ZahZ],
#[dJ,(f0::r)],
#[dJ,#[RU,0].2],
#[l2,Zama],
#[Kh,·,tk],
#[abT,#[NL,·]],
#[iM,ag · _ _ z],
fun _ s'=>Zamn,
#[PM,0].findIdx?,
#[dL,rfl],
#[An,ZkY],
(ZDa:Nat),
#[gO,ZRp],
#[hJ,YH],
#[Aj,?_],
fun _ _ _ _ H Q I h=>#[apE,·],
∀ x∈P,ZaoP,
#[afk,·,Zab (· ·)],
fun j=>Zan0,
(show T=· from ty),
#[i2,ZjH],
#[kr,#[C7,·]],
#[aoV,0].Nodup,
bs[i]' Zag,
#[aed,·/\·/\·],
fun n=>#[h4,n],
#[Ks,?_],
#[mn,·<=ZbY],
fun h=>∃ t,#[nG,·,(Zpx C t ·)],
fun _ σ H=>te σ H ·,
(by show ·;exact Zdb),
#[Km,s b o e],
#[J0,#[bc,x.2,·]],
#[ol,0].natAbs,
(ZCY).natAbs,
∃ p,Zwp,
fun r s₆=>r=.ok Zpd/\·,
#[ad8,x∈K],
∀ d∈ds,#[th,·],
#[amE,0].reverse.lookup,
(f,none,0),
∀ x∈left,ZQE,
#[aet,#[q3,·]],
∀ d∈l,d<10,
∀ e∈ds,e<10,
∀ w∈ws,∃ ds,Zak5,
(fun v _=>ZapF),
∀ (fs acc:Zcf),·,
∀ f∈fs,Zhk,
#[cR,0].hold,
∃ w,ZapY,
fun b n=>Zlk,
#[af4,ZaiR],
#[ak,c0],
#[ak,sl],
#[ak,acc],
#[ak,C1],
Zbd Zkd,
Zbd Tok,
Zbd WData,
ZdP+1,
Zaj q.1.2,
(Zae _),
(I.wish _),
(PySem.F.typeCall_list_1 _),
(List.takeWhile_sublist _),
#[a4,H4],
#[a4,ZJK],
#[a4,ZanO],
#[a4,ZapN],
f.nw.2.2,
#[gF,ba],
#[gF,HO],
SeqAt.EqAt.same _,
(Zkf+1),
(ZgX+1),
ZaeQ a ·,
choose z,
Zafj z,
(ZhB z),
(ZaY z),
(Zafj z),
#[a_,dx],
#[a_,ZiT],
ZtD a,
#[a7,ZJt],
#[a7,by simpa using he2],
#[a7,(ZamA)],
#[fg,α],
#[fg,ZbB],
#[fg,Fin],
#[pj,ZfL],
#[pj,ZiQ],
#[pj,rest.length],
#[a1,ZQ8],
#[a1,ZakY],
#[a1,ZRJ],
(Zae7 ·).1,
f.nw.2.1,
X8 (#[sO,·]),
X8 (ZDB),
X8 (fun e:g=f=>·),
#[c9,p1],
wpAny_Try_except ?_,
ZzQ e,
b=ZdP,
#[bE,lp],
#[bE,lc],
#[bE,dm],
Zhy UInt8,
i<ZL6,
X6 _ hoc,
X6 _ htb,
X6 _ Zgb,
PySem.W.handedIn ·=Zad,
#[jf,Tok],
ZtD b,
x∈Zf5,
#[cx,ZCY],
ak (List.mem_flatten.mp ·) ·,
#[a8,ZaH],
#[a8,ZtN],
#[a8,Zf_],
s5 a b c,
b∈Zkj,
#[cQ,ZN],
#[cQ,List.getElem?_take_of_lt],
#[cQ,Yc],
#[cQ,Z6],
(zy a b),
(Pp a b),
(al a b),
#[ed,ZfW],
#[ed,ZdK],
#[ed,ZJN],
hkb.mpr rfl,
#[dz,Zajm],
#[dz,ZRf],
#[dA,P[i]?],
#[dA,ps[i]?],
#[dA,X.N[ix]?],
#[dA,Zvv[i]?],
([]:Zcf),
#[dW,Nat],
#[dW,ZgI],
Zax Zer,
Zax ZaH,
ZsU q,
ZmH q,
#[da,fin],
Yc (ZanR),
Yc (#[iX,(·:Int)<·]),
ZbO h2,
ZbO fH,
#[g2,Zl0,·],
#[pc,ha],
#[pc,hb],
#[pc,hu],
#[pc,hp],
#[pc,hc],
#[pc,he],
#[pc,hg],
#[pc,hj],
#[g3,Zy_],
#[b8,Zar,·],
(PySem.F.args_tuple_add_2 _ _),
#[ee,f0],
#[ee,e.1],
Zbn a::r,
(Zal e),
#[jk,Zcb],
#[bF,e1],
(.dK xs),
#[cn,xw],
#[cA,ZJE],
#[cA,neL],
#[cA,oth],
ha.2.2.1,
#[b9,ZPt],
o.dict=Zac,
ZRQ=Zac,
#[g4,List.eq_nil_of_length_eq_zero,·,·],
#[b_,P4],
ZeB hq,
I3.after hq,
#[p4,Zv7],
j<ZaR,
(Zae i),
ys[k2]? = Zac,
#[p6,Ia],
ZJ9 hi,
0<Zmz,
(Zax x),
(Zf4 g),
#[dB,ho],
#[dB,ho2],
Zti Zaw,
ZtF<=i,
s _ _ x.f2,
s _ _ x.f3,
#[t9,fn],
#[dc,i1],
#[dc,i2],
Yb (ZaM),
Zi7 _ _,
bw [x] us,
(I1.ok.hd hc),
wpAny_isSubtype_exc · ?_,
#[Ki,Zut],
α->Zaa,
ZsI->Zaa,
ZbS->Zaa,
· Zar (·),
i=ZcK,
ZDa<=Zcc,
dJ k ZKS,
#[t6,ZyV],
Zd_ ha,
Zd_ hb,
Zd_ ht,
ZaS t2,
ZaS t1,
ZaS t3,
#[jp,ZhL],
#[MH,AP],
·->#[b8,Zar,·],
ZeB hx,
ZeB hen,
#[ft,rfl],
#[ft,ho],
#[um,Zd8],
#[k2,(e+1)],
(N9 c.C),
Zae' _ _ e,
Zaex y,
B1.mono s2,
n<=out.size,
vs=[ZC0],
vs=[ZQv],
#[ua,ZhO],
#[ua,Zfb],
#[ua,Zfc],
ZKU fs,
· (#[b5,!#[AV,ZjK]]),
#[h6,H5],
#[ej,Zoa],
ZcI hm,
#[qb,csx],
(ZhB w),
PE X e ty,
Gl X Zds,
Gl X ZdK,
#[ahb,⟨tg,ZbT,ifs,0⟩],
w=ZeE,
w=Zdx,
w=Zf8,
w=Zf9,
c<Zew,
Zd6<ZbY,
#[uw,ZaR],
(ZAF s),
#[jw,h5],
#[ge,ZRk],
#[ge,Zapi],
#[hf,Heap.get?_update_ne,·],
#[BD,bY],
#[BF,[]],
#[BF,ZO8],
(Zde C dx xs),
(Zde C dx (dE f y fs)),
#[fz,rfl],
Zs1 y=Zab ·,
#[np,ZzD],
#[np,e_[i]?],
#[br,(fun m σ H'=>·),·],
#[qg,t2],
#[qg,t3],
u=ZiL,
#[k7,X.N[iy]?],
#[jD,ZeQ],
#[uB,s2],
#[uB,ZKk],
#[jF,Zi0,·],
#[jF,Zi9,·],
ZJ9 hj,
∀ b,#[g3,Zpw]->·,
#[nv,Zew],
#[ic,h1],
#[ic,(SeqAt.ne_of_list_tuple · ·)],
Ao f N g,
Nat->Nat->ZbB,
#[uF,ZaP],
#[qj,uC],
#[qj,xu],
#[qj,yM],
e0.hok.kept hk,
ZJ9 hk,
(Zy2 z).symm,
(ZdQ id),
(ba.back f),
(ZpP fs),
#[gp,S.c],
#[ql,Znd],
#[ql,ZPm],
e.nfp b z,
#[k_,Zadr],
#[k_,Zaeg],
ZabN (Ya _),
ZzS (Ya _),
#[th,OS g],
#[t7,ZlX],
#[t7,Zsy],
#[BU,ZiE],
Zo4<=100,
∃ t,u=ZPP,
∃ t,u=ZPU,
#[Nf,Zaqh],
#[uN,H'],
#[qq,ZCi],
ay H1 H2,
#[lc,Zao1],
Zl' Ztb A · R s',
Zagk s.gens,
Zagk g',
ZtD l,
#[QR,0].Perm l,
ZMl nd,
aj9.mpr nd,
#[BZ,Zo1],
#[BZ,ZhV],
#[le,s4],
#[lg,ZMc],
#[lg,Zo6],
#[lg,Zanp],
#[uV,Int],
#[nM,Zafz,·],
#[h4,j]=x,
#[B5,41],
#[ah,t[n]?,p],
#[u4,Zanp],
#[jS,·,Ztx],
#[ue,(4:Int),Zh2],
ZaT ZfN n,
#[qe,I m s₆],
#[nm,hl],
#[nm,hq],
X.A.in1.units+n<ZiF+1,
Zbg->Hp->VK->Zaa,
#[ahn,Oe],
#[qA,Zd8],
(Zpx C t Zac),
#[qD,ak3],
#[qD,ak2],
#[qD,ak4],
#[qD,ak6],
#[Ca,·,Zadm],
ZeC s0,
ZagI=ZdC,
#[nU,ZqP],
(Ztw v),
Builtin.List.listSameRef · ·=Zaz,
(vs++ws),
(Zar+3),
ak Zl7 Zaiv,
#[lu,ZmB],
ao ac hh,
(Zbq Zcb g),
#[vd,?_],
ZhS h' TO x y,
#[ML,ZcK],
kE c E H (bn st d),
#[vi,hb],
ZdN ht,
Str×Zaie,
_=10 ^ 100,
#[cA,Zy'].1,
#[cA,toB].1,
⟨sl2,e2⟩,
#[oc,Zaou],
(Zagm oi),
ZAd C=Zac,
s5 _ _ C_,
(qS c cQ),
(Oa c cQ),
bw xs ZAw,
#[e9,(bh A)] m=Zac,
#[fk,ZapV,ht],
(Zbb (ZzG kV)),
Yg #[da,h₆],
ZtJ e fs,
#[Oa,uX],
⟨o,e,ex⟩,
⟨o,e,ex.2.1⟩,
#[Bb,ZcT],
Kp fp H H',
Kp fp H H1,
Kp fp H H2,
Kp fp H Zn6,
#[ad0,ZQD],
#[qU,(#[IR,·])],
#[nK,(if neg then · else ·)],
(B2.rw e he h),
#[gc,Zbs,hd σ H p],
#[gc,⟨q,Zbs⟩,hd σ H p],
#[vy,(iK)],
#[Oh,s1],
Zje s3,
a<Zkf,
a<Zew,
ZNg∈T5,
ZNh∈T5,
#[dJ,(ZafW i)],
ZjJ::Ze7,
#[A1,x∈r],
#[aix,ak (id ·) Zaiy],
(.dT []),
seqIndex_neg (Zaf) ·,
#[CJ,Zapz],
#[vJ,fun t2 ht2=>·],
X5 (Zadr (Yg ·)),
#[vK,Zds],
#[vK,ZdK],
#[q8,rfl],
#[CM,·,ZadI],
#[vN,Zbl],
#[vN,Zfn],
#[rb,hp],
cC X.K H a xs',
bL X.K H a xs',
#[p2,Zb0,b≠P,#[a4,·]],
ZaT n_ c',
X5 (#[gd,hz,rfl,ZQw,?_]),
(jy ZadW UO.mp),
#[rg,hm],
q3 y hy hf,
#[agn,#[Mb,#[Bu,ZQS]]],
#[Rc,0].1.mono s,
(Str×Int),
ZbR->Zk',
1<=Zd6,
Zmm<=900,
Ztq<=900,
#[OL,V4],
#[OQ,#[ae4,·]],
#[OQ,∀ t∈Zaqx,·],
(Zal hk),
#[OR,Zar],
(Zo5 ZaY),
#[v4,cZ],
(b0::bs),
t1 _ _ hFz,
Q #[nq,Zar] Zkq,
#[v_,hm],
#[aX,z,q1],
#[aX,z,hb],
#[agQ,Zf3],
#[cB,t,ZPs],
(gX Zbo a),
#[wi,rfl],
#[ue,Zg9,ZnB],
(rJ (du dH)),
(rK (du dH)),
(qv (du dH)),
(rJ (du dG)),
(rK (du dG)),
(qv (du dG)),
#[O1,Zape],
#[O1,(bj (bj (Ax)))],
#[wm,ZapR],
#[nz,s2,e2],
gL K c0 P0,
s'.heap.Ns C m,
#[C6,ZPP],
#[C6,ZPU],
#[C7,x.2],
bD (ha Zai s σ H _ I h) Zib,
gq X.K C f,
#[I3,Zvz/\Q σ' H'],
#[O_,Zps],
#[O_,ZKM],
#[O_,ZKN],
Zb3 Zt0 X.A #[uy,ZCg] Q E s,
#[aiO,HH],
#[ajW,ZMt],
#[Pf,y0],
#[Pf,y1],
#[Pf,y2],
ih #[B4,ok],
X.s₀.heap.FunFrames Zev ·,
#[Df,ZiE],
ZgU<64,
qL _ ZaoZ,
Zb0 a=Zac,
#[cl,H6,s7],
(s2 _ _ #[le,s1]),
#[pj,ZaR+·],
PE X ZCg Zwf,
#[afu,ZqS],
(ZO.mp h1).1,
qr y=Zad,
(Zar+4),
bo p.2 q.2,
hn b ZCW,
#[cB,q,Zux],
(fW Zau Zap),
(fW Zay Zbl),
X5 (YO #[ag1,h₄,·]),
#[Dr,ZC8],
vI f g ZaoS,
(Zaw p.1,Zaw p.2),
#[qs,t,ht],
#[PJ,∃ (e_:ZbS)(n:Nat),·],
⟨h',g,d,t,os⟩,
Q3 X Ze7 th,
(d7 Ec Zau ZcT),
#[PN,h1],
#[PN,u_],
OU g B e c od Zan,
(nm g hg),
#[CM,C,Zdh],
#[CM,C,ZadI],
(nit b u q),
#[ai6,ft.k],
b1 b o' e',
b2 b o' e',
Zi3 x m h,
#[PW,RD X.K H n ZbV e],
⟨y,H2,I2,r2,q2⟩,
#[cP,Zgi,ps,sp],
#[P2,∃ z,y=Zax z/\·],
#[ak3,hn],
#[Or,bA z],
#[alc,wE],
Builtin.List.listItems ZcU,
#[Qb,Zamn],
(Heap.SameBut.update ..),
(#[Aj,#[v',he]]),
Tok×Tok,
ZRh×Tok,
ZbC=P,
ZzC=j,
Ztz=ZaR,
[Zdm,Zhx],
[Zdm,ZhV],
Ztq<Zcc,
Zkv<=50,
op≠.In,
op≠ZzJ,
Int.emod_nonneg _ ZaF,
Int.emod_lt_of_pos _ ZaF,
hk _ _ e1,
(cne _ fw),
(cne _ fh),
#[alJ,xs],
#[aK,dx,ZPt],
#[bD,·,(Zpx C t #[cx,Zar])],
#[dg,ZRg,hj],
#[aX,X7,Zhe],
#[kN,op,CmpOp.In],
#[kN,op,CmpOp.NotIn],
(Zar+2),
(mY c z),
ak I3.loc ZN2,
bw ys e_,
#[alP,ys],
#[agO,cU,cB],
X5 (YO (wpAny_point ·)),
UE X es t,
_::_::ZcX,
(ZafH _ _).upd _ _,
#[QT,Zar],
ak (id Zl7) ZN2,
ak (id Zl7) Zake,
#[h7,Zau,Zay],
(one h1).2,
(one h2).2,
(I2.env0.make C · []),
#[alX,Zmc],
#[alX,Ze'],
#[gg,q,Zalz],
#[QZ,ZQO],
Zmg=[48],
#[K8,q,Zalz],
#[iZ,Zg9<=ZnB],
#[iZ,Zg9<=Zqy],
pP Pk H HH,
#[Q2,ZIy],
#[Q4,Zgr],
Zd' H2 P s_ Zbt,
#[Ca,·,(ZfP ZpL)],
(X5 (Yg ?_)),
Y5 _ hx1 rfl,
#[qO,hf1.mono,#[eV,z]],
(ju ks b),
Mod X.K ZbK Zev,
Mod X.K ZbK b',
(#[qq,(ZafL g).gs.map]:Nat)-1,
(#[qq,(ZafM g).gs.map]:Nat)-1,
bL K H p ys,
aR #[bw,g,hg,Zakx],
#[dn,iw,(BC Zap Zau Zay)],
aO P w K mg ZaP d8 cb ZtR · ZkL ·,
aO P w K mg ZaP d8 cb ZtS · ZkL ·,
∀ f fd,#[am,x,x,st]->#[cP,k,ps,sp],
∀ f fd,#[am,x,x,st]->#[cS,k,ps,sp],
#[BA,Zkv] (Zac3)=· id,
Zbq ZaB g=Zac,
(Rp c T5 cV),
(J0 c T5 cV),
#[Rl,(bs++[x])],
#[amj,Zip],
#[amj,Ziq],
r x xs H Q,
#[amk,o'],
#[amk,sl],
TH x y=Zad,
#[mV,(Zcu #[yQ,o,m] [] [] pos)],
#[mV,(Zcu #[yQ,o,m] Zcy [] pos)],
⟨_,rfl,_,rfl,_,rfl,two,·⟩,
⟨_,rfl,_,rfl,_,rfl,ZPz,·⟩,
#[DF,Zfv,Zb'],
aS ZDG Zai σ H s,
aS ZadH Zai σ H s,
#[DP,bX,x],
X5 (ZJ · rfl (X5 (wpAny_updateSeq_pair · ·))),
E #[ak,e] Zkq,
Zd' H' P pos ql,
OwnTail h bmB bm,
#[amJ,ZnX],
#[amJ,Zae i 0],
#[Rz,Zbo],
YQ (jE I hg hm boot_list ?_ ZaF ZaF),
YQ (jE I hg hm boot_enumerate ?_ ZaF ZaF),
#[RB,ZanK],
#[RE,ltH],
#[RF,Zay],
dy 9 H1 p f,
dy 9 H2 p f,
#[anz,#[qj,a]],
#[anG,ZaP],
#[anG,b'],
Zph ZnF,
uV TI.kn,
ou.mp kn,
(∀ f,Zap8),
(fun m hm=>?_),
#[anJ,f=u],
cZ×ZbR,
· Zar #[g5,Zac],
x_[j]=u',
ZmE=g.dt,
os'=s.os,
Zcc<ZAK,
ZfR<=400,
ZagI<=t,
ZQt<=640,
Zch/\ZbW,
#[anL,ZDK],
(by rw[ZahY,q];simp),
#[anN,Zama],
(a::p)::ps,
#[anW,hn],
#[pt,#[AV,ZfA∈i.2]],
(ZcH ys[j]),
(ax #[dn,iZ,(BC Zap Zau Zay)]),
#[ah,us[i]?,u],
#[ah,z.cps.toList.head?,48],
#[ah,Zab3,Zih],
ZI_ m=Zac,
#[dR,Tok,Tok],
sH _ _ hF,
hn a ZCW,
(p++c::r),
#[cl,Zn6,ZKk],
aR #[c9,Zaqu],
(sT _ _ hd),
#[aK,y,ZPD],
PE X Zmf tv,
Zab (ZdQ ZzY),
(B.cs++[l]),
#[AY,ZaY Zer = ZaY ·],
#[mR,(fK ZjA g Zcz).map],
#[b8,it,s],
s.heap.IsCell c v,
#[dn,Z_,ZQ1],
#[mq,ZtW,·,ZMO,·],
(fW Zbl ZcC),
X5 (ZJ' (·)),
(#[q1,x.1],ZaS c),
(p.getD i 0),
Nat->Zbi->Zaow,
ak (id S1.d) ZCd,
#[jy,l,Zapx],
u1.slot b o e n hf hx,
bA (ZkB d),
cw s2 hl,
vs=[Zu',Zae a],
ZBP=Zdr b,
#[qs,T,hTT],
#[lm,te,Zaqs],
#[te,#[uc,Zmr,Zahc,1,it]],
un.tbls b _ e1,
#[qd,seqItems? #[ak,t]],
(uQ (c5 a b)),
fU H l ps,
(X6 _ (Ym _ rfl)),
OU ZaE B e c od fl,
#[A1,x≠f0],
(Zae (Zmy ds)),
ZgE (Zhy Nat),
#[ah,ZaiK[i]?,Zih],
ak (ZzR gx) ZQn,
1<=Zd6/\Zd6<=60,
#[ra,pr,z.mono #[Lz,·]],
#[OC,hb,ZQi],
aO P w K mg ZaP ZcO cb ZAM · ZkL ·,
x∈Zf5\/ZDj,
#[we,l,ys],
g=a\/g=b,
#[wo,iE,c],
Zax ZAz Zca,
#[aoE,ZvM],
#[aoG,Y_],
vs=[Zaj b,ZbH],
unS.slot b o e n hf ZaN,
X5 (aQn hS rfl ?_),
#[aoK,pr],
hsB b o' e' ?_,
⟨a,b,·,z3,z4⟩,
#[aoN,h_],
aM c.C H p B ZcR,
yF B l e c od L ZaE,
(Zd_ hp).elim,
#[aoQ,pF],
(p.getD j 0),
ZiI y c e,
(#[ek,p.1=h,p.2,Zapd])=_,
FormattedValue_plain (bD #[Bh,he] Zh8),
#[ls,k,c,e,ZamT],
#[ak0,H0 d],
⟨x,dx,rfl,ac,fun B H1 S1 kp fr=>Zwd⟩,
Hf xs ts z hl,
#[kh,ZnY->#[k3,ZcG]->ZvM],
(eK I hg hm ?_ z_),
#[acq,hk,ZapC],
#[ao2,Zfe 8 ZdV],
(JP EQ ZcT),
(ZkB (.go g)),
#[apk,kn],
(ZKY (_++#[Lw,ZAL])),
#[aps,B.kindOf],
#[apy,ZhB],
#[sz,Zcw->ZuG->#[kS,Zapt,dx]],
Zc ?_ S_ rfl,
#[apD,Zo9],
#[ags,Zag3,H6,h'],
#[ww,jw,ZPI,ZDR],
#[apM,Zvx],
⟨H,Zq4,#[aX,zu r,q]⟩,
#[apO,ID],
#[apS,lv],
Expr.Constant Zan 0 Zn_,
#[apX,ZRb],
vV (e:=qh bs) i fs,
Yb (al one ZaN),
b≠i1->b≠i2->Zch->Zd9,
Zd' HH Pk aW aD,
(#[Ah,X7,X7,YL,Zhe]),
uM f1 f3 f4 Zaqt,
#[aqc,Zae],
(EG aD fl c1 vy),
#[aqi,ZQ0],
#[aqk,(aV)],
#[aql,aY],
#[aqm,ne],
#[aqw,Zag3],
#[aqz,B.d],
#[aqC,PySem.W.WalkO],
ZcG ZnH,
ZA4 it,
ZafS y_,
DecidableEq κ,
T.ln.sublist Zaeq,
(fun n s'=>ZPI),
(show #[alJ,Zci] from p),
(#[adM,ZaoX]),
Zhz->Zhz,
[Zu5,Zaku],
[Zv8,Zf4 b],
[ZtN,Za5],
["source",Zi8],
3<ts.size,
t<ZagI,
e<Zb6,
#[kh,#[b9,u]->·],
Zkf<=a,
ZzD = ys[j]?,
ZNH++ZAa j,
#[kp,#[agn,#[ND,#[Bu,·]]]],
z∈ZafK,
Zcj≠C,
Zvo/\ZdF,
#[sE,Zfy/\Zhj],
(bv ZiH w).is,
(kh (h g hg)).1,
(Zpb hc).2,
(b x hx).2,
(kh (h g Ye)).2,
∃ o,#[a4,Zl0],
(p.2,p.1),
(Zaoi,ZC2),
⟨sl',e2⟩,
⟨d,hd⟩,
⟨w',ZamT⟩,
#[aW,ZsQ,ZDo],
fun c v hc r=>k c v ?_ r,
#[aV,#[nN,nk]],
#[l8,hC3 _ _ (I3.pin p hp).1],
(ZcI z).elim,
(no vs H Q E h).elim,
#[bN,ZaS e.p],
#[bN,hj (zS hN e1 (e▸hi))],
#[IX,· (au · H I rfl h)],
#[IX,· (au · H Zg8 ZbG h)],
{ D with nx:=u D },
∃ x,#[dA,l[i]?]/\·,
(Zy5 #[Q5,rest.toArray]).push,
(fun b q hb z=>#[dy,·].trans z),
#[gR,#[Du,g]],
#[iP,· g #[fq,hg]],
#[zN,#[nN,ZaN]],
· #[tE,h w #[fq,hw]],
fun Zqv=>Zh3,
∀ [374],ZfC->ZaoH->·,
∃ ob,·/\Zadg=Zac,
#[fZ,#[ul,1,ZQp]],
∃ q,#[ge,#[dz,#[qm,·,q]]]/\·,
#[kr,Zabv+1+n<ZiF+1],
(aQ l).Nodup,
(fK f g m).Nodup,
· >>= fun cs=>Zb2 cs,
#[uc,Zz',ZI2,0,it].onRaise,
∀ y c,#[OA,c]->c≠C,
(by rw[Yi h1]at eu;exact Yk eu),
(by rw[Zwg]at eu';exact Yk eu'),
fun p=>if ZjL then (p.1,m) else p,
· (p:=ZaoJ) (r:=dk r) ·,
fun h=>(hT h).same s1,
fun a x=>#[dY,(xz x)],
(if S i then n else n+1),
fun x s'=>R (ZzQ x) s',
#[Bz,N].find?,
wpAny_stack_any fun st=>Zog,
fun acc p=>acc++·++p.cps,
∀ (w:World)(h:Heap),ZRx->#[nL,0].In h,
fun e he h=>(B.rw e he h).2,
fun a o e n=>· a o · n,
(show _=Zeu ea from rx),
fun a o z n=>by rw[<-·,Zlk];exact z,
show #[kM,#[Ry,·]] by rw[·];simp,
(EE Zf3),
(Zzb q_),
(Zzr r2),
(P.zip vs),
(l.any ZRn),
(bx3.trans bx2),
(Cj i.2.2),
(ZvY Zom),
(ZvZ ZDy),
Yf (ZamA),
hA.mono (#[iM,#[eV,z]]),
List.length_eq_one_iff.mp (#[iY,·,1]),
#[ah,X.N[i]?,n],
#[ah,ZzD,ZAA],
#[ah,xs'[j]?,xs'[j]],
#[ah,us[1]?,Zan],
#[ah,σ[iy]?,#[cx,vy]],
Nat.le_mul_of_pos_right _ e2,
(Zzv (ZRY)),
(Zal6 (Zac3)),
(ZDA::ZC8),
#[cd,Int,Int],
#[cd,α,β],
ZI (Zadp · · ·),
(code_list_new _ ZnP),
#[AV,bA z≠[48]],
(Zi7 b a),
#[fg,ZbR×ZbS],
(X _ _ ho),
PE X f tx,
PE X e1 t1,
(·)=fun m=>xs[i+m]?,
(hch _ z).2.1,
X8 (by exact Yl),
X8 (#[vX,Yl]),
X8 (#[a9,z (Y1 q)]),
kvs++[(k,v)],
#[aX,l,Zwl],
#[kN,z,x.1],
#[kN,ZJH,Zac9],
(cne x nx),
ZzK a=Zab ZPX,
(Gh Zap Zfn),
(N1 c cO),
(J2 c cX),
(N2 c cV),
(N4 c ck),
Zae q.1.2 q.2.2,
#[bJ,x,o'],
Ztz=ZaR->·,
(hk j _ _ (Yi h1) (Yi h1)).mpr rfl,
bw xs' x_,
(as++[q1]),
W m σ H,
PySem.W.set_plain X J · ·,
#[bx,#[nN,c]],
#[br,Zaz,ZaN],
#[br,Zaol,PySem.F.args_list_init_2 _ _],
ZaD e r,
ZaD h t,
(Zkg ZPX #[mR,ZhI]),
#[agO,cL,cU],
ZJR b o e (aq8 b),
r.repl k ry,
Zafv k 0,
#[h0,(callAny · _)],
#[g4,dX.mp,#[n',e],·],
#[g4,Value.type.inj,·,ZaF],
#[AV,e.w=w],
(Zcu Zk6 ZamM [] pos),
#[bI,"KINDS",kd],
fd.code=Zaj c,
e=Zaj ea,
vy=Zaj i.1,
(Yo (aQg _)),
#[tc,(setAttr Zli · v)],
#[af',t,Zci],
(Mz i D),
bw [x,y] us,
y∈ju (gX c x) b,
#[eM,ZQK,fJ P w Zqk ·],
#[ue,ZnB,12],
Zb2 (Zcv Zpd),
#[agN,cU,cU],
#[agN,cB,cB],
#[agN,cT,cT],
#[agN,cL,cL],
#[agN,cF,cF],
· Zg1 (by simp[ba.names]),
(Zi' acc g),
(ZMm · it v),
#[ei,lp,(ZgK Sf n)],
#[c_,Zac,ay.refl _,(·)],
#[aZ,ZPM]=n,
hf e ZaN,
ZgS e env,
#[ha,ZA4,it],
#[dq,(bz · Zaqq ZkI Zbk aA ·)],
lt (el b ·) (el a ·)=Zad,
#[nh,A.sb,#[dg,Zagd,A.ab]],
ZAu (OV bs),
HT K mg c,
Yh _ (ih h),
(#[adY,cs,UO.msz]),
#[gc,Zaf,Zaf],
#[h9,z,x.1],
#[yQ,ZQL,Zf2],
Ze (Zadp · · ·) ·,
(a::b::Ze7),
u1.tbls b ps q,
sl1.2.2 b o q,
#[hf,len,hsp],
#[hf,exec_Assign_Name_used,hsw],
Mq r f.1,
(AN cF d),
#[abX,op,r],
L7 asc a,
[(ZagD,Zae 1 t)],
ZgE (Int×Tok),
lk x c h,
ZcI (ZabQ b hb),
∀ b,Zdp->G,
(ZzH xs k),
#[iZ,ZnB<=12],
#[ah,ds.head?,0]->·,
g<10 ^ 12,
#[qm,Zdi,u],
(Ez cb cU),
gL K c P,
#[BV,H,H'],
Zaei Zcj m,
Zbq Zcb m,
V->V->ZbB,
#[nG,fI,oI],
ZI_ f=Zab v,
nE ZbC X.w H ·,
#[qs,t3,ht3],
#[uZ,#[a1,·],ZnB],
#[mT,(Zad::ZpS ·).map],
#[m6,[ZBN],[Zany]],
#[B6,Zab (i,t)],
#[nQ,isSubtype (Zbn ZfW) ·],
#[ahW,_,rfl],
(B.rw e z h),
#[te,#[uc,Zmr,ZI2,0,it]],
b=f\/b=cy,
(#[RZ,0].all fun a=>#[AV,·])=Zad,
upd H lg Zahz,
upd H lp ZCT,
(vT f y fs),
(fm gn ZafD rfl Zwh),
(ZaI (xs++zs)),
(ZaI (ZvA++Zap4)),
#[jl,·,#[zz,·,·,#[fx,aB,·,(be aB gj)]]],
Un fs [] H H' h ·,
#[qO,hf.mono,s1 _ _ z],
kk H' s',
ZKd v T,
#[ob,Zff,Zba,·],
#[agC,i<n->ZkZ->g (Zae (·)) σ H Zaha],
(dD (fm fB ZafD rfl ZmZ)),
#[bJ,l,#[jr,xs,y]],
HT X.K ZbK c,
#[qU,(WV r t)],
I2.fpOk (Ya _) (Zagu (Ya _)),
nV B Zni e c od ZaE,
(k<34->Zrf),
ZMm · it v,
∀ s',ZDl->Q (Ze6 ·) s',
(Zae (ZAJ (qh bs))),
(ZAf x).mp (· hx),
#[CH,vs[11]?,P],
BZ X Zet tb,
fz (·) fun i1 i2 i3=>?_,
([],Zc6 1),
bA #[fV,Zer]=ZaqB,
bA #[fV,Zc5]=Zaqb,
bA #[fV,Zck]=Zao0,
1<=Zb6/\Zuq,
· K Zfd a xs,
#[Ke,r,Zpu],
fq H a y Zih,
#[re,H1,h1],
#[qT,#[eh,(b9.pair a b).word,ZeE]],
#[OI,hT,Zan9],
#[vV,#[dg,h,Zag]],
[e,e2,e3],
#[Ku,ta σ H #[agz,·]],
#[b5,!#[AV,x∈gF (t++ZDL)]],
∀ f fd,Zapr->ZDx,
#[OQ,#[aof,ZnL]],
(ZgV ZRD ZQY),
(l.foldl ZMk acc),
Q5 X Ze7 u,
#[v5,CY,?_],
· (fun a e=>a*10+e) 0,
ZBt=ZhB w,
#[a1,sIx n n hi],
Zal6 (Zac3)=bs,
#[bm,·,(ZQl),fun k hk=>·],
(up _ _ hS1.symm z'),
(aN ZaoO (ae (#[P_,hr,Zau])) aI),
(N6 c ck cV),
#[wk,C,fI],
#[p3,S,Zd9,ZQy],
#[O7,q_,n],
#[O7,Zanx,ZaR],
#[O7,⟨q,q_⟩,ZcK],
#[agC,i<=ZcK->ZkZ->ZO5],
(Dh z lo hi),
fq H · Zoj (#[Ro,0].map ·),
(hU kvs p.1 p.2),
#[ajX,ZsC fd],
#[wx,ZC9,ZAM,·,·],
¬ Zhk->ZQV,
⟨q,Yh _ hq,e⟩,
(Zax f Zca),
(Zs5 o i),
(qR W i),
bA tl=[],
ZaY (ZkB d),
Zae (Zmy ds),
gM (j5 ds),
PT X c tc,
gW X ZqS r,
#[bx,h (Zy2 z)],
#[ce,H6,I9,qn],
aO P w K mg ZaP d8 ck · · Zjc ·,
ZIK b o e n hf (aq8 b),
(au · H1 (I1.tok _) ZbG ·),
#[Dp,lf,lv.map],
X5 (ZJ hTI rfl ?_),
bw (ZhI Zaw) us,
bw (ZpY ZaS) us,
#[qW,(Zae (g i j)),ZbG],
#[vw,·,hp,fun t x e=>?_],
#[dM,r3.length,#[hf,Zzu,q3]],
Kl (· Zaw) ·=Zab (Zaw ·),
U7 X G rg #[iW,#[kV,tM]],
U7 X G vH #[iW,#[kV,Ak]],
#[DE,nV B ZbU e c od g],
Za3 (dy d H) ps fs,
(Zbp b ob e).stay (fun c w' hc q=>(hs.2 c ?_).trans q) (Zvj) ZIZ,
#[Pd,[(Zba,Zae ·)],Zc0],
(Og cb cU cL),
#[P2,td σ H1 fun x H2=>∃ a o,ZeX/\fq H2 a y o/\·],
iE Zc3 w K mg b c,
ae (Gi Zap Zau rfl),
YU Zzd I.sz,
b.2.2<=a.2.2+1,
g∈Zgm/\ZdF,
g∈aQ W/\wr W g≠g,
ZnY/\b≠it,
⟨ZAw,r,·,?_⟩,
#[zZ,r=w/\#[lx,r,s']],
#[Qo,(fk s),Zaor],
Zkd->Zkd->ZbB,
ZeC (ZeF t1),
PG X tg g,
PG X ZCg ZC4,
Q (!c) H1,
L0.andThen (PySem.W.looks_mroIn X ·),
#[bD,Zb0,(Zpx C t Zac)],
#[BC,0].getD · (Stmt.Pass Zn_),
seqIndex? i ·=Zab j,
ak I3.loc fun m3 a_ _=>?_,
#[dz,#[bP,Zh3,x]],
#[dz,[ZnR,Zax p.1]],
ay H (upd (upd H dx (Zes x)) x Zapo),
#[iY,ZbM-(ZbM-(e+k)),·],
(#[aeY,·])->(ZapT)->·,
RD X.K H ZdE Zef d,
RD X.K H ZdE Zlq e,
#[aj_,#[aoq,Zeu t]],
RD K H ZdE ZbV (.sq · ds),
au z H I rw' q,
· (bD #[Bh,ha] fun c s1 zz=>?_),
#[Ca,h',(ZfP Zar)],
#[m7,ZO8,#[mW,e2],[ZBN]],
#[qT,#[eh,(b9.all g).word,Zdi]],
R (.ok (ZfO res)) Zkq,
#[Bz,Zkv].any (Zac3)=· id,
#[nQ,Zsx Zmf #[cx,·] ZyS ZaG],
E #[ak,C] od H,
k b u (hb b n) q,
#[Rt,ZkH,ZhA,·],
(fp' _ lti fi).1,
(fp' _ lte fe).1,
(ZadR Zai (Xi X Zai E)),
(· (kM JG)).on (kM JF),
(kM JG).on (kM JF),
X5 (ZJ hS rfl Zrc),
#[Ao,i1'.at,up _ _ hS2.symm e],
#[Ao,i2'.at,up _ _ hS3.symm e],
#[nG,C,#[Qa,q,ZJP]],
#[amK,ZpJ,ZpJ],
#[amK,y.size,y.size],
Un (gT ZbU) [] H0 H s0.heap ZaE,
Un (gT ZbU) [] H0 H' s0.heap Zb',
#[am5,·,p1,Ztl],
#[am5,·,Ztk,p2],
hs i x σ _ (y xs q) p,
Zu #[bF,I3.kIn],
Zs rfl (Zn (Y2 ·)),
ba.dtL_inj fs gs ·,
J9 PySem.F.slot_dict_getitem.lookup hs ·,
·-ZqR=ZK6 lo hi ·,
∀ o,#[a4,H]->ZQx,
ZQg::(X.pn++Zai),
#[a1,ZeD]*((ZeD:Nat)-1),
∀ us:ZbS,ZiE=·->P us,
#[an4,eh2,sz],
(uH ZaE I.big),
(q z hz),
Zc6 n=c::Zc6 (n+1),
ZMc n=Zab Zmc,
#[aob,ZamU,ZaeB],
b _ _ q e,
h _ _ Zg8 ?_,
b8.extBut _ _ · (b7.extBut _ _ · ·),
X9 (#[a9,e (ZIv q).symm]),
#[p1,ZPw,Zch,Zd9],
#[cP,7,Zlo,Zal7],
#[AY,#[eh,(ZkB (Zi7 a b)),·]],
#[p2,ZcG,ZbW,·->ZQI->·],
Yz (hcC _ _ z),
Hp->V->α->Zaa,
#[mq,·,7,Zlo,Zal7],
(d7 HZ hv Zaot),
upd H1 · (ZaI []),
#[aom,ZadB K #[ak,·] Zz2],
#[fw,a=c,[0],[]],
Zae3 h c P,
lH c x y,
#[eT,jn,#[p9,ZcT]],
#[eH,bu,Zau,Zay],
az (id hit) fun o2 eo2 c2 _=>?_,
Zcs b _ Zaip z,
iT (· z) fun _ o ho nf=>?_,
#[adf,·,hj,fun z' _ e=>?_],
#[t2,(ZabW · u ZbV)],
fY (wr ZeS) 2 g,
PA X.nox Zcy t,
#[vw,s _ _ h,p,Zan2],
aQ (put ZuD b ma),
ZL6+Zaf1<=64,
#[CG,tG H (·::ts) (p::ps),·],
#[c8,hns,(fun i x v h1 h2 h3=>?_)],
bw (ZCA++[]) Zal0,
#[wb,c.hd,fun cdD hcD _=>?_],
#[Mf,[Zcp x ZlZ],e,(Oo te ZC4)],
∀ x,x∈out->∀ y,y∈·->R x y,
(CG ZadW T.range (dv (am))),
ZK ⟨H1,I1,q⟩,
#[aoM,ZyX,vw],
#[aK,Zeb,(.dK (ZiG #[bN,(ZBs,Zaw e.n)]))],
#[DN,plainObj_wpAny_Assign_Attribute,hv,Zh8],
(y6 hl hd (ZacN k rv) dd'),
Ev c H H1 x B ZcW,
uT P.cl hg i,
· (A:=Ztj) ZI7 it · · Zci,
s3.heap.IsCell cy (Zab uy),
k<=34->TB T H,
im (id hn) fun oL _ _ hoL _=>?_,
#[qw,H5,q,ZpZ,ZOZ],
#[aoU,ZaoT,Zao6],
#[wu,e1,#[B1,(Ztv rfl _),·]],
mY 32 z=w0::ws,
⟨a,b,·,z3,z4,z5⟩,
#[RO,g,(Ov tt te a),·,ZaI],
qZ I2 hN hi hx · (#[acg,·]) hf,
fz (hb cl C s3 Zag3 fp) Zan1,
#[ao8,·,if neg then !k else k],
fun t (p:V×V)=>tG H ts ps t=Zab ZPs,
qh bs w=x.n,
Zcq->Zcq->V->Sp,
#[apn,ZmZ,#[P_,ZafE,Zau]],
#[app,fun mA O r _ _ _=>?_],
#[uc,Zad4,Zahc,1,it1],
cg (id hat) fun o es ho hc bk7 r=>?_,
I2.fpOk (aQd _) (Zagu (aQd _)),
(h.dj u · x hx).1,
#[apG,(by simp[bn,j5,look])],
(iq Zau #[ap5,ZaoY] rfl),
#[apI,(hk j _ _ (Yi h1) (Yi h2)).mp],
#[aQ,H5,q,#[jr,ys,ZC2],·,·],
#[hc,[x],ZaD (ag B_ _ _ ac) Zao],
k l HK hl s2 row,
⟨·,·,_,_,rfl,rfl,·,·,fun kb hkb=>?_⟩,
#[apQ,·,#[h_,#[ee,r],(sK _ _ ·)]],
fG l=Zaop++fG (Zc6 n),
#[ap0,jo,kO],
#[ap3,hr,q1],
bn (j5 ds) d=Zcv,
PE X (Zcu (Zcp · p) [] [] pos) (GE · · [] E0 q8),
ZbT f (i+(j-i)) g=Zq',
#[Mf,[ZyP o f ZlZ],Zmf,·],
Du I hu' rx hx hp r,
#[RX,nI,st,g,_,rfl,?_],
#[aqo,·,ZiG ZcH],
hs i x σ _ T (hx xs q) p hT,
#[ajh,0].getD rd,
#[ad',(tU _)] Ztu,
List.find?_eq_none.mpr #[fZ,#[e5,·]],
ZKd ZbV Zmj,
yn hep (Zbp d _ hH),
u.any ho Zo' ·,
toS (fG (Zc6 1))=ZaH\/toS (fG (Zc6 1))=Za',
#[anm,Ze']\/#[anm,ZfS],
·=(Zae9 len).sum,
[ZaY ZaH,ZaY Za'],
[ZaS ea,Zva],
[(a,[b]),(b,[a])],
[ZQr,#[cV,a],#[cV,e]],
[ZLb,Zjb,Zd5],
∀(BK:ZOD)(hmw:#[bI,·,fw])[51](hbw:fb K fdw · []),0,
∀ dx,·=Zab dx->∃ fs,#[aK,dx,ZPD],
#[Of,one]/\#[Of,ZeA],
#[gJ,Zdp->Zfs->G],
⟨H1,I1,q1⟩,
(Zkn (ZQu)).map,
∀ b o u,#[b9,Zvc]->#[jD,Zvc],
(fun b o _ hb _ e n=>· b o e n hb ZaN),
#[ab2,∃ m',m'<Zwj/\_],
#[iO,∃ o,·/\∀ v,ZfM≠Ze' v],
∃ xs,#[ge,(Zbb (Zax ZkD::xs))],
#[Kf,k it ZaN _ st],
fun b o hb e=>#[aW,eh2,(YY _ _ #[bx,hb Zagd]).trans e],
∀ i x σ H,ZKD->ZkZ->g x σ H Zaha,
∀ b:Zcq,b∉·.ex,
fun _ H'=>∀ x:Str,Q (Zax x) H',
fun (m:Nat)=>xs[Zapv]?,
∀ b o',Zb0 b=Zab o'->Zd8 b=Zab o',
fun kv=>(kV Zjq,kv.2),
∀ y∈names,y.2=ZfS->∃ c,· y.1=Zab c,
(Nat.log2_lt h0).mpr,
#[Ks,⟨ZagG,Zaiq q⟩],
fun k=>S k||#[AV,k=i],
{ blk with scope:=relabel sp env },
#[pC,bt b o · n],
∀ i x σ H T,#[aqe,ZKD,#[k9,T,[·,x]]],
#[Kq,#[DD,ZQ6,·,ZakS]],
∀ σ HH,C σ HH->P σ HH,
∃ e,e<10/\c=e+48,
(.out (bn st d),st),
fun c o e=>#[vE,out c (I1.hok c o e).lt],
fun h u hu=>h u (· hu),
Zaca (M:=Zwv) X ·,
∀ (i j:Nat)[269],#[ah,·,a]->#[ah,·,b]->#[afs,a,b,#[A2,i=j]],
(fun f hf p H5 s5 hF=>#[vJ,fun t5 ht5=>?_]),
fun a h=>Y1 (ZpQ · a h),
(· #[gR,Dt.at (Zae g)]),
(NN a4 b4),
(ju ks x),
(Zafa Zi' acc),
(N5 ck cP),
((·:ZgH).elim ZiL fun f=>ZfP f),
Zab (ZiN Zajj ZaG),
(· #[acu,0].kindOf ZamE ZQk),
Zeu a=ZC0,
N.take P.length=P,
Vq (bA w)=0,
Zke->Zke->#[apZ,Zhy,Zkd],
ZRs->Nat->ZgE (Zlb×ZbB),
Zi5 (R p.1),
·/\·/\∀ y:Str,Zaov->Q (Zax y) H1,
gY (· ·) fun h1 h2 h3 h4=>?_,
ZMk acc x=·,
(upd H' l o),
· (intBits_le_64 h1 h2),
vy=Zae ZQA,
mh X.K C fI=Zad,
· (Zal i) ZCz=Zad,
· (Zaq x) (Zax x t)=Zad,
#[AV,p.1<q.1\/(p.1=q.1/\·)],
aR ⟨_,rfl,_,rfl,_,rfl,_,rfl,_,rfl,p,B,k,a,b,l,rfl,Zaf,S,A,#[cQ,hT],#[an',g,#[g5,t]]⟩,
aR #[aqA,BK.ob,ZmB],
⟨_,rfl,·,_,rfl,#[gc,ZbO ·,·]⟩,
Zaw (qg c%5)=Zaw 4,
(#[uA,C]::bm).contains ·=Zad,
#[bc,#[Nz,Zfr],Ztm],
(ci++[(a,ks)]),
#[ce,H2,I3,q2],
(dE Zi9 a []),
(ae #[oq,·,(iW 4 ZLA),(iW 1 ZLA)]),
(RD.tup (Zc7 e2) ·),
ZgL #[ak,ea] s,
#[m7,[a],ZRw,[]],
R x y H2,
#[iY,a+(e-a),e],
ih nd2.2 h,
(ZgM #[ak,fI] #[k8,Zaj e]),
#[eg,#[h_,ZBO,S1.c]],
#[eg,ae (aL (As (wE hu · ·)))],
AY bs w=Zac,
X5 (YA (·) (fun _ s' hq=>Yg (Yg hq)) ZahB),
(ZgQ a o hk),
#[aZ,(ZuU++[]:ZbS)]=psw.length,
#[MP,it,t,i],
· Zmb ZRP m p=_,
· X.K X.w.params a xs,
p∈(X.pn++Zai)++·,
ld.2 h fl ups,
(ZIx Zhd).is h · ·,
PySem.W.takerIn K C ·=Zab Zac,
#[hf,hr,#[Cx,·,(q k hk)]],
#[ia,·,ZaE,b,v],
(ZzH xs k).map,
(ZKv z y).map,
At H' v x,
(MD tI2 bt).trans,
az (id hs) fun os hos hcs hds=>?_,
az (id hI) fun oi ei ci di=>?_,
X5 (wpAny_lookBehind hoD #[aX,hdD,pastItsLine_dict (YU hcD ·)] ?_),
X5 (ZJ et dt ?_),
(fp' e lte fe),
k a _ Zf' e,
#[p3,Zcj,·,ZDn->Zch->ZbW->·],
PI X tg (Zcu (Zcp ZsA p) · [] pos) (· ta),
⟨ZKw,(ZanZ),hd⟩,
(.dK (y9 kvs k)),
#[MJ,#[qB,id,(v::us)]],
fb X.K fdw psw [],
#[No,⟨ZaC,_,rfl,·,rfl,·,·⟩],
G7 I n hu',
wpAny_pyNext_enum_itemD · he · · hne (·) ·,
#[IV,fun xs H1=>#[PJ,∀ p,#[nv,p]->#[b8,p,(upd H1 p (· xs))]]],
#[jl,·,#[zz,·,·,#[fx,Zp7,aB,gj]]],
H'=upd H a (· ZqN),
#[B3,·,(vZ.mp (#[ajd,aQ (fV · g)])).1],
(CL cb cU n),
PA X · (nu t (nu t2 ·)),
#[m6,#[RR,·,·],[#[mW,(Zcu (Zcp · p2) · [] pos2)]]],
(au v H I r h),
Call_ (jE I hg hm boot_range ·),
#[ah0,J.stop,J.go,J.yld],
· xs ts (Zzm),
List.filter (Zajs) [g]=·,
#[NV,ZcK,ZcK,ZcK],
bU g.at' fun ts n hl e=>?_,
bU (ZiI x c e) fun v o ho hd=>?_,
nE P w H' Zb',
#[uP,(#[gn,iJ,ai ·,·,·,ZRd,Dg,·,#[ng,⟨#[ag7,0,·],·,pv 0⟩]])],
hs i σ _ q_ p,
.ask i j k,
∃ o,Zd8 e=Zab o/\#[uT,ZaeO],
(dE Za5 h []),
(xM st ml d),
#[m7,ZamM,#[mW,e1],ZO8],
X5 (YV hT dT h3 ?_),
uA R f · Zdk t Ze7,
rO l (0,q),
(((· ZAp ·).extBut ZKF ·).extBut ZKK ·),
hap t (Yy e),
upd H d u b,
#[bm,Zaz,(fun h1 h2=>#[dg,Zwq,hj]),Zaly],
(bz bg · Zbv Zbk Ap Zm1),
aS #[RG,·] [] ZOK H s1,
#[ajA,ZO5/\ZQC,·,ZO5/\ZcK<=i],
og (I.lstM hB) fun z2 aq4 n2 r2 m_ e2=>?_,
(Zae7 (ZdN z)).1,
Yg (fin h' sb),
X9 (#[c2,¬ (Zvp/\Zuq),#[a9,· ·]]),
ay H (upd ZapB kp ZaiU),
#[vU,Zc5,2,ZkK,EA],
#[vU,Zck,4,ZkK,QR],
#[PR,d,d,Zq9],
#[PR,8,8,(Zfe 8)],
bX Zc3 w K mg b ZyR 1 Zop wM,
⟨_,rfl,_,rfl,ea,·,rfl,hx,·,k⟩,
#[aK,Zg0,(.dK (ZKW #[bN,(ZBs,ZaS e.l)]))],
#[DM,no,g,hg],
#[Pe,s7,I7.os,I7.base,I7.hok,I7.bare],
R Zfr=Zac->ZRu,
cg fl.obj fun ob us hob bk1 ck9 bk0=>?_,
cg fl6.obj fun oe us6 hoe cj3 cj2 ak8=>?_,
aw N ps ZbL,
E6 ps y ZbL,
[ZdZ,#[cV,g],ZjO,#[cV,·]],
∀ b,ZPw->js X Zai H b->js X Zai · b,
s5.trans (#[fk,[ZbH,Zae #[a1,Zvq]],ht5]),
ZF (ci.cl g) hL,
.of_isNs (PySem.W.isNs_of_in X hok),
hk _ _ (ZKg _ _ hoc).1,
ak (r.get h2) fun w ew rw'=>?_,
ak (r.get ha) fun u hu rv=>?_,
ak (ZeB h) fun e he ee=>?_,
au _ _ ex ey (up _ _ (YX hSn) pn),
j<ZiE/\j<Zabt,
Y2 (bD #[vi,h2] fun u2 s2 zz=>?_),
#[fk,[ZDm,Zax Zg1],ht],
(ZaeX _ _ c2 (ZMj _ _ c1 ·)),
#[Re,(ZAu (OV bs))],
e1 x o e · (nl x o e),
#[Rv,ZRH/\ZRI/\ZapL],
I.marked (ea:=ea) hob bk0 ld.1,
(upd HH kt (Zbb #[bP,p.1,p.2])),
(upd HA kt (Zbb #[bP,x,z])),
#[amX,Zbj,B.d,#[lv,hd],·],
#[RN,(Zcp · np),(EM te · · E)],
#[RV,hc,vs,us],
#[akW,·,hl3,·,fun H7 s7 hf7=>?_],
#[anz,(Yt z.X z.G a)],
#[RW,H3,s3,I3],
(· (toS (fG l))).map fun n=>(n,Zc6 Zu8),
ri ns [] Zl,
s.heap.IsRevIter r d ((ZfT:Int)-1),
#[pB,((Ztg (· g)).map Zv1)]=32::bA (mr g),
Calls.Name_function_global ZhF hg · hd,
_<=ZQQ*10 ^ 85,
en∈ZAr (· Zfd),
c9 (k:=k) (v:=key) hk,
∃ e_:ZbS,Zwr/\· ZaE a Zci/\Zaoc,
#[hH,(#[vB,·,ZiS,·] (ZiS · · hi-#[NJ,·]))],
#[an8,ZiE=#[aZ,(·:Zbe)]->ZsZ s fdl Zjz ((·:Zbe).zip us)],
aR #[nU,#[aqd,[],Zao]],
ZadU [v] (truthy v),
#[t4,Zafr,a,Zaog,Zad],
ak (zU h) fun ds N e=>?_,
Za3 (At H') · xs,
⟨?_,?_,·,·,?_,?_,?_⟩,
YU Zaoh (#[hJ,YL]),
hk b o n1 n2 ?_,
Un Zkj [] H · ZaE ·,
#[IT,td,∃ a,ZeX/\VR H1 a/\#[lm,ty,·]],
#[hh,#[a4,ZAd],ZQJ,Zq6,·],
Q (g i j) H,
#[gj,(#[Oi,RD K HK 18 ZbV e]),·,·,·],
#[uP,#[adX,uE,T.sorted,PyProof.Rows.boot_sorted,·]],
a.there c ob q hx,
#[aoA,#[ad2,#[ag0,h₄,Zao7]]],
tv σ H2 fun z H3=>#[ao5,Zaph,#[m9,Zaqf]],
ZhY->Zok->#[t1,(Zzf e ZaG ·),ZQP],
#[DQ,hb,wh,Q,q1],
[ZdZ,#[bE,r],#[bE,lp],·,v4],
ZaD (ZpO a.rd Zag) ih,
un.free b o' e' ZO6 hx,
ZaD (hRS _ Ye _ r) (ih #[Kt,hRS u #[fq,hu]]),
#[aoW,Jr,#[eP,ZabL ZsX,fun a o e=>I2.bk a o (I2.mod.kin a o e)]],
hr Zai σ H D ea C od B s' · ld · · ht,
#[ao3,·,w,·,f,Zcw->#[CU,Zlr]->Q Zh' H'],
(yH c1 ql i.1 i.2),
#[apl,Zpr vs k,·,ZanX],
Zaq (dN · · · · (fun b H' nd k k'=>?_)),
(ax (bz d_ Zap ZcM ZafD aA ·)),
· (sx ry) hd ZzI ?_,
⟨·,·,?_,?_,·,?_,?_,?_,?_⟩,
#[apP,typeOf,ea,Zfv],
(Aw Am Am ZcT Zad1 (jy ZadW ·)),
Za3 (RD K H n) xs ds,
#[ap1,ZaeO,⟨o,ho,·⟩,isSubtype_stop],
(ax (ng Y8 Zh Zi iA · ·)),
· hu I2 g ry #[acg,au · H2 I3 rfl q2],
#[aqa,ZJe,fun h4 held bx3=>?_],
⟨z,H3,I3,r3,k,e,q3⟩,
CE ZbU P w H s Q u s',
#[aqr,u,d,(gu x H I1 ru #[da,#[am7,·]] A_ ZN9)],
#[aqv,e2,1,ZaF],
(#[ao4,x=Zax i,y=Zax j,#[nK,(·)]]),
fA I.ok.mod.glob fun o es ep e hd _=>?_,
Fj ea C Zac,
[ZnI,Zqz,Zaok,Zaw d],
qt ZgY w0≠Zae #[a1,Zaoa],
#[aZ,(ZaY w0::ZhR Zf7)],
#[gJ,Zdp->Zfs->ZjE->G],
#[sE,Zfy/\Zhj/\Zii],
∃ t,ZmE=.sq Zad (#[Cu,ZkD]::t),
∃ u,us=[u]/\Zlt,
⟨PyData.keyHash p Zqk,Zax Zqk ·,·⟩,
⟨z.1,ht _ _ z.2.1,z.2.2⟩,
⟨fun i _=>i<n,#[DO,x=Zae (·)],fun i _=>n<=i⟩,
∀ [374][38],ZfC->bw (· n) (· n),
#[Ma,Zmk,Ze4 #[hH,(ZAr (· p))] n],
∀ [359],Za3 F l₁ l₂->(·)->Za3 G l₁ l₂,
fun o q=>(sb2.2 it (Yz hne)).trans q,
#[aW,ah (· c · r),r],
ZkB d::(Ztg d).map mr,
#[ct,ZRm (X6 _ e)],
∀ [1](D:kA),ZhY->t D σ H->#[t1,(· st ZaG),ZapK],
#[Ku,#[agA,∃ l,ZQU/\(∃ xs,·)/\R (· K l) H1]],
#[c2,#[n0,Zh1,! MM (ZaY ·) ·,MM (ZaY ·) ·,·],·],
#[Ka,e_.toArray.any ZPu=e_.any (Po x)],
· (hsz:=hz) ZDH dd ZanY,
fun x o e n=>b x o (a x o e n) n,
· (knd:=ZqY) st hat hq ·,
#[Ah,X7,X7,YL,Zhe],
∀ i:Zcq×·,vy=Zaj i.1->#[u9,·],
∃ ts n,#[amI,ZhL a=Zab (· p xs ts n)],
fun tk=>au (.bl b) H (I.tok tk) rfl q,
fun w e=>q ⟨w,e⟩,
∃ (lf:Addr)(lv:Zbf)(as:Zcr)(ts:ZM6)(v5:ZgG),·,
(fun H H' j s=>· H H' j s),
(fp' it lti fi),
(#[fk,[ZnI,Zqz],hx]).trans (#[nl,[ZaS x],B_]),
(.BinOp #[kQ,·] .Add ZaoD ·),
rC (iN (jb hu Zap Zau)),
#[g3,Zl0]/\b≠f/\b≠cy,
fA (hn2.count ·) fun oD esD epD hoD hdD hcD=>?_,
ZmG (qh bs) fs,
(upd H6 Zg0 (.dK ((ZKW #[bN,ZRa])++[(Zqf,ZaS l)]))),
z.imp (#[gO,y.symm]) id,
qg (yU ns 0),
PySem.W.codeHdIn (K Zfd) Zlh ZnH=Zad,
· P w (ZAq ts),
aG #[bw,z,asc,ZqP],
(Zzr (ZaD ru Zao)),
(DC (ok q Ye)),
floordiv_int Zag (#[Nf,Int.fdiv_eq_ediv_of_nonneg i Zag]) (Zal (· ·)),
PE X #[jB,#[yQ,o,·],ZDv] (· td ty tx),
ZhC (Yz (Yo hb)),
#[fj,ZgK (ZQj) 0,hlp],
fG l=ZAy n,
Data.fields _=Data.cell v,
ak (U_.get gx') fun u' eu' ru'=>?_,
p.1=q.1/\#[aK,ZjR,(Zbb (p.1.map kV))]/\bo p.2 q.2.2,
Zod->pP P0 H H'->Zd' H' P0 pos ql->·->·,
b≠TO->b≠i1->b≠i2->Zch->·,
pP.hall (ZeC s1) hT1 ·,
#[mq,x,k,ps,sp],
ak (#[aqD,(hr.deeper _)]) fun t ht hq=>?_,
(Za (Yg ZQB) aj1),
(Dj (wo w) rfl),
k dx H2 s02 hx2,
⟨_,rfl,p,n,·,rfl,hn,·,·⟩,
ak (d r ·) fun q hq e=>?_,
#[eO,x,k,ps,sp],
c=cntF fs u,
wpAny_pyIter_range (IsRange.new ..) · ?_,
#[qc,(ZIQ [#[mW,e1],#[mW,e2],Zany])],
(ha · Zai s σ H _ · h),
#[BJ,{ B with w:=lw,h:=lh,c:=lc }],
(ZMm tg #[ak,it] u),
ZMg K x=Zab (c,P),
Zpp (t':=Zca) kp Zbz #[eP,#[ia,_,h',_,·],·],
#[aQ,H,lg,Zahz,lg,Zahz],
#[aQ,H,lp,ZCT,lp,ZCT],
Y2 (bD #[Bh,h1] fun u1 s1 zz=>?_),
(ax (Ge Zfp Zau ZDe)),
#[n0,v<0,max (v+Zcg) 0,min v Zcg,·],
#[ahR,eI ea · _ rfl hx · ?_],
#[NX,Zanx,ZaR,fun y H' z=>?_],
PG X (ZJb es k pos) ·,
Zb3 Zt0 X.A (f v u) Q ZgL ·,
(· b u e).stay (ZapW) (fun c q=>ZahZ) #[abE,ZahZ],
#[qW,(Zae Zko),⟨Zut,#[b1,Yq,Zme]⟩],
#[vD,ha,q,fun ov s2 zz=>?_],
sG T U VM UO gD cz NG,
⟨Zaz,?_,(· Ztk Ztl (ZzP) Zag)⟩,
(fT Zoi Zez ZOp []),
Zado Ztb ZaE (isInstance #[ak,x] ·) Zad,
Q5 X #[k8,ZMe [Zcp x p1] · p3] (T4 · u),
ZdH->Zvg->#[aoC,·]->·->Q ZQs H',
Un (gT ZbU) [] H H' ZaE Zb',
#[aj1,(dO · (#[a0,Zc6,Zu8]+1) (Zc6 Zu8)),·,l],
aq6 f1 f2 ry rx,
· _ (Stmt.Assign _ #[ap7,Expr.Call] _::_) _ _,
(x=a/\y=b)\/(x=b/\y=a),
#[vw,#[aX,#[cn,·],hd],hp,fun b x e=>?_],
#[fl,Ztb,ZapH,(fun fin s'=>∃ v,fin=Zcv (ZfO v)/\Q v s')],
Za3 (#[n7,x,ZCp,H',Zajp]) cs ci,
ZqH/\#[aby,p]/\∃ vs,ZqL/\s.heap.DictOf Zt3 p vs,
#[Qf,⟨_,_,_,_,_,_,_,kk⟩,ZbO (kk _ _ h5 llp)],
YU · (YU (Nat.mul_le_mul_left ZbY (·)) ZaF),
LZ L qs tl z,
#[Qm,Zafv k 0=j],
#[vB,·,ZiS,ZaR] (ZRA-ZQ9),
k b o e #[aV,by rw[z,q]at e;injection e with e;exact n ps ZJt],
q dx H' g t x,
ak (aj8 j r gx) fun f ef rf=>?_,
ak (aj8 j r' gx') fun f' ef' rf'=>?_,
(dv (bz f_ Zap ZcM ZafD dw ·)),
#[P7,ZaE,ZabR,·,ZjI,h0B,?_],
· (bD (ha Zai s σ H Q I h) fun c s1 e=>?_),
k2 (#[cL,ea,hn]) H4 · t4,
#[RC,∃ d kvs,x=Zv3/\H1 d=Zab ZeK/\∀ o:Obj,R · ZamU],
#[amX,ZAE,Zaox,#[mn,ZOs],ZmB],
⟨_,rfl,rfl,·,_,rfl,rfl,#[cJ,·],Zaf,·⟩,
(Gw P0 aU aJ cF · ZQM ZmI Uu),
ZaD (fJ P w Zqk ·) rfl (· P w l),
#[p8,cK,aQ,ZaB]=ZgU,
⟨·,oc,vs,t,s _ _ e,r⟩,
∀ i j,lo<=i->i<j->j<hi->lt (el xs ·) (el xs ·)=Zad,
#[an7,Zjn->Zcw->Zaoy->#[gj,(#[n7,r,Zbf,H',Zq7]),as,·,·]->(Zv2)->Q Zef H'],
bU (wj h) fun i j hij a_=>?_,
List.Pairwise.map _ (fun x y ne e=>ne (ZIv e)) g.nd,
X5 (F1 hz hT fun h₁ hz₁ hs₁=>?_),
⟨#[eR,·,Zbj],S.nd,·,·,#[anM,·,S.c],#[apU,#[vE,ah (fun z:b=·=>#[go,·,z,hb])]],?_⟩,
au (x::xs) H2 I2 (ZaD r1 r2) q2,
(hch c z).2.2.1 x c e rfl,
Q3 X #[k8,.ExceptHandler · · ZRi pos] (fun cls od D σ H=>∃ b,· X.K cls ·=Zab b/\#[eY,b,·,th cls od D σ H]),
sw B h.1 h.2.1 h.2.2.1 h.2.2.2,
σ=[ZdZ,ZjO,#[bE,kn],Zwa,#[bE,lf],v5],
#[apf,#[aeC,d,ZeK,d,hH]],
ZadD b _ e1 ZO6 #[aX,frS,Yh _ hf] hx,
#[eg,#[ej,#[DT,oB,1,·,Zbk,aA,Zap,Zau]]],
(yG c c1 ql i.1 i.2.1 i.2.2),
∃ t,BZ (#[uH,ZcO,ZBw,·,s,H]) ZBC t/\ZRS,
yJ · w K mg ZaP cX fX,
#[aqE,_,⟨xT rv,fun h' tk k=>au ZCk H Zap_ rfl ?_⟩],
Zz' Zak1 · it acc env,
PassesOwn Zt0 X.A ZaG ZgL,
zD ax9 rfl fl Zan5,
#[kh,#[k3,H2]->(∀ ψ,u≠ZsH ψ)->·],
PySem.W.excIn K C GJ ZzY = Zad,
#[kp,ZanV (ZI' C Zar)],
∃ a,ZeN/\Zga/\ZjQ/\Zoe,
#[sD,Zdp/\Zfs/\ZjE/\Zlf],
#[sE,Zfy/\Zhj/\Zii/\Zn1],
⟨YX bz5,YX az3,YX az2,YX hSn⟩,
⟨mA,oq od es ep · c,r⟩,
⟨⟨o,e,ex.1⟩,fun a e2=>?_⟩,
∀ b ps,#[b9,ZaoF]->∃ more,#[jD,(Zd7 (ps++ZiV))],
#[l9,· K x y H Q],
!#[Q_,j,i,j.length,1].isEmpty,
· (i:=i) Zapq (ZIw) (ZaeM) hk,
fun e s'=>Zb3 Ztd · (Zagw · e) (fun _ s''=>CX ZbU H s E e s'') (fun e' s''=>CX ZbU H s E e' s'') s',
#[J8,ak (id hit) fun _ q _=>?_,Yf q],
fun y c e=>#[J8,bU (I3.cell y c e) fun v3 o3 e3' _=>?_,ZRj],
· (e:=ks) (show #[af',l,us.toArray] from p1) (show #[alP,x_.toArray] from p2) Zag ZaeN,
uM (s:=ZBM) a1 a2 a3 ·,
∃ bm N nm qn bs hdct sn sub ab col dd k0 k1 k2 k3 k5 mN,#[nG,C,#[Qa,qn,ZzY]]/\ZRq/\·/\OwnTail h GJ bm,
(by rw[#[iY,i+(j-i),j],e2',e1']),
∀ a b:Int,ZfA∈ml↔·=Zad,
∀ p d,d<10->f p (d+48)=Zab Zao_,
∀ l:·,Pairs Zhd (Zml (· Zfd)) (Zml ·),
((by show F_.get? S=_;rw[eh2];exact Y5 _ hS' rfl)),
∀ [162]{p:Addr}{f:ba},dy n H p f->·,
NC (i:=·) · rfl ZJz ZcT MN,
(.Slice lo hi Zac p2),
(AL cb cU cB cT),
(Od P0 aU aJ cF),
(l9 ml (zy a b)),
xZ xs #[cx,·] Zac=ZabD ·,
dO R ZapA (Zfm a),
aT P w K mg ZaP CX Zgi f · ps sp,
bD (#[anF,_,r1,r2,q2]) ·,
#[bm,k,#[A8,#[f6,eu2,bv0,he]],Zaly],
p0/\p1/\p2/\p3/\p4,
au f fd ZajK ⟨a,i,g.kp⟩ Zajq,
wJ · _ _ p.1 p.2 e1,
· _ _ hS1 hS2 hS3 hS,
E7 Zv9 · σ (E σ),
PS X (ZMe Zal_ ZCQ spos) (Oq wi g tt te src ix),
#[dq,(ng PySem.F.plainAttrs_set PySem.F.slot_set_add PySem.F.type_set_add JJ · ·)],
ItemsOf (#[Dh,items[ZfT-1-i]?]) n_ ZfT,
#[uB,{ s with heap:=h',gens:=g',drawn:=d',toks:=t' }],
lU st k (ZQq::l) t=·,
Draws ZiH w A it · · · (fun j h=>·),
∃ xs,ZapJ/\h.DictOfH (ZIx Zhd) a xs,
(tG H1 ts (ZAq ys)),
ak (hN σ3 H3 n3) fun m' hm w3=>?_,
yK P w K Zap2 · ZQ3 e (fun i h=>(∃ old,IsEnum h e it · old)/\·),
oq _ es' ep' hL r',
ZhY->CX Zc1 H s E e s'->ZgL e s',
(Gd hu Zfp Zau iK ZDe),
(upd (upd HH tt #[OW,#[wt,0].map]) t0 (Zbb Zapu)),
⟨#[BA,ZJH] ks,?_,(· Ztk Ztl ZQd Zag ZaeN)⟩,
(upd (upd ZO4 B.c (.dK (dR B.cs Zbo++[Zapm]))) l #[k5,[b]]),
#[t1,(ZgS a ZaG),(fun v s₁=>Zb3 Zt0 X.A (ZgS b ZaG) (fun u s₂=>·) ZgL Ze_)],
eJ (·+1) [·,·] _ _ · rfl · (· _ _ l (Nat.succ_ne_self _)) ⟨#[a7,hE],hI⟩ Zp5 q,
sw A' Zb7 Zb7 Zb7 Zb7,
· h n _ q.1 q.2 e3,
d=0\/d=1\/d=2\/d=3\/d=4\/d=5\/d=6\/d=7\/d=8\/d=9,
⟨q,_,rfl,ZbO ·,_,rfl,?_⟩,
⟨_,rfl,z,ds,rfl,N,k1 ds H1 N s1⟩,
⟨_,rfl,b,cb,Zex,_,_,rfl,·,ZcM,·,·,_,rfl,·,_,rfl,·,?_⟩,
Zacs Zbt ZbL Zar f cd,
σ=·/\HK lp=Zab (ZgK Sg n')/\(#[RK,Sg,·])/\n'<=·/\(#[p2,H5,b≠lp,#[a4,HK]]),
#[P7,Zb',unS,ZjI,ZCX,h0B,ZDw],
∀ [391],ZCh->jt b · · · · · vy fl c1 cy pm ct->aT Zc3 w K mg b d8 4 xB uL ZLg ·,
#[ajB,·,fun i H y H'=>∃ T x,ZOS/\y=Zaj T/\H'=#[gq,H,T,[·,x]]/\∀ xs,·->ZKD,·],
(Ob P0 aU aJ cF d fl c1 vy),
⟨_,rfl,_,rfl,p,B,a,b,l,·,rfl,S,A,·,fun dx H' s x=>·⟩,
da (J_ j t e) fun x y e1 e2 p=>?_,
au #[ak,Zew] (upd H1 Zew (· xs)) (Zzo (t':=Zagp) (ZanQ) Zbz ?_) rfl (q _ hf),
· c o (I.cne x c e) hc nch ho ZQX,
Walks.range (prog:=ZbC) (w:=X.w) ZI7 it lo · n,
sp (Zaj x::Zrd) (upd · x ZDt) (fun v H2=>v=ZaJ/\#[b8,x,H2]) E,
da (J_ j T hj) fun _ _ _ _ p=>?_,
#[ap9,· (xZ xs lo hi),Zwn],
#[ap',[ZMe Zal_ Zamr spos],(Rv sp t i th)],
gf _ _ _ rfl ac (#[gO,?_]) ?_ (#[ao',kk b o z nb]),
#[aqF,ZcO,N,sc,s0,H0],
wpAny_Call_method_late D_ az4 aq0 rfl #[Bi,ho,Zib],
qp (n8 r · (#[aih,h1]) ·) fun cl e q1 q2 q3=>?_,
#[sD,Zdp/\Zfs/\ZjE/\Zlf/\ZvG],
#[sE,Zfy/\Zhj/\Zii/\Zn1/\Zwc],
wpAny_letOwnedTupleGo_enum (s:=#[Ki,tk+1]) ho fun h2 he2 sb2=>?_,
∀ [246],#[aqg,zs,es]->#[ah,zs[j]?,z]->∃ f,#[ah,es[j]?,f]/\RD X.K H m z f,
∀ (ks:Zq_),(Zaj0)->Zkz=ds'.length->(#[BA,Zkz] ks=Zad↔ds=ds'),
∀ h' e,Heap.MadeExcOf h h' e Zfv Ze7->·,
fun J1 H2=>sj J1 g1 (Ov tt1 te a) { nx:=ZiK,rt:=Zku } σ H2,
∃ ds,Num (mr g) ds/\ZanU=g,
· (ht r HK _ (Yy B_) t1 ·),
(Zze (Zax x) j p::es),
iT (yn hep (Zbp d _ hH)) fun lo vs rel hat=>?_,
aS X Zai (ZiJ ix #[nq,ZdP]) H6 { s8 with heap:=h' },
PE X (.FormattedValue e (-1) Zac pos) (· te),
(m≠Zky/\m≠Zi0/\m≠ZhN/\m≠ZhM)->ZQ',
aO P w K mg ZaP CX C m k ps sp,
⟨_,rfl,·,·,dx,[],rfl,#[oh,n1,·],·,·,ZaoR,?_⟩,
⟨·,rfl,f0,·,_,rfl,·,·,Zaf,⟨·,hcf⟩,·⟩,
#[ahs,Zdh,Zbt,ZkA,Zet,ZbL,dV],
aT ZbC X.w X.K ZbK b' CX k fw fdw psw (sp f c' vy),
p0/\p1/\p2/\p3/\p4/\p5,
r∈rs->Zij->(∀ H5,ZDI->Q' (f r) H5)->· #[k8,·] HK Q',
#[qw,(upd H t (xz x)),A.d,ZpZ,ZnX],
M2 X o · apos e f i_,
(#[kC,c≠z->c≠TO->c≠i1->c≠i2->ZOv->ZCq])->·,
ak (ihz j p2 (by simpa using hz)) fun f e1 e2=>?_,
zo I1 ea c hm l ?_,
⟨m',hm,σ3,⟨H3,I3,w3⟩⟩,
⟨a,b,·,z3,z4,z5,z6,z7⟩,
Y2 (bD (hf Zai s2 σ H2 _ I2 q2) fun fv s3 ·=>ZDk),
⟨_,rfl,p,B,st,rfl,·,G,h64,smk,·⟩,
Zaej b o (u1.keep b o e n hf hx) ZO6 ?_ hx,
∀ [391],ZCh->jt b · · · · · vy fl c1 cy pm ct->aT Zc3 w K mg b ZC9 5 uK sr Zlw ZDJ,
⟨_,rfl,_,rfl,p,l,B,a,b,lo,rfl,S,A,row,·⟩,
#[akJ,#[nL,0].In,aT Zc3 w ZnL mg ZaP · · fa fd · ·],
#[anA,H,fl,Zbp,·,ZjI,Zo_,ZsS],
AN cF d vs H Q E,
yG c c1 ql p A st ·,
⟨1+(ZNI+k),by rw[<-e4,hk,Zf,Zf]⟩,
⟨_,rfl,p,·,_,rfl,·,·,p,·,·,rfl,·,h64,Zan_⟩,
⟨_,rfl,_,rfl,p,c.C,Za6,_,_,rfl,Zbj,Zbv,ZmK,Zq5,B.w,_,rfl,g1,_,rfl,?_⟩,
#[aqj,·,(fin [(z,t)] Zca (Zan3) ·)],
#[aqp,(bS Zar x O_ rfl rfl (#[am7,·])),·],
#[aqy,·,Zea,_,rfl,g1,_,rfl],
q2 f c' H3 hcf hT3 hk3,
· hr.depth (· _ _ ·) rfl S.co S.gen rfl · (hb _ _ _ _ ?_),
#[sD,Zdp/\Zfs/\ZjE/\Zlf/\ZvG/\ZQz],
#[abA,Zn2/\Zn3/\Zn4/\Zn5/\ZvH/\ZvI],
⟨z,y,·,·,ob,es,ep,Zoo,c⟩,
#[Kf,⟨#[am4,⟨old,k e ZaN _ he⟩],#[hl,0].at Zao9⟩],
∀ h',IsEnum h' Zig Zar · Zan->·->(Zapj)->#[b8,Zig,Zkq],
∃ ix:Zbi,ix.Perm (Zkn ZiQ)/\out=ix.map (#[e8,Zaem i ZiL])/\(ix.map #[e8,Zad5 i ·]).Pairwise (#[pt,· a b=Zad]),
∀ (f c':Addr)(H3:Hp),lK H3 c' Zbt->Zd' H3 P s_ Zbt->(#[p2,H2,b≠P,#[a4,H3]])->sp f c' vy ZCA H3 Q E,
JQ (n:=2) K rfl (bM #[ag7,0,·] (bM #[ag7,1,·] gG)),
wpAny_Dict_empty (au ZcU _ (Zpp (a:=Zar) (o:=·) (t':=Zca) (ZQh) Zbz ·) rfl (h _ ZuS)),
(ax (F9 (fI:=·) rfl U.mW U.wS U.wR U.wI #[kP,Zap,·])),
aG ⟨_,rfl,p,f,rfl,hf.1,hf.2,·⟩,
aR ⟨·,"",_,[1],rfl,·,ZaC,ZaC,Zlp,ZMW⟩,
aR ⟨_,rfl,bk,Y.dx,_,rfl,BK.ob,ZMF,ZPz,ZmB⟩,
Zaq ⟨a,t,xs,ds,e1,e2,q,·⟩,
#[eI,Zaod == 0&&Zg9 == 1&&(ZqX-ZqE) == ZfT],
gr ts hl _ _ _ #[le,k] ⟨ZQ7,rfl,fun en hen=>?_,?_,?_⟩,
#[jy,p.1,p.2]/\#[a_,p.1]/\p.1≠Zcj/\p.1∉Zkj/\∀ v,p.2.data≠Ze' v,
⟨_,rfl,p,_,1,_,rfl,rfl,#[nz,s1,e1],rfl,t,rfl,#[a7,ZaoI],?_⟩,
Zae8 F.slot_list_append ZQN F.entry_list_append (F.args_list_append_2 _ _) (PySem.list_append l Zci n u ZQW) #[bF,e],
rule i j t t' s _ _ ·,
ak (hl iy y vy hN hσ #[PL,hkd]) fun uy ry ly=>?_,
(ld.2 h6 fl6 (· bx1)).marked (ea:=ea) hoe ak8 ld.1,
#[RM,·,ZPu,·,zI rx fx r fs w (Zacw)],
#[anA,H',fl2,hok,ZjI,ZCX,Zapc,Zma],
· · n_ c' (·) s3 l3 n3 Zq0 p3,
Zl' · ZKS (ZI9 #[ak,fa] Zaoj) (#[zZ,r=.ok (ZfO (Ze6 Zad))/\OldK Zks Zb'/\ZJd=s₁.os/\Zagl]) Ze_,
JO G hr hg hm hk hb Zao · ha z_ he r_,
⟨_,rfl,_,rfl,p,B,a,b,l,rfl,S,A,hT _ ·,fun dx H' bt t2=>q dx H' · ·⟩,
∀ es ep',ZfM=Ze4 es ep'->ep'=ep,
Gg M G hr hg · hb Zao dw,
⟨i8 hfo #[PL,rfl],uy,ry,oc,i8 hoc (Zaq (Zaq rfl)),hdc⟩,
∀ [342],(∀ v,(x,v)∉binds)->·=m x,
∀ [193],(∀ u∈us,∀ q,R u q->S u q)->Za3 R us qs->Za3 S us qs,
⟨af (bZ i hN · hi hx · hf) hr.h⟩,
(fun hn H5 s5=>k2 #[amx,(· w ·).map _=Zac,hn] H5 #[amq,s5] (t4.same s5)),
aG ⟨_,rfl,_,_,rfl,rfl,_,_,rfl,?_⟩,
aR #[la,Za6,Zbj,Zvs,B,_,l,S,ZpW,?_],
(Hl Zbt ZbL s f c' y cy),
(· d _ o kvs ep (fun es' ep' e=>?_)),
σ=[#[cV,·],#[bE,lg],#[bE,fl],Zaoe,#[bE,lr],#[bE,la],#[cV,Zcg],·,·,v9]/\·/\·,
· (bD #[ahH,h,hq] fun us s1 ⟨xs,H1,I1,r,z,q⟩=>#[bF,#[Pi,ZfY]]),
aO ZbC X.w X.K ZbK Zev CX C m k ps sp,
f8 v H' J.os J.bare J.base J.hok rv q,
W.item i s _ _ hg st fun v h' tk hv A_ kk=>?_,
#[CS,ZalA,ZalA,ZanP,#[IA,un.tups b xs (u1.tups b xs q)],fun b o u q=>un.frzs b o u (u1.frzs b o u q),fun b ps q=>?_],
(· D hz · · h1 h2 u_ m_ hx hy ·),
#[c9,(Cm (s:=ZKj) (n:="range_iterator") A_ rfl rfl ZaF (gu (Zae (·)) H I1 · ZnP A_ ZN9))],
(gf Sf n _ rfl #[qx,hp4] · · (fun b o z _=>z)),
#[apa,([Zab (ZaS a),ZdZ]:St)=ZDz/\ay H1 ·/\·/\·/\(Zapb)/\Zkv<=i+1],
⟨p,r,B,a,b,l,rfl,·,A,·,#[AS,qs dx H' (· s)]⟩,
CQ (f:=·) hq Zag (fun c HK Q' sK kk=>?_) (fun H1 s1 hq1=>?_),
⟨_,rfl,z,rfl,zl,_,_,rfl,rfl,_,rfl,?_⟩,
I1.write (#[adO,hH]) Zf' (fun b u _ e=>e) #[a7,ho] ⟨ho,hz,lo,⟨vs,rel,dd⟩⟩,
RP X Zai σ H ea C od B s',
call_list_seq p · ho hc hd (fun h' c' kp e=>fin e_ r' hz h' c' kp e) (ZJr),
kd0 ⟨w,f,ZAK,·,p,·⟩ _ rfl rfl rfl rfl · ?_ (·),
#[abA,Zn2/\Zn3/\Zn4/\Zn5/\ZvH/\ZvI/\ZQF/\ZQG/\ZQH],
⟨o,·,file,⟨tf,flags,tg,inF,text,tt,·,r⟩⟩,
I8.turned (it:=C) (t':=s8.toks) #[nj,Zaoz] freeC (Yz hlC) (Zaq (#[N4,I3.sz])) hcC hpC,
FA (y:=y) (cy:=cy) I3 hfH #[a7,hfo] (Yw I2.lt hsz) hcy hfn,
X5 (· (A:=ZhK) D hz · · h1 h2 u_ m_ ex ey ·),
ak (ih (A:=ZhK) #[Qc,Zl_+1+n<ZiF+1] rf rf' ru ru') fun k hk he=>?_,
#[jl,·,F7 NT UO.eQ UO.tQ UO.mQ ZafE bp rfl Zzy rfl ·],
⟨_,rfl,p,c.C,Za6,_,_,rfl,·,Zbv,·,·,·,rfl,#[vm,Zal ·],_,rfl,_,#[ee,m],_,·,rfl,·,?_⟩,
vN k ZQe _ #[DC,B,(vQ S1 hd hp · ht),((k1.on (Hk ht)).on (kM MZ)),#[p4,Zal hb],t1.upd],
aG ⟨_,rfl,p,c.C,Za6,_,_,rfl,Zbj,Zbv,·,·,_,rfl,·,_,rfl,(by rw[e]at g1;exact g1),k⟩,
⟨_,rfl,_,rfl,_,rfl,p,B,a,b,l,·,rfl,S,A,·,hT,fun dx H' g t x=>·⟩,
k1 f r #[amx,(· w ·).map _=_,hf] t5 p _ #[amq,s6] (t4.same s6) ac (hF.mono #[Lz,ag ht5 _ _ y]),
P_ h_ A ZbU s H vs Q E hr hsp,
CJ · · G hr hb hfl hex hh hg · he ZaF hs,
Zacp (h₀:=Zev) Zzt hk (Q:=EP X Zai σ Q) ?_ he r_,
V0 X G p9 #[iW,va T U VM UO h (lv:=·) · gn iD],
#[ri,(· X rfl rfl rfl hc i Zai s3 σ3 H3 ZgL I3 (o_ fr3) c5 ·),fun r s4 zz=>?_],
fun b hb ⟨f0,f1,f2,f3,f4,f5⟩=>jq #[aX,ah (Yo hb),f0] f1 f2 f3 f4 f5,
⟨_,rfl,p,Za6,_,rfl,Zbj,·,_,rfl,_,rfl,p,B,st,a,b,rfl,S,·⟩,
#[ai1,Zzs X.A Zc1 s3 H3 #[dX,ZuU] Zal0 (ZCA++[]) Q E hr e0 (hb s3 ZuU I3.kIn hl3) r3 q3],
⟨_,rfl,p,c.C,Za6,_,_,rfl,Zbj,Zbv,U.nC,PH _,B.c,rfl,ZaoL,_,rfl,ZLq⟩,
⟨_,rfl,Zaq (Zaq (Zaq ⟨rfl,Sg,n',hp6⟩)),_,rfl,lp,Sg,n',x,rfl,rfl,hp6,Zaf,?_⟩,
⟨_,rfl,b,Zex,_,rfl,·,nR,_,rfl,b,p,A,bs,f,rfl,·,·,kn,·,·⟩,
⟨fun vs H Q E Zam6=>(F i c).len vs H Q E h,fun A outer s H args us vs Q E hr e0 hb r Zam6=>(F i c).run A ZbU s H ZfQ us vs Q E hr e0 hb r h⟩,
Y2 (FB I2 hc C B hq hT hdf R_ hcy fun f c' pm ct H3 s3 I3 hfo hsz hfH hcf hT3 hk3 hkk=>?_),
⟨_,rfl,_,rfl,_,rfl,p,B,_,Zgm,a,g,rfl,S,Zec,sg,O9 A,ZaM,?_⟩,
bQ oe us T _ _ Zaqn hc hd h1 nT ne (Y5 _ hT (Zadi (ZR dT _))) (ZR dT _) (by simp[z3]),
#[hm,aG ⟨_,rfl,t,_,_,_,rfl,rfl,Zc7 hX,at0,_,rfl,_,rfl,t,_,rfl,#[Nk,hX],?_⟩],
⟨bm,ns,nm,⟨qn,bs,hd,sn,sub,ab,col,dd,k0,k1,k2,k3,k5,_,X _ _ ho,·,·,PySem.W.tail_of_in X ht⟩⟩,
NameKind,
#[jf,ZaT'],
Value.isInt,
((by show ZaUb i ZCz=Zad;simp[Value.isInt])),
SeqAt.EqAt.int_str,
SeqAt.EqAt.str_int,
Value.bytes,
Value.float,
bw.append,
ZaUh (#[c2,bw ZCA ZuU,ZaD r1 #[B1,r2,rfl]]) Zao,
ob.slots,
fun b ob q _ _ _=>·,
fun b u q n _ _=>·,
PySem.W.hideAll_size,
PySem.W.of_hideAll,
ZaUn _ ·,
X.env.scope.kind,
ZaUp == ·,
X.env.globals,
#[kM,#[aUq,.class]||(#[aUq,.module]&&Zcj != ZaUr)],
X.A.frames,
(ZaUt:ZgE (Zbd Env))=Zab ZalS,
X.s₀.heap.objs.size,
ZaUv<=·,
(b∈Zo8\/#[aUw,b]),
∀ b∈ch,ZaUx/\ZPp/\(#[y9,c≠b])/\#[NT,b],
X.N.length,
fun b o _ _ hc e _=>·,
{ s with toks:=· },
#[aUB,Zut],
Q (Zae · Zca) ZaUC,
@PySem.W.check_slot Ztb _ _ ZaUC · · · Zli · [] _ · · · · ?_,
I.hok.kept,
hn.sameBut,
#[akK,ZaUG sb8 bk9],
wpAny_loadName_local,
wpAny_loadName_cell,
wpAny_Name,
ZaUK (· ZhF hk · · fin) hd,
Constant_none,
h1.keeps,
wpAny_Compare1,
isTrue_and,
isTrue_or,
fun z e_ n r e=>·,
(by simpa using hs),
fun its' r' a_ _=>·,
ok.above,
ok.frames,
I.unwish,
#[NU,ZaUW],
inplaceOp,
wpAny_assign_Name,
ZaUZ (wP (i:=ix) (v:=Zaj ZdP) J7 hnd hix Zaoo rfl (fun s8 I8 zz=>?_) (Zaq hx)),
(by simpa using rv),
wpAny_Assign_Name,
storeName,
#[jx,(ZaU3 ZaG x u)],
"dict_reverseitemiterator",
"odict_iterator",
"itertools.zip_longest",
"itertools.pairwise",
h.IsListIter,
ZaU9 it l i,
h.IsTupleIter,
ZaU' it t i,
List.mem_filterMap.mpr,
1073741824,
.Compare,
(ZaVd a [op] [b] pos),
!kvs.isEmpty,
!e_.toArray.isEmpty,
!xs.isEmpty,
(∃ xs,·/\k = ZaVh)\/·,
#[aVi,·,#[aVi,·,∃ kvs,#[ge,ZeK]/\k = ZaVf]],
(by simp only[Yq];lia),
PySem.W.plainGet_of,
(ZaVl hg).1,
PySem.W.lookIn,
∃ od,·/\∀ name,ZaVn Zdh od=Zab (mA Zdh),
wpAny_nsSet1,
PySem.Within.cons,
(by simp[dE]),
Nat.le_of_eq,
ZaVs (· _ _),
Heap.Ns1.of_empty,
attributeBase,
ZaVv · · ZaG #[uy,·]=·,
#[aVw,o,·,o,Zvb],
recursionLimit,
(by have:=r.dp;lia),
(by have:=r.un;lia),
A.frames,
ZaVB=Zab Zni,
bindArgs,
∀ (kV doc pm:Value)(an:ZgH)(h_ ct:Value)(us:ZbS),#[NQ,ZaVD (·) Zjz=Zaio],
#[aVE,#[aht,x,x]],
#[aVE,Zapw],
PySem.W.callWith_K0,
ZaVH ZgQ · (·),
List.replicate,
#[hH,([head,Zaj L,Zan,ZDq,Zan]++(if pl.isEmpty then ZaVJ 6 ZiL else pl))],
cellsFrom,
(ZaVL Zig scope.names []),
PySem.W.cellsFrom_some,
(by simpa using hi),
e0.hok.fresh,
ZaVP (Ya _),
fun A outer s H args us vs Q E hr e0 hb r hsp=>·,
e0.mod.nolimit.keeps,
binaryOp,
uz X (ZaVT ·) ·,
#[aVU,.Add,·],
#[aVU,.FloorDiv,(rI · #[v0,i/j])],
Builtin.Slice.sliceAdjust,
Prod.ext,
slicePart_none,
pick_run,
items.toList.drop,
(#[vB,ZaV1,sIx,ZfT] (ZqX-ZqE)),
"__getitem__",
#[ap6,T,ZaV3,id],
wpAny_typeOf,
X5 (ZaV5 (T:=·) · ?_),
subscriptTail,
fun e_ r ht hz=>·,
r2.length,
#[dM,ZaV9,#[hf,Zzu,·]],
seqIndex_of,
fun v u s2 x y H2 I2 rx ry q=>·,
#[aWa,#[anF,Q,rx,ry,q]],
(by rw[·];simpa using ew),
o.ExactDict,
Obj.mapSeq,
Builtin.List.listTooLong,
aq4.toArray.size,
aq4.toArray,
(by simp[d6,Y9,e]),
(by simp[valueAt,Y9,e']),
(by simp[atKey,Y9,e']),
I.mod.glob.keeps,
#[aX,Zz_,ZaWl I.bk],
Nat.lt_trans,
wpAny_getItem_of,
!o.isSome,
wpAny_notIn_of,
"dict.pop",
fun w' s3 I3 rw'=>·,
fun pins s σ H Q I h=>·,
keys.length,
tupleKind_room_in1,
(ZaWv hu),
· ZaWw ZRL hd dd ?_,
PySem.F.type_dict_get,
WData.int,
pre_splitW,
{ posonlyargs:=·,args:=·,vararg:=·,kwonlyargs:=·,kw_defaults:=·,kwarg:=·,defaults:=· },
.FunctionDef,
ZaWC _ · · _ _ _ _ _ _ _,
{ kind:=·,names:=·,isGenerator:=·,isCoroutine:=· },
if · then A else B,
compEnvC,
(ZaWG sc cl C ZaG),
#[aWH,0].frame,
#[ak',·,0,ZuJ,ZaWH],
#[aWJ,ZBX],
cs.lookup,
N'.length,
src.length=ZaWM,
wpAny_comprehension_free,
ZaWO (use:=Zac) rfl hs R_ Zs2 S.loc Zajx,
1152921504606846976,
List.all_map,
{ s2 with heap:=·,toks:=· },
pl.isList.at,
(by simpa using e2),
(by simp at hl),
acc.toList,
acc.toList.toArray,
SeqAt.RcNeAt.lists,
SeqAt.RcNeAt.lists_lengths,
"__len__",
"list_reverseiterator.__length_hint__",
Builtin.List.listExtendWith,
ZaW2 #[ak,Zar] · Zan,
plainId_quiet,
#[bF,ZaW4 ZY _],
aQn hS' rfl (Yg ZaW5) · (·),
old.toList.reverse,
spliced_cons,
ZaW8 (YQ (jE I hg2 X_ · ?_ ZaF ZaF)),
spliced_nil,
ZaW_ ?_,
n_.toList,
997852516353,
g1.objs.size,
#[OR,ZaXc],
Obj.cls_mapFields,
fun g2 b1 b2 b3 b4=>·,
#[aXf,hq g2 ⟨b1,f2,b2.2.2,b3⟩ ·],
"object.__setattr__",
Heap.get?_push_at,
"ValueError.__init__",
(.val (ZdQ ZaXj)),
ExcBaseFacts,
fun b o q _ _ _=>·,
T.hasType,
hN.keeps,
hx.there,
hx.keeps,
I1.unheld,
I1.fresh0,
PySem.W.readsIn,
ZaXt K · ZPr=Zad,
PySem.W.findCls,
#[ah,ZaXv K #[ak,·] ZPr Zf2,ZaXk],
I.stack.mem,
I.unmarked,
#[NU,ZaXy ok],
codeAny_handlers_test,
fun h6 fl6 bx1=>·,
hq.unmarked,
wpAny_execs_cons,
ZaXD (bD (h1 Zai s σ H · I h) fun f s1 q=>?_),
fun h5 fl5 bx2=>·,
I1.after,
joinParts,
evalEach,
show · by simpa using hm,
i.natAbs,
z.symm.trans,
#[aV,· (ZaXL ·)],
"WaltzError",
(by simp[dS]),
cs.Nodup,
"setdefault",
(by simp[aQ]at h),
(by simp[aQ]),
I.ok.stk,
I.ok.exf,
fun b o _ _ hc q _=>·,
codeAny_of_tree,
ZI (ZaXW ?_),
And.intro,
Yg (ZaXY rfl ·),
(YA h (fun it' s' h'=>#[aXZ,h']) Zio),
List.getElem?_eq_none,
#[cQ,ZaX1],
fun x hx y hy e=>·,
of_empty,
(by simp[fT]),
Nat.le_succ_of_le,
⟨#[Kx,Yh _ (Zq2 a ha)],ZaX6 ZDg⟩,
List.length_pos_iff.mpr,
loadIfAlive,
(by assumption),
Builtin.SmallTypes.ownedTupleIsFree,
#[h5,ZaX' #[ak,z]],
ts.Nodup,
List.drop_of_length_le,
PySem.F.slot_dict_itemiterator_iter,
PySem.F.slot_dict_items,
cs.length,
ZaYf=ZJ2->·,
Nat.succ.inj,
Txt.join,
foldedSetIterable,
ZaYj · · x,
∀ x,#[aYk,ZbT,ZaG]=Zb2 x,
blk.frame,
comprehension,
ZaYn ZCQ sc ZaG _ (newList []) Zaz Zaos Zajk,
List.mem_reverse.mp,
List.mem_of_mem_drop,
fun _ s₂ h₂=>·,
#[ag0,h₁',#[aYr,#[ag0,h₂,Zakl]]],
wpAny_throw,
fun oC es ep eC r=>·,
B'.StaysIn,
fun b o e n h1 h2=>·,
un.there,
ZaYx b o' e' hx,
I1.untried,
#[NU,ZaYz],
(by kernel_rfl),
Builtin.«enumerate.__new__»,
{ cls:=·,dict:=·,data:=·,slots:=· },
fun o=>#[aYD,o.cls,Zab ·,ZfM,ZagG],
s.heap.IsList,
ZaYF d ZfN,
h'.IsListIter,
Around.under_plain,
weight_type_call_type,
F.entry_enumerate_new,
fun r₂ s₂ hr₂=>·,
fun s Q E st hE=>·,
(by simpa using hu),
· st · (x:=u) (ZaYN) ZanT,
callWith,
fun h' hE hI hk=>·,
{ s2 with heap:=· },
h.FunFrames,
base'.get?,
e0.frames,
⟨e0.mod,Zs2,rfl,rfl,Zbs,·,·,·,#[dL,hd],Around.frames_deeper ZaYU,Zaq ZnP,Zam8,ZKg,e0.bsz,fun b _ _=>noA b,Zam8,e0.funs,e0.frf⟩,
∀ (b':Heap)(f c' cy:Addr)(vy:V)(pm ct:Value),·,
PySem.W.Looks.ld,
#[Rr,(ZaYX hob)],
I2.after,
cg (ZaYZ hq') ·,
gs.filter,
fun a ha b hb e=>·,
ZKp #[bm,·,ZaN,#[aY2,·]],
show · by simp[e],
left.map,
acc.Nodup,
fun e_ rv pl _=>·,
gallopOf,
PySem.W.exmAny,
List.cons_ne_nil,
x.cps.toList[i],
Array.getElem?_eq_none,
numbered,
Builtin.Str.partsBetween,
ne_true_of_eq_false,
(X8 (ZaZd h1)).trans,
(by simpa using z),
x.cps.toList[i]?,
#[ah,ZaZg,c],
Array.size_push,
x.cps.size,
(by simpa using hen),
PySem.F.entry_dict_get,
Zaec Z4 ZKw ZaZl #[nJ,PySem.F.args_dict_get_3] · ·,
Char.toNat,
fun ds h1 h2 h3 h4 h5 a_=>·,
String.ofList,
a.eq.symm.trans,
"DEED_SIZES",
(by omega),
∀ c∈z.cps.toList,·,
#[aZt,ZakP],
List.map_id,
ZaZv _,
h.choose,
Nat.succ_le_succ,
· ZI7 · (ns:=ns) #[CE,jW rv] (#[acF,Yq,hl,ZF (ZaZy hz) ZaF]) fun h' tk hS hk=>?_,
ps.foldl,
a.toList,
(ZaZB++b.toList),
(∃ q,r=Zab q/\Fn (Zan6) ZaZC q.toList)\/(r=Zac/\· lt a b out · ·/\·),
(by size_fits),
(ZaZE),
callType_new,
F.slot_enumerate_next,
wpAny_onRaise,
h1.extBut,
u_.extBut,
X5 (ja (ZaZJ ZMj D.i1z) (ZaZK ZMj ZKE) hx fun h₂ h1₂ hs₂=>Yg (Yg ?_)),
h2.extBut,
D.i12.symm,
#[amN,ZaZM,D.i2z,ZaZN],
D.TOi2.symm,
m_.extBut,
#[amN,ZaZQ,ZKG,ZKH],
wpAny_newTuple,
D.TOz.symm,
D.i2z.symm,
D.i1z.symm,
g5.IsTupleIter,
D.TOi1.symm,
F.entry_zip_next,
Heap.IsTuple.at,
(ZaZZ · #[An,k1 _ _ e]),
h₄.objs.size,
fun b o b0 b1 b2 b3 e=>·,
hS6.symm,
hS4.symm,
hS5.symm,
fun h3 n_ c' k3 s3 l3 n3 m3 p3 f3=>·,
fun b o b0 b1 b2 b3 b4 e=>·,
"list.extend.loop",
#[te,(ZdQ ZaZ8 #[dX,[Zaj S,Zaj z,res]])],
f.gs.length,
f.gs.map,
Nat.add_comm,
Za0a 1 k,
f.row.length,
PySem.W.Frag,
fun A outer s H args us vs Q E hr e0 hb r h=>·,
ds.countP,
∃ (as:Zcr)(d:Dt)(ds:ZjP),H2 p=Zab ZaoB/\·/\#[PW,·]/\∀ c:Nat,(∀ f:Zaon,(∀ x,f x=Zad↔x=d)->c=Za0f f)->Q (Zae c) H2,
List.countP_congr,
fs.flatMap,
z.cps.toList.all,
ba.row_lenL,
"MOST_PAIRS",
Builtin.Str.strSliceIndices,
partValue,
slicePicked,
(Za0o z l u Zac),
#[zB,Za0p],
Nat.min_eq_right,
#[cQ,Za0r],
Array.toList,
#[Ai,Zp Za0t d1],
"DEEPEST",
List.drop_eq_nil_of_le,
#[cQ,Za0w],
Array.getElem?_toList,
#[gf,Za0y,e2],
"getset_descriptor.__get__",
#[uj,ZadB K Zafx "__get__",Za0A],
onTheHeap,
wpAny_loadPart,
#[k4,Yg,(X5 (Za0D hx (X5 (PySem.W.Looks.here (s:=ZaUC) · ?_))))],
Bool.eq_false_iff.mpr,
(by simp[c5,look]),
(by simp[c5,look,h.al,h.bl]),
if · then q else c.cN,
List.getElem?_inj,
(Za0J · ·).mp (· ·),
(by simp[bn,c5,look]),
(by simp[bn,c5,look,h.al,h.bl]),
(by simp[h]),
X8 (Za0N),
(by simp[b9.gs]),
"(pair 1 2",
"come 1",
(Za0R,ZBo),
([Za0S,·]:Zaif).map,
[Za0S,Za0S],
#[a0T,Za0S],
"come x",
(Za0W,none),
[Za0S,Za0X],
#[a0T,Za0X],
PySem.W.hasDictIn,
Za00 K ·=Zad,
#[a01,C],
"circle",
#[BZ,Za03],
"read_part",
#[MN,Za05],
"NoGuest.__init__",
"NoText.__init__",
"Hall.__init__",
"Hall.come",
"Hall.go",
"Hall.exchange",
(by simp[bn,ea,eb,eab,em]),
"Hall.dress",
"Hall.acquaint",
"Hall.inside",
"Hall.guests",
"Hall.wears",
"Hall.wearer",
"Hall.met",
"Hall.partners",
"Hall.story",
"Hall.moment",
"Hall.twin",
st.circ.take,
Wz.Paired.mapP',
cJ (Za1o · fun b z hb e=>·) #[fz,·],
T.enumerate,
Nat.succ_pos,
Za1r _,
"FigureBook.__init__",
"FigureBook.define",
"FigureBook.told",
"FigureBook.spread",
"FigureBook.check_names",
"FigureBook.length",
"FigureBook.row_of",
PySem.F.slot_list_extend,
PySem.F.type_list_extend,
w1.trans,
fun f r hr t p H' g t' ht hf=>·,
∀ (b:Heap)(fl c1 cy:Addr)(vy:V)(pm ct:Value),·,
#[a1E,ZCh->jt b · · · · · vy fl c1 cy pm ct->aT P w K mg b · · fw fdw · ·],
fun hn H4 g4 t4=>·,
er.trans,
tl.cps.toList,
EV.same.trans,
#[bw,_,cq8,bad HX (Za1J sX)],
sH.trans,
hT3.same,
⟨p,B,a,b,l,rfl,pP.hall S hT bt,A,#[AS,k dx H' (ZLH bt s) (Za1M s)]⟩,
sA.trans,
PyProof.Rows.boot_any,
"partner",
PyProof.Rows.boot_all,
#[adX,vK,ZAf,Za1R,(dv (#[gn,iJ,ai ·,·,Zalq,ZvW,Dg,(Nz (pv 0)),#[ag8,Zalq,(yp CD Zap (jy ZadW ·) rfl)]]))],
"Keeper.__init__",
"Keeper.stand",
"Keeper.state",
"Keeper.due",
"Keeper.step",
"Keeper.go",
u1.trans,
"_law_g",
s13.trans,
(by simp[b9.gs,G60]),
"_law_name",
"MOST_DIGITS",
∃ u,#[ah,mg Za14,u]/\bo (Zae 12) u,
"DIGITS",
∃ u,#[ah,mg Za16,u]/\bo (Zax ZAk) u,
"LONGEST_NAME",
∃ u,#[ah,mg Za18,u]/\bo (Zae 12) u,
"LETTERS",
∃ u,#[ah,mg Za1_,u]/\bo (Zax ZAv) u,
PySem.W.findIn,
Za2a K #[ak,·] ·,
#[ah,#[a2b,·,·],Zac],
#[uj,#[a2b,·,Zadl],ZaXh],
#[uj,#[a2b,·,Zz2],ZtM],
#[t4,Za2a,C,·,·],
#[a2c,·,Zadn],
#[a2d,C],
#[uj,#[a2b,·,ZAz],Zafw],
#[ah,#[a2b,·,Zf2],(Zab (Zaj ·))],
#[a2f,f,Zac],
#[a2f,m,ZCt],
#[a2j,C,f],
backToKw,
keywordEach,
(Za2n pos (Za2o kws env)),
(Za2n · (Za2o · ZaG)),
#[a2q,i_,[]].all (#[b5,#[hD,x.1]]),
#[ak7,·]&&Za2r,
ZaYP pos f first #[zq,pos,·] #[a2q,pos,[]],
#[a2t,Zcy],
#[a2t,[]],
#[a2q,pos,kws].map,
#[eI,#[ak7,[e]]&&Za2r&&#[DS,[e]]],
I.turned,
Za2y (t':=·) · f0 f1 f3 f4 f5,
#[ah7,#[a2z,Zca,#[nj,eb b o hb e]]],
#[a2z,Zca,#[nj,Zal']],
wpAny_pyNext_range_end ZI7 st (by have:n<=i:=hg;lia) Za2A,
#[a2z,Zca,(fun b o hb q=>eb b o hb q)],
Za2y #[nj,kk b o (ZbZ) e] f0 f1 f3 f4 f5,
· (knd:=ZqY) ZI7 st hat ZJ7 Za2A,
Value.type,
Za2G ·,
#[kN,#[a2H,·],#[a2H,·]],
#[a2I,Zpu,·],
u=Za2G n,
(c == #[a2H,ZdK]),
PySem.W.keepIn,
Za2M K ·=Zad,
#[a2N,Znd],
Za2M X.K ·=Zad,
#[a2P,Znd],
#[a2N,Zfv],
#[a2P,ZPm],
#[aed,·/\#[bD,mg,Znd]/\Za2O/\ZNF],
PySem.W.mroIn,
Za2U K · #[ed,·]=Zab Zad,
#[a2V,·,ZJN],
#[a2V,·,ZJL],
Za2U K D ·,
fun b o e n hb hx=>·,
#[a2Z,?_],
#[a2Z,ZNR (I7.base.keep b o e n hb hx)],
∀ y∈sc.names,·,
#[a22,y.2=·->·],
#[a23,Zmc,#[Ox,Zo6]],
#[a22,y.2≠·],
#[a25,Ze'],
#[a25,ZfS],
#[a23,ZfS,∃ c,ZJD y.1=Zab c],
#[a23,ZfS,#[alW,Ze']\/#[alW,ZfS]],
Heap.SameBut,
Za2_ · · h',
∀ h',·->#[a2',·,ZaE]->·,
Za2_ a ZaE ·,
#[a3b,h'],
s2.heap.push,
Zagr=Za3d ZahE,
#[aYR,Za3d ZahE],
(Za3f:Shared),
#[cl,Zag3,Za3f],
SeqAt.EqAt,
Za3i A s u v ·,
Za3i · s ZJG x_[j] ·,
Zal4->#[vf,y]->RD X.K H n x e->Zgl->Zd1->#[vk,ZDd,#[a3j,k]],
∀ u∈us,#[a3j,·],
(∀ [351],Za3l),
(∀ j [70],#[a3k,ZhK,(ks j)]),
∀ j:Nat,#[vk,∀ [70],#[a3k,ZhK,k],(∀ d1 d2,#[ajZ,(Zqp↔d1=d2)])],
"__name__",
x≠Za3q,
∀ x:Str,Za3r->mb x=Zaft x,
Builtin.SmallTypes.nextOf,
#[h5,Za3t #[ak,·]],
#[a3u,i1],
#[a3u,i2],
#[tc,#[ha,Za3t,it]],
fun _ _ _ _ _ st h=>·,
#[a3y,· st h],
#[a3z,wpAny_pyIter_rangeiter],
g.FunFrames,
Za3B B l,
∀ g,Zy1->Za3B B Zni->·->VW ZaE g->ZB7,
#[a3D,OU g B e ZyY ZzX ZO0],
(·,NameKind.free),
#[a3F,x]∈·,
#[a3G,Zzw],
#[a3G,[#[alD,Zdl],#[alD,Zdm],#[a3F,#[dj,·]]]],
PySem.W.typeIn,
Za3J K ·=Zab ZaiA,
#[a3K,#[ak,·]],
Za3J X.K #[ak,·]=Zab ZaiA,
ns.foldl,
#[aZ,(Za3N ZMk [])],
#[ajI,Zmd]=Za3N ZMk [],
#[ald,tk,ZgK _ Za3O,#[zV,hk b u Zqa e],(show #[RT,(ZgK _ Za3O)] from hS),(q _ _ _ ZuS (by simpa using d1) (by simpa using d2))],
fun b u q _ _ _=>·,
#[a3R,ZB9],
#[a3R,⟨u.slots,ZB9⟩],
h1.symm.trans,
Za3U e,
Yb (Za3U e),
PySem.W.plainOver,
Za3X K C=Zad,
Za3X K ·=Zad,
PySem.W.makesIn,
Za30 K C=Zad,
Za30 K ·=Zad,
List.mergeSort_perm,
(Za33 l _),
Za33 l _,
wpAny_pyIter_list,
Za36 hL,
Za36 · ?_,
List.range',
(Za39 k m),
(Za39 Zgi ZDi),
h.DictOf,
ZqH/\Zabz/\∃ vs,ZqL/\Za4a Zhd a vs,
∃ ts:·,#[amI,Za4a Zhd a (ZAr ·)],
closureFor,
Za4d ZbL ZaG=Zb2 ZnE,
Za4d · env=Zb2 ·,
e.r.length,
#[afc,ZCL->Za4g=e.n],
#[afc,ZCL->fU H e.l e.r/\Za4g=e.n],
I.base.tbls,
⟨ZsP,Zo_,ZsS,#[CS,Za20,Za20,Zza,ZabO,ZabP,Za4j],·,·,Zo',Zpa,ZvF,·,by simpa using I.len⟩,
Za4j b ps e,
#[a4k,#[c8,hn',(ZanS)],fun y c e=>?_,·],
PySem.W.kla_obj,
Za4n ZA6 Zbt ZkA Zet ZbL ZnE ((ZbK Za3q).getD Zan) c' ctv,
(ZJs (Za4o)).get?,
· f=Zab (Za4n ZA6 Zbt ZkA Zet ZbL ZnE pm c' ct),
∃ fd:FuncData,·,
#[a4r,(·)/\·],
#[a4r,aT P w K mg ZaP d8 1 · fd · (N8 · ·)/\#[NE,·]],
Code.quiet_builtin,
(Za4u _ ·),
Yg ⟨Za4u _ Zb7,#[akC,F.entry_type_call]⟩,
List.of_mem_zip,
(Za4x ·).1,
· fun v hv=>Zapg (Za4x hv).1,
rs.length,
i<Za4A,
Za4A<=ZbY,
if _ then _ else _,
#[h0,(Za4D)],
(Za4D)=_,
rel.length,
#[gf,Za4G,·],
#[Pi,Za4G],
IsRangeIter,
Za4J _ _ · (·-ZqR) ·,
#[rh,tg,·,Za4J h it · (Zcg-Zqv) ·],
pendingOf,
Za4M A_=Za4M st,
wpAny_pyIter_enum,
Za4O (s:=·) hE ?_,
#[a3y,#[am4,Za4O he h]],
spos.line,
#[nQ,Zsx Zamr Zams Za4R ZaG],
Zsx ZCQ Zams Za4R ZaG=Zb2 Zad,
PyProof.Rows.boot_set,
(ar ve #[adZ,Cb,(dv (dU (· rfl) ZadW T.bset Za4U ·))] (am) ZeG),
(Ar Cc ZadW T.bset Za4U),
Classical.choose_spec,
#[bm,(fun j=>Classical.choose (ex j)),(fun j h1 h2=>(Za4X (ex j)).1 h1 h2),fun j=>(Za4X (ex j)).2],
hI.typeIs,
X5 (Zr (name:=Zws) Za4Z Z9 (ZD Z9 Za4Z F.entry_tuple_iterator_next ?_ (F.args_tuple_iterator_next_1 _)))]
#check[∀(vs:Zbg)(H:Hp)(Q:VK),0,
∀(pins:ZdT)(s:Shared)(σ:St)(H:Hp),0,
∀(I:ZhY),0,
∀{pins:ZdT}{σ:St}{H:Hp}{s:Shared},0,
∀(P:Program)(w:World)(K:ge)(mg:Zm5)(base:Heap),0,
#[aqG,ZaCg],
∀{P:Program}{w:World},0,
∀(hf:ZNP:=by first | exact Ze1 | exact ZjZ | assumption),0,
∀[0](E_:XK),0,
∀(p:Addr)(A:HA)(st:eD),0,
∀{kvs:Zj3}{vs:#[v4,κ]}(r:ZqL),0,
∀(bg:#[vU,ZlX,3,ZkK,lW]),0,
∀(xs:Zbg)(H:Hp)(Q:VK),0,
∀(K:ge)(mg:Zm5),0,
∀(p:Addr)(B:HA)(k:Nat)(a b l:Int)(_:vs=[ZbH,Zae k,Zgk,ZEv,Zae l]),0,
∀(pins:ZdT),0,
∀{a b l:Int}(h:Zn9),0,
∀(l:ZdS),0,
∀{α:ZfK}{rd:ZGY},0,
∀{mg:Zm5}{base:Heap}{CX:wQ}{k:Nat}{f:Addr}{fd:FuncData}{ps:Zbe},0,
∀(_:ZyH)(_:Zr7)(_:Zayw),0,
∀(br:#[vU,Zer,4,Zjd,AM]),0,
∀(d_:#[aB3,12,(CL cb cU 9)])(g_:#[aAf,12,(wL cb 9)])(f_:#[aAg,13,(rD cb 9)]),0,
∀{H H':Hp},0,
∀{us:ZbS},0,
∀{kvs:ZrV}{xs:ZakH}(r:ZapJ),0,
∀(ml:ZdS),0,
#[hw,#[yo,cl]],
∀{cs:Zcr}{ci:Zgy},0,
∀(lt:ZaIi),0,
∀(l:Zbi),0,
∀(T:Zahw),0,
∀(cz:#[ka,ZyM,1,ZkK,vt])(NG:ZaB7),0,
∀(H:Hp),0,
∀{A:Around},0,
∀(C:Addr),0,
#[yN,Zbg],
∀(K:ge),0,
∀(n:Nat),0,
∀(p r:Addr)(B:HA)(a b l:Int)(_:#[Gx,r])[5],0,
∀(iw:#[mq,ZIk,4,Zj',(II c)])(i6:#[mq,ZlY,5,#[a8,Zo1],ZaaX]),0,
∀{xs:Zbg},0,
∀{H:Hp},0,
∀[9](g:Int)(_:ZGs),0,
∀{p:Addr}{A:HA}{st:eD},0,
∀{X:Cx},0,
∀{Q:Zfh}(hu:ZXY)[2](g:fq H a y o)(ry:Zgl),0,
∀{E:Zfh},0,
∀(E:Zfh),0,
∀(hd:Zt_:=by decide),0,
∀(od:ZgH),0,
∀(hkw:#[a2N,ZPm]),0,
∀(dQ:ZaM8)(f6:ZaM9)[21],0,
∀{c0 fw:Addr}{fdw:FuncData}(hco:ZV2),0,
∀{a:Addr},0,
∀{kvs:ZdU},0,
∀[0](E:XK),0,
∀(k:#[Ph,ZcG,ZvM]),0,
#[hw,vs=[ZbH]],
#[hw,ZyH],
∀(P0:Addr)(lp:Pos)(ql:Str)(cF:Addr),0,
∀(fM:#[mq,ZIl,5,#[a8,Zba],(yu c)]),0,
∀(fl c1 cy:Addr)(vy:V)(pm ct:Value),0,
∀(a:A)(b:B)(z2:Zdp)(z3:Zfs)(z4:ZjE),0,
#[yO,ZfL<=ZbY,∀ l S (n:Nat),Zjn->n<=ZfL->(n=ZfL↔ns.Nodup)->#[b8,l,#[bJ,l,ZRk]]],
∀{pos:Pos},0,
∀{t':Nat}[2](k:ZaB9),0,
∀(jS:#[mq,ZIm,4,#[a8,Zba],(yt c)]),0,
∀(P:Program)(w:World),0,
∀(lo hi:ZgI),0,
∀(h1:j<ZiE)(h2:j<Zabt),0,
∀{L:Zbf},0,
∀(a:A)(b:B)(c:C)(z3:Zfy)(z4:Zhj),0,
∀{op:CmpOp}{t:TE}(h:PC X op a b t)(h1:ZHZ:=by first | exact F0 _ (ZaC) ZaF | rfl),0,
#[hw,xs=[ZbH]],
∀{s':Shared}{σ7:St}{H7:Hp},0,
∀(A:Around)(outer:ZbA)(s:Shared)[33],0,
∀(c:HX),0,
∀(dB:#[ka,Zhx,1,Zjc,vq]),0,
∀(s:Zcw),0,
∀(e:E)(z5:Zn2)(z6:Zn3)(z7:Zn4)(z8:Zn5)(z9:ZvH)(z10:ZvI),0,
∀(X:Cx),0,
∀(hN:X.N.Nodup)(hi:Zgz)(hx:Zagh),0,
#[hw,Zaak],
∀(S:Zaak),0,
∀(b p:Addr)(A:BA)(bs:Zgt)(f:ba)(_:ZaB'),0,
∀(ha:ZxO)(hv:ZaBr)(hs:#[aII,(ZyP o f ZlZ)]),0,
∀(R:ZGi)(f:Int)(gs:Zbf),0,
∀(a:Addr),0,
∀(p:Addr),0,
#[hw,#[yo,Zc0]],
#[aKN,ZIn,ZLg],
∀{kindOf:Str->#[gF,ZaT']}{x:Str},0,
∀(ps:ZdS),0,
∀{f:ZXl},0,
∀{bs:Zgt},0,
∀{op:CmpOp}{r:R2}(ho:ZaF7)(ha:ZHd)(hb:Zyg)(hm:ZHZ),0,
∀(src:ZBE),0,
∀(hi:Zgz:=by rfl)(hx:Zagh:=by first | exact ZJB | exact ZTr),0,
∀[5](h_t:ZaJY)(_:#[yy,ZdH,ZaGU,Zaaf]),0,
#[aKN,ZIo,Zlw],
∀(gn:#[eO,ZyR,1,Zop,wM]),0,
∀{W:ZdS}(P:O2 W),0,
∀(elt t0 i0:Expr)(c0:Zbh)(t1 i1:Expr)(c1:Zbh)(scope:Scope)(pos:Pos)(it acc:Value),0,
∀[35][33](b:Addr)(A:BA)(bs:Zgt),0,
∀(hu:Zabv+1<ZiF),0,
∀[20](_:(#[kc,ZgA,ZdF])),0,
∀(dj:(T5.map (·.1)).Nodup),0,
∀(d it:Addr)(o:Obj)(kvs:ZdU)(ep:Nat)(hep:ZaTg),0,
∀{fp:Zcr},0,
∀(us:ZbS),0,
∀{tl:TE}(hl:PE X l tl),0,
#[yN,Zjh],
∀[5](h_t:Zyw)(_:#[yy,ZdH,Zrf,Zaaf]),0,
∀(f:ZXl),0,
∀(kvs:Zj3)(k:κ),0,
#[yN,ZER],
∀{α:ZfK}(J:Zj5)(R:ZGY)(At:ZaJo)[56],0,
∀(s':Shared),0,
∀(he:ZgC),0,
∀(_:Zu7)(_:#[b9,(ZaI zs)])(_:#[ayB,zs.length]),0,
∀[9](a b:Int)(_:vs=[ZbH,Zgk,Zae b]),0,
∀(hs:#[nQ,Zsx e (Zab (Zcp x ZlZ)) ZyS ZaG]:=by rfl)[7],0,
∀(lt:Zavo),0,
∀{b:Addr},0,
∀{α β:ZfK}{F:ZaEE},0,
∀{B g:Heap}{l:ZbA}{e:Addr}{c:Value}{od:ZgH}(x:nV B l e c od g),0,
∀{mg:Zm5},0,
∀(iZ:#[mq,ZIp,5,Zlo,ZawQ]),0,
∀{l:Zbi}{n c:Nat}(h:ZaKo)(hc:#[ah,l[n]?,c]),0,
∀(h:Heap),0,
∀(hc:Ze0),0,
∀(hq:#[DE,nV B l e c od g]),0,
∀{prog:Program}{w:World}[34],0,
∀(fO:#[ka,ZyU,1,ZHp,EB]),0,
∀(s:Shared),0,
∀(Q:#[dW,ZbB]),0,
∀[6]{K:ge}{tg:Expr},0,
∀{m:Zm5},0,
∀(ns:Zbf),0,
∀[29](a b:Zke),0,
∀(k_:aO P w K mg ZaP ZcO cb ZIq 2 ZEM ZaGh),0,
∀(gC:#[mq,ZIr,5,#[a8,ZaH],ZHf]),0,
∀[45][37](hK:ZoU:=by rfl),0,
∀(fs:Zcf),0,
∀(ii:#[ka,Zsy,1,Zjd,N7]),0,
∀(p_:#[mq,ZIs,2,ZH5,ZaEi]),0,
∀(f7:#[vU,Zo2,3,ZEL,vz]),0,
∀(h_2:#[aKO,od])(h_3:#[nK,b]),0,
∀(eE:#[ka,ZyV,1,ZkK,tV]),0,
∀{h:Heap},0,
∀{α:ZfK},0,
∀[33](Q:VK),0,
∀(ok:ZF4),0,
∀{ml:ZdS},0,
∀(B:HA)(a b l:Int),0,
#[aqH,#[sz,Zcw->ZuG->#[kS,Zc0,dx]]],
∀(sp:Sp)(T_:Zbg)(E:XK),0,
∀(c:Zgy),0,
∀(a b:Int),0,
∀{u:Value},0,
∀(ps:Zbe),0,
∀{n:Nat},0,
∀{l:ZdS},0,
∀(ds:ZEl),0,
∀(W:ZdS),0,
∀[6]{K:ge}{elts:Zbh}{kk}[65],0,
∀(gs:Zbf),0,
∀{ta:TA}{p pos:Pos}(hg:Gl X ZsA)(hm:#[vK,ZsA]),0,
∀{kvs:ZrV},0,
#[aqI,td],
∀{es:Zbh},0,
∀{c:HX}[42][44]{d:bY}{Q:VK}{E:XK},0,
∀[65]{qual:Str},0,
∀{t:Ziu},0,
∀{y x:V}{u v:Value},0,
∀[124][41](e:#[b9,ZeQ]),0,
∀{R:ZGi},0,
∀(e:ZTN),0,
∀{Q:Zfi},0,
∀[71]{qs:Zaif}{tl z:Str}(h:ZaQd),0,
∀{ks:Zbf}(hk:∀ g∈ks,f g∈ks){g:Int}(hg:g∈ks),0,
∀{ts:Zcr}{ps:ZrU},0,
∀{ds:ZEl},0,
∀(L:Zbf),0,
∀[15](σ:St),0,
∀{C:Addr},0,
∀(e:ZTO)(eb:ZHk),0,
∀[54]{D:kA}{σ:St}[42],0,
∀{c:Nat}(hc:c<256),0,
∀[77](x:L5)[31][8],0,
#[aqH,ZauB],
∀(fB:#[oR,ZIt,Zd5,N3]),0,
∀{us:Zcr}{qs:ZrU}{R S:#[SI,V×V]},0,
∀(iY:#[oR,ZIu,Zo3,IG]),0,
∀(g:Int),0,
∀(st:eD),0,
∀{p:Addr}{f:ba}(h:ZV9),0,
∀(z:Str)(_:ZFh)(_:ZjX)(_:Zup),0,
∀[42]{a b:Addr},0,
∀{i:Nat}{x:Str},0,
∀(ha:ZHd),0,
∀(hi:PE X i ty),0,
∀{K:ge}[42],0,
∀(ks:Zbf)(b:Int),0,
∀[140][38](r:ZgE (Zhy Zkd))(out:Zke),0,
∀(x:Str),0,
∀(i:Nat),0,
∀[1](x y:V)(v u:Value)(Q:VK),0,
∀[45]{pins:ZdT},0,
∀(r:ZXe),0,
∀{a b:Int},0,
∀[26](p:Zhq),0,
∀(circ:Zgy),0,
#[yN,Zke],
∀(fL:#[oR,ZyW,ZhA,J4]),0,
∀(lob:Zl0 fl=Zab ol)(lod:ol.data=ZsC fdl),0,
∀[89](bs:Zru)[74](_:cC K H p (ZiG ZcH)),0,
∀{st:eD}{k:Nat}{d:bY}{l:Zau1}{t:Bool},0,
∀(items:Zhz),0,
∀{e:Expr}{t:TE}(h:PE X e t),0,
∀[94](hf:Uj f){K:Zbf}(hk:∀ g∈K,f g∈K),0,
#[yO,ZW7,Zo4<64],
∀{z:Str}{ds es:Zbi}(a:ZuL)(b:Num z es),0,
∀(bs:Zgt)(w:Str),0,
∀(k:Addr)(A:KA)(_:ZauA)(_:tj ck H k A HI),0,
∀{c:HX}[42]{p:Addr}{A:HA}{a b l:Int}{Q:VK}{E:XK},0,
∀[89][36](i:Int)(v:V)(e1:x=ZbH)(e2:y=Zae i),0,
∀[45][54]{xs:Zjh}{i o:Expr}{ty:TE},0,
∀(h:Zn9)(x:Q6 (Ke []) ZaBR ts []),0,
∀{e:Expr}{te:TE},0,
∀(CX:wQ)[4](N:Zbe)(qual:Str)(scope:Scope),0,
∀(neg:Bool)(x:V)(y:V)[152],0,
∀(p:_)(ys:_)[74](_:(cC K H p ys\/ZaAc)),0,
∀(ci:Zgy),0,
∀{ci:Zgy},0,
∀[116](ts:ZaBj),0,
∀[124]{A:BA}[95],0,
∀[23](k:ZdH),0,
∀(iD:#[oR,ZyX,ZhA,vw]),0,
∀(kvs:ZdU),0,
∀(fs:Zjg),0,
∀[81](es:Zbh)(t:TA),0,
∀(r:ZZg),0,
∀{oe:Obj}{us:Zhz},0,
#[aqG,VS c ck H k D HI B ZcR],
∀{m:Nat}{zs:Zbg}{es:ZjP}(j:Nat){z:V},0,
∀(a:A)(z1:ZeN)(z2:Zga),0,
∀(prog:Program)(w:World),0,
∀(x:ZF4),0,
∀(H H':Hp),0,
∀(ha:PT X a tA),0,
∀(ry:Zgl),0,
∀{g:Int},0,
∀(B:Heap)(l:ZbA)(e:Addr)(c:Value)[50],0,
∀(ea C:Addr)[50](B:Heap),0,
∀(hd:Zsg),0,
∀(x:Zaak),0,
#[hw,ZauY],
∀{x:Addr}{B:HA}{st:eD}(e:Ev c H0 H x B st),0,
∀(hj:ZaKr),0,
∀(ck:Addr),0,
∀(z:Str),0,
∀[151](rd:ZGY),0,
∀(MH:#[wo,Ux,c]),0,
∀{x y z:V},0,
∀{s:Shared},0,
∀(x y:V)[152],0,
∀(x:V)(lo:ZgI)(hi:ZgI)[152],0,
∀(a b:Addr),0,
∀(l:Zbf),0,
∀[89][139][74](_:cC K H p ZvR),0,
∀{fs:Zcf},0,
∀(e:ZeX)(o:ZOz),0,
∀{P:Zbe}{vs:ZbS}{i:Nat}[138],0,
∀[6][42][130](hb:Zabx<Zkf),0,
∀{l:Zd2}{m:ZSC},0,
∀(fl c1:Addr)(vy:V)[56],0,
∀(new:#[ia,Zn6,h',a,o]),0,
∀(Q:ZeJ),0,
∀(l:Addr),0,
∀{l:Addr},0,
∀(tt0:TT)(wi1:TI)(g1:TG)(tt1:TT)(te:TE),0,
∀(v:Value),0,
∀(x:ZV7),0,
∀(b:ZWz),0,
∀(t:ZV7),0,
∀{gs:Zbf},0,
∀[13](w:World),0,
∀[18][162]{l:Zbi},0,
∀(hp:ZQg∈X.pn)(hc:ZyY=Zaj D),0,
∀(l b:Addr)(xs zs:Zbg)(_:x=Zgh),0,
∀(qs:Zaif)(tl z:Str),0,
∀(z0:p0)(z1:p1)(z2:p2)(z3:p3)(z4:p4),0,
∀(Q:#[dW,Zbg]),0,
∀(g:Int->Int->V),0,
∀(i j:Int)(e1:Zsb)(e2:y=Zae j),0,
∀[34][186][24]{kw:Zqi},0,
∀(outer:ZbA)[68][33][135](Q:VK),0,
∀[45][3][54],0,
∀{names:ZaUa}{x:Str},0,
∀(wi:TI)(g:TG)(tt:TT),0,
∀{s' σ7 H7},0,
∀(G:Zr7)(o:Of L st),0,
∀(t:Ziu),0,
∀(pos:Pos)(ql:Str)[8],0,
∀(c:Nat),0,
∀(h_r:fU H r [ZfA]),0,
∀(b1:ZyZ h1)(b2:ZyZ h2),0,
∀[89](f:b9)[58](_:Zaae)(_:f.Ok),0,
∀{v:Value},0,
∀[6][42][150],0,
∀(e:Zho),0,
∀[124]{o:Obj},0,
∀[42][25](k:Zg_),0,
∀[170](he:ZauL),0,
∀{H H1 H2:Hp},0,
∀(k:Nat)[161](sp:Sp),0,
∀[114](N:Nat),0,
∀{base h:Heap}{f cy b:Addr}{o:Obj},0,
∀{ts:ZM6},0,
∀(cl:Addr)[8],0,
∀{x:Str}{v:V}[160][65](hg:ZcF),0,
∀{K:ge},0,
∀(fp:Zcr),0,
∀[34](r:ZFd),0,
∀(e:Value)[118],0,
∀(h:ZaPK),0,
∀{z:Str}{ds:Zbi}(h:ZuL),0,
∀(te:TE),0,
∀[35][110](kw:Zqi),0,
∀{p:κ×V}{r:Zj3}{k:κ},0,
∀{st:eD},0,
∀(R:ZGi),0,
#[yO,ZaBS,ZaA5],
∀[186][42][237](B:ZNe),0,
∀[112](ts:ZarM),0,
∀{fl:Addr}{fdl:FuncData}{ol:Obj},0,
∀[72](z5:Zii)(z6:Zn1),0,
∀[54]{o:HO},0,
∀{α β:ZfK}{F G:ZaEE},0,
∀(hn:Za3r:=by decide),0,
∀{binds:Zqi}[138],0,
∀[203][54][41]{ds:ZjP}[162],0,
∀(p:Params),0,
∀{d:bY}(h:ZavH),0,
∀(S:ZlJ)[38],0,
∀(st:Stmt),0,
∀(vs:Zbg),0,
∀[81](o:Expr)(m:Str)(apos:Pos),0,
∀{ns:Zbf},0,
∀[34][175]{d e:Dt},0,
∀[17](g m:Int),0,
∀[186][23],0,
∀[77][56],0,
∀[59](_:AZ st),0,
∀(q:Addr),0,
∀(κ:SortKind)(a0:Zke),0,
∀{z:Str}(h:ZWk),0,
∀{l₁:Zd2}{l₂:ZSC},0,
∀[1](x:V)[36][283][110](Q:VK),0,
∀{o:ZgG}{u:Zm4},0,
#[hw,ZaAI],
∀(R:ZTt),0,
#[yN,Zhz],
∀(a:Kl xs i=Zab v)(h:Zxo),0,
∀(r:ZaOr),0,
#[hw,ZXR],
∀(th:Zsn),0,
∀[35][8],0,
∀(h:PE X e t)(h2:ZYH),0,
∀(f c':Addr)(y:Str)(cy:Addr),0,
∀[63](z5:Zlf)(z6:ZvG),0,
∀[206](t:Tok),0,
∀[41][24],0,
∀[33][88],0,
∀(e:Expr),0,
∀[37][12],0,
∀[2](hH:Zu7),0,
∀[74](_:#[ge,ZeK]),0,
∀[38][34]{l b:Addr}{d e:Dt},0,
∀(e1:ZeX)(e2:ZxY),0,
∀[38](hu:Zabw),0,
∀{ea:Addr}{oe:Obj}(ok:X.Ok),0,
∀(hn:#[th,Zvo]),0,
∀(A:KA)(s:RN),0,
∀[6][323][19],0,
∀{ql:Str}{fl c1:Addr}{vy:V},0,
∀{p:Zbi},0,
∀{p:Addr}{f:b9}(h:Zaae),0,
∀(g:#[aL8,GR]),0,
∀(b:Heap)[62],0,
∀(b:B)(c:C)(d:D),0,
∀(sc:Scope),0,
∀(x:V)[33],0,
∀{D:kA}{f:Flow}{s':Shared},0,
∀{e_:ZbS},0,
∀(f:Str),0,
∀{k:Nat}[34](r:dJ (k+1) A),0,
∀{sc:Scope},0,
∀[10](k:κ),0,
∀{y:V}[160],0,
∀[55]{vs:ZaxS},0,
∀(vs:ZbS),0,
∀[17][195],0,
∀(X:ZoB),0,
∀(A:HA),0,
∀(d:Addr)(o:Obj),0,
∀[123](p:Zlb)(k:Nat),0,
∀(ks S:Zbf),0,
∀{left:Zbf},0,
∀(w:Str),0,
#[yO,ZV9,Zhk],
#[aqI,#[ha,tC,a]],
∀[23](k:ZEH),0,
∀{d:Nat}(hd:ZHX),0,
∀{T:Zahw},0,
∀(r:Zawh),0,
∀[6][323][127]{base:Heap},0,
∀(hl:ZvO),0,
∀[84](w':ZdS),0,
∀[133](hh:Zeo),0,
∀(q:ZaxH×Zazf),0,
∀(h_0:vs=#[qm,w,q]),0,
∀[57](hp:ZaDh),0,
∀{x:Str},0,
∀(Q:Zfh),0,
∀{H':Hp},0,
∀(C:ZaED)[295],0,
∀[35](m:Str),0,
∀[185][33][135],0,
∀{Q:Zfh},0,
∀(hu:ZXY)[2],0,
∀[281]{o:HO},0,
∀(cs:Zcr),0,
∀[9][58][83],0,
∀{as:Zcr},0,
∀(k:ZWA),0,
∀[281][183](h:jT H l ds),0,
∀[183]{d:bY},0,
∀{N:Nat}(hN:K.length<=N),0,
∀[102][253](hg:g∈aQ W),0,
∀{P:Addr},0,
∀(d:Nat)[30],0,
∀[95]{w:Str},0,
∀[37](ea D:Addr)[50][12],0,
∀[89](B:HA)(a b l g:Int),0,
∀(NG:ZaB7),0,
∀[162](hn:n<=9),0,
∀(u:ZaG_),0,
∀[137](it:Addr)(lo:Int),0,
∀{mA:Zm5},0,
#[hw,Zpn],
∀(h:Zayy),0,
#[hw,#[Gx,l]],
∀(mg:Zm5),0,
∀(R:#[cd,Zkd,Zkd]),0,
∀[140](out:Zke),0,
∀[45]{x j p}[171]{t:TA},0]
noncomputable abbrev ge:=PySem.W.Frag
section
variable{A B C D E F H I J:Sort _}{G p0 p1 p2 p3 p4 p5:Zaa}{q0 q1 q2 q3 q4 q5:A->Zaa}{r0 r1 r2 r3 r4 r5:#[cd,A,B]}{s0 s1 s2 s3 s4 s5:A->B->C->Zaa}{t0 t1 t2 t3:A->B->#[cd,C,D]}{u0 u1 u2 u3 u4 u5 u6 u7 u8:A->B->C->D->E->Zaa}{y0 y1 y2:A->B->C->D->E->F->H->I->J->Zaa}
def fz(h:p0/\p1/\p2)(k:p0->p1->p2->G):G:=by
 obtain⟨z0,z1,z2⟩:=h;exact Zaau
def ak(h:ZXc)(k:ZZZ):G:=by
 obtain⟨z0,z1,z2⟩:=h;exact Zaau
def Pl(h:#[sD,Zdp])(k:#[gJ,Zdp->G]):G:=by
 obtain⟨z0,z1,z2⟩:=h;exact Zaau
def gY(h:p0/\p1/\p2/\p3)(k:p0->p1->p2->p3->G):G:=by
 obtain⟨z0,z1,z2,z3⟩:=h;exact Zsv
def iT(h:p0/\ZXc)(k:p0->ZZZ):G:=by
 obtain⟨z0,z1,z2,z3⟩:=h;exact Zsv
def az(h:#[RB,ZjQ])(k:∀ a,ZeN->Zga->ZjQ->G):G:=by
 obtain⟨z0,z1,z2,z3⟩:=h;exact Zsv
def Mo(h:#[PS,ZanK])(k:∀ a,ZeN->ZaGb):G:=by
 obtain⟨z0,z1,z2,z3⟩:=h;exact Zsv
def bU(h:Zamz)(k:ZaKQ):G:=by
 obtain⟨z0,z1,z2,z3⟩:=h;exact Zsv
def iU(h:#[sE,Zfy])(k:#[sF,Zfy->G]):G:=by
 obtain⟨z0,z1,z2,z3⟩:=h;exact Zsv
def qo(h:ZaRn)(k:p0->p1->p2->p3->p4->G):G:=by
 obtain⟨z0,z1,z2,z3,z4⟩:=h;exact Zo0
def eY(h:p0/\p1/\ZXc)(k:p0->p1->ZZZ):G:=by
 obtain⟨z0,z1,z2,z3,z4⟩:=h;exact Zo0
def G6(h:p0/\Zamz)(k:p0->ZaKQ):G:=by
 obtain⟨z0,z1,z2,z3,z4⟩:=h;exact Zo0
def qp(h:ZaQT)(k:∀ a,ZeN->Zga->ZjQ->Zoe->G):G:=by
 obtain⟨z0,z1,z2,z3,z4⟩:=h;exact Zo0
def jB(h:ZaAL)(k:∀ a,ZeN->Zga->ZaGb):G:=by
 obtain⟨z0,z1,z2,z3,z4⟩:=h;exact Zo0
def da(h:ZaaM)(k:ZaOG):G:=by
 obtain⟨z0,z1,z2,z3,z4⟩:=h;exact Zo0
def im(h:ZaDo)(k:#[sF,Zfy->Zhj->G]):G:=by
 obtain⟨z0,z1,z2,z3,z4⟩:=h;exact Zo0
def db(h:ZaSq)(k:p0->p1->p2->p3->p4->p5->G):G:=by
 obtain⟨z0,z1,z2,z3,z4,z5⟩:=h;exact ZyL
def og(h:p0/\ZaaM)(k:p0->ZaOG):G:=by
 obtain⟨z0,z1,z2,z3,z4,z5⟩:=h;exact ZyL
def rj(h:∃ a,ZeN/\Zga/\ZjQ/\Zoe/\q4 a)(k:∀ a,ZeN->Zga->ZjQ->Zoe->q4 a->G):G:=by
 obtain⟨z0,z1,z2,z3,z4,z5⟩:=h;exact ZyL
def cg(h:ZaQU)(k:#[gJ,Zdp->Zfs->ZjE->Zlf->G]):G:=by
 obtain⟨z0,z1,z2,z3,z4,z5⟩:=h;exact ZyL
def fA(h:ZaOH)(k:#[sF,Zfy->Zhj->Zii->G]):G:=by
 obtain⟨z0,z1,z2,z3,z4,z5⟩:=h;exact ZyL
def uI(h:∃ a,ZeN/\Zga/\ZjQ/\Zoe/\q4 a/\q5 a)(k:∀ a,ZeN->Zga->ZjQ->Zoe->q4 a->q5 a->G):G:=by
 obtain⟨z0,z1,z2,z3,z4,z5,z6⟩:=h;exact Zabl
def zd(h:ZaR9)(k:#[gJ,Zdp->Zfs->ZjE->Zlf->ZvG->G]):G:=by
 obtain⟨z0,z1,z2,z3,z4,z5,z6⟩:=h;exact Zabl
def iG(h:ZaQV)(k:#[sF,Zfy->Zhj->Zii->Zn1->G]):G:=by
 obtain⟨z0,z1,z2,z3,z4,z5,z6⟩:=h;exact Zabl
def kf(h:ZaSQ)(k:#[gJ,Zdp->Zfs->ZjE->Zlf->ZvG->ZQz->G]):G:=by
 obtain⟨z0,z1,z2,z3,z4,z5,z6,z7⟩:=h;exact Zabo
def fF(h:ZaR_)(k:#[sF,Zfy->Zhj->Zii->Zn1->Zwc->G]):G:=by
 obtain⟨z0,z1,z2,z3,z4,z5,z6,z7⟩:=h;exact Zabo
def vO(h:∃ a b c d,ZFn/\ZFo/\Zau'/\Zava)(k:∀ a b c d,ZFn->ZFo->Zau'->Zava->G):G:=by
 obtain⟨z0,z1,z2,z3,z4,z5,z6,z7⟩:=h;exact Zabo
def kJ(h:#[sE,Zfy/\Zhj/\Zii/\Zn1/\Zwc/\ZasN])(k:#[sF,Zfy->Zhj->Zii->Zn1->Zwc->ZasN->G]):G:=by
 obtain⟨z0,z1,z2,z3,z4,z5,z6,z7,z8⟩:=h;exact k z0 z1 z2 z3 z4 z5 z6 z7 z8
def tD(h:#[abA,Zn2/\Zn3/\Zn4/\Zn5])(k:#[abB,Zn2->Zn3->Zn4->Zn5->G]):G:=by
 obtain⟨z0,z1,z2,z3,z4,z5,z6,z7,z8⟩:=h;exact k z0 z1 z2 z3 z4 z5 z6 z7 z8
def fR(h:ZaSR)(k:#[abB,Zn2->Zn3->Zn4->Zn5->ZvH->ZvI->G]):G:=by
 obtain⟨z0,z1,z2,z3,z4,z5,z6,z7,z8,z9,z10⟩:=h;exact k z0 z1 z2 z3 z4 z5 z6 z7 z8 z9 z10
def gZ(h:∃ a b c d e f g h i,Zayq/\Zayr/\Zays)(k:∀ a b c d e f g h i,Zayq->Zayr->Zays->G):G:=by
 obtain⟨z0,z1,z2,z3,z4,z5,z6,z7,z8,z9,z10,z11⟩:=h;exact k z0 z1 z2 z3 z4 z5 z6 z7 z8 z9 z10 z11
def bf(h:ZaTI)(k:#[abB,Zn2->Zn3->Zn4->Zn5->ZvH->ZvI->ZQF->ZQG->ZQH->G]):G:=by
 obtain⟨z0,z1,z2,z3,z4,z5,z6,z7,z8,z9,z10,z11,z12,z13⟩:=h;exact k z0 z1 z2 z3 z4 z5 z6 z7 z8 z9 z10 z11 z12 z13
def kK[293]:ZaRn:=⟨z0,z1,z2,z3,z4⟩
def gU(z0:p0)(a:A)(b:B)(z3:Zdp)(z4:Zfs):p0/\Zamz:=⟨z0,a,b,z3,z4⟩
def dN[247](z3:ZjQ)(z4:Zoe):ZaQT:=⟨a,z1,z2,z3,z4⟩
def jD[247](b:B)(z4:Zdp):ZaAL:=⟨a,z1,z2,b,z4⟩
def au[63]:ZaaM:=#[aCe,z2]
def oq[72]:ZaDo:=#[aCe,c]
def jq[293](z5:p5):ZaSq:=⟨z0,z1,z2,z3,z4,z5⟩
def dC[247](b:B)(z4:Zdp)(z5:Zfs):#[RB,∃ b,Zamy]:=⟨a,z1,z2,b,z4,z5⟩
def bS[63](z5:Zlf):ZaQU:=#[aJ4,z2]
def jV[72](z5:Zii):ZaOH:=#[aJ4,c]
def gr(a:A)(z1:ZeN)[392](z5:ZFn)(z6:ZFo):#[PS,∃ b c d,ZFn/\ZFo]:=⟨a,z1,b,c,d,z5,z6⟩
def gu[372]:ZaR9:=⟨a,b,z2,z3,z4,z5,z6⟩
def eI[338]:ZaQV:=⟨a,b,c,z3,z4,z5,z6⟩
def f8[372](z7:ZQz):ZaSQ:=#[aSy,z2]
def gf[338](z7:Zwc):ZaR_:=#[aSy,c]
def eJ(a:A)[392][80]:ZaSR:=⟨a,b,c,d,e,z5,z6,z7,z8,z9,z10⟩
def bQ(a:A)[392][80](z11:ZQF)(z12:ZQG)(z13:ZQH):ZaTI:=⟨a,b,c,d,e,z5,z6,z7,z8,z9,z10,z11,z12,z13⟩
#where
set_option maxRecDepth 100000
def X5:=@PySem.wpAny_bind
def X6:=@PySem.Heap.get?_push_of_some
def X7:=@List.length_map
def X8:=@if_neg
def X9:=@decide_eq_false
def Ya:=@Nat.le_refl
def Yb:=@if_pos
def Yc:=@decide_eq_true
def Yd:=@List.getElem?_eq_some_iff
def Ye:=@List.mem_cons_self
def Yf:=@PySem.Heap.lt_size
def Yg:=@PySem.wpAny_pure
def Yh:=@List.mem_cons_of_mem
def Yi:=@List.getElem?_eq_getElem
def Yj:=@List.mem_singleton
def Yk:=@Option.some.inj
def Yl:=@Bool.false_ne_true
def Ym:=@PySem.Heap.get?_push_size
def Yn:=@List.mem_cons
def Yo:=@Nat.ne_of_lt
def Yp:=@List.mem_append
def Yq:=@List.size_toArray
def Yr:=@List.length_append
def Ys:=@List.map_cons
def Yt:=@PySem.W.mg_of
def Yu:=@List.map_append
def Yv:=@List.mem_append_right
def Yw:=@Nat.lt_of_lt_of_le
def Yx:=@PySem.Paired.length
def Yy:=@List.mem_of_getElem?
def Yz:=@Ne.symm
def YA:=@PySem.wpAny_mono
def YB:=@Nat.zero_le
def YC:=@List.getElem?_map
def YD:=@List.mem_map
def YE:=@Option.toList_some
def YF:=@List.length_cons
def YG:=@List.take_add_one
def YH:=@List.length_drop
def YI:=@List.lookup_cons
def YJ:=@List.take_length
def YK:=@PySem.W.mg_none_of
def YL:=@List.length_take
def YM:=@List.mem_filter
def YN:=@List.nodup_cons
def YO:=@PySem.wpAny_holding
def YQ:=@PySem.wpAny_Call_Name_kw
def YR:=@PySem.Heap.size_push
def YS:=@Array.length_toList
def YT:=@List.all_eq_true
def YU:=@Nat.le_trans
def YV:=@PySem.wpAny_field
def YW:=@List.length_singleton
def YX:=@Nat.ne_of_gt
def YY:=@PySem.Heap.get?_update_other
def YZ:=@beq_eq_false_iff_ne
def Y0:=@List.mem_range
def Y1:=@of_decide_eq_true
def Y2:=@PySem.Calls.spliced_cons
def Y3:=@List.getElem?_of_mem
def Y4:=@Bool.and_eq_true
def Y5:=@PySem.Heap.get?_update_self
def Y6:=@PySem.sizeLine_eq
def Y7:=@List.map_map
def Y8:=@PySem.F.plainAttrs_list
def Y9:=@List.find?_cons
def Za:=@PySem.wpAny_newObj_type
def Zb:=@PySem.wpAny_standAt
def Zc:=@PyProof.Rows.callWith_type1
def Zd:=@List.append_nil
def Ze:=@PySem.codeAny_mono
def Zf:=@List.drop_drop
def Zg:=@PySem.boot_len
def Zh:=@PySem.F.slot_list_append
def Zi:=@PySem.F.type_list_append
def Zj:=@PySem.mem_of_lookup
def Zk:=@List.mem_map_of_mem
def Zl:=@List.nodup_nil
def Zm:=@List.getD_eq_getElem?_getD
def Zn:=@PySem.Calls.evalArgs_plain
def Zo:=@Nat.lt_succ_of_lt
def Zp:=@congrArg
def Zq:=@List.zip_cons_cons
def Zr:=@PySem.wpAny_callSpecial?_slot
def Zs:=@PySem.Calls.callWith_builtin
def Zt:=@Option.map_eq_some_iff
def Zu:=@PySem.Calls.spliced_nil
def Zv:=@List.nodup_append
def Zw:=@decide_eq_true_eq
def Zx:=@PySem.PassesOwn.leaving
def Zy:=@List.map_congr_left
def Zz:=@List.getElem?_append_left
def ZA:=@PySem.PassesOwn.never
def ZB:=@List.length_filter_le
def ZC:=@PySem.builtinLookup_eq_fast
def ZD:=@PySem.wpAny_call_entry
def ZE:=@List.filter_cons
def ZF:=@Nat.lt_of_le_of_lt
def ZG:=@List.any_cons
def ZH:=@beq_iff_eq
def ZI:=@PySem.wpAny_call
def ZJ:=@PySem.wpAny_seqItems
def ZK:=@PySem.wpAny_truthy_bool
def ZL:=@List.getElem_of_mem
def ZM:=@Nat.lt_irrefl
def ZN:=@List.getElem?_append_right
def ZO:=@Array.getElem?_eq_some_iff
def ZP:=@decide_eq_decide
def ZQ:=@if_true
def ZR:=@PySem.Obj.data_mapFields
def ZS:=@Array.getElem?_eq_getElem
def ZT:=@List.mem_append_left
def ZU:=@Option.isSome_iff_exists
def ZV:=@PySem.wpAny_newFunctionEnv
def ZW:=@List.append_assoc
def ZX:=@PySem.F.plainAttrs_dict
def ZY:=@PySem.F.plain_extend_loop
def ZZ:=@List.take_of_length_le
def Z0:=@PySem.wpAny_pyIter_tuple
def Z1:=@List.filter_append
def Z2:=@PySem.wpAny_passesOwn
def Z3:=@List.foldl_cons
def Z4:=@PySem.F.slot_dict_get
def Z5:=@PySem.typeLookup_type
def Z6:=@Nat.min_eq_left
def Z7:=@PySem.F.excBase_ValueError
def Z8:=@List.sum_cons
def Z9:=@PySem.F.slot_tuple_iterator_next
def aQa:=@List.foldl_append
def aQb:=@List.length_range
def aQc:=@List.drop_eq_getElem_cons
def aQd:=@Nat.le_succ
def aQe:=@PySem.wpAny_setField
def aQf:=@List.take_zero
def aQg:=@Nat.lt_succ_self
def aQh:=@PySem.F.called_set
def aQi:=@List.getElem?_range
def aQj:=@PyProof.Rows.boot_tuple
def aQl:=@List.forIn_cons
def aQm:=@PySem.wpAny_ite_split
def aQn:=@PySem.wpAny_updateSeq
def aQo:=@PySem.F.slot_zip_next
def aQq:=@List.not_mem_nil
namespace L2
open PySem PySem.Spec PyProof.Rows
noncomputable abbrev cZ:=Sum Int Str
abbrev Cs:cZ->ZbR->ZbB
 | ZEI,v=>ZaUb k v
 | ZE2,v=>Value.isStrOf x v
abbrev WC (w:World):cZ->Int
 | ZEI=>hashInt k
 | ZE2=>hashStr w x
def c9:∀ {k:cZ}[310],Cs k v=Zad->(∃ i t,k=Zdr i/\v=ZPU)\/(∃ x t,k=ZhB x/\v=ZPP)
 | Zal i,v,h=>by
  obtain⟨t,e⟩:=Value.isInt_shape (k:=i) (v:=v) h;exact Zal #[rn,i,t,e]
 | ZE2,v,h=>by
  obtain⟨t,e⟩:=Value.isStrOf_shape (x:=x) (v:=v) h;exact #[ls,x,t,rfl,e]
def KR (i:Int)(t:Tok):#[aLG,Cs]:=by simp[Cs,Value.isInt]
def KS [373]:#[aLH,Cs]:=by simp[Cs,Value.isStrOf]
def SG [159]:#[AW,ZaBL,(a == b)]:=by
 by_cases e:a=b
 ·subst e;simp
 ·have h:¬ ZaBL:=#[a9,e (Zy2 q)]
  rw[X9 h];exact (ZhC e).symm
def SL (a b:Str):#[AW,ZaCB,#[AV,a=b]]:=by
 by_cases e:a=b
 ·subst e;simp
 ·have h:¬ ZaCB:=#[a9,e (ZIv q)]
  rw[X9 h,X9 e]
def SI (a:Int)(b:Str):#[AY,ZBP=ZhB b]:=X9 (fun q=>nomatch q)
def SJ (a:Str)(b:Int):#[AY,#[apy,Zdr]]:=X9 (fun q=>nomatch q)
abbrev bv [248]:PySem.KeyKind ZiH w cZ where
 is:=Cs
 hash:=WC w
 inj:=fun v a b ha hb=>by
  rcases c9 ha with ⟨i,t,rfl,rfl⟩ | ⟨x,t,rfl,rfl⟩
  ·rcases c9 hb with ⟨j,u,rfl,e⟩ | ⟨y,u,rfl,e⟩
   ·injection e with e1 _;rw[e1]
   ·exact nomatch e
  ·rcases c9 hb with ⟨j,u,rfl,e⟩ | ⟨y,u,rfl,e⟩
   ·exact nomatch e
   ·injection e with e1 _;rw[e1]
 byValue:=fun k v h=>by
  rcases c9 h with ⟨i,t,rfl,rfl⟩ | ⟨x,t,rfl,rfl⟩<;>rfl
 pyHash:=fun hv h=>by
  rcases c9 hv with ⟨i,t,rfl,rfl⟩ | ⟨x,t,rfl,rfl⟩
  ·exact wpAny_pyHash_int h
  ·exact wpAny_pyHash_str h
 eqBool:=fun hu hv h=>by
  rcases c9 hu with ⟨i,t,rfl,rfl⟩ | ⟨x,t,rfl,rfl⟩
  ·rcases c9 hv with ⟨j,u,rfl,rfl⟩ | ⟨y,u,rfl,rfl⟩
   ·rw[SG]at h;exact wpAny_eqBool_int h
   ·rw[SI]at h;exact ZaUd i t y u _ _ _ _ h
  ·rcases c9 hv with ⟨j,u,rfl,rfl⟩ | ⟨y,u,rfl,rfl⟩
   ·rw[SJ]at h;exact ZaUe x t j u _ _ _ _ h
   ·rw[SL]at h;exact wpAny_eqBool_str h
 «strs»:=fun k x t v h=>by
  rcases c9 h with ⟨i,u,rfl,e⟩ | ⟨y,u,rfl,e⟩
  ·exact nomatch e
  ·injection e with e1 _
   subst e1;cases v<;>rfl
def FG [248](i:Int)(t:Tok):#[aLG,ZaDp]:=KR i t
def fJ [248][373]:#[aLH,ZaDp]:=KS x t
inductive V where
 | non | bl (b:Bool) | int (i:Int) | str [206] | byt (b:Zasz) | flt (b:UInt64) | ref [88] | ty (n:String)
 deriving DecidableEq
abbrev bo:#[cd,V,ZbR]
 | ZaJ,u=>Zavb
 | ZES,u=>u=ZabC b
 | ZjN,u=>ZavN
 | ZTu,u=>ZavM
 | .byt b,u=>∃ t,u=ZaUf b t
 | .flt b,u=>∃ t,u=ZaUg b t
 | Zcm,u=>ZMV
 | .ty n,u=>Za2K
noncomputable abbrev bw:#[cd,Zbg,ZbS]:=Za3 bo
def bw.length [374](r:ZfC):Zayv:=Zj0
def bw.get:∀ [374]{i:Nat}{x:V},ZfC->ZKD->∃ u,ZaBf/\Zlt
 | _,_,_,_,Zao,e=>by simp at e
 | _,_,0,_,ZaD r _,e=>by simp at e;subst e;exact ZS_
 | _,_,i+1,x,ZYD,e=>by
  refine ak (bw.get (i:=i) (x:=x) t (Zy3)) fun u h1 h2=>?_;exact ⟨u,(ZIw),h2⟩
def bw.append:∀ {xs ys:Zbg}{us ws:ZbS},ZfC->bw ys ws->bw (xs++ys) (us++ws)
 | _,_,_,_,Zao,s=>s
 | _,_,_,_,ZlQ,s=>ZaD r (ZaUh t s)
def bw.take:#[aON,xs.take,us.take]
 | _,_,0,_=>Zao
 | _,_,_+1,Zao=>Zao
 | _,_,n+1,ZlQ=>ZaD r (bw.take n t)
def bw.drop:#[aON,ZabD,us.drop]
 | _,_,0,r=>r
 | _,_,_+1,Zao=>Zao
 | _,_,n+1,ZYD=>bw.drop n t
abbrev mZ:#[cd,ZgG,Zm4]
 | ZjV,ZSw=>Zep
 | none,none=>True
 | _,_=>False
abbrev KV {κ:ZfK}:#[cd,Zj3,#[v4,κ]]:=Za3 fun (p:κ×V)(q:κ×ZbR)=>p.1=q.1/\ZayH
abbrev kV:cZ->V
 | Zal i=>ZjN
 | ZE2=>ZTu
inductive HO where
 | lst [36]
 | tup [36]
 | dK [240] | dT (kvs:ZrV)
 | set [346]
 | ins (C dx:Addr)[241]
 | own (x:Addr)
 | xd [241]
 | met (f x:Addr)
 | rng (lo hi:Int)
 | frz (o:Obj)(u:HO)
 | tbl (ps:Zhz)
 | ext (φ:Zat_)
noncomputable abbrev Hp:=Zcq->Zar0
abbrev upd [375](o:HO):Hp:=fun b=>#[ek,b=a,o,H b]
def ac [42][339]:#[aQ,H,a,o,a,o]:=by unfold upd;rw[Zav]
def ah [199]{o:HO}(h:ZwT):upd H a o b=H b:=by unfold upd;rw[Zco]
def o9 [42][54]{o u:HO}:upd Zn6 a u=upd H a u:=by
 funext b;unfold upd;split<;>rfl
def jR [199]{o u:HO}(h:ZlI)(h':#[b9,u])(d:o≠u):Zj8:=by
 intro e;subst e;rw[h]at h';exact d (Yk h')
def ao [199]{o:HO}(h:ZlI)(h':ZbW):Zj8:=by
 intro e;subst e;rw[h]at h';cases h'
abbrev qd [130][88][219]:Zaa:=∃ o,ZDs/\ZvP/\∃ n,(ZfM,o.dict)=(Data.seq ZfN n,(Zac:ZgH))
def qd.old [150][54]{items:Zhz}(x:qd h a ZfN):Zy4 h a ZfN:=let ⟨o,e,c,n,d⟩:=x;(jD o e c n (#[asn,d]))
def qd.new [130][219]:qd (Zy5 #[Q5,ZfN]) Zkf ZfN:=ZPZ
section
variable (P:Program)(w:World)
abbrev cD [33][130][88]:HO->Zaa
 | ZaI xs=>#[ayR,Zwr/\#[lc,Zapx]]
 | Zbb xs=>#[PJ,∃ e_:ZbS,Zwr/\qd h a Zci]
 | .dK kvs=>Za4b
 | .dT kvs=>ZqH/\Zabz/\∃ xs:ZakH,
   Za3 (fun (p:Zg_×V)(q:Zg_×ZakG)=>ZaPs) kvs xs /\
   ∃ o es ep,ZDs/\o.ExactDict/\ZfM=Ze4 es ep/\es.toList=Zo5 (entryOfKey (ZIx Zhd))/\(xs.map (·.1)).Nodup
 | ZY3=>h.SetOf Zafo a S n
 | Zde C dx fs=>Zazw/\Zd6<=ZbY/\dx≠a/\#[lc,Zamg] /\
   ∃ mA,ZZX/\ZaAW/\PySem.Within mA (fs.map (·.1))
 | Zes _=>ZaqN
 | .xd fs=>∃ mA,h.Ns1 a mA/\∀ f,Zap8
 | .rng lo hi=>∃ t u v,ZcG a=some { cls:=ZsB,data:=ZaL #[Zht,Zhv,Zr_] }
 | Zkg o u=>ZDs/\cD H h a u
 | Zd7 ps=>ZavS
 | ZsG f x=>#[lc,#[Wu,Zli]]
 | ZsH φ=>φ h/\(ZaqN)/\∀ h1 h2:ZsI,φ h1->(∀ o,#[h6,ZIy]->#[h6,ZsJ])->φ h2
abbrev nE [33][130]:Zaa:=#[l1,ZlI->ZFU]
#where
section
variable {P:Program}{w:World}{H H':Hp}{h h':Heap}{a:Addr}{o:HO}
def cD.lt (x:ZFU):Zaxd:=by
 cases o with
 | lst xs=>obtain⟨_,_,_,_,e⟩:=x;exact ZcD
 | tup xs=>obtain⟨_,_,_,p⟩:=x;exact p.old.lt
 | dK kvs=>obtain⟨_,_,_,_,o,_,_,e,_⟩:=x;exact ZcD
 | dT kvs=>obtain⟨_,_,_,_,o,_,_,e,_⟩:=x;exact ZcD
 | set S n=>obtain⟨o,_,_,_,e,_⟩:=x;exact ZcD
 | ins C dx fs=>obtain⟨_,_,_,e,_⟩:=x;exact ZcD
 | own y=>obtain⟨_,e⟩:=x;exact ZcD
 | xd fs=>obtain⟨_,⟨_,_,_,e,_⟩,_⟩:=x;exact ZcD
 | rng lo hi=>obtain⟨_,_,_,e⟩:=x;exact ZcD
 | frz ob u=>obtain⟨e,_⟩:=x;exact ZcD
 | tbl ps=>exact ZaEr
 | met f y=>exact ZaEr
 | ext φ=>obtain⟨_,⟨_,e⟩,_⟩:=x;exact ZcD
def Paired.mapP [340]:#[aOP,#[gJ,ZEC->G a b]]
 | _,_,Zao,_=>Zao
 | _,_,ZlQ,f=>ZaD (f _ _ r) #[p',t,f]
def cD.stay (x:ZFU)(k:#[kh,(b=a\/ZatE)->#[k3,ZcG]->ZvM])
  (ho:∀ b,ZatE->#[jD,ZPt]) (ht:ZHS):cD P w H' h' a o:=by
 induction o with
 | lst xs=>obtain⟨z,e_,n,r,e⟩:=x;exact gU z e_ n r ZZM
 | tup xs=>obtain⟨z,e_,r,ob,e,c⟩:=x;exact ⟨z,e_,r,⟨ob,Zoo,c⟩⟩
 | dK kvs=>obtain⟨z,y,vs,r,ob,es,ep,e,c⟩:=x;exact #[aSS,vs,r]
 | dT kvs =>
  obtain⟨z,y,xs,r,ob,es,ep,e,c⟩:=x;exact #[aSS,xs,#[p',r,fun p q z=>ZaOL]]
 | set S n=>obtain⟨ob,es,ep,t,e,c⟩:=x;exact ⟨ob,es,ep,t,Zoo,c⟩
 | ins C dx fs =>
  obtain⟨d,z,ne,e,mA,⟨od,es,ep,e2,c⟩,r⟩:=x;exact kK (ho _ d) z ne ZZM #[aQX,(k _ _ (Zaq d) e2)]
 | own y=>obtain⟨ob,e⟩:=x;exact⟨ob,Zoo⟩
 | xd fs=>obtain⟨mA,⟨od,es,ep,e,c⟩,r⟩:=x;exact #[aQX,ZZM]
 | rng lo hi=>obtain⟨t,u,v,e⟩:=x;exact ⟨t,u,v,Zoo⟩
 | frz ob u ih=>obtain⟨e,q⟩:=x;exact⟨Zoo,ih q⟩
 | tbl ps =>
  have e:ZavS:=x
  show #[Ot,Zao1]
  exact ZaMm
 | met f y =>
  have e:#[lc,#[Wu,#[ak,y]]]:=x
  show #[Ot,#[Wu,#[ak,y]]]
  exact ZaMm
 | ext φ=>obtain⟨p,⟨o,e⟩,st⟩:=x;exact ⟨(st _ _ p fun o q=>k _ _ Zf' q),#[ft,Zoo],st⟩
def nE.lt [249](e:ZlI):Zaxd:=#[V5,0].lt
def nE.fresh [249](e:ZaDh):ZnC:=by
 cases q:H a with
 | none=>rfl
 | some u=>exact Zdf (Yw (x.lt q) e) ZCl
def nE.kept [249][57]:#[qM,h']:=fun a o e =>
 #[V5,0].stay (fun b u _ q=>ZB9) (Zvj) ZIZ
def nE.laid [249][424](new:cD P w Zn6 h' a o):nE P w Zn6 h':=fun b u e=>by
 have hn:=x.fresh hp
 by_cases hb:b=a
 ·subst hb;rw[ac]at e;cases e;exact new
 ·rw[Zen]at e
  exact #[aPV,x]
#where
abbrev Rd [375](u:HO):Zaa:=#[dY,u]\/∃ o,#[dY,Zvc]
def Rd.of [42][54]{u:HO}(h:#[dY,u]):ZZL:=ZoA
def Rd.ok [311][54]{u:HO}(r:ZZL)[249]:#[nS,u]:=by
 rcases r with r | ⟨o,r⟩
 ·exact x a u r
 ·obtain⟨_,q⟩:=x a _ r
  exact q
abbrev UC:Zar0->Zaa
 | #[rt,ZaI]=>True
 | #[rt,.dK]=>True
 | #[rt,.dT]=>True
 | Zab (ZgK _ _)=>True
 | Zab #[nJ,Zde]=>True
 | #[rt,ZsH]=>True
 | _=>False
section
variable {P:Program}{w:World}{H:Hp}{h h':Heap}{x e:Addr}{o':HO}
def nE.write (ok:ZF4)(mu:ZX0)(he:ZalR)(k:ZaCs)(heo:ZZ0)
  (new:cD P w ZaE4 h' x o'):nE P w ZaE4 h':=fun b u q=>by
 have bv8:∀ c y,#[aK,c,(Zes y)]->c≠x:=fun c y r z=>by subst z;rw[r]at mu;exact mu
 have cz1:∀ c xs,#[aK,c,ZeQ]->c≠x:=fun c xs r z=>by subst z;rw[r]at mu;exact mu
 by_cases hb:b=x
 ·subst hb;rw[ac]at q;cases q;exact new
 ·rw[Zen]at q
  by_cases hbe:b=e
  ·have q':#[b9,ZalQ]:=by
    rcases he with z | z
    ·exact #[g4,hbe.trans,z,hb]
    ·rw[hbe];exact z
   rw[q]at q';cases q';obtain⟨v,hv⟩:=heo;exact#[wB,v,hbe,hv]
  ·refine (ok b u q).stay (ZaDB) (fun c r=>#[aOR,bv8,b]) fun c xs r=>#[aOR,cz1,xs]
   rcases hc with rfl | hc
   ·exact hbe
   ·rintro rfl
    rcases he with z | z
    ·exact bv8 c b hc z
    ·rw[hc]at z;cases z;exact hb rfl
#where
structure Un (fs ex:Zcr)[250](h h':Heap):Zaa where
 keep:#[aJm,b∉fs,Zd9]
 slot:#[aJm,Zw8,Zawj]
 free:#[hh,Zho,ZbW,ZQI,Zui]
 there:#[p2,ZcG,b∉ex,Zaus]
 tups:ZHS
 frzs:ZaKT
 tbls:ZaQZ
section
variable {fs fs' ex ex':Zcr}{H H1 H2:Hp}{h h1 h2 h':Heap}{a x e:Addr}{o:HO}
def Un.any [449][124]{ob:Obj}(q:ZcG b=Zab ob)(n:ZbW)(hx:ZQI):∃ sl,ZIy b=Zab { ob with slots:=sl }:=by
 by_cases hb:Zw8
 ·exact u.slot b ob q n hb hx
 ·exact⟨ZaUj,Zy6 b ob q n hb hx⟩
def Un.trans (a:ZaG_)(b:Un fs ex H1 H2 h1 h2):#[re,H2,h2] where
 keep:=fun c ob q n hc hx=>b.keep c ob (a.keep c ob q n hc hx) ZaaZ hc hx
 slot:=fun c ob q n hc hx=>by
  obtain⟨sl,e1⟩:=a.slot c ob q n hc hx;obtain⟨sl',e2⟩:=b.slot c _ e1 ZaaZ hc hx;exact ZaDx
 free:=fun c ob q n hx=>by
  obtain⟨o',e1⟩:=ZaN9;exact b.free c o' e1 ZaaZ hx
 there:=fun c ob q hx=>by
  obtain⟨o',e1⟩:=ZaN9;exact b.there c o' e1 hx
 tups:=#[abE,b.tups c xs (a.tups c xs q)]
 frzs:=fun c ob xs q=>b.frzs c ob xs (a.frzs c ob xs q)
 tbls:=fun c ps q=>by
  obtain⟨m1,e1⟩:=a.tbls c ps q;obtain⟨m2,e2⟩:=b.tbls c _ e1;exact ZH'
def Un.kept [57]:#[re,H,h'] :=
 ⟨#[aUk,ZU_],#[aUk,⟨ZaUj,ZU_⟩],fun _ _ _ n _=>n,fun b ob q _=>⟨ob,ZU_⟩,ZIZ,fun _ _ _ q=>q,fun _ ps q=>⟨#[],#[e5,q]⟩⟩
def Un.refl:#[re,H,h]:=ZabF ZIZ
def Un.laid [424](hn:ZnC):#[re,Zn6,h'] where
 keep:=Za3S
 slot:=Za3T
 free:=#[Iz,#[aiY,(Yw (Yf q) hp),n]]
 there:=ZabI
 tups:=ZaqR
 frzs:=ZaqS
 tbls:=fun b ps q=>⟨#[],ZaA_⟩
def Un.write (mu:ZX0)(he:ZalR)(k:ZaCs)(heo:ZZ0):#[re,ZUK,h']:=by
 have hx:#[Fq,ZrG]:=fun b n z=>by subst z;rw[n]at mu;exact mu
 have hb:#[Fq,ZnY]:=fun b n z=>by
  subst z;rcases he with r | r
  ·exact hx b n r
  ·rw[n]at r;cases r
 have hm:#[kh,#[b9,u]->¬ UC (Zab u)->ZrG]:=fun b u q nm z=>by subst z;rw[q]at mu;exact nm mu
 refine⟨#[aUl,ZaIK],#[aUl,⟨u.slots,ZaIK⟩],#[aqQ,ah (hx b n)],#[abH,?_],
  #[IA,ZavO],#[abJ,ZavO],fun b ps q=>⟨#[],by rw[Zaqh,q];simp⟩⟩
 by_cases hbe:b=e
 ·subst hbe;exact heo
 ·exact⟨u,k b u hbe q⟩
def Un.mono [449](hs:∀ b∈fs,b∈fs')(hx:∀ b∈ex,b∈ex'):Un fs' ex' H H1 h h1 :=
 ⟨fun b ob q n hb he=>Zy6 b ob q n #[bx,hb (hs b z)] ZZ1,fun _ _ q n _ he=>u.any q n #[aV,he (hx _ z)],fun b ob q n he=>ZIB b ob q n ZZ1,fun b ob q he=>ZIC b ob q ZZ1,u.tups,u.frzs,u.tbls⟩
#where
abbrev V3 [130][33]:Zcr:=#[dJ,ZUB] fun a=>#[hD,(H a)]
abbrev Ds [130][33]:Heap:=ZID h (V3 h H)
def KP [130][33]:#[l2,(Ds h H)]=Zkf:=ZaUm _ _
def zr [150][42][313][312](n:ZbW):ZarW :=
 PySem.W.hideAll_get _ e fun hm=>by
  have q:#[k1,(H b)]:=(Zl3 hm).2;rw[n]at q;simp at q
def Qa [150][42][313](e:ZarW):Zho/\ZbW:=by
 have e':Zho:=ZaUn (V3 h H) e;refine#[bF,e']
 cases q:H b with
 | none=>rfl
 | some x =>
  have hm:b∈V3 h H:=#[aep,ZhE (Yf e'),by simp[q]];have z:#[g3,ZanO]:=ZIE (V3 h H) hm;rw[z]at e;cases e
structure Mod [13](base:Heap):Zaa where
 kin:Zl4 ZaP
 glob:ZakI
 blt:∃ mb,base.Ns Zy7 mb/\Za3s
 nolimit:base.NoLimit
structure Cx where
 prog:Program
 w:World
 K:PySem.W.Frag
 mg:Zm5
 base:Heap
 A:Around
 N:Zbe
 s₀:Shared
 H₀:Hp
 env:Env
 outer:ZbA
 stack:ZbA
 ex:Zcr
 fn:Str->ZbB
 calm:Bool
 pn:ZdT
 xe:Zfh
abbrev gT (l:ZbA):Zcr:=l.filterMap (·.frame)
noncomputable abbrev Cx.fs [81]:Zcr:=gT ZsK
abbrev UJ [393][206]:Zaa:=ZPB\/ZPH\/#[lg,Zo6]
abbrev LX [393][206]:Zaa:=ZaoP
abbrev Wg (env:Env)[130](m:Zm5)[206](u:Value):Zaa :=
 (#[BB,ZIF]/\#[bD,m,u])\/((#[u4,ZIF]\/#[lg,ZIF])/\∃ c,ZQO/\h.IsCell c (Zab u))
structure Cx.Ok [81]:Zaa where
 mod:Zaz_
 kind:ZaUp=ZsM
 glob:ZaUr=Zki
 blt:X.env.builtins=Zy7
 above:#[aUw,Zcj]
 inj:∀ x y c,ZT5->#[OA,c]->x=y
 has:∀ x,(#[u4,ZabK]\/#[lg,ZabK])->#[D3,Zy8]
 cab:∀ x c,ZNO->ZT5->#[aUw,c]
 hd:Ze0->Zxd
 frames:ZaUt=Zab Zc1
 stk:Zc1=ZsK\/(ZsL/\Zsh)
 exf:∀ b∈X.ex,ZPp/\#[y9,c≠b]
 bs:#[II,#[a4,Zo7]/\Zatp]
 bsz:X.base.objs.size<=ZaUv
 noex:#[II,Zakq]
 exfs:∀ b∈X.ex,ZE0
 funs:#[ayu,ZsK]
 frf:∀ b∈X.fs,Zatp
structure aS [81][15](σ:ZUD)[33][135]:Zaa where
 ok:X.Ok
 os:s.os=X.s₀.os
 bare:ZavU
 base:Un Zkj Zo8 Zy_ H X.s₀.heap ZaE
 loc:∃ m,ZaGk/\∀ [207][206](v:V),Zgz->ZaBh->Zagj->∃ u,Zep/\Wg ZaG ZaE m x u
 cell:#[y9,∃ v,ZaBx]
 free:#[a_,Zcj]
 freeC:#[y9,#[a_,c]]
 pin:∀ p∈ZNS,ZaS6
 hok:#[aGp,ZaE]
 len:ZIG=ZaUz
section
variable {X:Cx}{pins:ZdT}{σ:ZUD}{H H':Hp}{s:Shared}{h':Heap}
def Cx.Ok.nofr (ok:X.Ok)[313](e:#[a4,ZIH]):ZE0:=fun hb=>by
 have:=(ok.funs.mem hb).1;rw[e]at this;cases this
def aS.bs [2]:#[II,ZaA8]:=fun b o e =>
 ⟨ZIJ b o ZawJ #[cA,Zy'].2 (I.ok.nofr e) ZatA,Zza b o ZawJ #[cA,Zy'].2 ZatA⟩
def aS.bk [2]:#[II,Zch]:=#[alt,I.bs]
def aS.mod [2]:Zaz_:=I.ok.mod
def aS.kIn [2]:ZabL ZaE:=I.ok.mod.kin.keeps I.bk
def aS.lt [2]:#[dc,Zcj]:=let ⟨_,hn,_⟩:=I.loc;hn.lt
def aS.sz [2]:#[aUw,Zar]:=YU Zo9 (Zzb I.lt)
def aS.nofs [2][54](h:#[rl,a]):a∉Zkj:=fun hb=>by
 refine ZaB2;exact #[dg,(Yw (Yf ho) (YU I.sz h)),ZCl]
def aS.cne [2]:#[y9,c≠Zcj]:=fun x c e z=>by
 refine ZaMK;refine Zakf;obtain⟨o',es,ep,ho',hd',_⟩:fA:=a_;rw[z,ho']at ho;cases ho;rw[hd']at hd;cases hd
def aS.funs [2]:#[ack,ZsK]:=by
 have all:∀ (l:ZbA),(∀ b∈gT l,ZasO)->#[ayu,l]->#[ack,l]:=by
  intro l
  induction l with
  | nil=>intro _ _;trivial
  | cons env r ih =>
   intro hs hl;obtain⟨hk,a_,hr⟩:fz:=hl;obtain⟨L,o,hf,hn,ho,hd⟩:cg:=a_;have hL:L∈Zkj:=hs L (by unfold gT;rw[List.filterMap_cons,hf];exact Ye);obtain⟨sl,e⟩:=ZIK L o ho (Zzc L hL) hL #[aV,ZIM L z hL];exact ⟨hk,bS L _ hf hn e hd,(ih (fun b hb=>hs b (by unfold gT;rw[List.filterMap_cons,hf];exact Yh _ hb)) hr)⟩
 exact all ZsK (fun _ hb=>hb) ZabM
def aS.stack [2]:#[ack,Zc1]:=by
 rcases I.ok.stk with e | ⟨e,hf⟩
 ·rw[e];exact I.funs
 ·rw[e]
  refine Zawx;refine ZaD (#[sO,ZhF]) hf hn ?_ I.funs;exact ZabN (YU Zzd Zo9)
def aS.stkSub [2]:#[R9,b∈Zcj::Zkj]:=fun b hb=>by
 rcases I.ok.stk with e | ⟨e,hf⟩
 ·rw[e]at hb;exact Yh _ hb
 ·rw[e]at hb
  unfold gT at hb;rw[List.filterMap_cons,hf]at hb;exact hb
def aS.stkFree [2]:#[R9,ZbW]:=fun b hb=>by
 rcases ZaGa with e | hb
 ·rw[e];exact I.free
 ·refine ZaB2
  exact Zza b o ho #[dy,Zzc] #[aV,ZIM b z hb]
def aS.step {g':ZTd}{t':Nat}{d':Drawn}{ch:Zcr}(I:ZhY)
  (hch:ZaUy)
  (keep:#[aMn,ZE0,Zd9])
  (slot:#[aMn,ZasO,Zawj]) (free:#[hh,ZDn,Zch,ZbW,Zui])
  (there:#[p1,ZDn,Zch,Zaus])
  (tups:ZHS) (frzs:ZaKT) (tbls:ZaQZ)
  (ns:∀ m,ZaGk->h'.Ns Zcj m) (hok:ZajP) (hg:ZavV) :
  ZaRv:=by
 have neL:#[akE,Zo7]:=Zyz
 have neC:#[p2,Zo7,b∉Zo8,ZDn]:=fun b o e hx hb=>by
  rcases #[qb,hch] with z | z
  ·exact hx z
  ·exact #[Cm,Zqa,z]
 have cellK:#[y9,∀ v,ZaBx->h'.IsCell c v]:=fun x c e v ⟨o,ho,hd⟩=>by
  have nch:c∉ch:=#[aV,ZaQC]
  by_cases hc:c∈Zkj
  ·obtain⟨sl,q⟩:=#[aRZ,slot]
   exact #[c8,q,hd]
  ·exact ⟨o,#[aRZ,Zcs],hd⟩
 refine⟨ZsP,Zo_,hg,#[CS,Za20,Za20,ZanP,fun b xs e=>tups b xs (ZabO b xs e),fun b o xs e=>frzs b o xs (ZabP b o xs e),fun b ps e=>?_],?_,Zad7,?_,Zad7,ZvF,hok,ZsQ⟩
 ·exact Zcs b o ZatB hb ZHJ (ZIJ b o e n hb hx) ZVI
 ·obtain⟨sl,e1⟩:=ZIL
  obtain⟨sl',e2⟩:=slot b _ ZatB hb ZHJ e1 ZVI;exact ZaDx
 ·obtain⟨o',e1⟩:=ZJS
  exact ZsR b o' ZHJ e1 ZVI
 ·obtain⟨o',e1⟩:=ZJS
  exact there b o' ZHJ e1
 ·obtain⟨m1,e1⟩:=Za4l
  obtain⟨m2,e2⟩:=tbls b _ e1;exact ZH'
 ·refine ZN3
  refine #[bm,m,ns m hn,fun i x v e1 e2 e3=>?_];refine #[ZU,e1,e2,e3];refine #[br,u,r];rcases l with l | ⟨k,c,e,z⟩
  ·exact Zal l
  ·exact #[ls,k,c,e,cellK x c e _ z]
 ·obtain⟨v,z⟩:=ZiI x c e
  exact⟨v,cellK x c e v z⟩
 ·refine Zakf;obtain⟨o,_,_,ho,_⟩:im:=a_
  exact ZsR _ o #[bx,ZaEO rfl] ho Zo'
 ·refine ZaMK
  exact ZsR c o #[bx,ZaQC] ho ZQX
 ·refine ZIa
  have nch:p.1∉ch:=#[aV,(hch p.1 z).2.2.2 p hp rfl];exact kK (Zcs p.1 p.2 ne nf nch e n) (ZsR p.1 p.2 nch e n) ne nf d
def aS.un {t':Nat}[2](u:#[aN3,H',h'])(hok:ZajP):Zavf:=by
 refine ZazO;obtain⟨o,es,ep,ho,r⟩:im:=a_;obtain⟨sl,hL⟩:=#[aKE,ZaN]
 exact I.step (g':=s.gens) (d':=s.drawn) (ch:=[]) (fun _ z=>nomatch z) #[aKU,Zy6] #[aKU,u.slot] (fun b o _ e n=>ZIB b o e n ZaN) (fun b o _ e=>ZIC b o e ZaN) u.tups u.frzs u.tbls (fun m' hm=>by
  obtain⟨o',es',ep',ho',r'⟩:im:=hm;rw[ho]at ho';cases ho'
  exact ZaRC) hok I.bare
def aS.call {g':ZTd}{t':Nat}{d':Drawn}{ch:Zcr}(I:ZhY)(u:#[aap,ch,h'])(hok:ZajP)(hg:ZavV)
  (hch:ZaUy) :
  ZaRv:=by
 refine ZazO;obtain⟨o,es,ep,ho,r⟩:im:=a_;obtain⟨sl,hL⟩:=#[aKE,#[aV,ZaEO rfl]]
 exact I.step (ch:=ch) hch (fun b o hL hb hc e n=>Zy6 b o e n #[bx,(ZcI (ZabQ b z)).elim hL hb] hc) (fun b o _ _ hc e n=>u.any e n hc) (fun b o hc e n=>ZIB b o e n hc) (fun b o hc e=>ZIC b o e hc) u.tups u.frzs u.tbls (fun m' hm=>by
  obtain⟨o',es',ep',ho',r'⟩:im:=hm;rw[ho]at ho';cases ho'
  exact ZaRC) hok hg
def aS.turned {t':Nat}{it:Addr}(I:ZhY)(k:#[p3,it,Zch,Zd9])(hn:#[a_,it])(hL:it≠Zcj)
  (h1:it∈Zo8\/#[aUw,it]) (h2:#[y9,c≠it]) (h3:#[NT,it]):ZTa:=by
 have nit:#[aDg,b≠it]:=fun b u e z=>by rw[z,hn]at e;cases e
 refine I.step (g':=s.gens) (d':=s.drawn) (ch:=[it]) Zp5 (#[aUA,ZY_]) (#[aUA,#[agH,ZY_]]) (fun _ _ _ _ n=>n)
  (fun b o hc e=>#[ft,ZY_]) ZahC (fun _ _ _ e=>e) (fun b ps e=>⟨#[],ZR6⟩) ZaAX (ZzW) I.bare
 ·have e:Zid:=ZbZ
  subst e;exact ⟨h1,hL,h2,h3⟩
 ·obtain⟨o,es,ep,ho,r⟩:im:=hm
  exact oq o es ep (k _ o (Yz hL) ho) r
 ·refine (Zbp b u e).stay (fun c v hc q=>k c v ?_ q) (Zvj) ZIZ
  rcases hc with z | z
  ·rw[z];exact nit b u e
  ·exact nit c _ z
def aS.tok [2](t:Nat):#[hX,#[aUB,t]]:=I.un (h':=ZaE) (t':=t) Un.refl Zbp
def aS.kept [66]:ZTa:=I.un (ZabF k) (ZaUF k)
def aS.laid [339][66](hp:#[rl,a])[278] :
  ZaBn:=I.un (Un.laid k hp (Zl6 hp)) (I.hok.laid k hp new)
def aS.write {x e:Addr}{o:HO}{t':Nat}(I:ZhY)(mu:ZX0)(he:ZalR)(k:#[kh,ZnY->#[k3,Zb0]->ZvM])(heo:ZZ0)
  (new:#[ia,ZUK,h',x,o]):#[cl,ZUK,ZKk]:=I.un (Un.write mu he k heo) (I.hok.write mu he k heo new)
def aS.pins_of {av2:ZdT}[2](h:∀ p∈av2,ZaS6):#[Z_,av2] :=
 ⟨ZsP,Zo_,ZsS,ZabR,Zl7,ZiI,Zo',Zpa,#[l8,ZaCi (#[aV,ZhG p (ZT _ z)]) (h p)],Zbp,ZsQ⟩
def zS {N:Zbe}(hN:N.Nodup){i j:Nat}[425](a:#[dA,N[i]?])(b:#[dA,N[j]?]):i=j:=by
 obtain⟨h1,e1⟩:=Zpb a;obtain⟨h2,e2⟩:=Zpb b;exact (List.getElem_inj hN).mp (e1.trans e2.symm)
def wP {M:Model}{A:Around}{E:Zfh}{i:Nat}{x:Str}{v:V}{u:Value}{Q:Zfi}(I:ZhY)(hN:X.N.Nodup)(hi:Zgz)(hx:Zagh)(r:Zep)
  (h:∀ s',aS X Zai (ZiJ i Zih) H s'->(∃ a,#[a3b,Zb']/\(a=Zcj\/#[bD,Zy8,a]))->Q () s') (hf:ZNP:=by first | exact Ze1 | exact ZjZ | assumption):ZaU4:=by
 refine ZazN
 have bk8:ZaUs:=#[cJ,ZhF]
 have hiσ:i<ZIG:=ZaDA
 have cne:=I.cne
 have tracked:∀ [54]{h':Heap},(∃ o,#[h6,Zb0]/\ZnC)->Za3c->#[aGp,h']:=fun {a h'} ha hs b ob e=>by
  obtain⟨_,_,av3⟩:ak:=ha;refine ZaH6;rintro rfl;rcases hc with rfl | hc
  ·rw[av3]at e;cases e
  ·rw[av3]at hc;cases hc
 rcases hx with hk | hk
 ·refine wpAny_storeName_local hk hn (fun h' hn' hs=>?_) bk8
  refine ZaJZ;refine h _ #[a4m,tracked ⟨oL,hoL,Zo'⟩ hs] #[c8,hs,Ze1]
  ·exact ZaCE
  ·obtain⟨sl,e1⟩:=ZIL
   exact ZaAs
  ·obtain⟨o',e1⟩:=ZJS
   exact ZaAr
  ·by_cases hj:j=i
   ·subst hj
    rw[hi]at e1;cases e1;rw[ZX_]at e2;cases e2;exact ⟨u,r,(Zal #[wC,hk])⟩
   ·rw[ZZK]at e2
    refine Zabj;refine ZYR;rcases q with ⟨k,e⟩ | ⟨k,c,e,z⟩
    ·refine Zal #[bF,k]
     have:y≠x:=ZaDH;simp[this,e]
    ·exact ZaCo
  ·obtain⟨w',z⟩:=ZaCl
   exact ZaDz
  ·refine ZIa
   exact ZaCY
 ·have hfn:ZNO:=by
   rcases hf with z | z
   ·exact z
   ·rw[z]at hk;cases hk
  obtain⟨c,hc⟩:=ZIN x ZaxP;obtain⟨w',z⟩:=ZiI x c hc;refine wpAny_storeName_cell ZhF hk hc z (fun h' hc' hs=>?_);refine ak (id z) fun oc hoc ck8=>?_;refine h Zkq #[a4k,#[bm,m,ZaUG hs (Yz (cne x c hc)),ZanS],fun y c' e=>?_,tracked ⟨oc,hoc,Zpa x c hc⟩ hs] ⟨c,hs,Zaq hc⟩
  ·exact #[apD,Zaa5]
  ·obtain⟨sl,e1⟩:=ZIL
   exact⟨sl,#[Cj,Zaa5] e1⟩
  ·obtain⟨o',e1⟩:=ZJS
   exact⟨o',#[Cj,Zaa5] e1⟩
  ·by_cases hj:j=i
   ·subst hj
    rw[hi]at e1;cases e1;rw[ZX_]at e2;cases e2;exact ⟨u,r,#[ls,Zal hk,c,hc,hc']⟩
   ·rw[ZZK]at e2
    refine Zabj;refine ZYR;rcases q with q | ⟨k,c',e,z'⟩
    ·exact ZEJ
    ·refine #[ls,k,c',e,z'.sameBut hs ?_]
     rintro rfl;exact hj (zS hN e1 (ZIP _ _ _ e hc▸hi))
  ·by_cases hcc:c'=c
   ·subst hcc;exact#[a7,hc']
   ·obtain⟨w2,z2⟩:=ZiI y c' e
    exact⟨w2,z2.sameBut hs hcc⟩
  ·refine ZIa
   refine #[aqm,?_];intro q;rw[q,hoc]at e;have q':oc=p.2:=Yk e;exact #[T7,d,w',q',ck8]
def qZ {M:Model}{A:Around}{E:Zfh}{i:Nat}{x:Str}{v:V}{u:Value}{Q:Zfi}(I:ZhY)(hN:X.N.Nodup)(hi:Zgz)(hx:Zagh)(r:Zep)
  (h:#[x3,aS X Zai (ZiJ i Zih) H s']) (hf:ZNP:=by first | exact Ze1 | exact ZjZ | assumption):ZaU4 :=
 wP I hN hi hx r (fun s' I' _=>h s' I') hf
def aS.call' {s':Shared}{ch:Zcr}(I:ZhY)(ho:ZWf)(u:#[aap,ch,Zb'])(hok:ZajQ)(hg:Zagl)
  (hch:ZaUy):Zvr:=by
 obtain⟨h',g',d',t',o'⟩:=s';have e:o'=s.os:=ho;subst e;exact I.call (g':=g') (t':=t') (d':=d') u hok hg hch
#where
noncomputable abbrev XK:=ZbR->ZgH->Hp->Zaa
noncomputable abbrev St:=ZUD
noncomputable abbrev VK:=#[dW,V]
noncomputable abbrev TE:=St->Hp->VK->Zaa
noncomputable abbrev TT:=St->Hp->(#[dW,ZbB])->Zaa
noncomputable abbrev TA:=St->Hp->(#[dW,Zbg])->Zaa
structure kA where
 nx:ZeJ
 rt:VK
 bk:ZeJ:=Zku
 ct:ZeJ:=Zku
noncomputable abbrev TS:=kA->St->Hp->Zaa
abbrev EP [81][185](Q:VK)(u:Value)[118]:Zaa:=∃ v H',#[Hb,Zep,v]
abbrev TP [81][185][136](b:Bool)[118]:Zaa:=∃ H',Zvr/\Q b H'
abbrev AP [81][185][294][110][118]:Zaa:=∃ vs H',#[Hb,ZoK,vs]
abbrev SP [81][15](D:kA)(f:Flow)[118]:Zaa :=
 match f with
 | Zpd=>#[WO,ZiK]
 | .brk=>#[WO,D.bk]
 | .cont=>#[WO,D.ct]
 | ZfO u=>∃ v σ' H',Zvz/\Zep/\D.rt v H'
abbrev PE [81][376](t:TE):Zaa :=
 ∀ [1](Q:VK),ZhY->Zok->#[MJ,ZUM]
abbrev PT [81][376](t:TT):Zaa :=
 ∀ [1][136],#[aOa,ZUM]
abbrev PW [81][376](t:TT):Zaa :=
 ∀ (whole:Zk')[1][136],#[aOa,whole]
def PW.pt [45]{e:Expr}{t:TT}(h:PW X e t):PT X e t:=h _
abbrev PA [242]:Zaa :=
 ∀ (pos:Pos)[1][294],ZhY->Zok->#[t1,(ZIQ #[zq,pos,es]),Zaum]
abbrev PS [81][347](t:TS):Zaa :=
 #[aOU,exec]
abbrev BZ [81](st:Zel)(t:TS):Zaa :=
 #[aOU,execs]
def bD [151]{t:Sem α}{Q Q':Zase}{M:Model}[34][47][266](h:#[jx,t])(hQ:∀ a s,Q a s->Q' a s):#[fl,M,t,Q']:=YA h hQ Zio
section
variable {X:Cx}
inductive TV [207](σ:St)[152]:Zaa
 | mk (v:V)(e:ZaBh)(h:Zxo)
abbrev AV [207]:TE:=#[IR,TV i σ H Q]
abbrev tC (v:V):TE:=#[abT,Zxo]
def Nt [200][65](hN:Zgz)(hv:Zagj)[49](Y_:ZYX:=by decide):ZayC:=by
 intro pins s σ H Q I h;obtain⟨v,e,h⟩:=h;refine ZN3;refine #[ZU,hN,e,hv];have fin:#[lx,u,s]:=au v H I r h;rcases l with ⟨hk,hm⟩ | ⟨hk,c,hc,hcell⟩
 ·exact #[aUL,ZaUI,hn,hm]
 ·rcases hk with hk | hk
  ·exact #[aUL,ZaUJ,hc,hcell]
  ·exact ZaUK (wpAny_loadName_free ZhF hk hc hcell fin Y_) hd
def am {i j pos}:#[Hv,ZatN,(tC (Zae i))]:=#[aDJ,wpAny_Constant_int,ZatN]
def sI {b j pos}:#[Hv,(Ze6 b),(tC (.bl b))]:=#[aDI,Constant_bool,(.bl b)]
def oE {j pos}:#[Hv,Zan,(tC ZaJ)]:=#[aDI,ZaUM,ZaJ]
def aB {x j pos}:#[Hv,ZatS,ZZJ]:=#[aDJ,Calls.Constant_str,ZatS]
abbrev Gl [81][206]:Zaa:=#[bD,ZabK,.globalImplicit]
def eK {E:Zfh}{pins:ZdT}{s:Shared}{σ:St}{H:Hp}{x:Str}{u:Value}{pos:Pos}{Q:Zfh}(I:ZhY)(hg:ZcF)(hm:ZU8)(h:Q u s)
  (hd:Zt_:=by decide):Zayn :=
 #[aNO,(Calls.loadGlobal_global ZaWm hm h)]
def jE {E:Zfh}{pins:ZdT}{s:Shared}{σ:St}{H:Hp}{x:Str}{u:Value}{pos:Pos}{Q:Zfh}(I:ZhY)(hg:ZcF)(hm:Zye)(hv:#[afu,u])(h:Q u s)
  (hn:Za3r:=by decide) (hd:Zt_:=by decide):Zayn:=by
 refine ak I.mod.blt fun mb h1 h2=>?_;exact #[aNO,(Calls.loadGlobal_builtin ZaWm hm #[aX,ZabV,ZaUN I.bk] ((h2 x hn).trans hv) h)]
def dM [322](hm:ZU8)(r:Zep)[49]:ZWW :=
 #[IX,eK I hg hm ZaMD hd]
def Qg [322](hm:Zye)(hv:#[afu,u])(r:Zep)[341][49]:ZWW :=
 #[IX,jE I hg hm hv ZaMD hn hd]
variable {a b:Expr}{ta tb:TE}{pos:Pos}
abbrev PC [81](op:CmpOp)(a b:Expr)(t:TE):Zaa :=
 ∀ [1](Q:VK),ZhY->Zok ->
  #[aRI,#[HV,(ZabW op v u),ZMI,Zpe]]
def F0 (b:Expr){op:CmpOp}(h:Zazo)(h2:Zazp):ZHZ:=by
 have e1:ZazA:=by cases op<;>first | rfl | exact #[ic,h]
 have e2:ZazB:=by cases op<;>first | rfl | exact ZU0
 cases b<;>simp[behindInMarks,e1,e2]
abbrev W3 (ta:TE):TE:=#[IU,Q #[Zw,x=ZaJ] H1]
def bo.none_iff {x:V}[310](r:Zd1):(v == ZiL)=#[AV,x=ZaJ]:=by
 cases x with
 | non=>cases r;rfl
 | bl _=>cases r;rfl
 | int _=>obtain⟨t,rfl⟩:=r;rfl
 | str _=>obtain⟨t,rfl⟩:=r;rfl
 | byt _=>obtain⟨t,rfl⟩:=r;rfl
 | flt _=>obtain⟨t,rfl⟩:=r;rfl
 | ref _=>cases r;rfl
 | ty _=>cases r;rfl
def Aq {j pos'}[201]:PC X .Is a (Zze Zan j ZlZ) (W3 ta):=by
 intro pins s σ H Q I h;refine Zayh;obtain ⟨x,H1,I1,r1,q1⟩:=zz;exact ZaUM (is_none_gen (au ZCk H1 I1 #[n',r1.none_iff] q1))
inductive Xg [136][394]:Zaa
 | mk (c:Bool)(e:x=.bl c)(h:Q c H)
abbrev tB (t:TE):TT:=#[IT,t,Xg Q x H1]
def As [73]:PE X ZaVe t:=fun pins s σ H Q I hw=>ZaUO (h Zai s σ H Q I hw) h1
def iN [73]:PT X ZaVe (tB t):=by
 intro pins s σ H Q I hw;refine wpAny_isTrue_Compare1 (bD #[Bg,h,hw] #[aiL,fun u s2 h2=>bD h2 fun c s3 zz=>?_]) h1;obtain ⟨x,H1,I1,r1,q1⟩:=zz;obtain⟨d,rfl,q⟩:=q1;cases r1;exact ZaJP
def jd [220](he:∀ whole,Zzf e ZaG whole=(do let v <-whole;#[nw,e.pos];ZaNW):=by intro _;rfl):PT X e (tB t):=by
 intro pins s σ H Q I hw;refine isTrue_plain (bD #[Bg,h,hw] Zib) (he _);obtain ⟨x,H1,I1,r1,q1⟩:=zz;obtain⟨d,rfl,q⟩:=q1;cases r1;exact ZaJP
variable {tA tB':TT}{rest:Zbh}
abbrev WT (t u:TT):TT:=#[Vn,#[eY,c,u σ H1 Q,Q Zaz H1]]
abbrev XW (t u:TT):TT:=#[Vn,#[eY,c,Q Zad H1,u σ H1 Q]]
abbrev W4 (t:TT):TT:=#[Vn,ZaIm]
def Ef [251]:PW X (ZsT .And [a] pos) tA:=by
 intro wh pins s σ H Q I h;refine #[aQm,ZaUP]
 cases c with
 | true=>exact isTrue_and_nil e
 | false=>exact e
def Eg [251]:PW X (ZsT .Or [a] pos) tA:=by
 intro wh pins s σ H Q I h;refine #[aQm,ZaUQ]
 cases c with
 | false=>exact isTrue_or_nil e
 | true=>exact e
def Ih [251](hb:PW X (ZsT .And #[k8,b] pos) tB'):PW X (ZsT .And ZaF0 pos) (WT tA tB'):=by
 intro wh pins s σ H Q I h;refine #[aIC,ZaUP];obtain ⟨H1,I1,q1⟩:=zz
 cases c with
 | true=>exact ZaOb
 | false=>exact ZaKR
def JT [251](hb:PW X (ZsT .Or #[k8,b] pos) tB'):PW X (ZsT .Or ZaF0 pos) (XW tA tB'):=by
 intro wh pins s σ H Q I h;refine #[aIC,ZaUQ];obtain ⟨H1,I1,q1⟩:=zz
 cases c with
 | true=>exact ZaKR
 | false=>exact ZaOb
def jc [251]:PT X #[YT,.Not] (W4 tA):=by
 intro pins s σ H Q I h;exact isTrue_not (ha Zai s σ H (fun c H1=>ZaIm) I h)
abbrev VF (ta:TE):TE:=#[IU,∃ c,x=.bl c/\Q (.bl (!c)) H1]
def Tt [201]:PE X #[YT,.Not] (VF ta):=by
 intro pins s σ H Q I h;refine UnaryOp_ (bD #[Bh,ha] Zib);obtain ⟨x,H1,I1,r1,q1⟩:=zz;revert q1;intro b_;obtain⟨c,rfl,q1⟩:ak:=b_;cases r1;exact not_of (ZK (au (.bl (!c)) H1 I1 rfl q1))
#where
abbrev cC [37][375][36]:Zaa :=
 Rd H a (ZaI xs) \/
  #[D5,ZUp/\#[uT,Zds]/\ZatF/\ZfM=Zal2/\ZalK/\ZawS]
abbrev bL [37][375][36]:Zaa :=
 Rd H a (Zbb xs) \/
  #[D5,ZUp/\ZvP/\#[al3,ZawS]]
abbrev Wn:ZbR->ZgG
 | Zan=>Zab ZaJ
 | ZET=>Zab (.bl b)
 | Zae i _=>#[cV,i]
 | Zax x _=>Zab (Zax x)
 | .bytes b _=>Zab (.byt b)
 | .float b _=>Zab (.flt b)
 | Zcm=>#[bE,a]
 | Zbn n=>Zab (.ty n)
 | _=>none
def bo.abs {x:V}[160](r:Zlt):Wn u=Zab x:=by
 cases x with
 | non=>cases r;rfl
 | bl _=>cases r;rfl
 | int _=>obtain⟨t,rfl⟩:=r;rfl
 | str _=>obtain⟨t,rfl⟩:=r;rfl
 | byt _=>obtain⟨t,rfl⟩:=r;rfl
 | flt _=>obtain⟨t,rfl⟩:=r;rfl
 | ref _=>cases r;rfl
 | ty _=>cases r;rfl
def bo.inj {x y:V}[160](r:Zlt)(q:Zgl):x=y:=Yk (r.abs.symm.trans q.abs)
def bw.inj:∀ {xs ys:Zbg}[24],ZfC->bw ys us->xs=ys
 | _,_,_,Zao,Zao=>rfl
 | _,_,_,ZlQ,ZaD r' t'=>#[b1,ZX',bw.inj t t']
section
variable {X:Cx}{pins:ZdT}{σ:St}{H:Hp}{s:Shared}{a:Addr}{xs ys:Zbg}
def cC.of [323](h:#[dY,Zu6]):Zip:=#[r3,h]
def bL.of [323](h:#[dY,ZeQ]):Ziq:=#[r3,h]
def aS.list [2](h:ZGp):#[aNS,PlainL]:=by
 rcases h with h | ⟨o,e_,n,hk,hc,hd,hs,hz,r⟩
 ·refine G6 (h.ok Zbp) #[aUR,?_]
  exact ⟨e_,r,bS _ n e rfl rfl rfl,z⟩
 ·refine #[aIf,(bS o n ZaL4 hc hd (ZaUS))]
  have e:=r.length;simp only[YS]at e
  lia
def aS.tuple [2](h:ZGq):#[aNS,Zy4]:=by
 rcases h with h | ⟨o,e_,n,hk,hc,hs,hz,r⟩
 ·refine iT (h.ok Zbp) fun z e_ r p=>?_
  exact ⟨e_,r,p.old,z⟩
 ·refine #[aIf,(jD o ZaL4 hc n (ZaUS))]
  have e:=r.length;simp only[YS]at e
  lia
def aS.list_inj [2](h:ZGp)(h':cC X.K H a ys):xs=ys:=by
 refine #[K8,h,fun e_ r a_ _=>?_];obtain⟨o,n,e,_,_,d⟩:cg:=a_;refine #[K8,h',#[aUT,?_]];obtain⟨o',n',e',_,_,d'⟩:cg:=a_;rw[e]at e';cases e';rw[d]at d';injection d' with d1 _
 have:e_=its':=Za0u
 subst this;exact ZX'
def aS.tuple_inj [2](h:ZGq)(h':bL X.K H a ys):xs=ys:=by
 refine #[gg,h,fun e_ r a_ _=>?_];obtain⟨o,e,_,n,d⟩:jB:=a_;refine #[gg,h',#[aUT,?_]];obtain⟨o',e',_,n',d'⟩:jB:=a_;rw[e]at e';cases e';rw[d]at d';injection d' with d1 _
 have:e_=its':=Za0u
 subst this;exact ZX'
#where
noncomputable abbrev Cx.wish [81][48]:Cx:={ X with xe:=E }
noncomputable abbrev Cx.nox [81]:Cx:=X.wish Zku
def Cx.Ok.wish [45](ok:X.Ok)[48]:#[DG,0].Ok :=
 ⟨ok.mod,ok.kind,ok.glob,ok.blt,ZaUU,ok.inj,ok.has,ok.cab,ok.hd,ZaUV,ok.stk,ok.exf,ok.bs,ok.bsz,ok.noex,ok.exfs,ok.funs,ok.frf⟩
def Cx.Ok.unwish [45][47](ok:#[DG,0].Ok):X.Ok :=
 ⟨ok.mod,ok.kind,ok.glob,ok.blt,ZaUU,ok.inj,ok.has,ok.cab,ok.hd,ZaUV,ok.stk,ok.exf,ok.bs,ok.bsz,ok.noex,ok.exfs,ok.funs,ok.frf⟩
section
variable {X:Cx}{pins:ZdT}{σ:St}{H:Hp}{s:Shared}{E:Zfh}
def aS.wish [2][48]:ZaAz:=#[abS,I.ok.wish E,ZhG]
def aS.unwish (I:ZaAz):ZhY:=#[abS,I.ok.unwish,ZhG]
def SP.unwish [395](h:SP ZDG Zai D f s'):SP X Zai D f s':=by
 cases f with
 | next=>obtain⟨σ',H',I,q⟩:bU:=h;exact ZaUX
 | brk=>obtain⟨σ',H',I,q⟩:bU:=h;exact ZaUX
 | cont=>obtain⟨σ',H',I,q⟩:bU:=h;exact ZaUX
 | ret u=>obtain⟨v,σ',H',I,r,q⟩:fA:=h;exact #[abc,ZaUW]
def BZ.nox {st:Zel}{t:TS}(h:BZ X.nox st t):BZ X st t:=fun pins s σ H D I hw =>
 YA (h Zai s σ H D ZarR hw) (#[IY,q.unwish]) #[iM,ZsU z]
#where
section
variable {X:Cx}{st:Stmt}{rest:Zel}{t u:TS}{e:Expr}{te:TE}{pos:Pos}
abbrev VE:TS:=#[pf,ZMK]
abbrev T4 (t u:TS):TS:=#[pf,t ZaDK σ H]
def aI:BZ X [] VE:=fun _ _ σ H _ I h=>#[We,σ,H,I,h]
def af (h1:ZYU)(h2:BZ X Ze7 u):BZ X #[k8,st] (T4 t u):=by
 intro pins s σ H D I h;refine #[aXE,ZaDK]
 cases f with
 | next =>
  revert q;intro a_;obtain⟨σ',H',I',q⟩:bU:=a_;exact h2 Zai s1 σ' H' D I' q
 | ret v=>exact q
 | brk=>exact q
 | cont=>exact q
def ae (h1:ZYU):BZ X [st] t:=by
 intro pins s σ H D I h;refine #[aXE,D]
 cases f with
 | next=>exact Zzh q
 | ret v=>exact q
 | brk=>exact q
 | cont=>exact q
def aS.quiet [3][2]:interactive ZaG=Zaz:=by simp[interactive,I.ok.kind]
abbrev VC [329]:TS:=#[pg,te,fun _ H1=>ZrW]
def ax [119](hs:#[nQ,Zsx e Zac ZyS ZaG]:=by rfl):PS X (.Expr e pos) (VC te):=by
 intro pins s σ H D I h;exact wpAny_Expr_any (bD ZTF fun v s1 zz=>by obtain ⟨x,H1,I1,r1,q1⟩:=zz;exact ⟨σ,H1,I1,q1⟩) I.quiet hs
abbrev QV [329]:TS:=#[pg,te,D.rt]
def aL [119]:PS X (ZI0 #[cx,e] pos) (QV te):=by
 intro pins s σ H D I h;exact wpAny_Return_some (bD ZTF fun v s1 zz=>by obtain ⟨x,H1,I1,r1,q1⟩:=zz;exact jV x σ H1 I1 r1 q1)
abbrev W2 (c:TT)(t u:TS):TS:=#[pg,c,#[sW,#[eY,b,t D σ H1,u D σ H1]]]
def aN {c:Expr}{a b:Zel}{tc:TT}(hc:ZaHN)(ha:BZ X a t)(hb:BZ X b u):PS X (.If c a b pos) (W2 tc t u):=by
 intro pins s σ H D I h;refine wpAny_If (bD #[Bh,hc] fun d s1 zz=>?_);obtain ⟨H1,I1,q1⟩:=zz
 cases d with
 | true=>exact ha Zai s1 σ H1 D I1 q1
 | false=>exact hb Zai s1 σ H1 D I1 q1
abbrev T2:TS:=Zov
def cG {sts:Zel}:BZ X sts T2:=fun _ _ _ _ _ _ h=>Zab1
#where
noncomputable abbrev TG:=V->St->#[cd,Hp,(ZeJ)]
noncomputable abbrev OT:=Zbg->St->#[cd,Hp,(ZeJ)]
abbrev PG [81](target:Expr)(t:TG):Zaa :=
 ∀ [1](v:V)(u:Value)[279],ZhY->Zep->t v σ H Q ->
  #[t1,(ZiN ZI1 ZaG u),(fun _ s'=>Zayj)]
abbrev UE [81](ts:Zbh)(t:OT):Zaa :=
 ∀ [1][348][110][279],ZhY->ZoK->t vs σ H Q ->
  wpAny Zt0 X.A (assignInOrder (#[Co,ts].map (·.2)) us) #[Qb,Zayj] X.xe s
noncomputable abbrev VY:=V->V->#[cd,Hp,VK]
abbrev Xe [81](op:Operator)(t:VY):Zaa :=
 ∀ [208],ZhY->Zd1->Zgl->t x y H Q ->
  #[MJ,(ZaUY op v u)]
section
variable {X:Cx}{pos:Pos}
abbrev uP [207]:TG:=fun v σ H Q=>Q (ZiJ i Zih) H
def Qm [200][82][7]:ZaIl:=by
 intro pins s σ H v u Q I r h;exact ZaUZ (qZ I hN hi hx r (fun s' I'=>#[ce,H,I',h]) hf)
abbrev Ww:OT:=fun vs σ H Q=>vs=[]/\Q σ H
inductive GC (t:TG)(u:OT)[348](σ:St)[33][279]:Zaa
 | mk (v:V)(r:Zbg)(e:vs=v::r)(h:t v σ H #[ab2,u r σ' H' Q])
abbrev UT (t:TG)(u:OT):OT:=fun vs σ H Q=>GC t u vs σ H Q
def gG:UE X [] Ww:=by
 intro pins s σ H vs us Q I r h;obtain⟨e,h⟩:=h;subst e;cases r;exact assignInOrder_nil ⟨σ,H,I,h⟩
def bM {e:Expr}{es:Zbh}{t:TG}{u:OT}(h1:PG X e t)(h2:UE X es u)
  (hs:#[Co,Zcy].map (·.2)=ZiN e ZaG::#[PM,0].map (·.2):=by rfl):UE X Zcy (UT t u):=by
 intro pins s σ H vs us Q I r h;obtain⟨v,vr,e1,h⟩:=h;subst e1
 cases r with
 | cons r rr =>
  rw[hs];refine assignInOrder_cons (bD (h1 Zai s σ H _ _ _ I r h) fun _ s1 zz=>?_);obtain ⟨σ1,H1,I1,q1⟩:=zz;exact h2 Zai s1 σ1 H1 _ _ Q I1 rr q1
inductive GT [37][38](t:OT)(v:V)(σ:St)[33][279]:Zaa
 | mk [88][36](e:v=Zcm)(q:Ziq)(l:#[Df,n])(h:t xs σ H Q)
abbrev UU [37][38](t:OT):TG:=fun v σ H Q=>GT K n t v σ H Q
def jH {es:Zbh}{k:Nat}{t:OT}{n:Nat}(hc:Ze0)(h:ZazJ)
  (hn:ZaFL:=by rfl) (hst:Zaq0 (·.1)=none:=by rfl):#[aPT,(UU X.K n t)]:=by
 intro pins s σ H v u Q I r hw;obtain⟨a,xs,e1,hq,hl,hw⟩:=hw;subst e1;cases r;refine #[uR,fun e_ rv ht hz=>?_];refine assign_Tuple_tuple ZI7 ht (by simp[hn,<-hl,rv.length]) hst fun h' hx=>?_;have I1:Zw5:=Zph (t':=Zca) #[ct,hx b o Zld e];exact h Zai _ σ H xs _ Q I1 (ZaU1) hw
abbrev Oo [329](g:TG):TS:=#[pg,te,#[zi,g x σ H1 ZiK]]
def qJ {tg e:Expr}{te:TE}{g:TG}(he:ZgC)(hg:ZaIk)(hs:#[nQ,swapsWithSole [tg] e ZyS ZaG]:=by rfl)(hw:swappedStores [tg] e ZaG=Zb2 Zac:=by rfl)
  (h1:#[Co,[tg]].map (·.2)=[ZiN tg ZaG]:=by rfl):#[Mf,[tg],e,(Oo te g)]:=by
 intro pins s σ H D I h;refine wpAny_Assign_stores #[Bi,he,Zib] hs hw;obtain ⟨x,H1,I1,r1,q1⟩:=zz;rw[h1];exact bD (hg Zai s1 σ H1 x v _ I1 r1 q1) fun _ s2 q=>q
def tP [200][230]{pos':Pos}[82][119][122] :
  ZaJM:=by
 intro pins s σ H D I h;refine #[DN,ZaU2,he,Zib];obtain ⟨y,H1,I1,r1,q1⟩:=zz;exact qZ I1 hN hi hx r1 (fun s2 I2=>#[ce,H1,I2,q1]) hf
abbrev WU [207][329](ti:VY):TS:=#[pf,∃ x,#[ah,Zab3,#[cx,x]]/\te σ H fun y H1=>ti x y H1 fun z H2=>ZiK (ZiJ i (Zab z)) H2]
def NC [200][230]{op:Operator}{ti:VY}{pos':Pos}[82][119](ho:Xe X op ti)[7] :
  PS X (.AugAssign #[kQ,ZlZ] op e pos) (WU i te ti):=by
 intro pins s σ H D I h;revert h;intro a_;obtain⟨v,e1,h⟩:ak:=a_;refine ZN3
 have vis:Zagj:=by rcases hx with k | k;exact ZEI;exact #[wi,k]
 refine #[ZU,hi,e1,vis];refine wpAny_AugAssign_Name ?_
 have go:#[t1,ZUM,(fun w s₂=>Zb3 Zt0 X.A (ZaUY op u w) (fun r s₃=>#[HV,(ZaU3 ZaG x r),#[g5,SP X Zai D Zpd],s₃]) ZgL Zpe)]:=by
  refine bD (he Zai s σ H _ I h) fun w s1 zz=>?_;obtain ⟨y,H1,I1,r1,q1⟩:=zz;refine bD (ho Zai s1 σ H1 v y u w _ I1 r r1 q1) fun z s2 zz=>?_;obtain ⟨zv,H2,I2,r2,q2⟩:=zz;exact #[aJ6,r2,ZaLQ]
 rcases l with ⟨hk,hm⟩ | ⟨hk,c,hc,hcell⟩
 ·exact ZaUI ZhF hk hn hm go
 ·rcases hk with hk | hk
  ·exact ZaUJ ZhF hk hc hcell go
  ·rcases hx with k | k
   ·have:Zav3:=hk
    rw[k]at this;cases this
   ·have:Zav3:=hk
    rw[k]at this;cases this
abbrev XJ (f:ZVS):VY:=#[ao4,Zsb,y=Zae j,#[fG,(f i j)]]
def MN:Xe X .Add (XJ fun i j=>i+j):=by
 intro pins s σ H x y v u Q I r1 r2 h;obtain⟨i,j,e1,e2,q⟩:da:=h;subst e1;subst e2;obtain⟨t,rfl⟩:=r1;obtain⟨t',rfl⟩:=r2;exact iadd_int (au ZarQ H Zg8 ZbG q)
#where
section
variable {X:Cx}{pos:Pos}
abbrev T7 (c:TT)(tb:TS):TS:=fun D σ H=>∃ W:ZiC,(∃ m,ZaE9)/\∀ m σ H,ZaE9 ->
 c σ H #[sW,#[eY,b,#[ahF,W m' σ' H',tb #[ag_,N,N] σ H1],ZrW]]
def qK {c:Expr}{body:Zel}{tc:TT}{tb:TS}(hp:ZaQO)(hc:ZaHN)(hb:ZaG0):PS X (.While c Zet [] pos) (T7 tc tb):=by
 intro pins s σ H D I h;obtain⟨W,a_,turn⟩:ak:=h;obtain⟨m0,w0⟩:=a_;refine wpAny_While (#[ww,codeAny_whileLoop,#[I3,Zvz/\W n σ' H'],⟨σ,H,I,w0⟩]);intro n s1 a_;obtain⟨σ1,H1,I1,w1⟩:bU:=a_;refine #[ri,(hc Zai s1 σ1 H1 _ I1 (turn n σ1 H1 w1)),fun b s2 zz=>?_];obtain ⟨H2,I2,q2⟩:=zz
 cases b with
 | true =>
  revert q2;intro a_;obtain⟨N,hN,q2⟩:ak:=a_;rw[Zav];refine #[ri,(hb Zai s2 σ1 H2 _ I2 q2),fun f s3 q3=>?_]
  cases f with
  | next =>
   obtain⟨σ3,H3,I3,n3⟩:bU:=q3;refine ZaRA;exact ZaSx
  | cont =>
   obtain⟨σ3,H3,I3,n3⟩:bU:=q3;refine ZaRA;exact ZaSx
  | brk=>exact q3
  | ret v=>exact q3
 | false =>
  rw[ZbQ];exact #[We,σ1,H2,I2,q2]
#where
structure It where
 go:Zas7
 yld:Nat->Hp->#[dW,V]
 stop:Zas7
abbrev js [81][15][33](b:Addr):Zaa :=
 ZbW/\ZPp/\ZE0/\ZaUx/\(#[y9,c≠b])/\#[NT,b]
def aS.fpOk [209]{σ:St}[23][266][124][2](hb:#[rl,b])(hn:Zui):js X Zai H' b:=by
 refine jq hn (YX (Yw I.lt hb)) (I.nofs hb) (Zaq (YU I.sz hb)) (fun x c e z=>?_) (fun p hp z=>?_)
 ·obtain⟨v,q⟩:=ZiI x c e
  exact #[Cm,q.lt,ZaxY]
 ·exact #[Cm,(Yf (ZhG p hp).1),ZaxY]
structure yK [68][37](tg:Expr)(J:It)[324](it:Addr)(tn:ZNu):Zaa where
 mem:it∈fp
 obj:∀ i h,tn i h->#[aKW,Zho]
 keep:∀ i h h',tn i h->(#[iO,∀ o,#[a4,ZcG]->Zd9])->tn i h'
 item:∀ [81],Zazh->X.w=w->ZoU->Ze0->∀ [207][1][48],ZhY->(ZFG)->ZUi->J.go i H ->
  wpAny Ztd X.A ZaFO (fun r s1=>∃ u,r=Zab u /\
   Zb3 Ztd X.A ZaPJ (fun _ s2=>∃ x H',Zave/\Zlt/\J.yld i H x H'/\tn (i+1) ZsX/\ZMC) E s1) E s
 done:∀ [81],Zazh->X.w=w->ZoU->Ze0->∀ [207][1][48],ZhY->(ZFG)->ZUi->J.stop i H ->
  Zb3 Ztd X.A ZaFO (fun r s1=>r=Zac/\#[hX,s1]) E s
 self:∀ (A:Around)[207][135][426][48],ZUi->ZaBw->#[fl,Ztd,#[QT,it],Q]
noncomputable abbrev TI:=St->Hp->(#[dW,It])->Zaa
abbrev Wi [81][185](tg:Expr)[363](itv:Value)(s2:Shared):Zaa :=
 ∃ (it:Addr)(fp:Zcr)(tn:ZNu)(J:It)(H':Hp),itv=Zaj it/\Zave/\yK ZbC X.w X.K tg J fp it tn/\tn 0 ZsX/\(ZavP)/\R J H'
abbrev PI [81](tg iter:Expr)(wi:TI):Zaa :=
 ∀ [1][363],ZhY->wi σ H R ->
  #[t1,Zaos,(fun v s1=>#[HV,Zawt,Zabg,s1])]
def Cm {M:Model}{A:Around}{E:Zfh}{s:Shared}{tg:Expr}{it:Addr}{u:Value}{o:Obj}{n:String}{vs:Zhz}{Q:Zfi}(ho:#[rR,it])(hc:#[uT,n])(hd:ZXP)
  (hn:[ZdK,Zdu,ZI4,ZaU5,ZaU6,ZaU7,ZaU8].contains n=Zaz) (hQ:Q () s):#[jx,ZaPJ]:=by
 unfold letOwnedTupleGo
 cases tg<;>first
  | exact Yg hQ
  | (cases u<;>first
    | exact Yg hQ
    | (refine X5 (wpAny_load ho ?_)
       rw[hc,hd]
       show #[jx,#[aj9,#[eI,[ZdK,Zdu,ZI4,ZaU5,ZaU6,ZaU7,ZaU8].contains n&&vs[0]? == #[rt,ZfP]]]]
       rw[X8 (by intro h;rw[hn,Bool.false_and]at h;cases h)]
       exact Yg hQ))
abbrev RM [37][88]:It :=
 #[ajB,Zip,#[DO,∀ xs,Zip->ZKD],Zip]
abbrev UB [37][88]:It :=
 #[ajB,Ziq,#[DO,∀ xs,Ziq->ZKD],Ziq]
abbrev Uk (lo:Int)[38]:It:=#[aOM,lo+i]
def LJ [137](a it:Addr):#[rh,tg,ZFu,ZaU9 it a i] where
 mem:=ZaM
 obj:=fun i h st b hb=>by
  have e:Zid:=ZbZ
  subst e;obtain⟨o,e,c,d⟩:az:=st;exact ⟨o,e,(fun v z=>by rw[d]at z;cases z)⟩
 keep:=Zamw
 item:=by
  intro X hP hw hK hc i pins s σ H E I hf st hg;subst hP hw hK;obtain⟨xs,x,hq,hx⟩:bU:=hg;refine ZK_;refine ZON;refine Ze3;refine #[aYO,wpAny_pyNext_list_item,Zkk];have I1:Zw5:=Za2B;refine ZXO;exact #[aOy,Zab4]
 done:=by
  intro X hP hw hK hc i pins s σ H E I hf st hg;subst hP hw hK;obtain⟨xs,hq,hx⟩:ak:=hg;refine ZK_;refine Ze3;have hl:=rv.length;exact wpAny_pyNext_list_end ZI7 st Zkk ZJ7 Za2A
 self:=#[a3z,wpAny_pyIter_listiter]
def IS [137](a it:Addr):#[rh,tg,ZFv,ZaU' it a i] where
 mem:=ZaM
 obj:=fun i h st b hb=>by
  have e:Zid:=ZbZ
  subst e;obtain⟨o,e,c,d⟩:az:=st;exact ⟨o,e,(fun v z=>by rw[d]at z;cases z)⟩
 keep:=Zamw
 item:=by
  intro X hP hw hK hc i pins s σ H E I hf st hg;subst hP hw hK;obtain⟨xs,x,hq,hx⟩:bU:=hg;refine ZFI;refine ZON;refine Ze3;refine #[aYO,wpAny_pyNext_tuple_item,ZaC8];have I1:Zw5:=Za2B;refine ZXO;exact #[aOy,Zab5]
 done:=by
  intro X hP hw hK hc i pins s σ H E I hf st hg;subst hP hw hK;obtain⟨xs,hq,hx⟩:ak:=hg;refine ZFI;refine Ze3;have hl:=rv.length;exact wpAny_pyNext_tuple_end ZI7 st ZaC8 ZJ7 Za2A
 self:=#[a3z,wpAny_pyIter_tupleiter]
def IR [450][38]:#[a4L,ZHO,(lo+Zqv*1),1] where
 mem:=ZaM
 obj:=fun i h st b hb=>by
  have e:Zid:=ZbZ
  subst e
  exact ⟨_,st,(fun v z=>by
   have z':ZaPq:=z
   cases z')⟩
 keep:=ZaKY
 item:=by
  intro X hP hw hK hc i pins s σ H E I hf st hg;subst hP hw hK;refine Ze3;have W:=#[aR0,1];refine ZaTv;obtain⟨t,rfl⟩:=hv;have I1:ZS':=Za2E;refine #[aTy,lo+i,#[bF,t]];rw[Int.mul_one]
 done:=by
  intro X hP hw hK hc i pins s σ H E I hf st hg;subst hP hw hK;refine Ze3;exact Za2C
 self:=Za3A
section
variable {X:Cx}{tg:Expr}
inductive Xv [37][363][394]:Zaa
 | mk [88](e:ZeX)(q:∃ xs,Zip)(h:R (RM K a) H)
abbrev UX [37](tl:TE):TI:=#[RC,Xv K R x H1]
abbrev U0 [37](tl:TE):TI:=#[RC,∃ a,ZeX/\(∃ xs,bL K H1 a xs)/\R (UB K a) H1]
def dD {l:Expr}[111]:PI X tg l (UX X.K tl):=by
 intro pins s σ H R I h;refine ZGE;obtain ⟨x,H1,I1,r1,q1⟩:=zz;obtain⟨a,e,⟨xs,hq⟩,q⟩:=q1;subst e;cases r1;refine az (I1.list hq) ZB2;refine #[a38,Zkk];refine #[ano,(LJ a _)]
 have e:Zw6:=ZbZ
 subst e;exact ZN'
def Au {l:Expr}[111]:PI X tg l (U0 X.K tl):=by
 intro pins s σ H R I h;refine ZGE;obtain ⟨x,H1,I1,r1,q1⟩:=zz;obtain⟨a,e,a_,q⟩:az:=q1;obtain⟨xs,hq⟩:=a_;subst e;cases r1;refine az (ZI5 hq) ZB2;refine Z0 (show #[ar4,Zci] from p) ?_;refine #[ano,(IS a _)]
 have e:Zw6:=ZbZ
 subst e;exact ZN'
def NI {pins:ZdT}{σ:St}{H:Hp}{s:Shared}{R:ZTt}{E:Zfh}{lo hi:Int}{t u v:Tok}{tk:Nat}(I:ZhY)(h1 : -(2 ^ 62)<=lo)(h2:lo<2 ^ 62)(h3 : -(2 ^ 62)<=hi)(h4:hi<2 ^ 62)
  (q:R (Uk lo ZRJ) H):wpAny Zt0 X.A ZazM Zabg E { s with heap:=s.heap.push { cls:=ZsB,data:=ZaL #[Zht,Zhv,Zr_] },toks:=tk }:=by
 refine #[aPF,(small_one h1 h2 h3 h4)];have I1:aS X pins σ H { s with heap:=s.heap.push { cls:=ZsB,data:=ZaL #[Zht,Zhv,Zr_] },toks:=tk }:=ZaAT
 refine eJ ((s.heap.push { cls:=ZsB,data:=ZaL #[Zht,Zhv,Zr_] }).objs.size) [(s.heap.push { cls:=ZsB,data:=ZaL #[Zht,Zhv,Zr_] }).objs.size] _ _ H rfl
  (Zzj (t':=tk) ZnF) (IR _ lo ZRJ) ?_ Zp5 q
 ·have e1:lo+ZqR*1=lo:=ZaM
  have e2:#[aI6,Zasm,1]:=by rw[rangeSize_one];split<;>lia
  show #[a4K,(lo+ZqR*1),Zasm,1]
  rw[e1,e2];exact Zd0
 ·have e:b=(s.heap.push { cls:=ZsB,data:=ZaL #[Zht,Zhv,Zr_] }).objs.size:=ZbZ
  subst e;exact ZN'
abbrev UY (ta:TA):TI:=#[aHd,∃ j:Int,vs=[Zae j]/\-(2 ^ 62)<=j/\j<2 ^ 62/\R (Uk 0 j.toNat) H1]
def CG {a:Expr}[168](ha:ZXQ)(hs:#[m6,[a],[ZRw]]:=by rfl):#[aMo,[a],UY]:=by
 intro pins s σ H R I h;refine #[aME,(Zc ZahJ hs rfl)];obtain ⟨vs,H1,I1,r1,q1⟩:=zz;revert q1;intro a_;obtain⟨j,e,q1,q2,q⟩:qp:=a_;subst e
 cases r1 with
 | cons r rr =>
  cases rr;obtain⟨t,rfl⟩:=r;exact call_range_1 (NI I1 Zag Zag q1 q2 (by simpa using q))
abbrev W0 (wi:TI)(g:TG)(tb:TS):TS:=fun D σ H=>wi σ H fun J H1=>∃ W:Zhu,(∃ m,W 0 m σ H1)/\∀ i m σ H,Zhr ->
 ZaMF
abbrev mw [324][130]:ZdT:=fp.filterMap fun b=>(ZcG b).map fun o=>ZBy
def c7 [109][150][313](hb:b∈fp)[312]:ZBy∈mw fp h:=ZaVb #[bm,b,hb,ZanR]
def Le [109][150]{p:Zcq×Obj}(hp:p∈mw fp h):p.1∈fp/\#[nG,p.1,p.2]:=by
 refine ak (List.mem_filterMap.mp hp) fun b hb e=>?_
 cases q:ZcG b with
 | none=>rw[q]at e;cases e
 | some o =>
  rw[q]at e;have e':ZBy=p:=Yk e;subst e';exact⟨hb,q⟩
def aS.pinned [3][109][2](hf:ZFG)(ho:#[aKW,Zch]):#[Z_,(Zai++mw fp ZaE)] :=
 I.pins_of fun p hp=>ZaCi #[bx,ZhG p (Yv _ z)] fun z=>by
  obtain⟨hb,e⟩:=Le z;refine gY (hf p.1 hb) fun f0 f1 f2 _=>?_;refine ak (ho p.1 hb) fun o e' d=>?_;rw[e]at e';cases e';exact kK e f0 f1 f2 d
def aS.unpinned {pins pl:ZdT}{σ:St}[42][266](I:#[Z_,(Zai++pl)]):ZhY:=I.pins_of #[l8,ZhG p (Yv _ (ZT _ hp))]
def iM {iter:Expr}{body:Zel}{wi:TI}{g:TG}{tb:TS}{pos:Pos}(hp:ZaQO)(hc:Ze0)(hi:Zsm)(hg:ZaIk)(hb:ZaG0)
  (hs:ZaYl:=by intro _;rfl):PS X (.For tg ZbT Zet [] pos) (W0 wi g tb):=by
 intro pins s σ H D I h;refine #[DN,wpAny_For,hi,Zajw];obtain⟨it,fp,tn,J,H2,e,I2,T,st2,f2,a_⟩:fR:=h2;obtain⟨W,b_,turn⟩:ak:=a_;obtain⟨m0,w0⟩:=b_;subst e;have o_:#[aiM,ZavP]:=fun hn b hb=>⟨hn b hb,#[dy,f2].2⟩;refine #[ww,codeAny_forLoop_any,#[MD,Zvz,Zb',ZOH],(eI 0 σ H2 I2 st2 #[N8,f2] w0)];intro n s3 a_;obtain⟨i,σ3,H3,I3,c5,fr3,w3⟩:iG:=a_;rcases turn i n σ3 H3 w3 with ⟨stop,qn⟩ | ⟨go,N,hN,step⟩
 ·refine #[aTY,Zab6,stop]
  obtain ⟨hr,I4⟩:=zz;subst hr;exact #[We,σ3,H3,I4,qn]
 ·refine #[aTY,Zab8,go]
  obtain ⟨u,hr,h4⟩:=zz;subst hr;refine #[ri,h4,fun _ s5 zz=>?_];obtain ⟨x,H5,I5,r5,y5,st5,fr5⟩:=zz;have I5':=I5.pinned (o_ fr5) (T.obj _ _ st5);refine #[ri,(hg _ s5 σ3 H5 x u _ I5' r5 (step x H5 y5)),fun _ s6 zz=>?_];obtain ⟨σ6,H6,I6,q6⟩:=zz;refine #[ri,(hb _ s6 σ6 H6 _ I6 q6),fun f s7 q7=>?_]
  have again:∀ {σ7:St}{H7:Hp},aS X (Zai++mw fp s5.heap) σ7 H7 s7->N σ7 H7->#[qe,#[MD,aS X Zai σ' H' s7,s7.heap,ZCC]]:=fun {σ7 H7} I7 n7=>by
   refine ZoZ;refine #[aiW,st5];refine #[aiH,st5];exact Zahr
  cases f with
  | next=>obtain⟨σ7,H7,I7,n7⟩:bU:=q7;exact ZZb
  | cont=>obtain⟨σ7,H7,I7,n7⟩:bU:=q7;exact ZZb
  | brk=>revert q7;intro a_;obtain⟨σ7,H7,I7,q7⟩:bU:=a_;exact ⟨σ7,H7,Zab_,q7⟩
  | ret v=>revert q7;intro a_;obtain⟨x7,σ7,H7,I7,r7,q7⟩:fA:=a_;exact jV x7 σ7 H7 Zab_ r7 q7
#where
def de {K:ge}{a:Addr}{xs:Zbg}{g:TG}{tb:TS}{D:kA}{σ:St}{H:Hp}(Pv:ZiC)(h0:Zj2)(hl:ZaAo)
  (hs:ZaK0) (hd:ZMM) :
  ∃ W:Zhu,ZiA/\∀ i m σ H,Zhr ->
   #[ah1,ZFu,ZFu,ZFu]:=by
 refine ZNW;intro i m σ H a_;obtain⟨rfl,hi,p⟩:fz:=a_;have q:=Zsr
 by_cases q_:ZrK
 ·refine ZaHw
  obtain⟨e,y⟩:=y;subst e;exact ZaI1
 ·have e:ZFb:=Zaf
  subst e;exact ZZu
def uO {K:ge}{a:Addr}{xs:Zbg}{g:TG}{tb:TS}{D:kA}{σ:St}{H:Hp}(Pv:ZiC)(h0:Zj2)(hl:ZaAp)
  (hs:ZaK0) (hd:ZMM) :
  ∃ W:Zhu,ZiA/\∀ i m σ H,Zhr ->
   #[ah1,ZFv,ZFv,ZFv]:=by
 refine ZNW;intro i m σ H a_;obtain⟨rfl,hi,p⟩:fz:=a_;have q:=Zsr
 by_cases q_:ZrK
 ·refine ZaHw
  obtain⟨e,y⟩:=y;subst e;exact ZaI1
 ·have e:ZFb:=Zaf
  subst e;exact ZZu
def Ci {lo:Int}{n:Nat}{g:TG}{tb:TS}{D:kA}{σ:St}{H:Hp}(Pv:ZiC)(h0:Zj2)
  (hs:#[aGN,lo+i]) (hd:#[ML,n]) :
  ∃ W:Zhu,ZiA/\∀ i m σ H,Zhr ->
   #[ah1,ZHO,ZHO,ZHO]:=by
 refine Zaaq;intro i m σ H a_;obtain⟨rfl,hi,p⟩:fz:=a_
 by_cases q_:i<n
 ·refine ZaHv
  obtain⟨e,y⟩:=y;subst e y;exact ZaMN
 ·have e:i=n:=Zaf
  subst e;exact Zaw_
noncomputable abbrev R2:=V->V->#[cd,Hp,VK]
abbrev uz [81](f:Zyp)(r:R2):Zaa :=
 ∀ [208],ZhY->Zd1->Zgl->r x y H Q ->
  #[MJ,(f v u)]
abbrev Wm [81](f:ZaxI)(r:ZFT):Zaa :=
 ∀ [1](x:V)[283](Q:VK),ZhY->Zd1->r x H Q ->
  #[MJ,(f v)]
abbrev gW [81](f:Value)[417]:Zaa :=
 ∀ [1][36][110](Q:VK),ZhY->ZfC->r xs H Q ->
  #[MJ,(ZgM f us)]
abbrev Wl [81](r:V->Hp->(#[dW,ZbB])->Zaa):Zaa :=
 ∀ [1](x:V)[283][136],ZhY->Zd1->r x H Q ->
  #[t1,(truthy v),ZQP]
abbrev Ut (r:R2)(ta tb:TE):TE:=#[IU,#[lm,tb,r x y H2 Q]]
abbrev XX (r:ZFT)(ta:TE):TE:=#[IU,r x H1 Q]
inductive RI [428][267]:Zaa
 | mk [296](c:C i j)(h:ZaN6)
abbrev rI [428]:R2:=#[l9,RI C g x y H Q]
inductive Xy [295][267]:Zaa
 | mk [296](h:ZaN6)
abbrev TC [295]:R2:=#[l9,Xy g x y H Q]
abbrev rU (g:Int->V):ZFT:=fun x H Q=>∃ i,Zsb/\Q (g i) H
section
variable {X:Cx}{a b c:Expr}{ta tb tc:TE}{pos:Pos}
def RY (ha:ZHd)(hb:Zyg){pins:ZdT}{s:Shared}{σ:St}{H:Hp}{R:V->V->Hp->Zaa}(I:ZhY)
  (h:ta σ H #[zi,#[lm,tb,ZaLW]]) {Q:Zfh} {f:Zyp}
  (hf:∀ v u s2 x y H2,#[cl,H2,s2]->Zd1->Zgl->ZaLW->#[aPU,s2]) :
  #[aRI,#[aPU,Zpe]]:=by
 refine Zayh;obtain ⟨x,H1,I1,r1,q1⟩:=zz;refine #[vD,hb,q1,ZPk];obtain ⟨y,H2,I2,r2,q2⟩:=zz;exact hf v u s2 x y H2 I2 r1 r2 q2
def d7 {op:Operator}{r:R2}(ho:#[aVU,op,r])[201](hb:Zyg):PE X (.BinOp a op b pos) ZaaB:=by
 intro pins s σ H Q I h;exact wpAny_BinOp (RY ha hb I h ZaWb)
def JP {op:UnaryOp}{r:ZFT}(ho:Wm X (unaryOp op) r)[201]:PE X #[YT,op] (XX r ta):=by
 intro pins s σ H Q I h;exact UnaryOp_ (bD ZE4 fun v s1 zz=>by obtain ⟨x,H1,I1,r1,q1⟩:=zz;exact #[RV,ho,x,v])
def V1 {f:Zyp}{C:ZaED}{g:ZVS}
  (rule:#[Yq,C i j->#[aUD,ZW2]->Zb3 Zt0 X.A Zaa' Q E s]) :
  uz X f (rI C ZaCT):=by
 intro pins s σ H x y v u Q I rx ry h;obtain⟨i,j,rfl,rfl,hc,q⟩:=h;obtain⟨t,rfl⟩:=rx;obtain⟨t',rfl⟩:=ry;exact rule i j t t' s _ _ hc ZaHY
def U8 {f:Zyp}{g:ZVS}
  (rule:#[Yq,#[aUD,ZW2]->Zb3 Zt0 X.A Zaa' Q E s]) :
  uz X f (TC ZaCT):=by
 intro pins s σ H x y v u Q I rx ry h;obtain⟨i,j,rfl,rfl,q⟩:=h;obtain⟨t,rfl⟩:=rx;obtain⟨t',rfl⟩:=ry;exact #[aS9,ZaHY]
def Ti {f:Zyp}{g:ZGi}
  (rule:#[Yq,Q (Ze6 ZW2) s->Zb3 Zt0 X.A Zaa' Q E s]) :
  uz X f (TC #[aqc,.bl]):=by
 intro pins s σ H x y v u Q I rx ry h;obtain⟨i,j,rfl,rfl,q⟩:=h;obtain⟨t,rfl⟩:=rx;obtain⟨t',rfl⟩:=ry;exact #[aS9,#[Cx,(.bl (g i j)),q]]
abbrev V7 (i j:Int):Zaa:=0<j/\j<ZaVc
abbrev RK (i j:Int):Zaa:=(ZVe<i/\i<ZTZ)\/(ZVe<j/\j<ZTZ)
def RK.ok {i j:Int}(h:RK i j):IntMulOk i j:=by
 rcases h with ⟨h1,h2⟩ | ⟨h1,h2⟩
 ·exact #[aLD,.of_left]
 ·exact #[aLD,.of_right]
def kP:#[aVV,(TC #[v0,i+j])]:=#[yb,U8,add_int]
def Ec:#[aVU,.Sub,(TC #[v0,i-j])]:=#[yb,U8,sub_int]
def Ea:#[aVU,.Mult,(rI RK #[v0,i*j])]:=V1 fun _ _ _ _ _ _ _ hc q=>mul_int q hc.ok
def Qd:#[aVW,V7]:=V1 fun i j _ _ _ _ _ hc q=>by
 have h1:ZfB<j:=hc.1;have h2:j<ZaVc:=hc.2;exact #[aPl,PyProof.noPylong_small,Zag]
def An:#[aVU,.Mod,(rI (fun _ j=>0<j) #[v0,i%j])]:=V1 fun i j _ _ _ _ _ hc q=>by
 have h1:ZfB<j:=hc;exact mod_int' (Zaf) #[aX,Int.fmod_eq_emod_of_nonneg i Zag,q]
def XZ {f:ZaxI}{g:ZXl}
  (rule:∀ (i:Int)(t:Tok)(s:Shared)(Q:Zfh)(E:Zfh),#[aUD,(g i)]->Zb3 Zt0 X.A (f (Zae i t)) Q E s) :
  Wm X f (rU #[e8,Zae (g i)]):=by
 intro pins s σ H x v Q I rx h;obtain⟨i,rfl,q⟩:ak:=h;obtain⟨t,rfl⟩:=rx;exact rule i t s _ _ #[qW,(Zae (g i)),ZbG]
def EQ:Wm X (unaryOp .USub) (rU #[e8,Zae (-i)]):=XZ fun _ _ _ _ _ q=>neg_int q
#where
abbrev TH:ZaGm
 | ZaJ,ZaJ=>true | ZaJ,Ziw=>true | Ziw,ZaJ=>true | ZaJ,ZlB=>true | ZlB,ZaJ=>true | ZaJ,Zgu=>true | Zgu,ZaJ=>true
 | Ziw,Ziw=>true | ZlB,ZlB=>true | Zgu,Zgu=>true | .byt _,.byt _=>true
 | Ziw,Zgu=>true | Zgu,Ziw=>true | ZlB,Zgu=>true | Zgu,ZlB=>true
 | _,_=>false
abbrev XR:R2:=#[l9,ZaAt/\Q #[Zw,x=y] H]
abbrev XT:R2:=#[l9,ZaAt/\#[nK,(!#[AV,x=y])]]
def Je {i j:Int}:#[AW,#[uZ,i,j],(i == j)]:=by
 rw[Bool.eq_iff_iff];simp
def Mi {i j:Bool}:#[AW,ZcH i=ZcH j,(i == j)]:=by
 rw[Bool.eq_iff_iff];simp
def Jf {i j:Str}:#[AW,#[eh,i,j],(i == j)]:=by
 rw[Bool.eq_iff_iff];simp
def Jd {i j:Zasz}:#[AW,V.byt i=V.byt j,(i.toList == j.toList)]:=by
 rw[Bool.eq_iff_iff];cases i;cases j;simp
section
variable {X:Cx}{a b c:Expr}{ta tb tc:TE}{pos:Pos}
def cI [3]{Q:VK}{k k':Bool}[2](q:#[nK,k])(e:k=k'):#[lx,(Ze6 k'),s]:=by
 subst e;exact au (.bl k) H I rfl q
def bu:#[abX,.Eq,XR]:=by
 intro pins s σ H x y v u Q I rx ry h;obtain⟨hs,q⟩:=h
 cases x with
 | non =>
  cases rx
  cases y with
  | non=>cases ry;exact #[kU,PySem.EqNone.eq_none_none]
  | bl j=>cases ry;exact #[kU,PySem.EqNone.eq_none_bool]
  | int j=>obtain⟨t',rfl⟩:=ry;exact #[kU,PySem.EqNone.eq_none_int]
  | str j=>obtain⟨t',rfl⟩:=ry;exact #[kU,PySem.EqNone.eq_none_str]
  | _=>exact Zus
 | bl i =>
  cases rx
  cases y with
  | non=>cases ry;exact #[kU,PySem.EqNone.eq_bool_none]
  | bl j=>cases ry;exact #[kT,eq_bool,Mi]
  | str j=>obtain⟨t',rfl⟩:=ry;exact #[kU,PySem.EqMixed.eq_bool_str]
  | _=>exact Zus
 | int i =>
  obtain⟨t,rfl⟩:=rx
  cases y with
  | non=>cases ry;exact #[kU,PySem.EqNone.eq_int_none]
  | int j=>obtain⟨t',rfl⟩:=ry;exact #[kT,eq_int,Je]
  | str j=>obtain⟨t',rfl⟩:=ry;exact #[kU,PySem.EqMixed.eq_int_str]
  | _=>exact Zus
 | str i =>
  obtain⟨t,rfl⟩:=rx
  cases y with
  | non=>cases ry;exact #[kU,PySem.EqNone.eq_str_none]
  | bl j=>cases ry;exact #[kU,PySem.EqMixed.eq_str_bool]
  | int j=>obtain⟨t',rfl⟩:=ry;exact #[kU,PySem.EqMixed.eq_str_int]
  | str j=>obtain⟨t',rfl⟩:=ry;exact #[kT,eq_str,Jf]
  | _=>exact Zus
 | byt i =>
  obtain⟨t,rfl⟩:=rx
  cases y with
  | byt j=>obtain⟨t',rfl⟩:=ry;exact #[kT,PySem.W.eq_bytes,Jd]
  | _=>exact Zus
 | _=>cases y<;>exact Zus
def qF:#[abZ,XT]:=by
 intro pins s σ H x y v u Q I rx ry h;obtain⟨hs,q⟩:=h
 cases x with
 | non =>
  cases rx
  cases y with
  | non=>cases ry;exact #[kU,PySem.EqNone.ne_none_none]
  | bl j=>cases ry;exact #[kU,PySem.EqNone.ne_none_bool]
  | int j=>obtain⟨t',rfl⟩:=ry;exact #[kU,PySem.EqNone.ne_none_int]
  | str j=>obtain⟨t',rfl⟩:=ry;exact #[kU,PySem.EqNone.ne_none_str]
  | _=>exact Zus
 | bl i =>
  cases rx
  cases y with
  | non=>cases ry;exact #[kU,PySem.EqNone.ne_bool_none]
  | bl j=>cases ry;exact #[Hl,ne_bool,Mi]
  | str j=>obtain⟨t',rfl⟩:=ry;exact #[kU,PySem.EqMixed.ne_bool_str]
  | _=>exact Zus
 | int i =>
  obtain⟨t,rfl⟩:=rx
  cases y with
  | non=>cases ry;exact #[kU,PySem.EqNone.ne_int_none]
  | int j=>obtain⟨t',rfl⟩:=ry;exact #[Hl,ne_int,Je]
  | str j=>obtain⟨t',rfl⟩:=ry;exact #[kU,PySem.EqMixed.ne_int_str]
  | _=>exact Zus
 | str i =>
  obtain⟨t,rfl⟩:=rx
  cases y with
  | non=>cases ry;exact #[kU,PySem.EqNone.ne_str_none]
  | bl j=>cases ry;exact #[kU,PySem.EqMixed.ne_str_bool]
  | int j=>obtain⟨t',rfl⟩:=ry;exact #[kU,PySem.EqMixed.ne_str_int]
  | str j=>obtain⟨t',rfl⟩:=ry;exact #[Hl,ne_str,Jf]
  | _=>exact Zus
 | byt i =>
  obtain⟨t,rfl⟩:=rx
  cases y with
  | byt j=>obtain⟨t',rfl⟩:=ry;exact #[Hl,PySem.W.ne_bytes,Jd]
  | _=>exact Zus
 | _=>cases y<;>exact Zus
def ve:#[ab0,.Lt,i<j]:=#[yb,Ti,lt_int]
def Am:#[ab0,.LtE,i<=j]:=#[yb,Ti,le_int]
def Ri:#[ab0,.Gt,j<i]:=#[yb,Ti,gt_int]
def CD:#[abX,.In,#[aOA,ZaQ1]]:=by
 intro pins s σ H x y v u Q I rx ry h;obtain⟨i,j,rfl,rfl,q⟩:da:=h;obtain⟨t,rfl⟩:=rx;obtain⟨t',rfl⟩:=ry;exact #[kT,in_str,rfl]
def Eb:#[abY,#[aOA,!(ZaQ1)]]:=by
 intro pins s σ H x y v u Q I rx ry h;obtain⟨i,j,rfl,rfl,q⟩:da:=h;obtain⟨t,rfl⟩:=rx;obtain⟨t',rfl⟩:=ry;exact #[kT,notIn_str,rfl]
def aE (b:Expr){op:CmpOp}(h:Zazo:=by decide)(h2:Zazp:=by decide):ZHZ:=by
 have e1:ZazA:=by cases op<;>first | rfl | exact #[ic,h]
 have e2:ZazB:=by cases op<;>first | rfl | exact ZU0
 cases b<;>simp[behindInMarks,e1,e2]
def yp [96]:PE X ZaVe ZaaB:=by
 intro pins s σ H Q I h;exact ZaUO (RY ha hb I h ZaWb) hm
abbrev Ru (t:TE):TT:=#[IV,fun x H'=>Xg Q x H']
def ar [96]:PT X ZaVe (Ru (Ut r ta tb)):=by
 intro pins s σ H Q I h
 refine wpAny_isTrue_Compare1 (bD ZE4 fun v s1 ZX6=>bD ZawF fun u s2 Zay7 =>
  #[aRl,fun c s3 ZaOw=>?_]) hm
 subst e;cases r3;exact ZK ⟨H3,I3,q3⟩
abbrev TM (r r':R2)(ta tb tc:TE):TE:=fun σ H Q=>ta σ H fun x H1=>tb σ H1 fun y H2=>r x y H2 fun z H3=>∃ k,z=.bl k /\
 #[fw,Zqp,tc σ H3 fun w' H4=>r' y w' H4 Q,Q (.bl Zaz) H3]
def Aw {op op':CmpOp}{r r':R2}(ho:ZaF7)(ho':#[abX,op',r'])(ha:ZHd)(hb:Zyg)(hc:PE X c tc)
  (hm:lastMarks [op,op'] [b,c]=Zaz:=by with_unfolding_all rfl):PT X (ZaVd a [op,op'] [b,c] pos) (Ru (TM r r' ta tb tc)):=by
 intro pins s σ H Q I h
 refine isTrue_chain (bD ZE4 fun v s1 ZX6=>test_link (bD ZawF fun u s2 Zay7 =>
  #[aRl,fun d s3 ZaOw=>?_])) hm
 subst e;cases r3;refine ZK ?_
 cases k with
 | false =>
  obtain⟨k',e',q'⟩:=q3;cases e';exact ite_ff ⟨H3,I3,q'⟩
 | true =>
  refine ite_tt (test_last (bD (hc Zai s3 σ H3 _ I3 q3) fun w' s4 zz=>?_));obtain ⟨z',H4,I4,r4,q4⟩:=zz;refine bD (ho' Zai s4 σ H4 y z' u w' _ I4 r2 r4 q4) fun d' s5 zz=>?_;obtain ⟨z2,H5,I5,r5,k2,e2,q5⟩:=zz;subst e2;cases r5;exact ZK ⟨H5,I5,q5⟩
abbrev UI [37][394](k:Bool):Zaa :=
 match x with
 | ZaJ=>ZTj
 | ZES=>k=b
 | ZjN=>k=(i != 0)
 | Zax y=>ZaIV
 | .byt y=>ZaIW
 | ZbH=>#[aVj,ZGa,ZWs]
 | _=>False
def Hj {κ:ZfK}[10]:(!vs.isEmpty) = ZaVf:=by
 cases r<;>rfl
def zu [41][396](r:Zwr):(ZaVg) = ZaVh:=by
 cases r<;>simp
def vW:(Zpi:Nat)<2 ^ 63:=#[sO,Y6]
def Ub:Wl X (fun x H Q=>∃ k,UI X.K x H k/\Q k H):=by
 intro pins s σ H x v Q I rx h;obtain⟨k,e,q⟩:ak:=h;have hl:=vW;have hs:Zpk:=Y6
 cases x with
 | non =>
  cases rx;have e':ZTj:=e;subst e';exact truthy_none ⟨H,I,q⟩
 | bl b =>
  cases rx;have e':k=b:=e;subst e';exact ZK ⟨H,I,q⟩
 | int i =>
  obtain⟨t,rfl⟩:=rx;have e':k=(i != 0):=e;subst e';exact PySem.P.truthy_int ⟨H,I,q⟩
 | str y =>
  obtain⟨t,rfl⟩:=rx;obtain⟨hy,e'⟩:ZaIV:=e;subst e';exact PySem.P.truthy_str (Zaf) ⟨H,Zq4,q⟩
 | byt y =>
  obtain⟨t,rfl⟩:=rx;obtain⟨hy,e'⟩:ZaIW:=e;subst e';exact PySem.W.truthy_bytes (Zaf) ⟨H,Zq4,q⟩
 | ref p =>
  cases rx;have e':#[aVj,cC X.K H p xs,bL X.K H p xs]:=e;rcases e' with ⟨xs,hx,e'⟩ | ⟨xs,hx,e'⟩ | ⟨kvs,hx,e'⟩
  ·subst e'
   refine #[K8,hx,Zu_];have hlen:=r.length;exact wpAny_truthy_list ZgN (ZaVk) ZaCI
  ·subst e'
   refine #[gg,hx,Zu_];have hlen:=r.length;exact truthy_tuple pl (ZaVk) ZaCI
  ·subst e'
   obtain⟨hz,hS,vs,r,m⟩:ZaQa:=Zbp p _ hx;have hlen:ZiR:=Zj0;exact wpAny_truthy_dict hS m Zag ⟨H,Zq4,#[aX,Hj r,q]⟩
 | _=>exact (show False from e).elim
def Gj [201](he:∀ whole,Zzf a ZaG whole=(do let v <-whole;#[nw,a.pos];ZaNW)) :
  PT X a (#[IS,ta,fun x H'=>∃ k,UI X.K x H' k/\Q k H']):=by
 intro pins s σ H Q I h;exact isTrue_plain (bD ZE4 fun v s1 zz=>by obtain ⟨x,H1,I1,r1,q1⟩:=zz;exact #[RV,Ub,x,v]) (he _)
def iX {x:V}[24](r:Zat5):ZaOJ:=by
 cases r with
 | cons r1 r2=>cases r2;exact #[c9,r1]
def VL {x y:V}[24](r:ZaFw):∃ u w',us=[u,w']/\Zlt/\bo y w':=by
 cases r with
 | cons r1 r2 =>
  cases r2 with
  | cons r3 r4=>cases r4;exact au _ _ rfl r1 r3
inductive QI [12]:Zaa
 | mk (i:_)(j:_)(_:xs=#[bP,i,j])(_:#[fG,(if j>i then j else i)])
def Kq [131]:#[nM,"max",QI]:=by
 intro pins s σ H xs us Q I r h;obtain⟨i,j,rfl,q⟩:=h;obtain⟨u,w',rfl,b_,c_⟩:da:=VL r;obtain⟨t,rfl⟩:=b_;obtain⟨t',rfl⟩:=c_;refine max_two_ints (ZI6 hc) fun h' tk k=>au _ H (Zph k) ?_ q
 by_cases hj:j>i
 ·rw[ZrE,ZrE];exact ZbG
 ·rw[X8 hj,X8 hj];exact ZbG
#where
structure GQ [130](x dx C:Addr)(mA:Zm5):Zaa where
 obj:#[bD,ZcG,Zamg]
 ns:ZZX
 ne:ZWT
set_option tactic.hygienic true
def Cu [150]{dx:Addr}[451](n:ZZX):#[aVo,#[nG,dx,od]]:=by
 obtain⟨o,es,ep,ho,hd,hk,_,hm⟩:fF:=n;refine #[bm,o,ho,fun name=>?_];have e:=hm Zdh;unfold nsFind findBy at e;rw[<-Array.find?_toList]at e;unfold PySem.W.lookIn;rw[hd];dsimp only;split
 ·rename_i y q
  rw[q]at e;exact ZZi
 ·rename_i q
  rw[q]at e
  have a:es.toList.any (·.refKey)=false:=by
   rw[List.any_eq_false];intro y hy;refine Pl (hk y (Array.mem_toList_iff.mp hy)) fun z t cv2=>?_;simp[DictEntry.refKey,cv2]
  have a':¬ es.toList.any (·.refKey)=true:=#[aqP,a]
  rw[X8 a'];exact ZZi
set_option tactic.hygienic false
def GQ.look [150]{x dx C:Addr}[451](I:GQ h x dx C mA):#[aVo,Zzk h x Zamg C #[cx,od]] :=
 let ⟨od,ho,hl⟩:=Cu I.ns
 ⟨od,#[c_,I.obj,rfl,ho],hl⟩
section
variable {prog:Program}{w:World}{A:Around}{E:Zfh}{s:Shared}{K:ge}{x dx C f:Addr}{mA:Zm5}{name:Str}{v:Value}
def PD {expr:Bool}{Q:Zfh}(X:Zl5)(I:ZaaH)(hg:ZayZ)(hh:Za02)
  (ha:#[a2f,Zdh,Zac]) (hv:mA Zdh=Zab v) (hv':#[asE,v]) (h:Q v ZaUC) :
  #[tc,(Zab' Zli Zdh expr)]:=by
 refine ZYO;exact PySem.W.get_value X J ZaVm (PySem.W.findObj_own hh ha rfl #[g',hl,hv]) hv' h
def MC {pl:ZoL}{Q:ZaEJ}(X:Zl5)(I:ZaaH)(hg:ZayZ)
  (hf:#[a2f,Zdh,ZCt]) (ht:Zyj) (hv:mA Zdh=Zac) (h:Q (Zaj f,[Zaj x]) s) :
  #[tc,#[OG,Zli,Zdh]]:=by
 refine ZYO;exact PySem.W.method_fn X J ZaVm (ZaVl hg).2 hf (ZI8 ht) (by show (ZaVn Zdh od).map (·.isSome)=Zab Zaz;rw[hl,hv];rfl) h
def QO {ns:Zbe}{Q:Zfi}(X:Zl5)(I:ZaaH)
  (hs:Za2h) (hp:Za3Y) (ht:#[aMa,Zdh]) (hh:Za02)
  (hw:PySem.Within mA ns) (hsz:Zash)
  (h:#[a3a,GQ h' x dx C (#[gO,#[ek,y=Zdh,v,mA y]]),dx,Q () #[Ki,Zca+2]]) :
  #[aFt,Zdh]:=by
 refine ZYO;refine #[aE_,hs,(PySem.W.osa_open (s:=ZaUC) (r:=Zac) X J hp ht fun b=>?_)];refine #[wb,hh,fun cd hc hd'=>?_];have hx:Zb0 x=some ⟨ZjJ,Zab dx,.plain,#[]⟩:=I.obj;refine #[a0E,#[aoG,hc]];rw[hd'];refine Yg (a:=Zab dx) (X5 (Yg (X5 ?_)));refine ZaVp (s:=ZaUC) I.ns fun h' hn2 S_=>?_;refine #[aPb,(ZaVq Zdh v hw)];refine #[aMj,#[nk,YF]];exact Yg (h _ ⟨(S_.2 _ (Yz I.ne)).trans I.obj,hn2,I.ne⟩ S_)
def MY {R:ZlF}{vs:ZbS}{kw:Zqi}(X:Zl5)(hm:Za31)
  (hi:Za2m) (hf:#[a3K,Znd])
  (h:codeAny Ztb #[Pb,⟨ZjJ::vs,kw⟩] (ZI9 #[ak,f] ⟨Zaj (ZdC)::vs,kw⟩) (PySem.W.InitBack Zig R)
   ZaQS) :
  #[te,(ZI9 #[ak,C] ⟨vs,kw⟩)]:=by
 obtain⟨hh,g,d,t,os⟩:=s;exact PySem.W.make_core (PySem.W.makes_of X hm) (Zaca X hi) (fun self=>PySem.W.bind_fn X ZsY hf) Zf' h
#where
abbrev dE [397](v:V):Zjg->Zjg
 | []=>[(f,v)]
 | (g,x)::r=>#[b4,g=f,(g,v)::r,(g,x)::dE f v r]
def aK (f g:Str)(v:V):∀ fs:Zjg,#[e9,ZGt] g=#[ek,g=f,v,ZI_ g]
 | []=>by
  show Zacb g [(f,v)]=_
  by_cases h:g=f
  ·have hb:#[h9,g,f]:=ZS3
   simp only[List.lookup,hb,ZcE]
  ·have hb:#[kN,g,f]:=ZS1
   simp only[List.lookup,hb,Zco]
 | ZTI=>by
  have ih:=aK f g v r;rw[Zaar]
  by_cases hk:k=f
  ·rw[ZEu]
   by_cases h:g=k
   ·have hb:#[h9,g,k]:=ZS3
    simp only[List.lookup,hb,Yb (h.trans hk)]
   ·have hb:#[kN,g,k]:=ZS1
    simp only[List.lookup,hb,#[asr,h (e.trans hk.symm)]]
  ·rw[ZEp]
   by_cases h:g=k
   ·have hb:#[h9,g,k]:=ZS3
    simp only[List.lookup,hb,#[asr,hk (h.symm.trans e)]]
   ·have hb:#[kN,g,k]:=ZS1
    simp only[List.lookup,hb];exact ih
def vT [397](v:V):∀ fs:Zjg,f∈#[Gt,0].map (·.1)/\∀ g,g∈fs.map (·.1)->g∈#[Gt,0].map (·.1)
 | []=>⟨ZaVr,#[zl,ZgP]⟩
 | ZTI=>by
  obtain⟨i1,i2⟩:=vT f v r;rw[Zaar]
  by_cases hk:k=f
  ·rw[ZEu]
   subst hk;exact#[N0,#[zl,Zzm]]
  ·rw[ZEp]
   refine#[wA,#[zl,?_]]
   ·rw[Ys]
    exact Yh _ i1
   ·rw[Ys]at h ⊢
    rcases ZwX with e | e
    ·exact Zacd (Zal e)
    ·exact Yh _ (i2 g e)
def xH [397](v:V):∀ fs:Zjg,#[jS,ZGt,Zd6]
 | []=>ZaVr
 | ZTI=>by
  have ih:=xH f v r;rw[Zaar]
  by_cases hk:k=f
  ·rw[ZEu,YF,YF];lia
  ·rw[ZEp,YF,YF];lia
def mZ.some_of {v:V}{o:Zm4}(r:mZ (Zab v) o):∃ u,o=Zab u/\Zep:=by
 cases o with
 | none=>exact Zsd
 | some u=>exact #[hn,u,r]
def mZ.none_of {o:Zm4}(r:mZ Zac o):o=Zac:=by
 cases o with
 | none=>rfl
 | some u=>exact Zsd
def KN {v:V}[160](r:Zep):#[asE,u]:=by
 cases v with
 | non=>cases #[u0,Zavb];rfl
 | bl b=>cases #[u0,u=ZabC b];rfl
 | int i=>obtain⟨t,e⟩:=Zayf;cases e;rfl
 | str x=>obtain⟨t,e⟩:=Zaye;cases e;rfl
 | byt b=>obtain⟨t,e⟩:=#[C6,ZaUf b t];cases e;rfl
 | flt b=>obtain⟨t,e⟩:=#[C6,ZaUg b t];cases e;rfl
 | ref a=>cases #[u0,ZMV];rfl
 | ty n=>cases #[u0,Za2K];rfl
section
variable {P:Program}{w:World}{H H':Hp}{h h':Heap}{a C dx:Addr}{fs fs':Zjg}
def Dw (hok:ZF4)(e:ZOz):∃ mA,GQ h a dx C mA/\ZaAW/\PySem.Within mA (fs.map (·.1))/\Zd6<=ZbY/\Zazw:=by
 refine qo (#[eP,#[nS,ZOy],hok a _ e]) fun d z ne ob a_=>?_;obtain⟨mA,n,r,q⟩:az:=a_;exact ⟨mA,⟨ob,n,ne⟩,r,q,z,d⟩
#where
structure IZ [37][35]:Zaa where
 pg:Zay0
 hd:Za02
 po:Za3Y
 sa:Za2h
def IZ.get [323][186](c:ZWn)[397]:#[CM,C,f]:=c.pg
abbrev gq [37][35][397]:Zaa:=Za2k
def gq.taker [323][186]{f:Str}(n:ZZc):#[aMa,f]:=by
 unfold PySem.W.takerIn;rw[show Za2k from n];rfl
structure OZ [37][429](f:Addr):Zaa where
 at_:Za2l
 fn:Zyj
 kp:Za2O
section
variable {X:Cx}{pins:ZdT}{σ:St}{H:Hp}{s:Shared}{a C dx:Addr}{fs:Zjg}{f:Str}{v:V}{A:Around}{E:Zfh}
def He {b:Bool}{Q:Zfh}(I:ZhY)(e:ZOz)(c:ZoT)(n:Zayi)(l:ZaGo)
  (h:∀ u s',ZDl->Zep->Q u s'):#[t2,(Zab' ZbV f b)]:=by
 refine ZaKb;refine #[apl,mA f,#[gf,l,r f],ZOM];exact PD ZgQ O (c.get f) c.hd n hu (KN ru) (h u _ Zg8 ru)
def zo {m:Str}{g:Addr}{pl:ZoL}{Q:ZaEJ}(I:ZhY)(e:ZOz)(c:ZoT)(k:OZ X.K C m g)(l:ZaBi)
  (h:Q (Zaj g,Zik) s):#[t2,#[OG,ZbV,m]]:=by
 refine ZaKb;have hn:mA m=Zac:=#[go,mZ.none_of,l,r m];exact MC ZgQ O (c.get m) k.at_ k.fn hn h
def IC {y:V}{u:Value}{Q:Zfi}(I:ZhY)(e:ZOz)(c:ZoT)(n:Zayi)(hl:ZauU)(ry:Zgl)
  (h:#[x3,#[cl,#[bJ,a,Zau5],s']]):#[t2,(setAttr ZbV f u)]:=by
 refine #[app,fun mA O r wi _ ho=>?_]
 have hz:(fs.map (·.1)).length<=sizeLine:=#[po,X7,Y6]
 refine QO ZgQ O c.sa c.po n.taker c.hd wi hz fun h' O' sb=>ZPG;have hd:∃ o,Zd8 dx=Zab o:=let ⟨o,_,_,e',_⟩:=O'.ns;#[ft,e'];refine I.write (x:=a) (e:=dx) (by rw[e];exact True.intro) (Zaq ho) #[aDN,sb.2] hd ?_;refine kK #[oh,O.ne,ho] ?_ O.ne O'.obj #[ce,O'.ns,#[gR,?_],#[iP,?_]]
 ·have:=xH f y fs;lia
 ·show mZ (#[e9,(dE f y fs)] g) #[fw,g=f,ZSw,mA g]
  rw[aK]
  by_cases q:g=f
  ·rw[Yb q,Yb q];exact ry
  ·rw[X8 q,X8 q];exact r g
 ·by_cases q:g=f
  ·rw[q];exact #[aGD,0].1
  ·refine #[aGD,0].2 g (wi g #[aV,hg ?_])
   show (#[ek,g=f,u,mA g])=Zac
   rw[X8 q];exact z
def aS.made [2]:aS X pins σ (upd #[bJ,Zar,(Zes (ZdC))] Zig (Zde C Zar []))
  ZaQS:=by
 have e1:#[ago,0].get? Zar=Zab Zace:=Ym ZaE rfl
 have e2:(ZanV (ZI' C Zar)).get? Zig=Zab #[amf,Zar]:=by
  have:=Ym Zago (o:=ZI' C Zar) rfl
  rwa [YR]at this
 have e3:#[aA0,#[ago,0].Ns]:=eI PySem.W.emptyDict (#[]) _ e1 rfl Zaze ZoI;have I1:=Zpp (a:=Zar) (o:=Zes (ZdC)) (h':=#[agn,Zace]) (t':=Zca) (ZOn) Zbz #[a7,e1];refine Zzo (a:=ZdC) (o:=Zde C Zar []) (t':=Zca) (ZOn) (ZaVs (YR _ _)) ?_;have ne:Zar≠ZdC:=Yo (aQg _);refine kK #[qV,ne] ZqG ne e2 ⟨ZQk,(ZaVu e3).at fun o q=>Zjo,#[dL,Zacf],#[kl,#[ic,hy]]⟩
def O6 {prog:Program}{w:World}{env:Env}{e:Expr}{f:Str}{pos:Pos}{s:Shared}{Q:Zfh}(hb:ZaVv e f env #[im,e]=ZaFN)
  (h:#[fl,Ztb,#[im,e],(fun o s₁=>#[x',(Zab' o f Zad),Ze_])]):#[tc,#[im,(ZyP e f pos)]] :=
 Attribute_any_ h (#[b1,arm_eval_Attribute,hb])
#where
inductive XF [37][397](Q:VK)[394]:Zaa
 | mk (a C dx:Addr)[241](v:V)[273](c:ZWn)(n:ZZc)(l:ZaGo)(h:Zxo)
abbrev WZ [37](ta:TE)[397]:TE:=#[IU,XF K f Q x H1]
abbrev WR [37](ta tv:TE)[397]:TS:=fun D σ H=>tv σ H fun y H1=>ta σ H1 fun x H2=>∃ a C dx fs,ZeX/\H2 a=Zab ZOy/\ZWn/\ZZc/\ZauU /\
 #[m9,(upd H2 a Zau5)]
section
variable {X:Cx}{o e value:Expr}{f:Str}{pos pos' aq1:Pos}{ta tv:TE}
def cu (he:PE X e ta)(hb:#[aVw,e,f,e,ZTh]):#[ny,ZyP,e,f,(WZ X.K ta f)]:=by
 intro pins s σ H Q I h;refine O6 hb ZRb;obtain ⟨x,H1,I1,rx,a,C,dx,fs,v,ex,ea,c,n,l,q⟩:=zz;subst ex;obtain rfl:ZMV:=rx;exact He I1 ea c n l fun u' s2 I2 ru=>au v H1 I2 ru q
def iq [86]:#[aKu,(WR X.K ta tv f)]:=by
 intro pins s σ H D I h;refine ZaJS;obtain ⟨y,H1,I1,ry,q⟩:=zz;refine ZaPX;obtain ⟨x,H2,I2,rx,a,C,dx,fs,ex,ea,c,n,l,q2⟩:=zz;subst ex;obtain rfl:ov=Zeu a:=rx;exact IC I2 ea c n l ry #[acg,#[fE,σ,I3,q2]]
#where
structure dJ (k:Nat)(A:Around):Zaa where
 hd:Zeo
 dp:ZJa+3*k+5<ZaVy
 un:Zl_+16*k+200<ZiF
def dJ.mono {j k:Nat}[325](h:j<=k):dJ j A:=⟨r.hd,ZaVz,ZaVA⟩
def dJ.deeper [398](env:Env):#[P8,env] :=
 ⟨r.hd,by have:=r.dp;show ZJa+1+3*k+5<_;lia,by have:=r.un;show Zl_+3+16*k+200<_;lia⟩
def Hq [297]:#[Pc,0].depth=ZJa+1:=by
 first | rfl | simp[Around.under,Code.weight,Code.isCreation,Code.isGuard,Code.isCaller,Code.frames,Code.isFrame,guardIds]
def Hr [297]:#[Pc,0].units=Zl_+1:=by
 first | rfl | simp[Around.under,Code.cUnits,Code.frames,Code.isFrame]
def dJ.make [398][330]:dJ k ZPc :=
 ⟨r.hd,by have:=r.dp;rw[Hq];lia,by have:=r.un;rw[Hr];lia⟩
def dJ.depth {k:Nat}[325]:ZJa<ZaVy:=ZaVz
def dJ.units {k:Nat}[325]:Zl_+64<ZiF:=ZaVA
abbrev q8:TA:=#[abU,[]]
abbrev nu (ta:TE)(tr:TA):TA:=#[IU,tr σ H1 fun xs H2=>Q (ZgB) H2]
section
variable {X:Cx}{e:Expr}{es:Zbh}{te:TE}{t:TA}{pos:Pos}
def aV:PA X [] q8:=#[aq7,Zu]
def aj (ha:ZgC)(hr:Zxq)(hs:Zm8:=by rfl):PA X Zcy (nu te t):=by
 intro pos pins s σ H Q I h;rw[hs]
 show #[qc,(ZIQ (ZmX::Zzp pos (Zkm es ZaG)))]
 refine Y2 (bD #[Bh,ha] Zh8);obtain ⟨x,H1,I1,r1,q1⟩:=zz
 exact bD ZaKq fun us s2 zz=>by obtain ⟨xs,H2,I2,r2,q2⟩:=zz;exact ZaQB
abbrev VG (t:TA):TE:=#[aMw,Zbb]
abbrev Ot (t:TA):TE:=#[aMw,ZaI]
def bO {x1}(h:Zxq):#[ny,ZJb,es,x1,(VG t)]:=by
 intro pins s σ H Q I hq;refine #[aTs,wpAny_Tuple_spliced];have hf:Zavk:=ZavG;refine #[aRY,Zbb];exact ⟨z,us,r,ZPZ⟩
def dq (h:Zxq):PE X #[C',pos] (Ot t):=by
 intro pins s σ H Q I hq;refine #[aTs,wpAny_List_spliced];have hf:Zavk:=ZavG;refine #[aRY,ZaI];exact gU z us 0 r Zgb
#where
noncomputable abbrev Sp:=Zbg->Hp->#[cd,VK,XK]
noncomputable abbrev wQ:=ZbA->Hp->Shared->XK->Zfh
structure C5 [4][76]:Zaa where
 frames:ZaVB=Zab ZbU
 mod:Zavp
 bs:#[atg,ZaA8]
 bsz:base.objs.size<=Zar
 funs:Zach ZaP ZbU
 frf:∀ b∈ZuE,ZbW
 hok:#[qM,ZaE]
 bare:ZavU
abbrev CE [298](u:Value)[118]:Zaa :=
 ∃ v H',ZJd=s.os/\Zagl/\ZaP4/\ZaML/\Zep/\Q v H'
abbrev CR (CX:wQ)[298](E:XK)(r:Result)[118]:Zaa :=
 match r with
 | .ok (ZfO u)=>ZaOx
 | ZwQ=>False
 | Zasu=>CX ZbU H s E e s'
structure aT [4](CX:wQ)(k:Nat)(f:Addr)(fd:FuncData)[161](sp:Sp):Zaa where
 len:ZOk
 run:∀ [76](args:Args)[110][348](Q:VK)(E:XK),ZFd->Zall->ZsZ s fd ZfQ (Zpq us)->ZoK->ZlS ->
  Zl' Ztd A (ZI9 #[ak,f] ZfQ) (CR CX ZbU P w H s Q E) s
def C5.make [418][34]{outer:ZbA}[266][42](e:Zall)[330] :
  #[alk,ZPc]:=⟨by first | exact e.frames | (simpa [Around.under,Code.envs,Code.isFrame,pushEnvs] using e.frames),e.mod,e.bs,e.bsz,e.funs,e.frf,e.hok,e.bare⟩
section
variable {X:Cx}{pins:ZdT}{σ:St}{H:Hp}{s s':Shared}
def aS.env0 [2]:C5 ZbC X.w X.K ZbK Zev X.A Zc1 s H :=
 ⟨ZJe,Zacl,I.bs,ZaIa,I.stack,Zacm,Zbp,ZsS⟩
def aS.after {Q:VK}[160][2](h:CE Zc1 ZbC X.w H s Q u s'):#[lx,u,s']:=by
 obtain⟨v,H',os,bare,un,hok,r,q⟩:kf:=h;obtain⟨hh,g,d,t,os'⟩:=s';obtain rfl:ZaA3:=os;exact au v H' (I.call (h':=hh) (g':=g) (d':=d) (t':=t) (ch:=[]) un hok Zma (ZaDQ)) r q
#where
abbrev CS [157](t:TA):TE:=#[agB,sp Zrd H1 Q E]
inductive XG [429][157](t:TA)(σ:St)(Q:VK)[394]:Zaa
 | mk (a dx:Addr)[241][273](l:ZaBi)(h:t σ H fun vs H2=>sp (x::Zrd) H2 Q E)
abbrev Kb [429][157](ta:TE)(t:TA):TE:=#[IU,XG C m sp T_ E t σ Q x H1]
abbrev GE [35][157](t:TA):TE:=fun σ H Q=>t σ H fun vs H1=>∀ x dx,#[nv,x]->ZUZ->ZWT ->
 #[aR1,(upd H1 dx (Zes x))]
abbrev fb [37](fd:FuncData)[161](ds:ZbS):Zaa :=
 ∀ [135][110],Zl5->ZayN->ZsZ s fd Zjz (Zpq (us++ds))
def fb.all [323]{fd:FuncData}{ps:Zbe}(h:∀ us:ZbS,#[NQ,ZaVD fd Zjz=Zaio]):ZNF:=fun s us _ hl=>by
 rw[Zd]at hl ⊢;exact Zacn (h us hl)
abbrev fE (CX:wQ)[81](E:XK):Zaa:=∀ [430][326],ZaRD
section
variable {X:Cx}{CX:wQ}{k:Nat}{f C:Addr}{fd:FuncData}{ps:Zbe}{sp:Sp}{T_:Zbg}{ds:ZbS}{E:XK}{x m:Str}{p pos apos:Pos}{e o:Expr}{es:Zbh}{ta:TE}{t:TA}
def Eh {pins:ZdT}{σ:St}{H:Hp}{s:Shared}{Q:VK}{us:ZbS}{vs:Zbg}(F:ZNB)(hr:Zd4)(hb:ZlR)(hd:ZlU)(hx:ZfJ)
  (I:ZhY) (r:ZoK) (h:sp Zrd H Q E):#[MJ,(ZgM #[ak,f] us)]:=by
 have r2:bw (vs++T_) ZC8:=Zzr hd
 have hl:ZayN:=#[aV_,h]
 refine #[ai1,Zzs X.A Zc1 s H Zjz ZC8 Zrd Q E hr I.env0 (hb s us ZgQ hl) r2 h]
 cases r with
 | error e=>exact #[RW,H,s,I]
 | ok fl =>
  cases fl with
  | ret u=>exact I.after hq
  | next=>exact ZsV
  | brk=>exact ZsV
  | cont=>exact ZsV
def JO (F:ZNB)(hr:Zd4)(hg:ZcF)(hm:ZavA)(hk:Za2Q)(hb:ZlR)(hd:ZlU)(hx:ZfJ)
  (ha:ZfI) (z_:Zt_:=by decide) (he:Zm8:=by rfl) (r_:ZBG (·.1)=false:=by rfl) :
  #[qU,(CS sp T_ E t)]:=by
 intro pins s σ H Q I h;refine ZlW;refine ZaCu;exact Eh F hr hb hd hx I1 r q
def Nn (F:ZNB)(hr:Zd4)(hg:ZcF)(hm:ZavA)(hk:Za2Q)(hb:ZlR)(hd:ZlU)(hx:ZfJ)
  (z_:Zt_:=by decide):PE X (Zcu Zk6 [] [] pos) (CS sp T_ E q8):=by
 intro pins s σ H Q I h;refine ZlW;exact #[aVI,hk,Eh (us:=[]) F hr hb hd hx I Zao h]
def Qk {pl:ZoL}(he:ZxO)(c:ZoT)(hm:OZ X.K C m f)(F:ZNB)(hr:Zd4)(hb:ZlR)(hd:ZlU)(hx:ZfJ)(ha:ZfI)
  (hst:Zm8:=by rfl) (r_:ZBG (·.1)=false:=by rfl)
  (ht:ZaAv=(do
   let ov <-Zvb
   Zxy
   let (f,first) <-Zalh
   Za2u):=by rfl) :
  #[Ih,Zcy,T_,t]:=by
 intro pins s σ H Q I h;refine ZaCM;obtain ⟨x,H1,I1,rx,a,dx,fs,ex,ea,l,q⟩:=zz;subst ex;obtain rfl:ZMV:=rx;refine ZaSw;refine Zacp (first:=Zik) (h₀:=Zev) Zzt hm.kp (bD #[ap3,ha,q] fun us s2 ⟨vs,H2,I2,r,q2⟩=>#[bF,ZJf]) hst r_;exact Eh (us:=Zcm::us) (vs:=Zcm::vs) F hr hb hd hx I2 (ZaD rfl r) q2
def Nr {pl:ZoL}(he:ZxO)(c:ZoT)(hm:OZ X.K C m f)(F:ZNB)(hr:Zd4)(hb:ZlR)(hd:ZlU)(hx:ZfJ)
  (ht:ZaAu=(do
   let ov <-Zvb
   Zxy
   let (f,first) <-Zalh
   Za2v):=by rfl) :
  #[Ih,[],T_,q8]:=by
 intro pins s σ H Q I h;refine ZaCM;obtain ⟨x,H1,I1,rx,a,dx,fs,ex,ea,l,q⟩:=zz;subst ex;obtain rfl:ZMV:=rx;refine ZaSw;exact ZaVH (first:=Zik) Zs0 hm.kp (Eh (us:=Zik) (vs:=Zik) F hr hb hd hx I1 Zau6 q)
structure Mk [37](C f:Addr):Zaa where
 makes:Za31
 init:Za2m
 fn:Zyj
 kp:Za2R
def Go {pins:ZdT}{σ:St}{H:Hp}{s:Shared}{Q:VK}{us:ZbS}{vs:Zbg}(M:ZWG)(F:ZNB)(hr:ZG2)(hb:ZlR)(hd:ZlU)
  (hx:ZfJ) (I:ZhY) (r:ZoK)
  (h:∀ x dx,ZDj->Zar_->ZWT->#[aR1,(upd H dx (Zes x))]) :
  #[MJ,(ZgM #[ak,C] us)]:=by
 have hq:=h Zig Zar (Zl6 (aQd _)) ZuS ZaFs;have I2:=aS.made (C:=C) I;have r2:bw (ZaS (ZdC)::Zrd) ZaEC:=ZaD rfl (Zzr hd)
 have hl:#[Dr,(ZDA::us++ds)]:=by
  have e:=r2.length;rw[#[hf,Zzu,hq]]at e;exact e.symm
 refine ZI (MY (f:=f) I.kIn M.makes M.init (ZI8 M.fn) (Ze (F.run _ X.stack _ _ #[dX,ZDA::us] ZaEC _ _ E (hr.make C us [])
  #[azS,us] (hb _ (ZDA::us) ZJf hl) r2 hq) fun r s' hq'=>?_))
 cases r with
 | error e=>exact hx Zai σ _ _ e s' I2 hq'
 | ok fl =>
  cases fl with
  | ret u =>
   refine #[aY0,fun v H' I3 rv ev q3=>?_];subst ev;exact⟨rv,au (ZaS (ZdC)) H' I3 rfl q3⟩
  | next=>exact ZXi
  | brk=>exact ZXi
  | cont=>exact ZXi
def Qj (M:ZWG)(F:ZNB)(hr:ZG2)(hg:ZcF)(hm:ZFy)(hb:ZlR)(hd:ZlU)(hx:ZfJ)
  (ha:ZfI) (z_:Zt_:=by decide) (he:Zm8:=by rfl) (r_:ZBG (·.1)=false:=by rfl) :
  #[qU,(GE C sp T_ E t)]:=by
 intro pins s σ H Q I h;refine ZlW;refine #[acq,M.kp,ZapC];exact Go M F hr hb hd hx I1 r q
def Gg (M:ZWG)(F:ZNB)(hr:ZG2)(hg:ZcF)(hm:ZFy)(hb:ZlR)(hd:ZlU)(hx:ZfJ)
  (z_:Zt_:=by decide):PE X (Zcu Zk6 [] [] pos) (GE C sp T_ E q8):=by
 intro pins s σ H Q I h;refine ZlW;exact #[aVI,M.kp,Go (us:=[]) M F hr hb hd hx I Zao h]
#where
abbrev PK [81](kws:ZuK)(t:TA):Zaa :=
 ∀ (pos:Pos)[1][294],ZhY->Zok->wpAny Zt0 X.A (evalAll (Za2w (·.2))) Zaum X.xe s
section
variable {X:Cx}{CX:wQ}{k:Nat}{f C:Addr}{fd:FuncData}{ps ks:Zbe}{sp:Sp}{E:XK}{x m:Str}{p pos apos ck2:Pos}{e o:Expr}{es:Zbh}{kws:ZuK}{te ta:TE}{t tk:TA}{nm:#[gF,Str]}
def Tu:PK X [] q8:=#[aq7,wpAny_evalAll_nil]
def Qq (ha:ZgC)(hr:PK X kws t):PK X (⟨nm,e,ck2⟩::kws) (nu te t):=by
 intro pos pins s σ H Q I h
 show wpAny _ _ (evalAll ((do let v <-ZTh;#[nw,pos];Zb2 v)::Za2w (·.2))) _ _ s
 refine wpAny_evalAll_cons (X5 #[Bi,ha,fun u s1 ZX6=>X5 (Zb (Yg ?_))])
 exact bD ZaKq fun us s2 zz=>by obtain ⟨xs,H2,I2,r2,q2⟩:=zz;exact ZaQB
variable {g:ZbS->ZbS->ZbS}{gV:Zbg->Zbg->Zbg}
#where
structure aw (N P:Zbe)[393]:Zaa where
 kind:ZsN
 co:ZWg
 gen:ZWh
 nd:N.Nodup
 pre:ZaLu
 par:Zaq8
 nofree:Za27
def B9 [92]:#[aTj,#[WI,binds]]
 | [],_,_=>rfl
 | (n,v)::r,m,h=>by
  unfold bindL;rw[#[aDR,B9]];split
  ·have:x≠n:=by rintro rfl;exact h v Ye
   simp[this]
  ·rfl
def B7 [92]:#[aTj,#[WJ,binds]]
 | [],_,_=>rfl
 | (n,v)::r,m,h=>by
  unfold bindC;rw[#[aDR,B7]];split
  ·rfl
  ·have:x≠n:=by rintro rfl;exact h v Ye
   simp[this]
def B8 [92][310]:∀ [274],P.Nodup->Zas2->ZJh->#[BB,Zmb] ->
  #[WI,ZaEl]=Zab v
 | [],_,_,_,_,h,_,_=>ZgP
 | ZcX,[],_,_,_,_,h,_=>ZgP
 | p::P,ZF6,0,m,nd,h1,h2,hk=>by
  simp at h1 h2;subst h1;subst h2
  show #[aL7,bindL]
  unfold bindL;rw[#[a4z,B9],ZEu];simp
 | p::P,ZF6,i+1,m,nd,h1,h2,hk=>by
  show #[WI,ZRP]=_
  unfold bindL;exact #[aQ2,B8]
def B6 [92][310]:∀ [274],P.Nodup->Zas2->ZJh->Zmb x≠Zab Zmc ->
  #[WJ,ZaEl]=Zab v
 | [],_,_,_,_,h,_,_=>ZgP
 | ZcX,[],_,_,_,_,h,_=>ZgP
 | p::P,ZF6,0,m,nd,h1,h2,hk=>by
  simp at h1 h2;subst h1;subst h2
  show #[aL7,bindC]
  unfold bindC;rw[#[a4z,B7],ZEp];simp
 | p::P,ZF6,i+1,m,nd,h1,h2,hk=>by
  show #[WJ,ZRP]=_
  unfold bindC;exact #[aQ2,B6]
abbrev sP (N:Zbe)[348]:St:=ZaiJ++ZaVJ (Zacr-ZiQ) Zac
abbrev uG [231](f:Addr)(cd:Value)[76](E:XK):Cx where
 prog:=P
 w:=w
 K:=K
 mg:=mg
 base:=base
 A:=Zzv (Zacs Zbt ZbL Zar f cd)
 N:=N
 s₀:=s
 H₀:=H
 env:=ZaRQ
 outer:=outer
 stack:=ZaRQ::ZbU
 ex:=[]
 calm:=true
 fn:=#[dL,Zad]
 pn:=[]
 xe:=#[aQ3,(Zzv Zacu),Zacu]
def Fd [399][162][425](h:ZPH):#[D3,#[e9,(ZaVL n Zzw [])]]:=by
 have q:=ZaVN Zzw n [] (Zal h);exact Zzx q
def KQ {CX:wQ}{P:Program}{w:World}{K:ge}{mg:Zm5}{base:Heap}{N ps:Zbe}{qual:Str}{scope:Scope}{f:Addr}{cd:Value}{A:Around}{outer:ZbA}{s s1:Shared}{H:Hp}{E:XK}{us:ZbS}{vs:Zbg}
  (S:ZaNi) (hd:Zeo) (e0:Zall) (hl:ZOe) (r:ZoK)
  (x:InCallC s Zar #[aLs,bindL] ZaVM #[aLs,bindC] s1) :
  #[aM1,cd]:=by
 have r_:ZfR<=Zacr:=by have:=#[xL,S.pre];rw[YL]at this;lia
 obtain⟨h1,tk,rfl,hk⟩:bU:=x.done;have noA:#[aK1,#[RG,cd]]:=ZNx
 refine⟨#[aYV,fun y z c h1 h2=>?_,ZQl,fun y c _ h=>?_],
  rfl,e0.bare,ZabG,#[c8,x.toInCall.ns,(fun i y v h1 h2 h3=>?_)],fun y c h=>#[a7,x.cell y c h],ZaVQ,fun y c h=>?_,Zah3,Zavt,?_⟩
 ·exact name_of_addr x.apart (Zj h1) (Zj h2)
 ·have hy:#[au7,Ze']\/#[au7,ZfS]:=hy
  rcases hy with hy | hy
  ·exact Fd hy
  ·exact #[ic,(S.nofree _ (Zj hy))]
 ·exact Zzb (x.above y c (Zj h))
 ·have hi:ZTf:=by
   unfold sP at h2
   by_cases hi:ZTf
   ·exact hi
   ·rw[ZN (ZaVO)]at h2
    rw[List.getElem?_replicate]at h2;split at h2<;>cases h2
  have ha:ZJh:=by
   unfold sP at h2;rw[Zz (ZaVO),YC]at h2
   cases e:ZJg with
   | none=>rw[e]at h2;cases h2
   | some a=>rw[e]at h2;cases h2;rfl
  refine ZaNr
  have hp:#[k7,ps[i]?]:=by
   rw[<-S.pre,ZasQ];exact h1
  have ndP:ps.Nodup:=#[dM,S.pre,S.nd.sublist (List.take_sublist _ _)]
  refine #[br,u,rv];rcases ZJi y (Yy hp) with k | k
  ·exact #[gc,k,B8 ndP hp hu k]
  ·obtain⟨c,e⟩:=Fd (n:=ZdC) k
   refine #[ls,ZEI,c,e,?_];have q:=x.cell y c e;rw[B6 ndP hp hu (by show Zs1 y≠_;rw[k];decide)]at q;exact q
 ·exact ZaVP (Zzb (x.above y c (Zj h)))
 ·unfold sP
  show _=Zacr
  rw[Yr,X7,List.length_replicate]
  lia
def Mv {CX:wQ}{P:Program}{w:World}{K:ge}{mg:Zm5}{base:Heap}{k:Nat}{f:Addr}{name qual:Str}{params:Arguments}{body:Zel}{scope:Scope}{dV kV doc pm h_ ct oc:Value}{an od:ZgH}
  {osl:ZoX} {N ps:Zbe} {sp:Sp} (lk:#[ajY,ZaSo]) (Y_:ZXh) (S:ZaNi)
  (len:ZOk)
  (P_:∀ (A:Around)(outer:ZbA)(s:Shared)(H:Hp)(vs:Zbg)(Q:VK)(E:XK),#[P8,#[act,ZbL,h_]]->ZlS ->
   ∃ t,BZ (#[uH,CX,ZbL,h_,s,H]) Zet t/\ZRS) :
  #[aRk,(ZaSo)]:=by
 refine⟨len,#[aVR,?_]⟩;have hl:=ZaF3;have KX:Zl5:=e0.mod.kin.keeps Zalu;have lim:s.heap.NoLimit:=ZaVS Zalu
 have cx0:∀ y∈Zpq us,#[Ox,Zs1]\/(Zs1 y.1=Zab Ze'/\#[k1,(#[e9,ZaVM] y.1)]):=fun ⟨n,v⟩ hy=>by
  rcases ZJi n #[a4y,hy] with q | q
  ·exact ZEJ
  ·exact Zaq ⟨q,ZaVN _ _ _ (Zal q)⟩
 refine #[aSP,codeAny_call_function,KX,lk,(PySem.W.codeRec_of KX Y_)];refine wpAny_newFunctionEnv_cells Zs2 cx0 fun env he s1 x=>?_;subst he;refine⟨lim.keeps x.toInCall.keep,codeAny_func ?_⟩;refine ZaPx;have I:#[aM1,h_]:=KQ S Zzy e0 hl r x;refine YA (ht [] s1 ZOK H _ I hq) (fun fl s' hs=>?_) fun e s' hs=>hs
 have fin:∀ {σ':St}[427]{v:V}[160],aS #[RG,h_] [] σ' H' s'->Zep->Q v H'->ZaOx :=
  fun {σ' H' v u} J rv q=>ZaTu
 cases fl with
 | ret u =>
  obtain⟨v,σ',H',J,rv,q⟩:fA:=hs;exact fin J rv q
 | next =>
  obtain⟨σ',H',J,q⟩:bU:=hs;exact fin (v:=Zs3) (u:=ZiL) J rfl q
 | brk =>
  obtain⟨_,_,_,q⟩:bU:=hs;exact Zas'
 | cont =>
  obtain⟨_,_,_,q⟩:bU:=hs;exact Zas'
section
variable {X:Cx}{x:Str}{p pos:Pos}{e:Expr}{es:Zbh}{t:TA}{id T:String}{r:Zawh}
abbrev WV [417](t:TA):TE:=#[agB,r vs H1 Q]
def bc (hc:#[nM,id,r])(hg:ZcF)(hm:Zye)(hv:#[afu,Zavw])(ha:ZfI)(hn:Za3r:=by decide)(z_:Zt_:=by decide)
  (he:Zm8:=by rfl) (r_:ZBG (·.1)=false:=by rfl):ZaGR:=by
 intro pins s σ H Q I h;refine Zaat;exact PyProof.Rows.callWith_builtin1 (bD ZahI fun us s1 zz=>by obtain ⟨vs,H1,I1,r1,q1⟩:=zz;exact ZaNG) he r_
def dU (hc:ZaHO)(hg:ZcF)(hm:Zye)(hv:ZayD)(ha:ZfI)(hn:Za3r:=by decide)(z_:Zt_:=by decide)
  (he:Zm8:=by rfl) (r_:ZBG (·.1)=false:=by rfl):ZaGR:=by
 intro pins s σ H Q I h;refine Zaat;exact Zc (bD ZahI fun us s1 zz=>by obtain ⟨vs,H1,I1,r1,q1⟩:=zz;exact ZaNG) he r_
def Ar (hc:ZaHO)(hg:ZcF)(hm:Zye)(hv:ZayD)[341](z_:Zt_:=by decide) :
  PE X (Zcu Zk6 [] [] pos) (WV r q8):=by
 intro pins s σ H Q I h;refine Zaat;exact PyProof.Rows.callWith_type0 (hc Zai s σ H [] [] Q I Zao h)
#where
#print L2
namespace HT
open PySem PyProof.Rows
section
variable {prog:Program}{w:World}{A:Around}{E:Zfh}{s:Shared}
def cat_tup {t b:Addr}{vs ws:ZbS}{Q:Zfh}(ht:Zy4 ZaE t Zs4)(hb:Zy4 ZaE b ZJj)(hv:vs≠[])
  (h1:ws=[]->#[b8,t,s]) (h2:#[aun,ws≠[],#[aDk,Zawv]])
  (hsz:#[pj,ZiQ+Zacv]):#[tc,(ZaVT .Add #[ak,t] Zlq)]:=by
 refine jB (id ht) fun a_ ho hc n hd=>?_;obtain⟨cls,dd,data,sl⟩:=a_;refine jB (id hb) fun a_ ho2 hc2 n2 hd2=>?_;obtain⟨Pb,dd2,data2,sl2⟩:=a_;simp only at hc hd hc2 hd2;subst hc hd hc2 hd2
 have e:Zs4++ZJj=#[hH,Zawv]:=ZaM
 by_cases hw:ws=[]
 ·exact concat_meets ZatU ZatV noFill_tuple_add seq_tuple_add PySem.F.slot_tuple_add PySem.F.entry_tuple_add Zatr
   (tuple_addW1 t b Zs4 ZJj n n2 dd dd2 sl sl2 (ZJk) (by simp[hw])) ⟨ho,ho2,h1 hw⟩
 ·refine concat_meets ZatU ZatV noFill_tuple_add seq_tuple_add PySem.F.slot_tuple_add PySem.F.entry_tuple_add Zatr
   (tuple_addW2 t b Zs4 ZJj n n2 dd dd2 sl sl2 (ZJk) (Zacw) #[rj,Yq,Yq,hsz]) #[br,ho,ho2]
  rw[e];exact h2 hw
abbrev sIx (n d:Nat):ZgI->Nat
 | none=>d
 | ZjV=>#[b4,v<0,(v+Zcg).toNat,ZW5]
def sIx_none (n d:Nat):sIx n d Zac=d:=rfl
def sIx_nat (n d k:Nat):sIx n d (Zab ZaO)=min k n:=by
 show #[n0,ZaO<0,(ZaO+Zcg).toNat,min #[aO,0].toNat n,min k n]
 rw[ZS9,Int.toNat_natCast]
def sIx_le (n d:Nat)(hd:d<=n)(o:ZgI):sIx n d o<=n:=by
 cases o with
 | none=>exact hd
 | some v =>
  show #[fw,v<0,(v+Zcg).toNat,ZW5]<=n
  by_cases hv:v<0
  ·rw[Yb hv];lia
  ·rw[X8 hv];exact Nat.min_le_right _ _
def Jb (v:Int)(n d:Nat):#[aPQ,#[a1,sIx n d (Zab v)]]:=by
 show #[aPQ,#[a1,#[fw,v<0,(v+Zcg).toNat,ZW5]]]
 by_cases hv:v<0
 ·simp only[Yb hv];lia
 ·simp only[X8 hv];lia
def GS [69][38]:ZaVX lo hi 1 Zcg=(ZHI,ZaHn):=by
 have h1:¬ (Zg9<0):=Zaf
 unfold Builtin.Slice.sliceAdjust;simp only[h1,if_false];refine ZaVY ?_ ?_
 ·cases lo with
  | none=>rfl
  | some v=>exact Jb v n 0
 ·cases hi with
  | none=>rfl
  | some v=>exact Jb v n n
def Ic (i j:Nat):Zacy Zh3 ZSc 1=j-i:=by
 unfold Builtin.Slice.slicePlaces
 have h1:Zg9>0:=Zaf
 simp only[h1,ZQ,Int.ediv_one];split<;>lia
def AK [310]{o:ZgI}{Q:#[fg,ZgI]}(p:ZJl v o)(h:Q o s):#[tc,(Builtin.Slice.slicePartIndex v)]:=by
 cases p with
 | none=>exact ZaVZ h
 | int i t=>exact slicePart_int h
def wK {sl:Addr}{vl vu:Value}{lo hi:ZgI}{n:Nat}{Q:#[fg,Int×Int×Nat]}(hs:Zaa6)(pl:ZZF)(pu:ZZG)
  (h:Q (ZHI,1,sIx n n hi-sIx n 0 lo) s):#[tc,(Builtin.Slice.sliceApplied #[ak,sl] (Zb2 Zcg))]:=by
 refine ZaMh;unfold Builtin.Slice.sliceApplied Builtin.Slice.sliceFields;refine X5 (X5 (#[gd,hos,hds,vl,(X5 (#[gd,hos,hds,vu,(X5 (#[gd,hos,hds,Zan,Zrc]))]))]));refine #[k_,ZaVZ]
 show #[aj_,#[h9,Zg9,0]]
 rw[Zgx];refine X5 (AK pl (X5 (AK pu Zaz6)))
 show wpAny _ _ (match ZaVX lo hi 1 Zcg with | (lo,hi)=>Zb2 (lo,Zg9,Zacy lo hi 1)) _ _ s
 rw[GS lo hi n]
 show #[qc,(Zb2 (ZHI,Zg9,Zacy ZHI ZaHn 1))]
 rw[Ic];exact Yg h
def NA [364](i k:Nat):#[hH,(#[zB,(Zkn k)] ZaK3)]=#[hH,((xs.toList.drop i).take k)]:=by
 have e:#[aEN,ZaK3]:=by
  funext m
  have:Zapv=i+m:=Zaf
  rw[this]
 rw[e];have:=ZaV0 xs i k;rw[List.filterMap_map]at this;have e2:#[aEN,(#[b5,xs[x]?]) ∘ #[b5,i+x]]:=rfl;rw[e2]at this;rw[this]
def getItem_tuple_cut {t sl:Addr}{items:Zhz}{vl vu:Value}{lo hi:ZgI}{Q:Zfh}(ht:Zy4 ZaE t ZfN)(hs:Zaa6)(pl:ZZF)(pu:ZZG)
  (hw:¬ (ZqE=0/\ZqX=ZfT))
  (h:#[atq,#[aDk,ZaV2]])
  (hsz:ZSY):#[tc,(Zs5 #[ak,t] ZarI)]:=by
 have aj1:sizeOk (ZaT #[hH,(#[vB,ZaV1,sIx,ZfT] (ZqX-ZqE))]):=by
  show #[pj,#[aV2,0].toArray.size]
  rw[Yq,YL,YH,YS]
  lia
 have hj:ZqX<=ZfT:=sIx_le _ _ Zbz hi;refine ZaMh;have hTs:#[Ke,sl,"slice"]:=⟨os,hos,hcs⟩;unfold getItem
 try with_reducible refine ZoD
 first | refine ZFB | skip
 refine X5 (wpAny_sequenceKey Zacz ZaF ?_)
 refine X5 (Zr (name:=ZfU ZaV3) ht.typeIs PyProof.Rows.slot_tuple_getitem
  (ZD PyProof.Rows.slot_tuple_getitem Zacz entry_tuple_getitem ?_ (args_tuple_getitem _ _)))
 show #[qd,Builtin.Tuple.tupleItemsOf #[ak,t]]
 refine X5 (tupleItemsOf_ ht ?_);refine X5 (ZaV5 hTs ?_);rw[ZT0];refine X5 (wK hs pl pu ?_)
 have hno:¬ (ZaS4):=by
  intro q;rw[Y4,Y4]at q;have q1:Zaod=0:=ZJm Zqk;have q2:ZqX-ZqE=ZfT:=ZJm q.2;exact hw ⟨Zaf,Zaf⟩
 show #[aj_,ZaS4]
 rw[X8 hno,NA]
 first
  | exact #[Gw,ZaPy]
  | exact #[Gw,(Za (X5 (Yg (Yg ZQB))) aj1)]
  | exact X5 (#[Gw,(Za (Yg (Yg ZQB)) aj1)])
  | exact X5 (#[Gw,ZaPy])
#where
#print HT
namespace L2
open PySem PySem.Spec PyProof.Rows
noncomputable abbrev TO:=St->Hp->(#[dW,ZgI])->Zaa
abbrev PO [81](e:ZSL)(t:TO):Zaa :=
 ∀ [1](Q:Zas8),ZhY->Zok ->
  #[t1,(evalPart e ZaG),(fun u s'=>∃ o H',#[Hb,ZJl u o,o])]
abbrev Kc:TO:=#[abU,Zac]
abbrev Ou (t:TE):TO:=#[IT,t,∃ i,Zsb/\Q (Zab i) H1]
section
variable {X:Cx}{e:Expr}{te:TE}{lo hi:ZSL}{tl th:TO}{pos p2:Pos}
def vh:PO X Zac Kc:=by
 intro pins s σ H Q I h;rw[evalPart_none];exact Yg (au Zac H I Zan h)
def gH (h:ZgC):PO X #[cx,e] (Ou te):=by
 intro pins s σ H Q I hw;rw[evalPart_some];refine bD (h Zai s σ H _ I hw) Zh8;obtain ⟨x,H1,I1,r1,q1⟩:=zz;obtain⟨i,rfl,q⟩:ak:=q1;obtain⟨t,rfl⟩:=r1;exact au #[cx,i] H1 I1 ZCz q
abbrev UG [81][243]:Zaa :=
 ∀ [1](x:V)(v vl vu:Value)[69](sl:Addr)(Q:VK),ZhY->Zd1->Zaa6->ZZF->ZZG->r x lo hi H Q ->
  ∃ T id,ZaV4/\ZaGL/\#[MJ,(Zs5 v ZarI)]
abbrev Xr [243][329](tl th:TO):TE:=#[IW,tl σ H1 fun l H2=>th σ H2 fun u H3=>r x l u H3 Q]
def iL {r:ZZg}(hr:UG X r)[119](hl:PO X lo tl)(hu:PO X hi th):#[Jv,e,ZaRe,(Xr r te tl th)]:=by
 intro pins s σ H Q I h;refine ZacA (bD #[Bh,he] Zib);obtain ⟨x,H1,I1,r1,q1⟩:=zz;refine wpAny_Slice (bD #[vi,hl] fun vl s2 zz=>?_);obtain ⟨l,H2,I2,pl,q2⟩:=zz;refine #[aaV,hu,fun vu s3 zz=>?_];obtain ⟨u,H3,I3,pu,q3⟩:=zz;rw[evalPart_none];refine Zog;have I4:aS X pins σ H3 { s3 with heap:=s3.heap.push { cls:=ZSX,data:=ZaL #[vl,vu,Zan] } }:=I3.kept (t':=ZacB) Zalv;refine da (hr pins { s3 with heap:=s3.heap.push { cls:=ZSX,data:=ZaL #[vl,vu,Zan] } } σ H3 x v vl vu l u s3.heap.objs.size Q I4 r1 (Heap.IsSliceOf.new ..) pl pu q3) fun T id hT ht hg=>?_
 show wpAny Zt0 X.A (ZaV7 e ZaRe v #[ak,ZJn]) ZMI X.xe { s3 with heap:=s3.heap.push { cls:=ZSX,data:=ZaL #[vl,vu,Zan] } }
 exact tail_any (ops:=[Zaj ZJn,v]) ht hT hg (by with_unfolding_all rfl)
abbrev xZ [36][69]:Zbg:=#[aQf,ZabD]
def xy [36][69]:#[bc,ZXZ,ZaR]:=by
 unfold xZ;rw[YL,YH]
 lia
abbrev Vg [37]:ZZg:=fun x lo hi H Q=>∃ a xs,ZeX/\Ziq /\
 ¬ (ZQ9=0/\ZRA=ZaR)/\#[NL,#[k9,p,ZXZ]]
def ID:UG X (Vg X.K):=by
 intro pins s σ H x v vl vu lo hi sl Q I rx hs pl pu h;obtain⟨a,xs,rfl,hx,hw,q⟩:cg:=h;cases rx;refine #[gg,hx,#[aV8,?_]]
 have hlen:Zmd=ZaR:=#[aW,Yq,r.length.symm]
 refine au ZfW _ PyProof.Rows.slot_tuple_getitem.lookup Zacz ?_;refine HT.getItem_tuple_cut ht hs pl pu #[aX,Zme,hw] ?_ #[aX,Zme,hz];rw[hlen];refine #[aR3,Zbb];exact #[fE,YU (xy xs lo hi) hz,#[aQf,r.drop],ZT1]
abbrev Vb [37]:R2:=fun x y H Q=>∃ a b xs ys,ZeX/\ZxY/\Ziq/\bL K H b ys/\xs≠[]/\#[ayB,Zko] /\
 (ys=[]->#[b8,a,H])/\(ys≠[]->#[V_,(Zbb (xs++ys))])
def bw.nil_iff [374](r:ZfC):us=[]↔xs=[]:=by
 cases r with
 | nil=>simp
 | cons _ _=>simp
def Qc:#[aVV,(Vb X.K)]:=by
 intro pins s σ H x y v u Q I rx ry h;obtain⟨a,b,xs,ys,a_,b_,ha,hb,hx,hz,q1,q2⟩:=h;subst a_;subst b_;cases rx;cases ry;refine #[gg,ha,fun e_ r1 p1 _=>?_];refine #[gg,hb,fun aq4 r2 p2 _=>?_];refine HT.cat_tup p1 p2 #[bx,hx (r1.nil_iff.mp z)] #[bx,au ZbV H I rfl (q1 (r2.nil_iff.mp z))] Zie (by rw[<-r1.length,<-ZaV9];exact hz);refine #[ap9,Zbb (xs++ys),(q2 (fun w=>z (r2.nil_iff.mpr w)) _ ZuS)];exact #[fE,#[aX,Yr,hz],r1.append r2,ZT1]
#where
abbrev Rc [38](i:Int):#[gF,Nat]:=#[b4,0<=i,(#[afl,i<n,ZzC]),#[afl,ZXD,(i+n).toNat]]
abbrev Kl [151](xs:Zd2)(i:Int):#[gF,α]:=(Rc ZaR i).bind fun j=>ZzD
def PM [162]{i:Int}{j:Nat}(h:Rc n i=Zab j):#[aIq,n]/\j<n/\ZXD/\i<n:=by
 unfold Rc at h
 by_cases h0:0<=i
 ·rw[Yb h0]at h
  by_cases h1:i<n
  ·rw[ZwO]at h
   have e:Zazi:=Yk h;exact #[rm,#[g',ZaV' h0 h1,e],Zag,h1]
  ·rw[Zrz]at h;cases h
 ·rw[X8 h0]at h
  by_cases h1 : ZXD
  ·rw[ZwO]at h
   have e:(i+n).toNat=j:=Yk h;exact #[rm,#[g',#[axm,h1],e],h1,Zag]
  ·rw[Zrz]at h;cases h
def Db [151]{xs:Zd2}{i:Int}{v:α}(h:Kl xs i=Zab v):∃ j,#[aIq,ZaR]/\Zau8/\ZatM/\-(ZaR:Int)<=i/\ZrK:=by
 unfold Kl at h
 cases e:Rc ZaR i with
 | none=>rw[e]at h;cases h
 | some j =>
  rw[e]at h;refine #[aLA,PM,e];exact ⟨j,h1,h,h2,h3,h4⟩
def bR [151]{xs:Zd2}{j:Nat}{v:α}(h:Zau8):Kl xs ZSc=Zab v:=by
 have hj:ZatM:=ZTy
 have e:Rc ZaR ZSc=Zab j:=by
  unfold Rc;rw[ZTo,ZTo];simp
 unfold Kl;rw[e];exact h
def L8 [151](xs:Zd2)(v:α):Kl ZGP (-1)=Zab v:=by
 have hl:#[aZ,ZGP]=ZaR+1:=ZaM
 have e:Rc #[aZ,ZGP] (-1)=Zab ZaR:=by
  unfold Rc;rw[hl,Zgx,ZTo]
  congr 1
  lia
 unfold Kl;rw[e]
 show #[np,ZGP[xs.length]?]
 simp
abbrev O1 (b:Expr):Zaa:=∀ o i,ZJq b Zaz o i=ZacE [o,i] ZaHH
abbrev Um [81](r:R2):Zaa :=
 ∀ (value slice:Expr)[208],ZhY->Zd1->Zgl->r x y H Q ->
  ZJq Zs6 Zaz v u=ZacE [v,u] (Zs5 v u)->#[MJ,(ZaV7 Zmf Zs6 v u)]
abbrev Xc [81](id:String)[210]:Zaa :=
 ∀ [360],ZhY->Zd1->ZfC->ZaAq ->
  ZaMr
section
variable {X:Cx}{a b:Expr}{ta tb:TE}{pos:Pos}
def bP {r:R2}(hr:Um X r)[201](hb:Zyg)(hs:O1 b):#[Jv,a,b,ZaaB]:=by
 intro pins s σ H Q I h;exact ZacA (RY ha hb I h #[aWa,hr a b Zai s2 σ H2 x y v u Q I2 rx ry q (hs _ _)])
inductive Xz [37][267]:Zaa
 | mk [227](q:ZGa)[365]
abbrev Vd [37]:R2:=#[aQ0,Xz]
inductive XA [37][267]:Zaa
 | mk [227](q:ZWs)[365]
abbrev Ve [37]:R2:=#[aQ0,XA]
abbrev WO:R2:=fun x y H Q=>∃ z i c,ZGR/\y=Zae i/\Zpn/\Kl Zmg i=Zab c/\Q (Zax ⟨#[c]⟩) H
def rm:Um X (Vd X.K):=by
 intro value slice pins s σ H x y v u Q I rx ry h hs;obtain⟨p,xs,i,z,rfl,rfl,hq,he,q⟩:=h;cases rx;obtain⟨t,rfl⟩:=ry;refine ZUQ;refine ZaaQ;refine ZaNq;have hl:=r.length;have hn:=vW;have fin:#[lx,w,s]:=ZaIB
 by_cases h0:0<=i
 ·have hj:Zazi:=by
   rw[ZaV' h0 h5]at h1;exact Yk h1
  exact item_listR ZgN h0 Zag (#[aWc,hj]) fin hs
 ·have hj:(i+(Zmd:Int)).toNat=j:=by
   rw[#[axm,h4]]at h1;rw[Yq,<-hl];exact Yk h1
  exact subscriptTail_builtinR (x:=w) pl.isList.typeIs slot_list_getitem.lookup
   (wpAny_getItem_list_neg (Q:=ZaIg) ZgN Zag (by rw[Yq]<;>lia) Zag (#[aWc,hj]) Zatb) hs
def bB:Um X (Ve X.K):=by
 intro value slice pins s σ H x y v u Q I rx ry h hs;obtain⟨p,xs,i,z,rfl,rfl,hq,he,q⟩:=h;cases rx;obtain⟨t,rfl⟩:=ry;refine ZVg;refine ZaaQ;refine ZaNq;have hl:=r.length;have hn:=vW;have fin:#[lx,w,s]:=ZaIB
 exact subscriptTail_builtinR (x:=w) pl.typeIs slot_tuple_getitem.lookup
  (getItem_tuple (j:=j) (Q:=ZaIg) pl Zag Zag (#[acF,Yq,hl,h1]) (by simpa using ew) Zatb) hs
def MP:Um X WO:=by
 intro value slice pins s σ H x y v u Q I rx ry h hs;obtain⟨z,i,c,rfl,rfl,hz,he,q⟩:fF:=h;obtain⟨t,rfl⟩:=rx;obtain⟨t',rfl⟩:=ry;refine ZaaQ
 have hl:ZaeH:=by simp[Str.length]
 rw[hl]at h1 h4 h5;have hn:=vW
 exact tail_any (ZacG s z t) slot_str_getitem.lookup (getItem_str (c:=c) (by
  have e1:#[AY,i < -(2 ^ 63:Int)]:=ZEV;have e2:#[AY,i>=2 ^ 63]:=ZEV
  rw[e1,e2,Bool.or_false]) (by rw[h1];simpa using h2) (au (Zax ⟨#[c]⟩) H Zg8 ZbG q)) hs
def Ex [69][38]:#[aa0,0].1=Zask/\#[aa0,0].2.1=#[a1,ZHx]/\#[aa0,0].2.2=1:=by
 refine #[eM,?_,?_]
 ·cases lo with
  | none=>simp[sliceBounds,HT.sIx]
  | some i =>
   simp only[sliceBounds,HT.sIx,Option.getD_none,Zah9,ZQ]
   by_cases h:i<0
   ·simp only[h,ZQ]<;>lia
   ·simp only[h,if_false]<;>lia
 ·cases hi with
  | none=>simp[sliceBounds,HT.sIx]
  | some i =>
   simp only[sliceBounds,HT.sIx,Option.getD_none,Zah9,ZQ]
   by_cases h:i<0
   ·simp only[h,ZQ]<;>lia
   ·simp only[h,if_false]<;>lia
def BN (e_:ZbS)[69]:slicePick Zci lo hi Zac=#[aNT,e_.drop,Zmh,Zmh,Zmh,Zmh]:=by
 refine fz (Ex lo hi Zmd) fun h1 h2 h3=>?_;unfold slicePick;rw[h1,h2,h3];simp only[sliceRange_one,pick_run,Yq]<;>rfl
inductive WQ [37][268]:Zaa
 | mk [88][36](_:ZeX)(_:Zip)(_:#[NL,#[we,p,ZXZ]])
def JX:UG X (WQ X.K):=by
 intro pins s σ H x v vl vu lo hi sl Q I rx hs pl pu h;obtain⟨a,xs,rfl,hx,q⟩:=h;cases rx;refine #[K8,hx,#[aV8,?_]];have hlen:=r.length;refine au Zds _ slot_list_getitem.lookup ht.isList.typeIs ?_;refine wpAny_getItem_list_slice ht.isList hs pl pu Zan ZaN ?_ (by rw[Yq]<;>lia);rw[BN,<-hlen];refine #[aR3,ZaI];exact gU (YU (xy xs lo hi) hz) _ 0 (#[vB,r.drop,ZiS,ZaR] (ZRA-ZQ9)) Zgb
abbrev qr:V->ZbB
 | ZaJ=>true
 | ZlB=>true
 | Ziw=>true
 | Zgu=>true
 | _=>false
abbrev GM:ZaGm
 | ZaJ,ZaJ=>true
 | .bl a,ZES=>ZXo
 | .bl a,ZEv=>(if a then 1 else 0) == b
 | Zgk,ZES=>a == (if b then 1 else 0)
 | Zgk,ZEv=>ZXo
 | Zax a,Zax b=>ZXo
 | _,_=>false
def G8 [34][266][175][252](rx:Zd1)(fy:ZayF)(fx:ZUv):#[a3j,(GM y x)]:=by
 cases y with
 | non =>
  cases ry
  cases x with
  | non=>cases rx;exact Zar1
  | bl b=>cases rx;exact SeqAt.EqAt.none_bool b
  | int b=>obtain⟨t,rfl⟩:=rx;exact SeqAt.EqAt.none_int b t
  | str b=>obtain⟨t,rfl⟩:=rx;exact SeqAt.EqAt.none_str b t
  | _=>exact ZFj
 | bl a =>
  cases ry
  cases x with
  | non=>cases rx;exact SeqAt.EqAt.bool_none a
  | bl b=>cases rx;exact SeqAt.EqAt.bool_bool a b
  | int b=>obtain⟨t,rfl⟩:=rx;exact SeqAt.EqAt.bool_int a b t
  | str b=>obtain⟨t,rfl⟩:=rx;exact SeqAt.EqAt.bool_str a b t
  | _=>exact ZFj
 | int a =>
  obtain⟨t',rfl⟩:=ry
  cases x with
  | non=>cases rx;exact SeqAt.EqAt.int_none a t'
  | bl b=>cases rx;exact SeqAt.EqAt.int_bool a t' b
  | int b=>obtain⟨t,rfl⟩:=rx;exact SeqAt.EqAt.int_int a t' b t
  | str b=>obtain⟨t,rfl⟩:=rx;exact ZaUd a t' b t
  | _=>exact ZFj
 | str a =>
  obtain⟨t',rfl⟩:=ry
  cases x with
  | non=>cases rx;exact SeqAt.EqAt.str_none a t'
  | bl b=>cases rx;exact SeqAt.EqAt.str_bool a t' b
  | int b=>obtain⟨t,rfl⟩:=rx;exact ZaUe a t' b t
  | str b=>obtain⟨t,rfl⟩:=rx;exact SeqAt.EqAt.str_str a t' b t
  | _=>exact ZFj
 | _=>exact #[ur,show Zh1 from fy]
abbrev Po (x:V)(u:Value):Bool:=match u with
 | Zan=>GM ZaJ x
 | ZET=>GM (.bl b) x
 | Zae i _=>GM (Zae i) x
 | Zax z _=>GM (Zax z) x
 | _=>false
def Mq {x y:V}[160](r:Zgl)(f:ZayF):Po x u=ZRp:=by
 cases y with
 | non=>cases r;rfl
 | bl b=>cases r;rfl
 | int i=>obtain⟨t,rfl⟩:=r;rfl
 | str z=>obtain⟨t,rfl⟩:=r;rfl
 | _=>exact #[ur,show Zh1 from f]
def Da {x:V}:#[aDT,us.any ZPu=xs.any Zaq4]
 | _,_,Zao,_=>rfl
 | y::xs,ZxC,ZlQ,f=>by
  rw[List.all_cons,Y4]at f;rw[ZG,ZG,ZaF5,Da t f.2]
def zI [34][266]{x:V}[310](rx:Zd1)(fx:ZUv):#[aDT,#[a3m,(Po x u)]]
 | _,_,Zao,_=>fun u hu=>by cases hu
 | y::xs,ZxC,ZlQ,f=>fun u' hu=>by
  rw[List.all_cons,Y4]at f;rcases ZcI hu with rfl | hu
  ·rw[ZaF5];exact G8 r rx f.1 fx
  ·exact zI rx fx t f.2 u' hu
abbrev MM (x:V)[36]:Bool:=xs.any Zaq4
inductive XS [37][232]:Zaa
 | mk [89][36](_:y=ZbH)(_:(ZGa\/ZWs))(_:ZUv)(_:ZaoH)(_:#[aw8,! MM x xs,MM x xs])
def wC:#[abX,.In,(XS X.K Zaz)]:=by
 intro pins s σ H x y v u Q I rx ry h;obtain⟨p,xs,rfl,hq,fx,fs,q⟩:=h;cases ry;rcases hq with hq | hq
 ·refine ZUQ
  refine #[aTa,SeqAt.in_listAt,ZgN];rw[ZaOX,Da r fs];exact q
 ·refine ZVg
  refine #[aTa,SeqAt.in_tupleAt,pl];rw[ZaOX,Da r fs];exact q
inductive Ij [377]:Zaa
 | mk [233](_:#[fG,Zko])
def eG:#[FQ,ZzE,Ij]:=by
 intro pins s σ H xs us Q I r h;obtain⟨p,ys,rfl,hq,q⟩:=h;obtain⟨u,rfl,rx⟩:ak:=ZfH;cases rx;have hn:=vW;rcases hq with hq | hq
 ·refine Zai3
  have hlen:=r'.length;exact Calls.call_len_list ZgN (ZJr) ZaPW
 ·refine Zai4
  have hlen:=r'.length;exact len_tuple pl (ZJr) ZaPW
inductive Ik [12]:Zaa
 | mk (z:_)(_:xs=[Zu'])[452](_:#[fG,Zb6])
def jU:#[nM,ZzE,Ik]:=by
 intro pins s σ H xs us Q I r h;obtain⟨z,rfl,hz,q⟩:=h;obtain⟨u,rfl,t,rfl⟩:Mo:=ZfH;have hn:=vW;exact len_str (Zaf) #[qW,(Zae Zb6),ZbG]
inductive Il [377]:Zaa
 | mk [233](_:#[CR,ZaB5])
def n6:gW X #[ed,Zds] (Il X.K):=by
 intro pins s σ H xs us Q I r h;obtain⟨p,ys,rfl,hq,q⟩:=h;obtain⟨u,rfl,rx⟩:ak:=ZfH;cases rx
 have fin:∀ (e_:ZbS),ZazF->ZSZ->∀ (h':Heap)(c':Nat),(ZaK4) ->
   ZVV=some { cls:=Zdt,dict:=none,data:=ZaT Zci c',slots:=#[] }->#[lx,ZcU,Zkq]:=fun e_ r' hz h' c' kp e =>
  (au ZcU _ (#[aPL,ZPv,gU hz e_ c' r' e]) rfl Zwn)
 rcases hq with hq | hq
 ·refine Zai3
  have hlen:=r'.length;refine jB ZgN fun o ho hc n hd=>?_;exact #[aTG,Zf']
 ·refine Zai4
  have hlen:=r'.length;obtain⟨o,ho,hc,n,hd⟩:jB:=pl;exact #[aTG,(Zaq rfl)]
inductive xQ [377]:Zaa
 | mk (p:_)(ys:_)[74](_:((cC K H p ys/\#[CR,#[k9,l,ys]])\/(ZaAc/\#[b8,p,H])))
def jp:gW X ZasW (xQ X.K):=by
 intro pins s σ H xs us Q I r h;obtain⟨p,ys,rfl,h⟩:=h;obtain⟨u,rfl,rx⟩:ak:=ZfH;cases rx;rcases h with ⟨hq,q⟩ | ⟨hq,q⟩
 ·refine Zai3
  have hlen:=r'.length;refine call_tuple_list ZgN (fun h' kp=>?_) (ZJr);have I1:Zw5:=Zph (t':=Zca) kp
  have I2:#[cl,#[k9,ZiT,ys],#[kp,ZJs #[Q5,Zci]]] :=
   Zzo (t':=Zca) (ZnF) Zbz #[eP,#[RT,ZTs],⟨hz,e_,r',ZT1⟩]
  exact au #[ak,ZiT] _ I2 rfl (q _ ZN_)
 ·refine Zai4
  exact call_tuple_same pl #[Cx,Zh',q]
abbrev Xs [37](T:String)[394]:Zaa:=match x with
 | Zgu=>T=Zmi
 | Ziw=>T=Zs7
 | ZbH=>(T=Zds/\∃ xs,ZGa)\/(T=ZfW/\∃ o,#[WU,p,ZatF]) \/
   (T=Zmj/\((∃ kvs,#[ge,ZeK])\/∃ kvs,#[ge,ZPO]))\/(T=Zs8/\∃ S n,ZauY)
 | _=>False
def Ud [3]{T:String}{x:V}[310][2](r:Zd1)(ty:Xs X.K T x H) :
  ZaGL/\∀ a,v=Zcm->#[aDU,Zb0 a=Zab ob]:=by
 cases x with
 | str z =>
  obtain⟨t,rfl⟩:=r;cases #[aq',Zmi];exact⟨ZacG s z t,fun _ e=>nomatch e⟩
 | int i =>
  obtain⟨t,rfl⟩:=r;cases #[aq',Zs7];exact⟨typeIs_int s i t,fun _ e=>nomatch e⟩
 | ref p =>
  cases r;rcases ty with ⟨rfl,xs,hq⟩ | ⟨rfl,o,hk,hc,hd⟩ | ⟨rfl,hk⟩ | ⟨rfl,S,n,hk⟩
  ·refine #[K9,fun e_ _ pl _=>?_]
   refine⟨pl.isList.typeIs,fun a e=>?_⟩;cases e;obtain⟨o,n,e,c,hd,_⟩:cg:=pl;exact ⟨o,e,hd⟩
  ·refine⟨⟨o,ZgQ p o hk,hc⟩,fun a e=>?_⟩
   cases e;exact ⟨o,ZgQ _ o hk,hd⟩
  ·have z:∃ o,#[rR,p]/\ZaWd:=by
    rcases hk with ⟨kvs,hk⟩ | ⟨kvs,hk⟩
    ·obtain⟨_,_,_,_,o,_,_,e,ex,_⟩:=ZVH
     exact ZawZ
    ·obtain⟨_,_,_,_,o,_,_,e,ex,_⟩:=ZVH
     exact ZawZ
   obtain⟨o,e,ex⟩:ak:=z;refine ZaQY;cases e2;exact Zaw0
  ·obtain⟨o,_,_,_,e,a_⟩:=ZVH;obtain⟨ex,_⟩:=a_
   refine ZaQY;cases e2;exact Zaw0
 | _=>exact ZsU ty
abbrev Xq [37](T:String)[210](to:TE)(t:TA):TE:=#[IT,to,Xs K T x H1/\t σ H1 fun xs H2=>r x xs H2 Q]
variable {o e:Expr}{es:Zbh}{to:TE}{t:TA}{name:Str}{apos i_:Pos}{T id:String}{r:ZXe}
def ng (pa:PlainAttrs T)(slot:Slot T Zdh id)(hty:typeOf Zavw=Zb2 (Zbn "method_descriptor"))(hm:Xc X id r)(ho:ZVq)(ha:ZfI)
  (D_:#[aVx,Zdh]:=by rfl)
  (az4:(#[a2s,Zcy]
   && #[DS,Zcy])=true:=by rfl)
  (aq0:Zsl:=by rfl) (hs:Zm8:=by rfl) (I_:ZGn (·.1)=false:=by rfl) :
  PE X #[jB,#[yQ,o,Zdh],Zcy] (Xq X.K T r to t):=by
 intro pins s σ H Q I h;refine ZaR7;obtain ⟨x,H1,I1,r1,ty,q1⟩:=zz;obtain⟨h1,h2⟩:=Ud I1 r1 ty;refine f8 T id pa slot hty h1 h2 ?_;have hA:=#[DQ,ha,i_,_,q1];rw[hs]at hA ⊢;refine Zs (by show (false||ZGn (·.1))=false;rw[I_]<;>rfl) ZUP
 exact bD hA fun us s2 zz=>by obtain ⟨vs,H2,I2,r2,q2⟩:=zz;exact hm Zai s2 σ H2 x vs v us Q I2 r1 r2 q2
#where
abbrev Wh [81](id:String)[210]:Zaa :=
 ∀ [360],ZhY->Zd1->ZfC->ZaAq ->
  ZaMr
def bw.one {x:V}[24](h:Zat5):ZaOJ:=by
 cases h with
 | cons r t=>cases t;exact ZS_
def bw.two {x y:V}[24](h:ZaFw):∃ u v,us=[u,v]/\Zlt/\bo y v:=by
 cases h with
 | cons r t=>
  cases t with
  | cons q t=>cases t;exact⟨_,_,rfl,r,q⟩
section
variable {X:Cx}{pins:ZdT}{σ:St}{H:Hp}{s:Shared}{l b:Addr}{xs ys zs:Zbg}
def aS.lset {e_ its':ZbS}{n:Nat}{f:ZaC_}{t':Nat}(I:ZhY)(hH:Zu7)
  (e:ZaBG) (hf:f Zci=its'.toArray) (hv:bw ys its') (hz:ZSZ) :
  #[Kl,ZaB5,s.heap.update l (ZaWe f),t']:=by
 have q:=PySem.IsL.update e f;rw[hf]at q;refine ZacH (x:=l) (e:=l) #[aX,hH,Zs_] Zf' (fun b' u hb hu=>(YY ZaE (ZaWe f) (Yz hb)).trans hu) Zgv ?_;exact gU hz its' _ hv q
def aS.lnew [396]{t':Nat}[2](hv:ZazF)(hz:ZSZ) :
  #[Kl,#[we,Zar,ys],#[agn,#[Mb,ZaT Zci]],t'] :=
 Zpp (ZQh) Zbz (gU hz e_ 0 hv Zgb)
def aS.fresh [2]:ZEx:=ZxA
def aS.lstM [378]:#[ayR,Zwr/\#[Df,Zmh]/\ZaBG]:=by
 refine G6 (Zbp l _ hH) #[aUR,?_];exact ⟨z,e_,n,r,ZfY,e⟩
def M7 [162](h:#[pj,n]):ZaWf n=Zaz:=by
 unfold Builtin.List.listTooLong;exact ZEV
#where
section
variable {X:Cx}
inductive Qz (x:V)[0]:Zaa
 | mk [280][36](y:V)(_:x=Zgh)(_:vs=[y])(_:Zu7)(_:ZauV)(_:Q ZaJ ZaGP)
def iA:Wh X ZacI Qz:=by
 intro pins s σ H x vs v us Q I rx rv h;obtain⟨l,xs,y,rfl,rfl,hH,hz,q⟩:=h;cases rx;obtain⟨u,rfl,ru⟩:ak:=rv.one;refine ZHL;refine ZaS8;refine au ZaJ _ (#[aa7,e_++[u],ZaPj]) rfl q;rw[Yr,YW]
 lia
inductive QC (x:V)[0]:Zaa
 | mk [291](_:Zauz)[120](_:Q ZaJ #[bJ,l,ZaGF])
def Cw:Wh X "list.extend" QC:=by
 intro pins s σ H x vs v us Q I rx rv h;obtain⟨l,b,xs,zs,rfl,rfl,hH,hB,hz,q⟩:=h;cases rx;obtain⟨u,rfl,ru⟩:ak:=rv.one;cases ru;refine ZHL;refine ZaM3
 have hsz:#[pj,Zmd+ZaWg]:=#[po,Yq,Yq]
 have cj7:¬ #[eI,ZaVg&&ZaWf (Zmd+ZaWg)]:=by
  rw[M7 hsz,Bool.and_false];exact Yl
 refine call_meets F.slot_list_extend ZQN F.entry_list_extend (F.args_list_extend_2 _ _)
  (AutoSeq1.list_extend_list_list_0 l Zci n b ZaWh n2 cj7 ZQW Zag) #[br,e,e2]
 refine au ZaJ _ (#[aa7,e_++aq4,ZaEk]) rfl q;rw[Yr]
 lia
inductive QB (x:V)(y:V)[152]:Zaa
 | mk [291](_:ZxY)[120](_:#[V_,ZaGF])
def HZ:#[aVV,QB]:=by
 intro pins s σ H x y v u Q I rx ry h;obtain⟨l,b,xs,zs,rfl,rfl,hH,hB,hz,q⟩:=h;cases rx;cases ry;refine ZHL;refine ZaM3;refine PySem.P.add_list e e2 ?_ #[DU,Yq,Yq]
 have ea:Zci++ZaWh=#[hH,(e_++aq4)]:=ZaM
 rw[ea];exact #[Za,_,I.lnew (t':=Zca) ZaEk #[nk,Yr],I.fresh]
#where
section
variable {κ:ZfK} [ZaC5]
abbrev d6 [115]:ZgG:=(kvs.find? ZVt).map (·.2)
abbrev hU [115](v:V):Zj3 :=
 #[eY,ZHC,ZzF (#[G_,(Zjq,v)]),ZaES]
abbrev y9 [115]:Zj3:=kvs.filter fun kv=>#[AV,Zjq≠k]
def hZ [331](e:Zj7):d6 ZFt k=Zab p.2:=ZaWi
def fZ [331](e:¬ p.1=k):d6 ZFt k=d6 r k:=ZaWi
def nv (k:κ):∀ kvs:Zj3,ZHC=#[hD,ZGH]
 | []=>rfl
 | p::r=>by
  rw[ZG]
  by_cases e:Zj7
  ·simp only[hZ e,Yc e,Bool.true_or,Option.isSome_some]
  ·rw[fZ e,X9 e,Bool.false_or];exact nv k r
def CU (k j:κ)(y:V):∀ kvs:Zj3,ZZz->d6 (kvs++[(k,y)]) j=#[ek,j=k,y,d6 kvs j]
 | [],_=>by
  by_cases e:k=j
  ·rw[Yb ZJt];exact hZ (p:=(k,y)) e
  ·rw[X8 (#[age,e])];exact fZ (p:=(k,y)) e
 | p::r,hn=>by
  rw[List.cons_append]
  have hk:¬ p.1=k:=fun z=>by rw[hZ z]at hn;cases hn
  rw[fZ hk]at hn;have ih:=CU k j y r hn
  by_cases e:p.1=j
  ·rw[hZ e,hZ e,X8 (#[jC,hk,e.trans])]
  ·rw[fZ e,fZ e,ih]
def jx [115](v:V):#[jS,ZqN,ZcK]:=by
 unfold hU;split
 ·rw[X7];lia
 ·rw[Yr,YF,List.length_nil];lia
def qL {kvs:Zj3}{k:κ}(v:V)(h:ZZz):hU kvs k v=ZaES:=by
 unfold hU;rw[nv,h];exact Zgx
def mZ.isSome_eq [361](r:mZ o u):ZacJ=u.isSome:=by
 cases o with
 | none=>cases u with
  | none=>rfl
  | some _=>exact Zsd
 | some _=>cases u with
  | none=>exact Zsd
  | some _=>rfl
def mZ.getD [361]{d:V}{d':Value}(r:mZ o u)(rd:bo d d'):bo (ZacK d) (u.getD d'):=by
 cases o with
 | none=>cases u with
  | none=>exact rd
  | some _=>exact Zsd
 | some _=>cases u with
  | none=>exact Zsd
  | some _=>exact r
def KV.val [400]:mZ (d6 kvs k) (Zpr vs k):=by
 unfold KV at r
 induction r with
 | nil=>exact True.intro
 | @cons p q ps qs h t ih =>
  obtain⟨h1,h2⟩:=h
  by_cases e:Zj7
  ·have e':q.1=k:=Za3V
   have b:Zpr (q::qs) k=Zab q.2:=ZaWj
   rw[hZ e,b];exact h2
  ·have e':ZYW:=ZDB
   have b:Zpr (q::qs) k=Zpr qs k:=ZaWj
   rw[fZ e,b];exact ih
def KV.any [400]:ZHC=vs.any ZVt:=by
 unfold KV at r
 induction r with
 | nil=>rfl
 | cons h t ih=>rw[ZG,ZG,ih,h.1]
def KV.repl [400][401][252] :
  KV (ZzF #[G_,(Zjq,y)]) (ZacL #[G_,(Zjq,u)]):=by
 unfold KV at r ⊢
 induction r with
 | nil=>exact Zao
 | @cons p q ps qs h t ih =>
  rw[Ys,Ys];refine ZWZ;obtain⟨h1,h2⟩:=h
  by_cases e:Zj7
  ·rw[ZjW,Za3W];exact⟨h1,ry⟩
  ·rw[Ziv,Zasq];exact Zwq
def KV.put [400][401][252]:KV (hU kvs k y) (stored vs k u):=by
 unfold hU stored;rw[r.any k]
 by_cases e:(vs.any ZVt)=Zad
 ·rw[ZjW,ZjW];exact ZaFh
 ·rw[Ziv,Ziv];exact ZacM r #[da,ry]
def KV.drop [400]:KV (y9 kvs k) (without vs k):=by
 unfold KV at r ⊢;unfold y9 without
 induction r with
 | nil=>exact Zao
 | @cons p q ps qs h t ih =>
  obtain⟨h1,h2⟩:=h;rw[ZE,ZE]
  by_cases e:Zj7
  ·have a:¬ #[AX,p.1≠k]:=Zs'
   have b:¬ #[AX,q.1≠k]:=by simp[Za3V]
   rw[X8 a,X8 b];exact ih
  ·have e':ZYW:=ZDB
   have a:#[AX,p.1≠k]:=Zs'
   have b:#[AX,q.1≠k]:=by simp[e']
   rw[Yb a,Yb b];exact ZaD Zwq ih
def KV.keys [10]:kvs.map (·.1)=vs.map (·.1):=by
 unfold KV at r
 induction r with
 | nil=>rfl
 | cons h t ih=>rw[Ys,Ys,ih,h.1]
def KV.length [10]:ZiR:=Zj0
def Mm [115]:#[bc,(y9 kvs k),ZcK]:=ZB _ _
#where
def sx [6]{k:cZ}[160](r:ZZd):#[hd,0].is k u=Zad:=by
 cases k with
 | inl i=>obtain⟨t,e⟩:=Zayf;subst e;exact FG P w i t
 | inr x=>obtain⟨t,e⟩:=Zaye;subst e;exact fJ P w x t
def Cr [6]:∀ {ks:Zg_}[24],bw (ZzG kV) us->ItemsAre Zhd ks us
 | [],_,r=>by rw[List.map_nil]at r;cases r;exact Zao
 | k::ks,_,r=>by
  rw[Ys]at r
  cases r with
  | cons h t=>exact ZaD (sx h) (Cr t)
noncomputable abbrev KT [33]:#[cd,ZrV,ZakH]:=Za3 fun p q=>ZaPs
def KT.val [314]:mZ ZGH (ZaMd (·.2)):=by
 induction r with
 | nil=>exact True.intro
 | @cons p q ps qs h t ih =>
  obtain⟨h1,_,h2⟩:fz:=h
  by_cases e:Zj7
  ·have e':q.1=k:=Za3V
   have b:ZzH (q::qs) k=Zab q.2:=ZaWk
   rw[hZ e,b];exact h2
  ·have e':ZYW:=ZDB
   have b:ZzH (q::qs) k=ZzH qs k:=ZaWk
   rw[fZ e,b];exact ih
def KT.repl [314][401][252] :
  KT H (ZzF #[G_,(Zjq,y)]) (Zo5 (putAt k u)):=by
 induction r with
 | nil=>exact Zao
 | @cons p q ps qs h t ih =>
  rw[Ys,Ys];refine ZWZ;obtain⟨h1,h2,h3⟩:fz:=h;unfold putAt
  by_cases e:Zj7
  ·rw[ZjW,Za3W];exact ⟨h1,h2,ry⟩
  ·rw[Ziv,Zasq];exact ⟨h1,h2,h3⟩
def KT.put [314][124][401](hb:ZHk)[252] :
  KT H (hU kvs k y) (storedH xs k b u):=by
 have e:ZHC=#[hD,ZaGc]:=by
  rw[nv,(r.val k).isSome_eq,Option.isSome_map]
 unfold hU storedH;rw[e]
 by_cases q:#[k1,ZaGc]
 ·rw[Yb q,Yb q];exact ZaFh
 ·rw[X8 q,X8 q];exact ZacM r #[qh,hb,ry]
def KT.keeps [23][25](ht:∀ b ys,#[b9,ZTs]->#[jD,ZTs]):KT H' kvs xs :=
 ZiU r #[iM,ZaOL]
section
variable {P:Program}{w:World}{H:Hp}{h:Heap}{a:Addr}
def Rm {u:HO}[153](e:ZZL):#[nS,u]:=e.ok ok
def y7 [55][153](e:ZWK):Za4b :=
 #[c2,#[nS,ZeK],Rm ok e]
def Fg [55][153][178]:Za4b:=y7 ok (Zal e)
def vS {ks:Zg_}[153](e:#[dY,ZawV]):#[aL',ks,a]:=by
 obtain⟨_,e_,r,o,h1,h2,n,h3⟩:=#[eP,#[nS,ZawV],ok a _ e];exact eI o Zci n h1 h2 (#[asn,h3]) #[CE,Cr r]
def zc [169][153](e:ZWL):ZqH/\Zabz /\
  ZaRy:=by
 obtain⟨z,y,xs,r,o,es,ep,h1,h2,h3,h4,h5⟩:=#[eP,#[nS,ZPO],Rm ok e];refine ⟨z,y,xs,r,o,es,ep,h1,h2,h3,h4,⟨Zf1,h5⟩⟩
 have all:∀ {l:ZrV}{m:ZakH},KT H l m->∀ x∈m,#[aL',x.1,x.2.1]:=by
  intro l m q
  induction q with
  | nil=>intro x hx;exact nomatch hx
  | @cons p q ps qs hq t ih =>
   intro x hx;rcases Zxr with e | hx
   ·subst e
    exact #[T7,vS,ok,hq.1,hq.2.1]
   ·exact ih x hx
 exact all r x hx
def UP [169][153](e:ZTO):ZqH/\Zabz /\
  ZaRy:=zc ok (Zal e)
#where
abbrev fq [375](y:V)(r:ZgG):Zaa :=
 (∃ kvs k,ZWK/\ZDc/\r=d6 kvs k)\/∃ kvs k b,ZWL/\ZxY/\ZHk/\r=d6 kvs k
abbrev nO [375](y v:V)(H':Hp):Zaa :=
 (#[ao5,ZTN,#[aMy,.dK]]) \/
 ∃ kvs k b,ZTO/\ZxY/\ZHk/\ZvO/\#[aMy,.dT]
def fq.k [42][54][55]{k:cZ}[178]:fq H a ZTK ZGH:=Zal (au kvs k Zatv rfl rfl)
def fq.t [199][169]{k:Zg_}[187]:fq H a Zlq ZGH:=Zaq (eI kvs k b Zatv rfl eb rfl)
def nO.k [42][54][55]{k:cZ}{v:V}[178][419]:nO H a ZTK v (upd H a (.dK ZqN)):=Zal (bS kvs k e rfl hl rfl)
def nO.t [199][169]{k:Zg_}{v:V}[187][419] :
  nO H a Zlq v (upd H a (.dT ZqN)):=Zaq (gf kvs k b e rfl eb hl rfl)
section
variable {X:Cx}{pins:ZdT}{σ:St}{H:Hp}{s:Shared}{a:Addr}{y v:V}{u r:Value}{o:ZgG}{A:Around}{E:Zfh}
def aS.big [2]:#[dc,Zabx]:=by
 have h:#[dc,Zki]:=(ZaWl I.bk).lt;exact #[v5,ZaWn,h]
def Ky [431][432](g:ZaG9)[252](h:#[Yt,ZDl,bo v w']) :
  #[t2,(Zs5 ZbV u)]:=by
 rcases g with ⟨kvs,k,e,ey,l⟩ | ⟨kvs,k,b,e,ey,eb,l⟩
 ·subst ey
  refine ZaiC;refine #[aOk,ZaET];exact ZaWo (sx ry) ZzI hw (h w' _ Zg8 rw')
 ·subst ey
  cases ZOm;refine Zakh;refine ak (mZ.some_of (v:=v) (o:=ZaMd (·.2)) ZaET) ZanX;refine #[CK,hw,fun p hp hp2=>?_];refine wpAny_getItem_heap ZaWw ZRL dd hp ?_;rw[hp2];exact h w' _ Zg8 rw'
def Wt [46](h:#[aGW,ZacJ]) :
  #[aJC,.In]:=by
 rcases g with ⟨kvs,k,e,ey,l⟩ | ⟨kvs,k,b,e,ey,eb,l⟩
 ·subst ey
  refine ZaiC;refine #[aOn,wpAny_in_of];rw[<-Zaji,<-l];exact ZFS
 ·subst ey
  cases ZOm;refine Zakh;refine #[aWx,wpAny_in_heap];have q:=Zaji;rw[Option.isSome_map]at q;rw[<-q,<-l];exact ZFS
def Pg [46](h:#[aGW,(ZaWp)]) :
  #[aJC,ZzJ]:=by
 rcases g with ⟨kvs,k,e,ey,l⟩ | ⟨kvs,k,b,e,ey,eb,l⟩
 ·subst ey
  refine ZaiC;refine #[aOn,ZaWq];rw[<-Zaji,<-l];exact ZFS
 ·subst ey
  cases ZOm;refine Zakh;refine #[aWx,wpAny_notIn_heap];have q:=Zaji;rw[Option.isSome_map]at q;rw[<-q,<-l];exact ZFS
def rh {h':Heap}{t':Nat}{ob:HO}[2](mu:UC (H a))(hs:Za3c)(he:ZOu)(new:#[ia,#[bJ,a,ob],h',a,ob]) :
  #[cl,#[bJ,a,ob],ZKk] :=
 ZacH (x:=a) (e:=a) mu Zf' #[aDN,hs.2] he new
def y6 [6][427]{h':Heap}[402](z:ZqH)(hd:Zabz)(rel:ZqL)(dd:h'.DictOf Zhd a vs) :
  cD P w H' h' a ZeK:=⟨z,hd,vs,rel,dd⟩
def Kz [427][179][432](g:nO H a y v H')[252](rv:bo v r)(h:#[x3,Zvr]) :
  #[t2,(setItem ZbV u r)]:=by
 rcases g with ⟨kvs,k,e,ey,l,eH⟩ | ⟨kvs,k,b,e,ey,eb,l,eH⟩
 ·subst ey eH
  refine ZaiD
  have hz:Zasi:=Za4I
  have hl:ZWV:=ZaaP
  refine #[aOY,wpAny_setItem_pairs];have he:ZOu:=let ⟨q,_,_,hq,_⟩:=dd';Zr9;exact rh I (by rw[e];exact True.intro) hs he ZaJT
 ·subst ey eH
  cases ZOm;refine #[nt,UP,Zakg]
  have hz:Zaoc:=#[Pi,ZlH]
  have hl:ZWV:=ZaaP
  refine wpAny_setItem_heap (hsz:=hz) ZaWw ZRL dd ZanY;obtain⟨q,es,ep,hq,h2,h3,h4,_,h5⟩:kJ:=dd';refine rh I (by rw[e];exact True.intro) hs Zr9 ⟨hl,hd,_,((ZacN k eb rv).keeps fun c ys ec=>?_),q,es,ep,hq,h2,h3,h4,h5⟩;rw[ah (jR ec e (fun z=>nomatch z))];exact ec
#where
section
variable {X:Cx}{pins:ZdT}{σ:St}{H:Hp}{s:Shared}{a:Addr}{kvs:ZdU}{k:cZ}{u:Value}{A:Around}{E:Zfh}
def UM {v:V}{more:ZbS}{Q:Zfh}(I:ZhY)(e:ZTN)(ry:ZZd)(l:Zaas)(hm:ZiV=[]\/∃ x,ZiV=[x])
  (h:#[Yt,#[cl,#[bJ,a,ZaMq],s'],bo v w']):#[t2,#[qB,ZaWr,(Zcm::u::ZiV)]]:=by
 refine ZaiD;refine #[aOk,#[gf,l,Zwl]]
 have hp:#[k1,(keyPart u)]:=by
  cases k with
  | inl i=>obtain⟨t,q⟩:=#[Ol,ZavN];subst q;rfl
  | inr x=>obtain⟨t,q⟩:=#[Ol,ZavM];subst q;rfl
 have ha:argsOk ZaWr #[dX,Zcm::u::ZiV]:=by
  rcases hm with q | ⟨x,q⟩
  ·subst q;exact PySem.F.args_dict_pop_2 _ _
  ·subst q;exact PySem.F.args_dict_pop_3 _ _ _
 refine call_meetsIn PySem.F.slot_dict_pop dd.typeIs PySem.F.entry_dict_pop ha (meets_dict_pop_there Zt3 a ZDH ZiV hm hp)
  (bS vs w' dd #[a4H,z] hw (#[acO,h w' _ ?_ rw']))
 have he:ZOu:=let ⟨q,_,_,hq,_⟩:=dd';Zr9;exact rh I (by rw[e];exact True.intro) hs he (y6 (YU (Mm kvs k) z) hd (rel.drop k) dd')
#where
abbrev RR (i:Expr):Zaa:=∀ ov iv,ZJq i Zaz ov iv=ZacE [ov,iv] (Zs5 ov iv)
def J9 {prog:Program}{w:World}{A:Around}{E:Zfh}{s:Shared}{env:Env}{value slice:Expr}{pos:Pos}{T id:String}{Q:Zfh}
  (hl:ZaV4) (hs:RR Zs6)
  (h:#[fl,Ztb,#[im,Zmf],(fun o s₁=>#[Gj,#[im,Zs6],fun i s₂=>s₂.TypeIs o T/\#[x',ZaHH,Zpe],Ze_])]) :
  #[tc,#[im,(ZJu Zmf Zs6 pos)]]:=by
 refine ZacA (YA h (fun o s₁ h₁=>YA h₁ (fun i s₂ h₂=>?_) Zio) Zio);obtain⟨hT,h₂⟩:=h₂;unfold subscriptTail;refine ZbX;rw[getitemInPython_of_ne hT.not_modules];refine #[yl,hl]
 have fin:#[Gj,(ZJq Zs6 Zaz o i),fun r s₃=>#[x',(letTemporaryGo Zmf o r >>= #[dL,Zb2 r]),s₃],Zpe]:=by
  rw[hs o i];exact wpAny_operating (YA h₂ (fun r s₃ h₃=>X5 (wpAny_letTemporaryGo (Yg h₃))) Zio)
 first
  | exact Yg (X5 fin)
  | exact #[k4,Yg,fin]
  | exact X5 fin
def Ff [299]{y:V}{o:ZgG}[2](g:fq H a y o):ZaKC:=by
 rcases g with ⟨kvs,k,e,_,_⟩ | ⟨kvs,k,b,e,_,_,_⟩
 ·refine #[nt,y7,fun _ _ vs _ dd=>?_]
  exact dd.typeIs
 ·refine #[nt,zc,fun _ _ xs _ dd=>?_]
  exact dd.typeIs
inductive XE (x y:V)(Q:VK)[33]:Zaa
 | mk [88](v:V)(e:ZeX)(g:ZaG9)(h:Zxo)
abbrev VA (td ty:TE):TE:=#[IT,td,#[lm,ty,XE x y Q H2]]
abbrev WX (ty td:TE):TE:=#[aH9,Q (.bl ZacJ) H2]
abbrev QT (ty td:TE):TE:=#[aH9,Q (.bl (ZaWp)) H2]
abbrev Vl (td ty tv:TE):TS:=#[pg,tv,#[Jw,td σ H1 fun x H2=>ty σ H2 fun y H3=>∃ a H4,ZeX/\nO H3 a y v H4/\#[m9,H4]]]
section
variable {X:Cx}{o i e value:Expr}{pos pos' aq1:Pos}{td ty tv:TE}
def rB [105][170][202](hs:RR i):#[Jv,o,i,(VA td ty)]:=by
 intro pins s σ H Q I h;refine #[aI5,ZGg];obtain ⟨x,H1,I1,rx,q1⟩:=zz;refine #[vD,hi,q1,ZD9];obtain ⟨y,H2,I2,ry,a,v,ex,g,q2⟩:=zz;subst ex;obtain rfl:ZMV:=rx;exact⟨Ff I2 g,Ky hu I2 g ry #[aWs,au v H2 I3 rw' q2]⟩
def wE [105][202][170]:PC X .In i o (WX ty td):=by
 intro pins s σ H Q I h;refine ZZk;obtain ⟨y,H1,I1,ry,q1⟩:=zz;refine ZX3;obtain ⟨x,H2,I2,rx,a,ov,ex,g,q2⟩:=zz;subst ex;obtain rfl:ZMV:=rx;exact #[aOu,Wt,(.bl ov.isSome)]
def jb [105][202][170]:PC X ZzJ i o (QT ty td):=by
 intro pins s σ H Q I h;refine ZZk;obtain ⟨y,H1,I1,ry,q1⟩:=zz;refine ZX3;obtain ⟨x,H2,I2,rx,a,ov,ex,g,q2⟩:=zz;subst ex;obtain rfl:ZMV:=rx;exact #[aOu,Pg,(.bl (!ov.isSome))]
def jX [105][170][202](hv:ZaBr)(hs:#[aII,(ZJu o i ZlZ)]) :
  #[Mf,[ZJu o i ZlZ],Zmf,(Vl td ty tv)]:=by
 intro pins s σ H D I h;refine #[DN,wpAny_Assign_Subscript,hv,fun r s1 zz=>?_];obtain ⟨v,H1,I1,rv,q1⟩:=zz;refine ZX3;obtain ⟨x,H2,I2,rx,q2⟩:=zz;refine #[aaV,hi,fun iv s3 zz=>?_];obtain ⟨y,H3,I3,ry,a,H4,ex,g,q3⟩:=zz;subst ex;obtain rfl:ZMV:=rx;exact Kz hu I3 g ry rv fun s4 I4=>⟨σ,H4,I4,q3⟩
#where
def uH [275]:cD P w H (h.push { cls:=Zmk,data:=Ze4 #[] }) h.objs.size ZrS :=
 ⟨Zdb,ZaPn,[],Zao,Heap.DictOf.new h⟩
def Mn [275]:cD P w H (h.push { cls:=Zmk,data:=Ze4 #[] }) h.objs.size Zaxl :=
 ⟨Zdb,ZaPn,[],Zao,_,#[],0,Zd0,ZQ7,rfl,rfl,Zl⟩
abbrev TW:TE:=#[aqX,#[qn,p]]
abbrev TX:TE:=#[aqX,(upd H p (.dT []))]
section
variable {X:Cx}{pos:Pos}
def iK:#[ny,.Dict,[],[],TW]:=fun pins s σ H Q I h =>
 #[aSY,.dK [],ZaJa]
def Np:#[ny,.Dict,[],[],TX]:=fun pins s σ H Q I h =>
 #[aSY,.dT [],(Mn ZaE I.big)]
#where
abbrev IK:Zyf->St->#[cd,Hp,(#[dW,ZrU])]
 | [],_,H,Q=>Q [] H
 | (tk,tv)::r,σ,H,Q=>tk σ H #[zi,#[lm,tv,IK r σ H2 fun ps H3=>Q ((x,y)::ps) H3]]
noncomputable abbrev VV:#[cd,ZrU,#[v4,ZbR]]:=Za3 fun p q=>bo p.1 q.1/\ZayH
abbrev VU [81](pos:Pos)(keys:ZUE)(values:Zbh)(trs:Zyf):Zaa :=
 ∀ [1](Q:#[dW,ZrU]),ZhY->IK trs σ H Q ->
  #[t1,(evalPairs (pairTrees keys ZacP ZaG pos)),(fun vs s'=>∃ ps H',#[Hb,VV ps vs,ps])]
def Qr [45][65]:VU X pos [] [] []:=#[aWt,#[apE,pairTrees_nil_walk]]
def NB [45][65]{k v:Expr}{ks:ZUE}{vs:Zbh}{tk tv:TE}{trs:Zyf}(hk:PE X k tk)(hv:PE X v tv)(hr:VU X pos ks vs trs) :
  VU X pos (Zab k::ks) (v::vs) ((tk,tv)::trs):=fun pins s σ H Q I h =>
 pairTrees_cons_walk (bD #[Bh,hk] fun u s1 ⟨x,H1,I1,rx,q1⟩=>bD #[vi,hv] fun w2 s2 ZXf =>
  #[aaV,hr,fun ws s3 ⟨ps,H3,I3,rel,q3⟩=>au ((x,y)::ps) H3 I3 (ZaD ⟨rx,ry⟩ rel) q3])
abbrev v6 (kvs more:ZdU):ZdU:=more.foldl (fun acc kv=>hU acc Zjq kv.2) kvs
def KV.merge:∀ {more:ZdU}{rs:ZaxS}[402],KV ZiV rs->ZqL->KV (v6 kvs ZiV) (merged vs rs):=by
 intro more rs kvs vs r;unfold KV at r
 induction r generalizing kvs vs with
 | nil=>intro q;exact q
 | @cons p q ps qs h t ih =>
  intro r0
  have e:KV (hU kvs p.1 p.2) (stored vs q.1 q.2):=by
   have:=r0.put p.1 h.2;rw[<-h.1];exact this
  exact ih e
def sD:∀ (more kvs:ZdU),#[bc,(v6 kvs ZiV),ZcK+more.length]
 | [],kvs=>#[kr,ZcK<=ZcK+0]
 | p::r,kvs=>by
  have h1:=sD r ZaHB;have h2:=jx kvs p.1 p.2
  show #[bc,(v6 ZaHB r),_]
  rw[YF];lia
def yT [6]:∀ [55]{ws:#[v4,ZbR]},VV (ZzF ZaK5) ws->∃ rs,Carries Zhd ws rs/\KV kvs rs
 | [],_,r=>by rw[List.map_nil]at r;cases r;exact ⟨[],Zacf,Zao⟩
 | p::kvs,_,r=>by
  rw[Ys]at r
  cases r with
  | @cons a b as bs h t =>
   refine ak (yT (P:=P) (w:=w) t) fun rs c q=>?_;obtain⟨b1,b2⟩:=b;exact ⟨((p.1,b2)::rs),#[hn,sx h.1,c],ZaD #[da,h.2] q⟩
abbrev VB (trs:Zyf):TE:=#[IR,∀ p,ZNK->IK trs σ #[qn,p] fun ps H2=>H2 p=Zab ZrS/\∃ kvs:ZdU,ps=ZzF (ZaK5)/\ZcK<=15/\#[b8,p,(upd H2 p (.dK (v6 [] kvs)))]]
def Qh {X:Cx}{pos:Pos}{keys:ZUE}{values:Zbh}{trs:Zyf}(h:VU X pos keys ZacP trs)(hall:keys.all (·.isSome)=true)(hl:ZaWu=values.length)(h0:keys≠[])
  (h15:ZaWu<=15):#[ny,.Dict,keys,ZacP,(VB trs)]:=by
 intro pins s σ H Q I q;have hn:=Zl6 (Ya Zar);have I1:=I.laid (a:=s.heap.objs.size) (o:=.dK []) (h':=s.heap.push { cls:=Zmk,data:=Ze4 #[] }) (t':=s.toks) (ZQh) Zbz ZaJa;refine wpAny_Dict_walk (knd:=ZqY) hall hl h0 h15 (bD (h Zai _ σ _ _ I1 (q _ hn)) fun ws s2 zz=>?_);obtain ⟨ps,H2,I2,rel,e,kvs,ep,lk,q2⟩:=zz;subst ep;refine ak (yT (P:=ZbC) (w:=X.w) rel) fun rs c rk=>?_;refine eY (Fg ZacQ e) fun z hd vs0 r0 dd=>?_;cases r0;refine ⟨rs,c,dd,(#[acO,au ZcU _ ?_ rfl q2])⟩
 have hz:#[Pq,(v6 [] kvs)]:=by
  have h1:=sD kvs [];rw[List.length_nil]at h1;rw[Y6];lia
 have he:∃ q,Zd8 Zar=Zab q:=let ⟨q,_,_,hq,_⟩:=dd';Zr9;exact rh I2 (by rw[e];exact True.intro) hs he (y6 hz hd (rk.merge Zao) dd')
structure M1 [349][376](i_:Pos):Zaa where
 base:#[aVx,m]
 few:(#[a2s,[e]]
  && #[DS,([e]:Zbh)])=true
 line:Zsl
 trees:Zzp i_ (Zkm [e] ZaG)=[ZmX]
structure M2 [349](e f:Expr)(i_:Pos):Zaa where
 base:#[aVx,m]
 few:(#[a2s,ZDv]
  && #[DS,(ZDv:Zbh)])=true
 line:Zsl
 trees:Zzp i_ (Zkm ZDv ZaG)=[ZmX,#[mW,f]]
abbrev VR [375]:Zaa:=(∃ kvs,ZWK)\/∃ kvs,ZWL
def Dx [299][2](d:VR H a) :
  ZaKC/\(∀ b,ZaLt->#[aDU,Zb0 b=Zab ob])/\Zabz:=by
 rcases d with ⟨kvs,e⟩ | ⟨kvs,e⟩
 ·refine #[nt,y7,fun _ hd vs _ dd=>?_]
  refine ZaMp;cases q;obtain⟨ob,_,_,h1,h2,_⟩:fA:=dd;exact ZZo
 ·refine #[nt,zc,fun _ hd xs _ dd=>?_]
  refine ZaMp;cases q;obtain⟨ob,_,_,h1,h2,_⟩:fA:=dd;exact ZZo
section
variable {X:Cx}{pins:ZdT}{σ:St}{H:Hp}{s:Shared}{a:Addr}{y d:V}{u r:Value}{o:ZgG}{A:Around}{E:Zfh}
def R5 [46](rd:bo d r)(h:#[Yt,ZDl,bo (ZacK d) w']) :
  #[t2,#[qB,"dict.get",[Zcm,u,r]]]:=by
 rcases g with ⟨kvs,k,e,ey,l⟩ | ⟨kvs,k,b,e,ey,eb,l⟩
 ·subst ey
  refine ZaiC;refine #[aZm,(meets_dict_get_default Zt3 a ZDH hd r),#[c8,ZzI,ZaJg]];rw[l];exact ZaKz
 ·subst ey
  cases ZOm;refine Zakh;refine #[aZm,(meetsH_dict_get_default (ZIx (bv ZbC X.w)) a b hd r),⟨ZaWv hu,k,xs,vS Zbp eb,dd,ZaJg⟩];rw[l];exact ZaKz
#where
abbrev TU (td ty tx:TE):TE:=#[aN4,tx σ H2 fun z H3=>∃ o,fq H3 a y o/\Q (ZacK z) H3]
abbrev TY (td ty:TE):TE:=#[aN4,∃ kvs k v,H2 a=Zab ZeK/\ZDc/\Zaas/\Q v (upd H2 a ZaMq)]
section
variable {X:Cx}{o e f:Expr}{apos i_:Pos}{td ty tx:TE}
def Gd [105][315](hf:ZaEL)(m:#[aSt,ZJx]):#[aPm,ZJx,TU]:=by
 intro pins s σ H Q I h;refine #[Ic,Z4,ZaWy,ZGg];obtain ⟨x,H1,I1,rx,a,ex,d,q1⟩:=zz;subst ex;obtain rfl:ZMV:=rx;refine Zani;refine ZYQ;rw[m.trees]
 refine Zs rfl (Zn (Y2 (bD ZVL fun iv s2 ZXf =>
  #[aSz,⟨z,H3,I3,rz,ov,g,q3⟩])))
 exact R5 hu I3 g ry rz fun w' s4 I4 rw'=>au _ H3 I4 rw' q3
def Ge [315](m:M1 X o "pop" apos e i_):PE X #[jB,#[yQ,o,"pop"],[e]] (TY td ty):=by
 intro pins s σ H Q I h;refine #[Ic,PySem.F.slot_dict_pop,PySem.F.type_dict_pop,ZGg];obtain ⟨x,H1,I1,rx,a,ex,d,q1⟩:=zz;subst ex;obtain rfl:ZMV:=rx;refine Zani;refine ZYQ;rw[m.trees];refine #[aI3,(bD ZVL ZD9)];obtain ⟨y,H2,I2,ry,kvs,k,v,ea,ey,l,q2⟩:=zz;refine ZDk;subst ey;exact UM I2 ea ry l Zf' #[aWs,au v _ I3 rw' q2]
#where
#print L2
namespace Att
open PySem PySem.W PySem.Calls PyProof.Rows
def x5 {P:Params}[150]:∀ [139][403],WellAll P h vs (ZhI ZaWz)->ZacR vs ns:=by
 intro ns
 induction ns with
 | nil =>
  intro vs w;rw[List.map_nil]at w;cases w;exact Zao
 | cons n ns ih =>
  intro vs w;rw[Ys]at w
  cases w with
  | cons a b =>
   cases a;exact ZaD _ _ (ih _ b)
def Lz {l:OpenLaw}{n:Nat}(hn:ZXw){P:Params}{h:Heap}{args:ZarN}{vals:ZbS}
  (ak7:l.row.toRowW.claim.pre ZfQ=Zad) (hwl:WellAll P h vals ZfQ) :
  ∃ a vs ns,vals=[Zeu a]/\ZfQ=[WData.list (ZhI ZaWz)]/\#[lc,ZPX]/\ZacT/\ZFF:=by
 have hsh:WShape.hasAll [] ZfQ [.list Zae]=Zad:=(ZaWA ak7).1;have hc:l.pre.holds [] { args:=ZfQ }=Zad:=(ZaWA ak7).2;obtain⟨d,r,rfl,h1,h2⟩:da:=hasAllW_cons hsh;obtain rfl:=hasAllW_nil h2;obtain⟨xs,rfl,h3⟩:ak:=hasW_list h1;obtain⟨ns,rfl⟩:=items_int h3
 have hlen:ZFF:=by
  unfold OpenLaw.pre at hc
  have h4:(WTm.not (.lt (.lit (Zae Zcg)) (.len (.arg 0)))).holds [] { args:=[.list (ZhI Zae)] }=Zad:=by
   have h4:=(holds_andW hc).1;rw[hn]at h4;exact h4
  have h5:=condW_of h4 (w_not (w_lt w_lit (w_len_list (w_arg rfl))));rw[X7]at h5;refine Nat.le_of_not_lt #[a9,?_]
  have q':Zcg<#[a1,ZfL]:=Zaf
  first
   | (rw[Yc q']at h5;exact #[C3,h5])
   | (simp at h5;lia)
 cases hwl with
 | cons w1 w2 =>
  cases w2
  cases w1 with
  | list ho hall=>exact gf _ _ ns rfl rfl ho (x5 ns _ hall) Zme
def Lr (l:OpenLaw)(args:ZarN):l.row.toRowW.claim.post ZfQ Zx4 ZfQ=Zad :=
 postW_of (r:=l.row.toRowW) (X:=(Zad == Zad))
  (show WShape.has [] Zx4 Ze6=Zad by first | rfl | decide | simp[WShape.has,WShape.arms,WShape.armsAll])
  #[eP,(WTm.eq .res (.lit (Ze6 Zad))).value [] { args:=ZfQ,res:=Zab (Ze6 Zad),after:=ZfQ }=Zab (Ze6 (Zad == Zad)),w_eq_bool (w_res rfl) w_lit] rfl
def attach_call {l:OpenLaw}{n:Nat}{q:Program}{loose:Zbe}{XP:ZVk}{YP:ZVj}{d:DefRec}
  (hn:ZXw) (hdf:ZUg)
  (call:∀ (w:World)(s₀ s₁:Shared)(mg mb:Zm5)(fa:Addr)(o:Obj)(pm cd doc:Value)(a:Addr)(vs:ZbS)(ns:Zbf),
   Ground q loose [] XP w s₀ mg mb Zks->YP w Zks ->
   ZzK fa=Zab o->ZfM=ZsC (docDef ZacU d.params d.body d.scope pm cd doc)->s₁.heap.CodeRec cd ZacU->ZacV ->
   ZaEX->ZacT->ZFF->s₁.gens = #[] ->
   #[aTd,(Zta Zc3 w)]) :
  #[aqC,WalkO]:=by
 intro w s₀ s₁ mg mb G Y fa o pm cd doc dV kV ho hd Y_ hD hmg hg args vals as ak7 hlay hrd hwl hlo;obtain rfl:dV=Zan:=Dflts.none hD hdf;obtain rfl:kV=Zan:=Dflts.noKw hD;obtain⟨a,vs,ns,rfl,rfl,bz9,hints,hlen⟩:fF:=Lz hn ak7 hwl;refine enter_call (Ze (ZgM w s₀ Ze_ mg mb fa o pm cd doc a vs ns G Y ho (fd_plain hd) Y_ hmg bz9 hints Zme hg) Zai0);obtain⟨rfl,h2,h3,h4⟩:gY:=hq;exact ⟨(Zal (gf Zx4 Zx4 [] rfl ZoI Zx4 (Lr l _) (fun _=>⟨List.Pairwise.nil,fun _ hm=>(nomatch hm)⟩))),h2,h3,h4⟩
section
variable {prog:Program}{w:World}{A:Around}{E:Zfh}{s:Shared}{K:Frag}
abbrev WJ [130]:Heap:={ h with objs:=#[] }
abbrev WG [130](L d:Addr):ZdT:=#[zB,ZUB] fun a=>#[acW,a=L\/a=d,(ZcG a).map #[oc,a]]
#where
#print Att
namespace L2
open PySem PySem.Spec PyProof.Rows
def CV:∀ {vs:ZbS}[350],ZacT->bw (ZhI Zaw) vs
 | _,_,Zao=>Zao
 | _,_,ZaD n t h=>ZaD ZUY (CV h)
abbrev bT (s:Stmt)(j:Nat):Stmt:=match s with
 | .ClassDef _ _ _ Zet _ _ _ _ _ _ _=>body.getD j (.Pass Zn_)
 | _=>.Pass Zn_
abbrev ie (s:Stmt):Arguments:=match s with
 | #[aWD,a,_]=>a
 | _=>#[aWB,[],[],Zac,[],[],Zac,[]]
abbrev dY (s:Stmt):Zel:=match s with
 | #[aWD,_,b]=>b
 | _=>[]
abbrev ai (s:Stmt):Scope:=match s with
 | ZaWC _ _ _ _ _ _ sc _ _ _=>sc
 | _=>#[aWE,ZsM,[],Zaz,Zaz]
noncomputable abbrev d8:wQ:=fun _ _ _ _ _ _=>Zkt
noncomputable abbrev E0:XK:=Zov
def dw [45]:fE d8 X E0:=fun _ _ _ _ _ _ _ h=>Zab1
structure dL [37](x qual:Str)[347](f:Addr)(fd:FuncData):Zaa where
 ex:∃ (oc:Value)(od:ZgH)(kV doc pm:Value)(an:ZgH)(h_ ct:Value)(osl:ZoX),
  fd=Zahu/\ZaHC/\ZXh
 kp:Za2O
section
variable {P:Program}{w:World}{K:ge}{mg:Zm5}{base:Heap}
def dL.ok {x qual:Str}{st:Stmt}{f:Addr}{fd:FuncData}{N ps:Zbe}{k:Nat}{sp:Sp}(F:ZxQ)(S:Zaaa)(len:ZOk)
  (P_:∀ (h_:Value)(A:Around)(outer:ZbA)(s:Shared)(H:Hp)(vs:Zbg)(Q:VK)(E:XK),ZaCf->ZlS ->
   ∃ t,BZ (#[uH,d8,ZBw,h_,s,H]).nox ZBC t/\ZRS):#[cS,Zgi,ps,sp]:=by
 obtain⟨oc,od,kV,doc,pm,an,h_,ct,osl,rfl,lk,Y_⟩:gZ:=F.ex;refine #[abf,?_];refine ak (ZaTU) fun t h q=>?_;exact ⟨t,h.nox,q⟩
def dL.binds {x qual:Str}{st:Stmt}{f:Addr}{fd:FuncData}{ps:Zbe}(F:ZxQ)
  (h:#[aVE,Zahu]):ZNF:=by
 obtain⟨oc,od,kV,doc,pm,an,h_,ct,osl,rfl,lk,Y_⟩:gZ:=F.ex;exact Zps (h kV doc pm an h_ ct)
def MA {x qual:Str}{st:Stmt}{f:Addr}{oc:Value}{od an:ZgH}{osl:ZoX}{kV doc pm h_ ct:Value}(l:#[ajY,Zahu])
  (c:ZXh) (k:Za2O):dL K x Zbt st f (Zahu):=⟨⟨oc,od,kV,doc,pm,an,h_,ct,osl,rfl,l,c⟩,k⟩
#where
def cY [34]{k:Nat}(hr:ZFd):ZXY:=ZF (Nat.add_le_add_left (ZaC:1<=64) _) hr.units
def bK [162](h:n<=ZbY):#[uw,n]:=ZF h ZaF
section
variable {X:Cx}
def pv (i:Nat){x:Str}{pos:Pos}(hN:Zgz:=by rfl)(hv:Zagj:=by first | exact ZJB | exact ZzL (ZJy rfl) | exact ZzL (ZzL rfl))(hd:Zt_:=by decide)
  (Y_:ZYX:=by decide):ZayC:=Nt hN hv hd Y_
#where
def aG {A B:Zaa}(h:B):#[aWF,Zh1]:=by
 rw[ZbQ];exact h
def aR {A B:Zaa}(h:A):#[aWF,Zad=Zad]:=by
 rw[Zav];exact h
abbrev ay [250]:Zaa:=ZaGj
def ay.refl [33]:ay H H:=#[iW,h]
def ay.trans [316](a:ZTD)(b:ZavR):ay H H2:=fun c o h=>b c o (a c o h)
def ay.free [23](e:Zcw)[281](h:H' l=ZacX):H l=ZacX:=by
 cases q:H l with
 | none=>rfl
 | some o =>
  rw[e l o q]at h;cases h
def ay.seq [323][23][54][41](e:Zcw)(h:Zip):cC K H' a xs:=by
 rcases h with (h | ⟨o,h⟩) | h
 ·exact #[r3,(e _ _ h)]
 ·exact #[xm,#[ft,e _ _ h]]
 ·exact Zaq h
section
variable {κ:ZfK} [ZaC5]
def u9:∀ {l:Zbd κ}{k:κ},l.Nodup->¬ k∈l->(l++[k]).Nodup
 | [],k,_,_=>ZaM
 | a::r,k,h,hk=>by
  obtain⟨h1,h2⟩:=ZS4
  show (a::(r++[k])).Nodup
  refine YN.mpr ⟨fun m=>?_,u9 h2 fun m=>hk (Zacd (ZzL m))⟩;rcases Zd_ m with q | q
  ·exact h1 q
  ·exact hk (Zacd (ZJy (ZdN q).symm))
#where
#print L2
set_option maxHeartbeats 4000000
namespace L2
open PySem PySem.Spec PyProof.Rows
structure wT (so sc:Scope)(N N':Zbe)[97]:Zaa where
 kind:ZsN
 nocell:Za26
 loc:Za24
 fre:Za29
 nd:N'.Nodup
 len:ZaWN
 cap:∀ p∈ZG6,(match p.2 with | none=>true | ZwI=>ZaaR)=true
abbrev n9 [97](σ:St):St:=src.map fun o=>o.bind Zaq_
abbrev dh [81][393](cl:Zjh)[35](N':Zbe)[135][33](ex:Zcr):Cx where
 prog:=X.prog
 w:=X.w
 K:=X.K
 mg:=X.mg
 base:=X.base
 A:=X.A
 N:=N'
 s₀:=s
 H₀:=H
 env:=ZaWG sc cl C ZaG
 outer:=X.stack
 stack:=X.stack
 ex:=ex
 fn:=ZQj
 calm:=X.calm
 pn:=[]
 xe:=Zku
set_option tactic.hygienic true
def n8 {env:Env}:∀ (names:ZaUa)(cs:Zjh),(#[aK6,ZJC]) ->
  (∀ x c,#[bD,ZaWL,c]->ZQO) ->
  ∃ cl:Zjh,(forIn names cs fun x r=>if #[h9,x.2,Ztf] then (do let a <-cellOf env x.1;#[M_,((x.1,a)::r)]) else ZM':Sem (Zbd ZRh))=Zb2 cl /\
   (ZazW)/\(∀ x,(#[D3,ZaWL])->#[D3,ZJD])/\#[aK6,ZJD]
 | [],cs,_,h2=>dN cs #[os,List.forIn_nil] h2 (fun _ h=>h) (fun _ h=>nomatch h)
 | ZTH,cs,h1,h2=>by
  by_cases hk:k=ZfS
  ·subst hk
   obtain⟨c,hc⟩:=h1 (n,ZfS) Ye rfl
   have F_:∀ x d,#[bD,#[e9,ZXv],d]->#[bD,ZJC,d]:=fun x d e=>by
    rw[YI]at e;split at e
    ·rename_i hx
     cases e
     have:x=n:=ZzM
     rw[this];exact hc
    ·exact h2 x d e
   refine #[aR8,ZXv,F_];have has:∃ d,#[e9,ZXv] n=Zab d:=#[wC,c];refine dN cl ?_ q1 (fun x ZaDy=>q2 x ?_) (fun y hy hf=>?_)
   ·rw[aQl,<-e]
    simp[cellOf,hc]
   ·rw[YI]
    split
    ·exact ZbG
    ·exact ZaDy
   ·rcases ZFk with rfl | hy
    ·exact q2 _ has
    ·exact ZaxE
  ·refine #[aR8,cs,h2]
   have hb:#[kN,k,Ztf]:=ZacY
   refine dN cl ?_ q1 q2 (fun y hy hf=>?_)
   ·rw[aQl,<-e]
    simp[hb]
   ·rcases ZFk with rfl | hy
    ·exact #[dg,hf,hk]
    ·exact ZaxE
set_option tactic.hygienic false
def kG [399]{env:Env}(h:#[a23,ZfS,∃ c,ZJC y.1=Zab c]) :
  ∃ cl:Zjh,#[a4f,sc,cl]/\(ZazW)/\Za28:=by
 refine qp (n8 Zzw [] h (fun x c z=>by simp at z)) fun cl e q1 _ q3=>?_;refine ⟨cl,?_,q1,q3⟩;unfold closureFor
 show (#[aD0,forIn Zzw [] _])=_
 refine ZacZ (Zp (fun t=>#[aD0,t]) (ZacZ ?_ e)) ZaN
 congr 1
def vj {env:Env}:∀ [300],(∀ y∈names,y.2≠Ze') ->
  (Zav' \/
    Zav5)->#[a3G,Ztg]
 | [],_,_,h=>ZgP
 | ZTH,x,hc,h=>by
  have ih:=@vj env r x (#[aih,hc]);have h:ZaKG:=h
  by_cases hb:ZOV
  ·rw[Zv7]at h
   cases hx:ZXp with
   | true =>
    have e:x=n:=ZzM
    subst e
    have:k=Ztf:=by
     simp only[Y4,ZH]at hb;exact hb.1.1
    subst this;exact Ye
   | false =>
    simp only[YI,hx]at h;exact ZaFU
  ·rw[ZEn]at h
   cases hx:ZXp with
   | true =>
    have e:x=n:=ZzM
    subst e;have hk:=hc (x,k) Ye;simp only[YI,beq_self_eq_true,Option.some.injEq]at h;rcases h with h | h
    ·exact #[dg,h,hk]
    ·subst h;exact Ye
   | false =>
    simp only[YI,hx]at h;exact ZaFU
def sJ {env:Env}:∀ [300],#[lg,names.lookup] ->
  (Zav' \/
    Zav5)
 | [],_,h=>ZgP
 | ZTH,x,h=>by
  have ih:=@sJ env r x
  show ZaKG
  cases hx:ZXp with
  | true =>
   simp only[YI,hx,Option.some.injEq]at h;subst h
   by_cases hb:#[eI,#[NC,Ztf]]
   ·rw[Zv7];left;simp only[YI,hx]
   ·rw[ZEn];right;simp only[YI,hx]
  | false =>
   simp only[YI,hx]at h
   by_cases hb:ZOV
   ·rw[Zv7];simp only[YI,hx];exact ih h
   ·rw[ZEn];simp only[YI,hx];exact ih h
def jw {prog:Program}{w:World}{A:Around}{R:ZlF}{s:Shared}{elt target iter:Expr}{ifs:Zbh}{scope:Scope}{pos:Pos}{it acc:Value}{env:Env}(I:ZwW)
  (turn:∀ n s,ZiD->wpAny Ztb A ZA5 (fun r s₁=>match r with
   | none=>Zyx
   | ZjV=>wpAny Ztb A ZZI (fun _ s₁'=>wpAny Ztb A ZZH (fun _ s₂ =>
     wpAny Ztb A (forIn ifs true fun c r=>if ZrB then do let ok <-Zzg;ZNa else ZM') (fun ok s₃ =>
      if ZwN then wpAny Ztb A ZVh (fun x s₄ =>
       ZaJ1) ZA9 s₃
      else ZxP) ZA9 s₂) ZA9 s₁') ZA9 s₁) ZA9 s)
  (n:Nat) (h:ZiD) :
  ZaGy:=by
 refine ZyK
 show wpAny _ A (ZaD1 (fun x=>do ZKc;Zxe)) _ _ s
 refine Zw4;rw[compTurn_list];refine Zalj
 cases r with
 | none=>exact Zxj
 | some v =>
  refine Zakk;refine ZaYs
  cases ok with
  | false=>exact ZxZ
  | true =>
   exact ZaN_
abbrev O0 [81](ifs:Zbh)(t:TT):Zaa :=
 ∀ [1][136],ZhY->Zok ->
  wpAny Zt0 X.A (forIn ifs true fun c r=>if ZrB then do let ok <-Zzf c ZaG (ZgS c ZaG);ZNa else ZM') ZQP X.xe s
abbrev EN:TT:=#[abU,Zad]
def fS [45]:O0 X [] EN:=#[aWt,wpAny_tests_nil ⟨H,I,h⟩]
def rC [45]{c:Expr}{t:TT}(h:PT X c t):O0 X [c] t:=fun pins s σ H Q I hq=>wpAny_tests_one (h Zai s σ H Q I hq)
abbrev Ov (tt:TT)[329][88]:TS:=#[pg,tt,#[sW,#[eY,b,ZaBN,ZrW]]]
abbrev sj (J:It)(g:TG)(tb:TS)(D:kA)(σ:St)[33]:Zaa:=∃ W:Zhu,ZiA/\∀ i m σ H,Zhr ->
 ZaMF
abbrev Vz [301][329][97]:TE:=fun σ H Q=>wi σ H fun J H1=>∀ a,ZFs ->
 #[aJ5,ZTp]
def qu {X:Cx}{pins:ZdT}{σ:St}{H:Hp}{s:Shared}{sc so:Scope}{N':Zbe}{src:ZBE}{cl:Zjh}{fp:Zcr}{h':Heap}
  (I:ZhY) (hso:Zagi) (S:#[air,X.N]) (q1:#[QZ,ZT5]) (q3:Za28)
  (hf:ZFG) (q_:#[iO,ZPw]) (hns:h'.Ns Zar ZQk) (hk:Zapj) (tk:Nat) :
  aS #[Bm,Zar,s,H,fp] [] ZCV H ZKj:=by
 have hb:#[iO,b≠Zar/\#[QZ,c≠b]]:=#[zN,⟨Yo (q_ b z),#[aij,#[F8,0].2.2.2.2.1]⟩]
 refine⟨⟨I.ok.mod,?_,I.ok.glob,I.ok.blt,Zbs,fun x y c h1 h2=>ZIP x y c (q1 _ _ h1) (q1 _ _ h2),Zf1,fun x c hx _=>(by cases hx),I.ok.hd,I.ok.frames,Ze1,hb,I.bs,ZaIa,fun b o e z=>?_,fun b z hz=>?_,I.stack,I.stkFree⟩,
  rfl,I.bare,ZabG,ZaJJ,Zad7,ZxA,#[aij,Zpa],Zah3,ZaUF hk,?_⟩
 ·show (relabel sc ZaG).kind=_
  exact S.kind
 ·have hx':Za3H:=vj Zac0 hx
  exact q3 _ hx' rfl
 ·rcases #[F8,0].2.2.2.1 with y | y
  ·exact ZJE b o e y
  ·exact #[dg,(Yw Zqa (YU Zzd y)),ZCl]
 ·rcases ZcI (ZabQ b hz) with y | y
  ·exact #[F8,0].2.1 y
  ·exact #[F8,0].2.2.1 y
 ·-- the captured names
  have h1':#[dA,N'[i]?]:=h1;have F_:#[ah,ZCV[i]?,Zih]:=h2;unfold n9 at F_;rw[YC]at F_
  cases hs:src[i]? with
  | none=>rw[hs]at F_;cases F_
  | some o =>
   rw[hs]at F_;have cx5:(o.bind Zaq_)=Zab v:=Yk F_
   cases o with
   | none=>cases cx5
   | some j =>
    have hj:Zan0=Zab v:=cx5
    have hσ:#[ah,Zac1,Zih]:=by
     cases e:Zac1 with
     | none=>rw[e]at hj;cases hj
     | some z=>rw[e]at hj;rw[show z=Zab v from hj]
    have ck3:(x,ZwI)∈ZG6:=by
     have:#[ah,(N'.zip src)[i]?,(x,ZwI)]:=by
      rw[List.getElem?_zip_eq_some];exact⟨h1',hs⟩
     exact Yy Zbu
    have hc:=Y1 (S.cap _ ck3);obtain⟨hN,O_⟩:#[dA,X.N[j]?]/\Zav4:=hc;have aj3:Za3H:=Zj O_;have bz6:=S.fre _ aj3 rfl;rw[<-hso]at bz6;refine ZN3;refine ak (hl j x v hN hσ (Zaq bz6)) fun u ru lk=>?_;refine ⟨u,ru,Zaq #[bF,sJ O_]⟩;obtain⟨c,R_⟩:=q3 _ aj3 rfl;refine #[br,c,R_];rcases lk with ⟨k,_⟩ | ⟨_,c',e',z⟩
    ·have k:ZMd:=k
     rcases bz6 with y | y<;>(rw[k]at y;cases y)
    ·have:=q1 x c R_
     rw[e']at this;cases this;obtain⟨ob,e1,e2⟩:ak:=z;exact ⟨ob,Zazs,e2⟩
 ·refine bU (ZiI x c Zaii) fun v ob e1 e2=>?_
  exact ⟨v,ob,Zazs,e2⟩
 ·show #[aZ,ZCV]=ZaWM
  unfold n9;rw[X7];exact S.len
def lO [45][3][281][41][401][47][378](hz:ZauV)(ru:Zgl) :
  Zb3 Zt0 X.A #[al5,[Zgh,u]] #[Qb,#[cl,ZaGP,s']] E s:=by
 refine ZHL;refine ZaS8;refine #[aa7,e_++[u],ZaPj];rw[Yr,YW]
 lia
def iJ {X:Cx}{elt tg iter:Expr}{ifs:Zbh}{sc so:Scope}{pos:Pos}{N':Zbe}{src:ZBE}{wi:TI}{g:TG}{tt:TT}{te:TE}{N:Zbe}(hso:Zagi)(hXN:Zyd)(S:Zais)(hc:Ze0)(hi:Zsm)
  (hb:ZaNA)
  (hs:ZaYl:=by intro _;rfl):PE X ZCQ (Vz wi g tt te src):=by
 subst hXN;intro pins s σ H Q I h
 refine az (kG (sc:=sc) (env:=X.env) fun y hy hf=>by
  have:=Zx6;rw[<-hso]at this
  exact ZIO) ZwE
 rw[eval_ListComp];refine ZaWP;obtain⟨it,fp,tn,J,H2,e,I2,T,st2,f2,hR⟩:fR:=h2;subst e;refine Zw3
 have I3:Za3h :=
  Zalf
 have O_:=Zagv;refine ZyD;obtain⟨m0,w0⟩:=a_
 have flt:ZxN:=Zaiz
 generalize hs3:Za3g=s3 at I3 ⊢
 have e3:Za3e:=ZwF
 have sz3:ZJp:=Zx7
 have t_:Zag5:=ZaiZ
 have Q_:ZJo:=ZyA
 have c5:Zagt:=ZahV
 refine ZV S.nocell (by intro y hy;simp at hy) Zyc S.kind;have kp4:ZBW:=Zx5;have I4:=ZacD;have st4:ZxF:=ZahU;generalize hC:s3.heap.objs.size=C at I4 N_ L_ ⊢;refine ZaJ7
 let Y:Cx:=ZanI
 have loop:∀ s5:Shared,ZacC->codeAny Zt0 X.A ZaWK
   ZanE s5:=by
  rintro s5 rfl
  have o_:Zaj4:=fun {H'} hn b hb=>by
   refine ZyI;refine Zaik
   ·show Zoz
    rw[<-hC];exact Zym
   ·have z:Znf:=z
    rcases Zyr with y | y
    ·exact f1 y
    ·exact Zxn
  refine ZaCG;intro n s6 a_;obtain⟨i,σ6,H6,I6,st6,fr6,w6⟩:iG:=a_;rcases Zsu with ⟨stop,qn⟩ | ⟨go,Nx,hN,step⟩
  ·refine Zab7
   obtain ⟨hr,I7⟩:=zz;subst hr;refine Zaiw;refine ZakL
   have neC:ZAe:=ZN5
   have freeC:ZxX:=I7.free
   have un:ZaCF :=
    ⟨Za21,fun b o e n hb hx=>by
      obtain⟨sl,q⟩:=ZVa
      exact ZWD,I7.base.free,fun b o e hx=>by
      obtain⟨o',q⟩:=ZU9
      exact ZWC,I7.base.tups,I7.base.frzs,I7.base.tbls⟩
   have hok:ZZV:=fun b ob e=>by
    refine ZZO;rintro rfl;rcases hc' with z | z
    ·rw[<-z,freeC]at e;cases e
    ·rw[freeC]at z;cases z
   have J7:Zai8:=Zai9;exact ZaaW
  ·refine Zab9
   obtain ⟨u,hr,h7⟩:=zz;subst hr;refine Zsk;obtain ⟨x,H8,I8,r8,y8,st8,fr8⟩:=zz;have I8':=Zst;refine Zaj8;obtain ⟨σ9,H9,I9,q9⟩:=zz
   have again:Zaj6:=fun [302] I7 n7=>by
    refine ZoZ;refine ZaiX;refine ZaiI;exact Zahr
   refine Zaja;obtain ⟨H10,I10,K_⟩:=zz
   cases ok with
   | false =>
    rw[ZbQ]at K_ ⊢;exact ZtB
   | true =>
    rw[Zav]at K_ ⊢;refine Zalx;obtain ⟨yv,H11,I11,ry,ys,hys,hlen,q11⟩:=zz;exact ZIi
 exact Zaln
abbrev Oq [301][329][97][207]:TS:=fun D σ H=>wi σ H fun J H1=>∀ a,ZFs ->
 #[aJ5,ZiK (ZiJ i #[nq,a]) H']
def vi {X:Cx}{ix:Nat}{x:Str}{px spos:Pos}{elt tg iter:Expr}{ifs:Zbh}{sc so:Scope}{pos:Pos}{N':Zbe}{src:ZBE}{wi:TI}{g:TG}{tt:TT}{te:TE}{N:Zbe}(hso:Zagi)(hXN:Zyd)(S:Zais)(hc:Ze0)(hi:Zsm)
  (hb:ZaNA)
  (hnd:X.N.Nodup) (hix:Zas4) (hx:ZMd)
  (hsw:Za4T:=by rfl)
  (hs:ZaYl:=by intro _;rfl):ZaRs:=by
 subst hXN;intro pins s σ H D I h
 refine az (kG (sc:=sc) (env:=X.env) fun y hy hf=>by
  have:=Zx6;rw[<-hso]at this
  exact ZIO) ZwE
 rw[ZaF4];refine ZawB
 show wpAny _ X.A (do let _ <-ZaYo) _ _ s
 refine #[aL3,ZaWO (use:=ZaLr) (Q:=ZaqZ) rfl hs R_ Zs2 S.loc Zajx];obtain⟨it,fp,tn,J,H2,e,I2,T,st2,f2,hR⟩:fR:=h2;subst e;refine Zw3
 have I3:Za3h :=
  Zalf
 have O_:=Zagv;refine ZyD;obtain⟨m0,w0⟩:=a_
 have flt:ZxN:=Zaiz
 generalize hs3:Za3g=s3 at I3 ⊢
 have e3:Za3e:=ZwF
 have sz3:ZJp:=Zx7
 have t_:Zag5:=ZaiZ
 have Q_:ZJo:=ZyA
 have c5:Zagt:=ZahV
 refine ZV S.nocell (by intro y hy;simp at hy) Zyc S.kind;have kp4:ZBW:=Zx5;have I4:=ZacD;have st4:ZxF:=ZahU;generalize hC:s3.heap.objs.size=C at I4 N_ L_ ⊢;refine ZaJ7
 let Y:Cx:=ZanI
 have loop:∀ s5:Shared,ZacC->codeAny Zt0 X.A ZaWK
   #[anD,Zajk,Zazc] s5:=by
  rintro s5 rfl
  have o_:Zaj4:=fun {H'} hn b hb=>by
   refine ZyI;refine Zaik
   ·show Zoz
    rw[<-hC];exact Zym
   ·have z:Znf:=z
    rcases Zyr with y | y
    ·exact f1 y
    ·exact Zxn
  refine ZaCG;intro n s6 a_;obtain⟨i,σ6,H6,I6,st6,fr6,w6⟩:iG:=a_;rcases Zsu with ⟨stop,qn⟩ | ⟨go,Nx,hN,step⟩
  ·refine Zab7
   obtain ⟨hr,I7⟩:=zz;subst hr;refine Zaiw;have freeC:ZxX:=I7.free;have J7:Zayz:=ZaNe
   have hC3:ZAe:=ZN5
   have hlC:ZaDm:=by refine ZaIr;obtain⟨o3,_,_,e3',_⟩:im:=a_;exact ZRj
   have hcC:ZaD2:=ZaQ5
   have hpC:#[NT,C]:=ZaDD;refine ZaU0;obtain ⟨a8,sb8,ha8⟩:=zz
   have bk9:C≠a8:=by
    rcases ha8 with z | z
    ·rw[z];exact Yz hlC
    ·exact ZaJn
   refine ZaUH
   have I9:ZaSi :=
    ZaTK
   exact ZaHQ
  ·refine Zab9
   obtain ⟨u,hr,h7⟩:=zz;subst hr;refine Zsk;obtain ⟨x,H8,I8,r8,y8,st8,fr8⟩:=zz;have I8':=Zst;refine Zaj8;obtain ⟨σ9,H9,I9,q9⟩:=zz
   have again:Zaj6:=fun [302] I7 n7=>by
    refine ZoZ;refine ZaiX;refine ZaiI;exact Zahr
   refine Zaja;obtain ⟨H10,I10,K_⟩:=zz
   cases ok with
   | false =>
    rw[ZbQ]at K_ ⊢;exact ZtB
   | true =>
    rw[Zav]at K_ ⊢;refine Zalx;obtain ⟨yv,H11,I11,ry,ys,hys,hlen,q11⟩:=zz;exact ZIi
 exact Zaln
section
variable {X:Cx}
abbrev Uw (i j:Int):Zaa:=0<j/\j<ZaWQ
def Nf:#[aVW,Uw]:=V1 fun i j _ _ _ _ _ hc q=>by
 have h1:ZfB<j:=hc.1;have h2:j<ZaWQ:=hc.2;refine #[aPl,PyProof.noPylong_of_log2,?_]
 have h0:j.natAbs≠0:=Zaf
 have:j.natAbs.log2<60:=#[cQ,ZaK7]
 lia
def xT [34]{bs:Zru}[396](r:bw (ZiG ZcH) e_) :
  TruthOf ZbC X.w A (#[Dh,ZzO]) (Zac3):=by
 intro i v s Q E hv hq
 have hv':Zau9:=ZJk
 have hi:i<Zmh:=#[pc,hv'];have hl:=r.length;rw[X7]at hl;refine ak (r.get (i:=i) (x:=ZcH (Zard)) (ZVA)) ZOM;rw[hv']at hu;cases hu;cases ru
 have e:Zac2 i Zaz=Zard:=by simp[List.getD,Yi (#[iX,i<Zkv])]
 have hq':Q (Zac2 i Zaz) s:=hq;rw[e]at hq';exact ZK hq'
def Ls (bs:Zru):#[aAj,bs.all]:=by
 have h:ZaHo:=by
  apply List.ext_getElem
  ·simp
  ·intro i h1 h2;simp[List.getD,Zwg]
 have e:#[aAj,#[aEB,0].all]:=#[cJ,ZaWR]
 rw[e,h]
def Lu (bs:Zru):#[aIH,bs.any]:=by
 have h:ZaHo:=by
  apply List.ext_getElem
  ·simp
  ·intro i h1 h2;simp[List.getD,Zwg]
 have e:#[aIH,#[aEB,0].any]:=#[cJ,List.any_map]
 rw[e,h]
def vX {pins:ZdT}{σ:St}{H:Hp}{s:Shared}{A:Around}{E:Zfh}{p:Addr}{xs:Zbg}{e_:ZbS}{R:Zfh}(I:ZhY)(hA:Zeo)(pl:PlainL ZaE p Zci)
  (h:∀ (I':Addr)(St:ZNu)(s2:Shared),ZdP=ZdC->#[R0,I']->Walks ZbC X.w A I' [I',p] [I'] Zmh (#[Dh,ZzO]) St->St 0 ZsX->(#[Q2,Zac4])->(∀ h' tk,(#[p1,b∉[I'],#[a4,Zac4],Zd9])->#[hX,#[aWS,h',tk]])->R #[ak,I'] s2) :
  #[fl,Zt0,#[QT,p],R]:=by
 refine #[a38,ZgN]
 have q_:#[dc,p]:=by obtain⟨o,n,e,_⟩:bU:=pl;exact ZcD
 have W:=Walks.list (prog:=ZbC) (w:=X.w) hA Zar p (Yo q_) Zci;rw[Yq]at W;refine h _ _ _ #[os,YR] rfl W ⟨ZvQ,ZaWT Zaq2⟩ (ZnF) fun h' tk kp=>?_;exact Zph (t':=tk) #[ct,kp b o #[CE,ZqC] ZnA]
inductive QD [377]:Zaa
 | mk [217](_:Q (.bl (bs.all id)) H)
def vK [131]:#[FQ,Zdi,QD]:=by
 intro pins s σ H xs us Q I r h;obtain⟨p,bs,rfl,hq,q⟩:=h;obtain⟨u,rfl,rx⟩:ak:=ZfH;cases rx;refine ZUR;have hl:=rv.length;rw[X7]at hl;refine #[aKx,call_all_walk];refine ZaQM;rw[<-hl,Ls];exact q
inductive QE [377]:Zaa
 | mk [217](_:Q (.bl (bs.any id)) H)
def Ca [131]:#[FQ,"any",QE]:=by
 intro pins s σ H xs us Q I r h;obtain⟨p,bs,rfl,hq,q⟩:=h;obtain⟨u,rfl,rx⟩:ak:=ZfH;cases rx;refine ZUR;have hl:=rv.length;rw[X7]at hl;refine #[aKx,call_any_walk];refine ZaQM;rw[<-hl,Lu];exact q
def jW:∀ [350][24],ZaHW->ZacR us ns
 | [],_,r=>by cases r;exact IntsAre.nil
 | n::ns,_,r=>by
  cases r with
  | cons r t=>obtain⟨tk,rfl⟩:=r;exact IntsAre.cons _ _ (jW t)
def ER:∀ [350][24],#[acS,us]->ZaHW:=by
 intro ns
 induction ns with
 | nil=>intro us h;cases h;exact Zao
 | cons n ns ih =>
  intro us h
  cases h with
  | cons _ _ t=>exact ZaD ZbG (ih t)
abbrev cK:Zbf->Zbf:=fun l=>l.mergeSort (#[pt,#[AV,a<=b]])
def Gu {l m:Zbf}(hp:m.Perm l)(hs:m.Pairwise (·<=·)):m=cK l:=by
 have h1:#[QR,0].Pairwise (#[pt,#[AX,a<=b]]):=List.pairwise_mergeSort (by intro a b c;simp;lia) (by intro a b;simp;lia) l;have h2:#[QR,0].Pairwise (·<=·):=h1.imp (ZaM);have h3:m.Perm (cK l):=hp.trans #[a34,0].symm;exact h3.eq_of_pairwise (fun a b _ _ h1 h2=>Int.le_antisymm h1 h2) hs h2
def yw:∀ [374],Zayv->(∀ [207] x u,ZKD->#[ah,us[i]?,u]->Zlt)->ZfC
 | [],[],_,_=>Zao
 | ZgB,ZxC,hl,h=>ZaD (h 0 x u rfl rfl) (yw (ZzP) fun i y v e1 e2=>h Zcz y v (Zac5) (ZaWU))
 | [],ZcX,hl,_=>ZaWV
 | ZcX,[],hl,_=>ZaWV
inductive Io [12]:Zaa
 | mk [89][240][139][379](_:kvs.map (·.1)=ZhI Zdr)(_:ZfL<64)(_:#[Gu,#[mU,cK,ns]])
def uE [131]:#[nM,ZJF,Io]:=by
 intro pins s σ H xs us Q I r h;obtain⟨p,kvs,ns,rfl,hH,hk,h64,q⟩:=h;obtain⟨u,rfl,rx⟩:ak:=ZfH;cases rx;refine #[apf,#[Zh,p,ZeK,Zbp p _ hH]];obtain⟨ep,hat⟩:=dd.dictAt
 have hlk:ZcK=ZfL:=#[ac7,#[xL,hk]]
 have hlv:ZiR:=ZlH;refine PySem.Calls.call_function_entry kind_sorted plain_sorted entry_sorted (args_sorted1 _) ?_;unfold Builtin.«sorted»;refine X5 (m:=checkCount ZJF 1 1 _) Zrc;refine X5 (PySem.W.kdu_collect (A:=Ztj) (PySem.W.kdl_dict (knd:=ZqY) (kvs:=vs) (ep:=ep) lo) ZI7 hat #[gf,hlv,hz] fun h' tk acc kp J_=>?_)
 have hal:acc.toList.length=ZiQ:=#[aW,YS,J_.1]
 refine X5 (wpAny_newList ?_ (#[acF,hal,hlv,hz]))
 have rI:bw (ZhI Zaw) ZaWW:=yw #[DU,X7,hal] fun i x v e1 e2=>by
  refine bU (J_.2 i v Za0z) fun k y hx hks=>?_
  have e3:(vs.map (·.1))[i]? = Zab k:=#[nW,hx]
  rw[<-rel.keys,hk,YC]at e3;rw[YC]at e1
  cases en:ns[i]? with
  | none=>rw[en]at e1;cases e1
  | some n =>
   rw[en]at e1 e3;have e1':Zaw n=x:=Yk e1;subst e1';have e4:#[q1,n]=k:=Yk e3;subst e4;rcases c9 (k:=#[ee,n]) (v:=v) hks with ⟨j,t,ej,ev⟩ | ⟨j,t,ej,_⟩
   ·cases ej;exact ZxM
   ·cases ej
 have hoL:(ZJs (seqObj Zds ZaWX 0)).get? ZiT=Zab (seqObj Zds ZaWX 0):=Zd0;refine X5 (YO (ZD slot_list_sort #[dB,hoL] entry_list_sort (list_sort_tree hoL (jW rI) (#[hJ,hal]) fun out ns' a1 a2 a3=>Zhi) (args_list_sort _)));refine ZT6;have en:ns'=cK ns:=Gu a2 a3;subst en;obtain⟨e,he⟩:=sortedHeap_at (vs:=ZaWW) (out:=out) hoL;have I1:ZS':=Zph kp;refine #[Za,ZiT,Zzo (t':=tk) (a:=ZiT) (o:=ZaI ((cK ns).map Zaw)) (ZD4) Zbz (gU ?_ Zac8 e (ER a1) (by simpa using he)),ZN_]
 ·rw[sortedHeap_old Zld #[aX,size_push',Zo (Yf e)]]
  exact ZkY
 ·have:=a2.length_eq
  rw[X7]
  lia
#where
inductive Dt where
 | at (v:V)
 | sq (tup:Bool)(ds:ZjP)
abbrev sv:V->ZbB
 | ZaJ=>true
 | Ziw=>true
 | Zgu=>true
 | _=>false
def tF {v:V}(h:ZGl):qr v=Zad:=by cases v<;>first | rfl | cases h
def Dj {x y:V}(hx:ZUw)(hy:sv y=Zad):GM x y=Zad↔x=y:=by
 cases x<;>cases y<;>first | (cases hx;done) | (cases hy;done) | simp[GM]
abbrev xX [37][33](t:Bool)[88][36]:Zaa:=#[eY,t,Ziq,Zip]
abbrev RD [37][33]:Nat->V->Dt->Zaa
 | 0,v,d=>ZGl/\d=.at v
 | n+1,v,d=>(ZGl/\d=.at v)\/∃ a t xs ds,v=Zcm/\d=.sq t ds/\xX K H t a xs/\ZaOr
def RD.flat [203]{v:V}(h:ZGl):∀ n,RD K H n v (.at v)
 | 0=>#[jG,h]
 | _+1=>#[gc,h,rfl]
def RD.lst [343](h:Zip)[366]:#[aIA,Zaz] :=
 Zaq ⟨a,false,xs,ds,rfl,rfl,(by unfold xX;rw[ZbQ];exact h),r⟩
def RD.tup [343](h:Ziq)[366]:#[aIA,Zad] :=
 Zaq ⟨a,true,xs,ds,rfl,rfl,(by unfold xX;rw[Zav];exact h),r⟩
section
variable {X:Cx}{pins:ZdT}{σ:St}{H:Hp}{s:Shared}
def RD.inj [2]:∀ {n m:Nat}{v:V}{d e:Dt},#[vf,v]->RD X.K H m v e->d=e:=by
 intro n
 induction n with
 | zero =>
  intro m v d e h1 h2;obtain⟨f,rfl⟩:=h1
  cases m with
  | zero=>exact ZGJ
  | succ m =>
   rcases h2 with h2 | ⟨a,t,xs,ds,rfl,_⟩
   ·exact ZGJ
   ·cases f
 | succ n ih =>
  intro m v d e h1 h2;rcases h1 with h1 | ⟨a,t,xs,ds,rfl,rfl,q,r⟩
  ·obtain⟨f,rfl⟩:=h1
   cases m with
   | zero=>exact ZGJ
   | succ m =>
    rcases h2 with h2 | ⟨a,t,xs,ds,rfl,_⟩
    ·exact ZGJ
    ·cases f
  ·cases m with
   | zero=>cases h2.1
   | succ m =>
    rcases h2 with h2 | ⟨a',t',xs',ds',ea,rfl,q',r'⟩
    ·cases h2.1
    ·cases ea
     have pr:∀ {l:Zbg}{l1 l2:ZjP},Za3 (RD X.K H n) l l1->#[aqg,l,l2]->l1=l2:=by
      intro l
      induction l with
      | nil=>intro l1 l2 p1 p2;cases p1;cases p2;rfl
      | cons z l ihl =>
       intro l1 l2 p1 p2
       cases p1 with
       | cons r1 t1 =>
        cases p2 with
        | cons r2 t2=>rw[ih r1 r2,ihl t1 t2]
     cases t with
     | false =>
      have q:ZGp:=by unfold xX at q;rwa [ZbQ]at q
      cases t' with
      | false =>
       have q':Zaxx:=by unfold xX at q';rwa [ZbQ]at q'
       have:=Zab4 q q';subst this;rw[pr r r']
      | true =>
       have q':Zaxy:=by unfold xX at q';rwa [Zav]at q'
       refine #[K8,q,fun _ _ p1 _=>?_];refine #[gg,q',fun _ _ p2 _=>?_];exact #[avm,Ztk,p2]
     | true =>
      have q:ZGq:=by unfold xX at q;rwa [Zav]at q
      cases t' with
      | false =>
       have q':Zaxx:=by unfold xX at q';rwa [ZbQ]at q'
       refine #[gg,q,fun _ _ p1 _=>?_];refine #[K8,q',fun _ _ p2 _=>?_];exact #[avm,Ztl,p1]
      | true =>
       have q':Zaxy:=by unfold xX at q';rwa [Zav]at q'
       have:=Zab5 q q';subst this;rw[pr r r']
def NJ [2]:∀ [380],ZWx->ZaIx->ZaIy ->
  Za3n ->
  #[vk,ZDd,SeqAt.RcAt A s Zef Zlq k]:=by
 intro n A l b d e hu h1 h2 ih;rcases h1 with h1 | ⟨a,t,xs,ds,ea,rfl,q,r⟩
 ·cases h1.1
 cases ea;rcases h2 with h2 | ⟨a',t',xs',ds',ea,rfl,q',r'⟩
 ·cases h2.1
 cases ea
 have pw:∀ {us x_:ZbS},ZfC->ZaE7->∃ ks:Zq_,Za3o /\
   (Zaj0):=by
  intro us x_ rv U_
  have ex:Za3p:=by
   intro j
   by_cases hj:ZaNu
   ·obtain⟨h1,h2⟩:=hj
    have l1:=rv.length;have l2:=U_.length;have l3:=Zj0;have l4:=ZrQ;have gx:ZaEv:=Zll;have gx':ZaEw:=Zll;refine ZaBZ;refine ZaPr
    have eu2:ZJG=u:=ZaD3
    have bv0:ZaA1:=ZaD4
    have aj8:ZaSa:=by
     intro m zs
     induction zs with
     | nil=>intro es j z p hz;simp at hz
     | cons z0 zs ihz =>
      intro es j z p hz
      cases p with
      | cons p1 p2 =>
       cases j with
       | zero=>simp at hz;subst hz;exact Zass
       | succ j=>refine ZaSv;exact #[ac6,f]
    refine ZaQi;refine ZaQj;refine ZaTN;refine ZaRm;rw[ef]at e1;rw[ef']at e2;cases e1;cases e2;exact hk
   ·refine ZaMZ
    have l1:=rv.length;have l2:=U_.length;have l3:=Zj0;have l4:=ZrQ;have:=ZTA;have:=ZTz;exact Zazy
  exact Za4Y
 have allEq:ZaSb:=by
  intro ks hk hl;rw[YT];constructor
  ·intro h
   apply ZUF
   intro j h1 h2;exact ZaKi
  ·rintro rfl j hj
   have h1:=Zavi;exact ZaE6
 have l3:=Zj0;have l4:=ZrQ
 cases t with
 | false =>
  have q:cC X.K H l xs:=by unfold xX at q;rwa [ZbQ]at q
  refine ZazY;have l1:=rv.length
  cases t' with
  | true =>
   have q':ZGT:=by unfold xX at q';rwa [Zav]at q'
   refine Zaib;exact #[aI0,SeqAt.RcAt.list_tuple]
  | false =>
   have q':ZGS:=by unfold xX at q';rwa [ZbQ]at q'
   refine Zaic;have l2:=U_.length
   by_cases hl:Zabu
   ·refine ZH_
    refine #[aRG,SeqAt.RcAt.lists];rw[Yq,Zakz,ZH3];constructor
    ·rintro rfl;rfl
    ·intro h;injection h
   ·refine #[aPZ,SeqAt.RcAt.lists_lengths]
    constructor
    ·intro h;cases h
    ·intro h
     injection h with _ h;exact ZIf
 | true =>
  have q:bL X.K H l xs:=by unfold xX at q;rwa [Zav]at q
  refine ZazV;have l1:=rv.length
  cases t' with
  | false =>
   have q':ZGS:=by unfold xX at q';rwa [ZbQ]at q'
   refine Zaic;exact #[aIZ,SeqAt.RcAt.tuple_list]
  | true =>
   have q':ZGT:=by unfold xX at q';rwa [Zav]at q'
   refine Zaib;have l2:=U_.length;refine ZH_;refine #[c8,?_,(#[aQ6,SeqAt.RcAt.tuples])]
   by_cases hl:Zabu
   ·rw[Yq,Yq,<-hl,Nat.min_self,beq_self_eq_true,Bool.and_true,Zakz,ZH3]
    constructor
    ·rintro rfl;rfl
    ·intro h;injection h
   ·have:ZaEV:=ZzP
    rw[this,Bool.and_false];constructor
    ·intro h;cases h
    ·intro h
     injection h with _ h;exact ZIf
def NK [2]:∀ [380],ZWx->ZaIx->ZaIy ->
  Za3n ->
  #[vk,ZDd,SeqAt.RcNeAt A s Zef Zlq (!k)]:=by
 intro n A l b d e hu h1 h2 ih;rcases h1 with h1 | ⟨a,t,xs,ds,ea,rfl,q,r⟩
 ·cases h1.1
 cases ea;rcases h2 with h2 | ⟨a',t',xs',ds',ea,rfl,q',r'⟩
 ·cases h2.1
 cases ea
 have pw:∀ {us x_:ZbS},ZfC->ZaE7->∃ ks:Zq_,Za3o /\
   (Zaj0):=by
  intro us x_ rv U_
  have ex:Za3p:=by
   intro j
   by_cases hj:ZaNu
   ·obtain⟨h1,h2⟩:=hj
    have l1:=rv.length;have l2:=U_.length;have l3:=Zj0;have l4:=ZrQ;have gx:ZaEv:=Zll;have gx':ZaEw:=Zll;refine ZaBZ;refine ZaPr
    have eu2:ZJG=u:=ZaD3
    have bv0:ZaA1:=ZaD4
    have aj8:ZaSa:=by
     intro m zs
     induction zs with
     | nil=>intro es j z p hz;simp at hz
     | cons z0 zs ihz =>
      intro es j z p hz
      cases p with
      | cons p1 p2 =>
       cases j with
       | zero=>simp at hz;subst hz;exact Zass
       | succ j=>refine ZaSv;exact #[ac6,f]
    refine ZaQi;refine ZaQj;refine ZaTN;refine ZaRm;rw[ef]at e1;rw[ef']at e2;cases e1;cases e2;exact hk
   ·refine ZaMZ
    have l1:=rv.length;have l2:=U_.length;have l3:=Zj0;have l4:=ZrQ;have:=ZTA;have:=ZTz;exact Zazy
  exact Za4Y
 have allEq:ZaSb:=by
  intro ks hk hl;rw[YT];constructor
  ·intro h
   apply ZUF
   intro j h1 h2;exact ZaKi
  ·rintro rfl j hj
   have h1:=Zavi;exact ZaE6
 have l3:=Zj0;have l4:=ZrQ
 cases t with
 | false =>
  have q:cC X.K H l xs:=by unfold xX at q;rwa [ZbQ]at q
  refine ZazY;have l1:=rv.length
  cases t' with
  | true =>
   have q':ZGT:=by unfold xX at q';rwa [Zav]at q'
   refine Zaib;exact #[aI0,SeqAt.RcNeAt.list_tuple]
  | false =>
   have q':ZGS:=by unfold xX at q';rwa [ZbQ]at q'
   refine Zaic;have l2:=U_.length
   by_cases hl:Zabu
   ·refine ZH_
    refine #[aRG,ZaWY];rw[Yq,Zakz,ZH3];constructor
    ·rintro rfl;rfl
    ·intro h;injection h
   ·refine #[aPZ,ZaWZ]
    constructor
    ·intro h;cases h
    ·intro h
     injection h with _ h;exact ZIf
 | true =>
  have q:bL X.K H l xs:=by unfold xX at q;rwa [Zav]at q
  refine ZazV;have l1:=rv.length
  cases t' with
  | false =>
   have q':ZGS:=by unfold xX at q';rwa [ZbQ]at q'
   refine Zaic;exact #[aIZ,SeqAt.RcNeAt.tuple_list]
  | true =>
   have q':ZGT:=by unfold xX at q';rwa [Zav]at q'
   refine Zaib;have l2:=U_.length;refine ZH_;refine #[bm,(Zkn (min ZJH Zac9)).all ks&&ZJH == Zac9,?_,#[aQ6,SeqAt.RcNeAt.tuples]]
   by_cases hl:Zabu
   ·rw[Yq,Yq,<-hl,Nat.min_self,beq_self_eq_true,Bool.and_true,Zakz,ZH3]
    constructor
    ·rintro rfl;rfl
    ·intro h;injection h
   ·have:ZaEV:=ZzP
    rw[this,Bool.and_false];constructor
    ·intro h;cases h
    ·intro h
     injection h with _ h;exact ZIf
def G7 [2]:∀ [38][351],Za3l:=by
 intro n
 have aq6:∀ [34][175],sv y=Zad->ZUw->Zgl->Zd1->#[vk,Zqp↔Dt.at y=Dt.at x,#[a3j,k]]:=by
  intro A y x u v fy fx ry rx;refine ⟨ZRp,?_,G8 ry rx (tF fy) (tF fx)⟩;rw[Dj fy fx];constructor
  ·rintro rfl;rfl
  ·intro h;injection h
 induction n with
 | zero =>
  intro A y x u v d e hu h1 h2 ry rx;obtain⟨f1,rfl⟩:=h1;obtain⟨f2,rfl⟩:=h2;exact ZaP6
 | succ n ih =>
  intro A y x u v d e hu h1 h2 ry rx;rcases id h1 with ⟨f1,rfl⟩ | ⟨a,t,xs,ds,rfl,rfl,q,r⟩
  ·rcases id h2 with ⟨f2,rfl⟩ | ⟨a',t',xs',ds',rfl,rfl,q',r'⟩
   ·exact ZaP6
   ·cases rx
    refine ZaFa
    cases t' with
    | false =>
     have q':cC X.K H a' xs':=by unfold xX at q';rwa [ZbQ]at q'
     refine #[K8,q',ZEa]
     cases y with
     | non=>cases ry;exact SeqAt.EqAt.none_list Zkk Zag
     | int _=>obtain⟨tk,rfl⟩:=ry;exact #[F',SeqAt.EqAt.int_list]
     | str _=>obtain⟨tk,rfl⟩:=ry;exact #[F',SeqAt.EqAt.str_list]
     | _=>cases f1
    | true =>
     have q':bL X.K H a' xs':=by unfold xX at q';rwa [Zav]at q'
     refine #[gg,q',ZEa]
     cases y with
     | non=>cases ry;exact SeqAt.EqAt.none_tuple p Zag
     | int _=>obtain⟨tk,rfl⟩:=ry;exact #[F_,SeqAt.EqAt.int_tuple]
     | str _=>obtain⟨tk,rfl⟩:=ry;exact #[F_,SeqAt.EqAt.str_tuple]
     | _=>cases f1
  ·cases ry
   rcases id h2 with ⟨f2,rfl⟩ | ⟨a',t',xs',ds',rfl,rfl,q',r'⟩
   ·refine ZaFa
    cases t with
    | false =>
     have q:ZGp:=by unfold xX at q;rwa [ZbQ]at q
     refine #[K8,q,ZEa]
     cases x with
     | non=>cases rx;exact SeqAt.EqAt.list_none Zkk Zag
     | int _=>obtain⟨tk,rfl⟩:=rx;exact #[F',SeqAt.EqAt.list_int]
     | str _=>obtain⟨tk,rfl⟩:=rx;exact #[F',SeqAt.EqAt.list_str]
     | _=>cases f2
    | true =>
     have q:ZGq:=by unfold xX at q;rwa [Zav]at q
     refine #[gg,q,ZEa]
     cases x with
     | non=>cases rx;exact SeqAt.EqAt.tuple_none p Zag
     | int _=>obtain⟨tk,rfl⟩:=rx;exact #[F_,SeqAt.EqAt.tuple_int]
     | str _=>obtain⟨tk,rfl⟩:=rx;exact #[F_,SeqAt.EqAt.tuple_str]
     | _=>cases f2
   ·cases rx
    by_cases hab:a=a'
    ·subst hab
     exact ⟨Zad,(#[e5,Zac_ I h1 h2]),Zar1⟩
    ·refine #[abh,NJ,A,Zag,ih hu']
     exact ⟨k,hk,.of_refs hab hr⟩
#where
inductive Xx [37][38](neg:Bool)[267]:Zaa
 | mk [269](d e:Dt)[381](r1:RD K H ZdE x d)(r2:RD K H ZdE y e)(h:#[aJ8,ZDd])
abbrev Vc [37][38](neg:Bool):R2:=#[l9,Xx K n neg x y H Q]
section
variable {X:Cx}
def Tj [382]:#[abX,.Eq,(Vc X.K n Zaz)]:=by
 intro pins s σ H x y v u Q I rx ry h;obtain⟨a,b,d,e,rfl,rfl,h1,h2,q⟩:=h;cases rx;cases ry;refine #[abh,NJ,X.A,hu,ZaMu];exact #[aMb,(.bl k)]
def Tk [382]:#[abZ,(Vc X.K n Zad)]:=by
 intro pins s σ H x y v u Q I rx ry h;obtain⟨a,b,d,e,rfl,rfl,h1,h2,q⟩:=h;cases rx;cases ry;refine #[abh,NK,X.A,hu,ZaMu];exact #[aMb,(.bl (!k))]
#where
open PySem PySem.Spec PyProof.Rows PySem.Calls
def PV:#[adu,Zpu,ZaW0]:=ZoV
def MX:#[ap6,Zpu,Zac',ZaW1]:=ZoV
section
variable {prog:Program}{w:World}{A:Around}{E:Zfh}{s:Shared}{r d:Addr}{items:Zhz}
def MG {Q:Zasf}(hT:ZaG8)(h:Q Zaz s):#[tc,#[ha,Builtin.List.listLengthHint,r]]:=by
 unfold Builtin.List.listLengthHint;refine #[yl,PV]
 wp_delta
 refine Zam1;refine Zam1;refine #[yl,MX];generalize hid:(ZaW1 : String)=id0
 wp_delta
 rw[show splitId id0=Zab (Zpu,"__length_hint__") from by subst hid;decide +kernel];subst hid;refine #[ap1,Zpu,hT,(ZSf)];refine #[ak8,#[C3,hab],?_];refine aQm (ZMW) (fun hab=>Zdf (ZaA) hab);refine Zam1;exact Yg h
def Hb {R:ZlF}(hh:Zeo)(hit:ZaNM)(hl:ZaYG)(hrd:d≠r)(S:Addr)(hSr:S≠r)(hSd:S≠d)(res:Value)(c0:Nat)(hS:ZX9=some { cls:=Zdt,data:=ZaT #[] c0 })
  (hR:∀ h' tk n_ c',(#[hh,b≠S,b≠r,Zch,Zd9])->ZVU=some { cls:=Zdt,dict:=none,data:=ZaxA,slots:=#[] }->ZaRu->R (.ok (ZfO res)) ZKj) (hn:ZSY) :
  wpAny Ztb A.in1 (ZaW2 #[ak,S] #[ak,r] res)
   (fun fin s'=>match fin with | Zcv f=>R (.ok f) s' | .again c'=>c'.quiet=Zad/\#[avT,c']) (fun e s'=>R (ZzQ e) s') s:=by
 have hSf:S∉[r,d]:=by simp only[Yn,aQq,or_false,not_or];exact⟨hSr,hSd⟩
 have W:=Walks.listRev (prog:=ZiH) (w:=w) (A:=ZhK) hh r d hrd ZfN;have hT:ZaG8:=hit.typeIs;unfold Builtin.List.listExtendWith;refine #[aV6,Zpu,hT]
 have h1:#[awu,#[ak,S],ZSA]:=by simp[Builtin.List.listSameRef,hSr]
 have h2:#[a2J,Zds]:=ZaC
 have h3:#[a2J,ZfW]:=ZaC
 simp only[h1,h2,h3,Bool.or_false,Bool.false_eq_true,if_false];refine X5 (wpAny_pyIter_revIter hit ?_);refine X5 (YO (MG hT ?_));refine #[am0,Yg #[bF,ZaW4 PySem.F.plain_extend_loop _]];refine codeAny_extend_loopS W.toS hn S hSf res items.size 0 _ #[] c0 rfl ZqG ⟨Zdb,(by simpa using hit),hl⟩ hS (ItemsOf.nil _) fun s' n_ c' hm hS' J_=>?_;rw[Moved.eq_with hm];refine hR Zb' s'.toks n_ c' (fun b o hb hbr e=>hm.heap b o (fun aj3=>?_) e) hS' J_
 ·rcases ZcI aj3 with e' | aj3
  ·exact hb e'
  ·exact hbr (ZdN aj3)
def A4 {Q:Zfh}(hh:Zeo)(hit:ZaNM)(hl:ZaYG)(hrd:d≠r)(hn:ZSY)
  (hQ:∀ h' tk n_ c',(#[p3,r,Zch,Zd9])->ZVV=some { cls:=Zdt,dict:=none,data:=ZaxA,slots:=#[] }->#[aun,ZaRu,ZKj]) :
  #[Hm,Zds,[Zaj r]]:=by
 refine callType_codes (Q₁:=fun obj s1=>ZYZ/\s1={ s with heap:=s.heap.push { cls:=Zdt,data:=ZaT #[] } }) PySem.F.called_list ZarS PySem.F.entry_list_init ZaEG fun obj s1 h1=>?_;obtain⟨rfl,rfl⟩:=h1;have hS:(s.heap.push { cls:=Zdt,data:=ZaT #[] }).get? s.heap.objs.size=some { cls:=Zdt,data:=ZaT #[] }:=Zd0
 have hr:#[dc,r]:=by obtain⟨o,e,_⟩:ak:=hit;exact ZcD
 have hd:#[dc,d]:=by obtain⟨o,e,_⟩:ak:=hl;exact ZcD
 refine ZaFb
 show wpAny _ _ (do let old <-Zazb;Builtin.List.listUpdate ZcU (fun _=>#[]);letGo ZaW7;#[aW3,ZSA]) _ _ _
 refine ZbX;unfold Builtin.List.listItems;refine ZaIR
 show wpAny _ _ (updateSeq s.heap.objs.size (fun _=>#[]) >>= fun _=>letGo (#[]:Zhz).toList.reverse >>= #[dL,#[aW3,ZSA]]) _ _ _
 refine ZaCb;have hS2:=Y5 (Obj.mapSeq (fun _=>(#[]:Zhz))) hS rfl
 have oth:∀ b o,Zch->((s.heap.push { cls:=Zdt,data:=ZaT #[] }).update s.heap.objs.size (Obj.mapSeq (fun _=>(#[]:Zhz)))).get? b=ZeZ :=
  ZaOT
 refine ZavD;refine Hb (A:=ZhK) hh #[Ao,hit.at,oth _ _ e] #[Ao,hl.at,oth _ _ e] hrd Zar (YX hr) (YX hd) Zan _ hS2 (fun h' tk n_ c' hk hS' J_=>?_) hn;exact#[da,hQ h' tk n_ c' #[nj,hk b o Zld hb ZatC] hS' J_]
#where
abbrev Os [37][329]:TE:=#[IW,∃ a xs,ZeX/\cC K H1 a xs/\∀ l,#[nv,l]->#[b8,l,(upd H1 l (ZaI ZJI))]]
def Ib {X:Cx}{e:Expr}{te:TE}{p p2 pos pos2:Pos}(hc:Ze0)(he:ZgC)(hg:ZauM)(hm:Zaxq)(hg2:Gl X Zpv)(X_:#[vK,Zpv])
  (hs:Zyq:=by rfl)
  (S_:#[aMC,Zpv,[e],Zpv,[e]]:=by rfl) :
  PE X (Zcu (Zcp Zds p) #[RR,Zpv,[e]] [] pos) (Os X.K te):=by
 intro pins s σ H Q I h;refine ZaAJ;refine ZaCD;rw[S_];refine #[aW9,boot_reversed];refine Zc ?_ hs rfl;rw[hs];refine ZaW8 (bD #[Bh,he] Zh8);obtain ⟨x,H1,I1,rx,a,xs,ex,hq,q⟩:=zz;refine ZaW';subst ex;cases rx;refine az (I1.list hq) ZCZ;refine call_reversed_list ZgN (ZaW_ ?_)
 have q_:Zaxe:=by obtain⟨o,n,e,_⟩:bU:=pl;exact ZcD
 have hl:=rv.length;refine A4 (r:=Zew) (d:=a) (items:=Zci) Zat6 ZvQ #[Ao,ZaWT,ZkY] (Yo q_) ZQW fun h' tk n_ c' hk hS J_=>?_
 have sz:ZaaN=Zew+1:=#[gT,YR]
 have hge:Zew<=ZaaN:=#[aW,sz,aQd _]
 have rr:bw ZJI ZaXa:=yw (by have:=J_.1;simp at this;simp;lia) fun i y v e1 e2=>by
  have hv:=J_.2 i v Za0z
  have hi:ZrK:=#[ac7,ZTA]
  rw[List.getElem?_reverse hi]at e1;refine ak (ZzR e1) ZQn
  have hv':#[np,e_[Zmh-1-i]?]:=ZJk
  rw[hl]at eu;rw[eu]at hv';cases hv';exact ru
 refine #[Za,_,Zzo (t':=tk) (a:=ZaaN) (o:=ZaI ZJI) (#[ct,hk b o Zld ZnA]) hge (gU #[aX,List.length_reverse,hz] ZaXa c' rr (by simpa using hS)),(ZzS hge)]
#print L2
namespace Wz
open PySem L2
abbrev qg (c:Int):Int:=if c<0 then -c else c
abbrev yU [139](k:Int):Int:=#[ada,k<(ZfL:Int),Zadb k.toNat 0]
abbrev GN (k c:Int):Int :=
 let left:=qg c
 let number:=#[rp,(k*(1+#[ajC,Zc4])+Zc4/ZzT)]
 if Zc4%5=4 then number+ZaXb else number
abbrev dk [17]:ZdU:=Zml fun p=>ZaoJ
abbrev look:ZdS->Int->ZgI
 | [],_=>none
 | p::r,g=>#[ek,ZjL,p.2,Zbq r g]
abbrev put [352]:ZdS:=#[eY,ZaEm,Zml (ZaD5),l++[(g,m)]]
abbrev wr [404]:Int:=#[vS,0].getD g
abbrev aQ [17]:Zbf:=l.map (·.1)
abbrev cx [17]:Zbf:=#[dJ,(cK (aQ l))] #[gR,#[AV,wr l g≠g]]
abbrev Ht [17]:ZdS:=(cx l).map #[gR,(g,wr l g)]
def pe:∀ [404],d6 (dk l) ZBR=#[vS,0].map Zaw
 | [],_=>rfl
 | p::r,g=>by
  by_cases h:ZjL
  ·have e:d6 (dk ZFt) ZBR=Zab (Zaw p.2):=#[aD6,hZ,#[os,h]]
   rw[e];simp[look,h]
  ·have e:d6 (dk ZFt) ZBR=d6 (dk r) (Zdr g):=#[aD6,fZ,ZaHP]
   rw[e,pe r g];simp[look,h]
def RV [404]:((dk l).any #[A0,ZBR])=l.any ZRn:=by
 unfold dk;rw[List.any_map]
 congr 1
 funext p
 simp[Function.comp]
def JR [352]:hU (dk l) ZBR (Zaw m)=dk ZyC:=by
 unfold hU put;rw[RV]
 by_cases h:(l.any ZRn)=Zad
 ·rw[ZcE,ZcE]
  unfold dk;rw[Y7,Y7]
  apply Zy
  intro p _;simp only[Function.comp]
  by_cases e:ZjL
  ·rw[Yb (#[gT,e]),ZjW]
  ·rw[X8 (#[jC,e,Zy2]),Ziv]
 ·rw[Zco,Zco]
  unfold dk;simp
def zG [404]:ZaEm=#[hD,ZvS]:=by
 induction l with
 | nil=>rfl
 | cons p r ih =>
  rw[ZG,ih]
  show _=#[hD,#[fw,ZjL,Zab p.2,Zbq r g]]
  by_cases h:ZjL<;>simp[h]
def dX [163][253]:ZUb↔g∈ZrY:=by
 rw[<-zG,List.any_eq_true];unfold aQ;simp
def MW [17](g m h:Int):Zbq (Zml (ZaD5)) h=#[b4,h=g,#[vS,0].map (#[dL,m]),ZXE]:=by
 induction l with
 | nil=>simp[look]
 | cons p r ih =>
  rw[Ys]
  by_cases hp:ZjL
  ·rw[Yb hp]
   show (#[ek,p.1=h,m,Zapd])=_
   rw[ih]
   by_cases hh:h=g
   ·subst hh;simp[hp,look]
   ·have:¬ p.1=h:=#[aXM,hh,hp]
    simp[hh,this,look]
  ·rw[X8 hp]
   show ZaCm
   rw[ih]
   by_cases hh:h=g
   ·subst hh;simp[hp,look]
   ·simp[hh,look]
def FD (l r:ZdS)(h:Int):Zbq (l++r) h=(Zbq l h).orElse #[dL,Zbq r h]:=by
 induction l with
 | nil=>rfl
 | cons p l ih =>
  show (#[ek,p.1=h,p.2,Zbq (l++r) h])=_
  rw[ih]
  by_cases e:p.1=h<;>simp[look,e]
def iI [17](g m h:Int):Zbq ZyC h=#[ek,h=g,m,ZXE]:=by
 unfold put;rw[zG]
 by_cases e:ZUb
 ·rw[ZjW,MW]
  obtain⟨v,hv⟩:=Zzx e
  by_cases hh:h=g
  ·simp[hh,hv]
  ·simp[hh]
 ·rw[Ziv,FD]
  have hn:Zbq l g=Zac:=Zy3
  by_cases hh:h=g
  ·subst hh;simp[hn,look]
  ·have:¬ g=h:=#[age,hh]
   simp[hh,look,this]
def Fu [352]:aQ ZyC=#[b4,g∈ZrY,ZrY,ZrY++[g]]:=by
 unfold put;rw[zG]
 by_cases e:ZUb
 ·rw[ZjW,Yb (dX.mp e)]
  unfold aQ;rw[Y7]
  apply Zy
  intro p _;simp only[Function.comp];split<;>rfl
 ·rw[Ziv,X8 (#[jC,e,ZzU])]
  simp[aQ]
def JB [352]:#[jS,ZyC,ZbM]:=by
 unfold put;split<;>simp
def iB:∀ {l m:Zbf},l.Nodup->(∀ x∈l,x∈m)->ZbM<=Zadd
 | [],_,_,_=>Zdb
 | a::r,m,h,hs=>by
  obtain⟨h1,h2⟩:=ZS4;have ha:a∈m:=hs a Ye;have hl:#[a0,m.erase,a]=Zadd-1:=List.length_erase_of_mem ha;have hpos:0<Zadd:=List.length_pos_of_mem ha;have ih:=iB (l:=r) (m:=m.erase a) h2 #[fZ,(List.mem_erase_of_ne (#[c2,x≠a,#[bN,#[go,h1,e,hx]]])).mpr (hs x (Yh _ hx))];rw[YF]
  lia
def K2 {l:Zbf}{x:Int}:x∈cK l↔x∈l:=#[a34,0].mem_iff
def kg [270]:#[Xn,cK]:=#[a34,0].length_eq
def MU [17]:#[Xn,dk]:=by unfold dk;simp
abbrev bX [4][206][317]:Zaa :=
 #[a2T,#[cS,k,ps,sp]]
def fm {X:Cx}{x:Str}{k:Nat}{ps:Zbe}{sp:Sp}{e:Expr}{es:Zbh}{t:TA}{p pos:Pos}(C:ZaAB)(hr:Zd4)(hg:ZcF)(ha:ZfI)
  (z_:Zt_:=by decide) (he:Zm8:=by rfl) (r_:ZBG (·.1)=false:=by rfl) :
  #[qU,(CS sp [] E0 t)]:=by
 obtain⟨f,fd,G,hm,hk,hb⟩:cg:=C;exact #[aTe,dw]
def MO [143]:Um X (Vd K):=by subst hK;exact rm
def Ju [143]:Um X (Ve K):=by subst hK;exact bB
abbrev fU [33][280][93]:Zaa:=∃ as:Zcr,#[aK,l,Zp0]/\Za3 (fun a (p:Zhq)=>#[dY,#[dz,#[bP,p.1,p.2]]]) as ps
def fU.mono [23][281]{ps:ZdS}(r:ZaBS)[79]:fU H' l ps:=by
 obtain⟨as,h,p⟩:=r;exact ZaJF
def ag [42][433](h:Zjn):ay H ZUJ:=#[zV,#[vE,ZPC]]
def cw [23][433][79](h:Zjn):ay H (upd H' l o):=#[zV,#[R4,s b u e]]
def F8 [125]{a:α}{b:β}[276](p:ZHw)(h:ZEC):Za3 F (l++[a]) (m++[b]):=ZacM p h
def paired_get [125]:∀ [276]{i:Nat}{a:α},ZHw->#[ah,l[i]?,a]->∃ b,#[ah,m[i]?,b]/\ZEC
 | _,_,_,_,Zao,h=>ZgP
 | _,_,0,_,ZaD r _,h=>by simp at h;subst h;exact ZS_
 | _,_,i+1,a,ZYD,h=>by
  refine ak (Zade (i:=i) (a:=a) t Zzn) fun b e1 e2=>?_;exact #[ac6,b]
def cJ [125]:∀ {l l':Zd2}{m m':ZSC},ZHw->Za3 F l' m'->Za3 F (l++l') (m++m')
 | _,_,_,_,Zao,s=>s
 | _,_,_,_,ZlQ,s=>ZaD r (cJ t s)
def qI [125]:∀ [276],ZHw->Za3 F l.reverse m.reverse
 | _,_,Zao=>Zao
 | _,_,ZlQ=>by
  rw[List.reverse_cons,List.reverse_cons];exact cJ (qI t) #[fz,r]
def cR {α β:ZfK}{f:α->β}{l:Zd2}{i:Nat}{y:β}(h:#[k7,(Zml f)[i]?]):#[aDL,y=f x]:=by
 rw[YC]at h
 cases e:l[i]? with
 | none=>rw[e]at h;cases h
 | some x=>rw[e]at h;exact #[hn,x,#[js,h]]
def iS {te:TE}[188](h:te σ H fun y H2=>Zaqs):Ov EN te a D σ H:=by
 unfold Ov EN;dsimp only;rw[Zav];exact h
def IM {tt:TT}{te:TE}[188](h:tt σ H #[sW,#[eY,b,ZaBN,ZrW]]):Ov tt te a D σ H:=h
inductive NY [37][8]:Zaa
 | mk [88][139](k:Int)(_:vs=[Zcm,Zae k])[367](_:0<=k)(_:#[fG,(yU ns k)])
inductive IG [8]:Zaa
 | mk (c:Int)(_:vs=[Zae c])(_:Q (Zae (qg c)) H)
inductive JY [8]:Zaa
 | mk (k c:Int)(_:vs=#[bP,k,c])(_:(0<=k/\k<=Ztm))(_:#[fG,(GN k c)])
inductive Gy [37][8]:Zaa
 | mk [280][36](_:ZQU)(_:ZGb)(_:∀ l',#[a_,l']->#[b8,l',#[we,l',ZJI]])
abbrev Cz [139]:Dt:=.sq Zaz (ZhI fun n=>#[Du,n])
def zR {σ:St}[42]{Q:Zas8}(h:Q Zac H):Kc σ H Q:=h
def K5 (w:ZdS):#[a0,Ht,w]<=Zmm:=by
 unfold Ht cx;rw[X7];refine YU Zaoh ?_;rw[kg];unfold aQ;rw[X7];exact Zbs
def LP (w:ZdS):#[a0,cx,w]<=Zmm:=by have:=K5 w;unfold Ht at this;rwa [X7]at this
#print Wz
namespace L2
open PySem PySem.Spec PyProof.Rows
abbrev OU (g B:Heap)(e:Addr)(c:Value)[50](fl:Value):Zaa :=
 ∃ oe us T oT ts,ZJJ e=Zab oe/\(ZyY=c/\ZXm)/\Zsg/\#[CH,us[1]?,T]/\Zpw T=Zac/\T≠e/\ZJJ T=Zab oT/\oT.data=ZaL ts/\#[ah,ts[3]?,fl]
abbrev nV [254](g:Heap):Zaa:=Zy1/\Zsf/\Za3C/\ZayX
abbrev yF [254](L:Addr)(g:Heap):Zaa:=Zy1/\Zsf/\Za3C/\ZXa
def Ph (f:ZaC_)(o:Obj):(Obj.mapFields f o).dict=o.dict:=by
 unfold Obj.mapFields;split<;>rfl
def nV.obj [126]:∃ ob us,ZJJ e=Zab ob/\ob.cls=c/\Zadg=od/\Zadh=ZaL us:=by
 obtain⟨_,_,_,oe,us,_,_,_,he,hc,hd,_⟩:=x;exact bS oe us he hc.1 hc.2 hd
section
variable {M:Model}{A:Around}{E:Zfh}{s:Shared}{B:Heap}{env:Env}{outer:ZbA}{L e:Addr}{od:ZgH}{c:Value}
abbrev VW (g g':Heap):Zaa:=#[p2,ZJJ,(∀ us,#[O9,us]),#[qA,g'.get?]]
def Mp {oe:Obj}{us:Zhz}{head:Value}{hn:Bool}{Q:Zfi}(fr:ZaVC)(hl:Zacj)(hf:ZoS)
  (he:ZXM) (hk:Zy0) (hb:Zsf) (hd:Zsg) (h1:1<us.size)
  (h:Za3E) :
  wpAny M A (do let a <-frameOf env;let pl <-entryPlaceOf L hn;let b <-EntryCells.newEntry head a Zan ZO0 Zan pl;setField #[ak,e] 1 b) Q E s:=by
 have hne:e∉#[zB,Zni] (·.frame):=fun z=>by
  refine #[aJA,hl.mem];rw[he]at ho;cases ho;exact ZZE
 refine X5 (wpAny_frameOf_fun fr hl hf fun g1 sl1=>X5 (wpAny_entryPlaceOf fun pl r_=>?_));unfold EntryCells.newEntry newFields;refine X5 (Za ?_ (r_.sizeOk5 _ _ _ _ _));have e1:ZJK e=Zab oe:=(sl1.2.1 e hne).trans he;have k1:ZyZ g1:=fun b o q=>(sl1.2.1 b fun z=>by rw[(hl.mem z).1]at q;cases q).trans ZF3;generalize hob:(#[M3,Zbn "traceback",ZaL ZaVK]:Obj)=ob
 have obd:Zadh=ZaL ZaVK:=by rw[<-hob]
 have e2:=X6 (h:=g1) ob e1;refine aQe e2 hd h1 ?_;have ne:ZaXc≠e:=YX (Yf e1);have d3:=ZR hd (·.setIfInBounds 1 ZaXd);have e3:=Y5 (Obj.mapFields (·.setIfInBounds 1 ZaXd)) e2 (Zadi d3)
 have keep:∀ b o,ZnY->ZarV->((g1.push ob).update e (Obj.mapFields (·.setIfInBounds 1 ZaXd))).get? b=ZeZ:=fun b o n q=>by
  rw[YY _ _ (Yz n)];exact Zjo
 have nr:#[amO,ZnY]:=fun b o q nf z=>by
  rw[z,he]at q;cases q;exact ZZE
 refine h _ (fun b o q=>keep b o (fun z=>by rw[z,hb]at q;cases q) #[qK,k1]) #[amo,?_] ?_ Zarg
 ·obtain⟨sl,z⟩:=ZaF2
  exact #[dB,ZaJz]
 ·refine bQ _ _ g1.objs.size ob _ e3 ⟨ZaXe _ _,Ph _ _⟩ d3 (by simp[h1]) k1.fresh ne ?_ obd (by first | (simp;done) | (rcases r_ with rfl | ⟨_,_,_,_,_,_,_,rfl⟩<;>simp))
  rw[YY _ _ (Yz ne)];exact Ym g1 (by rw[<-hob];rfl)
 ·obtain⟨sl,z⟩:=ZaF2
  exact⟨sl,ZaJz⟩
def F2 {oe:Obj}{us:Zhz}{Q:Zfi}(fr:ZaVC)(hl:Zacj)(hf:ZoS)
  (he:ZXM) (hk:Zy0) (hb:Zsf) (hd:Zsg) (h1:ZaEx)
  (h:Za3E):ZZB:=by
 unfold noteFrame;simp only[hf];refine ZyG;rw[Zgx];exact Mp fr hl hf he hk hb hd ZayE h
def zT {Q:Zfi}(fr:ZaVC)(hl:Zacj)(hf:ZoS)(ht:OU ZaE B e c od Zan)(hk:Zy0)(hb:Zsf)
  (h:#[a3D,ZXa]):ZZB:=by
 obtain⟨oe,us,T,oT,ts,he,a_,hd,h1,nT,ne,hT,dT,h3⟩:bf:=ht;obtain⟨rfl,rfl⟩:=a_;unfold noteFrame;simp only[hf];refine ZyG;rw[ZakB];refine ZaMT;rw[X8 (show ¬(#[h9,ZiL,ZDq]) by simp[rawInt])];refine X5 (aQe hT dT ZWX ?_);have ot:∀ b,ZC1->(s.heap.update T (Obj.mapFields (·.setIfInBounds 3 Value.none))).get? b=ZTi:=ZYs
 have nr:ZamP:=fun b o q nf z=>by
  rw[z,hT]at q;cases q;exact ZZD
 refine Mp fr Zamp hf Zaqn (fun b o q=>(ot b fun z=>by rw[z,nT]at q;cases q).trans ZF3) hb hd ZayE #[adj,h g a1 a2 a3 Zarg];exact a4 b o (Zaiq q) nf
def uM {l:ZbA}{fl:Value}{Q:Zfi}(hk:Zy0)(hl:#[aci,l])(ht:ZaBU)
  (h:∀ g,Zy1->Za3C->ZayX->ZCn->ZB7):Zamc:=by
 obtain⟨oe,us,T,oT,ts,he,hc,hd,h1,nT,ne,hT,dT,h3⟩:bf:=ht;have z3:ZaDd:=ZWX;have ot:∀ b,ZC1->(s.heap.update T (Obj.mapFields (·.setIfInBounds 3 #[aLq,Zac]))).get? b=ZTi:=ZYs
 have nr:ZamP:=fun b o q nf z=>by
  rw[z,hT]at q;cases q;exact ZZD
 unfold setFlight;refine ZyG;rw[ZakB];refine aQe hT dT z3 (h _ (fun b o q=>(ot b fun z=>by rw[z,nT]at q;cases q).trans ZF3) Zamp ?_ ZaK8);exact ZaT8
def NN {g g' g'':Heap}(a:VW g g')(b:g'.UpToSlots g''):g.UpToSlots g'':=fun x o q nf=>by
 obtain⟨sl,z⟩:=a x o q nf;obtain⟨sl2,z2⟩:=b x _ z nf;exact⟨sl2,z2⟩
def Dz {oe:Obj}{us:Zhz}{Q:Zfi}(fr:ZaVC)(hf:ZoS)(hk:Zy0)(hl:Zacj)
  (he:ZXM) (hb:Zsf) (hd:Zsg) (h1:ZaEx)
  (hq:#[DE,nV B ZbU e ZyY ZzX g]):Zagy:=by
 unfold leaving;refine X5 (F2 fr hl hf he hk hb hd h1 Zadk);exact #[aQ7,#[aXf,hq g2 ⟨b1,hb,b2.2.2,b3⟩ ZaLm]]
def zD {Q:Zfi}(fr:ZaVC)(hf:ZoS)(fl:ZaGT)
  (hq:ZaH4):Zagy:=by
 obtain⟨f1,f2,f3,f4⟩:gY:=fl;unfold leaving;refine X5 (zT fr f3 hf f4 f1 f2 Zadk);exact #[aQ7,#[aXg,ZaLm]]
def vY {Q:Zfi}(fr:ZaVC)(hf:ZoS)(fl:ZaGT)
  (hq:#[DE,yF B Zni e c od L g]):ZZB:=by
 obtain⟨f1,f2,f3,f4⟩:gY:=fl;exact zT fr f3 hf f4 f1 f2 Zaqt
def MS {l:ZbA}[179](hh:ZaCh)[132]:Zamc:=by
 obtain⟨f1,f2,f3,f4⟩:gY:=hh;exact ZaCS
def uW {l:ZbA}[179](hh:nV B l e c od ZaE)[132]:Zamc:=by
 obtain⟨f1,f2,f3,f4⟩:gY:=hh;exact ZaCS
#where
noncomputable abbrev GJ:ZbS:=[Zbn Ztn,Zbn "Exception",Zbn ZJL,Zbn ZJN]
abbrev exOb (C t:Addr)[50]:Obj:={ cls:=ZjJ,dict:=od,data:=ZaL #[ZnX,Zan,Zan,Zan,ZfD,Zan] }
abbrev lT:ZbS->ZbB
 | Zaj _::r=>lT r
 | l=>l == GJ
def xR (self:Value):∀ {l:ZbS},lT l=Zad->refuseLoop ZsY Zadl l=Zb2 ()
 | Zaj c::r,e=>#[aW,refuseLoop_ref,xR ZsY (l:=r) e]
 | [],e=>by cases e
 | Zatu,e=>#[wD,#[c2,(Zatu:ZbS)=GJ,ZI8 e],PySem.F.store_ValueError.passes,ZsY]
 | Zan::_,e=>Zkw
 | Ze6 _::_,e=>Zkw
 | Zae _ _::_,e=>Zkw
 | Zax _ _::_,e=>Zkw
 | .bytes _ _::_,e=>Zkw
 | .float _ _::_,e=>Zkw
 | ZdQ _::_,e=>Zkw
 | Zadm::_,e=>Zkw
 | .notImplemented::_,e=>Zkw
abbrev mh [37](C fI:Addr):Bool:=match ZhL C with
 | Zab #[fE,Zbn ZJO,.cls cd,sl]=>(match cd.mro,sl.toList with
  | Zaj D::bm,[_,_,_,_,Zab (ZdQ n),_]=>D == C&&n == ZzY&&!cd.hasDel&&PySem.W.tailIn K GJ bm&&PySem.W.nsOkIn K cd.ns&&#[Mn,cd.ns,Zf2] == Zab #[nq,fI]
  | _,_=>false)
 | _=>false
set_option tactic.hygienic true
def HL [323][150]{N:Addr}[127]{n:Str}[310][405](G:h.Ns N mg)(e:#[Mn,N,n]=Zab Zih):mg n=Zab v:=by
 obtain⟨o,es,ep,ho,hd,hk,hf⟩:iG:=G;unfold PySem.W.nsIn at e;split at e
 ·rename_i oc od es2 n2 sl hl
  have:=X _ _ hl;rw[ho]at this;cases this;cases hd;split at e
  ·rename_i en he
   cases e;rw[<-hf n];unfold nsFind findBy;rw[<-Array.find?_toList,he];rfl
  ·split at e<;>cases e
 ·cases e
def Fk [323][150]{C fI:Addr}[405](q:ZaHt) :
  #[aQ8,Zamu]:=by
 unfold mh at q;split at q
 ·rename_i dd cd sl ho
  split at q
  ·rename_i D bm k0 k1 k2 k3 n k5 hm hs
   simp only[Y4,ZH,Bool.not_eq_true']at q;obtain⟨⟨⟨⟨⟨rfl,rfl⟩,hdel⟩,ht⟩,hok⟩,hni⟩:=q;obtain⟨nm,bs,mro,ns,qn,hd,sn,sub,ab,col,del⟩:=cd;dsimp only at hm hdel hok hni;subst hm hdel
   have hsl:sl = #[k0,k1,k2,k3,ZaBs,k5]:=by
    obtain⟨l⟩:=sl;simp only at hs;rw[hs]
   subst hsl;have G:h.Ns ns _:=ZaNo;exact #[aT_,G,HL X G hni]
  ·cases q
 ·cases q
structure VT [37][35][397]:Zaa where
 ga:#[a2e,C]
 gh:#[a2c,C,Zadn]
 sa:Za2h
 na:Za2k
 hd:Za02
 mb:#[a2X,C]
 mo:#[a2W,C]
 ov:#[aao,C]
section
variable {prog:Program}{w:World}{A:Around}{E:Zfh}{s:Shared}{K:ge}{x dx C:Addr}{mA:Zm5}{f:Str}{v:Value}
def Tc {t:Addr}{Q:Zfi}(X:Zl5)(c:VT K C f)(hx:ZaIo)
  (h:∀ h' tk,#[azx,Zd8]->#[aua,h'.Ns1,#[gO,#[afl,y=f,v]]]->(#[p3,x,Zch,Zd9])->Q () ZKj) :
  #[aFt,f]:=by
 have J:Zzk ZaE x Zawk C Zac:=#[c_,hx,rfl,Zs_];have SF:=PySem.F.store_ValueError;refine #[wb,c.ov,fun cd Y_ ho=>?_];refine #[wb,c.hd,fun cd' cx3 hd'=>?_]
 have e0:cd'=cd:=by rw[Y_]at cx3;exact #[js,cx3]
 subst e0;have L0:=J.type (M:=Zwv);have sub:#[aP1,ZasY]:=#[aIn,c.mo];have hm:Zado Ztb ZaE #[ha,mroOf,C] cd'.mro:=#[Rr,ZaB_];refine #[aE_,c.sa,?_];refine Zadp SF.slot.plain SF.entry (#[aUE,ZaXh,ZJN,Zadl,[Zax f Zca,v],SF.kind,SF.split,sub,(SF.args Zli ZaHG v)]);rw[PySem.W.osa_eq,refuse_eq];refine X5 (X5 #[ahD,(X5 (hm _ _ _ _ ZahC ?_))]);rw[xR _ ho];refine Yg (X5 #[ahD,(X5 (Zaca X c.na _ _ _ _ ZahC Zaz6))]);refine #[a0E,ZaB_];rw[hd'];rw[Zgx];have hxs:x≠Zar:=Yo (Yf hx);have hx1:(s.heap.push { cls:=Zmk,data:=Ze4 #[] }).get? x=Zab Zawk:=X6 _ hx
 show wpAny Ztb A.in1 (alloc { cls:=Zmk,data:=Ze4 #[] } >>= fun dA=>(update x #[aYE,dA]) >>= #[dL,dictMade (Zeu C) x dA]) _ _ _
 refine #[k4,wpAny_alloc',(wpAny_update' hx1 Zrc)];generalize hg:((s.heap.push { cls:=Zmk,data:=Ze4 #[] }).update x #[aYE,Zar])=g1
 have hgd:ZJK Zar=some { cls:=Zmk,data:=Ze4 #[] }:=by
  rw[<-hg,#[au0,hxs.symm]];exact ZaXi rfl rfl
 have hgx:#[azx,ZJK]:=#[dM,hg,Zaz7]
 have hgo:#[p3,x,Zch,ZarV]:=#[adq,by rw[<-hg,#[au0,n]];exact Zjo]
 have hnd:#[aA0,g1.Ns]:=eI _ (#[]) _ hgd rfl Zaze ZoI
 show #[h0,(Builtin.ObjectAttr.storeInDict Zar ZaHG f v)]
 unfold Builtin.ObjectAttr.storeInDict Builtin.ObjectAttr.newKeyGuard;refine #[k4,Yg,(ZaVp (ZaVu hnd) fun h' hn2 S_=>?_)];refine #[aPb,(ZaVq f v PySem.Within.nil)];refine #[aMj,(by rw[YF,List.length_nil,Y6];lia)];refine Yg (h h' _ ((S_.2 x hxs).trans hgx) hn2 #[adq,?_]);exact (S_.2 b (Yo (Yf q))).trans (hgo b o n q)
def M6 {t fI:Addr}{u:Value}{Q:Zfh}(X:Zl5)(c:ZaHt)(hx:ZaIo)
  (h:∀ h' t',#[bD,Zd8,(Zpx C t' Zac)]->(#[p3,x,Zch,Zd9])->Q Zan Zkq) :
  #[tc,#[qB,ZaXj,[Zaj x,u]]]:=by
 have F:=Z7;refine #[Xy,Fk,X,c];obtain⟨qn,bs,hdct,b_⟩:iU:=a_;obtain⟨sn,sub,ab,c_⟩:iU:=b_;obtain⟨col,dd,k0,zx4⟩:iU:=c_;obtain⟨k1,k2,k3,k5,mN,hC,hN,hni,T⟩:tD:=zx4;obtain⟨hp,g,d,tk,os⟩:=s;refine #[aEF,F.init.plain,F.initEntry,(wpAny_check_init_subT F T hC hx rfl ?_)];unfold Builtin.«BaseException.__init__»;dsimp only;rw[Zem];unfold newTuple Builtin.BaseException.bexcPut;have hx1:=X6 (h:=hp) { cls:=ZfX,data:=ZaT #[u] } hx;refine X5 (Za (X5 (X5 (YV hx1 rfl rfl (X5 (aQe hx1 rfl (#[mn,0<6]) ?_))))) ZaZF);refine Zadr (Yg (h _ hp.objs.size ?_ #[adq,?_]))
 ·exact Zaz7
 ·rw[YY _ _ (Yz n)];exact Zjo
#where
#print L2
namespace PySem
open Sem (wp)
section
variable {prog:Program}{w:World}{A:Around}{E:Zfh}{h:Heap}{g:ZTd}{d:Drawn}{t:Nat}{os:OsState}
variable {nm q:Str}{C N:Addr}{bs bm bmB:ZbS}{hdct:Bool}{sn:Zbe}{sub:ZbS}{ab:Bool}{col:#[gF,ZbB]}{dd:ZgH}{k0 k1 k2 k3 k5:Zm4}{B newId initId:String}
set_option tactic.hygienic true
def vB (F:ZaXl B ZJP initId bmB)(T:ZaAF){mN:Zm5}{rest:ZbS}{fI:Addr}{oI:Obj}{Q:Zasg}
  (hC:ZaIU) (hn:ZRq) (hi:Zamu) (hfI:ZaGn) (hfc:Zadx)
  (hq:#[aSc,#[Gj,ZaLZ,#[zZ,r=Zan/\Q (Zcv (ZfO ZPn)) s'],ZayS]]) (az0:Zasj) :
  #[x',(Builtin.«type.__call__» #[dX,Zaxi]),⟨h,g,d,t,os⟩]:=by
 repeat (first | with_reducible refine ZW4 | with_reducible refine wpAny_madeBy_exc hC ?_ | wp_step)
 refine codeAny_call_builtin_code #[a4v,F.quiet] (wpAny_check_new_subT F T hC ?_);refine codeAny_exc_new_subT F T hC ?_ az0
 show #[h0,_]
 have keep:∀ b o,Zho->(ZaDM { cls:=ZjJ,data:=ZaL #[ZEm,Zan,Zan,Zan,ZfD,Zan] }).get? b=ZeZ:=Zals;have hC1:=Zcs _ _ hC;have hn1:=hn.keeps Zcs
 have cx1:(ZaDM { cls:=ZjJ,data:=ZaL #[ZEm,Zan,Zan,Zan,ZfD,Zan] }).get? Zar2=some { cls:=ZjJ,data:=ZaL #[ZEm,Zan,Zan,Zan,ZfD,Zan] }:=by heap_get
 have hcC:#[aLN,Zfv]:=ZaM
 have T1:=Zads Zcs;unfold isInstance
 repeat (first | with_reducible refine #[Px,cx1] | (with_reducible refine #[at7,hC1];rw[hcC]) | wp_step)
 show #[h0,(Zadt #[ak,C] _)]
 refine wpAny_typeLookup_tail hC1 hn1 T1 F.mroIs F.init.lookup ?_;rw[hi];refine YO (X5 ?_);unfold bindSpecial;refine #[aV6,Zadw,#[c8,Zcs _ _ hfI,hfc]];rw[ZT0];refine Yg (X5 (YA (hq _ Zar2 ⟨Zcs,ZabN (aQd _),Zkf,cx1,ZavF,X6 _ (ZaXi rfl rfl)⟩) (fun r s' hr=>?_) Zio));obtain⟨rfl,hQ⟩:=hr
 wp_walk
 exact hQ
def EU (F:ZaXl B ZJP initId bmB)(T:ZaAF){mN:Zm5}{rest:ZbS}{fI:Addr}{oI:Obj}{Q:Zfh}
  (hC:ZaIU) (hn:ZRq) (hi:Zamu) (hfI:ZaGn) (hfc:Zadx)
  (hq:#[aSc,Zb3 Ztb #[Pb,#[dX,Zaxi]] ZaLZ (#[zZ,r=Zan/\#[b8,e,s']]) E ZayS]) (az0:Zasj) :
  #[x',(ZgM #[ak,C] Ze7),⟨h,g,d,t,os⟩]:=by
 have f1:=tc_lookup;have f2:=tc_bind Zfv;have hT:(⟨h,g,d,t,os⟩:Shared).TypeIs #[ak,C] ZJO:=#[dB,hC];refine ZaXX
 show #[h0,(callAny #[ak,C] _)]
 repeat (any_goals (first | assumption | with_reducible refine ZW4 | wp_step))
 refine Zwd;refine codeAny_call_builtin_at #[a4v,Zb7] entry_typeCall (wpAny_check_type_call_sub hC (vB F T hC hn hi hfI hfc (fun h' e hm=>?_) az0));exact hq h' e hm
def OK {x:Zk'}{s:Shared}{env:Env}{Q:#[fg,Flow]}(D_:bm.contains ZJM=Zad)(hh:Zeo)
  (h:#[fl,Ztb,x,(fun v s1=>∃ e t od,v=Zaj e/\ZJQ C=Zab #[Qa,q,ZJP]/\ZJQ e=Zab (L2.exOb C t od)/\E #[ak,e] s1)]) :
  #[tc,(raiseStmt env #[cx,x] Zac)]:=by
 have hcB:#[aLN,ZJM]:=by rw[List.contains_cons,D_,Bool.or_true]
 unfold raiseStmt;refine X5 (YA h (fun v s1 h1=>?_) Zio);obtain⟨e,t,od,rfl,hC,he,hE⟩:iG:=h1;obtain⟨hp,g,d,tk,os⟩:=s1;unfold L2.exOb at he
 repeat (first | with_reducible refine #[Px,he] | with_reducible refine ZW4 | (with_reducible refine #[at7,hC];rw[hcB]) | wp_step)
 exact wpAny_raiseNew_none hh hE
#where
#print PySem
namespace L2
open PySem PySem.Spec PyProof.Rows
noncomputable abbrev c6 [37][35]:Zaa:=ZaQR
set_option tactic.hygienic true
def Pu [323][150][186][405](q:c6 K C) :
  #[aQ8,Zamt = Zac]:=by
 have q:ZaQR:=q;unfold PySem.W.excIn at q;split at q
 ·rename_i dd cd sl ho
  split at q
  ·rename_i C' bm k0 k1 k2 k3 n k5 hm hs
   simp only[Y4,ZH,Bool.not_eq_true']at q;obtain⟨⟨⟨⟨⟨rfl,rfl⟩,hdel⟩,ht⟩,hok⟩,hni⟩:=q;obtain⟨nm,bs,mro,ns,qn,hd,sn,sub,ab,col,del⟩:=cd;dsimp only at hm hdel hok hni;subst hm hdel
   have hsl:sl = #[k0,k1,k2,k3,ZaBs,k5]:=by
    obtain⟨l⟩:=sl;simp only at hs;rw[hs]
   subst hsl;exact #[aT_,ZaNo,PySem.W.nsMap_none_of_in X hok hni]
  ·cases q
 ·cases q
abbrev Fj (e C:Addr)[50]:HO:=ZsH #[ari,e,od]
set_option tactic.hygienic false
def Ha [311]{e C t:Addr}{od:ZgH}(q:#[nG,e,(Zpx C t od)]):cD P w H h e (Fj e C od):=#[bm,⟨t,q⟩,Zgv,fun h1 h2 ⟨t,q⟩ k=>⟨t,k _ q⟩]
abbrev BP [375]:Hp:=fun b=>#[acW,b=a,H b]
def rF [199](h:ZwT):BP H a b=H b:=by unfold BP;rw[Zco]
def LK [42][54]:BP H a a=Zac:=by unfold BP;rw[Zav]
def aS.untrack [299]{φ:Zat_}[2](e:#[dY,(ZsH φ)]):#[cl,ZYY,s]:=by
 have ne:#[p2,H,(∀ ψ,o≠ZsH ψ),ZwT]:=fun b o q n z=>by rw[z,e]at q;cases q;exact ZT4
 have u:#[aN3,ZYY,ZaE] :=
  ⟨#[aXm,q],#[aXm,#[agH,q]],fun b o q n _=>by unfold BP;split<;>first | rfl | exact n,fun b o q _=>#[ft,q],fun b xs q=>by rw[rF (ne b _ q fun ψ z=>nomatch z)];exact q,fun b o u q=>by rw[rF (ne b _ q fun ψ z=>nomatch z)];exact q,fun b ps q=>⟨#[],by rw[rF (ne b _ q fun ψ z=>nomatch z),q];simp⟩⟩
 have hk:nE ZbC X.w ZYY ZaE:=fun b o q=>by
  by_cases hb:b=a
  ·rw[hb,LK]at q;cases q
  ·rw[rF hb]at q
   exact #[qK,Zbp].stay (fun c v _ r=>r) (fun c r=>by rw[rF (ne c _ r fun ψ z=>nomatch z)];exact r) fun c xs r=>by rw[rF (ne c _ r fun ψ z=>nomatch z)];exact r
 exact I.un (t':=Zca) u hk
def cD.has [311][339](x:ZFU):∃ u,#[lc,u]:=by
 cases o with
 | lst xs=>obtain⟨_,_,_,_,e⟩:=x;exact ZlD
 | tup xs=>obtain⟨_,_,_,u,e,_⟩:=x;exact⟨u,e⟩
 | dK kvs=>obtain⟨_,_,_,_,o,_,_,e,_⟩:=x;exact ZoO
 | dT kvs=>obtain⟨_,_,_,_,o,_,_,e,_⟩:=x;exact ZoO
 | set S n=>obtain⟨o,_,_,_,e,_⟩:=x;exact ZoO
 | ins C dx fs=>obtain⟨_,_,_,e,_⟩:=x;exact ZlD
 | own y=>exact x
 | xd fs=>obtain⟨_,⟨o,_,_,e,_⟩,_⟩:=x;exact ZoO
 | rng lo hi=>obtain⟨_,_,_,e⟩:=x;exact ZlD
 | frz ob u=>obtain⟨e,_⟩:=x;exact⟨ob,e⟩
 | tbl ps=>exact Zasd
 | met f y=>exact Zasd
 | ext φ=>obtain⟨_,e,_⟩:=x;exact e
abbrev dI [68]:wQ:=fun outer H s E e s'=>∃ (ea C:Addr)(od:ZgH)(H':Hp)(B:Heap),ZaFq/\nV B ZbU ea Zfv od Zb'/\ZaP4/\ZaML/\ZWf/\Zagl /\
 (#[p2,Zb0,b∉ZuE,Zun])/\(ZWp)/\#[kS,C,od]
def GG {fs:Zcr}[23]{h h1 h2 B:Heap}(u:#[aGI,h1])[308](hb:#[p2,ZcG,b∉fs,Zun])(sl:#[hh,Zw8,Zho,ZbW,#[qA,ZsJ]])(th:#[p1,Zw8,Zho,#[um,ZsJ]]):#[aGI,h2]:=by
 have eq:#[p2,ZcG,b∉fs,ZsJ b=ZIy b]:=fun b o e hf=>by
  obtain⟨o',e'⟩:=hb b o e hf;rw[Zay3,Zay4]
 refine#[CS,#[ady,(eq b o e hf).trans (Zy6 b o e n hf hx)],#[ady,sl b o hf e n],ZIB,u.tups,u.frzs,u.tbls]
 by_cases hf:Zw8
 ·exact th b o hf e
 ·rw[eq b o e hf];exact ZIC b o e hx
def vR [6][42]{h1 h2 B:Heap}(x:#[qM,h1])[308](hb:ZWo):#[qM,h2]:=fun a o e =>
 #[V5,0].stay (fun b u hc q=>by
  have:Zun:=by
   rcases hc with z | z
   ·rw[z];exact hb a o e
   ·exact hb b _ z
  obtain⟨o',e'⟩:=this;rw[Zay3]at q;rw[<-q]
  exact Zay4) (Zvj) ZIZ
abbrev E5 [81](E:XK):Zaa:=∀ [430](ea C t:Addr)[50],ZhY->#[jy,ea,(Zpx C t od)]->ZSS->Zo7 ea=Zac->ZaIJ->ZaLU
section
variable {P:Program}{w:World}{K:ge}{mg:Zm5}{base:Heap}{N:Zbe}{qual:Str}{sc:Scope}{f:Addr}{cd:Value}{A:Around}{outer:ZbA}{s0:Shared}{H0:Hp}{E:XK}
def bp:E5 (ZuI) E:=by
 intro pins σ H s ea C t od I hx hn hs hE
 let X:Cx:=ZuI
 show Zagx
 have ax9:ZaUu:=I.ok.frames
 have frS:ZH4:=by unfold gT;rfl
 let B:Heap:=ZID ZaE (ea::Zne)
 have hkb:Zy0:=#[adz,#[aUo,q]];have inB:#[hh,Zch,b≠ea,ZQJ,#[a4,Zpw]]:=fun b o e ne hf=>#[Y7,#[bx,ZaDE ne hf]];have hl:#[aci,ZalS]:=PySem.W.funFrames_hide I.stack fun env he a hf=>Yh _ (ZaVb ⟨env,he,hf⟩);refine Dz (s:=s) ax9 rfl hkb hl hx (ZIE _ Ye) rfl rfl fun h2 fl ups=>?_;have ltl:ZakF:=Zyz
 have h0B:ZGX:=fun b o e hf=>by
  obtain⟨o',e'⟩:=I.base.there b o e (by intro z;exact ZNw);refine⟨o',inB b o' e' Zie ?_⟩
  ·have hs':Zz0 ea=Zac:=hs
   rw[z,hs']at e;cases e
  ·rw[frS]
   intro z;rcases Zhp with z | z
   ·exact Zsa
   ·exact ZrF
 have trB:ZWo:=fun b o e=>by
  obtain⟨u,q⟩:=#[cA,Zbp].has;exact⟨u,inB b u q (fun z=>by rw[z,hn]at e;cases e) fun z=>by rw[Zacm b z]at e;cases e⟩
 have aq8:Zakr:=ZNx
 have v_:Zakt:=fun b o hf e n=>by
  obtain⟨sl,e1⟩:=ZaHS;refine Zakn
  have e2:o2=o:=by
   have:ZGL:=ho2;rw[e]at this;exact ZnD
  subst e2;obtain⟨sl2,e3⟩:=Zx_;exact ZxW
 refine #[aSF,hkb];refine #[aQl,hkb]
 ·exact ZDw
 ·obtain⟨sl,q⟩:=ZGW
  exact Zgv
def aA:fE ZcO (ZuI) E:=by
 intro pins σ H s e s' I hc;obtain⟨ea,C,od,H',B,rfl,fl,un,hok,os,bare,hsB,trB,hE⟩:bf:=hc
 let X:Cx:=ZuI
 show Zagx
 have ax9:ZaUu:=I.ok.frames
 have frS:ZH4:=by unfold gT;rfl
 refine ZaQP;have ltl:ZakF:=Zyz;have aq8:Zakr:=ZNx
 have h0B:ZGX:=fun b o e hf=>by
  obtain⟨o',e'⟩:=ZaFg;refine ZaCd;rw[frS];intro z;rcases Zhp with z | z
  ·exact Zsa
  ·exact ZrF
 have unS:ZaIY:=by
  have u1:ZaIX:=I.base;refine ZaTw
  ·refine ZaSB
   rw[frS];intro z;rcases Zhp with z | z
   ·exact Zsa
   ·exact ZrF
  ·obtain⟨sl,e1⟩:=ZaBH
   obtain⟨sl2,e2⟩:=ZaQH;exact ZawL
  ·obtain⟨o',e'⟩:=ZFA
   exact ZaOe
  ·obtain⟨o',e'⟩:=ZFA
   exact ZaYy
  ·obtain⟨m1,e1⟩:=ZaF1
   obtain⟨m2,e2⟩:=ZaBP;exact ZH'
 have v_:Zakt:=fun b o hf e n=>by
  obtain⟨sl,e1⟩:=ZaCa;refine Zakn
  have e2:o2=o:=by
   have:ZGL:=ho2;rw[e]at this;exact ZnD
  subst e2;obtain⟨sl2,e3⟩:=Zx_;exact ZxW
 refine ZaTb;refine ZaRS;obtain⟨sl,q⟩:=ZGW;exact Zgv
#where
def aS.fresh0 [299][2](hx:a∉Zo8)[453]:Zo7 a=Zac:=by
 cases e:Zo7 a with
 | none=>rfl
 | some o =>
  obtain⟨o',q⟩:=ZJR a o e hx;rw[h]at q;cases q
def aS.unheld [299][2][453]:ZnC:=by
 cases e:H a with
 | none=>rfl
 | some o =>
  obtain⟨u,q⟩:=(Zbp a o e).has;rw[h]at q;cases q
abbrev T3 [329][35](E:XK):TS:=#[arj,fun _ H1=>E #[ak,C] Zac H1]
def bN {X:Cx}{C:Addr}{E:XK}{x:Str}{e:Expr}{te:TE}{np i_ pos:Pos}(q:c6 X.K C)(hfl:ZGy)(hex:Zr2)(hh:Zxd)(hg:ZcF)(hm:ZFy)(he:ZgC)
  (z_:Zt_:=by decide) (hs:Zyq:=by rfl) :
  #[RN,ZQL,(T3 te C E)]:=by
 intro pins s σ H D I h;refine #[Xy,Pu,Zzt,q];obtain⟨qn,bs,hdct,b_⟩:iU:=a_;obtain⟨sn,sub,ab,c_⟩:iU:=b_;obtain⟨col,dd,k0,zx4⟩:iU:=c_;obtain⟨k1,k2,k3,k5,mN,hC,hN,hni,T⟩:tD:=zx4
 refine wpAny_Raise_call_subT (C:=C) (nm:=nm) (q:=qn) (N:=N) (bs:=bs) (bm:=bm) (hdct:=hdct) (sn:=sn) (sub:=sub) (ab:=ab) (col:=col) (dd:=dd) (k0:=k0) (k1:=k1) (k2:=k2) (k3:=k3) (k5:=k5)
  Z7 (mN:=mN) (ZaXn Z7.hasBase) hh #[n',hs] hni (eK I hg hm Zwd z_)
 rw[hs];refine Zn (Y2 ZRb);obtain ⟨v,H1,I1,rv,q1⟩:=zz;refine ZDk;refine jq rfl ZWR (Zpy _ _ hC) (ZaXo Zpy) (Zads Zpy) (fun h' ea hx=>?_);refine az ZaXp fun t hea _ _=>?_;exact hfl Zai σ H1 #[adA,h'] ea C t Zac #[agq,Zzj,ZaXq] hea (ZaXr Zz1) (ZaXs (ZR7) Zz1) q1
section
variable {X:Cx}{pins:ZdT}{σ:St}{H:Hp}{s:Shared}
def aS.laidN [339]{h':Heap}[66](hp:Zayy)[278] :
  ZaBn:=by
 have hn:=I.unheld hp
 have ne:#[aoE,ZwT]:=fun b u q z=>by rw[z,hp]at q;cases q
 refine I.un ⟨Za3S,Za3T,#[aqQ,ah (ne b u q)],ZabI,ZaqR,ZaqS,fun b ps q=>⟨#[],ZaA_⟩⟩ ZzW
 by_cases hb:b=a
 ·subst hb;rw[ac]at e;cases e;exact new
 ·rw[Zen]at e
  exact #[aPV,Zbp]
#where
inductive N8 [35][397][8]:Zaa
 | mk (ea:Addr)[195](_:vs=[ZwL,Zae g])(_:ZWy)(_:#[aK,ea,ZlP])(_:∀ dx,Zar_->Q ZaJ #[XA,#[bJ,ea,Zxw],ZGo])
set_option tactic.hygienic true
def F9 {X:Cx}{pl:ZoL}{W fI:Addr}{x:Str}{e:Expr}{es:Zbh}{t:TA}{np apos pos:Pos}(hg:ZcF)(hm:#[ql,ZSB])(hsp:#[aom,ZadB X.K ZSB Zz2])
  (hrd:ZaXt X.K W (Zbn ZJO)=Zad) (hfc:#[ah,ZaXv X.K ZSB ZPr Zf2,ZaXk]) (ha:ZfI)
  (z_:Zt_:=by decide) (he:Zm8:=by rfl) (r_:ZBG (·.1)=false:=by rfl)
  (ht:#[mV,(Zcu ZaFY Zcy [] pos)]=(do
   let ov <-ZgS (Zcp x np) ZaG
   Zxy
   let (f,first) <-#[alg,Zf2]
   Za2u):=by rfl) :
  PE X (Zcu ZaFY Zcy [] pos) (#[agB,∃ ea C u,vs=[Zaj ea,u]/\H1 ea=Zab ZlP/\ZaLF/\Q ZaJ H1]):=by
 intro pins s σ H Q I h;refine #[apX,ZaCt];refine PySem.W.method_cls ZgQ hsp (PySem.W.cls_value ZgQ hrd hfc rfl ?_);refine PyProof.Rows.callWith_builtin1 (bD (ha pos Zai _ σ H _ Zg8 h) ZPj) he r_;obtain ⟨vs,H1,I1,r1,ea,C,v,ev,hx,c,q1⟩:=zz;subst ev;obtain⟨u1,u2,rfl,ru1,ru2⟩:da:=r1.two;cases ru1;refine #[VZ,#[aeC,ea,ZlP,ea,hx]];obtain⟨t0,hx0⟩:=a_;refine M6 Zs0 c hx0 fun h' t' q k=>?_
 have e:upd H1 ea ZlP=H1:=by funext b;unfold upd;split<;>rename_i z<;>first | (rw[z,hx]) | rfl
 refine au ZaJ H1 ?_ rfl q1;have:=I1.write (x:=ea) (e:=ea) (o:=ZaOC) (h':=h') (t':=s1.toks) (by rw[hx];exact True.intro) Zf' (fun b o n z=>k b o n z) Zgv (Ha q)
 rwa [e]at this
set_option tactic.hygienic false
def Gi [45]{o value:Expr}{f:Str}{pos pos':Pos}{ta tv:TE}[86] :
  #[aKu,(#[pg,tv,fun y H1=>ta σ H1 fun x H2=>∃ ea C,x=ZwL/\H2 ea=Zab ZlP/\VT X.K C f/\∀ dx,H2 dx=Zac->#[m9,#[XA,(upd H2 ea Zxw),ZYj]]])]:=by
 intro pins s σ H D I h;refine ZaJS;obtain ⟨y,H1,I1,ry,q⟩:=zz;refine ZaPX;obtain ⟨x,H2,I2,rx,ea,C,ex,hx,c,q2⟩:=zz;subst ex;obtain rfl:ov=Zeu ea:=rx;refine #[VZ,#[eP,#[ia,H2,ZsX,ea,ZlP],ZacQ ea _ hx]];obtain⟨t0,hx0⟩:=a_;refine Tc ZJf c hx0 fun h' tk hx1 hns k=>#[fE,σ,?_,q2 ZdP I2.fresh];have hd:=I2.fresh
 have ned:ZdP≠ea:=fun z=>by rw[z,hx]at hd;cases hd
 have ne1:#[aQQ,b≠ea]:=fun b u q n z=>by rw[z,hx]at q;cases q;exact ZT4
 have cz2:#[Ph,Zac4,b≠ZdP]:=#[JT,Yo (Yf q)]
 have up:#[aQQ,#[aQ,(upd H2 ea (Fj ea C #[cx,ZdP])),ZdP,(.xd ZYj),b,u]]:=fun b u q n=>by
  rw[ah (ao q hd),ah (ne1 b u q n)];exact q
 refine I2.un ⟨fun b u q n _ _=>k b u (fun z=>by rw[z,hx]at n;cases n) q,fun b u q n _ _=>⟨u.slots,k b u (fun z=>by rw[z,hx]at n;cases n) q⟩,#[Iz,?_],#[abH,?_],fun b xs q=>up b _ q (fun ψ z=>nomatch z),fun b u xs q=>up b _ q (fun ψ z=>nomatch z),fun b ps q=>⟨#[],by rw[up b _ q (fun ψ z=>nomatch z)];simp⟩⟩ #[JT,?_]
 ·rw[ah (cz2 b u q),ah (fun z=>by rw[z,hx]at n;cases n)];exact n
 ·by_cases hb:b=ea
  ·exact#[a7,#[aW,hb,hx1]]
  ·exact⟨u,k b u hb q⟩
 ·by_cases hb:Zasv
  ·rw[hb,ac]at q
   cases q;rw[hb];refine #[c8,hns,(#[gR,?_])]
   show mZ (Zacb g ZYj) (#[afl,g=f,_])
   by_cases hgf:g=f
   ·rw[Yb hgf,hgf];simp only[List.lookup,beq_self_eq_true];exact ry
   ·have hb:#[kN,g,f]:=ZhC hgf
    rw[X8 hgf];simp only[List.lookup,hb];trivial
  ·rw[Zen]at q
   by_cases hb2:b=ea
   ·rw[hb2,ac]at q
    cases q;rw[hb2];exact Ha hx1
   ·rw[ah hb2]at q
    refine (ZacQ b u q).stay (ZaDB) (fun c r=>up c _ r fun ψ z=>nomatch z) fun c xs r=>up c _ r fun ψ z=>nomatch z
    rcases hc with z | z
    ·rw[z];exact hb2
    ·exact ne1 c _ z fun ψ z=>nomatch z
abbrev EM [329][35][397](E:XK):TS:=#[arj,#[Jw,∃ g:Int,v=Zae g/\ZWy/\∀ dx,ZUZ->E #[ak,C] Znr (upd H1 dx (.xd ZGo))]]
def CJ {X:Cx}{C fI:Addr}{k:Nat}{fd:FuncData}{E:XK}{x f sl gp:Str}{e:Expr}{te:TE}{np i_ pos:Pos}(c:ZaLF)(hfn:#[a3M,fI])
  (G:#[NA,d8,fI,[sl,gp],(N8 C f)]) (hr:ZG2) (hb:fb X.K fd [sl,gp] [])
  (hfl:ZGy) (hex:Zr2) (hh:Zxd) (hg:ZcF) (hm:ZFy) (he:ZgC)
  (z_:Zt_:=by decide) (hs:Zyq:=by rfl) :
  #[RN,ZQL,(EM te C f E)]:=by
 intro pins s σ H D I h;refine #[Xy,Fk,Zzt,c];obtain⟨qn,bs,hdct,b_⟩:iU:=a_;obtain⟨sn,sub,ab,c_⟩:iU:=b_;obtain⟨col,dd,k0,zx4⟩:iU:=c_;obtain⟨k1,k2,k3,k5,mN,hC,hN,hni,T⟩:tD:=zx4;have F:=Z7;have D_:=ZaXn F.hasBase;rw[arm_exec_Raise];refine X5 (Zb (OK (C:=C) (nm:=nm) (q:=qn) (N:=N) (bs:=bs) (bm:=bm) (hdct:=hdct) (sn:=sn) (sub:=sub) (ab:=ab) (col:=col) (dd:=dd) (k0:=k0) (k1:=k1) (k2:=k2) (k3:=k3) (k5:=k5) (newId:=ZzY) D_ hh (X5 (YA (wpAny_Call_ofName ZaCt) (fun v s3 h3=>X5 (Zb (Yg h3))) Zio))));rw[hs];unfold callWith;refine X5 (YO (Zn (Y2 (bD ZTF fun u s1 ⟨v,H1,I1,rv,g,ev,hgb,q1⟩=>Zu (X5 (Zb ?_))))));subst ev;dsimp only;have hC1:=Zpy _ _ hC;have hN1:=ZaXo Zpy;have T1:=Zads Zpy
 have hf1:∃ oI,ZJQ fI=Zab oI/\Zadx:=by
  unfold PySem.W.typeIn at hfn;refine #[CK,hfn,fun o ho hc=>?_];exact ⟨o,Zs0 _ _ ho,hc⟩
 obtain⟨oI,hfI,hfc⟩:ak:=hf1;obtain⟨hp,gs,d,tk,os⟩:=s1;refine X5 (wpAny_keeperOf_exc hC1 ?_);refine X5 (EU (rest:=[u]) F T1 hC1 hN1 hni hfI hfc (fun h' ea hx=>?_) ZWR);refine az ZaXp fun t0 hea _ _=>?_;have O_:=ZaXs (ZR7) Zz1;have Ra:=ZaXr Zz1;have I2:#[cl,(upd H1 ea ZlP),⟨h',gs,d,tk,os⟩]:=I1.laidN (a:=ea) (o:=ZaOC) (h':=h') (t':=tk) ZaXq Zz1 (Ha hea);have r2:bw ZaKJ ZGI:=ZaD rfl #[fz,rv]
 refine ZI (Ze (G.run _ X.stack _ _ #[dX,ZGI] ZGI ZaKJ (fun v H3=>v=ZaJ/\∃ dx,ZUZ/\dx≠ea/\H3=upd (upd (upd H1 ea ZlP) ea Zxw) dx (.xd ZGo)) E0 (hr.make C [u] [])
  #[azS,[u]] (hb _ ZGI ZJf rfl) r2 ⟨ea,g,rfl,hgb,ac,#[JU,⟨rfl,dx,?_,?_,rfl⟩]⟩) fun r s' hq'=>?_)
 ·by_cases z:dx=ea
  ·rw[z,ac]at hdx;cases hdx
  ·rwa [ZlC]at hdx
 ·intro z;rw[z,ac]at hdx;cases hdx
 cases r with
 | error e=>exact hq'.elim
 | ok fl =>
  cases fl with
  | ret u2 =>
   refine #[aY0,fun v H3 I3 rv3 ev a_=>?_];obtain⟨dx,hdx,hne,eH⟩:az:=a_;subst ev;refine⟨rv3,#[azI,Zrc]⟩
   have h3:H3 ea=Zab Zxw:=by rw[eH,#[cn,hne],ac]
   refine #[VZ,#[eP,#[ia,H3,Zb',ea,Zxw],I3.hok ea _ h3]];obtain⟨t3,hx3⟩:=a_;have I4:=I3.untrack (φ:=#[ari,ea,Znr]) h3
   have e4:BP H3 ea=upd H1 dx (.xd ZGo):=by
    funext b
    unfold BP
    by_cases hb:b=ea
    ·rw[Zv7,hb,#[cn,hne],Ra]
    ·rw[ZEn,eH]
     by_cases hd:b=dx
     ·rw[hd,ac,ac]
     ·rw[ah hd,Zen,Zen,ah hd]
   rw[e4]at I4;exact eI ea t3 Znr rfl (I4.bk _ _ hC) hx3 (hfl Zai σ _ s' ea C t3 Znr I4 hx3 #[aX,#[cn,hne],Ra] O_ (q1 dx hdx))
  | next=>exact hq'.elim
  | brk=>exact hq'.elim
  | cont=>exact hq'.elim
abbrev RP [81][185][33][255][118]:Zaa:=ZSS/\∀ h2,#[DF,Zfv,h2]->ZadC h2->#[hX,#[tp,h2]]
def Jy {X:Cx}{pins:ZdT}{σ:St}{H H':Hp}{s s':Shared}{ea C:Addr}{od:ZgH}{B:Heap}(I:ZhY)(fl:ZaAy)(un:#[aap,[],Zb'])(hok:ZajQ)(os:ZWf)(bare:Zagl)
  (hsB:#[p2,Zb0,b∉Zne,Zun]) (trB:ZWp):RP X Zai σ H' ea C od B s':=by
 refine#[wA,Zan5]
 ·cases e:H' ea with
  | none=>rfl
  | some o =>
   obtain⟨o',q⟩:=trB ea o e;rw[fl.2.1]at q;cases q
 have v_:#[hh,Znf,Zch,ZbW,#[qA,ZsJ]]:=fun b o hf e n=>by
  obtain⟨sl,e1⟩:=ZadD b o e n hf ZaN;refine iT (ZaXx hf) Zakm
  have e2:o2=o:=by
   have:Zb0 b=Zab o2:=ho2;rw[e]at this;exact ZnD
  subst e2;obtain⟨sl2,e3⟩:=Zx_;exact ZxW
 refine I.call' (ch:=[]) (s':=#[tp,h2]) os ?_ (vR hok ZjI ZCX trB) Zma ZaDQ;refine #[P7,Zb',un,ZjI,ZCX,hsB,ZDw];obtain⟨sl,q⟩:=v_ b o hf e (Zacm b hf);exact Zgv
abbrev Cx.marked [81](ea:Addr)(oe:Obj):Cx:={ X with A:=X.A.mark (Zab (Zaj ea)),calm:=Zaz,xe:=Zku,pn:=ZQg::X.pn }
def aS.marked [45][3]{ea:Addr}[244][2](he:#[jy,ea,oe])[256](hn:ZSS):ZaAA:=by
 refine⟨⟨I.ok.mod,I.ok.kind,I.ok.glob,I.ok.blt,I.ok.above,I.ok.inj,I.ok.has,I.ok.cab,fun z=>(by cases z),I.ok.frames,I.ok.stk,I.ok.exf,I.ok.bs,I.ok.bsz,I.ok.noex,I.ok.exfs,I.ok.funs,I.ok.frf⟩,I.os,I.bare,I.base,I.loc,I.cell,I.free,I.freeC,ZvF,I.hok,I.len⟩;rcases ZcI (#[ah2,ZaI8]) with z | z
 ·subst z
  refine kK he hn Zie Zie (fun v z=>?_)
  ·refine Zakf;obtain⟨o,es,ep,ho,hdd,_⟩:fA:=a_
   have z:ea=Zcj:=z;rw[<-z,he]at ho;cases ho;rw[hd]at hdd;cases hdd
  ·refine #[aJA,I.funs.mem]
   rw[he]at ho;cases ho;exact ZZE
  ·have z:oe.data=Ze' v:=z
   rw[hd]at z;cases z
 ·exact ZhG p z
def aS.unmarked [45][3][383](I:ZaAA):ZhY :=
 #[abS,ok,#[l8,ZhG p (#[c2,p∈ZaI8,Yh _ hp])]]
def SP.unmarked [209][395][383](h:SP ZadH Zai D f s'):SP X Zai D f s':=by
 cases f with
 | next=>obtain⟨σ',H',I,q⟩:bU:=h;exact ZaXz
 | brk=>obtain⟨σ',H',I,q⟩:bU:=h;exact ZaXz
 | cont=>obtain⟨σ',H',I,q⟩:bU:=h;exact ZaXz
 | ret u=>obtain⟨v,σ',H',I,r,q⟩:fA:=h;exact #[abc,(ZaXy ok)]
abbrev Q3 [81](hdl:Zrv)[368]:Zaa:=∀ [185][33](D:kA)[255][118][130],ZaTF->#[DF,Zfv,h]->ZadC h->th Zfv od D σ H ->
 #[HV,(handleBy ZEk ZaG hdl),ZapK,#[tp,h]]
def rA {X:Cx}{pins:ZdT}{σ:St}{H:Hp}{s:Shared}{i:Nat}{n:Str}{pos:Pos}{E:Zfh}{Q:Zfi}(I:ZhY)(hN:X.N.Nodup)(hi:ZaEu)(hk:ZaJd)
  (h:#[x3,aS X Zai (ZiJ i Zac) H s']):wpAny Zt0 X.A (do bindName ZaG n Zan;unbindBehindTheSuite ZaG n pos) Q E s:=by
 refine ZazN
 have bk8:ZaUs:=#[cJ,ZhF]
 have cne:=I.cne;refine ZaJZ;refine wpAny_nameGoes_keeps hk hn bk8 fun h' v hn' hs=>ZPG;refine#[a4m,fun b ob e=>?_]
 ·exact ZaCE
 ·obtain⟨sl,e1⟩:=ZIL
  exact ZaAs
 ·obtain⟨o',e1⟩:=ZJS
  exact ZaAr
 ·by_cases hj:j=i
  ·subst hj
   have hiσ:j<ZIG:=ZaDA
   rw[ZX_]at e2;cases e2
  ·rw[ZZK]at e2
   refine Zabj;refine ZYR;rcases q with ⟨k,e⟩ | ⟨k,c,e,z⟩
   ·refine Zal #[bF,k]
    have:y≠n:=ZaDH;simp[this,e]
   ·exact ZaCo
 ·obtain⟨w',z⟩:=ZaCl
  exact ZaDz
 ·refine ZIa
  exact ZaCY
 ·refine ZaH6
  rintro rfl;rcases hc with hc | hc
  ·rw[<-hc,I.free]at e;cases e
  ·rw[I.free]at hc;cases hc
abbrev Mz [207](D:kA):kA:={ nx:=#[Yv,ZiK],rt:=D.rt,bk:=#[Yv,D.bk],ct:=#[Yv,D.ct] }
def Nu [45]:Q3 X [] (fun _ _ _ _ _=>Zkt):=fun _ _ _ _ _ _ _ _ _ _ _ _ _ h=>Zab1
def U9 {X:Cx}{y n:Str}{i:Nat}{C1:Addr}{b0:Stmt}{aq3:Zel}{t1:Zcq->Zcq->ZgH->TS}{th:Zsn}{np pos:Pos}{rest:Zrv}(hg:Gl X y)(hm:ZbK y=Zab ZarK)
  (hN:X.N.Nodup) (hi:ZaEu) (hk:ZaJd) (hs:∀ ea oe C od us,ZyY=Zaj C->ZXm->Zsg->BZ ZadH ZRi (t1 ea C od)) (hr:ZayT)
  (z_:#[t9,y]:=by decide):#[aQD,(Zab (Zcp y np)),#[cx,n],ZadE,ZarK,∃ C,cls=ZjJ/\∀ ea,t1 ea C od ZaFv (ZiJ i #[nq,ea]) H]:=by
 intro pins σ H D ea C od B s' h ld fl ups ht;revert ht;intro a_;obtain⟨b,hb,ht⟩:ak:=a_;have I:=ZaL_;refine ZaNg;have Im:=ZaNB
 have LT:ZaOp:=by
  rw[<-bk1];exact ZaYY
 refine wpAny_handleBy_cons (ZaXA (#[anq,hg,hm,z_])) (by intro z;cases z);refine (PySem.W.exm_one (K:=X.K) ZgQ LT hb).here ?_
 cases b with
 | true =>
  rw[Zav]at ht;revert ht;intro a_;obtain⟨C',eC,ht⟩:ak:=a_;cases eC;refine codeAny_handlers_suite_as ?_;refine uW fl #[aXB,?_];refine ZaNh;have I6:=#[aS',ups.trans];refine qZ (X:=ZadG ea oe) (v:=ZwL) I6 hN hi ZaxP rfl (fun s7 I7=>?_) (Zaq hk);refine YA (hs ea oe C od us6 cj3 cj2 ak8 Zai s7 _ H ZaFv I7 (ht ea)) (fun f s8 hq=>?_) ZR';have hq:=ZaXC ZsP
  cases f with
  | next=>obtain⟨σ',H',I8,q⟩:bU:=hq;exact ZanC
  | brk=>obtain⟨σ',H',I8,q⟩:bU:=hq;exact ZanC
  | cont=>obtain⟨σ',H',I8,q⟩:bU:=hq;exact ZanC
  | ret u=>obtain⟨v,σ',H',I8,r,q⟩:fA:=hq;exact #[anB,jV v _ H' I9 r q]
 | false =>
  rw[ZbQ]at ht;exact #[aOh,h,fl,ups]
abbrev Rv (sp:Sp)(t:TA)[207][368]:TS:=#[pf,#[agA,sp vs H1 (fun v H2=>ZiK (ZiJ i Zih) H2) (fun cls od H2=>th cls od D σ H2)]]
def Ig {X:Cx}{k:Nat}{f:Addr}{fd:FuncData}{ps:Zbe}{sp:Sp}{i:Nat}{x fn:Str}{e:Expr}{es:Zbh}{t:TA}{hd0:ExceptHandler}{hdl:Zrv}{th:Zsn}{px p i_ spos pos:Pos}
  (G:#[NA,Zv9,f,ps,sp]) (hr:Zd4) (hg:Gl X fn) (hm:ZbK fn=Zab Znd) (hk:Za2Q) (hb:fb X.K fd ps []) (ha:ZaJE)
  (hst:ZsL) (O_:Zsh) (hN:X.N.Nodup) (hi:Zgz) (hx:Zagh) (hh:ZajF)
  (hs:Za4S:=by rfl) (hf:ZNP:=by first | exact Ze1 | exact ZjZ | assumption)
  (z_:Zat0:=by decide) (he:Zm8:=by rfl) (r_:ZGn (·.1)=false:=by rfl) :
  ZaR4:=by
 intro pins s σ H D I h;refine Zast;refine ZaXD ?_;refine ZaU2 ?_ hs;refine ZlW;refine #[acq,hk,(YA #[aPH,i_,ZarR] (#[anj,I1.unwish.kIn]) ZR')];have I1:=I1.unwish
 have hl:ZavK:=#[dM,ZfY,#[hf,G.len,q]]
 have hb':=hb s1 us Zs0 #[aX,Zd,hl];rw[Zd]at hb';refine ZI (Ze (G.run X.A Zc1 s1 H1 Zjz us vs _ _ hr I1.env0 hb' r q) fun rs s' hq=>?_)
 cases rs with
 | error er =>
  obtain⟨ea,C,od,H',B,rfl,fl,un,hok,os,bare,hsB,trB,hE⟩:bf:=hq;have ld:=Jy I1 fl un hok os Zma hsB trB;have fl':=fl;rw[hst]at fl';refine ZaOv;refine MS held #[aXF,?_];rw[<-hst]at fl5;exact hh Zai σ H' D ea C od B s' h5 ld fl5 ZaEn hE
 | ok fl =>
  cases fl with
  | ret u =>
   refine da (ZaXG hq) fun v H2 I2 rv q2=>?_;exact #[aJ6,rv,Zzh (Zzh ZaLQ)]
  | next=>exact ZsV
  | brk=>exact ZsV
  | cont=>exact ZsV
def dL.okX {P:Program}{w:World}{K:ge}{mg:Zm5}{base:Heap}{x qual:Str}{st:Stmt}{f:Addr}{fd:FuncData}{N ps:Zbe}{k:Nat}{sp:Sp}(F:ZxQ)(S:Zaaa)(len:ZOk)
  (P_:∀ (h_:Value)(A:Around)(outer:ZbA)(s:Shared)(H:Hp)(vs:Zbg)(Q:VK)(E:XK),ZaCf->ZlS ->
   #[aQK,h_]):Zay8:=by
 obtain⟨oc,od,kV,doc,pm,an,h_,ct,osl,rfl,lk,Y_⟩:gZ:=F.ex;exact #[abf,ZaTU]
abbrev PJ [242]:Zaa:=∀ (out:Str)(m:Nat)[1](Q:VK),out.length<=ZbY*m->m+es.length<=100->ZhY->t σ H (ZaK2)->#[MJ,(ZaXH out (ZaXI es ZaG))]
def gj [45]:PJ X [] q8:=by
 intro out m pins s σ H Q ho hm I h;refine joinParts_nil (au (Zax out) H Zg8 ZbG (h out)) ?_;exact #[aQc,ho,#[aXJ,m<=100]]
abbrev tJ [329](t:TA):TA:=#[IW,∃ y:Str,x=Zax y/\Zaov/\t σ H1 Q]
def be [45]{e:Expr}[171]{te:TE}{t:TA}[119](h:PJ X es t):PJ X Zcy (tJ te t):=by
 intro out m pins s σ H Q ho hm I hq
 show #[qc,(ZaXH out (ZTh::ZaXI es ZaG))]
 refine joinParts_cons (bD #[Bg,he,hq] Zh8);obtain ⟨x,H1,I1,rx,y,ex,hy,q1⟩:=zz;subst ex;obtain⟨tk,rfl⟩:=rx
 have hl:#[bc,(out++y),ZbY*ZwR]:=#[hJ,strLen_append]
 rw[YF]at hm;refine#[bF,#[aQc,hl,#[ud,m+1,100]]];exact h (out++y) ZwR Zai s1 σ H1 Q hl Zag I1 q1
abbrev XV (t:TA):TE:=#[IV,ZaK2]
def dZ [45]{e1 e2:Expr}[171]{t:TA}[65](h:PJ X ZaaC t)(hn:#[bc,ZaaC,100]:=by decide):PE X (.JoinedStr ZaaC pos) (XV t):=by
 intro pins s σ H Q I hq;refine JoinedStr_many ?_;exact h ZadI 0 Zai s σ H Q (#[ark,0<=_]) (by simpa using hn) I hq
abbrev XU [329]:TE:=#[IW,∃ i:Int,#[aLz,Zsb,ZaXK<10 ^ 100]]
def dP [45][230][65][119]:#[aSj,XU]:=by
 intro pins s σ H Q I h;refine ZaCn;obtain ⟨x,H1,I1,rx,i,ex,hi,q⟩:=zz;subst ex;obtain⟨tk,rfl⟩:=rx
 have hd:i.natAbs.log2<1920:=by
  by_cases h0:ZaXK=0
  ·rw[h0];decide
  ·exact ZaK7 (Yw hi Zb7)
 refine wpAny_formatField_int hd #[aHT,(Zax (ZJV i)),(q _ ?_)];have:=PySem.int_text_length_le10 (a:=i) (k:=100) ZaF hi
 show #[bc,(ZfU (ZJV i)),ZbY]
 rw[PySem.ofString_length]
 lia
#print L2
namespace Wz
open PySem L2
abbrev aO [4](CX:wQ)[429][317]:Zaa :=
 #[are,ZDx,OZ K C m f,ZNF]
abbrev XCallee [4][206][317]:Zaa :=
 #[a2T,#[cP,k,ps,sp]]
section
variable {X:Cx}{CX:wQ}{k:Nat}{C:Addr}{ps:Zbe}{sp:Sp}{E:XK}{m x:Str}{p pos apos:Pos}{e o:Expr}{es:Zbh}{ta:TE}{t:TA}
def bz {pl:ZoL}(M:ZaTt)(he:ZxO)(c:ZoT)(hr:Zd4)(hx:ZfJ)(ha:ZfI)
  (hst:Zm8:=by rfl) (r_:ZBG (·.1)=false:=by rfl)
  (ht:ZaAv=(do
   let ov <-Zvb
   Zxy
   let (f,first) <-Zalh
   Za2u):=by rfl) :
  #[Ih,Zcy,[],t]:=by
 obtain⟨f,fd,G,hm,hb⟩:da:=M;exact Qk he c hm G hr hb Zao hx ha hst r_ ht
def oF {pl:ZoL}(M:ZaTt)(he:ZxO)(c:ZoT)(hr:Zd4)(hx:ZfJ)
  (ht:ZaAu=(do
   let ov <-Zvb
   Zxy
   let (f,first) <-Zalh
   Za2v):=by rfl) :
  #[Ih,[],[],q8]:=by
 obtain⟨f,fd,G,hm,hb⟩:da:=M;exact Nr he c hm G hr hb Zao hx ht
def bC (M:#[DP,Zmp,x])(hr:Zd4)(hg:ZcF)(hx:fE Zv9 X E)(ha:ZfI)
  (z_:Zt_:=by decide) (he:Zm8:=by rfl) (r_:ZBG (·.1)=false:=by rfl) :
  #[qU,(CS sp [] E t)]:=by
 obtain⟨f,fd,G,hm,hk,hb⟩:cg:=M;exact #[aTe,hx]
def WL {X:Cx}{k:Nat}{ps:Zbe}{sp:Sp}{i:Nat}{x fn:Str}{e:Expr}{es:Zbh}{t:TA}{hd0:ExceptHandler}{hdl:Zrv}{th:Zsn}{px p i_ spos pos:Pos}
  (M:#[DP,Zmp,fn]) (hr:Zd4) (hg:Gl X fn) (ha:ZaJE)
  (hst:ZsL) (O_:Zsh) (hN:X.N.Nodup) (hi:Zgz) (hx:Zagh) (hh:ZajF)
  (hs:Za4S:=by rfl) (hf:ZNP:=by first | exact Ze1 | exact ZjZ | assumption)
  (z_:Zat0:=by decide) (he:Zm8:=by rfl) (r_:ZGn (·.1)=false:=by rfl) :
  ZaR4:=by
 obtain⟨f,fd,G,hm,hk,hb⟩:cg:=M;exact Ig G hr hg hm hk hb ha hst O_ hN hi hx hh hs hf z_ he r_
#where
inductive bY where
 | come [195] | go [195] | exch [159]
 deriving DecidableEq
abbrev xz:bY->HO
 | ZwY=>Zbb [ZTw,Zae g]
 | ZwZ=>Zbb [Zax Zck,Zae g]
 | ZnZ=>Zbb [Zas9,Zgk,Zae b]
structure eD where
 worn:ZdS
 hold:ZdS
 circ:Zgy
 deeds:ZEl
abbrev dR:Zcr->Zgy->ZdU
 | a::as,ZgB=>ZaDw::dR as xs
 | _,_=>[]
abbrev vU (ks:Zbf):ZdU:=ZzG fun k=>(#[ee,k],ZcH Zad)
structure HA where
 dx:Addr
 w:Addr
 h:Addr
 c:Addr
 d:Addr
 cs:Zcr
abbrev HA.fp [406]:Zcr:=A.w::A.h::A.c::A.d::Zkx
abbrev bh [406]:Zjg:=dE ZhM #[ak,A.d] (dE ZhN #[ak,A.c] (dE Zi0 #[ak,A.h] (dE Zky #[ak,A.w] [])))
def s1:#[UT,Zi0]:=ZaA
def s2:#[UT,ZhN]:=ZaA
def s3:#[UT,ZhM]:=ZaA
def s4:#[avg,ZhN]:=ZaA
def s5:#[avg,ZhM]:=ZaA
def s6:#[jF,ZhN,ZhM]:=ZaA
def Fr [406]:#[Ht,Zky,A.w]:=by
 unfold bh;rw[aK,X8 s3,aK,X8 s2,aK,X8 s1,aK,Zav]
def ME [406]:#[Ht,Zi0,A.h]:=by
 unfold bh;rw[aK,X8 s5,aK,X8 s4,aK,Zav]
def PH [406]:#[Ht,ZhN,A.c]:=by
 unfold bh;rw[aK,X8 s6,aK,Zav]
def KO [406]:#[Ht,ZhM,A.d]:=by
 unfold bh;rw[aK,Zav]
def sw [406]{m:Str}(h1:ZUt)(h2:ZUs)(h3:ZUr)(h4:ZUq):ZawT:=by
 unfold bh;rw[aK,X8 h4,aK,X8 h3,aK,ZrA,aK,Zrz];rfl
def zq [406]{m:Str}(h:ZUt/\ZUs/\ZUr/\ZUq):ZawT:=sw A h.1 h.2.1 h.2.2.1 h.2.2.2
abbrev jT [33](d:Addr)[164]:Zaa:=∃ as:Zcr,#[aK,d,Zp0]/\Za3 (ZaD8) as ds
structure aM [35][33][9]:Zaa where
 ob:#[ge,(Zde C Zex (bh A))]
 nd:A.fp.Nodup
 w:#[aK,A.w,ZTJ]
 h:#[aK,A.h,Zatw]
 c:#[aK,A.c,#[OE,Zkx]]
 cs:Za3 (Zank) Zkx Zbo
 d:jT H A.d Zz3
abbrev Kp [324][250]:Zaa:=#[p2,H,Zq6,#[a4,H']]
def Kp.of_same [109][23][79]:Zaw2:=Zarl
def Kp.trans {fp fp':Zcr}[316](a:Zaw3)(b:Kp fp' H1 H2)(h:∀ x∈fp',x∈fp\/ZDj):Zaw4:=fun x o e n =>
 b x o (a x o e n) fun z=>(h x z).elim n fun y=>by rw[e]at y;cases y
def G0 [23]{d:Addr}[183](r:jT H d ds)[79]:jT H' d ds:=by
 obtain⟨as,h,p⟩:=r;exact ZaJF
def aM.mono [353][44][257][79]:ZG4 :=
 ⟨ZE_,x.nd,s _ _ x.w,s _ _ x.h,s _ _ x.c,ZiU x.cs Zan2,G0 x.d s⟩
def aM.kept [353][44][109][257](k:Zaw2)(hp:p∉fp)(hd:#[JW,Zq6])(ht:∀ b xs,#[b9,ZeQ]->Zq6):ZG4:=by
 have m:#[JW,ZaI7]:=#[adJ,k b o e #[dy,hd]];refine⟨k _ _ x.ob hp,x.nd,m _ ZDW _ x.w,m _ ZDW _ x.h,m _ ZDW _ x.c,?_,?_⟩
 ·have:∀ [434][234],(#[JX,ZTn])->Zanl->ZaP':=by
   intro cs ci hc hp
   induction hp with
   | nil=>exact Zao
   | cons e _ ih=>exact ZaD (m _ (hc _ Ye) _ e) (ih #[fa,hc b ZTR])
  exact Zbu _ _ #[p4,by simp[HA.fp,hb]] x.cs
 ·refine ak x.d fun as h hp=>?_
  refine #[vw,(m _ ZDW _ h),hp,#[adK,?_]]
  cases q with
  | come g=>exact ZY5
  | go g=>exact ZY5
  | exch a b=>exact ZY5
abbrev fV [404]:ZdS:=ZadL fun p=>#[AV,p.1≠g]
def Fh [404]:y9 (dk l) ZBR=dk (fV l g):=by
 unfold y9 dk fV;rw[List.filter_map]
 congr 1
 apply List.filter_congr
 intro p _;simp[Function.comp]
def m8 [17](g h:Int):Zbq (fV l g) h=#[acW,h=g,ZXE]:=by
 induction l with
 | nil=>simp[fV,look]
 | cons p r ih =>
  unfold fV at ih ⊢;rw[ZE]
  by_cases e:ZjL
  ·rw[X8 (Zs'),ih]
   by_cases hh:h=g
   ·simp[hh]
   ·have:¬ p.1=h:=#[aV,hh (ZaXL e)]
    simp[hh,look,this]
  ·rw[Yb (Zs')]
   show ZaCm
   rw[ih]
   by_cases hh:h=g
   ·subst hh;simp[e]
   ·simp[hh,look]
def vZ [163]{g h:Int}:h∈aQ (fV l g)↔h∈ZrY/\h≠g:=by
 rw[<-dX,m8,<-dX]
 by_cases e:h=g<;>simp[e]
inductive UD where
 | done | already | masked | same | met | noguest [195]
 deriving DecidableEq
abbrev gX:Zgy->Int->Zbf
 | [],_=>[]
 | Zj1,g=>#[b4,x.1=g,x.2,gX r g]
abbrev lH [158][159]:Bool:=#[AV,b∈gX c a]
abbrev ju [204]:Zbf:=if ZEX then ks else ks++[b]
abbrev dS:Zgy->Int->Int->Zgy
 | [],a,b=>[(a,[b])]
 | Zj1,a,b=>#[b4,ZGk,(x.1,ju x.2 b)::r,x::dS r a b]
abbrev bn [196]:bY->UD
 | ZwY=>#[aqM,ZNm,Zz4]
 | ZwZ=>match ZlO with | none=>ZS5 | ZSx=>#[b4,m=g,Zcv,ZJY]
 | ZnZ=>match Zyk with
  | none=>Zasa
  | ZwJ=>match ZHA with
   | none=>ZasG
   | ZwJ=>#[b4,a=b,ZJZ,#[aqM,ZOb,ZsG]]
abbrev after [196]:bY->eD
 | ZwY=>#[Pl,put ZaB g g,put Zcb g g,Zbo,ZwY]
 | ZwZ=>#[Pl,fV ZaB g,fV Zcb g,Zbo,ZwZ]
 | ZnZ=>ZalZ
abbrev names:bY->Zbf
 | ZwY=>[g]
 | ZwZ=>[g]
 | ZnZ=>Zgm
abbrev cH [195]:Zaa:=ZWy
structure AZ [196]:Zaa where
 w:ZgU<ZbY
 h:Zz5<ZbY
 c:Ztq<ZbY
 k:#[J0,#[aZ,x.2]<ZbY]
 d:Ztr<ZbY
structure HX where
 C:Addr
 cW:Addr
 cA:Addr
 cM:Addr
 cS:Addr
 cT:Addr
 cN:Addr
 fN:Addr
abbrev kE [77](E:XK)[33]:UD->Zaa
 | Zcv=>False
 | Zz4=>ZauC
 | ZJY=>ZauD
 | ZJZ=>ZUk
 | ZsG=>ZauB
 | ZS5=>ZXg
abbrev Tr [250]:Zaa:=#[g2,H,#[um,H']]
def Tr.refl [42]:Tr H H:=fun _ o e=>ZoO
def Tr.trans [316](a:Tr H H1)(b:Tr H1 H2):Tr H H2:=fun x o e=>let ⟨o',e'⟩:=a x o e;b x o' e'
def Tr.of_same [23][79]:ZS6:=#[ct,#[ft,s b o e]]
def Tr.upd {H H1:Hp}(a:Tr H H1)(x:Addr)(u:HO):Tr H (upd H1 x u):=fun b o e=>by
 by_cases h:b=x
 ·exact⟨u,#[b1,h,ac]⟩
 ·obtain⟨o',e'⟩:=a b o e
  exact#[wB,o',ah h,e']
abbrev yI [35][33][89][406](A_:eD)(H':Hp):Zaa:=∃ A':HA,aM C H' p A' A_/\Kp Zi1 H H'/\(∀ b∈A'.fp,ZTn\/ZbW)/\ZS6
abbrev jA [77][33][9](d:bY)(Q:VK)(E:XK):Zaa :=
 #[b4,Zgr,Zanw,ZawE]
inductive N9 [369]:Zaa
 | mk (p dx:Addr)[58](_:#[ge,ZDt])(_:∀ (A:HA)(H':Hp),aM C H' p A ZcW->(#[p2,H,b≠p,#[a4,H']])->(#[JW,ZbW])->Q ZaJ H')
inductive EA [354]:Zaa
 | mk [43][355](_:ZdF)(_:jA c H p A st ZatT Q E)
inductive QR [354]:Zaa
 | mk [43][355](_:ZdF)(_:(∀ m,ZPK->cH m/\(m=g->#[hD,ZawA])))(_:jA c H p A st (.go g) Q E)
inductive AM [354]:Zaa
 | mk [121][355](_:cH a)(_:cH b)(_:jA c H p A st ZrM Q E)
inductive EB [369]:Zaa
 | mk [9](g m:Int)(_:vs=[ZbH,Zu3,Zae m])[83](_:ZgU<Zcc)(_:Zz5<Zcc)(_:Q ZaJ #[na,#[bJ,A.w,#[jk,(put ZaB g m)]],A.h,(put Zcb m g)])
inductive lW [354]:Zaa
 | mk (p:Addr) (A:HA) (st:eD) (g:Int) (h_0:ZGs) (h_1:ZyH) (h_2:ZdF) (h_3:match ZlO with
 | ZSx=>#[fG,m]
 | none=>ZVK):lW c vs H Q E
inductive vz [354]:Zaa
 | mk (p:Addr) (A:HA) (st:eD) (g:Int) (h_0:ZGs) (h_1:ZyH) (h_2:ZdF) (h_3:match ZWr with
 | ZSx=>#[fG,m]
 | none=>ZVK):vz c vs H Q E
inductive vt [369]:Zaa
 | mk [43][83](_:#[nK,ZNm])
inductive vq [369]:Zaa
 | mk [435](_:Zayw)(_:#[Gu,Zahz])
inductive N7 [369]:Zaa
 | mk [121][83](_:#[E8,(lH Zbo a b)])
inductive Rn [369]:Zaa
 | mk [121][83](_:Zazm)(_:(#[J0,Zayg]))(_:#[anv,C,{ st with circ:=#[Oa,dS] }])
inductive Gv [369]:Zaa
 | mk [435](_:#[fG,Ztr])
structure HT [13][77]:Zaa where
 cl:IZ K c.C
 nW:gq K c.C Zky
 nH:gq K c.C Zi0
 nC:gq K c.C ZhN
 nD:gq K c.C ZhM
 mC:#[bI,ZJ1,c.C]
 eA:c6 K Zfb
 eM:c6 K Zfc
 eS:c6 K Zf3
 eT:c6 K ZhO
 mA:#[bI,Zz6,Zfb]
 mM:#[bI,Zz7,Zfc]
 mS:#[bI,Zpz,Zf3]
 mT:#[bI,Zz8,ZhO]
 mN:#[bI,Zdv,Zc0]
 mW:#[bI,ZaXN,Zts]
 eN:#[wk,Zc0,Ztt]
 gN:VT K Zc0 Zba
 tN:#[a3L,Ztt]
 wS:#[aJs,Zts]
 wR:#[aXu,Zts]
 wI:#[aXw,Zts]
structure HM [37][77]:Zaa where
 aa:#[agN,Zfb,Zfb]
 ma:#[agO,Zfc,Zfb]
 mm:#[agN,Zfc,Zfc]
 sa:#[agT,Zfb]
 sm:#[agT,Zfc]
 ss:#[agN,Zf3,Zf3]
 ta:#[agQ,Zfb]
 tm:#[agQ,Zfc]
 ts:ZaxZ
 tt:#[agN,ZhO,ZhO]
 na:#[agR,Zfb]
 nm:#[agR,Zfc]
 ns:#[agR,Zf3]
 nt:#[agR,ZhO]
 nn:#[agN,Zc0,Zc0]
abbrev iE [4][77]:Zaa:=#[a4t,Ztt,ZkK,Zc0,Zba,ZkK]
def qG {X:Cx}{c:HX}{E:XK}{e:Expr}{te:TE}{np i_ pos:Pos}(N:#[Ib,iE,c])(U:ZaGQ)(hr:Zyv)(hfl:ZGy)(hex:Zr2)(hh:Zxd)(hg:Gl X Zdv)(he:ZgC)
  (hs:Zyq:=by rfl):#[aNF,Zdv,Zc0,Zba]:=by
 obtain⟨fd,G,hb⟩:ak:=N;exact #[aTV,U.eN,U.tN,U.mN]
section
variable {C:Addr}{H:Hp}{p t:Addr}{A:HA}{st:eD}
structure IY [406]:Zaa where
 wh:A.w≠A.h
 wc:A.w≠A.c
 wd:A.w≠A.d
 hc:A.h≠A.c
 hd:A.h≠A.d
 cd:A.c≠A.d
 w:A.w∉Zkx
 h:A.h∉Zkx
 c:A.c∉Zkx
 d:A.d∉Zkx
 cs:A.cs.Nodup
def aM.apart [84]:IY A:=by
 have:=S.nd;simp only[HA.fp,YN,Yn,not_or]at this;obtain⟨a_,b_,c_,d1,e⟩:qo:=this;obtain⟨a1,a2,a3,a4⟩:gY:=a_;obtain⟨b1,b2,b3⟩:fz:=b_;obtain⟨c1,c2⟩:=c_;exact⟨a1,a2,a3,b1,b2,c1,a4,b3,c2,d1,e⟩
def aM.pne [84]:p∉Zi1:=by
 have n1:p≠A.w:=jR S.ob S.w (by intro z;cases z);have n2:p≠A.h:=jR S.ob S.h (by intro z;cases z);have n3:p≠A.c:=jR S.ob S.c (by intro z;cases z);obtain⟨as,hd,_⟩:=S.d;have n4:p≠A.d:=jR S.ob hd (by intro z;cases z)
 have n5:p∉Zkx:=fun z=>by
  obtain⟨i,hi,e⟩:=ZL z;obtain⟨b,_,q⟩:=Zam';rw[e,S.ob]at q;cases q
 simp[HA.fp,n1,n2,n3,n4,n5]
def uF [23]:∀ [28],Zanl->(#[JX,ZaI7])->ZaP':=by
 intro cs ci hp k
 induction hp with
 | nil=>exact Zao
 | cons e _ ih=>exact ZaD (k _ Ye _ e) (ih #[fa,k b ZTR])
def qk (x:bY):∃ xs,xz x=Zbb xs:=by cases x<;>exact ZbG
def aM.tup [84][176]:b∉Zi1:=by
 have n1:b≠A.w:=jR e S.w (by intro z;cases z);have n2:b≠A.h:=jR e S.h (by intro z;cases z);have n3:b≠A.c:=jR e S.c (by intro z;cases z);obtain⟨as,hd,_⟩:=S.d;have n4:b≠A.d:=jR e hd (by intro z;cases z)
 have n5:b∉Zkx:=fun z=>by
  obtain⟨i,hi,e'⟩:=ZL z;obtain⟨y,_,q⟩:=Zam';rw[e',e]at q;cases q
 simp[HA.fp,n1,n2,n3,n4,n5]
def aM.tracked [84][124](h:ZTn):∃ o,ZEq:=by
 simp only[HA.fp,Yn]at h;rcases h with rfl | rfl | rfl | rfl | h
 ·exact#[a7,S.w]
 ·exact#[a7,S.h]
 ·exact#[a7,S.c]
 ·obtain⟨as,hd,_⟩:=S.d;exact#[a7,hd]
 ·obtain⟨i,hi,rfl⟩:=ZL h
  obtain⟨y,_,q⟩:=Zam';exact Zgv
def IY.fp {A:HA}(a:IY A):A.fp.Nodup:=by
 simp only[HA.fp,YN,Yn,not_or];exact kK ⟨a.wh,a.wc,a.wd,a.w⟩ ⟨a.hc,a.hd,a.h⟩ ⟨a.cd,a.c⟩ a.d a.cs
def kM [109][339](h:a∈fp):Zaw5:=fun b u e n=>by
 rw[ah (fun z:b=a=>#[eU,n,z,h])];exact e
def Hk [109][339](h:ZnC):Zaw5:=fun b u e n=>by
 rw[ZPC];exact e
def Kp.on [109]{H1 H2:Hp}(a:Zaw3)(b:Kp fp H1 H2):Zaw4:=ZaOZ
def Dp [420]:aM C #[bJ,A.w,#[jk,w']] p A { st with worn:=w' }:=by
 have a:=S.apart;have np:=S.pne;simp only[HA.fp,Yn,not_or]at np;refine#[aQA,np.1,ac,#[anM,a.wh,S.h],a.wc,A.w,a.w];refine ZCe;refine #[aP9,a.wd];obtain⟨xs,ex⟩:=qk x;rw[Zaya];exact e
def Do [420]:aM C #[bJ,A.h,#[jk,w']] p A { st with hold:=w' }:=by
 have a:=S.apart;have np:=S.pne;simp only[HA.fp,Yn,not_or]at np;refine#[aQA,np.2.1,#[eR,a.wh,S.w],ac,a.hc,A.h,a.h];refine ZCe;refine #[aP9,a.hd];obtain⟨xs,ex⟩:=qk x;rw[Zaya];exact e
def vQ [84][436](hd:#[aK,A.d,Zp0])(hp:Za3 (ZaD8) as Zz3)(x:bY)(ht:ZSR) :
  aM C ZaSs p A { st with deeds:=Zz3++[x] }:=by
 have a:=S.apart;have np:=S.pne;simp only[HA.fp,Yn,not_or]at np;have n:#[ns,H,t]:=#[ct,ao e ht]
 have e1:#[p2,H,b≠A.d,#[a4,ZaSs]]:=fun b o e h=>#[OO,ah h,#[RE,n]]
 have td:t≠A.d:=fun z=>by rw[z,hd]at ht;cases ht
 refine⟨e1 _ _ Zbj np.2.2.2.1,S.nd,e1 _ _ S.w a.wd,e1 _ _ S.h a.hd,e1 _ _ S.c a.cd,#[apU,e1 b o e #[bx,#[go,a.d,z,hb]]],as++[t],ZN7,?_⟩;refine cJ (ZiU hp fun b y e=>?_) #[fz,#[qV,td]];obtain⟨xs,ex⟩:=qk y;exact e1 b _ e #[bx,ZapR]
def JG:A.w∈Zi1:=Zz9
def JF:A.h∈Zi1:=Zz9
def Rf:A.c∈Zi1:=Zz9
def MZ:A.d∈Zi1:=Zz9
#where
def vN [172][437](h:Zgr):Zanw:=by
 unfold jA at k;rwa [ZcE]at k
def kI [172]{o:UD}[437](h:bn st d=o)(ho:o≠Zcv):ZVJ:=by
 unfold jA at k;rwa [h,X8 ho]at k
def uX:∀ [234][159],#[jS,Zr4,ZJ2]
 | [],_,_=>ZaXO
 | Zj1,a,b=>by
  unfold dS;split
  ·simp
  ·have:=uX r a b;simp;lia
def MT [204]:#[awa,Zaz9]:=by unfold ju;split<;>simp
def yP [235][211][162](h:#[adM,#[bc,x.2,n]])(hn:0<n+1):#[ey,ZXJ,#[bc,x.2,n+1]]:=by
 induction ci with
 | nil=>intro x hx;simp[dS]at hx;subst hx;simp
 | cons y r ih =>
  intro x hx;unfold dS at hx;split at hx
  ·rcases Zxr with z | z
   ·subst z;have:=MT y.2 b;have:=h y Ye;simp only;lia
   ·have:=h x #[fq,z];lia
  ·rcases Zxr with z | z
   ·subst z;have:=h x Ye;lia
   ·exact ih (#[B4,h]) x z
def JS [204]:hU (vU ks) ZD0 (ZcH Zad)=vU (ju ks b):=by
 unfold hU ju vU
 have e:((ZzG fun k=>(#[q1,k],ZcH Zad)).any #[A0,ZD0])=#[AV,ZEX]:=by
  rw[List.any_map]
  induction ks with
  | nil=>rfl
  | cons x r ih=>rw[ZG,ih];by_cases h:x=b<;>simp[h,eq_comm]
 rw[e]
 by_cases h:ZEX
 ·rw[Yb (Yc h),ZcE,Y7]
  apply Zy
  intro k _;simp only[Function.comp];split<;>rfl
 ·rw[Za0O,Zco,Yu]
  rfl
def Kf [204]:#[WS,vU,ks,ZD0,ZEX]:=by
 rw[<-nv];unfold vU;rw[List.any_map]
 induction ks with
 | nil=>rfl
 | cons x r ih=>rw[ZG,ih];by_cases h:x=b<;>simp[h,eq_comm]
section
variable {H:Hp}
noncomputable abbrev V8 [33][434][234]:Zaa:=Zanl
def m6:∀ [28](a:Int),V8 H cs ci ->
  (d6 Zsp ZBP=Zac/\gX ci a=[]/\∀ b,ZXJ=ci++[(a,[b])]) \/
  ∃ ad,ad∈cs/\d6 Zsp ZBP=#[bE,ad]/\#[aK,ad,#[k5,ZGz]] /\
   ∀ b (H':Hp),ZaXP->(∀ x∈cs,x≠ad->∀ o,#[aK,x,o]->#[bD,H',o])->#[cB,ad,#[k5,(ju ZGz b)]]->V8 H' cs Zr4/\dR cs Zr4=dR cs ci
 | _,_,a,Zao=>Zal #[bm,rfl,rfl,fun b=>rfl]
 | ZxT,x::ci,a,ZaFc=>by
  by_cases h:ZGk
  ·refine #[aOl,c,Ye,(hZ (p:=ZaBC) #[os,h]),(by simp only[gX,ZcE];exact e)]
   simp only[gX,ZcE]at k';simp only[dS,ZcE];refine#[jG,ZaD k' (uF r fun y hy o z=>k y Zaig (#[a9,#[go,Zapg,q,hy]]) o z)]
  ·have hk:d6 (dR (c::cs) (x::ci)) ZBP=d6 (dR cs ci) ZBP:=fZ (p:=ZaBC) ZaHP
   have hc:gX (x::ci) a=ZXN:=by simp only[gX,Zco]
   rcases m6 a r with ⟨h1,h2,h3⟩ | ⟨ad,h1,h2,h3,h4⟩
   ·exact Zal #[bm,#[aX,hk,h1],#[aX,hc,h2],fun b=>by simp only[dS,Zco,h3 b,List.cons_append]]
   ·refine #[aOl,ad,#[fq,h1],#[aX,hk,h2],#[aX,hc,h3]]
    rw[hc]at k';obtain⟨n1,n2⟩:=ZavY;obtain⟨q1,q2⟩:=h4 b H' n2 (#[aih,k]) k';simp only[dS,Zco];refine#[bF,ZaD (k c Ye #[bx,#[eU,n1,z,h1]] _ e) q1]
    show _::dR cs Zr4=_::ZXS
    rw[q2]
def tz:∀ [28](a:Int)(ks:Zbf)[280],#[aYg,dR (cs++[l]) ZaLP=ZXS++[Zapm]]
 | [],[],_,_,_,_=>rfl
 | ZxT,x::ci,a,ks,l,h=>by
  show _::dR (cs++[l]) ZaLP=_
  rw[tz a ks l Zzn];rfl
def rq:∀ [28],#[aYg,#[aZ,Zsp]=ZJ2]
 | [],[],_=>rfl
 | ZxT,x::ci,h=>#[adN,#[aZ,Zsp]+1=_,rq (Zzm)]
#where
#print Wz
namespace L2
open PySem PySem.Spec PyProof.Rows
abbrev TZ (td ty tx:TE):TE:=fun σ H Q=>td σ H fun x H1=>∃ a,ZeX/\VR H1 a/\ty σ H1 fun y H2=>tx σ H2 fun z H3=>∃ kvs k,Zaph/\ZDc/\ZvO /\
 (∀ v,Zaas->Q v H3)/\(ZZz->Q z Zaqf)
def Nq [45]{o e f:Expr}{apos i_:Pos}{td ty tx:TE}[315](hf:ZaEL)(m:#[aSt,ZaXQ]):#[aPm,ZaXQ,TZ]:=by
 intro pins s σ H Q I h;refine #[Ic,PySem.F.slot_dict_setdefault,PySem.F.type_dict_setdefault,ZGg];obtain ⟨x,H1,I1,rx,a,ex,d,q1⟩:=zz;subst ex;obtain rfl:ZMV:=rx;refine Zani;refine ZYQ;rw[m.trees]
 refine Zs rfl (Zn (Y2 (bD ZVL fun iv s2 ZXf =>
  #[aSz,⟨z,H3,I3,rz,kvs,k,ea,ey,q_,q3,q4⟩])))
 subst ey;refine eY (Fg I3.hok ea) fun hz hd vs rel dd=>?_
 refine call_meetsIn PySem.F.slot_dict_setdefault dd.typeIs PySem.F.entry_dict_setdefault #[nJ,PySem.F.args_dict_setdefault_3] (kt_meets_setdefault Zt3 a ZDH hd fv)
  (dN vs dd #[a4H,hz] (fun v' hv'=>?_) (fun hn h' dd' hs=>?_))
 ·cases l:d6 kvs k with
  | none=>have:=Zwl;rw[l,hv']at this;exact this.elim
  | some v =>
   have:=Zwl;rw[l,hv']at this;exact au v H3 (I3.tok _) Zbu (q3 v l)
 ·cases l:d6 kvs k with
  | some v=>have:=Zwl;rw[l,hn]at this;exact this.elim
  | none =>
   have he:ZOu:=let ⟨q,_,_,hq,_⟩:=dd';Zr9;exact au z _ (rh I3 (by rw[ea];exact True.intro) hs he (y6 (#[i2,jx kvs k z]) hd (ZacN k rz) dd')) rz (q4 l)
section
variable {X:Cx}
inductive QJ [12]:Zaa
 | mk (_:xs=[])(_:#[V_,ZCT])
def Cc:gW X Zs9 QJ:=by
 intro pins s σ H xs us Q I r h;obtain⟨rfl,q⟩:=h;cases r;refine call_set_0 fun led=>?_;refine au ZcU _ (Zpp (t':=Zca) (ZanQ) Zbz ?_) rfl Zwn
 show Heap.SetOf ZalL _ _ _ _
 exact #[tZ,(intSetOf_fresh led).kind].setOf Zgb ZaF
inductive WN [232]:Zaa
 | mk [89][346](i:Int)(_:Zsb)(_:y=ZbH)[258](_:#[aw8,! S i,S i])
def CF:#[abY,(WN Zad)]:=by
 intro pins s σ H x y v u Q I rx ry h;obtain⟨p,S,n,i,rfl,rfl,hp,q⟩:=h;obtain⟨t,rfl⟩:=rx;cases ry;have hS:ZalM:=ZF1;exact wpAny_notInSet_of (k:=i) ZaUc rfl hS #[qW,(.bl (! S i)),rfl]
inductive Va (x:V)[0]:Zaa
 | mk [89][346](i:Int)(_:x=ZbH)(_:vs=[ZjN])[258](_:n+1<4096)(_:Q ZaJ #[bJ,p,(ZgK (ZaK9) ZaD9)])
def JJ:Wh X "set.add" Va:=by
 intro pins s σ H x vs v us Q I rx rv h;obtain⟨p,S,n,i,rfl,rfl,hp,hn,q⟩:=h;cases rx;obtain⟨u,rfl,ru⟩:ak:=rv.one;obtain⟨t,rfl⟩:=ru;have hS:ZalM:=ZF1;refine call_set_add (k:=i) ZaUc rfl hS hn fun h' M_ hS'=>?_;obtain⟨o,_,_,_,ho,_⟩:=id hS';exact au ZaJ _ (ZacH (t':=Zut) (o:=ZgK (ZaK9) ZaD9) (#[adO,hp]) Zf' (fun b u hb e=>Zaoz) Zaur hS') rfl q
#where
#print L2
namespace Wz
open PySem L2
def Ra [34]{k n:Nat}(hr:ZFd)(h:n<=200):ZWx:=by have:=hr.un;lia
def cc:#[AX,ZaY Zc5 = ZaY Zc5]:=ZaA
def gc:#[AY,ZaY Zck = ZaY Zc5]:=ZaA
def gg:#[AX,ZaY Zck = ZaY Zck]:=ZaA
def ec:#[aBu,Zc5]:=ZaA
def eg:#[aBu,Zck]:=ZaA
abbrev word:bY->Str
 | Zf4 _=>"come"
 | .go _=>"go"
 | Zat4=>"exchange"
abbrev yW (d:bY):Zbg:=ZaHK::ZatW
def ym (d:bY):xz d=Zbb (yW d):=by cases d<;>rfl
abbrev zy [159]:Zhq:=#[b4,b<a,ZD',ZfA]
abbrev PY [26][159]:Bool:=#[AV,zy a b∈ml]
abbrev Cv [26]:ZrV:=ml.map fun p=>(ZaC',ZcH Zad)
abbrev l9 [212]:ZdS:=if ZFi then ml else ml++[p]
abbrev GU [26]:bY->ZdS
 | Zf4 _=>ml
 | .go _=>ml
 | ZnZ=>l9 ml ZasT
def JI [212]:((Cv ml).any #[A0,Zakv])=#[AV,ZFi]:=by
 unfold Cv;rw[List.any_map]
 induction ml with
 | nil=>rfl
 | cons x r ih =>
  rw[ZG,ih]
  have:#[A2,(([Zaoi,#[ee,x.2]]:Zg_))=ZaC']=#[AV,p=x]:=by
   by_cases h:p=x
   ·subst h;simp
   ·rw[X9 h,X9]
    intro z;simp only[List.cons.injEq,Sum.inl.injEq,and_true]at z;exact h (ZaVY z.1.symm z.2.symm)
  simp only[Function.comp];rw[this]
  by_cases h:p=x<;>simp[h]
def P3 [212]:#[WS,Cv,ml,Zakv,ZFi]:=by rw[<-nv,JI]
def P2 [212]:hU (Cv ml) Zakv (ZcH Zad)=Cv (l9 ml p):=by
 unfold hU l9;rw[JI]
 by_cases h:ZFi
 ·rw[Yb (Yc h),ZcE]
  unfold Cv;rw[Y7]
  apply Zy
  intro x _;simp only[Function.comp];split<;>rfl
 ·rw[Za0O,Zco]
  unfold Cv;rw[Yu];rfl
structure gM [196]:Zaa where
 wn:#[Xt,ZaB]
 wh:∀ g m,ZPK↔#[eL,Zcb,m,g]
 ow:#[Si,m∈ZgA]
 sm:#[Si,cH m]
 cy:#[gJ,ZOb=lH Zbo b a]
abbrev iV [196](d:bY):eD:=if Zgr then ZgV st d else st
inductive Vo [354]:Zaa
 | mk (p t:Addr)[406][196](d:bY)(_:#[Gx,t])(_:#[aK,t,(xz d)])[355](_:Zr7)(_:(ZVb))(_:ZWA)
def vP (k c:Int):cH (GN k c):=by
 unfold cH GN;have h:∀ x:Int,0<=#[rp,x]/\#[rp,x]<ZpA:=#[b5,⟨Zazq,Zazr⟩];dsimp only;generalize hx:#[rp,(k*(1+ZajD)+ZXr)]=x;have:=h (k*(1+ZajD)+ZXr);rw[hx]at this
 have e:(10:Nat) ^ 100=ZQQ*10 ^ 85:=by rw[<-Nat.pow_add]
 have e2:ZSb<10 ^ 85:=#[Sy,Nat.pow_pos]
 have:x.natAbs<ZQQ/\(x+ZaXb).natAbs<10 ^ 15:=by constructor<;>lia
 split
 ·calc _<10 ^ 15:=ZDg
   ZaNP:=ZaEz
   ZawI:=e.symm
 ·calc _<10 ^ 15:=Zq2
   ZaNP:=ZaEz
   ZawI:=e.symm
def De (x:Int):∀ [158][159],gX ZUj x=#[b4,x=a,ju (gX c a) b,gX c x]
 | [],a,b=>by
  by_cases h:x=a
  ·subst h;simp[dS,gX,ju]
  ·simp[dS,gX,h,Yz h]
 | y::r,a,b=>by
  unfold dS
  by_cases h:y.1=a
  ·rw[ZcE]
   by_cases hx:x=a
   ·subst hx;simp[gX,h]
   ·have:¬ y.1=x:=#[aXM,hx,h]
    simp[gX,hx,this]
  ·rw[Zco]
   by_cases hx:x=a
   ·subst hx
    simp only[gX,Zco,ZQ];rw[De x r x b,Zav]
   ·simp only[gX,De x r a b,Zoy]
set_option tactic.hygienic true
def FF {ks:Zbf}{b y:Int}:y∈ju ks b↔y∈ks\/y=b:=by
 unfold ju;split
 ·rename_i h
  constructor
  ·exact Zal
  ·rintro (z | z)
   ·exact z
   ·rw[z];exact h
 ·simp
def JH [158](a b x y:Int):lH ZUj x y=(ZaJv||(#[AV,x=a]&&ZW1)):=by
 unfold lH;rw[De]
 by_cases h:x=a
 ·subst h
  rw[Zav]
  by_cases hy:y=b
  ·have:ZaFx:=FF.mpr (Zaq hy)
   simp[hy,this];rw[hy]at this;exact this
  ·have:(ZaFx)↔y∈gX c x:=by rw[FF];simp[hy]
   simp[hy,this]
 ·rw[Zco];simp[h]
def DD [158](a b x y:Int):lH (dS ZUj b a) x y=(ZaJv||(#[AV,x=a]&&ZW1)||(#[AV,x=b]&&#[AV,y=a])):=#[b1,JH,JH]
def wf [163](h:ZaDY)(g m:Int):#[Xt,ZyC]:=by
 rw[Fu];split
 ·exact h
 ·rename_i n
  exact u9 h n
set_option tactic.hygienic false
def JM [163](h:ZaDY)[195]:(aQ (fV l g)).Nodup:=by
 unfold aQ fV at *;exact (List.filter_sublist.map _).nodup h
def om:gM ZcW:=by
 refine⟨Zl,fun g m=>?_,#[adP,?_],#[adP,?_],#[pt,rfl]⟩
 ·simp[look]
 ·simp[look]at h
 ·simp[look]at h
def Cn [332]{d:bY}(G:Zr7)(sm:ZVb):gM (iV st d):=by
 unfold iV
 by_cases hd:Zgr
 ·rw[ZEt]
  have kw:#[Si,g∈ZgA]:=#[adP,#[Sz,dX.mp,h]]
  cases d with
  | come g =>
   have hn:ZaAk:=by
    cases e:ZlO with
    | none=>rfl
    | some m=>simp[bn,e]at hd
   have hh:Zbq Zcb g=Zac:=by
    cases e:ZWr with
    | none=>rfl
    | some m =>
     have:=Zi3 m g ((Zi4 m g).mpr e);rw[<-dX,hn]at this;cases this
   refine#[ajc,wf Ztu g g,G.cy]
   ·show ZVF↔#[eL,Zx9,m,x]
    rw[iI,iI]
    by_cases hx:x=g
    ·subst hx
     by_cases hm:m=x
     ·subst hm;simp
     ·rw[Zav,ZlA]
      constructor
      ·intro z;exact ZaxD
      ·intro z
       have:=ZEw;rw[hn]at this;cases this
    ·rw[Zoy]
     by_cases hm:m=g
     ·subst hm
      rw[Zav];constructor
      ·intro z
       have:=ZGN;rw[hh]at this;cases this
      ·intro z;exact #[rg,hx]
     ·rw[ZlA];exact ZYI
   ·have h:ZVF:=h
    show m∈aQ (put ZaB g g)
    rw[iI]at h;rw[<-dX,iI]
    by_cases hx:x=g
    ·rw[ZEs]at h;cases h;rw[Zav];rfl
    ·rw[Zoy]at h
     have:=Zay5;rw[<-dX]at this;split
     ·rfl
     ·exact this
   ·have h:ZVF:=h
    rw[iI]at h
    by_cases hx:x=g
    ·rw[ZEs]at h;cases h;exact Zak4
    ·rw[Zoy]at h;exact ZXd
  | go g =>
   have hg:#[eL,ZaB,g,g]:=by
    cases e:ZlO with
    | none=>simp[bn,e]at hd
    | some m =>
     by_cases z:m=g
     ·rw[z]
     ·simp[bn,e,z]at hd
   have hh:#[eL,Zcb,g,g]:=(Zi4 g g).mp hg;refine#[ajc,JM Ztu g,G.cy]
   ·show ZZm↔#[eL,(fV Zcb g),m,x]
    rw[m8,m8]
    by_cases hx:x=g
    ·subst hx
     rw[Zav]
     by_cases hm:m=x
     ·rw[ZwP];simp
     ·rw[ZlA]
      constructor
      ·intro z;cases z
      ·intro z
       have:=ZEw;rw[hg]at this;exact ZaxW
    ·rw[Zoy]
     by_cases hm:m=g
     ·subst hm
      rw[Zav];constructor
      ·intro z
       have:=ZGN;rw[hh]at this;exact #[v_,hx]
      ·intro z;cases z
     ·rw[ZlA];exact ZYI
   ·have h:ZZm:=h
    show m∈aQ (fV ZaB g)
    rw[m8]at h
    by_cases hx:x=g
    ·rw[ZEs]at h;cases h
    ·rw[Zoy]at h
     refine vZ.mpr #[nh,Zay5,?_];rw[z]at h;have:=(Zi4 x g).mp h;rw[hh]at this;exact hx ZnD
   ·have h:ZZm:=h
    rw[m8]at h
    by_cases hx:x=g
    ·rw[ZEs]at h;cases h
    ·rw[Zoy]at h;exact ZXd
  | exch a b =>
   obtain⟨ma,ea⟩:∃ m,#[ve,a]:=by
    cases e:Zyk with
    | none=>simp[bn,e]at hd
    | some m=>exact ZFr
   obtain⟨mb,eb⟩:∃ m,#[ve,b]:=by
    cases e:ZHA with
    | none=>simp[bn,ea,e]at hd
    | some m=>exact ZFr
   have hab:Zj8:=#[aV,by simp[bn,ea,eb,z]at hd]
   have wa:ZZs:=by unfold wr;rw[ea];rfl
   have wb:ZZt:=by unfold wr;rw[eb];rfl
   have ha:=(Zi4 a ma).mp ea;have hb:=(Zi4 b mb).mp eb
   have hmm:ma≠mb:=#[aV,by rw[z,hb]at ha;exact hab #[js,ha]]
   have lw:∀ x,Zbq ZCB x=#[ek,x=b,ma,#[ek,x=a,mb,Zbq ZaB x]]:=#[b5,#[b1,iI,iI]]
   have lh:∀ x,Zbq Zsq x=#[ek,x=ma,b,#[ek,x=mb,a,Zbq Zcb x]]:=#[b5,#[b1,iI,iI]]
   show gM ZalZ
   rw[wa,wb];refine#[ajc,wf (wf Ztu a mb) b ma,fun x y=>?_]
   ·show ZVE↔#[eL,Zsq,m,x]
    rw[lw,lh]
    by_cases hxb:x=b
    ·subst hxb
     rw[Zav]
     by_cases hm:m=ma
     ·rw[ZwP,hm];simp
     ·rw[ZlA]
      constructor
      ·intro z;exact ZaxD
      ·intro z
       by_cases X_:m=mb
       ·rw[Yb X_]at z;exact #[g4,Yk,z,hab]
       ·rw[X8 X_]at z
        have:=ZEw;rw[eb]at this;exact #[v_,X_]
    ·rw[X8 hxb]
     by_cases hxa:x=a
     ·subst hxa
      rw[Zav]
      by_cases hm:m=ma
      ·rw[ZwP]
       constructor
       ·intro z;exact #[dg,((Yk z).trans hm).symm,hmm]
       ·intro z;exact #[rg,hab]
      ·rw[ZlA]
       by_cases X_:m=mb
       ·rw[Yb X_,X_];simp
       ·rw[X8 X_]
        constructor
        ·intro z;exact #[rg,X_]
        ·intro z
         have:=ZEw;rw[ea]at this;exact ZaxW
     ·rw[X8 hxa]
      by_cases hm:m=ma
      ·rw[ZwP]
       constructor
       ·intro z
        have:=ZGN;rw[hm,ha]at this;exact #[v_,hxa]
       ·intro z;exact #[rg,hxb]
      ·rw[ZlA]
       by_cases X_:m=mb
       ·rw[Yb X_]
        constructor
        ·intro z
         have:=ZGN;rw[X_,hb]at this;exact #[v_,hxb]
        ·intro z;exact #[rg,hxa]
       ·rw[X8 X_];exact ZYI
   ·have h:ZVE:=h
    show m∈ZaJG
    have key:∀ y,y∈ZgA->y∈ZaJG:=fun y hy=>by
     rw[<-dX]at hy ⊢;rw[lw];split
     ·rfl
     ·split
      ·rfl
      ·exact hy
    rw[lw]at h;split at h
    ·cases h;exact key _ (Zi3 a _ ea)
    ·split at h
     ·cases h;exact key _ (Zi3 b _ eb)
     ·exact key _ (Zi3 x m h)
   ·have h:ZVE:=h
    rw[lw]at h;split at h
    ·cases h;exact G.sm a _ ea
    ·split at h
     ·cases h;exact G.sm b _ eb
     ·exact ZXd
   ·show lH ZG3 x y=lH ZG3 y x
    rw[DD,DD,G.cy x y];cases #[AV,x=a]<;>cases #[AV,x=b]<;>cases #[AV,y=a]<;>cases ZW1<;>simp
 ·rw[ZEo];exact G
def JV [203][281][350](h:cC K H l ZvR):RD K H 2 Zef (Cz ns):=by
 refine RD.lst h ?_;clear h
 induction ns with
 | nil=>exact Zao
 | cons n r ih=>exact ZaD (Ztv rfl 1) ih
def Na {ms ns:Zbf}:Cz ms=Cz ns↔ms=ns:=by
 constructor
 ·intro h
  unfold Cz at h;injection h with _ h;revert ns
  induction ms with
  | nil=>intro ns h;cases ns with | nil=>rfl | cons _ _=>cases h
  | cons m ms ih =>
   intro ns h
   cases ns with
   | nil=>cases h
   | cons n ns =>
    rw[Ys,Ys]at h;injection h with h1 h2;injection h1 with h1;injection h1 with h1;rw[h1,ih h2]
 ·intro h;rw[h]
abbrev W7 [36]:Dt:=.sq Zad (Zo5 fun v=>.at v)
abbrev Ux [4][77]:Zaa:=#[aa9,c.C,Zjc,Zauu,Zjc]
def Nh [45]{c:HX}{p pos:Pos}(M:#[Ib,Ux,c])(U:ZaGQ)(hr:Zyv)(hg:Gl X ZJ1):#[aKs,ZJ1,c.C,Zauu]:=by
 revert M;intro a_;obtain⟨fI,fd,M,G,hb⟩:da:=a_;exact #[aTh,U.mC]
structure Ev [77](H0 H:Hp)(x:Addr)(B:HA)[196]:Zaa where
 same:ay H0 H
 hall:aM c.C H x B st
 good:Zr7
 nfp:∀ b∈B.fp,Zaks
def Ev.on {c:HX}{H0 H H':Hp}[259][79]:Ev c H0 H' x B st:=⟨e.same.trans s,e.hall.mono s,e.good,e.nfp⟩
def Ev.moved {c:HX}{H0 H H':Hp}{x:Addr}{B:HA}{st A_:eD}(e:Ev c H0 H x B st)(m:yI c.C H x B A_ H')(g:gM A_) :
  ∃ B',Ev c H0 H' x B' A_/\(∀ y o,#[aK,y,o]->y∉Zf5->H' y=Zab o/\y∉B'.fp)/\ZS6:=by
 obtain⟨B',S,k,f,t⟩:=m;refine ⟨B',⟨fun b o q=>k b o #[qK,e.same] (fun z=>by rw[ZavC]at q;cases q),S,g,Znx⟩,(fun y o q n=>#[nh,k y o q n,?_]),t⟩
 ·rcases f b hb with z | z
  ·exact ZavC
  ·exact e.same.free z
 ·rcases f y z with z | z
  ·exact n z
  ·rw[q]at z;cases z
def Ev.fits [332](h1:ZgU<=100)(h2:Zz5<=100)(h3:ZaxL)(h4:#[arm,900])(h5:Ztr<=900):AZ st:=⟨Zaf,Zaf,Zaf,#[ai6,h4],Zaf⟩
abbrev Of [184][196]:Zaa:=(#[kc,ZgA,Zvo])/\(#[kc,aQ Zcb,Zvo])/\#[Xt,Zcb]
def of_empty [71]:Of L ZcW:=⟨(#[zl,ZaXR]),(#[zl,ZaXR]),Zl⟩
set_option tactic.hygienic true
def m9 [163]{g m x:Int}:x∈aQ (put l g m)↔x∈ZrY\/x=g:=by
 rw[Fu];split
 ·rename_i h
  constructor
  ·exact Zal
  ·rintro (z | z)
   ·exact z
   ·rw[z];exact h
 ·simp
def JN [71][332]{d:bY}[303][384]:Of L ZxE:=by
 unfold iV
 by_cases hd:Zgr
 ·rw[ZEt]
  obtain⟨o1,o2,o3⟩:fz:=o
  cases d with
  | come g =>
   refine ⟨Zly,(Zf1),wf o3 g g⟩
   ·rcases #[aje,aQ (put ZaB g g)] with z | z
    ·exact o1 x z
    ·rw[z];exact Zay_
   ·rcases #[aje,aQ (put Zcb g g)] with z | z
    ·exact o2 x z
    ·rw[z];exact Zay_
  | go g =>
   exact ⟨(#[aMz,o1,ZaB]),(#[aMz,o2,Zcb]),JM o3 g⟩
  | exch a b =>
   obtain⟨ma,ea⟩:∃ m,#[ve,a]:=by
    cases e:Zyk with
    | none=>simp[bn,e]at hd
    | some m=>exact ZFr
   obtain⟨mb,eb⟩:∃ m,#[ve,b]:=by
    cases e:ZHA with
    | none=>simp[bn,ea,e]at hd
    | some m=>exact ZFr
   have wa:ZZs:=by unfold wr;rw[ea];rfl
   have wb:ZZt:=by unfold wr;rw[eb];rfl
   refine ⟨Zly,(Zf1),wf (wf o3 _ _) _ _⟩
   ·rcases #[aje,aQ (put ZalT b ZCr)] with z | z
    ·rcases m9.mp z with z | z
     ·exact o1 x z
     ·rw[z];exact ZaBl
    ·rw[z];exact ZayI
   ·rcases #[aje,aQ (put ZalY ZCr b)] with z | z
    ·rcases m9.mp z with z | z
     ·exact o2 x z
     ·rw[z,wb];exact o1 _ (Zi3 b mb eb)
    ·rw[z,wa];exact o1 _ (Zi3 a ma ea)
 ·rw[ZEo];exact o
def Tg [71][332][303]:ZgU<=Zo4/\Zz5<=Zo4:=by
 have e1:ZgU=#[a0,aQ,ZaB]:=ZaXS
 have e2:Zz5=#[a0,aQ,Zcb]:=ZaXS
 exact#[wB,#[aW,e1,iB Ztu o.1],e2,iB o.2.2 o.2.1]
def HG [196](d:bY):#[xE,0].deeds.length<=Ztr+1:=by
 unfold iV;split
 ·cases d<;>simp[after]
 ·lia
def Vn:cK (aQ [])=[]:=by unfold cK aQ;simp
def Ev.track {c:HX}{H0 H:Hp}[259]{y:Addr}(h:#[a_,y]):y∉Zf5:=fun z=>by
 obtain⟨o,q⟩:=e.hall.tracked z;rw[h]at q;cases q
inductive J8 [369]:Zaa
 | mk [435](_:#[vC,jT H' l Zz3])
def PP {a b x y:Int}:zy x y=zy a b↔ZaP8:=by
 unfold zy
 by_cases h1:y<x<;>by_cases h2:b<a
 ·rw[ZwO,ZEr,Prod.mk.injEq];lia
 ·rw[ZwO,ZrA,Prod.mk.injEq];lia
 ·rw[Zrz,ZEr,Prod.mk.injEq];lia
 ·rw[Zrz,ZrA,Prod.mk.injEq];lia
def zH [154]{p q:Zhq}:q∈l9 ml p↔q∈ml\/q=p:=by
 unfold l9;split
 ·rename_i h
  constructor
  ·exact Zal
  ·rintro (z | z)
   ·exact z
   ·rw[z];exact h
 ·simp
abbrev IX [196][26]:Zaa:=#[gJ,ZOb=PY ml a b]
def Fb:IX ZcW []:=fun a b=>by unfold lH PY;simp[gX]
abbrev xM [196][26](d:bY):ZdS:=if Zgr then GU ml d else ml
def GV [332][154]{d:bY}(h:IX st ml):IX (iV st d) ZaMR:=by
 unfold iV xM
 by_cases hd:Zgr
 ·rw[ZEt,ZEt]
  cases d with
  | come g=>exact h
  | go g=>exact h
  | exch a b =>
   intro x y
   show lH ZG3 x y=PY ZaRh x y
   rw[DD,h x y];unfold PY
   have e:#[AW,zy x y∈l9 ml ZasT,(#[AV,zy x y∈ml]||#[AV,ZaP8])]:=by
    rw[<-Bool.decide_or]
    congr 1
    rw[zH,PP]
   rw[e,Bool.decide_or,Bool.decide_and,Bool.decide_and,Bool.or_assoc]
 ·rw[ZEo,ZEo];exact h
structure Sz [38][196]:Zaa where
 c:Ztq<=2*n
 k:#[arm,2*n]
 d:Ztr<=n
def Xp:Sz 0 ZcW:=⟨Zbs,(fun x hx=>nomatch hx),Zbs⟩
def Ka [162][332](h:Sz n st)(d:bY):Sz (n+1) ZxE:=by
 have keep:Sz (n+1) st:=⟨by have:=h.c;lia,#[ai6,h.k],by have:=h.d;lia⟩;refine⟨?_,?_,by have:=HG st d;have:=h.d;lia⟩
 ·unfold iV
  split
  ·cases d with
   | come g=>exact keep.c
   | go g=>exact keep.c
   | exch a b =>
    show #[bc,ZG3,_]
    have:=uX Zqr b a;have:=ZawY;have:=h.c
    lia
  ·exact keep.c
 ·unfold iV
  split
  ·cases d with
   | come g=>exact keep.k
   | go g=>exact keep.k
   | exch a b =>
    intro x hx;have:=yP (n:=2*n+1) (yP (n:=2*n) (a:=a) (b:=b) h.k Zag) Zag x hx
    lia
  ·exact keep.k
def Px [71][162][332][303](hL:ZavL)(z:Sz n st)(hn:n<=400):AZ st:=by
 have:=Tg G o;exact Ev.fits Zag Zag (by have:=z.c;lia) (#[ai6,z.k]) (by have:=z.d;lia)
abbrev XI [164]:Dt:=.sq Zaz (ZadQ fun d=>W7 (yW d))
def KC (d:bY):#[ey,yW d,ZUw]:=by
 cases d<;>(intro x hx;simp[yW,names]at hx)
 ·rcases hx with rfl | rfl<;>rfl
 ·rcases hx with rfl | rfl<;>rfl
 ·rcases hx with rfl | rfl | rfl<;>rfl
def Gk [203][438]:RD K H 2 Zef (XI ds):=by
 obtain⟨as,hl,hp⟩:ak:=h;refine RD.lst (ZbO hl) ?_;clear hl
 induction hp with
 | nil=>exact Zao
 | cons e _ ih =>
  rename_i a d _ _ _
  refine ZWZ;rw[ym]at e;refine #[wu,e,?_];have hf:=KC d;generalize yW d=xs at hf;clear e ih
  induction xs with
  | nil=>exact Zao
  | cons n r ih2=>exact ZaD (Ztv (hf n Ye) 0) (ih2 #[B4,hf])
#print Wz
namespace L2
open PySem PySem.Spec PyProof.Rows
def Ap [45][6]:fE ZcO X (Zov):=by
 intro pins σ H s e s' I hc;obtain⟨ea,C,od,H',B,rfl,fl,un,hok,os,bare,hsB,trB,hE⟩:bf:=hc;exact hE.elim
abbrev Cx.tried [81][15][48]:Cx:={ X with xe:=E,pn:=ZNS }
def aS.tried [45][3][47][2]:aS (ZadR Zai E) [] σ H s :=
 ⟨⟨Zacl,ZhF,Zz_,ZabV,Zo9,ZIP,ZIN,ZJ3,ZI6,ZJe,ZaXT,ZaXU,Zy',Zzd,ZJE,ZIM,ZabM,Zzc⟩,I.os,I.bare,I.base,I.loc,I.cell,I.free,I.freeC,fun p hp=>I.pin p (by
  have hp:#[aL9,[]]:=hp
  rwa [Zd]at hp),I.hok,I.len⟩
def aS.untried [45]{pins bx4:ZdT}{σ:St}[42][266][47](I:aS (ZadR Zai E) bx4 σ H s):ZhY :=
 ⟨⟨Zacl,ZhF,Zz_,ZabV,Zo9,ZIP,ZIN,ZJ3,ZI6,ZJe,ZaXT,ZaXU,Zy',Zzd,ZJE,ZIM,ZabM,Zzc⟩,I.os,I.bare,I.base,I.loc,I.cell,I.free,I.freeC,fun p hp=>I.pin p (by
  show #[aL9,bx4]
  exact ZT _ hp),I.hok,I.len⟩
abbrev Uy [407][240]:It :=
 #[aM2,#[DO,∃ p,Zwp/\x=kV p.1]]
def yn [311]{d:Addr}{o:Obj}[55]{ep:Nat}(hep:ZaTg)(x:cD P w H h d ZNy):#[aby,d]/\∃ vs,ZqL/\h.DictAt Zhd d vs ep:=by
 obtain⟨hg,hz,lo,vs,rel,dd⟩:=x;obtain⟨ep',hat⟩:=dd.dictAt;refine ⟨lo,vs,rel,?_⟩;refine cg (id hat) fun od es hod Y_ hdd r=>?_;rw[hg]at hod;cases hod;rw[<-hep _ _ hdd];exact hat
def LI [137][108]:#[rh,tg,ZxR,h.IsKeyIter it d i ZcK ep] where
 mem:=ZaM
 obj:=fun i h st b hb=>by
  have e:Zid:=ZbZ
  subst e;obtain⟨o,e,c,d⟩:az:=st;exact ⟨o,e,(fun v z=>by rw[d]at z;cases z)⟩
 keep:=Zamw
 item:=by
  intro X hP hw hK hc i pins s σ H E I hf st hg;subst hP hw hK;obtain⟨hH,hi⟩:=hg;refine ZaSh;refine Ze3;have hl:ZiR:=ZlH;obtain⟨p,hp⟩:Zarp:=⟨kvs[i],ZJ4⟩;obtain⟨q,hq⟩:∃ q,#[ah,ZJg,q]:=⟨vs[i]' Zag,by simp[#[iX,ZTf]]⟩;obtain⟨k,v⟩:=q
  have ek:Zj7:=by
   have e1:(kvs.map (·.1))[i]? = ZCf:=#[nW,hp]
   rw[rel.keys,YC,hq]at e1;exact #[js,e1]
  rw[hl]at st;refine #[aO0,wpAny_pyNext_dict_item,fun key h' hk A_ sb=>?_];have I1:Zw5:=Za2B;refine az (id A_) fun o2 e c d2=>?_;refine #[aqr,key,d2,(gu ZTK H I1 ?_ ⟨rfl,p,hp,(#[gT,ek])⟩ #[aX,hl,A_] ZN9)];rcases ZaNR with ⟨j,t,ej,ev⟩ | ⟨j,t,ej,ev⟩
  ·subst ej;exact ZxM
  ·subst ej;exact ZxM
 done:=by
  intro X hP hw hK hc i pins s σ H E I hf st hg;subst hP hw hK;obtain⟨hH,hi⟩:=hg;refine ZaSh;have hl:ZiR:=ZlH;refine Ze3;rw[hl]at st;exact #[a2F,wpAny_pyNext_dict_end]
 self:=#[a3z,wpAny_pyIter_keyiter]
abbrev UW (tl:TE):TI:=#[aQo,ZxR]
def Qo [45]{tg l:Expr}[111]:PI X tg l (UW tl):=by
 intro pins s σ H R I h;refine ZGE;obtain ⟨x,H1,I1,r1,q1⟩:=zz;obtain⟨d,kvs,e,hH,q⟩:da:=q1;subst e;cases r1;refine ZaQG;obtain⟨ep,hat⟩:=dd.dictAt;refine ZaKd;have m_:ZiR:=ZlH;refine wpAny_pyIter_dict (knd:=ZqY) lo hat ?_;have I2:ZaJe:=ZaTE;refine #[ann,_,ZadS,#[aTq,LI],#[ce,Zd0,rfl,#[n',m_]],(q o)]
 ·rw[bk7]at e;cases e;rfl
 ·have e:Zw6:=ZbZ
  subst e;exact ZaGS
def My {d:Addr}{o:Obj}{kvs:ZdU}{g:TG}{tb:TS}{D:kA}{σ:St}{H:Hp}(Pv:ZiC)(h0:Zj2)(hl:ZaHy)
  (hs:∀ i p σ H,Zwp->ZkZ->g (kV p.1) σ H Zaha) (hd:ZawD) :
  ∃ W:Zhu,ZiA/\∀ i m σ H,Zhr ->
   #[ah1,ZxR,ZxR,ZxR]:=by
 refine ZaMI;intro i m σ H a_;obtain⟨rfl,hi,p⟩:fz:=a_;have q:=Zsr
 by_cases q_:ZQC
 ·refine ZaHx
  obtain⟨e,p2,hp,ex⟩:iT:=y;subst e ex;exact hs i p2 σ _ hp p
 ·have e:Zaub:=Zaf
  subst e;exact Zaw'
#print L2
namespace Wz
open PySem L2
abbrev j5 [164]:eD:=ZadT ZgV ZcW
def LC [164](d:bY):j5 (ds++[d])=ZgV (j5 ds) d:=by unfold j5;rw[aQa];rfl
abbrev re [164]:Zaa:=∀ i d,#[ah,ds[i]?,d]->bn (j5 (ds.take i)) d=Zcv
def qm:re []:=fun i d h=>ZgP
def gE [439](h:re ds)(hd:ZaKr):re (ds++[d]):=by
 intro i e he
 by_cases hi:i<Zkz
 ·rw[Zz hi]at he
  rw[#[cQ,List.take_append_of_le_length]];exact h i e he
 ·have hl:=Zatm
  rw[Yr,YW]at hl
  have e1:i=Zkz:=Zaf
  subst e1;simp at he;subst he;simpa using hd
#print Wz
namespace L2
open PySem PySem.Spec PyProof.Rows
def aS.turned2 [45][3]{h':Heap}{t':Nat}{e it:Addr}[2](k:#[hh,ZnY,b≠it,Zch,Zd9])(fe:js X Zai H e)(fi:js X Zai H it):ZTa:=by
 obtain⟨e0,e1,e2,e3,e4,e5⟩:db:=fe;obtain⟨i0,i1,i2,i3,i4,i5⟩:db:=fi;have nit:#[aDg,ZaIe]:=fun b u q=>⟨(fun z=>by rw[z,e0]at q;cases q),(fun z=>by rw[z,i0]at q;cases q)⟩
 have nn:∀ b,b∉ZQ3->ZaIe:=#[fa,ZbZ]
 refine I.step (g':=s.gens) (d':=s.drawn) (ch:=ZQ3) Zp5 (#[aXV,ZajH]) (#[aXV,#[agH,ZajH]]) (fun _ _ _ _ n=>n)
  (fun b o hc q=>#[ft,ZajH]) (ZIZ) (fun _ _ _ q=>q) (fun b ps q=>⟨#[],#[e5,q]⟩) ZaAX (#[JT,?_]) I.bare
 ·have hb:Zys:=ZbZ
  rcases hb with rfl | rfl
  ·exact ⟨e3,e1,e4,e5⟩
  ·exact ⟨i3,i1,i4,i5⟩
 ·obtain⟨o,es,ep,ho,r⟩:im:=hm
  exact oq o es ep (k _ o (Yz e1) (Yz i1) ho) r
 ·refine (Zbp b u q).stay (fun c v hc z=>k c v ?_ ?_ z) (fun _ z=>z) ZD6
  ·rcases hc with z | z
   ·rw[z];exact #[ay1,0].1
   ·exact (nit c _ z).1
  ·rcases hc with z | z
   ·rw[z];exact #[ay1,0].2
   ·exact (nit c _ z).2
inductive QH [12]:Zaa
 | mk (p:_)(S:_)(n:_)[74][258](_:#[fG,n])
def Cb [45]:#[nM,ZzE,QH]:=by
 intro pins s σ H xs us Q I r h;obtain⟨p,S,n,rfl,hp,q⟩:=h;obtain⟨u,rfl,rx⟩:ak:=ZfH;cases rx;obtain⟨o,es,ep,t,ho,hex,hd,_,_,hb,hf,hn⟩:=#[eP,ZalM,ZF1];subst hn;refine call_len_set ho hex hd hf ?_ #[qW,(Zae es.size),ZbG];have:es.size<4096:=hb
 lia
#print L2
namespace Wz
open PySem L2
def tU [270]:ZavX:=Za35
#print Wz
namespace L2
open PySem PySem.Spec PyProof.Rows
def A5 [103](env:Env) :
  #[aQN,0]=(do
   #[nw,i0.pos]
   match <-ZaC3 with
   | none=>ZaFA
   | ZjV =>
    #[aGV,t0]
    ZiN t0 env v
    let mut ok:=true
    for c in c0 do
     if ok then ok <-Zzg
    if ok then
     let x <-ZgS i1 env
     ZU5
     let x <-#[aYk,i1,env]
     let it1 <-ZadU [x] (Ztw x)
     let _ <-runOwn ZaKc env
     #[ak2,0]
    else
     #[ak2,0]):=ZadV
def A6 [103](env:Env) :
  #[aQN,1]=(do
   ZU5
   match <-ZaC3 with
   | none=>ZaFA
   | ZjV =>
    #[aGV,t1]
    ZiN t1 env v
    let mut ok:=true
    for c in c1 do
     if ok then ok <-Zzg
    if ok then
     (do let _ <-ZgM (ZdQ ZacI) [acc,<-ZgS elt env])
    #[ak2,1]):=ZadV
section
variable {prog:Program}{w:World}{A:Around}{R:ZlF}{s:Shared}{elt t0 i0 t1 i1:Expr}{c0 c1:Zbh}{scope:Scope}{pos:Pos}{it acc:Value}{env:Env}
def rG (I:ZwW)
  (turn:∀ n s,ZiD->wpAny Ztb A ZA5 (fun r s₁=>match r with
   | none=>Zyx
   | ZjV=>wpAny Ztb A #[aFI,t1] (fun _ s₁'=>wpAny Ztb A (ZiN t1 env v) (fun _ s₂ =>
     wpAny Ztb A (forIn c1 true fun c r=>if ZrB then do let ok <-Zzg;ZNa else ZM') (fun ok s₃ =>
      if ZwN then wpAny Ztb A ZVh (fun x s₄ =>
       ZaJ1) ZA9 s₃
      else ZxP) ZA9 s₂) ZA9 s₁') ZA9 s₁) ZA9 s)
  (n:Nat) (h:ZiD) :
  ZaBO:=by
 refine ZyK
 show wpAny _ A (#[uc,Zz',Zahc,1,it].onRaise (fun x=>do ZKc;Zxe)) _ _ s
 refine Zw4;rw[A6];refine Zalj
 cases r with
 | none=>exact Zxj
 | some v =>
  refine Zakk;refine ZaYs
  cases ok with
  | false=>exact ZxZ
  | true =>
   exact ZaN_
def qi (hs:∀ x,#[aYk,i1,env]=Zb2 x)(I:ZwW)
  (turn:∀ n s,ZiD->wpAny Ztb A ZA5 (fun r s₁=>match r with
   | none=>Zyx
   | ZjV=>wpAny Ztb A #[aFI,t0] (fun _ s₁'=>wpAny Ztb A (ZiN t0 env v) (fun _ s₂ =>
     wpAny Ztb A (forIn c0 true fun c r=>if ZrB then do let ok <-Zzg;ZNa else ZM') (fun ok s₃ =>
      if ZwN then wpAny Ztb A #[im,i1] (fun x s₄ =>
       #[aoU,(Ztw x),fun it1 s₅=>Zl' Ztb A ZaKc (#[arq,Zawd]) s₅]) ZA9 s₃
      else ZxP) ZA9 s₂) ZA9 s₁') ZA9 s₁) ZA9 s)
  (n:Nat) (h:ZiD) :
  #[te,#[uc,Zmr,Zahc,0,it]]:=by
 refine ZyK
 show wpAny _ A (#[uc,Zz',Zahc,0,it].onRaise (fun x=>do ZKc;Zxe)) _ _ s
 refine Zw4;rw[A5];refine Zalj
 cases r with
 | none=>exact Zxj
 | some v =>
  refine Zakk;refine ZaYs
  cases ok with
  | false=>exact ZxZ
  | true =>
   refine #[ag0,h₃,#[ad2,?_]];refine #[vd,(ZJ5 (hs x) ?_)];refine #[ayM,fun it1 s₅ h₅=>?_];refine X5 (wpAny_runOwn (Ze h₅ fun r s₆ h₆=>?_));obtain⟨rfl,h₆⟩:=h₆;exact ZawW
def qj
  (h0:ZaBO)
  (h:wpAny Ztb A (Ztw it) (fun it' s'=>#[avT,#[uc,Zmr,Zahc,1,it']])
   (Zad3 Ztb A env ZaD_) s) :
  #[te,#[uc,Zad4,Zahc,1,it]]:=by
 refine ZaXW ?_
 show wpAny _ _ (#[uc,compStart,Zahc,1,it].onRaise (fun x=>do ZKc;#[nw,theWindowsPlace])) _ _ s
 refine wpAny_notedAt ?_;unfold compStart
 show #[qd,ask]
 refine X5 (wpAny_askSetting (wpAny_ite ?_));split
 ·first
   | exact X5 (Yg (Yg (ZaXY rfl h0)))
   | exact #[aXZ,h0]
 ·first
   | exact #[aeh,(Zb (X5 ZaX0))]
   | (refine ZavE;show #[qd,ZU5];exact #[vd,ZaX0])
#where
def GZ {Y:Cx}{P:ZdT}{σ:St}{H:Hp}{s:Shared}{elt t0 i0 t1 i1:Expr}{c0 c1:Zbh}{sc:Scope}{pos:Pos}{it a:Addr}{fp:Zcr}{tn:ZNu}{J:It}{g:TG}{tt:TT}{te:TE}{nx:ZeJ}{rt:VK}{bk ct:ZeJ}
  (hc:Y.calm=Zad) (hxe:Y.xe=Zku) (I:aS Y P σ H s) (T:yK Y.prog Y.w Y.K t1 J fp it tn) (st:tn 0 ZaE) (f:#[iO,js Y P H b]) (hL:sj J g (Ov tt te a) ⟨nx,rt,bk,ct⟩ σ H) (hg:PG Y t1 g) (ht:O0 Y c1 tt) (he:PE Y elt te) :
  Zl' (Zta Y.prog Y.w) Y.A #[ak',Zahc,1,ZbV,Y.env] (#[zZ,r=.ok Zpd/\#[I3,aS Y P σ' H' s'/\nx σ' H']]) s:=by
 obtain⟨W,a_,turn⟩:ak:=hL;obtain⟨m0,w0⟩:=a_;have o_:#[aj3,P]:=fun {H'} hn b hb=>⟨hn b hb,#[dy,f].2⟩;refine #[ww,rG,#[MD,aS Y P σ' H' s',Zb',ZOH],(eI 0 _ _ I st #[N8,f] w0)];intro n s6 a_;obtain⟨i,σ6,H6,I6,st6,fr6,w6⟩:iG:=a_;rcases Zsu with ⟨stop,qn⟩ | ⟨go,Nx,hN,step⟩
 ·refine #[BY,Zab6,P,stop]
  obtain ⟨hr,I7⟩:=zz;subst hr;exact gU rfl σ6 H6 I7 qn
 ·refine #[BY,Zab8,P,go]
  obtain ⟨u,hr,h7⟩:=zz;subst hr;refine Zsk;obtain ⟨x,H8,I8,r8,y8,st8,fr8⟩:=zz;have I8':=Zst;have hgx:=Zaj7;rw[hxe]at hgx;refine bD hgx Zai_;obtain ⟨σ9,H9,I9,q9⟩:=zz
  have again:#[aj5,P,#[MD,aS Y P σ' H' s',Zb',ZCC]]:=fun [302] I7 n7=>by
   refine ZoZ;refine ZaiX;refine ZaiI;exact Zahr
  have htx:=ht _ s9 σ9 H9 _ I9 q9;rw[hxe]at htx;refine bD htx Zai';obtain ⟨H10,I10,K_⟩:=zz
  cases ok with
  | false =>
   rw[ZbQ]at K_ ⊢;exact ZtB
  | true =>
   rw[Zav]at K_ ⊢;have hex:=he _ s10 σ9 H10 _ I10 K_;rw[hxe]at hex;refine bD hex Zalw;obtain ⟨yv,H11,I11,ry,ys,hys,hlen,q11⟩:=zz;exact ZIi
abbrev T8 [282][88]:TS:=#[pg,tt0,#[sW,#[eY,b,wi1 σ H1 ZaSd,ZrW]]]
abbrev TN (wi:TI)(g0:TG)[282][97]:TE:=fun σ H Q=>wi σ H fun J H1=>∀ a,ZFs ->
 #[RO,g0,(T8 tt0 wi1 g1 tt1 te a),ZTp,ZaI]
def No {X:Cx}{elt tg iter t1 i1:Expr}{ifs c1:Zbh}{sc so:Scope}{pos:Pos}{N':Zbe}{src:ZBE}{wi wi1:TI}{g g1:TG}{tt tt1:TT}{te:TE}{N:Zbe}(hso:Zagi)(hXN:Zyd)(S:Zais)(hc:Ze0)(hi:Zsm)
  (hb:#[Rv,ZRH/\ZRI/\PI ZBn t1 i1 wi1/\PG ZBn t1 g1/\O0 ZBn c1 tt1/\ZapL])
  (hs:ZaYl:=by intro _;rfl) (hs1:∀ env x,#[aYk,i1,env]=Zb2 x:=by intro _ _;rfl):PE X #[ub,ZauO,sc] (TN wi g tt wi1 g1 tt1 te src):=by
 subst hXN;intro pins s σ H Q I h
 refine az (kG (sc:=sc) (env:=X.env) fun y hy hf=>by
  have:=Zx6;rw[<-hso]at this
  exact ZIO) ZwE
 rw[eval_ListComp];refine ZaWP;obtain⟨it,fp,tn,J,H2,e,I2,T,st2,f2,hR⟩:fR:=h2;subst e;refine Zw3
 have I3:Za3h :=
  Zalf
 have O_:=Zagv;refine ZyD;obtain⟨m0,w0⟩:=a_
 have flt:ZxN:=Zaiz
 generalize hs3:Za3g=s3 at I3 ⊢
 have e3:Za3e:=ZwF
 have sz3:ZJp:=Zx7
 have t_:Zag5:=ZaiZ
 have Q_:ZJo:=ZyA
 have c5:Zagt:=ZahV
 refine ZV S.nocell (by intro y hy;simp at hy) Zyc S.kind;have kp4:ZBW:=Zx5;have I4:=ZacD;have st4:ZxF:=ZahU;generalize hC:s3.heap.objs.size=C at I4 N_ L_ ⊢;refine db (hb cl C s3 Zag3 fp) fun hg ht hi1 hg1 ht1 he=>?_
 let Y:Cx:=ZanI
 have loop:∀ s5:Shared,ZacC->codeAny Zt0 X.A #[aWJ,ZauO]
   ZanE s5:=by
  rintro s5 rfl
  have o_:Zaj4:=fun {H'} hn b hb=>by
   refine ZyI;refine Zaik
   ·show Zoz
    rw[<-hC];exact Zym
   ·have z:Znf:=z
    rcases Zyr with y | y
    ·exact f1 y
    ·exact Zxn
  refine qi (#[b5,hs1 _ x]) ZaC7 ?_ m0 ZDR;intro n s6 a_;obtain⟨i,σ6,H6,I6,st6,fr6,w6⟩:iG:=a_;rcases Zsu with ⟨stop,qn⟩ | ⟨go,Nx,hN,step⟩
  ·refine Zab7
   obtain ⟨hr,I7⟩:=zz;subst hr;refine Zaiw;refine ZakL
   have neC:ZAe:=ZN5
   have freeC:ZxX:=I7.free
   have un:ZaCF :=
    ⟨Za21,fun b o e n hb hx=>by
      obtain⟨sl,q⟩:=ZVa
      exact ZWD,I7.base.free,fun b o e hx=>by
      obtain⟨o',q⟩:=ZU9
      exact ZWC,I7.base.tups,I7.base.frzs,I7.base.tbls⟩
   have hok:ZZV:=fun b ob e=>by
    refine ZZO;rintro rfl;rcases hc' with z | z
    ·rw[<-z,freeC]at e;cases e
    ·rw[freeC]at z;cases z
   have J7:Zai8:=Zai9;exact ZaaW
  ·refine Zab9
   obtain ⟨u,hr,h7⟩:=zz;subst hr;refine Zsk;obtain ⟨x,H8,I8,r8,y8,st8,fr8⟩:=zz;have I8':=Zst;refine Zaj8;obtain ⟨σ9,H9,I9,q9⟩:=zz
   have again:Zaj6:=fun [302] I7 n7=>by
    refine ZoZ;refine ZaiX;refine ZaiI;exact Zahr
   refine Zaja;obtain ⟨H10,I10,K_⟩:=zz
   cases ok with
   | false =>
    rw[ZbQ]at K_ ⊢;exact ZtB
   | true =>
    rw[Zav]at K_ ⊢;refine #[P9,hi1,fun x1 s11 h11=>bD h11 fun it1 y_ h12=>?_];obtain⟨ia,fp1,tn1,J1,H12,e1,I12,T1,bv4,f12,hR1⟩:fR:=h12;subst e1;have inner:=GZ (Y:=Y) (t0:=tg) (i0:=ZbT) (c0:=ifs) (i1:=i1) (sc:=sc) (pos:=pos) hc rfl I12 T1 bv4 f12 hR1 hg1 ht1 he;have ax1:=Ze inner (R':=#[arq,#[qe,#[MD,aS Y [] σ' H' s₆,s₆.heap,ZCC]]]) fun r s6 ⟨er,σ7,H7,I7,n7⟩=>⟨er,ZZb⟩;exact qj ax1 (T1.self _ 0 _ _ _ bv4 ax1)
 exact Zaln
#print L2
namespace Qs
open PySem PySem.W PyProof.Rows
structure X0 [38][123]:Zaa where
 irr:∀ i,lt i i=Zaz
 tot:∀ i j,i<n->j<n->i≠j->lt i j=Zad\/lt j i=Zad
 tr:∀ i j k,lt i j=Zad->lt j k=Zad->lt i k=Zad
abbrev ask [151][123]:ZYa->α
 | ZfO a=>a
 | ZaMO=>ask lt (k (lt i j))
abbrev Xd [151][38][123]:ZYa->Zaa
 | ZfO _=>True
 | ZaMO=>i<n/\j<n/\Xd n lt (k (lt i j))
abbrev X3 [151][38][123](t:ZYa)(R:Zat9):Zaa:=Xd n lt t/\R (ask lt t)
section
variable {n:Nat}{lt:Zavo}{p:Zlb}
abbrev Pm [38](p:Zlb):Zaa:=p.Perm (List.toArray (Zkn n))
abbrev Up [408]:Zaa:=∀ i j,i<j->j<k->lt ZaBD ZaCk=Zad
abbrev Dn [408]:Zaa:=∀ i j,i<j->j<k->lt ZaCk ZaBD=Zad
#where
abbrev Xn (p q:Zhq):Bool:=#[aLI,p.2<q.2]
abbrev XN [93](i j:Nat):Bool:=Xn (Zad5 i ZEb) (Zad5 j ZEb)
abbrev RS [130][283](p:Zhq):Zaa:=∃ (b:Addr)(o:Obj)(n:Nat)(t u:Tok),v=Zaj b/\Zho/\ZvP/\o.data=ZaT #[Zae p.1 t,Zae p.2 u] n
section
variable {prog:Program}{w:World}{A:Around}{E:Zfh}{s:Shared}
abbrev Wk [403][93](out:ZbS):Zaa:=#[aSV,ZEb,Xn]
#where
abbrev Xf [130](d:Addr)(es:Zhy DictEntry)(ep:Nat):Zaa:=∃ o,#[E3,d]/\ZaWd/\ZfM=Ze4 es ep
#print Qs
namespace Wz
open PySem PySem.Spec PyProof.Rows L2
def zn [151](d:α)(l:Zd2):#[qI,ZbM] (#[e8,l.getD i d])=l:=by
 apply List.ext_getElem?
 intro i;rw[YC]
 by_cases hi:i<ZbM
 ·rw[aQi hi];simp[hi]
 ·rw[ZaX1 (ZJ6),ZaX2];rfl
#print Wz
namespace L2
open PySem PySem.Spec PyProof.Rows
def aS.thaw [45][3]{d:Addr}{o:Obj}{u:HO}[2](hd:ZVm)(h0:#[ak0,Zy_ d]):#[cl,#[bJ,d,u],s]:=by
 have up:∀ b,ZaMY=Zac->ZbW:=fun b e=>by
  by_cases hb:b=d
  ·rw[hb,ac]at e;cases e
  ·rw[Zen]at e;exact e
 have dn:#[Fq,ZaMY=Zac]:=fun b e=>by rw[ah (fun z=>by rw[z,hd]at e;cases e)];exact e
 have ne:∀ b v,#[b9,v]->(∀ o' u',v≠Zkg o' u')->b≠d:=fun b v e n z=>by rw[z,hd]at e;exact n _ _ ZXq
 refine⟨ZsP,Zo_,ZsS,⟨ZIJ,ZIK,fun b ob e n hx=>dn _ (Zza b ob e n hx),ZJR,fun b xs e=>?_,fun b ob v e=>?_,fun b ps e=>?_⟩,Zl7,ZiI,dn _ Zo',#[ad6,dn _ ZQX],ZvF,fun b ob e=>?_,ZsQ⟩
 ·have e1:=ZabO b xs e
  rw[ah (ne b _ e1 (fun _ _ z=>by cases z))];exact e1
 ·have nb:b≠d:=#[aV,h0 ob v #[gf,z,e]]
  rw[ah nb];exact ZabP b ob v e
 ·obtain⟨more,e1⟩:=Za4l
  exact⟨more,by rw[ah (ne b _ e1 (fun _ _ z=>by cases z))];exact e1⟩
 ·refine fz (ZhG p hp) fun a1 a2 a3=>?_
  exact ⟨a1,dn _ a2,a3⟩
 ·have tr:∀ v,#[aMc,H]->#[aMc,ZYN]:=fun v x=>x.stay (fun c w' hc q=>q) (fun c q=>(by rw[ah (ne c _ q (fun _ _ z=>by cases z))];exact q)) (fun c y q=>(by rw[ah (ne c _ q (fun _ _ z=>by cases z))];exact q))
  by_cases hb:b=d
  ·rw[hb,ac]at e
   cases e;obtain⟨_,x⟩:=#[Zh,d,Zvc,Zbp d _ hd];rw[hb];rw[hb]at tr;exact tr u x
  ·rw[Zen]at e
   exact tr ob (Zbp b ob e)
abbrev VH (H0:Hp)(nx:ZeJ):ZeJ:=fun σ H=>∃ d o u,ZVm/\(ZaCp)/\nx σ ZYN
def Qt [45]{st:Stmt}{t:TS}(h:ZYU):PS X st (#[pf,t { D with nx:=VH Zy_ ZiK } σ H]):=by
 intro pins s σ H D I ht;refine bD (h Zai s σ H _ I ht) fun f s' hq=>?_
 cases f with
 | next=>obtain⟨σ',H',I',a_⟩:bU:=hq;obtain⟨d,o,u,hd,h0,q⟩:fA:=a_;exact #[fE,σ',I'.thaw hd h0,q]
 | brk=>exact hq
 | cont=>exact hq
 | ret v=>exact hq
#print L2
namespace Wz
open PySem L2
structure OR [184][196]:Zaa where
 kn:(st.circ.map (·.1)).Nodup
 kl:#[J0,#[am9,∀ b∈x.2,b∈L]]
def Wr [71]:OR L ZcW:=⟨Zl,fun x h=>by cases h⟩
set_option tactic.hygienic true
def O5 {L ks:Zbf}{b:Int}(h:ks.Nodup/\#[ad8,x∈L])(hb:b∈L):#[az9,0].Nodup/\#[ey,ju ks b,x∈L]:=by
 unfold ju;split
 ·exact h
 ·rename_i n
  refine⟨u9 h.1 n,Zf1⟩;rcases Zr1 with z | z
  ·exact h.2 x z
  ·rw[ZdO];exact hb
def C9 [71][211](ha:a∈L)(hb:b∈L):∀ [235],(ci.map (·.1)).Nodup->ZaC9 ->
  (#[r4,0].map (·.1)).Nodup/\(#[ey,ZXJ,ZaoX])/\∀ k,k∈#[r4,0].map (·.1)->k∈ci.map (·.1)\/k=a
 | [],_,_=>by
  refine #[bm,(ZaXO),Zly,fun k hk=>?_]
  ·simp[dS]at hx
   subst hx;exact #[bm,ha,ZaN,#[kl,by simp at hy;rw[hy];exact hb]]
  ·simp[dS]at hk
   exact Zaq hk
 | Zj1,hn,hl=>by
  rw[Ys,YN]at hn;unfold dS
  by_cases h:ZGk
  ·rw[ZcE]
   refine #[aHp,#[rj,Ys,YN,hn],Zal (ZacY)];rcases ZFk with z | z
   ·subst z
    refine fz (hl x Ye) fun h1 h2 h3=>?_;exact⟨h1,O5 ⟨h2,h3⟩ hb⟩
   ·exact hl y #[fq,z]
  ·rw[Zco]
   refine #[aG1,C9 ha hb (ci:=r) hn.2 (#[aih,hl])];refine #[aHp,?_,?_]
   ·rw[Ys,YN]
    refine⟨Zlp,i1⟩;rcases i3 _ z with z | z
    ·exact hn.1 z
    ·exact h z
   ·rcases ZFk with z | z
    ·subst z;exact hl _ Ye
    ·exact i2 y z
   ·rw[Ys]at hk
    rcases ZcI hk with z | z
    ·exact Zal (#[e5,z])
    ·rcases i3 k z with z | z
     ·exact Zal (Yh _ z)
     ·exact Zaq z
def Md [71][332]{d:bY}(h:ZW7)[384]:OR L ZxE:=by
 unfold iV;split
 ·cases d with
  | come g=>exact⟨h.kn,h.kl⟩
  | go g=>exact⟨h.kn,h.kl⟩
  | exch a b =>
   have ha:=ZaBl;have hb:=ZayI;refine fz (C9 ha hb h.kn h.kl) fun j1 j2 _=>?_;refine fz (C9 hb ha j1 j2) fun k1 k2 _=>?_;exact⟨k1,k2⟩
 ·exact h
def Mc [71]{a:Int}:∀ [235],ZaC9->#[Gz,0].Nodup/\(∀ y∈ZXN,y∈L)/\∀ y,y∈ZXN->a∈ci.map (·.1)
 | [],_=>⟨Zl,(fun y h=>by cases h),(fun y h=>by cases h)⟩
 | Zj1,hl=>by
  unfold gX
  by_cases h:ZGk
  ·rw[ZcE]
   refine fz (hl x Ye) fun _ h2 h3=>?_;exact #[bm,h2,h3,fun y _=>by rw[<-h];simp]
  ·rw[Zco]
   refine #[aG1,Mc (ci:=r) (a:=a) #[aih,hl]];exact #[bm,i1,i2,#[kl,Yh _ (i3 y hy)]]
def OR.cl [71][332](h:ZW7)(a:Int):#[bc,Zax1,Zo4]:=#[J8,fz (Mc (a:=a) h.kl) fun h1 h2 _=>?_,iB h1 h2]
structure LY [26]:Zaa where
 nd:ml.Nodup
 lo:∀ p∈ml,p.1<p.2
def XQ:LY []:=⟨Zl,fun p h=>by cases h⟩
def PZ [332][154](h:LY ml)(d:bY):LY (xM st ml d):=by
 unfold xM;split
 ·rename_i hj
  cases d with
  | come g=>exact h
  | go g=>exact h
  | exch a b =>
   have hab:Zj8:=fun e=>by
    subst e
    cases e:Zyk with
    | none=>simp[bn,e]at hj
    | some m=>simp[bn,e]at hj
   show LY ZaRh
   unfold l9;split
   ·exact h
   ·rename_i n
    refine#[wA,ZvF]
    ·rw[Zv]
     exact #[bm,h.nd,ZaN,#[aX3,n (by rw[ZdN hy]at e;rw[<-e];exact hx)]]
    ·rcases Zd_ hp with z | z
     ·exact h.lo p z
     ·rw[ZdO]
      unfold zy;split
      ·assumption
      ·show a<b
       lia
 ·exact h
inductive tV [369]:Zaa
 | mk [43][83][362](_:#[vC,#[cB,l,#[mR,#[G5,0].map]]])
#print Wz
namespace L2
open PySem PySem.Spec PyProof.Rows
def Ow {wi1:TI}{g1:TG}{tt1:TT}{te:TE}[188](h:wi1 σ H ZaSd):T8 EN wi1 g1 tt1 te a D σ H:=by
 unfold T8 EN;dsimp only;rw[Zav];exact h
#print L2
namespace Wz
open PySem L2
abbrev PL:bY->ZbB
 | Zat4=>true
 | _=>false
def Hn [196][26](d:bY):#[bc,ZaMR,Zad9+#[anJ,PL d]]:=by
 unfold xM;split
 ·cases d with
  | come g=>exact Zbs
  | go g=>exact Zbs
  | exch a b=>show #[bc,(l9 ml _),_];unfold l9;split<;>simp[PL]
 ·lia
abbrev DE [164]:ZdS:=ZadT GU []
def K4 [164](d:bY):DE (ds++[d])=GU (DE ds) d:=by unfold DE;rw[aQa];rfl
structure UF [184][164]:Zaa where
 good:ZaHM
 of:Of L (j5 ds)
 sz:Sz Zkz (j5 ds)
 al:IX (j5 ds) (DE ds)
 ci:OR L (j5 ds)
 mo:LY (DE ds)
 ml:#[a0,DE,ds]<=#[a0,ds.filter,PL]
def WK [71]:UF L []:=⟨om,ZaX4,Xp,Fb,Wr,XQ,Zbs⟩
def HD [439][260]:iV (j5 ds) d=j5 (ds++[d]):=by unfold iV;rw[ZrE,LC]
def HC [439][260]:xM (j5 ds) (DE ds) d=DE (ds++[d]):=by unfold xM;rw[ZrE,K4]
def UF.next [71][439](h:UF L ds)[260](hn:#[th,ZaDn]):UF L (ds++[d]):=by
 have e1:=HD hj;have e2:=HC hj;refine#[aN0,?_,?_]
 ·rw[<-e1];exact Cn h.good #[iP,(hn g hg).2]
 ·rw[<-e1];exact JN h.good h.of ZaBb
 ·rw[<-e1,Yr];exact Ka h.sz d
 ·rw[<-e1,<-e2];exact GV h.al
 ·rw[<-e1];exact Md h.ci ZaBb
 ·rw[<-e2];exact PZ h.mo d
 ·rw[<-e2,Z1,Yr]
  have h1:=Hn (j5 ds) (DE ds) d;have h2:=h.ml;cases e:PL d<;>simp[e]at h1 ⊢<;>lia
def Ie [71][183](hd:re ds)(hn:#[ars,ZaDn]):∀ i,UF L (ds.take i)
 | 0=>WK
 | i+1=>by
  have ih:=Ie hd hn i;rw[YG]
  cases e:ds[i]? with
  | none=>simpa using ih
  | some d=>rw[YE];exact ih.next (hd i d e) (hn d (Yy e))
def Dm {i j c:Int}(hi:0<=i/\i<100)(hj:0<=j/\j<100)(h:GN i c=GN j c):i=j:=by
 have ht0:0<=ZajD:=Zazq;have ht1:ZajD<ZzT:=Zazr;unfold GN at h;dsimp only at h;generalize ZajD=t0 at *;generalize ZXr=q at *
 have h2:#[rp,(i*Zol+q)]=#[rp,(j*Zol+q)]:=by
  by_cases e:qg c%5=4
  ·rw[ZjW,ZjW]at h;lia
  ·rw[Ziv,Ziv]at h;exact h
 have h3:(ZpA:Int) ∣ (i-j)*Zol:=by
  have h5:=Int.dvd_of_emod_eq_zero (Int.emod_eq_emod_iff_emod_sub_eq_zero.mp h2)
  have e:i*Zol+q-(j*Zol+q)=(i-j)*Zol:=#[hJ,Int.sub_mul]
  rw[e]at h5;exact h5
 have key:∀ d:Nat,d<100->d≠0->Nat.gcd ZpA d=1:=ZaA
 by_cases hij:i=j
 ·exact hij
 exfalso
 have h6:ZpA ∣ (i-j).natAbs*Zarn:=by
  have:=Int.natAbs_dvd_natAbs.mpr h3;rw[Int.natAbs_mul]at this;exact this
 have h7:ZpA ∣ Zarn:=Nat.Coprime.dvd_of_dvd_mul_left (key _ Zag Zag) h6;have:=Nat.le_of_dvd (Zaf) h7
 lia
inductive yt [354]:Zaa
 | mk [43][59](_:ZdF)[362](_:#[fw,ZNn,#[TP,#[Zw,ZOg]],ZXg])
abbrev Uj [114]:Zaa:=#[gJ,f a=f b->a=b]
def ET {w:ZdS}[253](h:g∉aQ w):wr w g=g:=by
 unfold wr
 cases e:Zbq w g with
 | none=>rfl
 | some m=>exact #[aFk,h]
abbrev iter [114]:Nat->Int->Int
 | 0,g=>g
 | n+1,g=>f (ZbT f n g)
def uS [114](m:Nat):∀ [38][195],ZbT f (n+m) g=ZbT f n (ZbT f m g)
 | 0,_=>#[cJ,Nat.zero_add]
 | n+1,g=>by
  rw[Nat.add_right_comm]
  show f (ZbT f (n+m) g)=f (ZbT f n (ZbT f m g))
  rw[uS f m n g]
def zx [94](h:Uj f):∀ [38][211],ZbT f n a=ZbT f n b->a=b
 | 0,_,_,e=>e
 | n+1,_,_,e=>zx h n #[le,h]
def uT [94][181]:∀ n,#[h4,n]∈ks
 | 0=>hg
 | n+1=>hk _ (uT hk hg n)
def wj:∀ {l:Zbf},¬ l.Nodup->∃ i j:Nat,i<j/\#[aDL,#[dA,l[j]?]]
 | [],h=>#[dg,Zl,h]
 | a::r,h=>by
  by_cases ha:a∈r
  ·obtain⟨n,hn,e⟩:=ZL ha
   exact ⟨0,n+1,Za1s,#[hn,a,by rw[List.getElem?_cons_succ,Yi hn,e]]⟩
  ·have hr:¬ r.Nodup:=#[aV,h (YN.mpr ⟨ha,z⟩)]
   obtain⟨i,j,hij,x,e1,e2⟩:=wj hr;exact ⟨i+1,j+1,Nat.succ_lt_succ hij,⟨x,Zac5,ZaWU⟩⟩
def GY [94](hf:Uj f)[181]:∃ n,0<n/\n<=Ztx/\#[h4,n]=g:=by
 have h:¬ (ZaKS Zarf).Nodup:=fun nd=>by
  have:=iB nd (m:=ks) fun x hx=>by
   obtain⟨n,_,rfl⟩:ak:=Zauo;exact uT hk hg n
  rw[X7,aQb]at this
  lia
 refine ZaQx;obtain⟨x,e1,e2⟩:ak:=a_;rw[YC]at e1 e2
 have hj:j<ZQu:=by
  have:=(Zpb (#[ad_,#[dA,(ZaKS Zarf)[j]?],YC,e2])).1;simpa using this
 have hi:i<ZQu:=Zaf
 rw[aQi hi]at e1;rw[aQi hj]at e2;have e1':Zq'=x:=Yk e1;have e2':Zav8:=Yk e2;refine #[rm,j-i,Zag,?_]
 have e3:ZaKt:=ZaQ9
 rw[uS]at e3;exact zx hf i e3
def Hc [94][253]:∀ [38],0<n->#[h4,n]=g->∃ m,0<m/\m<=n/\ZV0/\ZaaA:=by
 intro n
 induction n using Nat.strongRecOn with
 | _ n ih =>
  intro hn he
  by_cases h:∃ k,0<k/\k<n/\#[h4,k]=g
  ·obtain⟨k,k0,kn,ke⟩:az:=h
   refine qp (ih k kn k0 ke) fun m m0 mk me mf=>?_;exact dN m m0 Zag me mf
  ·exact dN n hn Zbz he (fun k k0 kn ke=>h ⟨k,k0,kn,ke⟩)
abbrev fK [114][195](m:Nat):Zbf:=#[UU,m,#[e8,Zq']]
def Az [94](hf:Uj f)[253]{m:Nat}(hm:ZaaA):ZaDZ:=by
 cases Classical.em ZaDZ with
 | inl h=>exact h
 | inr h =>
  refine ZaQx;obtain⟨x,e1,e2⟩:ak:=a_;unfold fK at e1 e2
  have hj:j<m:=by
   have:=ZTz;simpa using this
  rw[YC,#[cQ,aQi]]at e1;rw[YC,aQi hj]at e2;have e1':Zq'=x:=Yk e1;have e2':Zav8:=Yk e2
  have e3:ZaKt:=ZaQ9
  rw[uS]at e3;exact #[dg,(zx hf i e3),(hm (j-i) Zag Zag)]
def xS [94][253]{m:Nat}(hm:0<m)(he:ZV0){x:Int}(hx:x∈ZGr):f x∈ZGr:=by
 unfold fK at hx ⊢;obtain⟨i,hi,rfl⟩:ak:=Zauo;have hi:=ZatQ
 by_cases h:i+1<m
 ·exact Zms #[eM,i+1,ZhE h]
 ·refine Zms #[br,0,ZhE hm]
  have:i+1=m:=Zaf
  rw[<-this]at he;exact he.symm
def jz [270]:ZavX:=Za35
abbrev vI [114][195](m:Nat):Zaa:=0<m/\ZV0/\ZaaA
abbrev Ao [318][195]:Nat:=(ZaD' #[e8,#[AV,#[h4,Zcz]=g]]).getD 0+1
abbrev fY [318][195]:Zbf:=fK f g ZaoS
def zk (p:Zq_):∀ (N m:Nat),m<N->p m=Zad->(∀ k,k<m->p k=Zaz)->ZaD' p=Zab m
 | 0,m,h,_,_=>Zaf
 | N+1,m,h,hm,hk=>by
  rw[List.range_succ,List.find?_append]
  by_cases e:m<N
  ·rw[zk p N m e hm hk];rfl
  ·have e:m=N:=Zaf
   subst e;rw[#[aKB,hk x (ZJ9 hx)]];simp[hm]
def Ng [94][253]{m N:Nat}(h:ZW8)(hN:m<=N):Zavn=m:=by
 obtain⟨h0,h1,h2⟩:fz:=h;unfold Ao;rw[zk _ N (m-1) Zag #[aX,#[iY,m-1+1,m],Yc h1] fun k hk=>X9 (h2 Zgi Zag Zag)];simp;lia
def Cp [221][253](hg:g∈K)[440]:ZayO:=by
 refine az (GY hf hk hg) fun n n0 n1 n2=>?_;refine qp (Hc n n0 n2) fun m m0 m1 m2 m3=>?_;have R:ZW8:=⟨m0,m2,m3⟩;rw[Ng R Zag];exact R
def vk [94]{g x:Int}{m:Nat}:x∈ZGr↔∃ i,i<m/\x=Zq':=by
 unfold fK;rw[YD];constructor
 ·intro a_;obtain⟨i,hi,rfl⟩:ak:=a_;exact #[eM,i,ZatQ]
 ·intro a_;obtain⟨i,hi,rfl⟩:ak:=a_;exact #[eM,i,ZhE hi]
def xv [94]{S:Zbf}(h:ZYw):∀ [38]{x:Int},x∈S->ZbT f n x∈S
 | 0,_,hx=>hx
 | n+1,_,hx=>h _ (xv h n hx)
def Iu [94][253]{m:Nat}(R:ZW8){S:Zbf}(hS:ZYw)(hg:g∉S):#[ey,ZGr,x∉S]:=fun x hx z=>by
 obtain⟨i,hi,rfl⟩:ak:=ZVM;have:=xv hS (m-i) z;rw[<-uS,#[iY,m-i+i,m],R.2.1]at this;exact hg Zbu
abbrev fT [318]:Zbf->Zbf->ZM5
 | [],_=>[]
 | g::ks,S=>#[b4,g∈S,ZX8,Zil::fT f N ks ZYG]
def vm [221][440]:∀ [409],(Zarr)->(ZYw) ->
  #[amY,0].flatten.Nodup/\(#[ey,ZamZ,x∉S/\x∈K])/\(#[ad8,x∈S\/x∈ZamZ])/\∀ r∈ZX8,∃ g∈ks,r=Zil/\ZayO
 | [],S,_,_=>ZaX5
 | g::ks,S,h1,h2=>by
  have hgK:=h1 g Ye;have h1':Zarr:=#[B4,h1];unfold fT
  by_cases hg:g∈S
  ·rw[Yb hg]
   refine gY (vm hf hk hN ks S h1' h2) ZSj;refine ⟨a,b,(Zf1),(ZSk)⟩
   ·rcases Zxr with rfl | z
    ·exact Zal hg
    ·exact c x z
   ·refine #[aPC,hr]
    exact ZaHF
  ·rw[X8 hg]
   have R:=Cp hf hk hgK hN;have ap:=Iu R h2 hg;have cl:#[ey,Zil,f x∈Zil]:=#[fZ,xS R.1 R.2.1 hx]
   have inK:#[ey,Zil,x∈K]:=fun x hx=>by
    obtain⟨i,hi,rfl⟩:ak:=ZVM;exact uT hk hgK i
   have g0:g∈Zil:=vk.mpr #[eM,0,R.1]
   refine gY (vm hf hk hN ks ZYG h1' fun x hx=>by
    rcases Zr1 with z | z
    ·exact Zty (Zal (h2 x z))
    ·exact Zty (Zaq (cl x z))) ZSj
   rw[List.flatten_cons];refine ⟨?_,Zly,(Zf1),(ZSk)⟩
   ·rw[Zv]
    exact #[bm,Az hf R.2.2,a,#[aX3,#[VC,(b y hy).1,#[gf,e,hx]]]]
   ·rcases Zr1 with z | z
    ·exact⟨ap x z,inK x z⟩
    ·exact⟨#[a9,(b x z).1 (Zty (Zal q))],(b x z).2⟩
   ·rcases Zxr with rfl | z
    ·exact Zaq (Zty (Zal g0))
    ·rcases c x z with q | q
     ·rcases Zd_ q with q | q
      ·exact ZEJ
      ·exact Zaq (Zty (Zal q))
     ·exact #[VC,Zaq,q]
   ·rcases ZcI hr with rfl | z
    ·exact #[rn,g,Ye,R]
    ·refine #[aPC,z]
     exact ZaHF
def Ct [94]{N:Nat}[253]:#[aZ,(fY f N g)]=Zavn:=by unfold fY fK;rw[X7,aQb]
def Paired.mapP' [340]:#[aOP,#[gJ,a∈l₁->ZEC->G a b]]
 | _,_,Zao,_=>Zao
 | _,_,ZaFc,h=>ZaD (h _ _ Ye e) (Paired.mapP' r fun a b ha=>h a b #[fq,ha])
structure O2 [165]:Zaa where
 inj:Uj (wr W)
 cl:#[kc,aQ W,wr W g∈aQ W]
 nd:(aQ W).Nodup
def oz {W:ZdS}[253](h:g∈aQ W):#[eL,W,g,(wr W g)]:=by
 obtain⟨m,e⟩:=Zzx (ZzU h);unfold wr;rw[e];rfl
def Av [332](G:Zr7):O2 ZaB:=by
 refine⟨fun a b e=>?_,#[iP,Zi3 g _ (oz hg)],Ztu⟩
 by_cases ha:a∈ZgA
 ·have ea:=oz ha
  by_cases hb:b∈ZgA
  ·have eb:=oz hb
   have h1:=(Zi4 a _).mp ea;have h2:=(Zi4 b _).mp eb;rw[e,h2]at h1;exact #[js,h1]
  ·have:=Zi3 a _ ea
   rw[e,ET hb]at this;exact #[dg,Zbu,hb]
 ·by_cases hb:b∈ZgA
  ·have:=Zi3 b _ (oz hb)
   rw[<-e,ET ha]at this;exact #[dg,Zbu,ha]
  ·rw[ET ha,ET hb]at e
   exact e
def zF [165]:#[a0,aQ,W]=Zez:=by unfold aQ;rw[X7]
def O2.ring [441]:vI (wr W) g (Ao Zoi Zez g):=Cp P.inj P.cl hg #[aX,zF,Zbs]
def O2.ord_le [441]:Ao (wr W) Zez g<=Zez:=by
 have h:=iB (Az P.inj (P.ring hg).2.2) (m:=aQ W) fun x hx=>by
  obtain⟨i,_,rfl⟩:ak:=ZVM;exact ZaJV
 rw[zF]at h;unfold fK at h
 rwa [X7,aQb]at h
abbrev oG [165]:ZM5:=fT Zoi Zez ZuX []
def O2.wrong [102]:(#[kc,cx W,ZaId])/\#[uX,0].Nodup/\(#[kc,cx W,wr W g∈cx W])/\#[a0,cx,W]<=Zez:=by
 have m:∀ g,g∈cx W↔ZaId:=fun g=>by
  unfold cx;rw[YM,Zow];simp
 refine ⟨#[DV,ZYp hg],#[dJ,(#[ad',(jz _)] P.nd)] _,#[DV,(m _).mpr #[nh,P.cl g (ZYp hg).1,(ZYp hg).2 (P.inj _ _ z)]],LP W⟩
def Ir [114][195][207]:fK f g Zcz=fK f g i++[Zq']:=by unfold fK;rw[List.range_succ,Yu];rfl
def KZ [114][195][207]:#[aZ,(fK f g i)]=i:=by unfold fK;rw[X7,aQb]
abbrev AS [318](q:ZYd)[195]:ZYd:=if g∈q.1 then q else (q.1++Zil,q.2++[Zil])
def oj [318]:∀ [409](rs:ZM5),ks.foldl (AS f N) (S,rs)=(S++ZamZ,rs++ZX8)
 | [],S,rs=>ZaX5
 | g::ks,S,rs=>by
  rw[Z3];unfold AS fT
  by_cases h:g∈S
  ·rw[ZcE,ZcE];exact oj f N ks S rs
  ·rw[Zco,Zco]
   have:=oj f N ks ZYG (rs++[Zil]);unfold AS at this;rw[this,List.flatten_cons];simp
abbrev qR [165][207]:ZYd:=#[Op,0].foldl (AS Zoi Zez) ([],[])
def NF [165][162](h:#[a0,cx,W]<=n):(qR W n).2=oG W:=by unfold qR;rw[ZZ h,oj];rfl
def Qw {W:ZdS}{i:Nat}[253](h:#[ah,ZuX[i]?,g]):qR W Zcz=AS Zoi Zez ZaHI g:=by unfold qR;rw[YG,h,YE,aQa];rfl
def Rj [102][207]:#[yE,0].Nodup/\(#[ey,ZyE,x∈cx W])/\(#[ey,ZyE,wr W x∈ZyE])/\#[bc,ZyE,Zez]/\#[bc,#[aHI,0].2,i]:=by
 refine ZZY;have sub:#[ey,ZOo i,x∈cx W]:=#[fZ,Zaea hx];refine gY (vm P.inj w3 w4 ZOp [] sub (fun x h=>by cases h)) ZSj
 have e:qR W i=(#[pB,ZaP0],fT Zoi Zez ZOp []):=by unfold qR;rw[oj];rfl
 rw[e];refine kK a (#[fZ,ZaDs]) Zly (YU (iB a #[fZ,ZaDs]) w4) ?_
 ·refine #[asJ,hx,fun r hr hxr=>?_]
  obtain⟨g,_,rfl,R⟩:az:=d r hr;exact List.mem_flatten.mpr #[c8,hr,xS R.1 R.2.1 hxr]
 ·have:∀ [409],#[bc,(fT Zoi Zez ks S),Ztx]:=by
   intro ks
   induction ks with
   | nil=>intro S;exact Zbs
   | cons g ks ih =>
    intro S;unfold fT;split
    ·exact ZaX6 (ih S)
    ·rw[YF,YF]
     have:=ih (S++fY (wr W) Zez g)
     lia
  have h1:=Zbu (ZOo i) [];rw[YL]at h1
  show #[bc,ZaP0,i]
  lia
inductive Gx [77][8]:Zaa
 | mk [9][58][106](_:#[vC,#[cB,l,#[mU,cx,ZaB]]])
inductive yu [354]:Zaa
 | mk [43][106](_:ZdF)(_:#[fw,ZNn,#[vC,#[cB,l,#[mR,(fY ZjA ZgU g).map]]],ZXg])
inductive J5 [77][8]:Zaa
 | mk [9][58][106](_:#[aQw,oG,ZaB])
def Gm [102]:#[a0,oG,W]<=Zez/\∀ r∈oG W,#[DY,Zez]:=by
 refine ZZY;have h:=Rj P #[a0,cx,W];rw[NF W Zbz]at h;refine#[CF,ZSk];obtain⟨g,hg,rfl,R⟩:az:=((vm P.inj w3 w4 ZuX [] (fun x h=>h) (fun x h=>by cases h)).2.2.2 r hr);rw[Ct];exact Zaeb (w1 g hg).1
#print Wz
namespace L2
open PySem PySem.Spec PyProof.Rows
inductive NL [12]:Zaa
 | mk (p:_)(kvs:_)[379](_:#[CR,(upd H l (.dK kvs))])
def tu [45]:gW X #[ed,Zmj] NL:=by
 intro pins s σ H xs us Q I r h;obtain⟨p,kvs,rfl,hp,q⟩:=h;obtain⟨u,rfl,rx⟩:ak:=ZfH;cases rx;obtain⟨hz,hS,vs,rv,m⟩:ZaQa:=ZF1;have hlen:ZiR:=Yx rv;refine kt_call_dict hS m Zag fun h' hm hs=>?_;have kp:ZaK4:=fun b o' e=>hs.extBut b o' Zld ZnA;have e0:cD ZbC X.w #[qn,Zar] _ Zar ZrS:=uH ZaE I.big;have e1:#[aby,Zar]:=e0.2.1;exact au ZcU _ (#[aPL,ZeK,⟨hz,e1,vs,rv,hm⟩]) rfl Zwn
def Mg [36]:#[aRi,1,1]:=by
 unfold xZ;rw[#[c2,ZiS ZaR 0 (Zab 1)=min 1 ZaR,HT.sIx_nat _ _ 1],HT.sIx_none]
 by_cases h:xs=[]
 ·subst h;rfl
 ·have:0<ZaR:=ZaX8 h
  rw[#[iX,min 1 ZaR=1],ZZ (Zaq5)]
open PySem PySem.Spec PyProof.Rows PySem.Calls
section
variable {X:Cx}{pins:ZdT}{σ:St}{H H':Hp}{s:Shared}
def aS.grown {h':Heap}{t':Nat}(I:ZhY)(k:ZaB9)(old:#[kh,#[k3,Zb0]->ZbW->Zui])(sm:ZaGj)
  (new:#[p2,H',ZbW,#[ia,H',h',b,o]]):Zavf:=by
 refine I.un ⟨Za3S,Za3T,#[Iz,old b u q n],ZabI,#[IA,Zx8],#[abJ,Zx8],fun b ps q=>⟨#[],#[e5,Zx8]⟩⟩ ZzW
 cases hb:H b with
 | none=>exact new b u e hb
 | some v =>
  have:=sm _ _ hb;rw[this]at e;cases e;exact (Zbp b _ hb).stay (ZapW) (fun c q=>Zx8) #[abE,Zx8]
#where
def Q1:#[adu,Zdu,ZaW0]:=ZoV
def OO:#[adu,Zdu,Zac']:=ZoV
noncomputable abbrev OY [130](z TI TO:Addr)(f0:Value)(b:Bool):Zaa :=
 ZcG z=some { cls:=ZSW,dict:=none,data:=ZaL #[f0,ZET,ZfD,ZQw,Zaj TO],slots:=#[] }
section
variable {prog:Program}{w:World}{A:Around}{E:Zfh}{s:Shared}
def ES [54]{Q:#[fg,ZSK]}(h:Q (Zb0 a) s):#[tc,(ZaX9 a)]:=fun Γ p _=>by
 unfold loadIfAlive;rw[Sem.wp_loadIfAlive];exact Yg (M:=Zwv) (A:=A) (E:=E) h Γ p (ZaX_)
def F1 {z TI TO T:Addr}{b:Bool}{o:Obj}{Q:Zasf}(hz:Zah5)(hT:#[rR,T])
  (hQ:#[a3a,Zah6,z,Q Zaz Zkq]):#[tc,#[ha,ZaX',z]]:=by
 unfold Builtin.SmallTypes.ownedTupleIsFree;refine X5 (#[gd,hz,rfl,ZfP T,?_])
 show #[h5,ZaX9 T]
 refine #[k_,ES];rw[hT]
 show #[h5,Zmt #[ak,z] 1]
 refine X5 (#[gd,hz,rfl,ZET,?_])
 cases b with
 | true=>exact X5 (Yg (Yg (hQ _ hz (by exact#[da,fun _ _=>rfl]))))
 | false=>exact X5 (ZJ_ hz ZaN fun h1 hz1 hs1=>Yg (hQ _ hz1 hs1))
#where
abbrev tG [33]:Zcr->ZrU->Hp
 | [],_=>H
 | _,[]=>H
 | ZlT,ZlK=>#[gq,Zss,t,Zvh]
def zB [42]:∀ [182][124],b∉ts->tG H ts ps b=H b
 | [],_,_,_=>rfl
 | ZcX,[],_,_=>rfl
 | ZlT,ZlK,b,h=>by
  show upd Zss t _ b=_
  rw[ah (#[bN,#[eU,h,e,Ye]])];exact zB fun m=>h (Yh _ m)
def Jz [42]:∀ [182][124]{o:HO},ZaYb->b∈ts->tG H ts ps b=Zab o->ZbW->∃ j:Nat,∃ p,#[ah,ts[j]?,b]/\#[ah,ps[j]?,p]/\o=Zbb Zvh
 | [],_,_,_,_,h,_,_=>nomatch h
 | ZcX,[],_,_,_,_,e,n=>by rw[#[CG,tG H (_::_) [],H],n]at e;cases e
 | ZlT,ZlK,b,o,nd,h,e,n=>by
  by_cases hb:b=t
  ·subst hb
   rw[#[aJI,b,#[gq,Zss,b,Zvh]],ac]at e;exact au 0 p rfl rfl (ZXq)
  ·rw[#[aJI,t,#[gq,Zss,t,Zvh]],Zen]at e
   refine da (Jz Zapq ((ZcI h).resolve_left hb) e n) fun j q e1 e2 e3=>?_;exact au (j+1) q e1 e2 e3
def zC [42]:∀ [182],ZaYb->#[BU,Ztz]->Za3 (ZaJ9) ts ps
 | [],[],_,_=>Zao
 | [],ZcX,_,h=>ZgP
 | ZcX,[],_,h=>ZgP
 | ZlT,ZlK,nd,h=>by
  refine ZaD (show upd Zss t ZPs t=_ from ac) ?_;have hn:=ZavY
  have key:ZaTk:=fun {us qs R S} hRS pr=>by
   induction pr with
   | nil=>exact Zao
   | cons r _ ih=>exact ZaOf
  refine key (R:=ZaJ9) (fun u hu q e=>?_) (zC (H:=H) hn.2 Zzn)
  show upd Zss t _ u=_
  rw[#[wm,#[go,hn.1,z,hu]]];exact e
def Kx [299]{v:V}{u r:Value}[34][47][55]{k:cZ}[179][2][178](l:ZvO)(ry:ZZd)(rv:bo v r)(h:#[x3,#[cl,(upd H a (.dK ZqN)),s']]) :
  #[t2,(dictSet a u r)]:=by
 refine ZaiD
 have hz:Zasi:=Za4I
 have hl:ZWV:=ZaaP
 refine #[aOY,wpAny_dictSet_pairs];have he:ZOu:=let ⟨q,_,_,hq,_⟩:=dd';Zr9;exact rh I (by rw[e];exact True.intro) hs he ZaJT
def pN {prog:Program}{w:World}{A:Around}{R:ZlF}{s:Shared}{kx vx target iter:Expr}{ifs:Zbh}{scope:Scope}{pos:Pos}{it:Value}{acc:Addr}{env:Env}(I:ZwW)
  (turn:∀ n s,ZiD->wpAny Ztb A ZA5 (fun r s₁=>match r with
   | none=>Zyx
   | ZjV=>wpAny Ztb A ZZI (fun _ s₁'=>wpAny Ztb A ZZH (fun _ s₂ =>
     wpAny Ztb A (forIn ifs true fun c r=>if ZrB then do let ok <-Zzg;ZNa else ZM') (fun ok s₃ =>
      if ZwN then wpAny Ztb A #[im,kx] (fun kv s₄=>wpAny Ztb A #[im,vx] (fun vv s₅ =>
       Zb3 Ztb A (dictSet acc kv vv) (fun _ s₆=>Zawd) ZA9 s₅) ZA9 s₄) ZA9 s₃
      else ZxP) ZA9 s₂) ZA9 s₁') ZA9 s₁) ZA9 s)
  (n:Nat) (h:ZiD) :
  #[te,(Zmr #[H0,ZI2,ZbL] 0 it ZarJ env)]:=by
 refine ZyK
 show wpAny _ A ((Zz' #[H0,ZI2,ZbL] 0 it ZarJ env).onRaise (fun x=>do ZKc;Zxe)) _ _ s
 refine Zw4;rw[compTurn_dict];refine Zalj
 cases r with
 | none=>exact Zxj
 | some v =>
  refine Zakk;refine ZaYs
  cases ok with
  | false=>exact ZxZ
  | true =>
   exact #[aoA,fun kv s₄ h₄=>#[ayM,fun vv s₅ h₅=>X5 (Zb (YO #[ag1,h₅,fun _ s₆ h₆=>ZawW]))]]
abbrev W5 (tt:TT)(tk tv:TE)[88]:TS:=#[pg,tt,#[sW,#[eY,b,#[lm,tk,ZaN'],ZrW]]]
abbrev TQ [301](tk tv:TE)[97]:TE:=fun σ H Q=>wi σ H fun J H1=>∀ a,ZFs ->
 #[RO,g,(W5 tt tk tv a),ZTp,.dK]
def Gc {X:Cx}{kx vx tg iter:Expr}{ifs:Zbh}{sc so:Scope}{pos:Pos}{N':Zbe}{src:ZBE}{wi:TI}{g:TG}{tt:TT}{tk tv:TE}{N:Zbe}(hso:Zagi)(hXN:Zyd)(S:Zais)(hc:Ze0)(hi:Zsm)
  (hb:#[Rv,ZRH/\ZRI/\PE ZBn kx tk/\PE ZBn vx tv])
  (hs:ZaYl:=by intro _;rfl):PE X #[H0,ZBX,sc] (TQ wi g tt tk tv src):=by
 subst hXN;intro pins s σ H Q I h
 refine az (kG (sc:=sc) (env:=X.env) fun y hy hf=>by
  have:=Zx6;rw[<-hso]at this
  exact ZIO) ZwE
 rw[arm_eval_DictComp];refine ZaWP;obtain⟨it,fp,tn,J,H2,e,I2,T,st2,f2,hR⟩:fR:=h2;subst e;refine Zw3
 have I3:aS X pins σ Zag4 { s2 with heap:=s2.heap.push { cls:=Zmk,dict:=none,data:=Ze4 #[] } } :=
  #[ale,(uH ZsX I2.big)]
 have O_:=Zagv;refine ZyD;obtain⟨m0,w0⟩:=a_
 have flt:ZxN:=Zaiz
 generalize hs3:({ s2 with heap:=s2.heap.push { cls:=Zmk,dict:=none,data:=Ze4 #[] } }:Shared)=s3 at I3 ⊢
 have e3:s3.heap=s2.heap.push { cls:=Zmk,dict:=none,data:=Ze4 #[] }:=ZwF
 have sz3:ZJp:=Zx7
 have t_:#[uN,Zag4]:=ZaiZ
 have Q_:ZJo:=ZyA
 have c5:Zagt:=ZahV
 refine ZV S.nocell (by intro y hy;simp at hy) Zyc S.kind;have kp4:ZBW:=Zx5;have I4:=ZacD;have st4:ZxF:=ZahU;generalize hC:s3.heap.objs.size=C at I4 N_ L_ ⊢;refine gY (hb cl C s3 Zag4 fp) fun hg ht hek hev=>?_
 let Y:Cx:=#[anH,Zag4]
 have loop:∀ s5:Shared,ZacC->codeAny Zt0 X.A (Zmr #[H0,ZBX,sc] 0 Zajf ZuJ ZaWH)
   ZanE s5:=by
  rintro s5 rfl
  have o_:Zaj4:=fun {H'} hn b hb=>by
   refine ZyI;refine Zaik
   ·show Zoz
    rw[<-hC];exact Zym
   ·have z:Znf:=z
    rcases Zyr with y | y
    ·exact f1 y
    ·exact Zxn
  refine #[ww,pN,ZPI,ZDR];intro n s6 a_;obtain⟨i,σ6,H6,I6,st6,fr6,w6⟩:iG:=a_;rcases Zsu with ⟨stop,qn⟩ | ⟨go,Nx,hN,step⟩
  ·refine Zab7
   obtain ⟨hr,I7⟩:=zz;subst hr;refine Zaiw;refine ZakL
   have neC:ZAe:=ZN5
   have freeC:ZxX:=I7.free
   have un:#[ags,Zag4,H6,h'] :=
    ⟨Za21,fun b o e n hb hx=>by
      obtain⟨sl,q⟩:=ZVa
      exact ZWD,I7.base.free,fun b o e hx=>by
      obtain⟨o',q⟩:=ZU9
      exact ZWC,I7.base.tups,I7.base.frzs,I7.base.tbls⟩
   have hok:ZZV:=fun b ob e=>by
    refine ZZO;rintro rfl;rcases hc' with z | z
    ·rw[<-z,freeC]at e;cases e
    ·rw[freeC]at z;cases z
   have J7:Zai8:=Zai9;exact ZaaW
  ·refine Zab9
   obtain ⟨u,hr,h7⟩:=zz;subst hr;refine Zsk;obtain ⟨x,H8,I8,r8,y8,st8,fr8⟩:=zz;have I8':=Zst;refine Zaj8;obtain ⟨σ9,H9,I9,q9⟩:=zz
   have again:Zaj6:=fun [302] I7 n7=>by
    refine ZoZ;refine ZaiX;refine ZaiI;exact Zahr
   refine Zaja;obtain ⟨H10,I10,K_⟩:=zz
   cases ok with
   | false =>
    rw[ZbQ]at K_ ⊢;exact ZtB
   | true =>
    rw[Zav]at K_ ⊢;refine #[P9,hek,fun kv s11 zz=>?_];obtain ⟨y,H11,I11,ry,q11⟩:=zz;refine bD (hev _ s11 σ9 H11 _ I11 q11) fun vv y_ zz=>?_;obtain ⟨z,H12,I12,rz,kvs,kk,hkv,ey,hlen,q12⟩:=zz;subst ey;exact Kx (X:=Y) I12 hkv Zme ry rz fun s13 I13=>ZtA I13 q12
 exact #[alm,codeAny_compStart_dict]
open PySem
def Kd {tk tv:TE}[188](h:tk σ H fun y H2=>ZaN'):W5 EN tk tv a D σ H:=by
 unfold W5 EN;dsimp only;rw[Zav];exact h
#print L2
namespace Wz
open PySem L2
def Jk {f:ZlJ}:∀ {r:Zbf}{i:Nat}[253],(#[ey,ZAa i,f x=Zaz])->#[ah,r[i]?,g]->f g=Zad->r.find? f=Zab g
 | [],_,_,_,h,_=>ZgP
 | Zj1,0,g,_,h,hg=>by simp at h;subst h;rw[Y9,hg]
 | Zj1,i+1,g,h0,h,hg=>by
  rw[Y9,h0 x ZaN];exact Jk (#[kl,h0 y #[aX,List.take_succ_cons,Yh _ hy]]) (Zzm) hg
set_option tactic.hygienic true
def yO:∀ (r ks:Zbf)(y:Int),y∈ZAb ju ks↔y∈ks\/y∈r
 | [],ks,y=>ZaM
 | Zj1,ks,y=>by
  rw[Z3,yO r];unfold ju;split
  ·rename_i h
   constructor
   ·rintro (z | z)
    ·exact ZSN
    ·exact Zaq (Yh _ z)
   ·rintro (z | z)
    ·exact ZSN
    ·rcases Zhp with z | z
     ·rw[z];exact ZoA
     ·exact Zaq z
  ·rw[Yp,Yj,Yn,or_assoc]
set_option tactic.hygienic false
def yN:∀ (r ks:Zbf),#[bc,(ZAb ju ks),Ztx+ZfY]
 | [],ks=>ZaM
 | Zj1,ks=>by
  have:=yN r ZaLn
  have h:#[awa,ZaLn]:=by unfold ju;split<;>simp
  rw[Z3,YF];lia
abbrev qw [213](r:Zbf)[195]:Bool:=(cK (gX circ g)).any fun p=>#[AV,p∈r]
abbrev rH [213](r:Zbf):ZgI:=r.find? #[gR,! qw circ r g]
abbrev Tl:ZgI->V
 | Zab g=>Zu3
 | none=>ZaJ
inductive JZ [77][8]:Zaa
 | mk (p l:Addr)[406][196](L r:Zbf)[454][59](_:#[aK,l,Zq7])(_:#[DY,64])[222](_:#[t',Q (Tl (rH Zbo r)) H'])
def Mh [36][38]:#[aRi,Zcg,n]:=by
 unfold xZ;rw[HT.sIx_nat,HT.sIx_none]
 by_cases h:n<=ZaR
 ·rw[Z6 h,#[eU,ZZ,YH,Zbs]]
 ·rw[Za0s,List.drop_length,#[cQ,ZaYc]];simp
inductive TL [77](f:eD->Zbf->ZbB)[8]:Zaa
 | mk [9][184][58][106][222](_:#[aQw,#[dJ,(oG ZaB)],fun r=>f st r])
abbrev CN [77]:Sp:=TL c fun st r=>(rH Zbo r).isNone
#print Wz
namespace L2
open PySem PySem.Spec PyProof.Rows
inductive QM [377]:Zaa
 | mk [271](_:#[fG,ns.sum])
def Kt [45][131]:#[FQ,"sum",QM]:=by
 intro pins s σ H xs us Q I r h;obtain⟨p,ns,rfl,hq,q⟩:=h;obtain⟨u,rfl,rx⟩:ak:=ZfH;cases rx;refine ZUR;have hl:=rv.length;rw[X7]at hl;refine #[aqo,call_sum_walkG,ZhI Zaw]
 have val:∀ [207][283],#[np,ZzO]->∃ t,v=Zae (Zadb i 0) t:=fun i v e=>by
  have e:Zau9:=Zy3
  have hi:i<ZfL:=#[i2,#[pc,e]]
  refine ak (ZzR (i:=i) (x:=Zaw ns[i]) (#[nW,Yi hi])) ZQn;rw[e]at eu;cases eu;obtain⟨t,rfl⟩:=ru;exact⟨t,#[cL,Zm,Yi hi]⟩
 have q_:#[dc,p]:=by obtain⟨o,n,e,_⟩:bU:=pl;exact ZcD
 refine #[aqE,(Zadc),⟨Znx,val,fun h' tk t' k=>au ZarQ H Zap_ #[jG,t'] ?_⟩]
 ·rcases ZcI hb with z | z
  ·rw[z,hI,S_];exact aQg _
  ·rw[ZdO,S_];exact Zo q_
 ·rw[preSum_getD,<-hl,YJ];exact q
#print L2
namespace Wz
open PySem L2
def Pd [36]:xZ xs Zac (Zab (-1))=xs.dropLast:=by
 unfold xZ;rw[HT.sIx_none,List.drop_zero,Nat.sub_zero,List.dropLast_eq_take]
 congr 1
 unfold HT.sIx;dsimp only;rw[ZT0]
 lia
#print Wz
namespace L2
open PySem PySem.Spec PyProof.Rows
def zf:#[ah,entryFor table "dict_itemiterator.__iter__",Builtin.«dict_keyiterator.__iter__»]:=entryFor_alias (id':="dict_keyiterator.__iter__") ZadW rfl Zb7 ZadW
def yh [133][47][266]{it:Addr}[431](hT:#[Ke,it,ZI4])(h:ZaBw):#[tc,#[ha,Ztw,it]]:=by
 refine wpAny_pyIter_slot hT ZaYd (ZD ZaYd hT zf ?go (PySem.F.args_dict_itemiterator_iter_1 _))
 case go =>
  unfold Builtin.«dict_keyiterator.__iter__»;exact Yg #[c',ZI4,#[ce,hT,PySem.F.slot_dict_itemiterator_next.lookup,h]]
abbrev Uz [407][240]:It :=
 #[aM2,fun i H y H'=>∃ T p,Zwp/\ZOS/\y=Zaj T/\H'=#[gq,H,T,ZZe]]
def IQ [166][108] :
  #[rh,Zap2,ZxS,∃ ok ov,IsItemIter h it d i ZcK ep ok ov] where
 mem:=ZaM
 obj:=fun i h st b hb=>by
  have e:Zid:=ZbZ
  subst e;obtain⟨ok,ov,e⟩:=st;exact ⟨_,e,(fun v z=>by cases z)⟩
 keep:=fun i h h' st k=>by
  obtain⟨ok,ov,e⟩:=st;exact ⟨ok,ov,(k it ZaN _ e)⟩
 item:=by
  intro X hP hw hK hc i pins s σ H E I hf st hg;subst hP hw hK;obtain⟨hH,hi⟩:=hg;obtain⟨lo,vs,rel,hat⟩:=ZaKD;obtain⟨f0,f1,f2,f3,f4,f5⟩:=ZHN;have hl:ZiR:=ZlH;obtain⟨p,hp⟩:Zarp:=⟨kvs[i],ZJ4⟩;obtain⟨q,hq,ek,rv⟩:=Wz.paired_get rel hp;obtain⟨k,v⟩:=q;have ek:Zj7:=ek;have rv:bo p.2 v:=rv;obtain⟨ok,ov,st⟩:=st;rw[hl]at st;have lti:ZTY:=Yf st;refine #[aO0,wpAny_pyNext_items_item,fun key h' hk out hT hsz keep=>ZYS];refine wpAny_letOwnedTupleGo_items (s:=Zkq) out fun h2 st2 sb2=>?_
  have rk:bo (kV p.1) key:=by
   rw[ek];rcases ZaNR with ⟨j,t,ej,ev⟩ | ⟨j,t,ej,ev⟩
   ·subst ej;exact ZxM
   ·subst ej;exact ZxM
  have O_:ZEx:=ZxA
  have IL:aS X pins σ #[k9,Zar,ZZe] { s with heap:=s.heap.push { cls:=ZfX,data:=ZaT #[key,v] },toks:=s.toks } :=
   #[alV,key,v,rk,rv]
  have I2:=IL.turned (t':=s.toks) (h':=h2) (it:=it) (fun b o n1 q=>by
   refine Zaab
   show Zd9
   by_cases hb:ZTc
   ·subst hb
    have q:(s.heap.push { cls:=ZfX,data:=ZaT #[key,v] }).get? s.heap.objs.size=ZeZ:=q;rw[Zd0]at q;cases q;exact hT
   ·have q:(s.heap.push { cls:=ZfX,data:=ZaT #[key,v] }).get? b=ZeZ:=q
    refine Zcs b o n1 ?_;rw[ZZl]at q
    exact q) #[aX,ah (Yo lti),f0] f1 f3 f4 f5
  refine #[aqp,(bS Zar p hp O_ rfl rfl),#[c8,_,#[aX,hl,st2]]]
  have hb':Zid:=ZbZ
  subst hb';rw[ah (Yo lti)];exact f0
 done:=by
  intro X hP hw hK hc i pins s σ H E I hf st hg;subst hP hw hK;obtain⟨hH,hi⟩:=hg;obtain⟨lo,vs,rel,hat⟩:=ZaKD;have hl:ZiR:=ZlH;obtain⟨f0,f1,f2,f3,f4,f5⟩:=ZHN;obtain⟨ok,ov,st⟩:=st;rw[hl]at st;exact #[a2F,wpAny_pyNext_items_end]
 self:=fun _ _ _ _ _ st h=>by
  obtain⟨ok,ov,e⟩:=st;exact yh ZQN h
abbrev SC (tl:TE):TI:=#[aQo,ZxS]
def Ny [45]{elts:Zbh}{kk}{aq1:Pos}{l:Expr}{apos i_:Pos}[111](D_:#[aVw,l,"items",l,#[mV,l]]:=by rfl)(aq0:Zsl:=by rfl) :
  PI X #[Jc,elts] #[jB,#[yQ,l,"items"],[]] (SC tl):=by
 intro pins s σ H R I h;refine wpAny_Call_method0_late D_ aq0 #[Bi,hl,Zib];obtain ⟨x,H1,I1,r1,q1⟩:=zz;obtain⟨d,kvs,e,hH,q⟩:da:=q1;subst e;cases r1;refine ZaQG;obtain⟨ep,hat⟩:=dd.dictAt;refine ZaKd;have m_:ZiR:=ZlH;refine #[anh,(Zal ⟨kvs,Rd.of hH⟩)];refine f8 Zmj "dict.items" ZX ZaYe PySem.F.type_dict_items t1 t2 (Zs rfl (PySem.evalArgs_none ?_));refine Zaec ZaYe t1 PySem.F.entry_dict_items (PySem.F.args_dict_items_1 _) (meets_dict_items Zt3 d lo) #[bF,⟨vs,dd⟩];have I2:ZaJe:=ZaTE;have hV:(s1.heap.push { cls:=ZEy,data:=ZaL #[Zv3] }).IsItemsView s1.heap.objs.size d:=ZvQ;refine wpAny_pyIter_items (s:={ s1 with heap:=s1.heap.push { cls:=ZEy,data:=ZaL #[Zv3] } }) (knd:=ZqY) hV #[Ao,hat.at,ZkY] ?_;have sz:(s1.heap.push { cls:=ZEy,data:=ZaL #[Zv3] }).objs.size=ZSD:=ZD7;refine eJ _ [_] _ _ _ rfl #[agq,ZadS,Zals] #[aTq,IQ] #[c8,_,#[aX,m_,Zd0]] Zp5 (q o)
 ·rw[bk7]at e;cases e;rfl
 ·have e:b=(s1.heap.push { cls:=ZEy,data:=ZaL #[Zv3] }).objs.size:=ZbZ
  rw[e,sz];exact ZaKe
def KM {d:Addr}{o:Obj}{kvs:ZdU}{g:TG}{tb:TS}{D:kA}{σ:St}{H:Hp}(Pv:ZiC)(h0:Zj2)(hl:ZaHy)
  (hs:∀ i p σ H T,#[aqe,Zwp,#[k9,T,ZZe]]) (hd:ZawD) :
  ∃ W:Zhu,ZiA/\∀ i m σ H,Zhr ->
   #[ah1,ZxS,ZxS,ZxS]:=by
 refine ZaMI;intro i m σ H a_;obtain⟨rfl,hi,p⟩:fz:=a_;have q:=Zsr
 by_cases q_:ZQC
 ·refine ZaHx
  obtain⟨T,p2,hp,hT,ex,e⟩:cg:=y;subst e ex;exact hs i p2 σ _ T hp p hT
 ·have e:Zaub:=Zaf
  subst e;exact Zaw'
def JQ {X:Cx}{pos:Pos}(K:ge){es:Zbh}{k:Nat}{t:OT}{n:Nat}(hc:Ze0)(h:ZazJ)(hK:ZoU:=by rfl)
  (hn:ZaFL:=by rfl) (hst:Zaq0 (·.1)=none:=by rfl):#[aPT,(UU K n t)]:=by
 subst hK;exact jH hc h hn hst
#print L2
namespace Wz
open PySem L2
def iH [406]:bh A=[#[E',Zky,A.w],#[E',Zi0,A.h],#[E',ZhN,A.c],#[E',ZhM,A.d]]:=by
 unfold bh;simp only[dE,X8 s1,X8 s2,X8 s3,X8 s4,X8 s5,X8 s6]
def Tz [406][280]:#[Ie,Zky,{ A with w:=l }]:=by
 rw[iH,iH];simp only[dE,ZQ]
def Tx [406][280]:#[Ie,Zi0,{ A with h:=l }]:=by
 rw[iH,iH];simp only[dE,X8 s1,ZQ]
def Tv [406][280]:#[Ie,ZhN,{ A with c:=l }]:=by
 rw[iH,iH];simp only[dE,X8 s2,X8 s4,ZQ]
def Tw [406][280]:#[Ie,ZhM,{ A with d:=l }]:=by
 rw[iH,iH];simp only[dE,X8 s3,X8 s5,X8 s6,ZQ]
def DA [406]:#[a0,bh,A]<ZbY:=#[Ec,iH,4]
def UV [406][434]:bh { A with cs:=cs }=bh A:=#[b1,iH,iH]
def Kv:∀ [28]{i:Nat}{p:cZ×V},ZaYf=ZJ2->#[ah,Zsp[i]?,p]->∃ a x,#[ah,cs[i]?,a]/\#[dA,ci[i]?]/\p=ZaDw:=by
 intro cs
 induction cs with
 | nil=>
  intro ci i p e h
  cases ci with
  | nil=>simp[dR]at h
  | cons y ci=>cases e
 | cons c cs ih=>
  intro ci i p e h
  cases ci with
  | nil=>cases e
  | cons y ci=>
   cases i with
   | zero=>exact⟨c,y,rfl,rfl,#[js,h]⟩
   | succ i=>
    obtain⟨a,x,h1,h2,h3⟩:=ih (ZaYh e) h;exact⟨a,x,h1,h2,h3⟩
def Fe:∀ [28][253],g∉ci.map (·.1)->d6 Zsp ZBR=Zac
 | [],_,g,_=>by cases ‹Zgy›<;>rfl
 | ZxT,[],g,_=>rfl
 | ZxT,y::ci,g,h=>by
  rw[Ys,Yn]at h
  show d6 ((#[ee,y.1],ZaS c)::ZXS) ZBR=Zac
  rw[fZ (#[aV,h (Zal Zavv)])];exact Fe #[jC,h,Zaq]
inductive Oh [369]:Zaa
 | mk [435](_:(st.circ.map (·.1)).Nodup)(_:ZaxL)(_:∀ (q:Addr)(B:HA)(H':Hp),Zod->aM C H' q B st->(∀ b∈B.fp,ZbW)->Zcw->Q ZwK H')
def Gn {HH:Hp}{q t:Addr}{ds:Zcr}{ps:ZdS}[211](h1:#[ei,q,#[nc,ZadQ]])(h2:Za3 (fun b (e:Zhq)=>HH b=Zab #[dz,#[bP,e.1,e.2]]) ds ps)(ht:HH t=Zac) :
  fU #[qw,(upd HH t (Zbb ZGQ)),q,ZadQ ZaS,ZaS t] q (ps++[ZfA]):=by
 refine #[br,ds++[t],(ZN7)];exact cJ (Paired.mapP h2 fun b e y=>by rw[ah (jR y h1 (by intro u;cases u))];exact (ag ht) _ _ y) #[fz,#[g',ah ((ao h1 ht).symm),ac]]
#print Wz
namespace L2
open PySem
def dJ.m {j k:Nat}[325](h:j<=k:=by decide):dJ j A:=r.mono h
def dv [45][220](hs:ZHo:=by rfl):PA X [e] (nu t q8):=aj h aV hs
def fW [45]{e e2:Expr}{t t2:TE}[370](hs:#[m7,[e,e2],ZmX,[e2]]:=by rfl)(S_:#[m7,[e2],#[mW,e2],[]]:=by rfl):#[aMB,[e,e2],q8]:=aj h (aj h2 aV S_) hs
def BC [45]{e e2 e3:Expr}{t t2 t3:TE}[370](h3:PE X e3 t3)(hs:#[m7,ZaHc,ZmX,[e2,e3]]:=by rfl)(S_:#[m7,[e2,e3],#[mW,e2],[e3]]:=by rfl)(hs3:#[m7,[e3],#[mW,e3],[]]:=by rfl):#[aMB,ZaHc,(nu t3 q8)]:=aj h (aj h2 (aj h3 aV hs3) S_) hs
def bZ [45][65][207][425][230]{pos':Pos}(hN:X.N.Nodup)[119][98][122] :
  ZaJM:=tP hN hi hx he hs hf
def iW [45][65][207][425](hN:X.N.Nodup)[98][7]:ZaIl:=Qm hN hi hx hf
def Dg {so sc:Scope}{N N':Zbe}{src:ZBE}(a:ZsN:=by rfl)(b:Za26:=by decide +kernel)(c:Za24:=by decide +kernel)(d:Za29:=by decide +kernel)(e:N'.Nodup:=by decide +kernel)(f:ZaWN:=by rfl)
  (g:∀ p∈ZG6,(match p.2 with | none=>true | ZwI=>ZaaR)=true:=by decide +kernel):Zais:=#[aaI,d]
def fj {N P:Zbe}[399](a:ZsN:=by rfl)(b:ZWg:=by rfl)(c:ZWh:=by rfl)(d:N.Nodup:=by decide +kernel)(e:ZaLu:=by rfl)(f:Zaq8:=by decide +kernel)(g:Za27:=by decide +kernel):aw N P sc:=#[aaI,d]
#print L2
namespace Wz
open PySem L2
abbrev aZ [37][206][347]:Zaa:=#[aed,#[Mo,x]=Zab ZCt/\#[am,x,x,st]]
def fact_mk {K:ge}{x:Str}{st:Stmt}{f:Addr}{oc:Value}{od an:ZgH}{osl:ZoX}{kV doc pm h_ ct:Value}(a:ZYE)(l:#[ajY,#[aht,x,x]])
  (c:#[P3,x]) (k:Za2O):Zyi:=#[fE,f,a,MA l c k]
abbrev cE [37][35](m q:Str)[347]:Zaa:=#[are,Za2l,Zyj,Zapr]
def mfact_mk {K:ge}{C:Addr}{m q:Str}{st:Stmt}{f:Addr}{oc:Value}{od an:ZgH}{osl:ZoX}{kV doc pm h_ ct:Value}(a:Za2l)(i:Zyj)(l:#[ajY,Zapw])
  (c:#[P3,q]) (k:Za2O):Zaaj:=au f _ a i (MA l c k)
section
variable {P:Program}{w:World}{K:ge}{h base:Heap}{mg:Zm5}{x m q:Str}{st:Stmt}{k:Nat}{ps:Zbe}{sp:Sp}{C:Addr}{CX:wQ}
def GP [162]{P:Zat'}(h:∀ (a:Value)(vs:ZbS),ZiQ=n->P (a::vs)):#[aI_,n+1]
 | a::vs,e=>h a vs (ZaYh e)
def GO {P:Zat'}(h:P []):#[aI_,0]
 | [],_=>h
def U7 (X:ZoB)(G:Zr8)(F:Zyi)(ok:ZaAi)
  (hb:ZaVF:=by intro _ _ _ _ _ _;(repeat refine ZMX);exact Zd3):ZaPD:=by
 obtain⟨f,fd,a,g⟩:bU:=F;exact ZaAQ
def V0 (X:ZoB)(G:Zr8)(F:Zyi)(ok:ZaAh)
  (hb:ZaVF:=by intro _ _ _ _ _ _;(repeat refine ZMX);exact Zd3):ZaPw:=by
 obtain⟨f,fd,a,g⟩:bU:=F;exact ZaAQ
def Ur (F:Zaaj)(ok:ZaHf)
  (hb:ZaVG:=by intro _ _ _ _ _ _;(repeat refine ZMX);exact Zd3):ZaSl:=by
 obtain⟨f,fd,a,i,g⟩:da:=F;exact ZaRo
#where
structure Bs [68][13](base h:Heap):Zaa where
 X:ZoB
 G:Zr8
section
variable {P:Program}{w:World}{K:ge}{h base:Heap}{mg:Zm5}{x m q:Str}{st:Stmt}{k:Nat}{ps:Zbe}{sp:Sp}{C:Addr}{CX:wQ}(z:#[wo,Bs,h])
include z
def nc (F:Zyi)(ok:ZaAi)
  (hb:ZaVF:=by intro _ _ _ _ _ _;(repeat refine ZMX);exact Zd3):ZaPD:=by
 obtain⟨f,fd,a,g⟩:bU:=F;exact ZaNI
def kN (F:Zyi)(ok:ZaAh)
  (hb:ZaVF:=by intro _ _ _ _ _ _;(repeat refine ZMX);exact Zd3):ZaPw:=by
 obtain⟨f,fd,a,g⟩:bU:=F;exact ZaNI
def jF (F:Zaaj)(ok:ZaHf)
  (hb:ZaVG:=by intro _ _ _ _ _ _;(repeat refine ZMX);exact Zd3):ZaSl:=by
 obtain⟨f,fd,a,i,g⟩:da:=F;exact ZaRo
#where
#print Wz
namespace L2
open PySem PySem.Spec PyProof.Rows
def Qp [45]{tg:Expr}[37]{l:Expr}[111](hK:ZoU:=by rfl):PI X tg l (U0 K tl):=by subst hK;exact Au hl
def Ws {so sc:Scope}{N N':Zbe}{src:ZBE}(a:ZsN:=by rfl)(b:Za26:=by decide +kernel)(c:Za24:=by decide +kernel)(d:Za27:=by decide +kernel)(e:N'.Nodup:=by decide +kernel)(f:ZaWN:=by rfl)
  (g:∀ p∈ZG6,(match p.2 with | none=>true | ZwI=>ZaaR)=true:=by decide +kernel):Zais:=#[aaI,fun y hy z=>#[nN,(d y hy)]]
#print L2
namespace Wz
open PySem L2
abbrev mr [195]:Str:=ZfU (ZJV g)
abbrev OJ (d:bY):Zbe:=ZaOS
abbrev sE (d:bY):Str:=ZaYi (ZfU " ") (OJ d)
#print Wz
namespace PySem
open Sem (wp)
section
variable {M:Model}{A:Around}{E:Zfh}{s:Shared}{env:Env}
abbrev vL (M:Model)(A:Around)[48](use:ZYC)[426](acc:Value)[35](fr:ZgH)(r:Result)[118]:Zaa :=
 match r,use with
 | ZwQ,none=>∃ m,Zayd/\∀ h',#[a2',C,Zb']->Q acc ZSh
 | ZwQ,ZSw=>Zb3 M A (u acc) (fun _ s''=>∃ m,s''.heap.Ns C m/\∀ h',#[a2',C,s''.heap]->Q Zan { s'' with heap:=h' }) E s'
 | ZzQ x,_=>∃ m,Zayd/\∀ h',#[a2',C,Zb']->∀ cenv:Env,Zaee=fr->wpAny M A (passOn "comprehension.variables-let-go" x cenv:Zk') ZA9 E ZSh
def lJ {ex:Expr}{sp:Scope}{at_:Pos}{mk fst:Zk'}{c0:Comprehension}{cr:Zbd Comprehension}{cells:Zjh}{out:ZYC}{Goal:Zfh}
  (k1:clausesOf ex=c0::cr) (k2:∀ y,ZaYj c0.iter env y=Zb2 y) (k3:#[a4f,sp,cells]) (k4:sp.kind=ZsM) (k5:∀ y∈sp.names,#[aps,sp.names.lookup])
  (go:wpAny M A fst (fun v a1=>wpAny M A Zawt (fun i a2=>wpAny M A mk (fun l a3=>wpAny M A (newFunctionEnv sp env.globals cells [] env.qual Zac Zan #[cx,env]) (fun blk a4 =>
   Zl' M A (Zad4 ex 0 i l ZaK_) (vL M A E out Goal l Zaef ZaYm) a4) E a3) E a2) E a1) E s) :
  #[fl,M,(ZaYn ex sp env at_ mk Zaz fst out),Goal]:=by
 have same:∀ (P:Zfh)[283](t:Shared),P v t->P v t:=fun _ _ _ p=>p;unfold comprehension;rw[k3,k1];refine ZbX;refine #[ya,go];intro v a1 go1;refine ZbX;refine Zb ?_;refine ZbX;refine ZJ5 (k2 v) ?_;refine ZbX;refine ZoD;refine #[ya,go1];intro i a2 go2;refine wpAny_standIf ?_;refine ZbX;refine #[ya,go2];intro l a3 go3;refine ZbX;refine Zog;refine ZbX;refine #[ya,go3];intro blk a4 go4;dsimp only
 let B:Env:=ZaK_
 let vs:=(sp.names.filter #[gO,(y.2 == Zmc||y.2 == Ze')&&y.1 != #[dj,".0"]]).reverse
 have bz1:∀ y∈vs,ZaCA:=by
  intro y my ly;exact lookup_relabel_local (k5 y (Zl3 (ZaYp my)).1 ly)
 have cz8:∀ y∈vs.drop 1++vs.take 1,ZaCA:=by
  intro y my;exact bz1 y ((Zd_ my).elim ZaYq Zaea)
 refine ZoD;refine ZbX;refine ZJ' ?_;refine ZoD;refine wpAny_run ?_;refine Ze go4 ?_;intro r a5 post
 match r,out,post with
 | ZwQ,none,⟨m,ns,fin⟩ =>
  refine ZbX;refine ZoD;exact #[abk,a5,bz1,ZaM5]
 | ZwQ,ZwJ,post =>
  refine ZbX;refine Zaeg ?_;refine ZbX;refine ZoD;refine #[ya,post];intro _ a6 a_;obtain⟨m,ns,fin⟩:ak:=a_;exact X5 (#[abk,a6,cz8,ZaM5])
 | Zasu,o,post =>
  have bv5:∃ m,a5.heap.Ns Zaef m/\∀ h',#[a2',Zaef,a5.heap]->∀ c:Env,c.frame=ZaYm->wpAny M A (passOn "comprehension.variables-let-go" e c:Zk') ZA9 E { a5 with heap:=h' }:=by cases o<;>exact post
  obtain⟨m,ns,fin⟩:ak:=bv5;refine ZbX;refine ZoD;exact #[abk,a5,bz1,YA (fin h' sb _ rfl) (fun _ _ no=>no.elim) (same E)]
#where
#print PySem
namespace L2
open PySem PySem.Spec PyProof.Rows
def pO {prog:Program}{w:World}{A:Around}{R:ZlF}{E:Zfh}{s:Shared}{elt target iter:Expr}{ifs:Zbh}{scope:Scope}{pos:Pos}{it acc:Value}{env:Env}
  (hE:∀ x s',E x s'->Zad3 Ztb A env (ZaD_) x s') (I:ZwW)
  (turn:∀ n s,ZiD->wpAny Ztb A ZA5 (fun r s₁=>match r with
   | none=>Zyx
   | ZjV=>wpAny Ztb A ZZI (fun _ s₁'=>wpAny Ztb A ZZH (fun _ s₂ =>
     wpAny Ztb A (forIn ifs true fun c r=>if ZrB then do let ok <-Zzg;ZNa else ZM') (fun ok s₃ =>
      if ZwN then wpAny Ztb A ZVh (fun x s₄ =>
       #[Gj,ZaoT,Zao6,s₄]) E s₃
      else ZxP) E s₂) E s₁') E s₁) E s)
  (n:Nat) (h:ZiD) :
  ZaGy:=by
 refine ZyK
 show wpAny _ A (ZaD1 (fun x=>do ZKc;Zxe)) _ _ s
 refine Zw4;refine YA (E:=E) ?_ (#[iW,h]) hE;rw[compTurn_list];refine #[vd,(YA Zali (Zaki) Zrr)]
 cases r with
 | none=>exact Zxj
 | some v =>
  refine X5 (YA h₁ (Zakj) Zrr);refine X5 (YA h₁' (#[aYr,X5 (YA h₂ (Zakl) Zrr)]) Zrr)
  cases ok with
  | false=>exact ZxZ
  | true =>
   exact X5 (X5 (YA h₃ (#[ad2,X5 (YA h₄ (Zao7) Zrr)]) Zrr))
section
variable {M:Model}{A:Around}{E:Zfh}{s:Shared}{B:Heap}{env:Env}{outer:ZbA}{L e:Addr}{od:ZgH}{c:Value}
def Py {l:ZbA}{fl:Value}{Q:Zfi}(hk:Zy0)(hl:#[aci,l])(ht:ZaBU)
  (h:∀ g,Zy1->Za3C->ZXa->ZCn->ZB7):#[amb,#[cx,L]]:=by
 obtain⟨oe,us,T,oT,ts,he,hc,hd,h1,nT,ne,hT,dT,h3⟩:bf:=ht;have z3:ZaDd:=ZWX;have ot:∀ b,ZC1->(s.heap.update T (Obj.mapFields (·.setIfInBounds 3 #[aLq,Zab L]))).get? b=ZTi:=ZYs
 have nr:ZamP:=fun b o q nf z=>by
  rw[z,hT]at q;cases q;exact ZZD
 unfold setFlight;refine ZyG;rw[ZakB];refine aQe hT dT z3 (h _ (fun b o q=>(ot b fun z=>by rw[z,nT]at q;cases q).trans ZF3) Zamp ?_ ZaK8);exact ZaT8
def Lo {α:ZfK}{l:ZbA}{cenv:Env}{cx8:String}{Q:Zase}(hf:Zaee=Zab L)(hh:ZaCh)
  (hq:∀ g,yF B l e c od L g->ZCn->E #[ak,e] ZBM):#[jx,(PySem.passOn cx8 ZPn cenv:Sem α)]:=by
 obtain⟨f1,f2,f3,f4⟩:gY:=hh;have f4':=f4;obtain⟨oe,us,T,oT,ts,he,hc,hd,h1,nT,ne,hT,dT,h3⟩:bf:=f4';unfold PySem.passOn;refine ZyG;rw[X8 (#[Ka,¬(#[aoq,#[uA,T]])])];rw[hf];refine X5 (Py f1 f3 f4 Zadk);exact ZaYt (hq g ⟨a1,f2,a2,a3⟩ a4)
def Dy {Q:Zfi}(hf:ZoS)(fl:yF B Zni e c od L ZaE)
  (hq:ZaH4):Zagy:=by
 obtain⟨f1,f2,f3,f4⟩:gY:=fl;have f4':=f4;obtain⟨oe,us,T,oT,ts,he,hc,hd,h1,nT,ne,hT,dT,h3⟩:bf:=f4';unfold leaving noteFrame;simp only[hf];refine X5 (X5 (YV he hd h1 ?_));rw[ZakB];refine ZaMT;rw[#[akA,#[h9,ZDq,ZDq]]];refine Zog;exact uM f1 f3 f4 #[aXg,b4]
#where
abbrev LV [81](E:XK):Zaa:=∀ [430][255],ZhY->yF B Zc1 ea Zfv od Zcj ZaE ->
 (#[p2,Zo7,b∉Zne,Zun])->(ZWo)->ZaIJ->ZaLU
section
variable {P:Program}{w:World}{K:ge}{mg:Zm5}{base:Heap}{N:Zbe}{qual:Str}{sc:Scope}{f:Addr}{cd:Value}{A:Around}{outer:ZbA}{s0:Shared}{H0:Hp}{E:XK}
def PF:LV (ZuI) E:=by
 intro pins σ H s ea C od B I hh s0B trB hE
 let X:Cx:=ZuI
 show Zagx
 have frS:ZH4:=by unfold gT;rfl
 refine Dy (L:=Zcj) rfl hh fun h2 fl ups=>?_;have ltl:ZakF:=Zyz
 have h0B:ZGX:=fun b o e hf=>s0B b o e (by
  show ZQJ
  rw[frS];intro z;rcases Zhp with z | z
  ·exact Zsa
  ·exact ZrF)
 have aq8:Zakr:=ZNx
 have v_:Zakt:=fun b o hf e n=>by
  obtain⟨sl,e1⟩:=ZaHS;refine Zakn
  have e2:o2=o:=by
   have:ZGL:=ho2;rw[e]at this;exact ZnD
  subst e2;obtain⟨sl2,e3⟩:=Zx_;exact ZxW
 refine #[aSF,hh.1];refine #[aQl,hh.1]
 ·exact ZDw
 ·obtain⟨sl,q⟩:=ZGW
  exact Zgv
#where
abbrev C0 [81](s3:Shared)(H3:Hp)[324][35](E:XK)[326]:Zaa :=
 ∃ (ea K:Addr)(od:ZgH)(H':Hp)(B:Heap),ZaFq/\#[DF,#[ak,K],Zb']/\#[ags,H3,H',Zb']/\ZajQ/\ZJd=s3.os/\Zagl /\
  (#[aN5,Zun])/\(ZWp)/\(∃ m,B.Ns C m)/\H' C=Zac/\#[kS,K,od]
def Ln [45][399]{cl:Zjh}[186]{N':Zbe}{s3:Shared}{H3:Hp}[109]{E:XK}(hC:ZYn) :
  fE Zv9 (#[Bm,C,s3,H3,fp].tried [] #[aqw,H3]) E:=by
 intro pins σ H s e s' I hc;obtain⟨ea,K,od,H',B,rfl,fl,un,hok,os,bare,hsB,trB,hE⟩:bf:=hc;have b0:#[ags,H3,H,ZaE]:=I.base;have frC:#[a_,C]:=I.free;refine Zawx;have hn:Zaei C m:=hn;refine im (id hn) #[aYu,?_];have eC':ZtC C=Zab oC:=Zaej C oC eC frC hC ZaN;refine bQ ea K od H' B rfl fl (b0.trans (un.mono (fun _ h=>h) fun _ h=>#[v',h])) hok Zapc Zma (fun b o e h1 h2=>?_) trB ⟨#[bF,m],un.free C oC eC frC ZaN,hE⟩
 ·obtain⟨o',e'⟩:=b0.there b o e h2
  exact hsB b o' e' h1
 ·obtain⟨o',e'⟩:=hsB C oC eC hC
  have:=ZjI C o' e';rw[eC']at this;cases this;exact oq oC es ep e' r
def HJ {X:Cx}{pins:ZdT}{σ:St}{sc:Scope}{cl:Zjh}{C:Addr}{s3:Shared}{H3:Hp}{fp:Zcr}{E:XK}{use:ZYC}{Q:Zfh}{acc:Value}
  (hst:ZsL) (O_:Zsh) (hex:Zr2) (hH:LV X E) (I3:#[cl,H3,s3]) (t_:#[uN,H3]) (hC:ZawO) (hCs:ZYn) (x:Value) (s':Shared)
  (h:C0 X s3 H3 fp C E x s'):Zad3 Zt0 X.A ZaWH (fun x s'=>vL Zt0 X.A ZgL use Q acc C ZaWI (ZzQ x) s') x s':=by
 obtain⟨ea,K,od,H',B,rfl,fl,un,hok,os,bare,hsB,trB,b_⟩:bf:=h;obtain⟨c_,fC,hE⟩:fz:=b_;obtain⟨m,hm⟩:=c_;have eqn:ZKb ZEk ZaWH=ZKb ZEk ZaG:=rfl;unfold notedBy;rw[eqn];have fl':=fl;rw[hst]at fl';refine #[aqa,I3.ok.frames,fun g held ups=>?_];rw[<-hst]at held;refine im (id hm) #[aYu,?_]
 have post:∃ m,g.Ns C m/\∀ h',#[a2',C,g]->∀ cenv:Env,Zaee=ZaWI->wpAny Zt0 X.A (PySem.passOn "comprehension.variables-let-go" ZEk cenv:Zk') ZA9 X.xe ZSh:=by
  refine #[bm,m,oq oC es ep (held.1 C oC eC) r,fun h' M_ cenv hcf=>?_]
  let B':Heap:=ZID B [C]
  have toB:#[g2,ZAc,#[a4,Zpw]/\Zoz]:=fun b o e=>⟨#[aUo,e],fun z=>by
   rw[z,ZIE [C] ZaN]at e;cases e⟩
  have inB:#[p2,Zpw,b≠C,#[a4,ZAc]]:=#[pC,#[Y7,(by simpa using n)]];have A_:ZaYv h':=#[ct,(M_.2 b #[cA,toB].2).trans (held.1 b o ZawK)]
  have neC:#[avj,Zoz]:=fun b e z=>by rw[z,eC]at e;cases e
  have noB:#[avj,#[g3,ZAc]]:=fun b e=>by
   cases q:ZAc b with
   | none=>rfl
   | some o=>rw[#[qK,toB].1]at e;cases e
  have cx2:yF B' Zc1 ea #[ak,K] od Zcj h':=by
   obtain⟨f1,f2,f3,oe,us,T,oT,ts,he,hc,hd,h1,nT,ne,hT,dT,h3⟩:=held;refine ⟨A_,noB _ f2,?_,⟨oe,us,T,oT,ts,(M_.2 _ (neC _ f2)).trans he,hc,hd,h1,noB _ nT,ne,(M_.2 _ (neC _ nT)).trans hT,dT,h3⟩⟩
   have all:∀ (l:ZbA),Za3C->h'.FunFrames B' l:=fun l=>by
    induction l with
    | nil=>exact #[dL,Zs_]
    | cons env r ih=>exact fun ⟨hk,⟨L,o,hf,hn,ho,hd⟩,hr⟩=>⟨hk,bS L o hf (noB _ hn) ((M_.2 _ (neC _ hn)).trans ho) hd,ih hr⟩
   exact all _ f3
  refine Lo (L:=Zcj) #[aX,hcf,O_] cx2 fun g2 az5 aj7=>?_
  have bv3:#[g2,H',#[um,ZAc]]:=fun b o e=>by
   obtain⟨o',e'⟩:=trB b o e;exact⟨o',inB b o' e' fun z=>by rw[z,fC]at e;cases e⟩
  have s3C:ZAe:=fun b o e z=>by rw[z,hC]at e;cases e
  have eqs:#[aN5,g2.get? b=ZtC b]:=fun b o e h1 h2=>by
   obtain⟨o',e'⟩:=hsB b o e h1 h2;rw[az5.1 b o' (inB b o' e' #[cA,s3C]),ZjI b o' e']
  have slt:#[p2,ZAd,#[g3,H3],Znf->Zq6->#[qA,g2.get?]]:=fun b o e n h1 h2=>by
   obtain⟨sl,e1⟩:=#[Y1,ZadD];refine iT (fl.2.2.1.mem h1) fun _ o2 ho2 nf=>?_;rw[e1]at ho2;have ho2:=Yk ho2;obtain⟨sl2,e2⟩:=ups b _ e1 #[aX,ho2,nf];have e3:=(M_.2 b #[bx,hCs (z▸h1)]).trans e2;obtain⟨sl3,e4⟩:=aj7 b _ e3 (fun vs q=>#[T7,nf,vs,ho2,q]);exact⟨sl3,e4⟩
  have un2:#[ags,H3,H',g2] :=
   ⟨#[aYw,(eqs b o e h1 h2).trans (#[Y1,Zaej])],#[aYw,#[Y1,slt]],un.free,fun b o e h2=>by
     by_cases h1:Znf
     ·obtain⟨sl,q⟩:=slt b o e (I3.stkFree b h1) h1 h2
      exact Zgv
     ·rw[eqs b o e h1 h2];exact ZaYx b o e h2,un.tups,un.frzs,un.tbls⟩
  have cv4:ZaYv Zb':=#[ct,ZjI b o ZawK];have J:#[uB,#[tp,g2]]:=#[Pe,#[tp,g2],os,un2,(vR hok cv4 az5.1 bv3),Zma];refine hH Zai σ H' _ ea K od B' J az5 (fun b o e h1=>?_) bv3 hE;obtain⟨o3,e3⟩:=I3.base.there b o e (ZR7)
  have nfp:Zq6:=fun z=>by
   rcases (t_ b z).2.2.2.1 with y | y
   ·rw[hex]at y;cases y
   ·exact #[Cm,Zqa,y]
  obtain⟨o4,e4⟩:=hsB b o3 e3 h1 nfp;exact⟨o4,inB b o4 e4 (s3C b o3 e3)⟩
 cases use<;>exact post
def NE {X:Cx}{E:XK}{ix:Nat}{x:Str}{px spos:Pos}{elt tg iter:Expr}{ifs:Zbh}{sc so:Scope}{pos:Pos}{N':Zbe}{src:ZBE}{wi:TI}{g:TG}{tt:TT}{te:TE}{N:Zbe}(hso:Zagi)(hXN:Zyd)(S:Zais)(hc:Ze0)(hi:Zsm)
  (hst:ZsL) (cv3:Zsh) (hex:Zr2) (hH:LV X E)
  (hb:∀ (cl:Zjh)(C:Addr)(s:Shared)(H:Hp)(ex:Zcr)(xe:Zfh),fE Zv9 ZHP E->PG ZHP tg g/\O0 ZHP ifs tt/\PE ZHP elt te)
  (hnd:X.N.Nodup) (hix:Zas4) (hx:ZMd)
  (hsw:Za4T:=by rfl)
  (hs:ZaYl:=by intro _;rfl):ZaRs:=by
 subst hXN;intro pins s σ H D I h
 refine az (kG (sc:=sc) (env:=X.env) fun y hy hf=>by
  have:=Zx6;rw[<-hso]at this
  exact ZIO) ZwE
 rw[ZaF4];refine ZawB
 show wpAny _ X.A (do let _ <-ZaYo) _ _ s
 refine #[aL3,lJ (out:=ZaLr) (Goal:=ZaqZ) rfl hs R_ Zs2 S.loc Zajx];obtain⟨it,fp,tn,J,H2,e,I2,T,st2,f2,hR⟩:fR:=h2;subst e;refine Zw3
 have I3:Za3h :=
  Zalf
 have O_:=Zagv;refine ZyD;obtain⟨m0,w0⟩:=a_
 have flt:ZxN:=Zaiz
 generalize hs3:Za3g=s3 at I3 ⊢
 have e3:Za3e:=ZwF
 have sz3:ZJp:=Zx7
 have t_:Zag5:=ZaiZ
 have Q_:ZJo:=ZyA
 have c5:Zagt:=ZahV
 refine ZV S.nocell (by intro y hy;simp at hy) Zyc S.kind;have kp4:ZBW:=Zx5;have I4':=ZacD;have st4:ZxF:=ZahU;generalize hC:s3.heap.objs.size=C at I4' N_ L_ ⊢
 have hCs:ZYn:=fun z=>by
  refine iT (I3.stack.mem z) ZQi;exact #[g4,Yf,ho,#[aX,hC,ZM _]]
 refine fz (hb cl C s3 Zag3 fp ZaCZ (Ln hCs)) Zan1
 let Y:Cx:=#[Bm,C,s3,Zag3,fp].tried [] ZaCZ
 have I4:aS Y [] _ _ _:=I4'.tried
 have hCn:ZawO:=#[N4,ZavF]
 have loop:∀ s5:Shared,ZacC->codeAny Zt0 X.A ZaWK
   (vL Zt0 X.A ZgL Zajk Zazc ZuJ C ZaWI) s5:=by
  rintro s5 rfl
  have o_:Zaj4:=fun {H'} hn b hb=>by
   refine ZyI;refine Zaik
   ·show Zoz
    rw[<-hC];exact Zym
   ·have z:Znf:=z
    rcases Zyr with y | y
    ·exact f1 y
    ·exact Zxn
  refine pO (HJ hst cv3 hex hH I3 t_ hCn hCs) ZaC7 ?_ m0 ZDR;intro n s6 a_;obtain⟨i,σ6,H6,I6,st6,fr6,w6⟩:iG:=a_;rcases Zsu with ⟨stop,qn⟩ | ⟨go,Nx,hN,step⟩
  ·refine Zab7
   obtain ⟨hr,I7⟩:=zz;subst hr;refine Zaiw;have freeC:ZxX:=I7.free;have J7:Zayz:=ZaNe
   have hC3:ZAe:=ZN5
   have hlC:ZaDm:=by refine ZaIr;obtain⟨o3,_,_,e3',_⟩:im:=a_;exact ZRj
   have hcC:ZaD2:=ZaQ5
   have hpC:#[NT,C]:=ZaDD;refine ZaU0;obtain ⟨a8,sb8,ha8⟩:=zz
   have bk9:C≠a8:=by
    rcases ha8 with z | z
    ·rw[z];exact Yz hlC
    ·exact ZaJn
   refine ZaUH
   have I9:ZaSi :=
    ZaTK
   exact ZaHQ
  ·refine Zab9
   obtain ⟨u,hr,h7⟩:=zz;subst hr;refine Zsk;obtain ⟨x,H8,I8,r8,y8,st8,fr8⟩:=zz;have I8':=Zst;refine Zaj8;obtain ⟨σ9,H9,I9,q9⟩:=zz
   have again:Zaj6:=fun [302] I7 n7=>by
    refine ZoZ;refine ZaiX;refine ZaiI;exact Zahr
   refine Zaja;obtain ⟨H10,I10,K_⟩:=zz
   cases ok with
   | false =>
    rw[ZbQ]at K_ ⊢;exact ZtB
   | true =>
    rw[Zav]at K_ ⊢;refine Zalx;obtain ⟨yv,H11,I11,ry,ys,hys,hlen,q11⟩:=zz;exact ZIi
 exact Zaln
abbrev E7 (CX:wQ)[81](σ:St)(E:XK):Zaa:=∀ [15][33][135][326],ZaRD
def Qv {X:Cx}{k:Nat}{ps:Zbe}{sp:Sp}{E:ZG7}{x:Str}{p pos:Pos}{e:Expr}{es:Zbh}{t:TA}(M:#[DP,Wz.XCallee,x])(hr:Zd4)(hg:ZcF)(hx:∀ σ,#[aRr,X])(ha:ZfI)
  (z_:Zt_:=by decide) (he:Zm8:=by rfl) (r_:ZBG (·.1)=false:=by rfl) :
  #[aw7,CS sp [] (E σ) t σ H Q]:=by
 obtain⟨f,fd,F,hm,hk,hb⟩:cg:=M;intro pins s σ H Q I h;refine ZlW;refine ZaCu;have r2:bw (vs++[]) ZVl:=Zzr Zao
 have hl:#[Dr,ZVl]:=#[aV_,q]
 refine #[ai1,Zzs X.A Zc1 s1 H1 Zjz ZVl (vs++[]) Q (E σ) hr I1.env0 (hb s1 us Zs0 hl) r2 q]
 cases r with
 | error e=>exact hx σ Zai H1 s1 e s' I1 hq
 | ok fl =>
  cases fl with
  | ret u=>exact ZaXG hq
  | next=>exact ZsV
  | brk=>exact ZsV
  | cont=>exact ZsV
abbrev Xi [81][15](E:ZG7)[326]:Zaa:=∃ (σ:St)(H:Hp)(ea C:Addr)(od:ZgH)(B:Heap),e=ZwL/\ZaTF/\ZaAy/\ZIG=ZaUz/\E σ Zfv od H
def Tp [209]{E:ZG7}(σ:St):#[aRr,ZaIO]:=by
 intro bx4 H s e s' I hc;obtain⟨ea,C,od,H',B,rfl,fl,un,hok,os,bare,hsB,trB,hE⟩:bf:=hc;exact ⟨σ,H',ea,⟨C,od,B,rfl,Jy I.untried fl un hok os Zma hsB trB,fl,ZsQ,hE⟩⟩
def Qu {X:Cx}{b0:Stmt}{bs:Zel}{hd0:ExceptHandler}{hdl:Zrv}{tb:(ZG7)->TS}{th:Zsn}{pos:Pos}
  (hst:ZsL) (O_:Zsh) (hb:∀ pins E,BZ ZaIO ZaxT (tb E)) (hh:ZajF) :
  #[ap',ZaxT,(#[pf,tb (fun σ' cls od H2=>th cls od D σ' H2) D σ H])]:=by
 intro pins s σ H D I h;refine Zast;refine YA (hb Zai _ [] s σ H D I.tried h) (fun f s1 hq=>?_) fun e s' hx=>?_
 ·cases f with
  | next=>obtain⟨σ',H',I1,q⟩:bU:=hq;exact Zzh ZaYA
  | brk=>obtain⟨σ',H',I1,q⟩:bU:=hq;exact ZaYA
  | cont=>obtain⟨σ',H',I1,q⟩:bU:=hq;exact ZaYA
  | ret u=>obtain⟨v,σ',H',I1,r,q⟩:fA:=hq;exact #[abc,ZaYz]
 ·obtain⟨σ',H',ea,a_⟩:iU:=hx;obtain⟨C,od,B,rfl,ld,fl,hl,hE⟩:fF:=a_
  have fl':=fl;rw[hst]at fl';refine ZaOv;refine MS held #[aXF,?_];rw[<-hst]at fl5;exact hh Zai σ' H' D ea C od B s' h5 ld fl5 ZaEn hE
#print L2
namespace Wz
open PySem L2
abbrev O4 [77][356][196](one other:Int)[33](E:XK)(go:Zaa):Zaa :=
 if #[Ua,one] then
  (if #[Ua,ZeA] then
   (if one=ZeA then ZUk
   else (if ZaKP then go else #[ua,q]))
  else #[aH7,ZeA])
 else #[aH7,one]
inductive qS [77][356][56]:Zaa
 | mk [9][184](one other:Int)(_:vs=[ZbH,Zae one,Zae ZeA])[59](_:cH one)(_:cH ZeA)[222](_:O4 c q st one ZeA H E (ZNj))
abbrev Bp [213][195]:Bool:=#[AV,gX circ g=[]]
def Fa [212]:#[jS,(l9 ml p),Zad9]:=by
 unfold l9;split
 ·lia
 ·rw[Yr,YW];lia
def Nm {X:Cx}{x:Str}{k:Nat}{ps:Zbe}{sp:Sp}{p pos:Pos}(C:ZaAB)(hr:Zd4)(hg:ZcF)
  (z_:Zt_:=by decide):PE X (Zcu Zk6 [] [] pos) (CS sp [] E0 q8):=by
 obtain⟨f,fd,G,hm,hk,hb⟩:cg:=C;exact Nn G hr hg hm hk hb Zao dw z_
abbrev Mu [33](b:Addr):Zaa:=(∃ k,#[b9,(.dK k)])\/(∃ k,#[b9,(.dT k)])\/∃ l,#[b9,(ZaI l)]
def aM.mu [186][42][44][257]:#[JW,Mu H b]:=by
 intro b hb;simp only[HA.fp,Yn]at hb;rcases hb with rfl | rfl | rfl | rfl | hb
 ·exact #[vm,x.w]
 ·exact #[vm,x.h]
 ·exact #[vm,x.c]
 ·obtain⟨as,h,_⟩:=x.d
  exact #[q8,ZSU]
 ·obtain⟨i,hi,rfl⟩:=ZL hb
  obtain⟨y,_,q⟩:=#[am_,x.cs];exact Zal Zgv
#print Wz
namespace L2
open PySem PySem.Spec PyProof.Rows
open AutoSeq1 (wpAny_loadPart')
def Ps (a v:Value):checkTypeCall ZdK #[agE,[a]]=Zb2 ():=ZaYB
def So (a v:Value):checkBuiltinCall "enumerate.__new__" #[agE,[ZlE,a]]=Zb2 ():=ZaYB
def Pr (o a v:Value):argsOk "object.__init__" #[agE,[o,a]]:=by unfold argsOk;kernel_rfl
set_option tactic.hygienic true
def Mr [280][219][38](dct:ZgH)(sl:ZoX)(t:Tok) :
  Meets (ZaYC ⟨[ZlE,Zaj l],ZaF9⟩) (fun _ R s=>#[jy,l,#[aYD,Zdt,dct,Zawc,sl]] /\
   R (.ok (ZfO (Zaj (s.heap.push { cls:=ZwV,data:=ZaL #[Zgh,Zj_] }).objs.size)))
    { s with heap:=(s.heap.push { cls:=ZwV,data:=ZaL #[Zgh,Zj_] }).push { cls:=ZlE,data:=ZaL #[Zan,ZfD,Zlj,ZUe,Zan,Zan] } }) :=
 Zaek fun prog w A R s h=>by
  obtain⟨hp,g,d,tk,os⟩:=s;obtain⟨hl,h⟩:=h;have ck4:=sub_enumerate;have hL:#[Hj,Heap.IsList,hp,l,ZfN]:=#[CD,hl,n]
  wp_walk using ZFl
  refine ZaEa;split
  ·rename_i c _ _ _ _ _
   cases Za2L
   ·wp_walk using ZFl,Za37
    exact ZrI
   ·wp_walk using ZFl,Za37
    exact ZrI
  ·wp_walk using ZFl,Za37
   exact ZrI
section
variable {prog:Program}{w:World}{A:Around}{E:Zfh}{s:Shared}
set_option tactic.hygienic false
def G9 {self a v:Value}:Meets (Builtin.«object.__init__» #[agE,[ZsY,a]]) (fun _ R s=>ZKd ZsY ZdK/\R (.ok (ZfO Zan)) s):=by
 refine Meets.of_wp fun prog w A R s hs=>?_;obtain⟨hT,hq⟩:=hs;have hl:=(Zael).init.lookup;have hm:=(Zael).made
 repeat (any_goals (first | assumption | wp_step))
 exact #[c9,hq]
def Pq {l:Addr}{items:Zhz}{t:Tok}{Q:Zfh}(hL:ZaYF l ZfN)
  (h:#[aSU,1,ZaYH Zar l 0]) :
  #[tc,(ZgM ZasX [Zgh] ZaF9)]:=by
 obtain⟨a_,hl,hc,n,hd⟩:jB:=hL;obtain⟨c,dct,dt,sl⟩:=a_
 replace hc:c=Zbn Zds:=hc
 replace hd:dt=Zawc:=hd
 subst hc hd;have ft:=F.called_enumerate;refine Pl ft.mro fun c tl hmro=>?_;have cv8:=ft.made;have ck4:=ft.sub;refine ZaXX
 show #[aFj,ZasX]
 refine Za4w;rw[ZaYI #[nJ,ZaYJ] #[nJ,units_type_call_type]];have h1:=ft.notType;have h2:=ft.canCreate;have hct:=Ps #[ak,l] (Zae 1 t)
 repeat (any_goals (first | assumption | wp_step))
 have hz:(s.heap.push { cls:=ZwV,data:=ZaL #[Zgh,Zj_] }).objs.size=ZdC:=ZD7;refine #[aFZ,ft.plain,ZaYK,(ZJ5 (So _ _) (Mr l ZfN n dct sl t ZiH w ZhK (wants (fun obj s₁=>s₁.TypeIs obj ZdK/\Q obj Ze_) E) s #[bF,hl])),fun r s₁ hr=>?_]
 ·show _/\_
  have he:IsEnum ((s.heap.push { cls:=ZwV,data:=ZaL #[Zgh,Zj_] }).push
    { cls:=ZlE,data:=ZaL #[Zan,ZfD,Zlj,ZUe,Zan,Zan] }) Zig s.heap.objs.size 1 Zan:=by
   have:=Ym (s.heap.push { cls:=ZwV,data:=ZaL #[Zgh,Zj_] })
    (o:={ cls:=ZlE,data:=ZaL #[Zan,ZfD,Zlj,ZUe,Zan,Zan] }) rfl
   rw[hz]at this;exact this
  rw[hz];exact⟨ZE9,h _ he #[uW,ZasD] fun b o x=>X6 _ (X6 _ x)⟩
 ·cases r with
  | error e=>exact hr
  | ok fl =>
   cases fl with
   | ret obj =>
    obtain⟨hT,hQ⟩:=hr;have hli:=ft.init.lookup;have hbi:=ft.init.bind obj
    repeat (any_goals (first | assumption | wp_step))
    refine #[aFZ,ft.init.plain,F.entry_object_init,(ft.init.check _ _ _ _ _ _ _ _ hT #[nJ,Pr] (G9 ZiH w ZhK (wants (fun r s₂=>r=Zan/\Q obj Zpe) E) Ze_ #[hn,hT,hQ])),#[aYL,?_]]
    cases r₂ with
    | error e=>exact hr₂
    | ok fl₂ =>
     cases fl₂ with
     | ret r =>
      obtain⟨rfl,hq⟩:=hr₂
      repeat (any_goals (first | assumption | wp_step))
     | _=>exact hr₂.elim
   | _=>exact hr.elim
#where
set_option tactic.hygienic false
def Ml [133]{it:Addr}[109][162]{P:#[cd,Nat,ZbR]}{St:ZNu}(D:Draws ZiH w A it fp n P St):#[aRx,fp,ZdE,(fun j v=>P (j-1) v),1<=j/\St (j-1) h] where
 live:=fun i h st=>D.live _ h Zhl
 frame:=#[Kf,⟨ZjH,D.frame _ h h' Zhl k⟩]
 item:=fun i s Q E hi st hQ=>D.item (i-1) s Q E (Zara) Zhl fun x h' tk hp hs hb=>hQ x h' tk hp #[CF,by have:=ZjH;rw[#[iY,i+1-1,i-1+1]];exact hs] hb
 done:=#[aYM,D.done s Q E Zhl hE]
def KD [421](it l:Addr)[219]{i:Nat}(hx:items[i]? = Zac):#[aRx,[it,l],Zcz,ZA9,j=i+1/\ZaU_/\h.IsList l ZfN] where
 live:=fun j h st=>let ⟨o,ho,_⟩:=#[hl,0].1;Zaur
 frame:=fun j h h' st k=>⟨ZjH,(st.2.1.at Zao9),(st.2.2.at fun o x=>k l ZaN o x)⟩
 item:=fun j s Q E hj st hQ=>Zara
 done:=#[aYM,wpAny_nextOf_list_end hh st.2.1 st.2.2 hx hE]
abbrev UA [37][280]:It :=
 #[aRU,ZGb,ZnR,ZGb,ZGb]
def IN [166](e it l:Addr)(hne:e≠it):#[aRB,(UA K l),ZOT,ZaU_] where
 mem:=ZaM
 obj:=fun i h st b hb=>by
  obtain⟨⟨old,he⟩,⟨o,eo,c,d⟩⟩:=st
  have hb:Zys:=ZbZ
  rcases hb with rfl | rfl
  ·exact ⟨_,he,(fun v z=>by cases z)⟩
  ·exact ⟨o,eo,(fun v z=>by rw[d]at z;cases z)⟩
 keep:=ZaST
 item:=by
  intro X hP hw hK hc i pins s σ H E I hf st hg;subst hP hw hK;obtain⟨xs,x,hq,hx⟩:bU:=hg;refine ZK_;refine ZON;obtain⟨⟨old,he⟩,hit⟩:=st;have fe:=ZaFM;have fi:=ZHN;have lte:#[dc,e]:=Yf he
  have lti:ZTY:=ZaQ4
  refine az (id Zkk) fun ol hol R_ _=>?_
  have nl:l≠it:=fun z=>by
   refine az (id hit) fun oi hoi hci _=>?_;rw[<-z,hol]at hoi;cases hoi;rw[R_]at hci;exact #[aFl,hci]
  have nle:e≠l:=fun z=>by
   have q:#[jy,e,_]:=he;rw[z,hol]at q;cases q;exact #[aFl,R_]
  refine #[aMv,(Ml (#[aJW,Draws.list,l,nl])),⟨Zag,hit,Zkk⟩,(by have:=Zatj;simp;lia),by simp[hne,nle],fun u' h' tk hu' ho ck5 hT hsz hk=>ZYS]
  have eu:u'=u:=by
   have:#[ah,e_.toArray[i+1-1]?,u']:=hu';rw[#[iY,i+1-1,i]]at this
   have h2:#[ah,ZzO,u]:=ZaYN
   rw[this]at h2;exact Yk h2
  subst eu;have bk6:ZaYH it l Zcz:=ck5.2.1;refine ZaR';have O_:ZEx:=ZxA
  have IL:aS X pins σ Zajv { s with heap:=s.heap.push { cls:=ZfX,data:=ZaT #[ZOU,u'] },toks:=s.toks } :=
   #[alV,ZOU,u',ZbG,ru]
  have fp':#[aNl,Zajv]:=ZaTZ
  have I2:#[Kl,Zajv,h2,tk+1]:=IL.turned2 (t':=tk+1) (h':=h2) (fun b o n1 n2 q=>by
   refine Zaab
   show Zd9
   by_cases hb:ZTc
   ·subst hb
    have q:(s.heap.push { cls:=ZfX,data:=ZaT #[ZOU,u'] }).get? s.heap.objs.size=ZeZ:=q;rw[Zd0]at q;cases q;exact hT
   ·have q:(s.heap.push { cls:=ZfX,data:=ZaT #[ZOU,u'] }).get? b=ZeZ:=q
    refine ZaN2;rw[ZZl]at q
    exact q) ZaMl ZaO8
  refine #[aSM,Zab4,⟨Zasc,bk6.at ZaOQ⟩]
  have hb':Zys:=ZbZ
  rcases hb' with rfl | rfl
  ·exact ZaIN
  ·exact ZaIM
 done:=by
  intro X hP hw hK hc i pins s σ H E I hf st hg;subst hP hw hK;obtain⟨xs,hq,hx⟩:ak:=hg;refine ZK_;obtain⟨⟨old,he⟩,hit⟩:=st;refine Ze3;have hl:=rv.length;exact wpAny_pyNext_enum_endD (KD (A:=Ztj) ZI7 it l Zci (i:=i) ZJ7) he #[qh,hit,Zkk] #[ah7,Za2D]
 self:=Za4Q
def xY {M:Model}{A:Around}{E:Zfh}{s:Shared}{env:Env}{pos:Pos}{T:String}{Q:Zfh}{e:Expr}{rest:Zbh}{kws:ZuK}(hall:#[a2p,0].all (·.1.isSome)=true)
  (h:wpAny M A (ZIQ ZalO) (fun vs s₁=>wpAny M A (evalAll (#[a2p,0].map (·.2)))
   (fun ks s₂=>wpAny M A (call ZqS vs ((#[zB,Za2p] (·.1)).zip ks)) Q E s₂) E s₁) E s)
  (I_:(#[alO,0].any (·.1)||#[a2p,0].any (·.1.isNone))=false:=by rfl) (he:Zkm ZalN env=(Zaz,ZaFN)::Zkm Ze7 env:=by rfl) :
  #[jx,(ZaYP pos ZqS [] ZalO Za2p)]:=by
 unfold callWith;refine X5 (YO (YA (evalArgs_kw2 (Q:=fun a s₁=>Zb3 M A (ZgM ZqS a.pos a.kw) Q E Ze_) hall h he) (fun a s₁ h₁=>#[k_,Zb]) Zio));simp only[I_];refine ZFB;exact X5 (YA h₁ (fun r s₂ hr=>#[azI,(Yg hr)]) Zio)
abbrev SA [37](t:TA):TI:=#[aOV,cC K H1 l xs,UA]
def Nv {X:Cx}{elts:Zbh} {kk}{aq1:Pos}{a:Expr}{ta:TA}{p pos cp kp:Pos}{cj:Nat}(hg:ZauN)(hm:Zaxr)(ha:ZXQ)
  (he:ZaLV:=by rfl)
  (r_:(#[BF,[a]] (·.1)||#[a2q,pos,ZagF].any (·.1.isNone))=false:=by rfl) :
  PI X #[Jc,elts] (Zcu (Zcp ZdK p) [a] ZagF pos) (SA X.K ta):=by
 intro pins s σ H R I h;refine ZaAK;refine xY ZadW ZahJ r_ he;obtain ⟨vs,H1,I1,r1,l,e1,⟨xs,hq⟩,q⟩:=zz;subst e1;obtain⟨u,rfl,rx⟩:ak:=iX r1;cases rx;refine bD (#[DQ,(Qq am Tu:PK X ZagF _),pos,(fun vs H2=>vs=[Zae 1]/\H2=H1),ZnP]) fun ws s2 zz=>?_;obtain ⟨zs,H2,I2,rz,ez,eh⟩:=zz;subst ez eh;obtain⟨u2,rfl,rx2⟩:ak:=iX rz;obtain⟨t,rfl⟩:=rx2;refine az (I2.list hq) ZCZ;refine Pq ZgN #[aYQ,?_];have I3:#[cl,H2,#[aWS,h',s2.toks]]:=ZadS hk;refine #[a4P,#[aYR,h']];refine #[aRJ,ZdP,ZarO,ZdP,H2,I3,IN]
 have hb:b=ZarO\/Zasv:=ZbZ
 rcases hb with rfl | rfl
 ·exact ZaKe
 ·exact ZaGS
def KJ {K:ge}{a:Addr}{xs:Zbg}{g:TG}{tb:TS}{D:kA}{σ:St}{H:Hp}(Pv:ZiC)(h0:Zj2)(hl:ZaAo)
  (hs:#[aLa,ZnR]) (hd:ZMM) :
  ∃ W:Zhu,ZiA/\∀ i m σ H,Zhr ->
   #[ah1,ZU1,ZU1,ZU1]:=by
 refine ZNW;intro i m σ H a_;obtain⟨rfl,hi,p⟩:fz:=a_;have q:=Zsr
 by_cases q_:ZrK
 ·refine ZaPS
  obtain⟨T,x,hT,e1,e2,hx⟩:cg:=z;subst e1 e2;exact ZaKy
 ·have e:ZFb:=Zaf
  exact #[gc,⟨xs,q,Zag⟩,hd σ H (e▸p)]
noncomputable abbrev Hl (qual:Str)(scope:Scope)[135][371]:Env:=PySem.W.envX Zbt ZbL Zar f #[ak,c'] ZnE
abbrev Cf [231][371][76](E:XK):Cx where
 prog:=P
 w:=w
 K:=K
 mg:=mg
 base:=base
 A:=Zzv (Hl Zbt ZbL s f c' y cy)
 N:=N
 s₀:=s
 H₀:=H
 env:=ZRY
 outer:=outer
 stack:=ZRY::ZbU
 ex:=[]
 calm:=true
 fn:=ZQj
 pn:=[]
 xe:=#[aQ3,ZaEA,ZaTp]
structure E6 [161](y:Str)[393]:Zaa where
 kind:ZsN
 co:ZWg
 gen:ZWh
 nd:#[vv,0].Nodup
 par:∀ x∈ps,ZPB
 nocell:∀ z∈sc.names,z.2≠Ze'
 fr:∀ x,Zav4->x=y
 fry:Zo6 y=Zab ZfS
structure jt (base:Heap)(qual:Str)(params:Arguments)(body:Expr)(scope:Scope)(y:Str)(vy:V)(f c' cy:Addr)(pm ct:Value):Zaa where
 ob:#[a4q,Zl0]
 cell:∃ u,bo vy u/\base.IsCell cy (Zab u)
abbrev lK [33](c':Addr)(qual:Str):Zaa:=∃ oc vs t,#[aK,c',ZHi]/\oc.data=ZaL vs/\#[ah,vs[1]?,(Zax Zbt t)]
def lK.rec [311]{c':Addr}{qual:Str}(x:ZXT)[153]:h.CodeRec #[ak,c'] Zbt:=by
 obtain⟨oc,vs,t,e,d,v⟩:=x;exact ⟨c',oc,vs,t,rfl,(ok c' _ e).1,d,v⟩
def JD [151][425]{u:α}:∀ {l:#[jf,α]},(l.map (·.1)).Nodup->(x,u)∈l->#[bD,l.lookup,u]
 | p::l,nd,h=>by
  rw[Ys,YN]at nd;rw[YI];rcases ZwX with e | e
  ·rw[<-e];simp
  ·have ne:#[kN,x,p.1]:=by
    rw[YZ];exact fun z=>nd.1 (by rw[<-z];exact Zk (f:=(·.1)) e)
   rw[ne];exact JD nd.2 e
def OQ {ps:Zbe}[24][200][160](nd:ps.Nodup)(hl:ZfR=ZiE)(h1:Zas3)(h2:ZaBf):#[bD,Zart,u]:=by
 refine JD ?_ ?_
 ·rw[List.map_reverse,#[cQ,List.map_fst_zip]]
  exact #[ad',(List.reverse_perm ps)] nd
 ·rw[List.mem_reverse]
  exact Yy (i:=i) (List.getElem?_zip_eq_some.mpr Zwq)
def KW {CX:wQ}{P:Program}{w:World}{K:ge}{mg:Zm5}{base:Heap}{ps:Zbe}{y:Str}{qual:Str}{params:Arguments}{body:Expr}{scope:Scope}{vy:V}{f c' cy:Addr}{pm ct:Value}{A:Around}{outer:ZbA}{s:Shared}{h1:Heap}{tk:Nat}{H:Hp}{E:XK}{us:ZbS}{vs:Zbg}
  (S:ZaNj) (Lm:ZaAR) (hd:Zeo) (e0:Zall) (hl:ZOe) (r:ZoK)
  (hns:#[aua,h1.Ns,#[b5,Zart x]]) (hk:Zaz2) :
  aS Zabr [] ZaiK H #[aqW,h1]:=by
 have noA:#[aK1,Zabr]:=ZNx;refine Mo Lm.cell fun uy ry oc a_=>?_;obtain⟨hoc,hdc⟩:=a_
 have lk:∀ x c,#[acc,x,ZnE,c]->x=y/\c=cy:=fun x c h=>by
  rw[YI]at h
  cases e:x == y with
  | true=>rw[e]at h;cases h;exact#[jG,ZJm e]
  | false=>rw[e]at h;cases h
 have lky:#[acc,y,ZnE,cy]:=#[b1,YI,beq_self_eq_true]
 refine⟨#[aYV,fun x z c h1 h2=>?_,Zf1,ZSl],
  rfl,e0.bare,ZabG,ZaJJ,ZSl,ZaVQ,ZSl,Zah3,Zavt,?_⟩
 ·rw[(lk x c h1).1,(lk z c h2).1]
 ·have hx:#[u4,Zs1]\/#[lg,Zs1]:=hx
  rcases hx with q | q
  ·exact #[ic,(Zac0 _ (Zj q))]
  ·exact#[wB,cy,S.fr x q,lky]
 ·cases h
 ·by_cases hi:i<ZfR
  ·have hp:Zas3:=by
    have h1:Zas5:=h1;rw[Zz hi]at h1;exact h1
   have ha:ZJh:=by
    have h2:ZaBY:=h2;rw[Zz (by simpa [hl] using hi),YC]at h2
    cases e:ZJg with
    | none=>rw[e]at h2;cases h2
    | some a=>rw[e]at h2;cases h2;rfl
   refine ZaNr;refine ⟨u,rv,Zal #[bF,ZJi x (Yy hp)]⟩;exact OQ (Zv.mp S.nd).1 (by rw[<-ZfY,hl]) hp hu
  ·have h1:Zas5:=h1
   have hi2:i=ZfR:=by have:=#[pc,h1];simp at this;lia
   have h2:ZaBY:=h2;rw[hi2,ZN (Ya _),Nat.sub_self]at h1;rw[hi2,ZN (by simp[hl]),show ZfR-#[a0,ZacL,Zab]=0 by simp[hl]]at h2;cases h1;cases h2;exact ⟨uy,ry,#[ls,Zaq S.fry,cy,lky,⟨oc,ZaNp,hdc⟩]⟩
 ·obtain⟨rfl,rfl⟩:=ZaF'
  exact #[ce,oc,ZaNp,hdc]
 ·obtain⟨rfl,rfl⟩:=ZaF'
  exact (ZKg _ _ hoc).2
 ·show #[aZ,ZaiK]=#[aZ,Zvv]
  simp[hl]
def Hm {CX:wQ}{P:Program}{w:World}{K:ge}{mg:Zm5}{base:Heap}{k:Nat}{ps:Zbe}{y:Str}{qual:Str}{params:Arguments}{body:Expr}{scope:Scope}{vy:V}{f c' cy:Addr}{pm ct:Value}{sp:Sp}
  (S:ZaNj) (Lm:ZaAR)
  (len:ZOk) (Y_:#[Oj,sp,ZXT])
  (P_:∀ (A:Around)(outer:ZbA)(s:Shared)(H:Hp)(vs:Zbg)(Q:VK)(E:XK),dJ k ZaEA->ZlS ->
   ∃ t,PE (#[aqF,CX,Zvv,ZbL,s,H]) Zet t/\t ZaiK H Q) :
  #[aRk,#[HM,Zbt,ZkA,Zet,ZbL,ZnE,c']]:=by
 refine⟨len,#[aVR,?_]⟩;have hl:=ZaF3;have hkp:#[atg,Zch]:=Zalu;have lim:s.heap.NoLimit:=ZaVS hkp;refine #[aSP,PySem.W.kla_callFunE,hkp,Lm.ob,((Y_ _ _ _ _ hsp).rec e0.hok)];refine ZV Zac0 (fun z hz=>ZJi z.1 #[a4y,hz]) (fun h1 hns M_=>#[bF,lim.fresh _ M_]) Zs2;have hk1:Zaz2:=#[ct,M_.extBut b o Zld ZnA]
 show Zl' _ _ (.expr Zet ZaTp) _ _
 refine ZaPx;have I:aS Zabr [] ZaiK H #[Kh,h1,Zca+#[a0,Zpq,us]]:=KW S Lm Zzy e0 hl r hns hk1;refine PySem.W.kla_codeExpr (YA (ht [] _ _ H Q I hq) (fun u s' zz=>?_) fun e s' hs=>hs);obtain ⟨v,H',J,rv,q⟩:=zz;exact ZaTu
abbrev gL [37](c P:Addr):Zaa:=∃ (o:Obj)(vs:Zhz)(file:Str)(tf:Tok)(flags:Int)(tg:Tok)(inF:Bool)(text:Int)(tt:Tok),Zaul/\#[uT,"code"]/\ZXP/\ZaGZ/\#[aen,11,Zaj P]/\Zaem 18 Zan=Zax file tf /\
  #[aen,7,Zae flags tg]/\#[aen,9,Ze6 inF]/\#[aen,10,Zae text tt]/\c≠P
def gL.hd [323]{c P:Addr}[150](x:ZaGi)(k:ZoB):ZaJu:=by
 obtain⟨o,vs,file,tf,flags,tg,inF,text,tt,e,r⟩:=x;exact #[aTJ,vs,k _ _ e]
abbrev pL [455](base:Heap):Zaa:=∃ bm ob,#[bI,"__builtins__",bm]/\bm≠Zy7/\Zl0 bm=Zab ob/\ob.cls=Zbn "module"/\Zadg=Zab Zy7/\Zadh=.plain
abbrev TabI [33](P:Addr)(pos:Pos)(qual:Str):Zaa:=H P=some (Zd7 #[])\/∃ c',H P=some (Zd7 #[ZyT,Zxk,Zox])/\ZXT
def TabI.tbl [42][442][173][284]:∃ ps,#[aK,P,ZaoF]:=x.elim (#[bN,ZlD]) fun #[c8,e,_]=>ZlD
def TabI.same [23][442][173][284][79]:ZV8:=by
 rcases x with e | ⟨c',e,oc,vs,t,e2,r⟩
 ·exact Zal (s _ _ e)
 ·exact Zaq (gr c' #[le,s] oc vs t (s _ _ e2) r)
section
variable {X:Cx}{pins:ZdT}{σ:St}{H:Hp}{s:Shared}
def FB {A:Around}{E:Zfh}{params:Arguments}{body:Expr}{scope:Scope}{pos:Pos}{y:Str}{c0 P cy:Addr}{qual:Str}{Q:Zfh}(I:ZhY)(hc:ZV3)(C:Zaag)(B:ZXL)(hq:ZaaL)
  (hT:ZV7) (hdf:Zaac) (R_:Za4e) (hcy:ZOB)
  (h:∀ (f c':Addr)(pm ct:Value)(H':Hp)(s':Shared),Zvr->#[a4q,ZtC]->#[rl,f]->H' f=Zac->lK H' c' Zbt->ZV8->(ZZC) ->
   (#[axz,ZtC])->#[b8,f,s']) :
  #[t2,#[uy,(ZpD ZkA Zet ZbL pos)]]:=by
 refine PySem.W.kla_eval hdf ?_;rw[hq];have kb:=I.bk;have CH:=C.hd ZgQ;obtain⟨bm,ob,b1,b2,b3,b4,b5,b6⟩:kf:=B;have gN:Zaei Zki ZbK:=I.ok.mod.glob.keeps kb;obtain⟨ps,hps⟩:=hT.tbl;have hPo:#[jy,P,(PySem.W.tabObj ps)]:=Zbp P _ hps
 have nP:#[ns,ZIH,P]:=fun b o e z=>by rw[z]at e;rw[#[le,I.bs].2]at hps;cases hps
 have gP:Zki≠P:=fun z=>by
  refine ZaOB;exact nP _ _ e z
 have bG:bm≠Zki:=fun z=>by
  refine ZaOB;rw[z,e]at b3;cases b3;rw[hd]at b6;cases b6
 have hb:s.heap.BuiltinsAt ZbK P:=⟨bm,ob,b1,b2,bG,nP _ _ b3,kb _ _ b3,b4,b5,b6⟩;rcases hT with hT | ⟨c',hT,hcf⟩
 ·rw[hps]at hT
  cases hT;refine PySem.W.kla_makeFunction (mg:=ZbK) R_ Zz_ gN hc CH hPo (by trivial) rfl gP hb fun c' ctv h' tk hx hge q_ ck6 htb=>?_;obtain⟨c1,oc,vs,t,e1,hoc,hdc,hvc⟩:vO:=ck6;cases e1;have hcH:#[a_,c']:=Zl6 hge
  have cP:c'≠P:=fun z=>by rw[z,hps]at hcH;cases hcH
  have fH:Zar':=Zl6 (YU hge ZaEj)
  have fP:ZiT≠P:=fun z=>by rw[z,hps]at fH;cases fH
  have fc:ZiT≠c':=YX q_;have kk:#[axz,Za4p]:=#[pC,X6 _ (hx b o n e)];have lt0:#[ns,Zb0,c']:=fun b o e z=>#[Cm,(Yf (z▸e)),hge]
  have ltH:#[ns,H,c']:=fun b o e z=>by rw[z,hcH]at e;cases e
  have I1:aS X pins σ (upd (upd H P (Zd7 (#[]++#[ZyT,Zxk,Zox]))) c' ZHi) #[aqW,ZJs (Za4o)]:=by
   have hne:∀ b o,ZEq->b≠P->upd (upd H P (Zd7 (#[]++#[ZyT,Zxk,Zox]))) c' ZHi b=ZeZ:=#[pC,#[OO,ZaAM,Zlk]]
   refine I.un ⟨fun b o e n _ _=>kk b o e (fun z=>by rw[z,hps]at n;cases n),fun b o e n _ _=>⟨o.slots,kk b o e (fun z=>by rw[z,hps]at n;cases n)⟩,fun b o e n _=>?_,#[Km,?_],fun b xs e=>hne b _ e (fun z=>by rw[z,hps]at e;cases e),fun b o u e=>hne b _ e (fun z=>by rw[z,hps]at e;cases e),fun b qs e=>?_⟩ ZzW
   ·rw[#[RE,lt0],ah (fun z=>by rw[z,hps]at n;cases n)];exact n
   ·by_cases z:b=P
    ·exact#[a7,#[aW,z,ZasC]]
    ·exact#[ft,kk b o e z]
   ·by_cases z:b=P
    ·rw[z,hps]at e;cases e
     exact⟨#[ZyT,Zxk,Zox],by rw[z,#[cn,cP],ac]⟩
    ·exact⟨#[],#[e5,hne b _ e z]⟩
   ·by_cases z:b=c'
    ·rw[z,ac]at e
     cases e;rw[z];exact⟨ZasB,_,ZasB⟩
    ·rw[ZlC]at e
     by_cases z2:b=P
     ·rw[z2,ac]at e
      cases e;rw[z2];exact ZasC
     ·rw[ah z2]at e
      refine (Zbp b u e).stay (fun d v hd q=>kk d v q ?_) (fun d q=>hne d _ q (fun z=>by rw[z,hps]at q;cases q)) fun d xs q=>hne d _ q (fun z=>by rw[z,hps]at q;cases q);rcases hd with r | r
      ·rw[r];exact z2
      ·exact fun z=>by rw[z,hps]at r;cases r
  have cf:lK (upd (upd H P (Zd7 (#[]++#[ZyT,Zxk,Zox]))) c' ZHi) c' qual:=jV oc vs t ac hdc hvc;refine h _ c' _ ctv _ _ I1 Zgb (YU hge ZaEj) ?_ cf (Zaq ⟨c',?_,cf⟩) (#[pC,?_]) kk
  ·rw[ah fc,ah fP];exact fH
  ·rw[#[cn,cP],ac];rfl
  ·rw[ZaAM,Zlk];exact e
 ·rw[hps]at hT
  cases hT;refine PySem.W.kla_makeFunctionHit (cv:=Zox) (mg:=ZbK) R_ Zz_ gN hc CH hPo ?_ ?_ hb fun ctv h' tk hk hsz=>?_
  ·exact True.intro
  ·exact codeAmong_snoc (pos:=pos) (c:=Zox) [] Zacf rfl
  have fH:Zar':=Zl6 hsz;have kk:#[Q2,Za4p]:=#[alr,#[cA,hk]];exact h _ c' _ ctv H _ (Zph kk) Zgb hsz fH hcf (Zaq ⟨c',hps,hcf⟩) ZXj (#[Km,kk b o e])
def xE {h base base':Heap}:∀ {l:ZbA},ZaYS ZaP l->(∀ b∈gT l,#[g3,ZaYT])->ZaYS base' l
 | [],_,_=>trivial
 | env::r,hl,hn=>by
  obtain⟨hk,a_,hr⟩:fz:=hl;obtain⟨L,o,hf,hb,ho,hd⟩:cg:=a_
  have e:gT (env::r)=L::gT r:=by unfold gT;rw[List.filterMap_cons,hf]
  rw[e]at hn;exact ⟨hk,bS L o hf (hn L Ye) ho hd,(xE hr #[fa,hn b ZTR])⟩
abbrev yQ (base h:Heap)(f cy:Addr):Heap:=ZID h (#[dJ,ZUB] fun b=>#[AV,ZaPa])
def i8 [319][312](hb:(ZaDu)\/ZaGz):ZarX:=by
 refine #[Y7,Zlp];refine fz (Y1 ZYk) fun n1 n2 n3=>?_;rcases hb with ⟨o,q⟩ | q | q
 ·rw[n1]at q;cases q
 ·exact n2 q
 ·exact n3 q
def CA [319](e:ZarX):Zho/\((ZaDu)\/ZaGz):=by
 have e1:=#[aUo,e];refine Zatx
 by_cases z:ZaPa
 ·have:#[g3,ZapN]:=ZIE _ (Zaeo ⟨ZhE (Yf e1),Yc z⟩)
  rw[this]at e;cases e
 ·by_cases z1:b=f
  ·exact #[wi,z1]
  by_cases z2:b=cy
  ·exact #[q8,z2]
  cases q:Zl0 b with
  | none=>exact #[dg,⟨q,z1,z2⟩,z]
  | some o=>exact Zal Zauq
def Mod.keeps [323][127]{base base':Heap}(m:Zavp)(k:#[BV,Zl0,ZaYT]):#[uF,base'] :=
 ⟨m.kin.keeps k,m.glob.keeps k,let ⟨mb,h1,h2⟩:=m.blt;⟨mb,ZaUN k,h2⟩,m.nolimit.keeps k⟩
def FA {f cy:Addr}{y:Str}[2](hf:#[a_,f])(hfo:∃ o,#[rR,f])(hs0:Zcj<f)(hcy:ZOB)(hfn:ZWY):C5 ZbC X.w X.K ZbK (yQ Zev ZaE f cy) X.A Zc1 s H:=by
 have e0:=I.env0
 have nf:#[R9,b≠f/\b≠cy]:=fun b hb=>by
  rcases ZaGa with z | z
  ·exact#[wB,#[wD,z,Yo,hs0],z,(I.cne y cy hcy).symm]
  ·refine #[OC,z,ZQi]
   have l1:=Yf ho;have l2:=ZJ3 y cy hfn hcy;have l3:=I.ok.above;exact⟨Yo (ZaWn (Yw l1 l3) hs0),Yo (Yw l1 l2)⟩
 refine⟨ZaYU,I.ok.mod.keeps #[ct,i8 #[cA,I.bk] (Zal ZoO)],ZD4,#[aVt,ZaUm],xE e0.funs Znx,e0.frf,e0.hok,e0.bare⟩
 ·obtain⟨e1,z⟩:=CA e
  refine Zatx;rcases z with ⟨o',z⟩ | z | z
  ·exact (I.bs b o' z).2
  ·rw[z];exact hf
  ·rw[z];exact Zpa y cy hcy
 ·cases q:(yQ Zev ZaE f cy).get? b with
  | none=>rfl
  | some o =>
   obtain⟨_,z⟩:=CA q;rcases z with ⟨o',z⟩ | z | z
   ·have:=(ZaXx hb).1
    rw[this]at z;cases z
   ·exact #[nN,#[qb,nf]]
   ·exact #[nN,#[dy,nf].2]
#where
section
variable {X:Cx}{CX:wQ}{k:Nat}{E:XK}{x y:Str}{p pos:Pos}{e e1 e2:Expr}{es:Zbh}{te t1 t2:TE}{t:TA}
def oB {iy:Nat}{fw c0 P cy:Addr}{fdw:FuncData}{psw:Zbe}{sp:ZaJ'}{params:Arguments}{body:Expr}{scope:Scope}{s_:Pos}{qual:Str}
  (W:#[aYW,Zaz'->ZaAS->ZaSp])
  (hr:Zd4) (hg:ZcF) (hm:ZavB) (hk:Za2S) (hb:ZaMs) (hx:ZfJ)
  (h1:ZaEM) (h2:ZYH) (hc:ZV3) (C:Zaag) (B:ZXL) (hq:ZaaL) (hdf:Zaac) (R_:Za4e) (hcy:ZOB)
  (hfn:ZWY) (hN:Zavc) (hkd:ZazU)
  (z_:Zt_:=by decide) (he:ZaMS:=by rfl)
  (he2:ZaIE:=by rfl) (he3:ZaGt:=by rfl)
  (r_:Zau3 (·.1)=false:=by rfl) :
  PE X ZaFn (fun σ H Q=>t1 σ H fun x1 H1=>t2 σ H1 fun x2 H2=>Zaz4/\∃ vy,ZaEy /\
   ZaSW):=by
 intro pins s σ H Q I h;refine ZlW;refine ZaTW;rw[he,he2,he3]
 show ZaPG
 refine ZaPO;obtain ⟨x1,H1,I1,r1,q1⟩:=zz;refine ZaNv;obtain ⟨x2,H2,I2,r2,hT,vy,hσ,q2⟩:=zz;refine ZaT6;refine ZaI2;have q3:=ZaSO;refine ZazE;refine ZaS_
 have cl:ZaJX:=by
  rcases ly with ⟨z,_⟩ | ⟨_,c,e,ce⟩
  ·have z:ZazT:=z
   rw[hkd]at z;cases z
  ·rw[hcy]at e;cases e;exact ce
 obtain⟨oc,hoc,hdc⟩:=cl;have e0:=ZaTL;have F:=W _ f c' cy vy pm ct e0.mod ZaTi;have r3:ZaJK:=ZaUi
 have hl3:ZaL5:=ZaH0
 refine ZaT1
 cases r with
 | error e=>exact ZaNJ
 | ok fl =>
  cases fl with
  | ret u=>exact ZatK
  | next=>exact ZsV
  | brk=>exact ZsV
  | cont=>exact ZsV
def Gb {i:Nat}{f:Addr}{fd:FuncData}{ps:Zbe}{sp:Sp}{o:Obj}(F:ZNB)(hr:Zd4)(hN:Zgz)(hv:Zagj)(ho:ZIH f=Zab o)(hd:ZfM=ZsC fd)
  (hb:#[an8,#[NQ,ZsZ s fd Zjz (Zpq us)]]) (hx:ZfJ) (ha:ZfI)
  (z_:Zt_:=by decide) (Y_:ZYX:=by decide) (he:Zm8:=by rfl) (r_:ZBG (·.1)=false:=by rfl) :
  #[aw7,#[ah,Zab3,(Zab (Zaj f))]/\#[agA,sp vs H1 Q E]]:=by
 intro pins s σ H Q I h;obtain⟨hσ,h⟩:=h;refine YQ (bD (Nt hN hv z_ Y_ Zai s σ H (fun v H'=>v=Zaj f/\H'=H) I #[uW,hσ]) Zh8);obtain ⟨v,H1,I1,rv,ev,eh⟩:=zz;subst ev eh;obtain rfl:#[MU,f]:=rv
 have kp:∀ h:ZsI,#[E3,f]->∃ k,(k=Keeper.frame\/k=Keeper.machine\/k=Keeper.boundFrame)/\#[apP,keeperOf,f,k]:=fun h q=>by
  obtain⟨oc,od,dt,sl⟩:=o;have hd:dt=ZsC fd:=hd;subst hd;exact ⟨.frame,Ze1,#[Rr,(ZaYX (part:=Zac) q)]⟩
 rw[he];refine PySem.W.callWith_of (P:=fun h=>#[E3,f]) (by show ((false||ZBG (·.1))||false)=false;rw[r_];rfl) kp ZUP;have hA:=#[DQ,ha,pos,_,h];rw[he]at hA;refine bD hA fun us s2 ⟨vs,H2,I2,r,q⟩=>#[bF,(I2.bs _ _ ho).1]
 have hl:ZavK:=#[dM,ZfY,#[hf,Zzu,q]]
 refine #[ai1,Zzs X.A Zc1 s2 H2 Zjz us vs Q E hr I2.env0 (hb s2 us hl) r q]
 cases r with
 | error e=>exact #[RW,H2,s2,I2]
 | ok fl =>
  cases fl with
  | ret u=>exact ZaYZ hq
  | next=>exact ZsV
  | brk=>exact ZsV
  | cont=>exact ZsV
#where
def dL.okXC {P:Program}{w:World}{K:ge}{mg:Zm5}{base:Heap}{x qual:Str}{st:Stmt}{f c0:Addr}{fd:FuncData}{N ps:Zbe}{k:Nat}{sp:Sp}(F:ZxQ)(S:Zaaa)(hco:ZV2)(len:ZOk)
  (P_:∀ (A:Around)(outer:ZbA)(s:Shared)(H:Hp)(vs:Zbg)(Q:VK)(E:XK),#[aoN,ZarH]->ZlS ->
   #[aQK,ZarH]):Zay8:=by
 obtain⟨oc,od,kV,doc,pm,an,h_,ct,osl,rfl,lk,Y_⟩:gZ:=F.ex;have e:h_=Zaj c0:=hco;subst e;exact #[abf,#[aqD,hr]]
abbrev du [347]:Expr:=match dY st with
 | [ZI0 (Zab #[ap7,Zcu]) _]=>l
 | _=>Zze Zan 0 Zn_
abbrev rJ [376]:Arguments:=match e with | ZpD a _ _ _=>a | _=>#[aWB,[],[],Zac,[],[],Zac,[]]
abbrev rK [376]:Expr:=match e with | ZpD _ b _ _=>b | _=>e
abbrev qv [376]:Scope:=match e with | ZpD _ _ s _=>s | _=>#[aWE,ZsM,[],Zaz,Zaz]
abbrev MR [376]:Pos:=match e with | ZpD _ _ _ p=>p | _=>Zn_
#print L2
namespace Wz
open PySem L2
abbrev pP (P:Addr)[250]:Zaa:=ZZC
def pP.none [442][23][173][281][285](t:ZV8)(h:H' l=Zac):Zjn:=by
 cases e:H l with
 | none=>rfl
 | some o =>
  by_cases z:l=P
  ·obtain⟨ps,q⟩:=t.tbl
   rw[<-z,h]at q;cases q
  ·rw[b l o e z]at h;cases h
def pP.hall {P C p:Addr}[23]{A:HA}[332][173][84][286][285]:ZG4:=by
 obtain⟨ps,q⟩:=t.tbl;refine S.kept (fp:=[P]) (fun y o e n=>b y o e #[bx,#[eU,n,z,Yj.mpr rfl]]) Zie (fun y hy z=>?_) (fun y xs e z=>?_)
 ·have ob:=S.ob
  rw[ZdO,q]at ob;cases ob
 ·have mu:=S.mu y hy
  rw[ZdO]at mu;rcases mu with ⟨k,e⟩ | ⟨k,e⟩ | ⟨k,e⟩<;>rw[q]at e<;>cases e
 ·rw[ZdO,q]at e;cases e
def pP.same [442][316](b:pP P H H1)(s:ZavR):pP P H H2:=fun x o e n=>s _ _ (b x o e n)
def pP.get {P b:Addr}[23][173]{o:HO}(k:ZWz)[286](e:ZEq)(n:ZHT):ZQx:=by
 obtain⟨ps,q⟩:=t.tbl
 exact ZaQg
def TabI.put [42]{P l:Addr}[173][41]{o:HO}[284](e:Zu7):Zd' ZUJ P pos Zbt:=by
 rcases x with q | ⟨c',q,oc,vs,t,e2,r⟩
 ·exact Zal (by rw[ah (jR q e (by intro z;cases z))];exact q)
 ·exact Zaq (gr c' (by rw[ah (jR q e (by intro z;cases z))];exact q) oc vs t (by rw[ah (jR e2 e (by intro z;cases z))];exact e2) r)
def pP.put {P l:Addr}[23]{o:HO}[285](h:H l=ZacX):pP P H ZaLC:=fun x u e n=>#[R4,b x u e n]
#print Wz
namespace L2
open PySem PySem.Spec PyProof.Rows
set_option tactic.hygienic true
def CT [323][425]{c P:Addr}[327]:∃ (f:Addr)(oc:Value)(od:ZgH)(fd:FuncData)(osl:ZoX)(o:Obj)(vs:Zhz),ZYE/\ZaHC/\ZaFp/\Zaul/\ZXP/\ZaGZ:=by
 unfold PySem.W.tabIn at h;split at h
 ·rename_i f hf
  split at h
  ·rename_i oc od fd osl hfo
   split at h
   ·rename_i c₂ hc
    split at h
    ·rename_i a1 a2 vs a3 hco
     split at h
     ·rename_i P₂ hv
      cases h;exact ⟨f,oc,od,fd,osl,_,vs,hf,hfo,hc,#[hn,hco,hv]⟩
     ·cases h
    ·cases h
   ·cases h
  ·cases h
 ·cases h
set_option tactic.hygienic false
def rc [323]{x qual:Str}{st:Stmt}{c P f:Addr}{fd:FuncData}[327](hf:ZYE)(F:ZxQ):ZaFp:=by
 obtain⟨f',oc,od,fd',osl,o,vs,e1,e2,e3,_⟩:=CT h;rw[hf]at e1;cases e1;refine gZ F.ex fun oc2 od2 kV doc pm an h_ ct osl2 e4 lk _=>?_;rw[e2]at lk;cases lk;exact e3
def Me [323][425]{c P:Addr}[150](ht:ZaPK)[405](C:ZaJu):ZaGi:=by
 obtain⟨f',oc,od,fd',osl,o,vs,e1,e2,e3,a_⟩:=CT ht;obtain⟨e4,e5,e6⟩:fz:=a_;obtain⟨o',vs',file,a_⟩:iU:=C;obtain⟨tf,flags,tg,b_⟩:iU:=a_;obtain⟨inF,text,tt,g,r⟩:im:=b_;have:=X _ _ e4;rw[g]at this;cases this;exact #[aTJ,vs',e4]
#print L2
namespace Wz
open PySem L2
noncomputable abbrev Nd:=Int×ZgI×Nat
abbrev gF [304]:Zbf:=t.map (·.1)
abbrev BD [87]:Nat->Ziu×Zbf
 | 0=>([(f,none,0)],ZaY1 #[A1,x≠f])
 | n+1=>match #[RU,0].1[n]? with
  | none=>BD R f gs n
  | ZSv=>(#[RU,0].1++#[ajV,ZaqU],ZaqU ZXs)
structure uA [87][38][304](left:Zbf):Zaa where
 kn:ZG'
 ln:left.Nodup
 dj:#[q3,x∉Zc4]
 all:∀ x,(ZjK\/ZEU)↔(x=f\/ZQE)
 hd:#[ah,t[0]?,Zaru]
 up:∀ i e,#[ah,t[i+1]?,e]->∃ j p,j<=i/\j<n/\#[ah,ZKn,p]/\ZEK=Zab p.1/\e.2.2=Zqu/\R p.1 e.1=Zad/\e.1∈gs
 mono:∀ (i j:Nat)(a b:Nd),i<=j->#[ah,ZpE,a]->ZKo->a.2.2<=b.2.2
 last:∀ (j:Nat)(a b:Nd),#[ah,t[n]?,a]->#[ah,ZKn,b]->ZaIb
 near:∀ i a,i<n->#[ah,ZpE,a]->∀ y,(y=f\/y∈gs)->R a.1 y=Zad->∃ (j:Nat)(b:Nd),ZKo/\b.1=y/\ZaIb
def VI [177]{f:Int}[287](nd:gs.Nodup):uA R f gs 0 (BD R f gs 0).1 (BD R f gs 0).2:=by
 have one:#[Yx,([(f,none,0)]:Ziu)[j]?,j=0/\b=Zaru]:=fun {j b} h=>by
  cases j with
  | zero=>simp at h;exact#[da,h.symm]
  | succ j=>simp at h
 refine#[aOo,by simp[BD,gF],nd.sublist (Zaeq),rfl]
 ·intro x hx hl
  simp[BD,gF]at hx hl;exact hl.2 hx
 ·intro x
  simp only[BD,gF,Ys,List.map_nil,Yj,YM,Zw]
  by_cases e:x=f
  ·simp[e]
  ·simp[e]
 ·intro i e h
  have:=(one h).1
  lia
 ·intro i j a b _ h1 h2
  rw[ZazQ,ZazR];exact Zbs
 ·intro j a b h1 h2
  rw[ZazQ,ZazR];exact Zdb
 ·intro i a h
  lia
def LH [177]{f:Int}[287][162][174][410]{p:Nd}(T:uA R f gs n t Zc4)(hp:Zav_) :
  uA R f gs ZdE ZakU (Zi5 ZXs):=by
 have nl:=Zatk
 have kk:gF ZakU=Zfo++Zi5 (R p.1):=by
  unfold gF;rw[Yu,Y7]
  congr 1
  exact ZaZw
 have get:#[Yx,ZakU[j]?,ZKo\/(Zdk<=j/\b.1∈Zi5 (R p.1)/\b.2.1=Zab p.1/\b.2.2=Zqu)]:=fun {j b} h=>by
  by_cases hj:j<Zdk
  ·rw[Zz hj]at h
   exact ZoA
  ·rw[ZasP,YC]at h
   cases e:(Zi5 (R p.1))[j-Zdk]? with
   | none=>rw[e]at h;cases h
   | some x =>
    rw[e]at h;cases h;exact #[ls,Zag,Yy e,rfl,rfl]
 have old:#[Yx,ZKn,#[ah,ZakU[j]?,b]]:=fun {j b} h=>by
  rw[Zz ZTy];exact h
 have lgs:Zarv:=fun x hx=>by
  rcases #[aGY,Zaq] with z | z
  ·exact absurd hx (T.dj x (by
    have:=ZWd
    rw[z];exact Zk (f:=(·.1)) this))
  ·exact z
 refine#[aOo,?_,ZaC6,old T.hd]
 ·rw[kk]
  refine ZKp #[bm,T.kn,ZaC6,#[aY2,?_]];exact T.dj a ha #[aX,e,(Zl3 hb).1]
 ·intro x hx hl
  rw[kk]at hx;obtain⟨h1,h2⟩:=Zl3 hl;rcases Zr1 with z | z
  ·exact T.dj x z h1
  ·rw[ZYk]at h2;cases h2
 ·intro x
  rw[kk,<-ZAf x,Yp,YM,YM]
  by_cases h1:ZjK<;>by_cases h2:ZEU<;>cases h3:ZP1<;>simp[h1,h2,h3]
 ·intro i e h
  rcases get h with z | ⟨z1,z2,z3,z4⟩
  ·obtain⟨j,q,h1,h2,h3,r⟩:=T.up i e z
   exact bS j q h1 Zag (old h3) r
  ·obtain⟨h1,h2⟩:=Zl3 z2
   exact ⟨n,p,Zag,Zag,old hp,z3,z4,h2,lgs _ h1⟩
 ·intro i j a b hij h1 h2
  rcases get h1 with z | ⟨z1,z2,z3,z4⟩
  ·rcases ZTW with y | ⟨y1,y2,y3,y4⟩
   ·exact T.mono i j a b hij z y
   ·rw[y4];exact Zaer i p a hp z
  ·rcases ZTW with y | ⟨y1,y2,y3,y4⟩
   ·have:=#[pc,y]
    lia
   ·rw[z4,y4];exact Zbs
 ·intro j a b h1 h2
  have ha:p.2.2<=a.2.2:=by
   rcases get h1 with z | ⟨z1,z2,z3,z4⟩
   ·exact T.mono n ZdE p a Zag hp z
   ·lia
  rcases ZTW with y | ⟨y1,y2,y3,y4⟩
  ·have:=Zaer j p b hp y
   lia
  ·lia
 ·intro i a hi h y hy hr
  rcases get h with z | ⟨z1,_⟩
  ·by_cases hin:i<n
   ·obtain⟨j,b,h1,h2,h3⟩:=T.near i a hin z y hy hr
    exact au j b (old h1) h2 h3
   ·have ei:i=n:=Zaf
    rw[ei,hp]at z;cases z;rcases (ZAf y).mpr hy with q | q
    ·obtain⟨b,hb,eb⟩:=ZeB q
     obtain⟨j,hj,ej⟩:=ZL hb
     have hj2:ZKo:=#[b1,Yi hj,ej]
     exact au j b (old hj2) eb (Zaer j p b hp hj2)
    ·have hm:y∈ZaLy:=#[aep,q,hr]
     obtain⟨j,hj,ej⟩:=ZL hm;refine au (Zdk+j) (y,ZCf,Zqu) ?_ rfl Zbz;rw[ZasP,YC,#[iY,Zdk+j-Zdk,j],Yi hj,ej];rfl
  ·lia
abbrev Us (o:ZgI):V:=match o with | none=>ZaJ | ZSv=>Zae p
abbrev mi [304]:ZdU:=t.map #[bN,(Zatt,Us ZEK)]
def PR (a b:Ziu):mi (a++b)=mi a++mi b:=Yu
def Fz [174]{x:Int}(h:ZxH):d6 (mi t) ZTQ=Zac:=by
 induction t with
 | nil=>rfl
 | cons e t ih =>
  have h1:¬ x=e.1:=#[aV,Zapz];have h2:ZxH:=ZYo
  show d6 ((Zatt,Us ZEK)::mi t) _=Zac
  rw[fZ (#[aV,h1 Zavv])];exact ih h2
def Jx:∀ [174]{i:Nat}{e:Nd},ZG'->#[ah,ZpE,e]->d6 (mi t) (Zdr e.1)=Zab (Us ZEK)
 | p::t,0,e,_,h=>by cases h;exact hZ (p:=(Zu5,Us Zw2)) rfl
 | p::t,i+1,e,nd,h=>by
  have h:#[ah,ZpE,e]:=h;have nd:(p.1::Zfo).Nodup:=nd;rw[YN]at nd;have ne:¬ p.1=e.1:=fun z=>nd.1 (by rw[z];exact Zk (f:=(·.1)) (Yy h))
  show d6 ((Zu5,Us Zw2)::mi t) _=_
  rw[fZ (#[jC,ne,Zy2])];exact Jx nd.2 h
def uV [174]{x:Int}(nd:ZG'):#[WS,mi,t,ZTQ,ZjK]:=by
 by_cases h:ZjK
 ·refine ZaNs
  obtain⟨i,hi⟩:=ZF5;have:=Jx nd hi;rw[show e.1=x from ee]at this;rw[this,Yc h];rfl
 ·rw[Fz h,X9 h];rfl
def PU [174]{x p:Int}{d:Nat}(h:ZxH):hU (mi t) ZTQ (Zae p)=mi (t++[(x,ZSv,d)]):=by
 rw[PR];unfold hU;rw[X8]
 ·rfl
 ·rw[nv,Fz h];exact Yl
def oh {K:ge}{tt:TT}{Qf:Zj5}{lr q:Addr}{rs:Zbf}{f:ZlJ}{rest:St}{H:Hp}(hq:Zod)(h1:#[aK,lr,#[mR,ZAg]])(hlen:Za4C)
  (ht:∀ (r:Int)(HK:Hp)(Q':#[dW,ZbB]),#[aSr,tt,#[cV,r]])
  (k:#[Z4,#[iy,#[mU,rs.filter,f]]]) :
  #[abi,(RM K lr),tt,(AV 0)]:=by
 refine de (K:=K) (a:=lr) (xs:=ZAg Zaw) #[gs,#[Ed,σ=ZVY/\Zij/\#[iy,#[mU,ZaeK,f]]]]
  ZxU ZayV ?_ ?_
 ·intro i y σ HK hi a_;obtain⟨v,rfl,t1,C_⟩:az:=a_
  obtain⟨r,B_,rfl⟩:ak:=Zdd;have hil:Za4B:=ZTB
  have ex:ZaeL f=ZaeK f++ZvY f:=by rw[YG,B_,YE,Z1]
  have m_:#[a0,ZaeK,f]<=i:=ZaN1;refine #[aSf,IM,#[Kq,?_]]
  cases e:f r with
  | true =>
   rw[Zav];refine#[Y6,ZawP,ZFW,ZakS];rw[ac,ex,#[aY4,ZvY f=[r]],Yu];rfl
  | false =>
   rw[ZbQ];exact #[c',Zmu s5,(#[Ah,ex,#[aY4,ZvY f=[]],Zd,ZawP])]
 ·intro σ HK a_;obtain⟨v,rfl,t1,C_⟩:az:=a_
  rw[X7,YJ]at C_;exact Zaav
inductive IF (J:Zj5)[333][8]:Zaa
 | mk [159](_:vs=ZGQ)(_:J H)(_:#[E8,(R a b)])
abbrev RU [87][304]:Zaa:=∃ left,uA R f gs Zdk t Zc4
inductive AQ (J:Zj5)[333](fl:Addr)[8]:Zaa
 | mk (f:Int)(lg:Addr)[167](_:vs=[Zae f,Zaj lg,Zaj fl])(_:#[aK,lg,#[mR,Zmv]])(_:gs.Nodup)(_:#[DZ,200])(_:J H)(_:∀ (q:Addr)(t:Ziu)(H':Hp),Zod->Zcw->ZayJ->RU R f gs t->Zdk<=ZhP+1->Q ZwK H')
def Mt (f:ZlJ)[270]:#[a0,ZadL,f]+#[a0,ZadL,#[b5,! f x]]=ZbM:=by
 induction l with
 | nil=>rfl
 | cons a l ih=>cases e:f a<;>simp[ZE,e]<;>lia
abbrev Q7 [87][33](lg fl tr lr:Addr)[38](σ:St)(HH:Hp):Zaa:=∃ (t:Ziu)(left:Zbf)(la:Addr)(v7 v8 v9:ZgG),#[aTr,f,v7,v8,Zxa,#[ei,tr,Zux]/\#[Dp,lr,ZCi]/\#[Dp,la,ZaY5]/\la≠lr/\uA R f gs n t Zc4/\n<=Zdk/\Zdk+left.length<=ZSE]
abbrev i9 (p:Nd)[270]:Ziu:=Zml #[b5,(x,ZCf,Zqu)]
def zm (p:Nd)[270]:gF (i9 p l)=l:=by unfold gF i9;rw[Y7];exact ZaZw
def DQ (a b:Ziu):gF (a++b)=gF a++gF b:=Yu
def QW [174]{x:Int}(h:ZjK):∃ (i:Nat)(e:Nd),#[ah,ZpE,e]/\e.1=x:=by
 refine ZaNs;obtain⟨i,hi⟩:=ZF5;exact ⟨i,e,hi,ee⟩
def PX [174]{i:Nat}{e:Nd}(h:#[ah,ZpE,e]):e.1∈Zfo:=Zk (f:=(·.1)) (Yy h)
abbrev Cj [196][159]:Bool:=! ZOb
abbrev uQ [196]:Zbf:=ZZ9
abbrev yG [77](c1:Addr)(ql:Str)[9][33]:Zaa:=ZyH/\ZXU
def yG.same {c:HX}{c1:Addr}{ql:Str}[44][250](j:#[aSH,H])[79]:#[aSH,H']:=by
 obtain⟨S,oc,vs,t,e,r⟩:=j;exact#[aQu,ZeC s]
inductive EF [77](ql:Str)[277]:Zaa
 | mk (i:Zcq×HA×eD)(_:ZaFr)(_:AQ ZaQJ ZaEo fl vs H Q E)
inductive EC [77](P0:Addr)[305]:Zaa
 | mk [9](f:Int)(_:#[CO,f])[20](_:Zd' H P0 pos ql)(_:∀ (q:Addr)(t:Ziu)(left:Zbf)(H':Hp),#[aPt,ZayJ,uA (Cj st) f (uQ st) Zdk t Zc4->Zdk<=ZgU+1->Q ZwK H'])
abbrev QZ [196](m g:Int)(T F:Int->Zaa):Zaa:=match ZaGl with | none=>F m | Zab x=>#[b4,ZNn,T x,F g]
inductive II [354]:Zaa
 | mk [9](m g:Int)(_:vs=[ZbH,Zae m,Zae g])[59](_:cH m)(_:ZdF)(_:QZ st m g (#[b5,#[fG,x]]) (#[gO,kE c E H (ZtD y)]))
open PySem PySem.Spec PyProof.Rows L2 PySem.SetTable
noncomputable abbrev Gp (es:Zhy (Int×ZbR))(ep:Nat)(t:SetTable):Obj:=#[M3,Zbn Zs8,ZgK es ep t]
#print Wz
set_option maxRecDepth 1000000
set_option maxHeartbeats 8000000
namespace Wz
open PySem L2
def TK {P:ZeJ}{G:Zaa}(C:ZeJ)(main:(ZaLc)->G)(key:ZaLc):G:=main key
#print Wz
set_option maxRecDepth 1000000
set_option maxHeartbeats 8000000
namespace Wz
open PySem PySem.Spec PyProof.Rows L2 PySem.SetTable
section
variable {X:Cx}
def ri:∀ (l acc:Zbf),ZaY6->#[bc,ZaHi,ZpF+ZbM]/\(#[aZ,ZaHi]=ZpF+ZbM↔(acc++l).Nodup)
 | [],acc,nd=>by simp[nd]
 | x::l,acc,nd=>by
  rw[Z3]
  by_cases hx:x∈acc
  ·have e:#[aLB,acc]:=by unfold step_dedup;rw[Yb (ZzM)]
   rw[e];obtain⟨h1,h2⟩:=ri l acc nd;rw[YF];refine#[CF,#[Ul,Zaf,?_]];rw[Zv]at z;exact #[ic,(z.2.2 x hx x Ye)]
  ·have e:#[aLB,acc++[x]]:=by unfold step_dedup;rw[X8 (ZzM)]
   rw[e];obtain⟨h1,h2⟩:=ri l (acc++[x]) (ZKp #[bm,nd,ZaN,fun a ha b hb z=>hx (by rw[<-ZUV,<-z];exact ha)]);rw[Yr,YW]at h1 h2;rw[YF,#[iY,ZpF+ZDi,ZpF+1+ZbM],h2,ZW];exact⟨h1,Iff.rfl⟩
inductive QK [377]:Zaa
 | mk [271][64]
def Kr [131]:gW X Zs9 (QK X.K):=by
 intro pins s σ H xs us Q I r h;obtain⟨p,ns,rfl,hq,hz,q⟩:=h;obtain⟨u,rfl,rx⟩:ak:=ZfH;cases rx;refine #[K9,#[aY7,?_]];have hl:=rv.length;rw[X7]at hl;refine #[aZz,call_set_list,ZgN]
 have en:Za3P:=by
  unfold firstMet;rw[Yq,<-hl,zn]
 rw[en]at hS;obtain⟨d1,d2⟩:=ZaNL;refine Za3Q
#where
open PySem L2
structure Xu [13](o:Addr):Zaa where
 e:c6 K o
 m:#[bI,Zpz,o]
 x:#[agN,o,o]
abbrev Rk (a b c d:Int):ZdS:=[ZfA,(c,d),(a,c),(b,d),(a,d),(b,c)]
inductive EE (co:Addr)[56]:Zaa
 | mk (a b c d:Int)(_:vs=[Zgk,ZEv,Zae c,Zae d])(_:(ZD_->#[Re,(Rk a b c d)]))(_:(¬ ZD_->#[ua,co]))
#print Wz
namespace Tm
open PySem PyProof.Rows
abbrev el [214][207]:Keyed:=xs.getD i (Zan,Zan)
structure X2 [68](A:Around)[135][357][29]:Zaa where
 cmp:∀ {x y:Keyed}[47]{Q:ZbB->Zaa},x∈a0->y∈a0->Q (lt x y)->#[fl,Ztd,(keyLt' κ x.1 y.1),(fun b s'=>s'=s/\Q b)]
 irr:∀ x,lt x x=Zaz
 tr:∀ x y z,ZPV->lt y z=Zad->lt x z=Zad
 tot:∀ x y,x∈a0->y∈a0->x≠y->ZPV\/lt y x=Zad
 nd:a0.toList.Nodup
structure Xt [357](st:SortSt):Zaa where
 pm:(arrOf st).Perm a0
 fl:Zaes st=Zac
 kd:Zmb st=κ
section
variable {P:Program}{w:World}{A:Around}{E:Zfh}{s:Shared}{κ:SortKind}{a0:Zke}{lt:ZaIi}{st:SortSt}
abbrev Up [29][214](lo hi:Nat):Zaa:=#[aQv,i,j]
abbrev Dn [29][214](lo hi:Nat):Zaa:=#[aQv,j,i]
abbrev X1 (xs ys:Zke)(lo hi:Nat):Zaa:=∀ i,i<lo\/hi<=i->el ys i=el xs i
abbrev XB (st A_:SortSt):Zaa:=Za4N/\ZaY8 A_=ZaY8 st
#where
abbrev VZ:ZbB->Zkd->Zke->Nat->Nat->Nat->#[apZ,ZgE,Nat]:=sortPriv% PySem.Builtin.gallop
abbrev Bf [29](left:Bool)(key:Keyed)[214](b i:Nat):Bool:=#[eY,Zc4,lt (el xs (b+i)) key,! lt key (el xs (b+i))]
abbrev Fn [456](T r:ZarL):Zaa:=r.Perm T/\r.Pairwise R
structure J [456](T out ra rb:ZarL):Zaa where
 pm:(out++(ra++rb)).Perm T
 so:out.Pairwise R
 oa:#[aJN,ra]
 ob:#[aJN,rb]
 sa:ra.Pairwise R
 sb:rb.Pairwise R
 la:∀ x,x∈rb->∀ z,#[ah,ra.getLast?,z]->R x z
abbrev U5:ZaLw:=sortPriv% PySem.Builtin.mergeLo
abbrev OX:Nat->StateT SortSt Sem Unit:=sortPriv% PySem.Builtin.setMinGallop
structure X4 (a0:Zke)[140]:Zaa where
 ma:∀ i,i<ZpG->el a i∈a0
 mb:∀ i,i<ZpH->el b i∈a0
 ne:∀ i j,i<ZpG->j<ZpH->el a i≠el b j
 ua:Up lt a 0 ZpG
 ub:Up lt b 0 ZpH
 za:0<ZpG
 zb:0<ZpH
 h0:#[aFQ,0,0]
 hl:#[aFQ,(ZpH-1),(ZpG-1)]
abbrev ay (st A_:SortSt):Zaa:=arrOf A_=arrOf st/\Zaes A_=Zaes st/\Zmb A_=Zmb st/\Za4N
abbrev Jl [457](ia ib:Nat):Zaa:=J (Zan6) ZaZC Zac8 (a.toList.drop ia) (b.toList.drop ib)
abbrev Sl [205](ia ib:Nat):Zaa :=
 #[aZD,Jl,ia,ib,ia+1<ZpG/\ib<ZpH/\Zauy]
abbrev U4:ZaLw:=sortPriv% PySem.Builtin.mergeHi
abbrev Jh [457](na nb:Nat):Zaa:=J (fun x y=>lt y x=Zad) ZaZC Zac8 (b.toList.take nb).reverse (a.toList.take na).reverse
abbrev Sh [205](na nb:Nat):Zaa :=
 #[aZD,Jh,na,nb,0<na/\na<ZpG/\1<nb/\nb<=ZpH/\Zauy]
abbrev back (q:Nat)(m arr:Zke):Zke:=m.toList.zipIdx.foldl (fun a (p,j)=>a.setIfInBounds (q+j) p) arr
abbrev Ch [29][214]:Nat->#[dR,Nat,ZXk]->Nat->Zaa
 | f,[],u=>f=u
 | f,t::r,u=>t.1=f/\1<=Zlh/\Up lt xs f (f+Zlh)/\Ch lt xs (f+Zlh) r u
#print Tm
namespace Qs
open PySem PySem.W PyProof.Rows
open Classical in
noncomputable def dec (h:Heap) (v:Value):Zhq:=if z:∃ p,RS h v p then Zar5 else ZEb
#print Qs
namespace L2
open PySem PySem.Spec PyProof.Rows
inductive WM [37][38][232]:Zaa
 | mk [89](as:Zcr)(d:Dt)(ds:ZjP)(_:y=ZbH)(_:(cC K H p ZYB\/bL K H p ZYB))(_:RD K H n x d)(_:#[PW,RD K H n ZbV e])(_:#[aJ8,Zqp↔d∈ds])
section
variable {X:Cx}
set_option tactic.hygienic true
open Classical in
theorem Du {pins:ZdT}{σ:St}{H:Hp}{s:Shared}{n:Nat}{A:Around}{x:V}{v:Value}{d:Dt}(I:ZhY)(hu:Zal4)(rx:Zd1)(hx:#[vf,x]) :
  ∀ {as:Zcr}{ds:ZjP}{us:ZbS},Zay6->ZaHX ->
  (#[a3m,#[A2,∃ a,u=Zcm/\ZVG]])/\(us.any (#[amC,ZVG])=Zad↔d∈ds)
 | _,_,us,Zao,r=>by
  cases r;exact⟨(fun u hu=>(by cases hu)),ZaN⟩
 | a::as,e::ds,us,ZaD he hp,r=>by
  cases r with
  | cons r1 r2 =>
   rename_i u us
   cases r1;obtain⟨ih1,ih2⟩:=Du I hu rx hx hp r2;refine ak (G7 I n hu he hx (#[gW,bo ZbV ZbV]) rx) fun k hk ek=>?_
   have kk:#[AW,∃ b,ZaLt/\#[vf,Zlq],k]:=by
    by_cases z:e=d
    ·rw[hk.mpr z]
     exact Yc ⟨a,rfl,z▸he⟩
    ·have:ZTj:=by cases k with
      | false=>rfl
      | true=>exact #[g4,hk.mp,rfl,z]
     rw[this];refine X9 fun zz=>?_;obtain ⟨b,eb,hb⟩:=zz;refine z ?_;cases eb;exact Zac_ I he hb
   refine#[bF,#[tE,?_]]
   ·rcases ZcI hw with rfl | hw
    ·rw[kk];exact ek
    ·exact ih1 w hw
   ·rw[ZG,kk,Bool.or_eq_true,ih2,Yn,hk]
    exact#[Ul,ZaPe,ZaPe]
#where
#print L2
namespace Wz
open PySem L2
structure KA where
 dx:Addr
 p:Addr
 pl:Addr
structure RN where
 plan:ZgE (Zbd (Zhq))
 dn:Nat
 brk:ZgI
abbrev RN.planV [385]:V:=match s.plan with | none=>ZaJ | ZwJ=>Zaj A.pl
abbrev KU (h p d b:V):Zjg:=[ZSm,ZSn,(Zi6,d),(Zmw,b)]
abbrev U1 [385]:Zjg:=KU #[ak,A.p] (s.planV A) (Zae s.dn) (Us s.brk)
def WD:#[US,ZhQ]:=ZaA
def WE:#[US,Zi6]:=ZaA
def Xl:#[US,Zmw]:=ZaA
def WF:#[jF,ZhQ,Zi6]:=ZaA
def Xm:#[jF,ZhQ,Zmw]:=ZaA
def XM:#[jF,Zi6,Zmw]:=ZaA
section
variable {h p d b v:V}
def Jv:dE Zmw b (dE Zi6 d (dE ZhQ p ZaMQ))=KU h p d b:=by
 unfold KU;simp only[dE];rw[X8 WD];simp only[dE];rw[X8 WE,X8 WF];simp only[dE];rw[X8 Xl,X8 Xm,X8 XM]
def Re:dE ZhQ p (dE Za5 h [])=([ZSm,ZSn]:Zjg):=by
 simp only[dE];rw[X8 WD]
def U2:dE Zi6 d (dE ZhQ p ZaMQ)=([ZSm,ZSn,(Zi6,d)]:Zjg):=by
 rw[Re];simp only[dE];rw[X8 WE,X8 WF]
def Jw:#[nu,Zaa1,Za5,h]:=by
 rw[<-Jv,aK,X8 Xl,aK,X8 WE,aK,X8 WD,aK,Zav]
def PQ:#[nu,Zaa1,ZhQ,p]:=by
 rw[<-Jv,aK,X8 Xm,aK,X8 WF,aK,Zav]
def Fw {m:Str}(q:¬ m=Za5/\¬ m=ZhQ/\¬ m=Zi6/\¬ m=Zmw):#[e9,Zaa1] m=Zac:=by
 rw[<-Jv,aK,X8 q.2.2.2,aK,X8 ZE7,aK,X8 ZjR,aK,X8 q.1];rfl
#where
structure tj [35][33](k:Addr)[385]:Zaa where
 ob:#[aK,k,(Zde C Zex (U1 A s))]
 pl:#[Z3,fU H A.pl ps]
 le:#[Z3,s.dn<=ZfR/\ZaA5]
def tj.mono [353]{k:Addr}{A:KA}{s:RN}(x:tj C H k A s)(m:Zcw):tj C H' k A s:=⟨m _ _ x.ob,fun ps e=>(x.pl ps e).mono m,x.le⟩
inductive IE [369]:Zaa
 | mk (k dx p:Addr)(_:vs=[Zaj k,ZbH])(_:#[aK,k,ZDt])(_:Q ZaJ #[bJ,k,(Zde C dx ZaiT)])
structure VS [77][261][33](k:Addr)[385](B:HA)[196]:Zaa where
 kp:tj ck H k A s
 hall:aM c.C H A.p B st
 kB:k∉Zf5
 pB:#[Z3,A.pl∉Zf5]
structure HK [13][261]:Zaa where
 cl:IZ K ck
 nH:#[oP,Za5]
 nP:#[oP,ZhQ]
 nD:#[oP,Zi6]
 nB:#[oP,Zmw]
 mK:#[bI,ZKr,ck]
abbrev Wf [4][261]:Zaa:=#[aa9,ck,ZoE,ZVB,ZoE]
def Ed {X:Cx}{ck:Addr}{p pos:Pos}{e:Expr}{t:TA}(M:#[Ib,Wf,ck])(U:HK X.K ZbK ck)(hr:Zyv)(hg:Gl X ZKr)(ha:PA X [e] t)
  (he:ZHo:=by rfl) (r_:Zau2 (·.1)=false:=by rfl):PE X (Zcu (Zcp ZKr p) [e] [] pos) (GE ck ZVB [] E0 t):=by
 revert M;intro a_;obtain⟨fI,fd,M,G,hb⟩:da:=a_;exact Qj M G hr hg U.mK hb Zao dw ha ZaF he r_
#print Wz
namespace L2
open PySem PySem.Spec PyProof.Rows
def nV.push [126](ob:Obj):nV B l e c od (g.push ob):=by
 obtain⟨h1,h2,h3,oe,us,T,oT,ts,he,hc,hd,hT1,nT,ne,hT,dT,h33⟩:=x;exact ⟨(#[adz,X6 _ #[qK,h1]]),h2,(h3.of_keeps #[Ks,#[eM,o,Zjo]]),⟨oe,us,T,oT,ts,X6 _ he,hc,hd,hT1,nT,ne,X6 _ hT,dT,h33⟩⟩
def Qn {X:Cx}{y1 y2 y3:Str}{C1 C2 C3:Addr}{b0:Stmt}{aq3:Zel}{t1:TS}{th:Zsn}{p1 p2 p3 aq1 pos:Pos}{kk:Nat}{rest:Zrv}(hg1:Gl X y1)(hm1:#[Wm,y1,C1])(hg2:Gl X y2)(X_:#[Wm,y2,C2])(hg3:Gl X y3)(hm3:#[Wm,y3,C3])(hs:∀ ea oe,BZ ZadH ZRi t1)(hr:ZayT)
  (hd1:#[t9,y1]:=by decide) (hd2:#[t9,y2]:=by decide) (hd3:#[t9,y3]:=by decide) :
  #[aQD,#[cx,#[Jc,[Zcp y1 p1,Zcp y2 p2,Zcp y3 p3]]],Zac,ZaY9,#[ak9,Zaj C1],t1 D σ H]:=by
 intro pins σ H D ea C od B s' h ld fl ups ht;revert ht;intro a_;obtain⟨b,hb,ht⟩:ak:=a_;have I:=ZaL_;refine ZaNg;have Im:=ZaNB
 have LT:ZaOp:=by
  rw[<-bk1];exact ZaYY
 refine wpAny_handleBy_cons (ZaXA (wpAny_Tuple ?_)) (by intro z;cases z);refine #[anr,hg1,hm1,hd1];refine #[anr,hg2,X_,hd2];refine #[anr,hg3,hm3,hd3];refine wpAny_items_nil #[bF,(ZPy)];have kp:∀ q o,#[E3,q]->(Zy5 Zak_).get? q=Zab o:=#[iM,X6 _ z];have fl2:=fl.push Zak_
 have aj7:ZadC (Zy5 Zak_):=fun b o q nf=>by
  obtain⟨sl,z⟩:=ups b o q nf;exact⟨sl,kp _ _ z⟩
 refine (PySem.W.exm_tup3 (K:=X.K) (I.kIn.keeps kp) (LT.keeps kp) (Ym h rfl) hb).here ?_;generalize Zy5 Zak_=h2 at fl2 aj7 ⊢
 cases b with
 | true =>
  rw[Zav]at ht;refine codeAny_handlers_suite ?_;refine uW fl2 #[aXB,?_];refine ZaNh;have I6:=#[aS',aj7.trans];exact YA (hs ea oe Zai _ σ H D I6 ht) (fun f s2 hq=>ZaXC ZsP) ZR'
 | false =>
  rw[ZbQ]at ht;exact #[aOh,h2,fl2,aj7]
#print L2
namespace Wz
open PySem L2
def Pw [323]{cls a b d:Value}{x y z:Bool}(h1:#[adF,a,x])(h2:#[adF,b,y])(h3:#[adF,d,z]):ZaY9 K cls [a,b,d]=Zab (x||(y||(z||Zaz))):=by
 simp only[PySem.W.exmAny,h1,h2,h3]
structure Q6 [333][167](ts:ZM6)(left:Zbf):Zaa where
 sub:Zarv
 nd:left.Nodup
 cov:∀ x∈gs,x∈Zc4\/∃ t∈ts,ZjK
 dj:#[arw,x∉Zc4/\ZQE]
 ap:ts.Pairwise fun t u=>#[q3,x∉gF u]
 cl:#[arw,∀ y∈gs,R x y=Zad->y∈Zfo]
 tr:#[aet,∃ f lf rest,#[aMU,lf]]
def W6 [177][287](nd:gs.Nodup):Q6 R gs [] gs :=
 ⟨fun x h=>h,nd,fun x h=>ZoA,fun t ht=>(by cases ht),Zao,fun t ht=>(by cases ht),fun t ht=>(by cases ht)⟩
def Oy [177](sy:#[gJ,R a b=R b a])[287][320][410](h:Q6 R gs ts Zc4){f:Int}(hf:f∈Zc4)[174]{rest:Zbf}(T:#[aMU,Zc4]):Q6 R gs ZYP (Zi5 ZGv):=by
 have inL:#[q3,ZEU]:=fun x hx=>by
  rcases #[aGY,Zal] with z | z
  ·rw[z];exact hf
  ·exact z
 have mf:∀ x,x∈#[auF,Zi5]↔ZEU/\ZxH:=#[b5,#[e5,YM]]
 refine⟨#[B3,h.sub,((mf x).mp hx).1],h.nd.filter _,Zf1,fun u hu x hx=>?_,?_,fun u hu x hx y hy r=>?_,#[Kt,?_]⟩
 ·rcases h.cov x hx with z | ⟨u,hu,z⟩
  ·by_cases y:ZjK
   ·exact Zaq ⟨t,Yv _ (Yj.mpr rfl),y⟩
   ·exact Zal ((mf x).mpr ⟨z,y⟩)
  ·exact Zaq ⟨u,ZT _ hu,z⟩
 ·rcases ZT_ with z | z
  ·exact⟨#[a9,#[aKf,z] ((mf x).mp q).1],(h.dj u z x hx).2⟩
  ·rw[ZdO]at hx
   exact⟨#[a9,((mf x).mp q).2 hx],h.sub x (inL x hx)⟩
 ·refine List.pairwise_append.mpr #[bm,h.ap,ZaN,fun u hu v hv x hx=>?_]
  rw[ZdN hv];exact #[a9,#[aKf,hu] (inL x q)]
 ·rcases ZT_ with z | z
  ·exact h.cl u z x hx y hy r
  ·rw[ZdO]at hx ⊢
   rcases h.cov y hy with q | ⟨v,hv,q⟩
   ·refine bU (QW hx) fun i a ha ea=>?_
    refine da (T.near i a Zath ha y (Zaq q) #[aX,ea,r]) fun j b hb eb _=>?_;rw[<-eb];exact PX hb
   ·have:=h.cl v hv y q x (h.sub x (inL x hx)) #[aX,sy,r]
    exact Zdf (inL x hx) (h.dj v hv x Zbu).1
 ·rcases ZT_ with z | z
  ·exact h.tr u z
  ·rw[ZdO];exact ⟨f,Zc4,Ze7,T⟩
#print Wz
namespace L2
open PySem PySem.Spec PyProof.Rows
inductive UH (H0:Hp)(Q:VK)(v:V)[33]:Zaa
 | mk [407](u:HO)(e:ZVm)(n:ZaCp)(h:Q v ZYN)
def Ql [45][220]:PE X e (#[IV,#[Jw,UH Zy_ Q v H1]]):=by
 intro pins s σ H Q I ht;refine bD (h Zai s σ H _ I ht) Zib;obtain ⟨x,H1,I1,r1,q1⟩:=zz;obtain⟨d,o,u,hd,h0,q⟩:=q1;exact au x _ (I1.thaw hd h0) r1 q
#print L2
namespace Wz
open PySem L2
abbrev Ke [93][159]:Bool:=#[AV,ZfA∈ps\/ZD'∈ps]
def Ua [93][159]:ZY8=Ke ps b a:=Zaeu Or.comm
abbrev ny [347]:Expr:=match #[aIp,3] with
 | #[aP7,Stmt.While]=>l
 | _=>ZaCL
inductive NX [8]:Zaa
 | mk [280][93](_:ZQU)[334](_:∀ (k:Addr)(H':Hp)(ml:ZdS),#[a_,k]->Zcw->#[cB,k,ZPF]->(#[aQ_,ZY8])->Q #[ak,k] H')
abbrev Ma [196][304]:Bool:=t.any #[bN,Zaai]
inductive NW [77][8]:Zaa
 | mk (p tr:Addr)[406][196][304](_:#[Gx,tr])[59](_:#[aK,tr,Zux])(_:(#[q3,#[Ua,x]/\cH x]))(_:ZG')(_:Zdk<=200)(_:tr∉Zi1)(_:#[E8,(Ma st t)])
abbrev yH (c1:Addr)(ql:Str)(kn:Addr)[26][33]:Zaa:=#[aK,kn,ZPF]/\ZXU
def yH.same {c1 kn:Addr}{ql:Str}[154][250](j:yH c1 ql kn ml H)[79]:yH c1 ql kn ml H':=by
 obtain⟨S,oc,vs,t,e,r⟩:=j;exact#[aQu,s _ _ S]
inductive EG (ql:Str)[277]:Zaa
 | mk (i:Zcq×ZdS)(_:ZaFr)(_:AQ ZaOj (ZaBc) fl vs H Q E)
inductive EH [77](P0:Addr)[305]:Zaa
 | mk (p l:Addr)[406][196][93][454][20][334](_:Zd' H P0 pos ql)(_:∀ (q:Addr)(as:Zcr)(ts:ZM6)(H':Hp),#[aPt,#[cB,q,Zp0],#[aiO,H']->#[apS,[]]->(Zv2)->Q ZwK H'])
def Sr [186][42][44][84]{y:Addr}(h:#[a_,y]):y∉Zi1:=fun z=>by
 obtain⟨o,e⟩:=ZSP;rw[h]at e;cases e
def Mx [386][387](F:#[aO2,ZdS,(AQ ZaOj (ZaBc) fl)]):#[u9,(EG ql fl c1 vy)] :=
 ZaT5
open PySem PySem.Spec
def LF:#[adv,"__int__"]:=ZoV
def LD:#[adv,"__index__"]:=ZoV
def GA:#[adv,"__trunc__"]:=ZoV
def Cg {f:ZaLx}(hf:ZaQ'):∀ [30](p:ZRs),(Zarx)->(l.map (·+48)).foldlM f p=Zab (p.1++Zaev,if l=[] then p.2 else true)
 | [],p,_=>ZaM
 | d::l,p,h=>by
  rw[Ys,List.foldlM_cons,hf p d (h d Ye)]
  show (l.map (·+48)).foldlM f Zao_=_
  rw[Cg hf l _ #[B4,h]];simp
def vM {d:Nat}(h:d<10):ZaRM:=(ZaC:#[So,ZaRM]) d h
def Fi {p:Zq_}(hp:#[So,p (d+48)=Zaz]){q:Zbi}(h:∀ c∈q,∃ d,d<10/\c=d+48):q.dropWhile p=q:=by
 cases q with
 | nil=>rfl
 | cons c q =>
  obtain⟨d,hd,rfl⟩:ak:=h c Ye;rw[List.dropWhile_cons_of_neg];rw[hp d hd];exact Yl
def Tb {q:Zbi}{y:ZaBX}{l:Zbi}{f:ZaLx}{g:ZRs->ZaBX}(h:y=(q.foldlM f (#[],false)).bind g)(hq:q=l.map (·+48))(hl:l≠[])(hd:Zarx)
  (hf:ZaQ') (hg:∀ ds,g (ds,true)=Zab ds):y=Zab Zaev:=by
 rw[h,hq,Cg hf l _ hd,X8 hl]
 show g (#[]++l.toArray,true)=_
 rw[hg];simp
def meets_int_new_str [373][443](hx:x.cps.toList=ZY9 (·+48))(h0:d=0->l=[])(hd:∀ e∈d::l,e<10)(hl:#[bc,(d::l),640]):Meets (Builtin.«int.__new__» #[dX,[Zbn Zs7,Zax x t]]) (Made.int (#[aHl,(d::l).foldl]:Nat)).spec :=
 Meets.of_wp fun prog w A R s hs=>by
  obtain⟨hp,g,dr,tk,os⟩:=s;have f1:=F.conv_sub_int;have f2:=F.madeHere_int;have f3:=LF;have f4:=LD;have f5:=GA;have hT:(⟨hp,g,dr,tk,os⟩:Shared).TypeIs (Zax x t) Zmi:=rfl
  have g1:(x.cps.all #[A1,x<128])=Zad:=by
   rw[<-Array.all_toList,hx,YT];intro c hc;obtain⟨e,he,rfl⟩:ak:=Zxl;have:=hd e he;exact ZasR
  have g2:x.cps.toList.takeWhile (#[b5,x != 0])=Zmx:=by
   have tw:∀ q:Zbi,(∀ c∈q,c≠0)->q.takeWhile (#[b5,x != 0])=q:=fun q=>by
    induction q with
    | nil=>intro _;rfl
    | cons c q ih=>intro h;rw[List.takeWhile_cons_of_pos (#[Ai,h c Ye]),ih #[pI,h c #[fq,hc]]]
   refine tw _ Zrs;rw[hx]at hc;obtain⟨e,he,rfl⟩:ak:=Zxl
   lia
  have g3:ZtF<=640:=#[f6,hx,X7,hl]
  repeat (any_goals (first | assumption | wp_step))
  rw[g1];simp only[ZQ,g2,g3];refine ZFB
  have hq:∀ c∈ZY9 (·+48),ZaLd:=fun c hc=>by
   obtain⟨e,he,rfl⟩:ak:=Zxl;exact #[eM,e,hd e he]
  have C_:∀ c∈(ZY9 (·+48)).reverse,ZaLd:=#[pI,hq c (ZaYp hc)]
  have sz:ZbM<=639:=by have:ZaA7:=hl;lia
  rw[hx];rcases vM (hd d Ye) with rfl | z
  ·have e0:=h0 rfl
   subst e0
   conv=>arg 3;arg 2;whnf
   show Za4E
   rw[Zat3]
   repeat (any_goals (first | assumption | wp_step))
   exact #[c9,hs]
  ·rcases z with rfl | rfl | rfl | rfl | rfl | rfl | rfl | rfl | rfl
   all_goals
    conv=>arg 3;arg 2;whnf
    rw[#[v5,Fi,hq],#[v5,Fi,C_],List.reverse_reverse]
    conv =>
     arg 3;arg 2;arg 2
     tactic=>exact Tb rfl rfl (ZaY_ _ _) hd (by rintro⟨ds,b⟩ d h;rcases vM h with rfl | rfl | rfl | rfl | rfl | rfl | rfl | rfl | rfl | rfl<;>rfl) Zaq1
    dsimp only;rw[Zem,X8 (ZJ6),Zem]
    show Za4E
    rw[Zat3]
    repeat (any_goals (first | assumption | wp_step))
    refine Zhi;rw[ZbQ,List.foldl_toArray];exact hs
structure Num [206](ds:Zbi):Zaa where
 eq:x.cps.toList=ds.map (·+48)
 ne:ds≠[]
 nz:#[aGe,ds=[0]]
 dg:Zary
 ln:Zkz<=12
abbrev numV (ds:Zbi):Nat:=#[aHl,ZadT]
#print Wz
namespace L2
open PySem PySem.Spec PyProof.Rows
inductive QF [12]:Zaa
 | mk (x:_)(ds:_)(_:xs=[ZTu])(_:Wz.Num x ds)(_:Q (Zae (Wz.numV ds)) H)
def Kn [45]:gW X #[ed,Zs7] QF:=by
 intro pins s σ H xs us Q I r h;obtain⟨x,ds,rfl,N,q⟩:=h;obtain⟨u,rfl,rx⟩:ak:=ZfH;obtain⟨t,rfl⟩:=rx
 cases ds with
 | nil=>exact #[ic,N.ne]
 | cons d l =>
  have ln:ZQt<=12:=N.ln
  exact call_int_1 (Wz.meets_int_new_str x t d l N.eq (fun z=>by
   have:=#[Sz,N.nz,z]
   exact (Zaew Zbu).2) N.dg #[Qc,ZaA7]) ⟨rfl,Ziw,H,Zq4,ZbG,q⟩
abbrev xW [206]:Zaa:=x.cps.all (· < 128)=true
abbrev Ul [206]:It :=
 ⟨fun i _=>ZEQ,fun i H v H'=>H'=H/\∃ c,ZaZh/\v=Zax ⟨#[c]⟩,fun i _=>ZatX⟩
def Oz [137][373](it:Addr):#[rh,tg,Zxg,h.IsStrIter it "str_ascii_iterator" x t i] where
 mem:=ZaM
 obj:=fun i h st b hb=>by
  have e:Zid:=ZbZ
  subst e;obtain⟨o,e,c,d⟩:az:=st;exact ⟨o,e,(fun v z=>by rw[d]at z;cases z)⟩
 keep:=fun i h h' ⟨o,e,r⟩ k=>⟨o,(k it ZaN o e),r⟩
 item:=by
  intro X hP hw hK hc i pins s σ H E I hf st hg;subst hP hw hK;have hg:ZEQ:=hg;refine Ze3
  have hx:#[ah,x.cps[i]?,ZaY']:=ZaM
  refine wpAny_pyNext_ascii_item st hx ZanT;have I1:#[hX,Zat8]:=#[a2z,Zut,#[nj,Zal']];refine ZXO;exact ⟨_,rfl,(Cm (s:=Zat8) e c d ZaF (gu (Zax ⟨#[ZaY']⟩) H I1 ZbG #[fE,rfl,Yi hg,rfl] A_ ZN9))⟩
 done:=by
  intro X hP hw hK hc i pins s σ H E I hf st hg;subst hP hw hK;have hg:ZatX:=hg;refine Ze3;refine wpAny_pyNext_ascii_end ZI7 st (by rw[ZaZa];simpa using hg) Za2A
 self:=#[a3z,wpAny_pyIter_striter_ascii]
abbrev WB (t:TE):TI:=#[Ku,t σ H #[Jw,∃ x,v=Zax x/\xW x/\R (Ul x) H1]]
def Nz [45]{tg l:Expr}[111]:PI X tg l (WB tl):=by
 intro pins s σ H R I h;refine ZGE;obtain ⟨y,H1,I1,r1,x,e,ha,q⟩:=zz;subst e;obtain⟨t,rfl⟩:=r1;refine wpAny_pyIter_ascii ha ?_;refine #[ano,(Oz x t _)]
 have e:Zw6:=ZbZ
 subst e;exact ZN'
def Pz {x:Str}{g:TG}{tb:TS}{D:kA}{σ:St}{H:Hp}(Pv:ZiC)(h0:Zj2)
  (hs:∀ i c σ H,ZaZh->ZkZ->g (Zax ⟨#[c]⟩) σ H Zaha) (hd:#[ML,ZtF]) :
  ∃ W:Zhu,ZiA/\∀ i m σ H,Zhr ->
   #[ahL,#[xg,0].stop,#[xg,0].go,∀ v H',#[ahK,#[xg,0].yld,v,v]]:=by
 generalize hl:x.cps.toList.length=n at hd;refine Zaaq;intro i m σ H a_;obtain⟨rfl,hi,p⟩:fz:=a_
 by_cases q_:i<n
 ·refine #[NX,(#[iX,ZEQ]),n,fun v H' y=>?_]
  obtain⟨e,c,hc,e2⟩:iT:=y;subst e e2;exact hs i c σ _ hc p
 ·have e:i=n:=Zaf
  subst e;exact #[gc,#[ud,ZtF,i],hd σ H p]
def vA:∀ l:ZasF,bw ((l.map (·.1)).map V.str) ZQS
 | []=>Zao
 | p::l=>ZaD #[jG,p.2] (vA l)
abbrev NH:ZXe:=fun x xs H Q=>∃ z y,ZGR/\xs=[Zax y]/\#[kN,ZpJ,0]/\Zup/\#[Gu,#[mS,ZaMe]]
def M0 [45]:Xc X "str.split" NH:=by
 intro pins s σ H x xs v us Q I rx rv h;obtain⟨z,y,rfl,rfl,hy,hz,q⟩:zd:=h;obtain⟨t,rfl⟩:=rx;obtain⟨u,rfl,ru⟩:ak:=iX rv;obtain⟨t2,rfl⟩:=ru;have sl:Zpk:=Y6
 have fin:∀ (l:ZasF)(k:Nat),#[pj,ZbM]->l.map (·.1)=ZKv z y->#[lx,ZcU,{ s with toks:=k,heap:=ZaxF }]:=fun l k hl e=>by
  have IL:=I.laid (t':=k) (a:=s.heap.objs.size) (o:=ZaI (ZaMe ZaY)) (h':=ZaxF) (ZnF) Zbz
   #[eP,#[RT,(ZaI _)],gU (by rw[<-e,X7,X7];exact hl) ZQS _ #[gf,e,vA l] Zgb]
  exact au ZcU _ IL rfl Zwn
 have nl:∀ k ps,#[Dr,(ZaZb k ps)]:=fun k ps=>by rw[<-X7 (f:=(·.1)),numbered_texts]
 have pl:#[Pq,(ZaZc z #[Q_,z,y,Zb6,ZSM] ZpJ)]:=by
  rw[length_partsBetween];have:=StrLaws.occ_length_le z y 0 Zb6 ZSM
  lia
 cases h1:(#[AV,Zb6<ZpJ]||#[AV,Zaex z<Zauw]) with
 | true=>exact #[aSL,(meets_str_split_cannot_occur z y t t2 h1),(Yb h1).symm]
 | false =>
  cases hf:#[Q_,z,y,Zb6,ZSM].isEmpty with
  | true=>exact #[aSL,(meets_str_split_not_found z y t t2 h1 hy hf),(ZaZe (Yb hf)).symm]
  | false =>
   refine #[aqj,(meets_str_split_sep z y t t2 h1 hy hf Zag pl),?_];rw[strsFrom_eq];exact fin (ZaZb Zca _) _ #[aX,nl,pl] ((numbered_texts _ _).trans (ZaZe (X8 (ZaZd hf))).symm)
def Gh {X:Cx}{o e:Expr}{to te:TE}{apos i_:Pos}(ho:ZVq)(he:ZgC)(D_:#[aVx,"split"]:=by rfl)
  (az4:Za2x:=by rfl)
  (aq0:Zsl:=by rfl) (hs:ZHo:=by rfl) (I_:ZV4 (·.1)=false:=by rfl) :
  PE X #[jB,#[yQ,o,"split"],[e]] (Xq X.K Zmi NH to (nu te q8)) :=
 ng PySem.F.plainAttrs_str PySem.F.slot_str_split PySem.F.type_str_split M0 ho (aj he aV hs) D_ az4 aq0 hs I_
#print L2
namespace Wz
open PySem L2
abbrev vD [306]:Zbi->ZU3
 | []=>[[]]
 | Zr5=>if a=c then []::Ziz else match Ziz with | []=>[[a]] | ZlK=>ZaBa
abbrev tO [306]:Zbi->Zbi
 | []=>[]
 | Zr5=>ZaJt++Zou (·+1)
def CI (c a:Nat)[30]:tO c Zln=ZaJt++Zou (·+1):=rfl
def kS (c a:Nat)[30]:vD c Zln=if a=c then []::Ziz else match Ziz with | []=>[[a]] | ZlK=>ZaBa:=rfl
def Ay [306]:∀ [30](k m:Nat),m=ZQt->#[dJ,Za3_] (#[e8,#[AV,#[ah,l[i-k]?,c]]])=Zou (·+k)
 | [],k,m,h=>by
  subst h;simp[tO]
 | Zr5,k,m,h=>by
  subst h;have ih:=Ay c l Zgi ZDi rfl;rw[#[gW,ZR3+1=ZDi+1],List.range'_succ,ZE]
  have e1:#[ah,Zln[k-k]?,a]:=ZaM
  have e2:#[dJ,Za3'] (#[e8,#[AV,#[ah,Zln[i-k]?,c]]])=#[dJ,Za3'] (#[e8,#[AV,#[ah,l[i-Zgi]?,c]]]):=List.filter_congr fun i hi=>by
   have:=(List.mem_range'_1.mp hi).1;rw[#[iY,i-k,(i-Zgi)+1]];rfl
  rw[e1,e2,ih,CI]
  by_cases z:a=c
  ·rw[Yb (#[aW,z,ZrN]),ZrD]
   simp[Function.comp_def,Nat.add_assoc,Za0b]
  ·rw[X8 (ZaZf),Zry]
   simp[Function.comp_def,Nat.add_assoc,Za0b]
def zW [206][306]:∀ (m k:Nat)(arr:Zlb)(free:Nat),k+m=ZgX+1->ZsR<=k->Zaez<=k ->
  (forIn Za3_ (arr,free) (StrLaws.occBody x ⟨#[c]⟩ x.length Zar3)).run.fst.toList=arr.toList++#[dJ,Za3_] (#[e8,#[AV,#[ah,ZaZg,c]]])
 | 0,k,arr,free,_,_,_=>ZaM
 | m+1,k,arr,free,h,hf,ha=>by
  rw[List.range'_succ,aQl,ZE];have so:=StrLaws.subAt_one x c k;unfold StrLaws.occBody
  by_cases z:#[ah,x.cps.toList[k]?,c]
  ·have s2:=so.mpr z
   rw[Yb ⟨⟨⟨#[kr,Zaez<ZSF],hf⟩,s2.1⟩,s2.2⟩,ZY0];have ih:=zW x c m Zgi (ZaeA k) (k+(⟨#[c]⟩:Str).length) Zag Zbz #[nk,ZaZi];refine ZacZ ih ?_;simp
  ·rw[X8 (#[a9,z (so.mp ⟨q.1.2,q.2⟩)]),X8 (#[aqP,X9 z])]
   exact zW x c m Zgi arr ZsR Zag Zag Zag
def P9 [206][306]:Builtin.Str.occurrences x ⟨#[c]⟩ 0 x.length Zar3=tO c Zmx:=by
 rw[StrLaws.occ_eq,zW x c _ 0 #[] 0 Zag Zbz Zbz];have:=Ay c Zmx 0 (ZSF-0) (#[adN,ZSF=_,YS]);simpa using this
abbrev rO [30](p:ZXk):Zbi:=(Zc6 p.1).take (p.2-p.1)
abbrev Ce [30](cs:Zbi):ZU3:=((0::cs.map (·+1)).zip #[E1,cs]).map (rO l)
def On (a:Nat)[30](p:ZXk):rO Zln (p.1+1,p.2+1)=rO l p:=by
 unfold rO;rw[List.drop_succ_cons,Nat.add_sub_add_right]
def AX (a:Nat)[30]:∀ (us vs:Zbi),((us.map (·+1)).zip (vs.map (·+1))).map (rO (Zr5))=(us.zip vs).map (rO l)
 | [],_=>ZaM
 | ZcX,[]=>ZaM
 | ZxC,v::vs=>by
  rw[Ys,Ys,Zq,Ys,Zq,Ys,AX a l us vs];rw[#[c2,rO Zln (u+1,v+1)=rO l (u,v),On a l (u,v)]]
def yV [306]:∀ l:Zbi,Ce l (tO c l)=Ziz
 | []=>rfl
 | Zr5=>by
  have ih:=yV c l;unfold Ce;rw[CI]
  by_cases z:a=c
  ·rw[ZrD]
   have e1:(ZSb::(([0]++Zou (·+1)).map (·+1)))=0::((0::Zou (·+1)).map (·+1)):=ZaM
   have e2:([0]++Zou (·+1))++[ZR3]=0::(#[E1,ZW0].map (·+1)):=ZaM
   rw[e1,e2,Zq,Ys,AX,show (((0::Zou (·+1)).zip #[E1,ZW0]).map (rO l))=Ziz from ih,kS,ZrD];rfl
  ·rw[Zry,kS,Zry,<-ih]
   unfold Ce
   cases hp:ZW0 with
   | nil=>simp[rO]
   | cons q qs =>
    have e1:(ZSb::(([]++ZHu (·+1)).map (·+1)))=0::((ZHu (·+1)).map (·+1)):=ZaM
    have e2:([]++ZHu (·+1))++[ZR3]=(q+1)::(#[E1,qs].map (·+1)):=ZaM
    rw[e1,e2,Zq,Ys,AX]
    show _=(a::ZaMV)::_
    rw[show rO Zln (0,q+1)=a::ZaMV by simp[rO]];rfl
def Ni [206](cs:Zbi):(ZaZc x cs 1).map (·.cps.toList)=Ce Zmx cs:=by
 unfold Builtin.Str.partsBetween Ce;rw[Y7,YS];refine Zy fun p _=>?_;obtain⟨i,j⟩:=p
 show (Builtin.Str.strSub x i j).cps.toList=_
 unfold Builtin.Str.strSub rO;simp
def LB [206][189]:(Txt.split x ⟨#[c]⟩).map (·.cps.toList)=vD c Zmx:=by
 have e0:∀ y:Str,#[eI,#[AV,ZgX<ZpJ]||#[AV,Zaey<Zauw]]->y=⟨#[c]⟩->Zmx=[]:=fun y h e=>by
  subst e
  have k1:Builtin.Str.strKind ⟨#[c]⟩=1:=by unfold Builtin.Str.strKind;rw[Yb (by simpa using hc)]
  have k2:1<=Zaey:=by
   unfold Builtin.Str.strKind;split
   ·decide
   ·split<;>decide
  rw[k1]at h
  have:ZgX<1:=by
   rw[Bool.or_eq_true]at h;rcases h with z | z
   ·exact Y1 z
   ·have:=Y1 z;lia
  have:ZaZj=0:=by have t:ZaZj<1:=this;lia
  simpa using this
 unfold Txt.split
 by_cases h1:(decide (x.length<(⟨#[c]⟩:Str).length)||decide (Zaey<Builtin.Str.strKind ⟨#[c]⟩))=true
 ·rw[ZwO]
  have:=e0 _ h1 rfl
  show [Zmx]=_
  rw[this];rfl
 ·rw[Zrz,P9]
  by_cases h2:(tO c Zmx).isEmpty=Zad
  ·rw[ZEr,<-yV,List.isEmpty_iff.mp h2]
   simp only[Ce,rO,List.map_nil,List.nil_append,Zq,List.zip_nil_left,Ys,List.drop_zero,Nat.sub_zero];rw[ZZ (Ya _)]
  ·rw[ZrA]
   exact (Ni x _).trans (yV c _)
def EK {c:Nat}:∀ [388],c∉p->vD c p=[p]
 | [],_=>rfl
 | a::p,h=>by
  rw[kS,Zaxn,EK ZYo]
def EJ {c:Nat}:∀ [388](r:Zbi),c∉p->vD c ZaBm=p::vD c r
 | [],r,_=>by show vD c (c::r)=_;rw[kS,Zav]
 | a::p,r,h=>by
  show vD c (a::ZaBm)=_
  rw[kS,Zaxn,EJ r ZYo]
#print Wz
namespace L2
open PySem PySem.Spec PyProof.Rows
abbrev Ss [344][422]:DictEntry:=#[aOK,ZjR,ZaE3]
abbrev gObj [344][236][38]:Obj:=#[aOO,Ss]
structure GD [37][344][88][116]:Zaa where
 nd:(xs.map (·.1)).Nodup
 ns:Zabz
 at':#[aO3,gObj]
abbrev qt [116][262]:V:=match Zar6 with | Zab i=>ZjN | none=>ZaJ
abbrev Uo [422]:ZaAZ:=(ZQK,ZaE3)
def Fp [68]:#[aRa,#[dR,ZaxH,Zazf],Ss,Uo]
 | []=>Zao
 | q::l=>#[aQs,ZjR,Fp]
def Jn:∀ [236],Zazj->(ZAr Uo).map (·.1)=(xs.map (·.1)).map Sum.inr
 | [],_,_=>rfl
 | ZgB,[],h=>by cases h
 | ZgB,ZlT,h=>by
  rw[Zq,Ys,Ys,#[aMG,Jn]];rfl
def MB:∀ [236][262],#[aE5,bo (qt xs z) ((Zpr (ZAr Uo) Zar7).getD Zan)]
 | [],_,_,_=>rfl
 | ZgB,[],_,h=>by cases h
 | ZgB,ZlT,z,h=>by
  have ih:=MB xs ts z Zzn;unfold qt valueAt at *;rw[Zq,Ys,YI,Y9]
  show bo (match (match z == x.1 with | true=>Zab x.2 | false=>Zar6) with | Zab i=>Zaw i | none=>V.non) _
  by_cases e:z=x.1
  ·have e1:ZaFX:=ZR6
   have e2:#[AX,#[HH,Uo]]:=Zatc;rw[e1,e2];exact#[jG,t.2]
  ·have e1:ZaEU:=Zy3
   have e2:#[AY,#[HH,Uo]]:=ZaJi;rw[e1,e2];exact ih
def Jm [323][6][54]{xs:ZER}[150](g:#[aG7,GD])(k:ZoB):#[a4c,ZaBj,Uo]:=by
 refine ZaMJ;refine ZaS5
 ·have hen:#[aNQ,Ss]:=ZaZk
  obtain⟨q,_,rfl⟩:ak:=Zaup;exact #[aFy,ZjR]
 ·have:=#[aPh,Fp]
  simpa using this
 ·rw[Jn xs ts hl]
  exact ZaQy
abbrev VD [116](ty:TE):TE:=#[ay9,Q (qt xs z) H1]
def Qi {X:Cx}{x:Str}{a:Addr}{xs:ZER}{e:Expr}{p apos i_:Pos}{ty:TE}(g:#[aL8,GD])(hg:ZcF)(hm:#[ql,ZbV])(he:ZauL)(m:M1 X Zk6 ZJx apos e i_)
  (hd:Zt_:=by decide):PE X #[jB,#[yQ,Zk6,ZJx],[e]] (VD xs ty):=by
 intro pins s σ H Q I h;refine #[Ic,Z4,ZaWy,(eK I hg hm ?_ hd)];have kin:∀ {s1:Shared}{H1:Hp},#[cl,H1,s1]->ZabL ZaeB:=fun I1 a o e=>Zpy a o (I1.mod.kin a o e);refine #[aoW,Jm,(kin I)];refine #[br,ZKw,(ZanZ)]
 ·cases q
  obtain⟨ob,_,_,h1,h2,_⟩:fA:=dd;exact ZZo
 rw[m.trees];refine #[aI3,#[Bi,he,ZD9]];obtain ⟨y,H2,I2,ry,z,e1,q2⟩:=zz;refine ZDk;subst e1;obtain⟨t,rfl⟩:=ry;refine ak (Jm (P:=ZbC) g (kin I2)) fun ts2 m_ dd2=>?_;exact Zaec Z4 dd2.typeIs ZaZl (PySem.F.args_dict_get_2 _ _) (meets_dict_get Zt3 a Zaa4 g.ns) #[ce,dd2.mapOf,_,⟨H2,I2.tok _,MB xs ts2 z m_,q2⟩]
#print L2
namespace Wz
open PySem L2
def M8 (ds:Zbi)(e:Nat):Zmy (ds++[e])=Zmy ds*10+e:=by unfold numV;rw[aQa];rfl
def Wu [38]:∃ ds:Zbi,(ZaeD 10 n).map ZaZn=ds.map (·+48)/\ds≠[]/\(#[aGe,n=0])/\(Zary)/\Zmy ds=n/\(n=0->ds=[0])/\∀ k,1<=k->n<10 ^ k->Zkz<=k:=by
 induction n using Nat.strongRecOn with
 | _ n ih =>
  have dc:#[So,(ZaeE d).toNat=d+48]:=fun d h=>by
   rcases vM h with rfl | rfl | rfl | rfl | rfl | rfl | rfl | rfl | rfl | rfl<;>rfl
  by_cases h:n<10
  ·rw[Nat.toDigits_of_lt_base h]
   refine ⟨[n],(by show [(ZaeE n).toNat]=[n+48];rw[dc n h]),ZaN,#[bx,ZaZf],(#[Aj,#[Ym,he]]),#[Qc,0*10+n=n],⟨#[aV,#[gT,z]],fun k hk _=>ZacY⟩⟩
  ·rw[#[v5,Nat.toDigits_of_base_le,Zag]]
   refine uI (ih (n/10) Zag) #[aZo,?_];obtain⟨_,h6⟩:=a_;refine ⟨ds++[n%10],?_,ZaN,Zie,(#[Aj,?_]),?_,⟨#[aV,Zaf],fun k hk hn=>?_⟩⟩
   ·rw[Yu,h1,Yu]
    show _++[(ZaeE (n%10)).toNat]=_++[n%10+48]
    rw[dc _ Zag]
   ·cases ds with
    | nil=>exact ZU0
    | cons d ds=>have:=h3 z;lia
   ·rcases ZT' with y | y
    ·exact h4 e y
    ·rw[ZdN y];lia
   ·rw[M8,h5];lia
   ·rw[Yr,YW]
    cases k with
    | zero=>lia
    | succ k =>
     by_cases k0:k=0
     ·subst k0;lia
     ·have:=h6 k Zag (by rw[Nat.pow_succ]at hn;lia)
      lia
def P8 [253](h0:0<=g)(h:ZaGf):ZaSe:=by
 obtain⟨n,rfl⟩:=Int.eq_ofNat_of_zero_le h0;refine uI (Wu n) #[aZo,?_];obtain⟨h7,h6⟩:=a_;refine #[bm,ds,⟨?_,h2,Zlp,h4,h6 12 (ZaC) Zag⟩,#[gT,h5]]
 ·unfold mr
  rw[#[gW,ZJV Zcg=ZaZp (ZaeD 10 n)],Str.ofString_eq_toList]
  show ((ZaZp (ZaeD 10 n)).toList.map ZaZn)=_
  rw[String.toList_ofList,h1]
 ·have hn:=h3 z
  exact h7 hn
def M9 [223]:ds=es:=by
 have:=ZaZq b.eq;exact (List.map_inj_right (fun x y e=>Zaf)).mp Zbu
#print Wz
namespace L2
open PySem PySem.Spec PyProof.Rows
def jy [45][425]{v:V}[65](hg:ZcF)(hm:∃ u,ZU8/\Zep)[49]:ZWW:=by
 revert hm;intro a_;obtain⟨u,hm,r⟩:ak:=a_;exact dM hg hm r hd
#print L2
namespace Wz
open PySem L2
abbrev sizesD:ZER:=[(Zc5,2),(Zck,2),(Zer,3)]
structure HB [288](dz:Addr):Zaa where
 md:Za15
 dg:Za17
 ms:#[bI,ZaZr,dz]
 gd:GD K Zfd dz ZgY
def CQ {te:TE}{Qf:Zj5}{x:Str}{q:Addr}{f:Zq_}{rest:L2.St}{H:Hp}(hq:Zod)(hlen:ZtF<=ZbY)
  (ht:∀ (c:Nat)(HK:Hp)(Q':VK),Zij->(∀ H5,ZDI->Q' (.bl (f c)) H5)->te (some (Zax ⟨#[c]⟩)::rest) HK Q') (k:#[Z4,#[iy,#[mT,(x.cps.toList.map f).map]]]) :
  #[abi,Zxg,EN,te]:=by
 refine Pz (fun i σ HK=>#[iB,ZVY,Zij,#[iy,#[mT,((x.cps.toList.take i).map f).map]]]) ZxU ?_ ?_
 ·intro i c σ HK hi a_;obtain⟨v,rfl,t1,C_⟩:az:=a_
  have hil:ZEQ:=ZDo;refine iS (ht c HK _ t1 #[aLb,ZaCR]);rw[ac,YG,hi,YE,Yu,Yu];rfl
 ·intro σ HK a_;obtain⟨v,rfl,t1,C_⟩:az:=a_
  rw[YJ]at C_;exact Zaav
abbrev pF [306]:Bool:=#[AV,48<=c/\c<58]
def R6 [306]:(!(Builtin.Str.occurrences #[fV,ZAk] ⟨#[c]⟩ 0 #[Te,ZAk] 1).isEmpty)=pF c:=by
 rw[StrLaws.found_one]
 have e:#[wH,ZAk]=#[qI,10] (·+48):=ZaA
 rw[e];unfold pF;rw[ZP,YD];constructor
 ·intro a_;obtain⟨k,hk,rfl⟩:ak:=a_
  have:=Zavu;omega
 ·intro h
  exact #[bm,c-48,(ZhE (ZaZs)),ZaZs]
def lS [262]:(ZuM)↔Zvp/\Zuq/\(ZaZu)/\¬ (ZaBg/\Zmg≠[48]):=by
 have hz:ZaeG:=Zro
 rw[hz];constructor
 ·rintro⟨ds,N⟩
  have h1:=N.ne;have h2:=N.ln;have h3:=N.nz;rw[N.eq,X7];refine ⟨?_,h2,(Zrs),(fun ⟨a,b⟩=>?_)⟩
  ·cases ds with
   | nil=>exact Zavl
   | cons _ _=>simp
  ·obtain⟨e,he,rfl⟩:ak:=Zxl
   have:=N.dg e he;exact Yc ZRg
  ·cases ds with
   | nil=>exact Zavl
   | cons d ds =>
    have d0:d=0:=by simpa using a
    have:=#[Sz,h3,d0];rw[this]at b;exact b rfl
 ·intro a_;obtain⟨h1,h2,h3,h4⟩:gY:=a_
  have hd:#[aZt,48<=c/\c<58]:=#[pI,Y1 (h3 c hc)];refine⟨z.cps.toList.map (· - 48),⟨?_,?_,ZaqL,Zaq6,#[Cc,h2]⟩⟩
  ·rw[Y7]
   refine Eq.symm ((Zy (g:=id) Zrs).trans (ZaZv _));have:=hd c hc
   show c-48+48=c
   lia
  ·intro q
   have:=#[xL,q];rw[X7]at this;have this:ZaeF=0:=this
   lia
  ·rw[List.head?_map]at q
   cases hc:z.cps.toList.head? with
   | none=>rw[hc]at q;cases q
   | some c =>
    rw[hc]at q;have q:c-48=0:=Yk q;have cm:c∈Zmg:=List.mem_of_mem_head? hc;have:=hd c cm
    have c48:c=48:=Zaf
    have l48:ZazX:=Classical.byContradiction fun n=>h4 ⟨#[b1,hc,c48],n⟩;rw[l48];rfl
  ·obtain⟨c,hc,rfl⟩:ak:=ZeB he
   have:=hd c hc
   lia
def IJ {z y:Str}:#[AW,#[eh,z,y],#[AV,Zmg=y.cps.toList]]:=by
 rw[ZP];constructor
 ·intro e;rw[ZtG e]
 ·intro e
  obtain⟨⟨l⟩⟩:=z;obtain⟨⟨m⟩⟩:=y;have e:l=m:=e;rw[e]
open Classical in
noncomputable def numW (z:Str):V:=if h:ZuM then Zae (Zmy ZaZx) else ZaJ
def zV [328]:Zf7 z=ZaHL:=by
 have e:ZuM:=⟨ds,h⟩;unfold numW;rw[dif_pos e,M9 e.choose_spec h]
def F3 [358]:Zf7 z=ZaJ:=by
 unfold numW;rw[dif_neg fun ⟨ds,e⟩=>h ds e]
def wo [262]:sv (Zf7 z)=Zad:=by
 unfold numW;split<;>rfl
def yo {c:Nat}:∀ {l p:Zbi},p∈Ziz->(∀ a∈p,a∈l)/\ZaeI<=ZbM
 | [],p,h=>by
  rw[#[gW,vD c []=[[]]],Yj]at h;subst h;exact⟨fun a ha=>(by cases ha),Zbs⟩
 | b::l,p,h=>by
  rw[kS]at h
  by_cases z:b=c
  ·rw[ZrD]at h
   rcases ZwX with e | e
   ·subst e;exact⟨fun a ha=>(by cases ha),Zdb⟩
   ·have:=yo e
    exact ZaX7
  ·rw[Zry]at h
   cases hs:Ziz with
   | nil =>
    rw[hs]at h;have e:=ZdN h;subst e;exact#[wC,#[Kx,#[aW,ZdN ha,Ye]]]
   | cons q qs =>
    rw[hs]at h;rcases ZwX with e | e
    ·subst e
     have:=yo (c:=c) (l:=l) (p:=q) #[aX,hs,Ye]
     exact⟨fun a ha=>by
      rcases ZcI ha with y | y
      ·rw[y];exact Ye
      ·exact Yh _ (Zq2 a y),ZaZy ZDg⟩
    ·have:=yo (c:=c) (l:=l) (p:=p) #[aX,hs,Yh _ e]
     exact ZaX7
def DB [306]:∀ l:Zbi,#[jS,(vD c l),ZbM]/\Ziz≠[]
 | []=>⟨Zbs,by simp[vD]⟩
 | b::l=>by
  have ih:=DB c l;rw[kS]
  by_cases z:b=c
  ·rw[ZrD];exact#[wC,#[po,YF,YF]]
  ·rw[Zry]
   cases hs:Ziz with
   | nil=>exact #[dg,hs,ih.2]
   | cons q qs=>rw[hs]at ih;exact#[wC,by have:=ih.1;rw[YF]at *;rw[YF];lia]
abbrev mY [306][262]:Zbe:=Txt.split z ⟨#[c]⟩
def ph [189][262]:#[azD,0].map (·.cps.toList)=ZUL:=LB z hc
def CY [189]{z:Str}{ws:Zbe}(h:ws.map (·.cps.toList)=ZUL):mY c z=ws:=by
 have:=(ph hc z).trans h.symm
 exact (List.map_inj_right (fun x y e=>by
  obtain⟨⟨l⟩⟩:=x;obtain⟨⟨m⟩⟩:=y;have e:l=m:=e
  rw[e])).mp this
def LL [189][262]:∃ w ws,mY c z=w::ws:=by
 cases e:mY c z with
 | nil =>
  have:=ph hc z;rw[e]at this;exact #[dg,this.symm,(DB c _).2]
 | cons w ws=>exact #[eM,w,ws]
def LM [189]{z:Str}(a:ZjX):#[jS,ZazD,Zb6]/\∀ w∈mY c z,xW w/\#[nb,Zmm]:=by
 have hz:ZaeG:=Zro
 have e:=ph hc z;refine#[wA,#[tE,?_]]
 ·rw[<-X7 (f:=(·.cps.toList)),e,hz]
  exact (DB c _).1
 ·have hm:w.cps.toList∈ZUL:=by rw[<-e];exact Zk (f:=(·.cps.toList)) hw
  have:=yo hm;refine#[wA,by rw[hz];show w.cps.size<=_;rw[<-YS];exact ZDg];unfold xW at a ⊢;rw[<-Array.all_toList,YT]at a ⊢;exact #[B3,a,(Zq2 x hx)]
def K1 {K:ge}{te:TE}{Qf:Zj5}{lr q:Addr}{α:ZfK}(g:α->V){rs:Zd2}{f:α->V}{rest:L2.St}{H:Hp}(hq:Zod)(h1:#[aK,lr,#[mQ,ZAg,g]])(hlen:Za4C)
  (ht:∀ (r:α)(HK:Hp)(Q':VK),#[aSr,te,Zab (g r)]) (k:#[Z4,#[iy,#[mQ,ZAg,f]]]) :
  #[abi,(RM K lr),EN,te]:=by
 refine de (K:=K) (a:=lr) (xs:=ZAg g) #[gs,#[iB,ZVY,Zij,#[iy,#[mQ,(ZaeJ i).map,f]]]] ZxU ZayV ?_ ?_
 ·intro i y σ HK hi a_;obtain⟨v,rfl,t1,C_⟩:az:=a_
  obtain⟨r,B_,rfl⟩:ak:=Zdd;have hil:Za4B:=ZTB;refine #[aSf,iS,#[aLb,#[rj,X7,YL,Zhe]]];rw[ac,YG,B_,YE,Yu];rfl
 ·intro σ HK a_;obtain⟨v,rfl,t1,C_⟩:az:=a_
  rw[X7,YJ]at C_;exact Zaav
inductive Vp [56]:Zaa
 | mk (z w0:Str)(ws:Zbe)(_:ZFh)(_:ZjX)(_:#[uo,900])(_:ZaJ3)(_:(Zarz)->∀ (t:Addr)(H':Hp),ZSR->Zcw->#[cB,t,(Zbb (Zax w0::ZhR Zf7))]->Q ZQs H')(_:(Zak6)->ZNj)
abbrev bA [206]:Zbi:=x.cps.toList
def iF [206]:ZgX=#[a0,bA,x]:=by unfold bA;rw[YS];rfl
def Ck (g:Zlb):∀ [161](a:Zlb),(ZaZA (#[aEb,g]) a).toList=ZaZB++#[pB,(ZtI fun p=>g.toList++bA p)]
 | [],a=>ZaM
 | ZlK,a=>by
  rw[Z3,Ck g ps];simp[bA]
def PN (sep p:Str)[161]:bA (ZaYi sep (p::ps))=bA p++#[C5,ZtI,bA sep++bA q]:=by
 unfold Txt.join Builtin.Str.glued
 show ((ZaZA (#[aEb,sep.cps]) p.cps)).toList=_
 rw[Ck];rfl
abbrev OS [195]:Zaa:=0<=g/\ZaGf
def zU [253](h:OS g):ZaSe:=P8 h.1 h.2
def Tf [253](h:OS g):Zf7 (mr g)=Zu3:=by
 refine ZaNY;rw[zV N,e]
def kh [253](h:OS g):#[Db,#[Oq,bA (mr g),48,58],mr,g,12]:=by
 refine ZaNY;unfold bA;rw[N.eq];refine⟨Zrs,#[Cc,N.ln]⟩;obtain⟨d,hd,rfl⟩:ak:=Zxl;have:=N.dg d hd;exact ZRg
def CW (d:bY):#[Db,#[Oq,ZaBI,97,123],ZkB,d,8]:=by
 have e1:ZaG4:=ZaA
 have e2:ZaG5:=ZaA
 have e3:ZaG3:=ZaA
 cases d with
 | come g=>show #[ZS,Zc5,Zc5];rw[e1];decide
 | go g=>show #[ZS,Zck,Zck];rw[e2];decide
 | exch a b=>show #[ZS,Zer,Zer];rw[e3];decide
def JC (d:bY):bA (sE d)=ZaBI++#[pB,(Zti Zv1)]:=by
 unfold sE OJ;rw[PN,Y7]
 have e:bA #[fV," "]=[32]:=ZaA
 have e2:(#[a9,bA (ZfU " ")++bA q]) ∘ mr=Zv1:=funext fun g=>by
  show bA (ZfU " ")++_=_
  rw[e];rfl
 rw[e2]
def CP [388]:∀ {qs:ZU3}[388],32∉p->(∀ q∈qs,32∉q)->vD 32 (p++#[C5,ZKy,32::q])=p::qs
 | [],p,hp,_=>by rw[List.map_nil,List.flatten_nil,Zd,EK hp]
 | q::qs,p,hp,hq=>by
  rw[Ys,List.flatten_cons,List.cons_append,EJ _ hp];rw[CP (p:=q) (hq q Ye) fun r hr=>hq r #[fq,hr]]
def Ho [345]:mY 32 (sE d)=ZaOS:=by
 refine ZaHk
 show _=vD 32 (bA (sE d))
 rw[JC,show (Zti Zv1)=(Zti #[gR,bA (mr g)]).map #[a9,32::q] by rw[Y7];rfl,CP (p:=[])]
 ·rw[Ys,Y7];rfl
 ·intro z;have:=(CW d).1 32 z;lia
 ·intro q hq z
  obtain⟨g,hg,rfl⟩:ak:=ZatJ;have:=ZaDq 32 z
  lia
def K0 [345]:#[Db,#[Or,bA (sE d)],sE,d,40]:=by
 rw[JC];have w:=CW d;refine#[bF,Zrs]
 ·rcases Zd_ hc with z | z
  ·have:=w.1 c z;lia
  ·refine #[asJ,z,fun l hl hc=>?_]
   obtain⟨g,hg,rfl⟩:ak:=ZeB hl;rcases ZcI hc with y | y
   ·lia
   ·have:=ZaDq c y;lia
 ·cases d with
  | come g =>
   have:=ZaDt;rw[Yr]
   have e:#[aNN,Zf4]:=ZAl
   rw[e,YF];lia
  | go g =>
   have:=ZaDt;rw[Yr]
   have e:#[aNN,.go]:=ZAl
   rw[e,YF];lia
  | exch a b =>
   have h1:=(kh (h a Ye)).2;have h2:=(kh (h b (Yh _ Ye))).2;rw[Yr]
   have e:#[pB,((Ztg (Zi7 a b)).map Zv1)]=32::bA (mr a)++32::bA (mr b):=ZAl
   rw[e,Yr,YF,YF];lia
def L6 [425](h:∀ c∈bA x,c<128):xW x:=by
 unfold xW;rw[<-Array.all_toList,YT];exact #[pI,Yc (h c hc)]
structure Wb [288][77](dz:Addr):Zaa extends HB K mg w dz where
 ha:#[a2i,c.C]
 hn:Za0B
 ht:Zafy
 hm:#[a2W,c.C]
 kk:#[afs,c.C,c.C,Zad]
structure Wa [288][77](dz cQ fQ:Addr):Zaa extends Wb K mg w c dz where
 eQ:#[wk,cQ,fQ]
 gQ:VT K cQ Zi8
 tQ:#[a3L,fQ]
 mQ:#[bI,ZpK,cQ]
 qq:#[agN,cQ,cQ]
 aq:#[agO,Zfb,cQ]
 nq:#[agR,cQ]
 mq:#[agO,Zfc,cQ]
 sq:#[agT,cQ]
 tq:#[agQ,cQ]
abbrev yJ [4](cQ fQ:Addr):Zaa:=#[a4t,fQ,ZrJ,cQ,Zi8,ZrJ]
inductive RO where
 | done | notext (k:Int) | out (o:UD)
abbrev lU [196](k:Nat):Zau1->ZbB->RO×eD
 | [],tail=>(#[eY,tail,ZKz (ZaO+1),Zcv],st)
 | Zac::_,_=>(ZKz (ZaO+1),st)
 | ZQq::l,tail=>#[b4,Zgr,lU ZPE Zgi l tail,ZaLe]
abbrev O3 [77](cQ:Addr)(E:XK)[33]:RO->Zaa
 | Zcv=>False
 | ZKz k=>#[Pd,[(Zi8,Zae k)],cQ]
 | .out o=>ZVJ
def kE.mono {c:HX}{E:XK}{H H1:Hp}{o:UD}(h:ZVJ)(s:ZTD):kE c E H1 o:=by
 cases o with
 | done=>exact h
 | already=>exact ZKB
 | masked=>exact ZKB
 | same=>exact ZKB
 | met=>exact ZKB
 | noguest g=>exact fun dx H' s' e=>h dx H' (ZKA s') e
structure LU [262]:Zaa where
 asc:Zay'
 len:ZXC
 bad:∃ w0 ws,ZaJ3/\((Zak6)\/ZaOE)
abbrev RQ [184](q:ZawH):Zaa:=match q.2 with
 | ZQq=>#[aan,q.1]
 | none=>LU q.1
structure LZ [184][292]:Zaa where
 ok:∀ q∈qs,RQ L q
 cp:bA z=ZamG++Zxs
 ta:#[Or,Zxs]
 tn:#[a0,bA,tl]<=100
def DC [71]{q:ZawH}(h:RQ L q):(#[Or,ZCN])/\#[a0,bA,q.1]<=100:=by
 obtain⟨z,o⟩:=q
 cases o with
 | none=>have h:LU z:=h;exact⟨h.asc,h.len⟩
 | some d =>
  have h:#[aan,z]:=h;have:=K0 #[iP,(h.2 g hg).2.2]
  show (∀ c∈bA z,_)/\ZXC
  rw[h.1];exact⟨Zq2,Zaf⟩
def OA [180]:mY 10 z=qs.map (·.1)++[tl]:=by
 refine ZaHk
 show _=vD 10 ZdV
 rw[h.cp]
 have n10:10∉Zxs:=#[R8,h.ta 10 z]
 have ok:=h.ok;clear h
 induction qs with
 | nil =>
  rw[List.map_nil,List.map_nil,List.nil_append,List.flatten_nil,List.nil_append,EK n10];rfl
 | cons q qs ih =>
  have nq:10∉ZCN:=#[R8,#[aPk,0].1 10 z]
  have e9:#[C5,ZHu,ZamF]++Zxs=ZCN++10::(ZamG++Zxs):=ZaM
  rw[e9,EJ _ nq,<-Zayt];rfl
def Uc [180]:#[uo,101*ZAm+100]:=by
 rw[iF,h.cp,Yr];have tn:=h.tn;have ok:=h.ok;clear h
 have:#[bc,(ZamG),101*ZAm]:=by
  induction qs with
  | nil=>exact Zbs
  | cons q qs ih =>
   have l1:=#[aPk,0].2;have:=Zayt;rw[Ys,List.flatten_cons,Yr,Yr,YW,YF]
   lia
 lia
abbrev pK (tl:Str):Bool:=!#[AV,ZaHJ]
inductive J2 [77](cQ:Addr)[56]:Zaa
 | mk [292][184](_:ZFh)(_:ZaQd)(_:ZAm<=60)(_:ZavL)(_:(lU ZcW 0 (qs.map (·.2)) Zr').1=Zcv->∀ (x:Addr)(B:HA)(H':Hp),ZDj->Ev c H H' x B (lU ZcW 0 (qs.map (·.2)) Zr').2->Q Zli H')(_:(lU ZcW 0 (qs.map (·.2)) Zr').1≠Zcv->O3 c cQ E H (lU ZcW 0 (qs.map (·.2)) Zr').1)
def Iq [218](h:Zgr):#[aRw,lU ZPE Zgi l t]:=by
 show Zaz3
 rw[ZcE]
def Lw [218](h:bn st d≠Zcv):#[aRw,ZaLe]:=by
 show Zaz3
 rw[Zco]
abbrev Te (p:Zbi):Bool:=#[AV,1<=ZaeI]&&#[AV,ZaeI<=12]&&p.all pF&&!(#[AV,#[ah,p.head?,48]]&&#[AV,p≠[48]])
abbrev Vq (p:Zbi):Nat:=if p=Zaqb then 2 else if p=Zao0 then 2 else if p=ZaqB then 3 else 0
abbrev UK [30]:Bool:=match vD 32 l with
 | []=>false
 | ZlK=>ps.any (#[a9,! Te q])||#[AV,Vq p≠ZfR+1]
def P6 {z:Str}(h:Te ZdV=Zaz):ZWk:=fun ds N=>by
 refine #[aLA,ZvZ,ZDy];rw[iF]at h1 h2;have h3':#[dV,0].all pF=Zad:=YT.mpr h3
 have h4':#[kM,#[AV,ZP5]&&ZaEH]:=by
  cases e:(#[AV,ZP5]&&ZaEH) with
  | false=>rfl
  | true =>
   rw[Y4,Zw,Zw]at e;exact #[dg,e,h4]
 unfold Te at h;rw[Yc h1,Yc h2,h3',h4']at h;cases h
def Df {x y:Str}(h:bA x=bA y):x=y:=by
 obtain⟨⟨a⟩⟩:=x;obtain⟨⟨b⟩⟩:=y;have h:a=b:=h;rw[h]
def PB [411]:qt ZgY w=#[b4,ZaLv,ZaJ,Zae (Vq (bA w):Nat)]:=by
 have k1:ZaG4:=ZaA
 have k2:ZaG5:=ZaA
 have k3:ZaG3:=ZaA
 by_cases h1:w=Zc5
 ·subst h1
  show qt ZgY #[fV,Zc5]=_
  rw[k1]
  decide +kernel
 by_cases h2:w=Zck
 ·subst h2
  show qt ZgY #[fV,Zck]=_
  rw[k2]
  decide +kernel
 by_cases h3:w=Zer
 ·subst h3
  show qt ZgY #[fV,Zer]=_
  rw[k3]
  decide +kernel
 have e:ZaLv:=by
  unfold Vq;rw[#[Zx,h1,k1.symm],#[Zx,h2,k2.symm],#[Zx,h3,k3.symm]]
 rw[e,Zav];unfold qt sizesD
 have b1:#[t8,w,Zc5]:=ZIw
 have b2:#[t8,w,Zck]:=ZaeM
 have b3:#[t8,w,Zer]:=by simpa using h3
 simp only[List.lookup,b1,b2,b3]
def RX {z:Str}(h:Zay')(hl:ZXC)(hb:UK ZdV=Zad):LU z:=by
 refine#[br,h,hl];refine Pl (LL (c:=32) ZaF z) fun w0 ws e=>?_;have em:=ph (c:=32) ZaF z;rw[e]at em;have em:vD 32 ZdV=bA w0::ZhR bA:=em.symm;refine ⟨w0,ws,e,?_⟩;unfold UK at hb;rw[em]at hb;simp only[Bool.or_eq_true,List.any_eq_true,Zw]at hb;rcases hb with ⟨q,hq,nq⟩ | hb
 ·obtain⟨w,hw,rfl⟩:ak:=ZatJ
  exact Zal ⟨w,hw,(P6 (by simpa using nq))⟩
 ·refine Zaq ZaqL
  rw[PB]at q;rw[X7]at hb;split at q
  ·cases q
  ·have:=Zata
   lia
#print Wz
namespace L2
open PySem PySem.Spec PyProof.Rows
section
variable {prog:Program}{w:World}{A:Around}{E:Zfh}{s:Shared}
def ja {it t:Addr}{i:Nat}{xs:Zhz}{x:Value}{Q:Zfh}(hI:ZaL6)(hT:Zagc)(hx:ZKD)
  (k:#[a3a,#[aeT,it,t,Zcz],it,Q x Zkq]):Za3x:=by
 obtain⟨ot,et,_,m,dt⟩:jB:=hT;refine ZaMi;unfold Builtin.SmallTypes.nextOf;refine Za40
 show #[qd,Zmt #[ak,it] 0]
 refine ZaAG
 show ZaIz
 rw[ZaEP]
 show #[qd,Zmt #[ak,it] 1]
 refine ZaAH
 show ZaBQ
 refine ZaMk;simp only[Int.toNat_natCast,hx];refine X5 (aQe ei di ZaN (Yg #[hn,x,Yg (k _ #[ce,Y5 _ ei (Zadi (ZR di _)),(ZaXe ..).trans ci,?_] Zazd)]));rw[ZR di];simp[rawInt]
def wg {it t:Addr}{i:Nat}{xs:Zhz}{Q:Zfh}(hh:Zeo)(hI:ZaL6)(hT:Zagc)(hx:ZKC = Zac)
  (k:∀ h' e,Heap.ExtBut it ZaE h'->(ZaMP)->ZaAD):Za3x:=by
 obtain⟨ot,et,_,m,dt⟩:jB:=hT;refine ZaMi;unfold Builtin.SmallTypes.nextOf;refine Za40
 show #[qd,Zmt #[ak,it] 0]
 refine ZaAG
 show ZaIz
 rw[ZaEP]
 show #[qd,Zmt #[ak,it] 1]
 refine ZaAH
 show ZaBQ
 refine ZaMk;simp only[Int.toNat_natCast,hx];refine #[aeh,(aQe ei di ZaN ?_)]
 show #[h5,newExc (Zbn ZaeO) []]
 refine ZbX;simp only[newExc,newTuple];refine X5 (Za ?_ ZaZF);refine X5 (m:=firstArgMember _ _) (ZJ5 (a:=ZiL) (by first | rfl | (simp only[firstArgMember];rfl)) ?_);refine Za ?_ (ZaZE);simp only[raiseNew];refine #[k_,wpAny_handled]
 first | rw[show A.in1.handled=Zac from hh] | rw[hh]
 exact X5 (Yg (ZaYt (k _ _ ((#[azd,0].extBut.push _).push _) #[dB,Zd0])))
#where
def UN [421](it t:Addr)(hne:ZVz)[364] :
  Draws ZiH w A it [it,t] xs.size (#[Dh,ZKC]) (fun i h=>ZaVa/\h.IsTuple t xs) where
 live:=fun _ _ st=>by obtain⟨⟨o,e,_⟩,_⟩:=st;exact ZoO
 frame:=fun _ _ _ st k=>⟨#[amv,#[jH,0].at],#[hl,0].at #[An,k t ZaN o e]⟩
 item:=fun i s Q E hi st k=>ja ZjH Zhl (x:=xs[i]) (ZJ4) fun h' A_ sb=>k _ h' Zca (ZJ4) ⟨A_,#[hl,0].extBut sb.extBut hne⟩ sb
 done:=fun s Q E st k=>wg hh ZjH Zhl ZaN k
set_option tactic.hygienic true
def FE (t:Addr)[364]:Meets (ZaYC #[dX,[ZlE,Zaj t]]) (fun _ R s=>Zagc /\
   R (.ok (ZfO (Zaj (s.heap.push { cls:=ZEz,data:=ZaL #[ZnX,Zj_] }).objs.size)))
    { s with heap:=(s.heap.push { cls:=ZEz,data:=ZaL #[ZnX,Zj_] }).push { cls:=ZlE,data:=ZaL #[Zan,ZfD,Zlj,ZfP 0,Zan,Zan] } }) :=
 Zaek fun prog w A R s h=>by
  obtain⟨hp,g,d,tk,os⟩:=s;obtain⟨hT,h⟩:=h;have su:=sub_enumerate;have hT2:#[Hj,ZaeP,hp,t,xs]:=hT;refine jB (id hT) fun ot et ct m dt=>?_
  wp_walk using ZYb
  refine ZaEa;split
  ·rename_i c _ _ _ _ _
   cases Za2L<;>(wp_walk using ZYb,Z0 hT2;exact ZrI)
  ·wp_walk using ZYb,Z0 hT2
   exact ZrI
section
variable {prog:Program}{w:World}{A:Around}{E:Zfh}{s:Shared}
set_option tactic.hygienic false
def GX {t:Addr}{xs:Zhz}{Q:Zfh}(hT:Zagc)
  (k:#[aSU,0,#[aeT,Zar,t,0]]) :
  #[Hm,ZdK,[ZnX]]:=by
 refine ZaZG Zael ZaF (F.typeCall_enumerate_1 _) (F.newCall_enumerate_1 _) (fun obj=>F.args_object_init_2 obj _) ZaYK (FE t xs) #[bF,hT];obtain⟨oi,eoi⟩:∃ oi:Obj,oi={ cls:=ZEz,data:=ZaL #[ZnX,Zj_] }:=ZbG
 show _/\_
 rw[<-eoi];have sz:#[l2,ZawN]=ZdC:=ZD7;have he:=Ym ZawN (o:={ cls:=ZlE,data:=ZaL #[Zan,ZfD,Zlj,ZfP 0,Zan,Zan] }) rfl;rw[sz]at he ⊢;refine⟨ZE9,k _ he ⟨oi,(X6 _ (Ym _ #[n',eoi])),(#[gT,eoi]),(#[cJ,eoi])⟩ Zals⟩
#where
abbrev LW [37](t:Addr):It :=
 #[aRU,ZWt,ZjN,ZWt,ZWt]
set_option tactic.hygienic false
def IP [166](e it t:Addr)(hne:e≠it):#[aRB,(LW K t),Zqv,ZaVa] where
 mem:=ZaM
 obj:=fun i h st b hb=>by
  obtain⟨⟨old,he⟩,⟨o,eo,c,d⟩⟩:=st
  have hb:Zys:=ZbZ
  rcases hb with rfl | rfl
  ·exact ⟨_,he,(fun v z=>by cases z)⟩
  ·exact ⟨o,eo,(fun v z=>by rw[d]at z;cases z)⟩
 keep:=ZaST
 item:=by
  intro X hP hw hK hc i pins s σ H E I hf st hg;subst hP hw hK;obtain⟨xs,x,hq,hx⟩:bU:=hg;refine ZFI;have p:ZaFu:=p;refine ZON;obtain⟨⟨old,he⟩,hit⟩:=st;have fe:=ZaFM;have fi:=ZHN;have lte:#[dc,e]:=Yf he
  have lti:ZTY:=ZaQ4
  have net:e≠t:=fun z=>by
   refine ZY';rw[<-z,he]at eo;cases eo;simp at c
  have nit:ZVz:=fun z=>by
   refine ZY';refine ZaJy;rw[z,eo2]at eo;cases eo;rw[c2]at c;simp at c
  have hil:i<Zmd:=#[ac7,Zatj]
  refine #[aMv,(#[aJW,UN,t,nit]),⟨hit,p⟩,hil,by simp[hne,net],fun y h' tk hy ho bk6 hT hsz hk=>ZYS]
  have ey:y=u:=by
   have hy:#[k7,ZzO]:=hy
   have hy:#[k7,e_[i]?]:=by simpa using hy
   rw[hu]at hy;exact #[js,hy]
  subst ey;refine ZaR';have O_:ZEx:=ZxA
  have IL:aS X pins σ Zaju { s with heap:=s.heap.push { cls:=ZfX,data:=ZaT #[ZF9,y] },toks:=s.toks } :=
   #[alV,ZF9,y,ZbG,ru]
  have fp':#[aNl,Zaju]:=ZaTZ
  have I2:#[Kl,Zaju,h2,tk+1]:=IL.turned2 (t':=tk+1) (h':=h2) (fun b o n1 n2 q=>by
   refine Zaab
   show Zd9
   by_cases hb:ZTc
   ·subst hb
    have q:(s.heap.push { cls:=ZfX,data:=ZaT #[ZF9,y] }).get? s.heap.objs.size=ZeZ:=q;rw[Zd0]at q;cases q;exact hT
   ·have q:(s.heap.push { cls:=ZfX,data:=ZaT #[ZF9,y] }).get? b=ZeZ:=q
    refine ZaN2;rw[ZZl]at q
    exact q) ZaMl ZaO8
  refine #[aSM,Zab5,⟨Zasc,bk6.1.at ZaOQ⟩]
  have hb':Zys:=ZbZ
  rcases hb' with rfl | rfl
  ·exact ZaIN
  ·exact ZaIM
 done:=by
  intro X hP hw hK hc i pins s σ H E I hf st hg;subst hP hw hK;obtain⟨xs,hq,hx⟩:ak:=hg;refine ZFI;have p:ZaFu:=p;obtain⟨⟨old,he⟩,hit⟩:=st;refine Ze3
  have nit:ZVz:=fun z=>by
   refine ZY';refine ZaJy;rw[z,eo2]at eo;cases eo;rw[c2]at c;simp at c
  have hl:=rv.length;unfold pyNext;refine #[aBB,Zr (name:=Zws) (T:=ZdK) ZE9 ZaZH (ZD ZaZH (T:=ZdK) ZE9 F.entry_enumerate_next ?_ (F.args_enumerate_next_1 _))]
  show #[h5,Zmt #[ak,e] 2]
  refine X5 (#[gd,he,rfl,Zaj it,?_]);refine X5 (wg (A:=Ztj) ZI7 hit p ZJ7 fun h' x eb hx=>?_);obtain⟨o,ho,co⟩:ak:=hx;refine #[aOs,co];exact Yg #[da,Za2D]
 self:=Za4Q
abbrev SB [37](t:TA):TI:=#[aOV,bL K H1 l xs,LW]
def Nw {X:Cx}{elts:Zbh} {kk}{aq1:Pos}{a:Expr}{ta:TA}{p pos:Pos}(hg:ZauN)(hm:Zaxr)(ha:ZXQ)
  (he:ZaLV:=by rfl) (r_:Zau2 (·.1)=false:=by rfl):PI X #[Jc,elts] (Zcu (Zcp ZdK p) [a] [] pos) (SB X.K ta):=by
 intro pins s σ H R I h;refine ZaAK;refine Zc ZahJ he r_;obtain ⟨vs,H1,I1,r1,l,e1,⟨xs,hq⟩,q⟩:=zz;subst e1;obtain⟨u,rfl,rx⟩:ak:=iX r1;cases rx;refine az (ZI5 hq) ZCZ;refine GX (show ZaeQ l Zci from pl) #[aYQ,?_];have I2:#[aob,H1,h']:=Zzj hk;refine #[a4P,#[adA,h']];refine #[aRJ,Zew,ZSD,Zew,H1,I2,IP]
 have hb:b=ZSD\/Zw6:=ZbZ
 rcases hb with rfl | rfl
 ·exact I1.fpOk (aQd _) (ZzS (aQd _))
 ·exact ZN'
def KL {K:ge}{a:Addr}{xs:Zbg}{g:TG}{tb:TS}{D:kA}{σ:St}{H:Hp}(Pv:ZiC)(h0:Zj2)(hl:ZaAp)
  (hs:#[aLa,ZjN]) (hd:ZMM) :
  ∃ W:Zhu,ZiA/\∀ i m σ H,Zhr ->
   #[ah1,ZU2,ZU2,ZU2]:=by
 refine ZNW;intro i m σ H a_;obtain⟨rfl,hi,p⟩:fz:=a_;have q:=Zsr
 by_cases q_:ZrK
 ·refine ZaPS
  obtain⟨T,x,hT,e1,e2,hx⟩:cg:=z;subst e1 e2;exact ZaKy
 ·have e:ZFb:=Zaf
  subst e;exact ZZu
open PySem PySem.Spec PyProof.Rows PySem.Calls
section
variable {prog:Program}{w:World}{A:Around}{E:Zfh}{s:Shared}
def GI {z TI TO i1 i2 l1 l2:Addr}{k1 k2:Nat}{xs ys:Zhz}{x y a b:Value}{Q:Zfh}(D:Zkb)
  (hz:ZHz) (hTI:ZM8) (hTO:ZM9)
  (h1:ZMR) (h2:ZMT) (u_:Zaga) (m_:Zagb) (hx:ZrO) (hy:ZFp)
  (k:∀ h',ZaID->ZawC->ZaeU->ZaeV->ZF2->ZFV ->
   #[aSu,ZWq]) :
  ZaP_:=by
 show ZWa
 refine ZWb
 show ZV'
 refine X5 (#[gd,hz,rfl,ZQw,(X5 (ZJ hTI rfl ?_))])
 show ZaYa
 refine ZbX;unfold Builtin.SmallTypes.ownedTupleIsFree;refine X5 (#[gd,hz,rfl,Zan,Zrc]);simp only[ZQ];refine #[aeh,(#[gd,hz,rfl,Zaj TO,(X5 (ZJ_ hz ZaN fun g1 z1 b1=>?_))])]
 replace z1:#[awp,g1]:=z1
 refine ZbX;simp only[List.zipIdx_cons,List.zipIdx_nil,aQl,List.forIn_nil];refine X5 (X5 (ZaZI ?_))
 show Za3v
 refine X5 (ja (ZaZJ ZAp D.i1z) (ZaZK ZAp ZKE) hx fun g2 t2 b2=>Zog);have o2:ZhS g2 TO a b:=ZKF _ _ D.TOi1 (ZAp _ _ D.TOz hTO);refine #[aAC,o2,o2,fun g3 o3 b3=>?_]
 replace o3:ZhS g3 TO x b:=o3
 refine #[axp,(X5 (X5 (ZaZI ?_)))]
 show Za3w
 refine X5 (ja #[aMW,ZaZM,D.i2z,ZaZN,ZaZP] #[aMW,ZaZQ,ZKG,ZKH,D.l2TO] hy fun g4 t4 b4=>Zog);have o4:ZhS g4 TO x b:=ZKI _ _ D.TOi2 o3;refine #[aAC,o4,o4,fun g5 o5 b5=>?_]
 replace o5:ZhS g5 TO x y:=o5
 refine #[axp,(Yg (X5 (ZJ o5 rfl (X5 (ZaZS ?_)))))]
 have sz:#[R0,ZpL]:=by rw[b5.1,b4.1,b3.1,b2.1,b1.1]
 have z5:#[awp,g5]:=ZKJ _ _ ZaZT (ZKI _ _ ZaZU (ZKK _ _ ZaZT (ZKF _ _ ZaZV z1)));have p1:ZaZW i1 l1 (k1+1):=((t2.extBut ZKK ZaZX).extBut ZKI D.i12).extBut ZKJ ZaZX;have p2:ZaZW i2 l2 (k2+1):=t4.extBut ZKJ ZaZP;have lz:z<ZpL:=Yf z5
 show #[h5,Builtin.SmallTypes.ownedTupleHandOut #[ak,z] #[ak,ZpL]]
 refine ZbX;unfold Builtin.SmallTypes.ownedTupleHandOut;have z6:IsZip (g5.push { cls:=ZfX,data:=ZaT #[x,y] }) z TI TO Zadm:=X6 _ z5;refine X5 (ZJ_ z6 ZaN fun g7 z7 b7=>?_)
 replace z7:#[az5,g7]:=z7
 refine ZJ_ z7 ZaN fun g8 z8 b8=>?_
 replace z8:#[az5,g8]:=z8
 have up:#[kC,c≠z->#[jp,g5.get?]->#[jp,g8.get?]]:=fun c o c1 e=>#[aJh,c1,c1,ZnA];have t8:ZhS g8 ZpL x y:=#[aJh,(YX lz),(YX lz),Zgb]
 have e8:g8.objs.size=ZpL+1:=by rw[b8.1,b7.1,YR]
 rw[sz]at z8 t8 e8;refine ZT6
 show #[b8,ZpL,_]
 rw[sz];exact k g8 z8 (up _ _ D.TOz o5) #[Ao,p1.at,up _ o D.i1z e] #[Ao,p2.at,up _ o D.i2z e] t8 e8 fun c o c1 c2 c3 c4 e=>up c o c1 (ZKJ _ _ c2 (ZKI _ _ c4 (ZKK _ _ c2 (ZKF _ _ c3 (ZAp _ _ c1 e)))))
def IV {z TI TO i1 i2 l1 l2:Addr}{k1 k2:Nat}{xs ys:Zhz}{x y a b:Value}{Q:ZEA}(D:Zkb)
  (hz:ZHz) (hTI:ZM8) (hTO:ZM9)
  (h1:ZMR) (h2:ZMT) (u_:Zaga) (m_:Zagb) (hx:ZrO) (hy:ZFp)
  (k:∀ h',ZaID->ZawC->ZaeU->ZaeV->ZF2->ZFV ->
   #[aSu,ZaxV]) :
  ZXV:=by
 have ty:ZZy:=ZTT;unfold pyNext;exact #[aBB,Zr (name:=Zws) ty aQo (ZD aQo ty ZaZY #[aTx,GI,hTI,hTO,fun h' a1 a2 a3 a4 a5 a6 a7=>Yg (k h' a1 a2 a3 a4 a5 a6 a7)] (ZaeR _))]
noncomputable abbrev LS [130][88]:Heap:=h.push { cls:=ZEz,data:=ZaL #[Zcm,Zj_] }
noncomputable abbrev V4 [130][269]:Heap:=(LS ZV1 b).push { cls:=ZfX,data:=ZaT #[ZEm,Zaj #[l2,ZV1]] }
noncomputable abbrev V5 [130][269]:Heap:=(V4 h a b).push { cls:=ZfX,data:=ZaT #[Zan,Zan] }
noncomputable abbrev Uh [130][269]:Heap:=(V5 h a b).push { cls:=ZSW,data:=ZaL #[Zan,ZfD,ZfD,Zaj #[anN,ZV1],Zaj #[l2,(V4 h a b)]] }
def Hs [269](xs ys:Zhz):Meets (Builtin.«zip.__new__» #[dX,[ZSW,Zcm,Zaj b]]) (fun _ R s=>Zazv/\ZazG/\R (.ok (ZfO #[ak,ZWl])) #[kp,Uh ZaE a b]) :=
 Zaek fun prog w A R s h=>by
  obtain⟨hp,g,d,tk,os⟩:=s;revert h;intro a_;obtain⟨ha,hb,h⟩:fz:=a_;have su:=sub_zip;have ta:#[Hj,ZaeP,hp,a,xs]:=ha;have tb:#[Hj,ZaeP,LS hp a,b,ys]:=ZaZZ hb Zaq2
  wp_walk using Z0 ta,Z0 tb
  exact ZrI
def Ku {a b:Addr}{xs ys:Zhz}{Q:Zfh}(ha:Zazv)(hb:ZazG)
  (k:∀ h',IsZip h' ZayG ZazC Zaww Zan->ZhS h' ZazC ZcU #[ak,Zig] ->
   ZhS h' Zaww Zan Zan->ZaeS Zar a 0->ZaeS Zig b 0->#[xG,ZiT,5] ->
   (#[kC,ZOv->ZCq])->#[b8,ZayG,Zkq]) :
  #[Hm,Zdu,[Zcm,Zaj b]]:=by
 refine ZaZG F.called_zip ZaF (F.typeCall_zip_2 _ _) (F.newCall_zip_2 _ _) (fun obj=>F.args_object_init_3 obj _ _) F.entry_zip_new (Hs a b xs ys) #[br,ha,hb];have e1:ZaqV=ZdC:=ZD7
 have e2:#[xG,ZaA',2]:=#[D2,e1]
 have e3:#[xG,ZaxM,3]:=#[D2,e2]
 have e4:#[xG,ZWl,4]:=#[D2,e3]
 have e5:#[xG,#[OL,Uh],5]:=#[D2,e4]
 have g5:#[yu,ZWl]:=Zd0;have g4:#[yu,ZaxM]:=ZasD;have g3:#[yu,ZaA']:=X6 _ ZaBT;have g2:#[yu,ZaqV]:=#[Tg,Zgb];have g1:#[yu,Zar]:=#[Tg,ZaBT]
 show _/\_
 rw[e2,e3,e4]at g5;rw[e1,e2]at g3;rw[e3]at g4;rw[e1]at g2;rw[e4];exact⟨#[dB,g5],k _ g5 g3 g4 #[uW,g1] #[uW,g2] e5 fun c o e=>#[Tg,(X6 _ (X6 _ e))]⟩
def IU {z TI TO i1 i2 l1 l2 T:Addr}{k1 k2:Nat}{b:Bool}{oT:Obj}{xs ys:Zhz}{x y:Value}{Q:Zfh}(D:Zkb)
  (hz:Zah5) (hT:ZHs) (hTI:ZM8)
  (h1:ZMR) (h2:ZMT) (u_:Zaga) (m_:Zagb) (hx:ZrO) (hy:ZFp)
  (hQ:∀ h',Zah6->ZaeU->ZaeV->ZF2->ZFV ->
   (#[kC,ZOw])->ZWq) :
  ZaP_:=by
 show ZWa
 refine ZWb
 show ZV'
 refine ZaxB;refine ZaHV
 show ZaYa
 refine ZaQz;simp only[Bool.false_eq_true,if_false];refine ZbX;simp only[List.forIn_toArray,aQl,List.forIn_nil];refine ZGZ
 show Za3v
 refine ZaZL;refine ZGZ
 show Za3w
 refine X5 (ja ZaZO ZaZR hy fun h₄ h2₄ hs₄=>Yg (Yg (Yg ?_)));refine X5 (ZaZS ?_ ZalU)
 have hsz:#[R0,ZaZ1]:=by rw[hs₄.1,hs₂.1,hs₁.1]
 refine ZT6
 show #[b8,ZaZ1,_]
 rw[hsz];have up:∀ {c:Addr}{o:Obj},#[jp,h₄.get?]->(h₄.push { cls:=ZfX,data:=ZaT #[x,y] }).get? c=ZeZ:=#[bN,ZkY];refine hQ _ (up (ZaeW _ _ ZaZU (ZaeX _ _ ZaZV hz₁))) #[Ao,(h1₂.extBut ZaeW D.i12).at,up e] #[Ao,h2₄.at,up e] ?_ #[g',YR,hsz] fun c o c1 c2 c3 e=>up (ZaeW _ _ c3 #[aNx,e]);rw[<-hsz];exact Zd0
def LQ {z TI TO i1 i2 l1 l2 T:Addr}{k1 k2:Nat}{b:Bool}{oT:Obj}{xs ys:Zhz}{x:Value}{Q:Zasg}(hh:Zeo)(D:Zkb)
  (hz:Zah5) (hT:ZHs) (hTI:ZM8)
  (h1:ZMR) (h2:ZMT) (u_:Zaga) (m_:Zagb) (hx:ZrO) (hy:ZatO)
  (hE:∀ h' e,(#[kC,ZOw])->(ZaMP)->ZaAD) :
  #[tc,ZapH]:=by
 show ZWa
 refine ZWb
 show ZV'
 refine ZaxB;refine ZaHV
 show ZaYa
 refine ZaQz;simp only[Bool.false_eq_true,if_false];refine ZbX;simp only[List.forIn_toArray,aQl,List.forIn_nil];refine ZGZ
 show Za3v
 refine ZaZL;refine ZGZ
 show Za3w
 refine X5 (wg hh ZaZO ZaZR hy fun h₄ e hs₄ he=>?_);exact hE h₄ e (fun c o c1 c2 c3 x=>hs₄ _ _ c3 #[aNx,x]) he
def FZ {z TI TO i1 i2 l1 l2 T:Addr}{k1 k2:Nat}{b:Bool}{oT:Obj}{xs ys:Zhz}{x y:Value}{Q:ZEA}(D:Zkb)
  (hz:Zah5) (hT:ZHs) (hTI:ZM8)
  (h1:ZMR) (h2:ZMT) (u_:Zaga) (m_:Zagb) (hx:ZrO) (hy:ZFp)
  (hQ:∀ h',Zah6->ZaeU->ZaeV->ZF2->ZFV ->
   (#[kC,ZOw])->ZaxV) :
  ZXV:=by
 have hTy:ZZy:=ZTT;unfold pyNext
 exact X5 (wpAny_attempt (Zr (name:=Zws) hTy aQo
  (ZD aQo hTy F.entry_zip_next
   #[aTx,IU,hT,hTI,fun h' a1 a3 a4 a5 a6 a7=>Yg (hQ h' a1 a3 a4 a5 a6 a7)] (ZaeR _))))
def HE {z TI TO i1 i2 l1 l2 T:Addr}{k1 k2:Nat}{b:Bool}{oT:Obj}{xs ys:Zhz}{x:Value}{Q:ZEA}(hh:Zeo)(D:Zkb)
  (hz:Zah5) (hT:ZHs) (hTI:ZM8)
  (h1:ZMR) (h2:ZMT) (u_:Zaga) (m_:Zagb) (hx:ZrO) (hy:ZatO)
  (hQ:∀ h',(#[kC,ZOw])->Q Zac Zkq):ZXV:=by
 have hTy:ZZy:=ZTT;unfold pyNext
 refine X5 (wpAny_attempt (Zr (name:=Zws) hTy aQo
  (ZD aQo hTy ZaZY (LQ hh D hz hT hTI h1 h2 u_ m_ hx hy fun h' e hk he=>?_) (ZaeR _))))
 obtain⟨o,ho,hc⟩:ak:=he;refine #[aOs,hc];exact Yg (hQ _ hk)
set_option tactic.hygienic true
def LR {R:ZlF}{z TI TO i1 i2 l1 l2 S:Addr}{xs ys:Zhz}(hh:Zeo)(D:Zkb)(hxy:ZYi)(hn:ZS0)(res:Value)
  (hS1:S≠z) (hS2:S≠i1) (hS3:S≠i2) (hS4:S≠l1) (hS5:S≠l2) (hS6:S≠TI) :
  ∀ (k i:Nat)[135](acc:Zcr)(arr:Zhz)[306](T:Addr)(b:Bool),arr=#[PT,acc.map]->Zmz-i=k->i<=Zmz->Zah5->T∈acc->ZM8 ->
  #[MQ,i]->#[MS,i]->Zaga->Zagb->ZX9=some { cls:=Zdt,dict:=none,data:=ZaT arr c,slots:=#[] }->ZpF=i ->
  (#[ans,acc[j]?,#[M7,t,x,y]])->(∀ t∈acc,t≠z/\t≠i1/\t≠i2/\t≠S)->acc.Nodup->(∀ t∈acc,#[dc,t]) ->
  (∀ (h':Heap)(n_:Zcr)(c':Nat),(#[GD,ZaCP])->ZVU=some { cls:=Zdt,dict:=none,data:=ZXX,slots:=#[] }->ZYe->n_.Nodup ->
   (#[aeY,t∈acc\/#[rl,t]])->(ZapT)->(#[aeY,t≠S])->ZaIG) ->
  ZaZ9:=by
 intro k
 induction k with
 | zero =>
  intro i s acc arr c T b av1 hk hi hz hT hTI h1 h2 u_ m_ hS hlen J_ hap nd q_ hR
  have hin:i=Zmz:=Zaf
  obtain⟨oT,hoT⟩:∃ o,#[rR,T]:=by
   obtain⟨j,hj⟩:=Y3 hT;refine ZaR2;exact#[a7,p]
  refine ZakD;rw[ZWB]
  show Zaah
  refine X5 (HE (A:=ZhK) hh D hz hoT hTI h1 h2 u_ m_ #[kR,ZS] #[kR,ZaZa] fun h' hk'=>?_);refine Yg (hR h' acc c (fun b o _ b1 b2 b3 e=>hk' b o b1 b2 b3 e) #[gf,av1,#[aRq,hk']] Zag nd (#[mA,Zal ht]) ZYc #[mA,(hap t ht).2.2.2]);refine ZaRX;have ha:=ZaMX;exact au x y e1 e2 (hk' _ _ ha.1 ha.2.1 ZatD p)
 | succ k ih =>
  intro i s acc arr c T b av1 hk hi hz hT hTI h1 h2 u_ m_ hS hlen J_ hap nd q_ hR
  obtain⟨oT,hoT⟩:∃ o,#[rR,T]:=by
   obtain⟨j,hj⟩:=Y3 hT;refine ZaR2;exact#[a7,p]
  refine ZakD;rw[ZWB]
  show Zaah
  have ex:#[ah,ZKC,xs[i]]:=ZEY;have ey:#[ah,ys[i]?,ys[i]]:=ZEY;refine #[aTM,FZ,hoT,hTI,fun h' z' i1' i2' pn sz keep=>?_];have hS':=#[aRq,Zcs]
  show wpAny _ A.in1 (updateSeq S (·.push ZcU) >>= _) _ _ _
  refine ZbX
  have hsa:Zaez=i:=by rw[av1];simp[hlen]
  obtain⟨F_,eh2⟩:∃ F_,F_=h'.update S (Obj.mapSeq (·.push ZaxQ)):=ZbG
  have up:ZaHu:=ZaKZ
  have hSn:#[dc,S]:=Yf hS;have bz5:#[dc,z]:=Yf hz
  have az3:Zat1:=by obtain⟨_,e,_⟩:ak:=h1;exact ZcD
  have az2:Zat2:=by obtain⟨_,e,_⟩:ak:=h2;exact ZcD
  have sz2:Zawr:=ZaI'
  refine #[aW6,#[nk,hsa],by show (ZaeA _).size<=Zpi+1;rw[ZaZi,hsa];lia];rw[<-eh2];have kp:#[GD,b≠i1->b≠i2->Zch->ZQy]:=#[aZ2,up b o b0 (Zcs b o b1 b2 b3 e)]
  refine ih Zcz #[kp,F_] (acc++[Zar]) #[ha,ZaeA,Zar] _ T true (#[e5,av1]) Zag Zag ZaHq (ZT _ hT) (kp _ _ ZaZ3 D.TIz D.TIi1 D.TIi2 hTI) ZaIS ZaIT
   #[Ao,u_.at,kp _ _ ZaZ4 ZKE D.l1i1 D.l1i2 e] #[Ao,m_.at,kp _ _ ZaZ5 ZKG ZKH D.l2i2 e] ZaRb (by simp[hlen]) ZYc Zq0 ?_ Zq0 #[aZ6,?_]
  ·rw[List.getElem?_append]at e
   split at e
   ·refine ZaRX
    have ha:=ZaMX;exact au x y e1 e2 (kp _ _ ha.2.2.2 ha.1 ha.2.1 ZatD p)
   ·rename_i hj
    have hj0:j=i:=by
     have:=#[pc,e];simp at this;lia
    subst hj0;rw[hlen,Nat.sub_self]at e;cases e;exact ZaNt
  ·rcases Zauh with q | q
   ·exact hap t q
   ·rw[ZEZ];exact ZaQW
  ·refine ZKp #[bm,nd,ZaN,fun a ha b hb=>?_]
   rw[ZUV];exact Yo (q_ a ha)
  ·show ZaDe
   rw[sz2];rcases Zauh with q | q
   ·exact Zo (q_ t q)
   ·rw[ZEZ];exact aQg _
  ·refine hR h3 n_ c' (#[aZ2,k3 b o b0 b1 b2 b3 (kp b o b0 b1 b2 b3 e)]) s3 l3 n3 Zq0 p3 f3
   rcases ZV6 with q | q
   ·rcases Zd_ q with q | q
    ·exact ZEJ
    ·rw[ZEZ];exact Zaq (Ya _)
   ·right;have q:ZaA6:=q;lia
set_option tactic.hygienic false
def IW {R:ZlF}{z TI TO i1 i2 l1 l2 S:Addr}{xs ys:Zhz}(hh:Zeo)(D:Zkb)(hxy:ZYi)(h0:ZatR)(hn:ZS0)(res:Value)
  (hS1:S≠z) (hS2:S≠i1) (hS3:S≠i2) (hS4:S≠l1) (hS5:S≠l2) (hS6:S≠TI) (hS7:S≠TO) {a b:Value} {c:Nat} (hz:ZHz) (hTI:ZM8) (hTO:ZM9)
  (h1:#[MQ,0]) (h2:#[MS,0]) (u_:Zaga) (m_:Zagb) (hS:ZX9=some { cls:=Zdt,dict:=none,data:=ZaT #[] c,slots:=#[] })
  (hR:∀ (h':Heap)(n_:Zcr)(c':Nat),(#[GD,#[aPu,Zd9]])->ZVU=some { cls:=Zdt,dict:=none,data:=ZXX,slots:=#[] }->ZYe->n_.Nodup ->
   #[aIw,#[rl,t],ZaIG]) :
  ZaZ9:=by
 refine ZakD;rw[ZWB]
 show Zaah
 have ex:#[ah,xs[0]?,xs[0]]:=ZEY;have ey:#[ah,ys[0]?,ys[0]]:=ZEY;refine #[aTM,IV,hTI,hTO,fun h' z' _ i1' i2' pn sz keep=>?_];have hS':=Zcs _ _ hS1 hS7 hS2 hS3 hS
 show wpAny _ A.in1 (updateSeq S (·.push ZcU) >>= _) _ _ _
 refine ZbX;obtain⟨F_,eh2⟩:∃ F_,F_=h'.update S (Obj.mapSeq (·.push ZaxQ)):=ZbG
 have up:ZaHu:=ZaKZ
 have hSn:#[dc,S]:=Yf hS;have bz5:#[dc,z]:=Yf hz
 have az3:Zat1:=by obtain⟨_,e,_⟩:ak:=h1;exact ZcD
 have az2:Zat2:=by obtain⟨_,e,_⟩:ak:=h2;exact ZcD
 have sz2:Zawr:=ZaI'
 refine #[aW6,ZqG,#[kr,ZSa<=Zpi+1]];rw[<-eh2];have kp:#[GD,#[aPu,ZQy]]:=#[aZ7,up b o b0 (Zcs b o b1 b2 b3 b4 e)]
 refine LR hh D hxy hn res hS1 hS2 hS3 hS4 hS5 hS6 (Zmz-1) 1 #[kp,F_] [Zar] #[Zlj] _ s.heap.objs.size false rfl Zag Zag ZaHq Ye (kp _ _ ZaZ3 D.TIz D.TITO D.TIi1 D.TIi2 hTI) ZaIS ZaIT
  #[Ao,u_.at,kp _ _ ZaZ4 ZKE D.l1TO D.l1i1 D.l1i2 e] #[Ao,m_.at,kp _ _ ZaZ5 ZKG D.l2TO ZKH D.l2i2 e] ZaRb rfl ZYc Zq0 ZaN Zq0 #[aZ6,?_]
 ·cases j with
  | zero=>cases e;exact ZaNt
  | succ j=>simp at e
 ·rw[ZawG];exact ZaQW
 ·show ZaDe
  rw[sz2,ZawG];exact aQg _
 ·refine #[aTc,hR,h3,#[aZ7,k3 b o b0 b1 b3 b4 (kp b o b0 b1 b2 b3 b4 e)]]
  rcases ZV6 with q | q
  ·rw[ZEZ];exact Zbs
  ·have q:ZaA6:=q;lia
def yR {Q:Zfh}{z TI TO i1 i2 l1 l2:Addr}{xs ys:Zhz}(hh:Zeo)(D:Zkb)(hxy:ZYi)(h0:ZatR)(hn:ZS0){a b:Value}
  (hz:ZHz) (hTI:ZM8) (hTO:ZM9)
  (h1:#[MQ,0]) (h2:#[MS,0]) (u_:Zaga) (m_:Zagb)
  (hQ:∀ (h':Heap)(n_:Zcr)(c':Nat),(#[p3,z,b≠TO,ZaCP])->ZVV=some { cls:=Zdt,dict:=none,data:=ZXX,slots:=#[] }->ZYe->n_.Nodup ->
   #[aIw,Zar<t,ZWq]) :
  #[Hm,Zds,[Zaj z]]:=by
 refine callType_codes (Q₁:=fun obj s1=>ZYZ/\s1={ s with heap:=s.heap.push { cls:=Zdt,data:=ZaT #[] } }) PySem.F.called_list ZarS PySem.F.entry_list_init ZaEG fun obj s1 he=>?_;obtain⟨rfl,rfl⟩:=he;have hS:(s.heap.push { cls:=Zdt,data:=ZaT #[] }).get? s.heap.objs.size=some { cls:=Zdt,data:=ZaT #[] }:=Zd0;refine ZaFb
 show wpAny _ _ (do let old <-Zazb;Builtin.List.listUpdate ZcU (fun _=>#[]);letGo ZaW7;#[aW3,ZEj]) _ _ _
 refine ZbX;unfold Builtin.List.listItems;refine ZaIR
 show wpAny _ _ (updateSeq s.heap.objs.size (fun _=>#[]) >>= fun _=>letGo (#[]:Zhz).toList.reverse >>= #[dL,#[aW3,ZEj]]) _ _ _
 refine ZaCb;have hS2:=Y5 (Obj.mapSeq (fun _=>(#[]:Zhz))) hS rfl
 have oth:∀ b o,Zch->((s.heap.push { cls:=Zdt,data:=ZaT #[] }).update s.heap.objs.size (Obj.mapSeq (fun _=>(#[]:Zhz)))).get? b=ZeZ :=
  ZaOT
 have szz:((s.heap.push { cls:=Zdt,data:=ZaT #[] }).update s.heap.objs.size (Obj.mapSeq (fun _=>(#[]:Zhz)))).objs.size=ZdC:=#[b1,ZaeZ,YR]
 refine ZavD;generalize (s.heap.push { cls:=Zdt,data:=ZaT #[] }).update s.heap.objs.size (Obj.mapSeq (fun _=>(#[]:Zhz)))=g at hS2 oth szz ⊢;have zlt:#[wz,z]:=Yo (Yf hz);have hT:Shared.TypeIs ZBM ZEj Zdu:=#[dB,oth _ _ hz];unfold Builtin.List.listExtendWith;refine #[aV6,Zdu,hT]
 have q1:#[awu,ZcU,ZEj]:=by simp[Builtin.List.listSameRef,zlt.symm]
 have q2:#[a2I,Zdu,Zds]:=ZaC
 have q3:#[a2I,Zdu,ZfW]:=ZaC
 simp only[q1,q2,q3,Bool.or_false,Bool.false_eq_true,if_false];refine X5 (wpAny_pyIter_zip (oth _ _ hz) ?_);refine #[k_,YO];unfold Builtin.List.listLengthHint;refine #[yl,Q1]
 show #[h5,specialOf (Zeu z) #[fV,Zac']]
 refine #[yl,OO];refine Zog
 show wpAny _ _ (rule "list.extend.makes-room" >>= fun _=>Builtin.List.listTouch ZcU >>= fun _ =>
  ZtA (ZdQ ZaZ8 #[dX,[Zlj,Zaj z,Zan]])) _ _ _
 refine ZavE;refine ZbX
 show wpAny _ _ (updateSeq s.heap.objs.size (·.push Zan) >>= fun _=>updateSeq s.heap.objs.size (·.pop)) _ _ _
 refine X5 (aQn hS2 rfl ?_);have hS₂:=Y5 (Obj.mapSeq (·.push Value.none)) hS2 rfl;refine aQn hS₂ rfl ?_;have hS₃:=Y5 (Obj.mapSeq (·.pop)) hS₂ rfl
 have aq2:∀ b o,Zch->((g.update s.heap.objs.size (Obj.mapSeq (·.push Value.none))).update s.heap.objs.size (Obj.mapSeq (·.pop))).get? b=ZeZ :=
  #[ct,ZRm (ZRm ZatC)]
 have cx9:((g.update s.heap.objs.size (Obj.mapSeq (·.push Value.none))).update s.heap.objs.size (Obj.mapSeq (·.pop))).objs.size=ZdC:=#[an4,ZaeZ,szz]
 generalize (g.update s.heap.objs.size (Obj.mapSeq (·.push Value.none))).update s.heap.objs.size (Obj.mapSeq (·.pop))=g2 at hS₃ aq2 cx9 ⊢
 have li1:#[wz,i1]:=by obtain⟨_,e,_⟩:ak:=h1;exact ZqC
 have li2:#[wz,i2]:=by obtain⟨_,e,_⟩:ak:=h2;exact ZqC
 have ll1:#[wz,l1]:=by obtain⟨_,e,_⟩:ak:=u_;exact ZqC
 have ll2:#[wz,l2]:=by obtain⟨_,e,_⟩:ak:=m_;exact ZqC
 refine Yg ZaW5;refine IW (A:=ZhK) (s:=#[kp,g2]) (S:=Zar) hh D hxy h0 hn Zan zlt.symm li1.symm li2.symm ll1.symm ll2.symm (YX (Yf hTI)) (YX (Yf hTO)) (aq2 _ _ hz) (aq2 _ _ hTI) (aq2 _ _ hTO) #[GB,h1.at] #[GB,h2.at] #[GB,u_.at] #[GB,m_.at] hS₃ fun h' n_ c' k3 s3 l3 n3 m3 p3=>?_;refine#[da,#[aTc,hQ,h',fun b o b1 b2 b3 b4 e=>k3 b o Zld b1 b2 b3 b4 #[cA,aq2]]];have:=ZV6;have this:g2.objs.size<=t:=this
 lia
#where
abbrev LG [37](t:TA):TE:=fun σ H Q=>t σ H fun vs H1=>∃ (a b:Addr)(xs ys:Zbg),vs=[Zcm,Zaj b]/\bL K H1 a xs/\bL K H1 b ys/\Zko<ZaR/\0<Zko /\
 ∀ [280](ts:Zcr)(H':Hp),#[nv,l]->(#[kC,#[jp,H1]->#[jp,H']])->#[cB,l,Zae1]->#[gj,(fun t (p:V×V)=>Zax0),ts,ZAq,ys]->Q Zef H'
def Gf {X:Cx}{e:Expr}{es:Zbh}{t:TA}{p p2 pos pos2:Pos}(hc:Ze0)(ha:ZfI)(hg:ZauM)(hm:Zaxq)(hg2:Gl X Zdu)(X_:#[vK,Zdu])
  (he:Zm8:=by rfl) (r_:#[zq,pos2,es].any (·.1)=false:=by rfl)
  (S_:#[aMC,Zdu,Zcy,Zdu,Zcy]:=by rfl) :
  PE X (Zcu (Zcp Zds p) #[RR,Zdu,Zcy] [] pos) (LG X.K t):=by
 intro pins s σ H Q I h;refine ZaAJ;refine ZaCD;rw[S_];refine #[aW9,boot_zip];refine Zc (bD #[aPH,pos2,I] ZPj) he r_;obtain ⟨vs,H1,I1,r1,a,b,xs,ys,ev,hqa,hqb,q_,h0,q⟩:=zz;subst ev;obtain⟨u1,u2,rfl,ru1,ru2⟩:da:=r1.two;cases ru1;cases ru2;refine az (ZI5 hqa) fun ita rva pla hza=>?_;refine az (ZI5 hqb) fun itb rvb plb hzb=>?_;have la:=rva.length;have lb:=rvb.length;have pla:#[ar4,ita.toArray]:=pla;have plb:ZaeQ b itb.toArray:=plb
 have lta:Zaxe:=#[axk,pla]
 have ltb:b<Zew:=#[axk,plb]
 refine Ku pla plb fun h1 z1 t1 t2 i1 i2 sz k1=>ZaW';refine yR (s:=#[adA,h1]) Zat6 (zipApart_new lta ltb) #[VW,ZKL<ita.length] #[VW,0<ZKL] #[VW,#[pj,ZKL]] z1 t1 t2 i1 i2 #[aZ0,pla] #[aZ0,plb] fun h' ts c' k2 s2 l2 n2 m2 p2=>?_
 have l2:Ztz=ZKL:=by simpa using l2
 have m2:#[aet,ZmC<t]:=m2;have s2:Zd8 ZmC=some { cls:=Zdt,dict:=none,data:=ZaT #[PT,Zae0] c',slots:=#[] }:=s2
 have kk:#[kC,#[jp,ZJQ]->ZCq]:=fun c o e=>by
  have hc:ZauT:=ZcD;exact k2 c o Zaa3 Zaa3 (Yo hc) Zaa3 (k1 c o e)
 have ln:ZmC∉ts:=fun hm=>ZM _ (m2 _ hm)
 have lz:#[a0,ZAq,ys]=Ztz:=#[hJ,List.length_zip]
 have out:∀ c,ZauT->upd ZaRz ZmC Zae1 c=H1 c:=fun c hc=>by
  have hne:c≠ZmC:=Zaf
  have hnm:c∉ts:=fun hm=>#[i2,m2 c hm]
  rw[ah hne,zB hnm]
 refine au #[ak,ZmC] (upd ZaRz ZmC Zae1) ?_ rfl ?_
 ·refine I1.grown kk (fun c u e n=>#[aW,out c (Yf e),n]) (ZaLf) fun c o e n=>?_
  by_cases hb:c=ZmC
  ·subst hb
   rw[ac]at e;cases e;refine gU ZCs (Zae0 Zeu) c' ?_ s2
   exact yw ZaN fun i y v e1 e2=>by
    rw[YC]at e1 e2
    cases hts:ts[i]? with
    | none=>rw[hts]at e1;cases e1
    | some t=>rw[hts]at e1 e2;cases e1;cases e2;exact rfl
  ·rw[Zen]at e
   by_cases hm:c∈ts
   ·obtain⟨j,pp,e1,e2,rfl⟩:da:=Jz n2 hm e n
    refine da (p2 j c e1) fun x y ex ey ip=>?_;obtain⟨f1,f2⟩:=List.getElem?_zip_eq_some.mp e2;refine ak (rva.get f1) fun v1 g1 w1=>?_;refine ak (rvb.get f2) fun v2 g2 w2=>?_
    have ex:#[dA,ita[j]?]:=by simpa using ex
    have ey:#[k7,itb[j]?]:=by simpa using ey
    rw[ex]at g1;cases g1;rw[ey]at g2;cases g2;exact ⟨#[Pg,ZOs],[x,y],ZaD w1 #[fz,w2],#[CD,ip,_]⟩
   ·rw[zB hm,n]at e;cases e
 ·refine q _ ts _ #[kR,ZzS] (ZaLf) ac ?_
  have pr:=zC (H:=H1) n2 lz.symm
  have key:ZaTk:=fun {us qs R S} hRS pr=>by
   induction pr with
   | nil=>exact Zao
   | cons r _ ih=>exact ZaOf
  exact key (fun u hu q e=>#[vE,#[wm,#[go,ln,z,hu]]]) pr
def QP [143]:UG X (Vg K):=by subst hK;exact ID
#print L2
namespace Wz
open PySem L2
inductive b9 where
 | pair [159]
 | line [167]
 | star [167]
 | all [167]
 | quad (a b c d:Int)
abbrev b9.word:b9->Str
 | .pair _ _=>"pair"
 | ZKM _=>"line"
 | ZKN _=>"star"
 | Zps _=>"all"
 | ZKO _ _ _ _=>"quad"
abbrev b9.gs:b9->Zbf
 | ZED=>Zgm
 | ZKM g=>g
 | ZKN g=>g
 | Zps g=>g
 | ZUO=>ZCP
abbrev uD:Zbf->ZdS
 | []=>[]
 | g::gs=>Zmv (#[oc,g])++uD gs
abbrev b9.row:b9->ZdS
 | ZED=>[ZfA]
 | ZKM g=>g.zip (ZgZ 1)
 | ZKN g=>(ZgZ 1).map #[oc,Zaou]
 | Zps g=>uD g
 | ZUO=>#[qg,Rk]
abbrev b9.Ok (f:b9):Zaa:=2<=ZaZ_/\ZaZ_<=60/\∀ a b c d,f=ZUO->ZD_
abbrev BY [33][89]:b9->Zaa
 | ZED=>ZauZ
 | f=>#[aDW,ZkD,#[C_,ZaZ']]
def BY.hd [42][389]:ZaKX:=by
 cases f with
 | pair a b=>exact ZSU
 | _=>obtain⟨q,e,_⟩:ak:=h;exact ZlD
def b9.nw (f:b9):ZkD≠Za'/\ZkD≠ZaH/\ZkD≠Zdw:=by
 cases f<;>(dsimp only[b9.word];refine #[br,?_,?_]<;>decide +kernel)
def zE:∀ g:Zbf,2*ZDa=ZeD*(ZeD-1)
 | []=>rfl
 | a::g=>by
  have ih:=zE g
  show 2*#[aZ,(ZKP (#[oc,a])++uD g)]=_
  rw[Yr,X7,Nat.mul_add,ih,YF]
  cases hn:g.length with
  | zero=>rfl
  | succ m =>
   show 2*ZwR+ZwR*m=(m+1+1)*ZwR
   rw[Nat.mul_comm 2,<-Nat.mul_add,Za0a 2,Nat.mul_comm]
def b9.rl {f:b9}(ok:f.Ok):Za0c<=Zcc:=by
 have ok:=ZS8
 cases f with
 | pair a b=>show ZSa<=Zcc;decide
 | line g=>show #[bc,(g.zip (ZgZ 1)),Zcc];rw[List.length_zip];have:ZoN:=ok;lia
 | star g=>show #[bc,(Zvx _),Zcc];rw[X7,YH];have:ZoN:=ok;lia
 | all g =>
  have h:=zE g;have:ZoN:=ok;have:=Nat.mul_le_mul Zbu (#[ud,ZeD-1,59])
  show Zauc
  lia
 | quad a b c d=>show (6:Nat)<=Zcc;decide
def RD.succ [203]:∀ [162]{v:V}{d:Dt},RD K H n v d->RD K H ZdE v d
 | 0,_,_,h=>ZoA
 | _+1,_,_,ZoA=>ZoA
 | _+1,_,_,#[aS3,p]=>#[aS3,#[ra,p,RD.succ z]]
def wk {g:Zbg}[38](hn:0<n)(hg:0<ZeD):¬ (ZiS ZeD 0 (Zab Zcg)=0/\ZiS ZeD ZeD Zac=ZeD):=by
 rw[HT.sIx_nat]
 lia
def vg {α β:ZfK}{R:#[SI,β]}{f:α->β}:∀ {ts:Zcr}{ps:Zd2},#[gj,R,ts,ZtI,f]->Za3 (fun t p=>R t (f p)) ts ps
 | [],[],_=>Zao
 | [],ZcX,h=>nomatch h
 | ZcX,[],h=>nomatch h
 | ZcX,ZcX,ZaD a b=>ZaD a (vg b)
def OP (a b:Zbf):(a.map Zaw).zip (b.map Zaw)=(a.zip b).map fun p=>ZayP:=by
 rw[List.zip_map];rfl
structure BA where
 dx:Addr
 d1:Addr
 d2:Addr
 d3:Addr
abbrev B0 (a b c:V):Zjg:=[(Zi9,a),(ZhT,b),(ZmD,c)]
def Wp:#[avh,ZhT]:=ZaA
def Xj:#[avh,ZmD]:=ZaA
def Xk:#[jF,ZhT,ZmD]:=ZaA
def Fc {a b c:V}:dE ZmD c (dE ZhT b ZaLR)=B0 a b c:=by
 unfold B0;simp only[dE];rw[X8 Wp];simp only[dE];rw[X8 Xj,X8 Xk]
def RZ {a b:V}:dE ZhT b ZaLR=([(Zi9,a),(ZhT,b)]:Zjg):=by
 simp only[dE];rw[X8 Wp]
def Dc {a b c:V}:#[nu,ZH1,Zi9,a]:=by
 rw[<-Fc,aK,X8 Xj,aK,X8 Wp,aK,Zav]
def jv {a b c:V}{m:Str}(q:¬ m=Zi9/\¬ m=ZhT/\¬ m=ZmD):#[e9,ZH1] m=Zac:=by
 rw[<-Fc,aK,X8 q.2.2,aK,X8 ZjR,aK,X8 q.1];rfl
inductive NZ [8]:Zaa
 | mk [309](_:#[fG,Za0c])
inductive N0 [8]:Zaa
 | mk [309](_:#[Re,f.row])
structure Xa [13][261]:Zaa where
 cl:IZ K ck
 nF:#[oP,Zi9]
 nL:#[oP,ZhT]
 nR:#[oP,ZmD]
 mF:#[bI,ZKR,ck]
#print Wz
namespace Qs
open PySem PySem.W PyProof.Rows
noncomputable abbrev Q4:=Int×Int×Zhq
abbrev q0:Q4:=(0,0,0,0)
abbrev XO (p q:Q4):Bool:=#[aLI,(Zw2<ZjR\/(Zw2=ZjR/\(ZTM<ZE7\/(ZTM=ZE7/\p.2.2.2<q.2.2.2))))]
abbrev Xw [130][283](p:Q4):Zaa:=∃ (b:Addr)(o:Obj)(n:Nat)(t1 t2 t3 t4:Tok),v=Zaj b/\Zho/\ZvP/\o.data=ZaT #[Zae p.1 t1,Zae Zw2 t2,Zae ZTM t3,Zae p.2.2.2 t4] n
open Classical in
noncomputable def decQ (h:Heap) (v:Value):Q4:=if z:∃ p,Xw h v p then Zar5 else q0
abbrev VX [403](ps:Zbd Q4)(out:ZbS):Zaa:=#[aSV,q0,XO]
#print Qs
namespace L2
open PySem PySem.Spec PyProof.Rows
def KY {P:Program}{w:World}{K:ge}{mg mb:Zm5}{CX:wQ}{k:Nat}{fa a:Addr}{T:Zcr}{fd:FuncData}{x:Str}{sp:Sp}{s₁:Shared}{vs:ZbS}{ns:Zbf}
  (KX:Zl4 Zks) (hns:Zae2 Zki mg) (hb:Zae2 Zy7 mb) (hbb:Za3s) (cv0:s₁.heap.NoLimit) (hg:s₁.gens = #[])
  (ha:ZaEX) (hi:ZacT) (hl:Zash) (hr:Zaud)
  (hK:#[aof,K]) (C:∀ b∈T,∃ c0,Zae3 Zks c0 b) (hP:∀ b∈T,ZzK b=some (PySem.W.tabObj #[])) (BM:pL mg Zks)
  (F:#[akJ,Zl4,aT P w K mg ZaP CX k fa fd [x] sp]) (cx4:#[Z5,x])
  (hsp:∀ H:Hp,(∀ b∈T,H b=some (Zd7 #[]))->ZXR->sp Zik H ZarA Zov)
  (hCX:∀ H e s',CX [] H Ze_ (Zov) e s'->Zkt) :
  #[aTd,Ztd]:=by
 have rv:=CV hi;have cz9:=hi.length
 have aP:a∉T:=fun z=>by rw[hP a z]at ha;cases ha
 have Kno:#[g2,ZhL,b∉T]:=fun b o e z=>by
  have e2:=KX b o e;rw[ZFz]at e2;cases e2;have h2:=YT.mp hK (b,PySem.W.tabObj #[]) (PySem.W.mem_of_lookupK e);exact #[ur,show Zh1 from h2]
 obtain⟨H,HP,HA,aj2⟩:∃ H:Hp,(∀ b∈T,H b=some (Zd7 #[]))/\((ZhL a=Zac/\#[dY,ZaFe])\/(∃ o,ZUp)/\ZnC)/\∀ b,b∉T->ZwT->ZbW:=by
  cases hk:ZhL a with
  | some o=>exact ⟨(fun b=>if ZrL then some (Zd7 #[]) else none),ZatL,Zaq ⟨Zauq,X8 aP⟩,(fun b n _=>X8 n)⟩
  | none=>exact ⟨(fun b=>if ZrL then some (Zd7 #[]) else #[afl,b=a,ZaFe]),ZatL,(Zal #[da,by show #[Q4,a∈T];rw[X8 aP,Zav]]),(fun b n1 n2=>by show #[Q4,ZrL];rw[X8 n1,X8 n2])⟩
 have hok:#[qM,Zks]:=fun b u e=>by
  by_cases z:ZrL
  ·rw[HP b z]at e;cases e;exact ZFz
  ·by_cases z2:b=a
   ·rw[z2]at e ⊢
    rcases HA with ⟨_,q⟩ | ⟨_,q⟩
    ·rw[q]at e;cases e
     exact ⟨ha,#[aX,X7,hl],#[fE,vs,rv,ha]⟩
    ·rw[q]at e;cases e
   ·rw[aj2 b z z2]at e;cases e
 have hS:ZXR:=by
  rcases HA with ⟨_,q⟩ | ⟨⟨o,q1⟩,q⟩
  ·exact #[xm,Zgv]
  ·have e:=KX a o q1
   rw[ha]at e;cases e;exact Zaq ⟨_,Zs4,_,q1,rfl,rfl,rfl,#[rj,Yq,cz9,hl],(ZaU1)⟩
 have free:∀ [313],#[a4,ZzK]->(∀ qs,#[O9,qs])->(∀ qs n,ZfM≠ZaT qs n)->ZbW:=fun {b o} e n1 n2=>aj2 b (fun z=>by rw[ZFz]at e;cases e;exact n1 _ rfl) (fun z=>by rw[z,ha]at e;cases e;exact n2 _ _ rfl);have nsK:∀ [124][138],Zae2 b m->#[Gh,0].Ns b m:=fun {b m} ⟨o,es,ep,e,d,r⟩=>jV o es ep (zr e (free e (fun qs z=>by rw[d]at z;cases z) (fun qs n z=>by rw[d]at z;cases z))) d r
 have hKb:Zl4 (Ds Zks H):=fun b o e=>zr #[cA,KX] (by
  by_cases z:b=a
  ·rcases HA with ⟨q0,_⟩ | ⟨_,q⟩
   ·rw[z,q0]at e;cases e
   ·rw[z];exact q
  ·exact aj2 b #[cA,Kno] z)
 have hM:#[uF,ZGh]:=⟨hKb,nsK hns,⟨mb,nsK hb,hbb⟩,let ⟨mc,h1,h2⟩:=cv0;⟨mc,nsK h1,h2⟩⟩;have e0:C5 P w K mg ZGh ZKS [] Ze_ H:=⟨rfl,hM,#[ct,Qa e],#[aVt,KP],Zs_,#[fa,Zdf (show b∈ZNv from hb) ZaN],hok,Zacn hg⟩
 have BM2:pL mg ZGh:=by
  obtain⟨bm,ob,b1,b2,b3,b4,b5,b6⟩:kf:=BM;exact f8 bm ob b1 b2 (zr b3 (free b3 (fun qs z=>by rw[b6]at z;cases z) (fun qs n z=>by rw[b6]at z;cases z))) b4 b5 b6
 refine Ze ((F _ hKb (nsK hns) BM2).run ZKS [] Ze_ H Zaoj Zik Zik _ _ hr e0 (cx4 Ze_ ZbV) Zau6 (hsp H HP hS)) fun r s' h=>?_
 cases r with
 | error e=>exact (hCX H e s' h).elim
 | ok fl =>
  cases fl with
  | next=>exact ZS2
  | brk=>exact ZS2
  | cont=>exact ZS2
  | ret u =>
   obtain⟨v,H',os,bare,un,cj1,r',q⟩:kf:=h;have q':ZapF:=q;subst q';obtain rfl:u=ZabC Zad:=r'
   have kp:#[p2,ZzK,b∉T,#[a4,ZtC]]:=fun b o e n=>by
    by_cases z:b=a
    ·rcases HA with ⟨_,q1⟩ | ⟨_,q1⟩
     ·have z2:=un.frzs b _ _ ZaxX
      obtain⟨e2,_⟩:=cj1 b _ z2;rw[z,ha]at e;cases e;exact e2
     ·exact un.keep b o e ZaxX (by intro z;exact ZNw) ZaN
    ·exact un.keep b o e (aj2 b n z) (by intro z;exact ZNw) ZaN
   have hP':∀ b∈T,∃ more,ZtC b=some (PySem.W.tabObj (#[]++more)):=fun b hb=>by
    obtain⟨more,hm⟩:=un.tbls b _ #[dy,HP];exact⟨ZiV,cj1 b _ hm⟩
   refine ⟨rfl,⟨ZD4,ZD4⟩,os,Zma⟩
   ·by_cases z:ZrL
    ·have e':=e
     rw[ZFz]at e';cases e';obtain⟨c0,CB⟩:=C b z;obtain⟨more,hm⟩:=hP' b z;exact Zaq (Zal ⟨(CB.tab (hP b z)).isCodeTable,rfl,⟨#[],more,rfl,hm⟩⟩)
    ·exact Zal (kp b o e z)
   ·by_cases z:ZrL
    ·obtain⟨more,hm⟩:=hP' b z
     exact#[a7,hm]
    ·exact#[ft,kp b o e z]
def walk_ofL {l:PySem.W.OpenLaw}{n k:Nat}{q:Program}{loose:Zbe}{XP:ZVk}{YP:ZVj}{d:DefRec}{K:Params->Za0d}{CX:ZKT->wQ}{sp:ZKT->Sp}{x:Str}{tabs:ZamH}
  (hn:ZXw) (hn2:#[pj,n]) (hdf:ZUg) (hr:Zaud)
  (hY:ZaEc)
  (hTY:∀ (w:World)(h:Heap),ZRx->∀ t∈tabs,ZaC2=some (PySem.W.tabObj #[])) (hch:#[axN,ZaPg]) (aq5:#[axN,Zabb]) (hnt:ZaHg)
  (F:∀ (w:World)(mg:Zm5)(fa:Addr)(h:Heap),#[nL,0].In h->Zr8->ZacV->(#[ae4,#[sc,Zlh,ZnH]/\Zabb]) ->
   ∃ fd:FuncData,(#[Z5,x]) /\
    #[aSE,(CX w),k,[x],(sp w)])
  (hsp:∀ (w:World)(H:Hp)(a:Addr)(ns:Zbf),ZFF->(∀ t∈tabs,H ZnH=some (Zd7 #[]))->cC ZnL H a ZvR->sp w Zik H ZarA Zov)
  (hCX:∀ (w:World)(H:Hp)(s:Shared)(e:Value)(s':Shared),CX w [] H s (Zov) e s'->Zkt) :
  ZaC1:=by
 refine Att.attach_call hn hdf fun w s₀ s₁ mg mb fa o pm cd doc a vs ns G Y ho hd Y_ hmg bz9 hints hlen hg=>?_;have KX:=hY w _ Y;have CH:#[ae4,Zae3 _ Zlh ZnH]:=#[mA,PySem.W.codeHd_of_K KX (hch w t ht)];have hP:=hTY w _ Y;refine ak (F w mg fa _ KX G.T.g hmg (#[mA,⟨Me (aq5 w t ht) KX (CH t ht),aq5 w t ht⟩])) fun fd hb hF=>?_;exact KY KX G.T.g G.T.b G.T.builtins G.T.nolimit hg bz9 hints (YU Zme hn2) hr (T:=tabs.map (·.2.2)) (hnt w) (fun b hb=>by obtain⟨t,ht,rfl⟩:ak:=ZFf;exact#[a7,CH t ht]) (fun b hb=>by obtain⟨t,ht,rfl⟩:ak:=ZFf;exact hP t ht) G.T.bmain hF hb (fun H hO hS=>hsp w H a ns hlen (fun t ht=>hO _ (Zk (f:=(·.2.2)) ht)) hS) fun H e s'=>hCX w H Ze_ e s'
def uN [386]{sp:Sp}(no:∀ vs H Q E,¬ ZlS):ZDx :=
 ⟨#[ae5,ZaDF],#[a0e,ZaDF]⟩
abbrev WY [329]:TE:=#[IW,∃ z:Str,#[aLz,ZGR,#[uo,ZbY]]]
def Ia [45][230][65][119]:#[aSj,WY]:=by
 intro pins s σ H Q I h;refine ZaCn;obtain ⟨x,H1,I1,rx,z,ex,hz,q⟩:=zz;subst ex;obtain⟨tk,rfl⟩:=rx;have sl:Zpk:=Y6;exact wpAny_formatField_str (au ZCI H1 I1 ZbG ZaJb) #[aHT,ZCI,ZaJb] Zag
section
variable {X:Cx}
open Classical in
theorem Lj (n:Nat)(hu:Zabw):#[abY,(WM X.K n Zad)]:=by
 intro pins s σ H x y v u Q I rx ry h;obtain⟨p,as,d,ds,rfl,hq,hx,hp,q⟩:=h;cases ry
 have hu':Zawg:=ZaDX
 rcases hq with hq | hq
 ·refine ZUQ
  obtain⟨h1,h2⟩:=ZaKv;refine #[RM,SeqAt.notIn_listAt,_,ZgN,Zacx];rw[List.any_toArray];exact q _ h2
 ·refine ZVg
  obtain⟨h1,h2⟩:=ZaKv;refine #[RM,SeqAt.notIn_tupleAt,_,pl,Zacx];rw[List.any_toArray];exact q _ h2
open Classical in
theorem Jc {pins:ZdT}{σ:St}{H:Hp}{s:Shared}{n:Nat}(I:ZhY){d:Dt}(e:ZbR->ZbB)(he:∀ a:Zcq,e ZbV=Zad↔ZVG) :
  ∀ {as:Zcr}{ds:ZjP}{us:ZbS},Zay6->ZaHX->us.countP e=Za0f (#[b5,#[AV,x=d]])
 | _,_,us,Zao,r=>by cases r;rfl
 | a::as,c::ds,us,ZaD hc hp,r=>by
  cases r with
  | cons r1 r2 =>
   cases r1;rw[List.countP_cons,List.countP_cons,Jc I e he hp r2]
   congr 1
   by_cases z:c=d
   ·rw[Yb ((he a).mpr (z▸hc)),ZY0]
   ·rw[X8 (#[a9,z (Zac_ I hc ((he a).mp q))]),ZaER]
abbrev WW [37][38](to te:TE):TE:=#[IT,to,∃ p:Addr,x=ZbH/\(∃ xs,H1 p=Zab ZeQ)/\#[lm,te,#[a0g,RD K H2 n y d,RD K H2 n ZbV e]]]
open Classical in
theorem Tq (K:ge)(n:Nat){o e:Expr}{to te:TE}{apos i_:Pos}(hu:Zabw)(ho:ZVq)(he:ZgC)(hK:ZoU:=by rfl)(D_:#[aVx,"count"]:=by rfl)
  (az4:Za2x:=by rfl)
  (aq0:Zsl:=by rfl) (hs:ZHo:=by rfl) (I_:ZV4 (·.1)=false:=by rfl) :
  PE X #[jB,#[yQ,o,"count"],[e]] (WW K n to te):=by
 subst hK;intro pins s σ H Q I h;refine ZaR7;obtain ⟨x,H1,I1,r1,p,ex,⟨xs,hp⟩,q1⟩:=zz;subst ex;cases r1;obtain⟨_,_,_,ob,e1,c1,m1,d1⟩:=#[aeC,p,ZeQ,p,hp];refine f8 ZfW "tuple.count" PySem.F.plainAttrs_tuple PySem.F.slot_tuple_count PySem.F.type_tuple_count ⟨ob,e1,c1⟩ (fun a z=>?_) ?_
 ·cases z;exact ⟨ob,e1,(Zae7 d1).2⟩
 rw[hs];refine Zs (by show (false||ZV4 (·.1))=false;rw[I_]<;>rfl) ZUP;have hA:=aj he aV hs i_ pins s1 σ H1 (fun vs H2=>match vs with | [y]=>(#[a0g,RD X.K H2 n y d,RD X.K H2 n ZbV e]) | _=>False) I1 ?_
 ·rw[hs]at hA
  refine bD hA fun us s2 zz=>?_;obtain ⟨vs,H2,I2,r2,q0⟩:=zz
  obtain⟨y,rfl⟩:∃ y,vs=[y]:=by
   match vs,q0 with
   | [y],_=>exact#[jG,y]
   | [],q=>exact q.elim
   | _::ZcX,q=>exact q.elim
  obtain⟨as,d,ds,hp2,hy,hpr,q⟩:=q0;obtain⟨u,rfl,ru⟩:ak:=iX r2;refine az (I2.tuple (Zc7 hp2)) Zu_
  have hu':Zawg:=ZaDX
  obtain⟨h1,h2⟩:=Du I2 hu' ru hy hpr r;have pl:s2.heap.IsTuple p Zci:=pl;refine jB (id pl) fun a_ hoo hcc m hdd=>?_;obtain⟨cls,dd,data,sl⟩:=a_;simp only at hcc hdd;subst hcc hdd;have e2:=Jc I2 (ZamD) (fun a=>by rw[Zw];exact⟨fun ⟨b,eb,hb⟩=>by cases eb;exact hb,fun h=>#[hn,a,h]⟩) hpr r;refine Zae8 F.slot_tuple_count #[dB,hoo] F.entry_tuple_count (F.args_tuple_count_2 _ _) (SeqAt.tuple_countAt p Zci m dd sl u (ZamD)) #[br,hoo,(#[tE,Zacx])];refine au (Zae (e_.toArray.toList.countP (ZamD):Nat)) H2 ZSG ZbG (q _ fun f hf=>?_)
  show e_.countP _=_
  rw[e2]
  exact Za0h fun x _=>#[b1,Zw,hf]
 ·show te σ H1 _
  exact q1
#where
#print L2
namespace Wz
open PySem L2
inductive ba where
 | pl (f:b9)
 | row [144]
 | back (f:ba)
 | name [411]
abbrev ba.word:ba->Str
 | Zj4=>f.word
 | ZpM _=>"row"
 | ZAs _=>"back"
 | Zi_ _=>"name"
abbrev b9.dt:b9->Dt
 | ZED=>.sq Zad [#[Cu,ZeE],#[Du,a],#[Du,b]]
 | f=>#[G1,ZkD,.sq Zad (ZaZ' ZaDO)]
mutual
noncomputable def ba.dt:ba->Dt
 | Zj4=>f.dt
 | ZpN=>#[G1,ZaH,.sq Zad (ZhU fs)]
 | ZAt=>#[G1,Za',ZmE]
 | ZlN=>#[G1,Zdw,#[Cu,w]]
noncomputable def ba.dtL:Zcf->ZjP
 | []=>[]
 | ZgD=>ZmE::ZhU fs
end
mutual
noncomputable def ba.names:ba->Zbe
 | .pl _=>[]
 | ZpN=>ZauE
 | ZAt=>f.names
 | ZlN=>[w]
noncomputable def ba.namesL:Zcf->Zbe
 | []=>[]
 | ZgD=>f.names++ZauE
end
mutual
noncomputable def ba.len (e:Zw'):ZxK
 | Zj4=>f.row.length
 | ZpN=>ZGd
 | ZAt=>ZTb
 | ZlN=>e w
noncomputable def ba.lenL (e:Zw'):Zcf->Nat
 | []=>0
 | ZgD=>ZTb+ZGd
end
mutual
noncomputable def ba.rowF (e:ZTC):ba->ZdS
 | Zj4=>f.row
 | ZpN=>ZawX
 | ZAt=>(ZAu e).reverse
 | ZlN=>e w
noncomputable def ba.rowL (e:ZTC):Zcf->ZdS
 | []=>[]
 | ZgD=>ZAu e++ZawX
end
abbrev dy:Nat->Hp->#[SI,ba]
 | 0,_,_,_=>False
 | _+1,H,p,Zj4=>Zaae/\f.Ok
 | _+1,H,p,ZlN=>#[ge,#[dz,[ZDm,Zax w]]]/\Zmm<=100
 | n+1,H,p,ZAt=>#[aDW,Za',dy n H q f]
 | n+1,H,p,ZpN=>∃ t as,#[ge,#[dz,#[qm,ZaH,t]]]/\#[aK,t,ZaoB]/\Zd6<=100/\ZZN
def dy.mono [23](s:ZHS):#[aRc,ZWc]
 | 0,_,_,h=>h
 | n+1,p,Zj4,h=>by
  refine⟨?_,h.2⟩;have h:=h.1
  cases f with
  | pair a b=>exact s _ _ h
  | _=>obtain⟨q,e1,e2⟩:ak:=h;exact ⟨q,s _ _ e1,s _ _ e2⟩
 | n+1,p,ZlN,h=>⟨s _ _ h.1,h.2⟩
 | n+1,p,ZAt,h=>by
  obtain⟨q,e1,e2⟩:ak:=h;exact ⟨q,s _ _ e1,dy.mono s e2⟩
 | n+1,p,ZpN,h=>by
  obtain⟨t,as,e1,e2,hl,e3⟩:cg:=h;exact bS t as (s _ _ e1) (s _ _ e2) hl #[ra,e3,dy.mono s z]
def dy.hd [162][42][197]:ZaKX:=by
 cases n with
 | zero=>exact h.elim
 | succ n =>
  cases f with
  | pl f=>exact h.1.hd
  | name w=>exact#[a7,h.1]
  | back f=>obtain⟨q,e,_⟩:ak:=h;exact ZlD
  | row fs=>obtain⟨t,as,e,_⟩:bU:=h;exact ZlD
def RD.up [203]{n m:Nat}{v:V}{d:Dt}(h:RD K H n v d)(e:n<=m):RD K H m v d:=by
 induction e with
 | refl=>exact h
 | step _ ih=>exact RD.succ ih
def Ms [203][389]:RD K H 2 Zh' ZmE:=by
 have cq5:∀ [167],#[gj,(RD K H 0),(Zmv Zaw),Zmv,ZaDO]:=fun gs=>by
  induction gs with
  | nil=>exact Zao
  | cons g gs ih=>exact ZaD ZnP ih
 cases f with
 | pair a b=>exact #[wu,h,#[B0,ZGG,ZGG,#[fz,ZGG]]]
 | _ =>
  obtain⟨q,e1,e2⟩:ak:=h;exact #[wu,e1,#[B1,ZGG,#[aLT,(cq5 _)]]]
def dy.rd [203]:#[aRc,RD K H (2*n) Zh' ZmE]
 | 0,_,_,h=>h.elim
 | n+1,p,Zj4,h=>ZpO (#[ad_,RD K H 2 Zh' #[Fx,0].dt,ZmF,Ms h.1]) Zag
 | n+1,p,ZlN,h=>ZpO (n:=1) #[aX,ZmF,#[wu,h.1,#[B1,(Ztv rfl 0),(Ztv rfl 0)]]] Zag
 | n+1,p,ZAt,h=>by
  obtain⟨q,e1,e2⟩:ak:=h;refine ZpO (n:=2*n+1) ?_ Zag;rw[ba.dt];exact #[aJ2,(dy.rd e2)]
 | n+1,p,ZpN,h=>by
  obtain⟨t,as,e1,e2,_,e3⟩:cg:=h;refine ZpO (n:=2*n+2) ?_ Zag;rw[ba.dt];refine #[aJ2,#[aLT,?_]]
  have key:∀ [436][272],ZZN->#[gj,(RD K H (2*n)),ZYB,ZhU,fs]:=fun {as fs} pr=>by
   induction pr with
   | nil=>rw[ba.dtL];exact Zao
   | cons a _ ih=>rw[ba.dtL];exact ZaD (dy.rd a) ih
  exact key e3
def Jg:#[rq,ZhU fs=Zae9 ZmF]
 | []=>#[cJ,ZhU]
 | ZgD=>#[cL,ZhU,Jg fs]
def FC (e:Zw'):#[rq,ZmG e fs=(Zae9 (ba.len e)).sum]
 | []=>#[cJ,ZmG]
 | ZgD=>#[cL,ZmG,FC e fs]
def zQ:#[rq,ZKU fs=Za0i ba.names]
 | []=>#[cJ,ZKU]
 | ZgD=>#[cL,ZKU,zQ fs]
def AA (e:ZTC):#[rq,ZtJ e fs=Za0i (Zae_ e)]
 | []=>#[cJ,ZtJ]
 | ZgD=>#[cL,ZtJ,AA e fs]
def b9.dt_hd (f:b9):ZaOI:=by cases f<;>exact ZbG
def ba.dt_hd (f:ba):ZaOI:=by
 cases f with
 | pl f=>obtain⟨t,e⟩:=f.dt_hd;exact⟨t,#[vE,ZmF]⟩
 | row fs=>exact ZSV
 | back f=>exact ZSV
 | name w=>exact ZSV
def ba.dt_word {f g:ba}(h:ZaA2):ZkD=g.word:=by
 obtain⟨t,e⟩:=f.dt_hd;obtain⟨u,e2⟩:=g.dt_hd;rw[e,e2]at h;injection h with _ h;injection h with h _;injection h with h;exact ZEE
def zt:∀ {a b:Zbf},#[aLl,a.map]=#[aLl,b.map]->a=b
 | [],[],_=>rfl
 | [],ZcX,h=>by cases h
 | ZcX,[],h=>by cases h
 | x::a,y::b,h=>by
  rw[Ys,Ys]at h;injection h with h1 h2;injection h1 with h1;rw[ZmH h1,zt h2]
def b9.dt_inj {f g:b9}(h:ZaA2):f=g:=by
 obtain⟨t,e⟩:=f.dt_hd;obtain⟨u,e2⟩:=g.dt_hd
 have hw:ZkD=g.word:=by
  have h2:=h;rw[e,e2]at h2;injection h2 with _ h2;injection h2 with h2 _;injection h2 with h2;exact ZtG h2
 have ne:∀ {a b:Str},a=b->Zj8->Zkt:=fun h n=>n h
 cases f<;>cases g<;>first
  | (dsimp only[b9.word]at hw;exact (ne hw Zb7).elim)
  | (simp only[b9.dt,b9.gs]at h
     injection h with _ h;injection h with _ h;injection h with h h2
     first
    | (injection h with h;injection h2 with h2 _;injection h2 with h2;rw[ZmH h,ZmH h2];done)
    | (injection h with _ h;rw[zt h];done)
    | (injection h with _ h;have h:=zt h;injection h with h1 h;injection h with h2 h;injection h with h3 h;injection h with h4 h;subst h1 h2 h3 h4;rfl))
mutual
theorem ba.dt_inj:∀ (f g:ba),ZmE=g.dt->f=g
 | Zj4,g,h=>by
  have w:=ZEF
  cases g with
  | pl g=>rw[ba.dt,ba.dt]at h;rw[b9.dt_inj h]
  | row _=>exact #[dg,w,Zaso]
  | back _=>exact #[dg,w,f.nw.1]
  | name _=>exact #[dg,w,ZarY]
 | ZpN,g,h=>by
  have w:=ZEF
  cases g with
  | pl g=>exact #[S7,g.nw.2.1]
  | row gs =>
   rw[ba.dt,ba.dt]at h;injection h with _ h;injection h with _ h;injection h with h _;injection h with _ h;rw[#[aI4,h]]
  | back _=>exact #[si,ZaH,Za']
  | name _=>exact #[si,ZaH,Zdw]
 | ZAt,g,h=>by
  have w:=ZEF
  cases g with
  | pl g=>exact #[S7,g.nw.1]
  | row gs=>exact #[si,Za',ZaH]
  | back g =>
   rw[ba.dt,ba.dt]at h;injection h with _ h;injection h with _ h;injection h with h _;rw[Zae' f g h]
  | name _=>exact #[si,Za',Zdw]
 | Zi_ z,g,h=>by
  have w:=ZEF
  cases g with
  | pl g=>exact #[S7,g.nw.2.2]
  | row gs=>exact #[si,Zdw,ZaH]
  | back g=>exact #[si,Zdw,Za']
  | name y =>
   rw[ba.dt,ba.dt]at h;injection h with _ h;injection h with _ h;injection h with h _;injection h with h;rw[ZEE]
theorem ba.dtL_inj:∀ (fs gs:Zcf),ZhU fs=ZhU gs->fs=gs
 | [],[],_=>rfl
 | [],ZcX,h=>by rw[ba.dtL,ba.dtL]at h;cases h
 | ZcX,[],h=>by rw[ba.dtL,ba.dtL]at h;cases h
 | ZgD,g::gs,h=>by
  rw[ba.dtL,ba.dtL]at h;injection h with h1 h2;rw[Zae' f g h1,#[aI4,h2]]
end
open Classical in
noncomputable def likeStep (acc:Zcf) (f:ba):Zcf:=if f∈acc then acc else acc++[f]
open Classical in
noncomputable def once (fs:Zcf):Zcf:=Zafa Zi' []
set_option tactic.hygienic true
open Classical in
theorem Al:#[arB,ZaY6->#[aLo,0].Nodup/\(∀ f,f∈Zafa Zi' acc↔f∈acc\/ZUW)]
 | [],acc,h=>#[D1,h,ZaM]
 | g::fs,acc,h=>by
  rw[Z3]
  have st:#[aFH,0].Nodup/\∀ f,f∈Zi' acc g↔f∈acc\/f=g:=by
   unfold likeStep;split
   ·rename_i m
    exact#[D1,h,#[nh,Zal,z.elim id fun e=>e▸m]]
   ·rename_i m
    refine#[D1,#[aY3,h,m (by rw[ZUV]at e;exact e▸ha)],ZaM]
  obtain⟨i1,i2⟩:=Al fs ZaFH ZjH;refine#[D1,i1,?_];rw[i2,Zhl,Yn];constructor
  ·rintro ((a | a) | a)
   ·exact Zal a
   ·exact #[wi,a]
   ·exact #[q8,a]
  ·rintro (a | a | a)
   ·exact #[r3,a]
   ·exact #[xm,a]
   ·exact Zaq a
set_option tactic.hygienic false
def Qb [144]:#[avy,0].Nodup:=(Al fs [] Zl).1
def vd [272]{f:ba}:f∈ZpP fs↔ZUW:=by
 have:=(Al fs [] Zl).2 f;unfold once;simpa using this
open Classical in
theorem Jt (len:ZxK)(f:ba):∀ us:Zcf,us.Nodup->#[F7,#[wG,ZaAY]]=#[ada,ZUX,len f]
 | [],_=>rfl
 | ZxC,h=>by
  have nd:=ZS4;rw[Ys,Z8,Jt len f us nd.2]
  by_cases e:f=u
  ·subst e
   rw[Zav,X8 nd.1,Yb Ye]
   lia
  ·rw[Ziv]
   by_cases m:ZUX
   ·rw[Yb m,Yb (Yh _ m)];lia
   ·rw[X8 m,#[CJ,ZaDE e m]];lia
open Classical in
theorem Cd (len:ZxK){us:Zcf}(nd:us.Nodup):#[rq,(∀ f∈fs,ZUX)->#[aKH,#[F7,#[wG,Zafb (ZA3)]]]]
 | [],_=>by
  have:∀ us:Zcf,#[F7,#[wG,#[as6,0].countP (ZA3)]]=0:=fun us=>by
   induction us with
   | nil=>rfl
   | cons u us ih=>rw[Ys,Z8,ih];simp
  rw[this];rfl
 | ZgD,h=>by
  have ih:=Cd len nd fs #[aDP,h];have hs:=Jt len f us nd;rw[Yb (h f Ye)]at hs
  have e:(ZtK #[wG,(f::fs).countP (ZA3)])=ZtK fun u=>Zafb (ZA3)*len u+ZaAY*len u:=by
   refine Zy fun u _=>?_;rw[List.countP_cons,Nat.add_mul]
   by_cases z:f=u
   ·rw[ZrD,ZY0]
   ·rw[Zry,ZaER]
  have add:∀ (us:Zcf)(a b:ZxK),#[F7,fun u=>a u+b u]=(ZtK a).sum+(ZtK b).sum:=fun us a b=>by
   induction us with
   | nil=>rfl
   | cons u us i2=>rw[Ys,Ys,Ys,Z8,Z8,Z8,i2];lia
  rw[e,add,ih,hs,Ys,Z8]
  lia
abbrev Co [306]:Bool:=#[AV,97<=c/\c<123]
def SM [306]:(!(Builtin.Str.occurrences #[fV,ZAv] ⟨#[c]⟩ 0 #[Te,ZAv] 1).isEmpty)=Co c:=by
 rw[StrLaws.found_one]
 have e:#[wH,ZAv]=#[qI,26] (·+97):=ZaA
 rw[e];unfold Co;rw[ZP,YD];constructor
 ·intro a_;obtain⟨k,hk,rfl⟩:ak:=a_
  have:=Zavu
  lia
 ·intro h
  exact ⟨c-97,#[kR,ZhE],Zag⟩
abbrev kindsL:Zbe:=[ZeE,Zdx,Zf8,Zdi,Zf9,ZaH,Za',Zdw]
abbrev zw [262]:Bool:=!#[AV,ZaDl]&&#[AV,ZaG6]&&Za0j Co
def Dv [262]:∀ xs:Zbe,MM (ZaY z) ZaxR=#[AV,z∈xs]
 | []=>rfl
 | ZgB=>by
  have ih:=Dv z xs;unfold MM at ih ⊢;rw[Ys,ZG,ih]
  by_cases e:z=x
  ·subst e
   rw[show GM (ZaY z) Zar8=Zad by simp[GM],Yc Ye];rfl
  ·rw[show GM (ZaY x) Zar8=Zaz by simp[GM];exact #[a9,e q.symm]]
   rw[Bool.false_or];exact Zaeu ⟨#[a9,Yh _ q],#[a9,(ZcI q).resolve_left e]⟩
def KH (xs:Zbe):#[axR,0].all qr=Zad:=YT.mpr fun v hv=>by obtain⟨x,_,rfl⟩:ak:=ZUf;rfl
structure BE where
 w:Str
 f:ba
 n:Nat
 r:ZdS
 p:Addr
 l:Addr
abbrev AY [224]:#[gF,BE]:=bs.find? #[bN,ZaFm]
abbrev qh [224]:Nat:=match ZoW with | Zab e=>e.n | none=>0
abbrev OV [224]:ZdS:=match ZoW with | Zab e=>e.r | none=>[]
abbrev jI (e:BE):Bool:=#[AV,ZCL]
def ka (g:BE->V)[411]:∀ bs:Zgt,d6 (ZiG #[bN,(ZBt,g e)]) ZauK=#[Ro,0].map g
 | []=>rfl
 | e::bs=>by
  have ih:=ka g w bs;unfold d6 AY at ih ⊢;rw[Ys,Y9,Y9]
  by_cases z:e.w=w
  ·rw[#[c2,#[AX,ZaHm],#[Tx,z]],Yc z]
   rfl
  ·rw[#[c2,#[AY,ZaHm],X9 (#[a9,z (ZIv q)])],X9 z]
   exact ih
def m5 [444]{e:BE}(h:ZaaT):e∈bs/\e.w=w:=by
 unfold AY at h;have:=List.find?_some (p:=fun e:BE=>ZaFm) h;exact⟨List.mem_of_find?_eq_some h,Y1 Zbu⟩
def m4 [444]:ZaL2↔w∉bs.map (·.w):=by
 unfold AY;rw[List.find?_eq_none];constructor
 ·intro h m
  obtain⟨e,he,rfl⟩:ak:=ZeB m;exact h e he (Yc rfl)
 ·intro h e he q
  exact h (Zms ⟨e,he,Y1 q⟩)
def Km [444]{e:BE}(nd:(bs.map (·.w)).Nodup)(h:ZaaT)(s:ZCL):AY (ZKV jI) w=Zab e:=by
 induction bs with
 | nil=>cases h
 | cons x bs ih =>
  have nd2:=YN.mp (show (x.w::bs.map (·.w)).Nodup from nd);unfold AY at h ih ⊢;rw[Y9]at h
  by_cases z:x.w=w
  ·rw[Yc z]at h
   cases h;rw[List.filter_cons_of_pos (by unfold jI;exact Yc s),Y9,Yc z]
  ·rw[X9 z]at h
   rw[ZE];split
   ·rw[Y9,X9 z];exact ZaLY
   ·exact ZaLY
structure sQ [104]:Zaa where
 ob:ZamW
 f1:#[aK,Zea,(.dK (ZiG #[bN,(ZBs,ZaS e.p)]))]
 f2:ZaJR
 f3:ZaNc
 fg:#[afc,dy 9 H e.p e.f]
 rw:Za4i
 nd:(bs.map (·.w)).Nodup
 ln:Zkv<=100
 d12:Zea≠Zeb
 d13:Zea≠Zg0
 d23:Zeb≠Zg0
def sQ.mono [353][237](x:ZNe)[79]:#[Rl,bs] :=
 ⟨ZE_,s _ _ x.f1,ZatY,ZatZ,#[Aj,#[qO,(x.fg e he).mono,s _ _ z]],#[Sp,ZaxG,ZRc],x.nd,x.ln,x.d12,x.d13,x.d23⟩
def GW {a b c:V}:#[nu,ZH1,ZhT,b]:=by
 rw[<-Fc,aK,X8 Xk,aK,Zav]
def Mb {a b c:V}:#[nu,ZH1,ZmD,c]:=by
 rw[<-Fc,aK,Zav]
abbrev df (bs:Zgt)(f:ba):Zaa:=∀ w∈f.names,w∈bs.map (·.w)
def dy.rds [203][162][436][272](hn:n<=9)(h:ZZN):#[gj,(#[Oi,RD K H 18 ZbV e]),as,ZhU,fs]:=by
 induction h with
 | nil=>rw[ba.dtL];exact Zao
 | cons a _ ih=>rw[ba.dtL];exact ZaOd
def VN [411]:#[AZ,ZUu,Za']:=#[af8,Zdw,Za']
def VO [411]:#[AZ,ZUu,ZaH]:=#[af8,Zdw,ZaH]
def OD [411]:#[AX,#[eh,#[Uu,0].word,Zdw]]:=#[af9,Zdw,Zdw]
def OB (f:ba):#[AX,#[eh,#[avx,0].word,Za']]:=#[af9,Za',Za']
def OC (f:ba):#[AZ,Zavx,Zdw]:=#[af8,Za',Zdw]
def OH [144]:#[AZ,ZU7,Za']:=#[af8,ZaH,Za']
def Rw [144]:#[AX,#[eh,#[U7,0].word,ZaH]]:=#[af9,ZaH,ZaH]
def OI [144]:#[AZ,ZU7,Zdw]:=#[af8,ZaH,Zdw]
def OE (f:b9):#[AZ,ZFx,Za']:=#[Wv,f.nw.1]
def OG (f:b9):#[AZ,ZFx,ZaH]:=#[Wv,Zaso]
def OF (f:b9):#[AZ,ZFx,Zdw]:=#[Wv,ZarY]
abbrev ba.inner:ba->Zcf
 | ZAt=>[f]
 | ZpN=>ZpP fs
 | _=>[]
def ro [95][272]:df bs (ZpM fs)↔ZarC:=by
 unfold df;rw[ba.names,zQ];constructor
 ·exact fun h f hf w hw=>h w (List.mem_flatMap.mpr ⟨f,hf,hw⟩)
 ·intro h w hw
  refine ak (List.mem_flatMap.mp hw) fun f hf hw=>?_;exact h f hf w hw
def ou [95]{f:ba}:df bs (ZAs f)↔Zhk:=by
 unfold df;rw[ba.names]
def kL [444]:df bs (Zi_ w)↔w∈bs.map (·.w):=by
 unfold df;rw[ba.names];exact⟨fun h=>h w Ye,fun h v hv=>#[Ym,hv]⟩
def MQ [95]{f:b9}:df bs (.pl f):=by
 unfold df;rw[ba.names]
 exact fun w hw=>by cases hw
def xG [95]{f:ba}(n:∀ w,f≠Zi_ w):Zhk↔∀ u∈f.inner,ZUN:=by
 cases f with
 | pl f=>exact⟨fun _ u hu=>(by cases hu),#[dL,MQ]⟩
 | name w=>exact Zdf rfl (n w)
 | back f=>rw[ou];exact⟨fun h u hu=>#[Ym,hu],fun h=>h f Ye⟩
 | row fs=>rw[ro];exact⟨#[aLg,vd.mp],#[aLg,vd.mpr]⟩
mutual
theorem ba.row_len {bs:Zgt}(ok:Za4h):∀ f:ba,Zhk->ZAL->#[p8,ZAu,OV,bs]=ZAK
 | Zj4,_,_=>#[b1,Zae_,ba.len]
 | ZlN,k,h=>by
  rw[ba.rowF,ba.len];rw[ba.len]at h;unfold OV qh at *
  cases e:ZoW with
  | none=>exact #[apk,k]
  | some x =>
   rw[e]at h;exact ok x ZXB h
 | ZAt,k,h=>by
  rw[ba.rowF,ba.len,List.length_reverse];rw[ba.len]at h;exact ZKX ok f (ou.mp k) h
 | ZpN,k,h=>by
  rw[ba.rowF,ba.len];rw[ba.len]at h;exact Za0k ok fs (ro.mp k) h
theorem ba.row_lenL {bs:Zgt}(ok:Za4h):#[rq,(ZarC)->ZaPc<=Zcc->#[aZ,(ZtJ (OV bs) fs)]=ZaPc]
 | [],_,_=>#[cL,ZtJ,ZmG]
 | ZgD,k,h=>by
  rw[ba.lenL]at h ⊢;rw[ba.rowL,Yr,ZKX ok f (k f Ye) Zag,Za0k ok fs (#[aDP,k]) Zag]
end
def JA {e:Zw'}:∀ [272]{f:ba},ZUW->ZTb<=ZGd
 | g::fs,f,h=>by
  rw[ba.lenL];rcases ZwX with rfl | h
  ·lia
  ·have:=JA (e:=e) h;lia
def vV {e:Zw'}:∀ [207][144],ZmG e (Zafd i)<=ZGd
 | 0,fs=>#[f6,aQf,ZmG,Zdb]
 | _+1,[]=>Zbs
 | i+1,ZgD=>by
  rw[List.take_succ_cons,ba.lenL,ba.lenL];have:=vV (e:=e) i fs
  lia
open Classical in
noncomputable def cntF (fs:Zcf) (u:ba):Nat:=Zafb ZA3
def Pc (len:ZxK)[144]:#[aKH,((ZpP fs).map #[wG,ZXW]).sum]:=Cd len (Qb fs) fs fun f hf=>vd.mpr hf
open Classical in
theorem R3 {fs:Zcf}{u:ba}{c:Nat}(h:∀ g:Zaon,(∀ x,g x=Zad↔x=u.dt)->c=(ZhU fs).countP g):ZaPE:=by
 rw[h (#[A1,x=u.dt]) (#[b5,decide_eq_true_iff]),Jg,List.countP_map];unfold cntF;refine Za0h fun f _=>?_
 show #[AX,ZmE=u.dt]↔#[AX,f=u]
 rw[decide_eq_true_iff,decide_eq_true_iff];exact⟨#[bN,Zauv],#[bN,#[gT,e]]⟩
def R1 [144](u:ba):ZXW<=Zd6:=by unfold cntF;exact List.countP_le_length
open Classical in
theorem Nc (fs:Zcf):#[a0,ZpP,fs]<=Zd6:=by
 have key:#[arB,#[bc,ZaLo,ZpF+Zd6]]:=fun fs=>by
  induction fs with
  | nil=>exact fun acc=>Zbs
  | cons f fs ih =>
   intro acc;rw[Z3];have:=ih (Zi' acc f)
   have:#[jS,(Zi' acc f),ZpF]:=by unfold likeStep;split<;>simp
   rw[YF]
   lia
 have:=key fs [];unfold once;simpa using this
def GB:∀ l:Zbi,(Zml fun n:Nat=>Zcg).sum=#[a1,l.sum]
 | []=>rfl
 | Zr5=>by rw[Ys,Z8,Z8,GB l];lia
inductive N3 [8]:Zaa
 | mk [89][38](f:ba)[58](_:n<=9)(_:dy ZdE H p f)(_:#[an7,Zjn->Zcw->Zaoy->Za3 (dy n H') as f.inner->Q Zef H'])
inductive Ez (C cU:Addr)[56]:Zaa
 | mk (b:Addr)(A:BA)[224](_:vs=[Zaj b,ZTv])(_:ZNe)(_:ZaxK)(_:∀ e,ZaaT->#[b8,e.p,H])(_:ZaL2->ZQV)
inductive CL (C cU:Addr)[38][56]:Zaa
 | mk [85](_:ZNe)(_:ZV9)(_:Zhk->ZNj)(_:ZaHE)
abbrev ND [250]:Zaa:=#[l1,ZlI->(∀ kv,o≠ZKY kv)->ZUo]
def Rh [23][79]:Zw0:=fun a o e _=>s a o e
def Hz [42]{d:Addr}{kv:ZdU}{o:HO}(h:#[aK,d,(.dK kv)]):ND H #[bJ,d,o]:=fun a u e n=>by
 rw[ah (fun z=>by rw[z,h]at e;cases e;exact ZT4)];exact e
def ND.trans {H H' H2:Hp}(s:Zw0)(t:ND H' H2):ND H H2:=#[aEe,t,(s a o e n)]
def dy.nd [23][162][197](s:Zw0):ZWc:=h.mono fun _ _ z=>s _ _ z fun _ q=>nomatch q
def fU.nd [23][281]{r:ZdS}(h:fU H l r)(s:Zw0):fU H' l r:=by
 obtain⟨as,h1,p⟩:ak:=h;exact ⟨as,(s _ _ h1 (fun _ q=>nomatch q)),(Paired.mapP p fun a q z=>s _ _ z fun _ q=>nomatch q)⟩
structure Uv [104]:Zaa where
 ob:ZamW
 f2:ZaJR
def Uv.mono [353][237](x:ZVc)[79]:Uv C H' b A bs:=⟨ZE_,ZatY⟩
structure Ui [104]:Zaa where
 ob:ZamW
 f3:ZaNc
 rw:Za4i
 nd:(bs.map (·.w)).Nodup
def Ui.mono [353][237](x:ZVd)[79]:Ui C H' b A bs :=
 ⟨ZE_,ZatZ,#[Sp,ZaxG,ZRc],x.nd⟩
def Ja {C:Addr}{H H':Hp}{b:Addr}{A:BA}{bs:Zgt}{x:BE}(B:ZNe)(nd:Zw0)(hw:x.w∉bs.map (·.w))(f1:#[cB,Zea,#[al8,(ZTL,ZaS x.p)]])
  (f2:#[cB,Zeb,#[amL,(ZTL,Zaw x.n)]]) (f3:#[cB,Zg0,(.dK ((ZKW #[bN,ZRa])++#[fw,ZFc,[(ZTL,ZaS x.l)],[]]))])
  (fg:dy 9 H' x.p x.f) (rw':ZFc->fU H' x.l x.r/\x.r.length=x.n) (ln:Zazn):ZaAn:=by
 refine⟨nd _ _ B.ob (fun _ q=>nomatch q),#[N6,f1],#[N6,f2],?_,?_,?_,?_,ZYr,B.d12,B.d13,B.d23⟩
 ·rw[f3,Z1,Yu]
  by_cases c:ZFc
  ·rw[ZrC,List.filter_cons_of_pos (by unfold jI;exact Yc c)];rfl
  ·rw[Zrx,List.filter_cons_of_neg (by unfold jI;rw[X9 c];decide)];rfl
 ·intro e he
  rcases ZT' with z | z
  ·exact (B.fg e z).nd nd
  ·rw[ZdO];exact fg
 ·intro e he h
  rcases ZT' with z | z
  ·exact⟨#[aGx,0].1.nd nd,#[aGx,0].2⟩
  ·rw[ZdO]at h ⊢;exact rw' h
 ·rw[Yu]
  refine #[aY3,B.nd,?_];rw[List.map_singleton,Yj]at hb;subst hb e;exact hw ha
inductive wL [35][38][8]:Zaa
 | mk [85](_:ZVc)[412](_:#[TP,ZaGX])
inductive rD [35][38][8]:Zaa
 | mk [85](_:ZVd)[412](_:ZAL)(_:ZaNy)
inductive Ey [369]:Zaa
 | mk (b dx:Addr)(_:Zauz)(_:#[b9,ZDt])(_:∀ (A:BA)(H':Hp),(#[l1,ZlI->Zj8->ZUo])->#[Rl,[]]->#[a_,Zea]->#[a_,Zeb]->#[a_,Zg0]->Q ZaJ H')
inductive DO where
 | done | bad | taken | unknown
open Classical in
noncomputable def defO (bs:Zgt) (w:Str) (f:ba):DO:=if zw w=Zaz then .bad else if w∈bs.map (·.w) then Zaff else #[b4,Zhk,Zcv,Zafg]
abbrev V9 [104][411](f:ba)[89](R:Zj5):Zaa:=∀ (x:BE)(H':Hp),x.w=w->x.f=f->x.p=p->x.n=ZAK->(ZFc->x.r=ZaFS)->ZaAn->(#[l1,ZlI->ZUz->ZUA->a≠Zg0->ZUo])->R H'
inductive AL (C cU cB cT:Addr)[56]:Zaa
 | mk (b p:Addr) (A:BA) (bs:Zgt) (w:Str) (f:ba) (h_0:vs=[ZC0,ZTv,ZbH]) (h_1:ZNe) (h_2:dy 9 H p f) (h_3:xW w) (h_4:ZaxK) (h_5:Zazn)
  (h_6:#[H9,Zcv,V9 C H b A bs w f p (Q ZaJ)]) (h_7:#[H9,.bad,#[ua,cB]]) (h_8:#[H9,Zaff,#[ua,cT]]) (h_9:#[H9,Zafg,ZQV]):AL C cU cB cT vs H Q E
structure Wc [13](cS cU ck cB cT kd:Addr):Zaa extends Xu K mg cS where
 f:Xa K mg ck
 mp:∃ u,#[ah,mg Za0l,u]/\bo (Zae Zcc) u
 ml:Za19
 mt:Za1'
 mkd:ZaFo
 kd:#[D5,#[WU,kd,#[al3,bw (Zafh ZaY) ZAw]]]
 eU:c6 K cU
 mU:#[bI,ZtL,cU]
 eB:c6 K cB
 mB:#[bI,ZKZ,cB]
 eT:c6 K cT
 mT:#[bI,ZK0,cT]
 bb:ZaFC
 tb:#[agP,cB]
 tt:ZaFD
 ub:ZazH
 ut:#[agO,cU,cT]
 uu:ZaFB
abbrev RL [4][261]:Zaa:=#[aa9,ck,Zjc,(Ey ck),Zjc]
def Tn [45]{ck:Addr}{p pos:Pos}(M:#[Ib,RL,ck])(U:Xa X.K ZbK ck)(hr:Zyv)(hg:Gl X ZKR):#[aKs,ZKR,ck,(Ey ck)]:=by
 revert M;intro a_;obtain⟨fI,fd,M,G,hb⟩:da:=a_;exact #[aTh,U.mF]
#print Wz
namespace L2
open PySem PySem.Spec PyProof.Rows
def To [458](hr:Zxq):PA X ZaSg (nu ZZJ t):=aj aB hr rfl
def AU [171]{p:Pos}{t:ZSL}[162]{env:Env}:#[nQ,Zsx #[C',p] t n env]:=rfl
structure Q5 [81](ss:Zel)(t:TS):Zaa where
 h:BZ X ss t
structure QA [242]:Zaa where
 h:Zxq
def Ax [45]:QA X [] q8:=⟨aV⟩
def bj [458](hr:QA X es t):QA X ZaSg (nu ZZJ t):=⟨To hr.h⟩
#print L2
namespace Wz
open PySem L2
structure Wd [13](cS cU ck cB cT kd cL:Addr):Zaa extends Wc K mg cS cU ck cB cT kd where
 eL:c6 K cL
 mL:#[bI,ZK1,cL]
 lu:ZaFf
 ll:ZaFE
def Td {w:Str}(h:zw w=Zad):1<=Zmm/\Zmm<=12:=by
 unfold zw at h;rw[Y4,Y4]at h;exact Y1 h.1.2
def sQ.l [335]:ZVc:=⟨Zja,B.f2⟩
def sQ.r [335]:ZVd:=⟨Zja,B.f3,B.rw,B.nd⟩
inductive Og (C cU cL:Addr)[56]:Zaa
 | mk (b p:Addr) (A:BA) (bs:Zgt) (f:ba) (h_0:ZaB') (h_1:ZNe) (h_2:dy 9 H p f) (h_3:ZaHE) (h_4:Zhk->ZaA4->#[ua,cL])
  (h_5:Zhk->ZAL->ZaNy):Og C cU cL vs H Q E
abbrev HI:RN:=⟨Zac,0,Zac⟩
def F7 {X:Cx}{cX fX:Addr}{E:XK}{e:Expr}{te:TE}{np i_ pos:Pos}(N:yJ ZbC X.w X.K ZbK Zev cX fX)(eQ:mh X.K cX fX=Zad)(tQ:#[a3M,fX])(mQ:#[CH,ZbK ZpK,cX])(hr:Zyv)(hfl:ZGy)(hex:Zr2)(hh:Zxd)(hg:Gl X ZpK)(he:ZgC)
  (hs:Zyq:=by rfl):#[aNF,ZpK,cX,Zi8]:=by
 obtain⟨fd,G,hb⟩:ak:=N;exact #[aTV,eQ,tQ,mQ]
#print Wz
namespace L2
open PySem PySem.Spec PyProof.Rows
abbrev Dh [206][69]:Str:=⟨#[aNT,x.cps.toList.drop,ZgX,ZgX,ZgX,ZgX]⟩
def Ew [69][38]:Za0m lo hi 1 n=(Zkn (ZHx-ZQ8)).map (ZQ8+·):=by
 have c:∀ i:Int,max 0 (min (if i<0 then i+Zcg else i) Zcg)=#[a1,#[fw,i<0,(i+Zcg).toNat,min ZzC n]]:=fun i=>by
  by_cases h:i<0
  ·rw[ZcE,ZcE];lia
  ·rw[Zco,Zco];lia
 have e:Za0m lo hi 1 n=sliceRange Zask #[a1,ZHx] 1:=by
  unfold Builtin.Str.strSliceIndices
  cases lo with
  | none =>
   cases hi with
   | none=>simp[HT.sIx]
   | some i=>simp only[HT.sIx,Zah9,ZQ,c];rfl
  | some j =>
   cases hi with
   | none=>simp only[HT.sIx,Zah9,ZQ,c]
   | some i=>simp only[HT.sIx,Zah9,ZQ,c]
 rw[e,sliceRange_one]
def TF [38](hi:ZgI):ZHx<=n:=HT.sIx_le n n Zbz hi
inductive Vf [268]:Zaa
 | mk [262](_:ZGR)[452](_:Q (Zax ZaHz) H)
def Mf [262][69]:#[bc,ZaHz,Zb6]:=by
 show (#[hH,((z.cps.toList.drop _).take _)]).size<=z.cps.size
 rw[Yq,YL,YH,YS]
 lia
set_option tactic.hygienic true
def Eu [45]:UG X Vf:=by
 intro pins s σ H x v vl vu lo hi sl Q I rx hs pl pu h;obtain⟨z,rfl,hz,q⟩:=h;obtain⟨t,rfl⟩:=rx;refine au Zmi _ F.slot_str_getitem.lookup Zal1 ?_
 obtain⟨l,el,el2⟩:∃ l:ZaF_,vl=Za0n l/\l.map (·.1)=lo:=by
  cases pl with
  | none=>exact ZVr
  | int i t=>exact ZaGu
 obtain⟨u,eu,eu2⟩:∃ u:ZaF_,vu=Za0n u/\u.map (·.1)=hi:=by
  cases pu with
  | none=>exact ZVr
  | int i t=>exact ZaGu
 subst el eu el2 eu2;refine wpAny_getItem_str_slice (l:=l) (u:=u) (st:=Zac) hs rfl ?_;have e1:Za0o z l u Zac=(List.range (HT.sIx z.length z.length (u.map (·.1))-HT.sIx z.length 0 (l.map (·.1)))).map (HT.sIx z.length 0 (l.map (·.1))+·):=Ew _ _ _
 have e2:Za0q (z.cps[·]?)=(z.cps.toList.drop (HT.sIx z.length 0 (l.map (·.1)))).take (HT.sIx z.length z.length (u.map (·.1))-HT.sIx z.length 0 (l.map (·.1))):=#[b1,e1,ZaV0]
 have e3:(⟨(Za0q (z.cps[·]?)).toArray⟩:Str)=Dh z (l.map (·.1)) (u.map (·.1)):=#[cJ,e2]
 unfold sliceMade;rw[e3];split
 ·rename_i c
  have c2:=(Y4 _ _).mp c
  have c3:#[aZ,Za0p]=Zb6:=#[Ai,c2.2]
  rw[e1,X7,aQb]at c3;have hh:=TF z.length (u.map (·.1))
  have ez:Dh z (l.map (·.1)) (u.map (·.1))=z:=by
   unfold Dh;rw[show HT.sIx z.length 0 (l.map (·.1))=0 by by_cases q:Zb6=0<;>(first | lia | (have:=HT.sIx_le z.length 0 ZqG (l.map (·.1));lia)),List.drop_zero,show HT.sIx z.length z.length (u.map (·.1))-0=z.length by lia];rw[#[eU,ZZ,YS,Zbs]]
  rw[ez]at q;exact au ZCI H I ZUY q
 ·exact ⟨(by have:=Mf z (l.map (·.1)) (u.map (·.1));lia),Zgu,H,Zq4,ZbG,q⟩
abbrev Sy [344](q:Zazg):DictEntry:=#[aOK,q.2,ZarP]
abbrev hObj [344][336][38]:Obj:=#[aOO,Sy]
structure GR [37][344][88][112]:Zaa where
 nd:(xs.map (·.1)).Nodup
 ns:Zabz
 at':#[aO3,hObj]
abbrev Uq (q:Zazg):ZaAZ:=(ZQK,ZarP)
set_option tactic.hygienic false
def Fq [68]:#[aRa,#[dR,ZRh,Tok],Sy,Uq]
 | []=>Zao
 | q::l=>#[aQs,q.2,Fq]
def Js:∀ [336],Zazj->(ZAr Uq).map (·.1)=(xs.map (·.1)).map Sum.inr
 | [],_,_=>rfl
 | ZgB,[],h=>by cases h
 | ZgB,ZlT,h=>by
  rw[Zq,Ys,Ys,#[aMG,Js]];rfl
def Hf:∀ [336][262],#[aE5,Zpr (ZAr Uq) Zar7=#[ar9,0].map Zeu]
 | [],_,_,_=>rfl
 | ZgB,[],_,h=>by cases h
 | ZgB,ZlT,z,h=>by
  have ih:=Hf xs ts z Zzn;unfold valueAt at *;rw[Zq,Ys,YI,Y9]
  by_cases e:z=x.1
  ·have e1:ZaFX:=ZR6
   have e2:#[AX,#[HH,Uq]]:=Zatc;rw[e1,e2];rfl
  ·have e1:ZaEU:=Zy3
   have e2:#[AY,#[HH,Uq]]:=ZaJi;rw[e1,e2];exact ih
def Jr [323][6][54]{xs:Zjh}[150](g:#[aG7,GR])(k:ZoB):#[a4c,ZarM,Uq]:=by
 refine ZaMJ;refine ZaS5
 ·have hen:#[aNQ,Sy]:=ZaZk
  obtain⟨q,_,rfl⟩:ak:=Zaup;exact #[aFy,q.2]
 ·have:=#[aPh,Fq]
  simpa using this
 ·rw[Js xs ts hl]
  exact ZaQy
abbrev QU [112](ty:TE):TE:=#[ay9,Q (.bl (!#[hD,Zar9])) H1]
abbrev W1 [112](ty:TE):TE:=#[P2,∃ z b,y=Zax z/\Zafj z=Zab b/\#[b8,b,H1]]
def Lp [228][390][202][413]:PC X ZzJ i o (QU xs ty):=by
 intro pins s σ H Q I h;refine ZZk;obtain ⟨y,H1,I1,ry,z,e1,q1⟩:=zz;refine bD (ho Zai s1 σ H1 (fun v H'=>v=Zcm/\H'=H1) I1 ZnP) ZPk;obtain ⟨x,H2,I2,rx,ex,eh⟩:=zz;subst ex eh e1;obtain rfl:ZMV:=rx;obtain⟨t,rfl⟩:=ry;refine ZaOg;refine ZaWq Zaa4 g.ns ZzI ?_;rw[ZaCr,Option.isSome_map];exact au ZCk H2 ZSG rfl q1
def Ts [228][65][390][413][202](hs:RR i):#[Jv,o,i,(W1 xs ty)]:=by
 intro pins s σ H Q I h;refine #[aI5,(bD (ho Zai s σ H (fun v H'=>v=Zcm/\H'=H) I ZnP) Zh8)];obtain ⟨x,H1,I1,rx,ex,eh⟩:=zz;subst ex eh;obtain rfl:ZMV:=rx;refine #[vD,hi,h,ZD9];obtain ⟨y,H2,I2,ry,z,b,e1,e2,q2⟩:=zz;subst e1;obtain⟨t,rfl⟩:=ry;refine ZaOg;exact⟨ZKw,ZaWo Zaa4 ZzI (#[cL,ZaCr,e2]) (au Zlq H2 ZSG rfl q2)⟩
def Nl [418]{N:Zbe}{qual:Str}[399]{f c':Addr}{y:Str}{cy:Addr}[34]{outer:ZbA}{s0:Shared}{H0:Hp}{E:XK}:fE ZcO (ZaR6) E:=by
 intro pins σ H s e s' I hc;obtain⟨ea,C,od,H',B,rfl,fl,un,hok,os,bare,hsB,trB,hE⟩:bf:=hc
 let X:Cx:=ZaR6
 show Zagx
 have ax9:ZaUu:=I.ok.frames
 have frS:ZH4:=by unfold gT;rfl
 refine ZaQP;have ltl:ZakF:=Zyz;have aq8:Zakr:=ZNx
 have h0B:ZGX:=fun b o e hf=>by
  obtain⟨o',e'⟩:=ZaFg;refine ZaCd;rw[frS];intro z;rcases Zhp with z | z
  ·exact Zsa
  ·exact ZrF
 have unS:ZaIY:=by
  have u1:ZaIX:=I.base;refine ZaTw
  ·refine ZaSB
   rw[frS];intro z;rcases Zhp with z | z
   ·exact Zsa
   ·exact ZrF
  ·obtain⟨sl,e1⟩:=ZaBH
   obtain⟨sl2,e2⟩:=ZaQH;exact ZawL
  ·obtain⟨o',e'⟩:=ZFA
   exact ZaOe
  ·obtain⟨o',e'⟩:=ZFA
   exact ZaYy
  ·obtain⟨m1,e1⟩:=ZaF1
   obtain⟨m2,e2⟩:=ZaBP;exact ZH'
 have v_:Zakt:=fun b o hf e n=>by
  obtain⟨sl,e1⟩:=ZaCa;refine Zakn
  have e2:o2=o:=by
   have:ZGL:=ho2;rw[e]at this;exact ZnD
  subst e2;obtain⟨sl2,e3⟩:=Zx_;exact ZxW
 refine ZaTb;refine ZaRS;obtain⟨sl,q⟩:=ZGW;exact Zgv
section
variable {X:Cx}{CX:wQ}{k:Nat}{E:XK}{x y:Str}{p pos:Pos}{e e1 e2:Expr}{es:Zbh}{te t1 t2:TE}{t:TA}
def Ga {iy:Nat}{fw c0 P cy:Addr}{fdw:FuncData}{psw:Zbe}{sp:ZaJ'}{params:Arguments}{body:Expr}{scope:Scope}{s_:Pos}{qual:Str}
  (W:#[aYW,Zaz'->pL ZbK b'->ZaAS->ZaSp])
  (hr:Zd4) (hg:ZcF) (hm:ZavB) (hk:Za2S) (hb:ZaMs) (hx:ZfJ)
  (h1:ZaEM) (h2:ZYH) (hc:ZV3) (C:Zaag) (B:ZXL) (hq:ZaaL) (hdf:Zaac) (R_:Za4e) (hcy:ZOB)
  (hfn:ZWY) (hN:Zavc) (hkd:ZazU)
  (z_:Zt_:=by decide) (he:ZaMS:=by rfl)
  (he2:ZaIE:=by rfl) (he3:ZaGt:=by rfl)
  (r_:Zau3 (·.1)=false:=by rfl) :
  PE X ZaFn (fun σ H Q=>t1 σ H fun x1 H1=>t2 σ H1 fun x2 H2=>Zaz4/\∃ vy,ZaEy /\
   ZaSW):=by
 intro pins s σ H Q I h;refine ZlW;refine ZaTW;rw[he,he2,he3]
 show ZaPG
 refine ZaPO;obtain ⟨x1,H1,I1,r1,q1⟩:=zz;refine ZaNv;obtain ⟨x2,H2,I2,r2,hT,vy,hσ,q2⟩:=zz;refine ZaT6;refine ZaI2;have q3:=ZaSO;refine ZazE;refine ZaS_
 have cl:ZaJX:=by
  rcases ly with ⟨z,_⟩ | ⟨_,c,e,ce⟩
  ·have z:ZazT:=z
   rw[hkd]at z;cases z
  ·rw[hcy]at e;cases e;exact ce
 obtain⟨oc,hoc,hdc⟩:=cl;have e0:=ZaTL;have F:=W _ f c' cy vy pm ct e0.mod (let ⟨bm,ob,b1,b2,b3,b4⟩:=B;(bS bm ob b1 b2 (i8 (I3.bk _ _ b3) (Zal #[a7,b3])) b4)) ZaTi;have r3:ZaJK:=ZaUi
 have hl3:ZaL5:=ZaH0
 refine ZaT1
 cases r with
 | error e=>exact ZaNJ
 | ok fl =>
  cases fl with
  | ret u=>exact ZatK
  | next=>exact ZsV
  | brk=>exact ZsV
  | cont=>exact ZsV
#where
#print L2
namespace Wz
open PySem L2
abbrev Cq [306]:Bool:=#[AV,c=32\/c=40\/c=41]
abbrev fG [30]:Zbi:=l.takeWhile fun c=>! Cq c
abbrev toS [30]:Str:=⟨Zaev⟩
def Ox [30]:bA (toS l)=l:=by unfold bA toS;simp
def EO [30]:#[Xn,toS]:=#[b1,iF,Ox]
def Uf [30]:Zu8<=ZbM:=by unfold fG;exact #[arT,0].length_le
open Classical in
noncomputable def rdNum (z:Str):ZgI:=if h:ZuM then Zab (Zmy ZaZx) else none
def P7 [223]:ds=es:=by
 have e:=ZaZq b.eq
 have inj:∀ {x y:Zbi},x.map (·+48)=y.map (·+48)->x=y:=fun {x}=>by
  induction x with
  | nil=>intro y h;cases y with | nil=>rfl | cons _ _=>cases h
  | cons a x ih =>
   intro y h
   cases y with
   | nil=>cases h
   | cons b y =>
    rw[Ys,Ys]at h;injection h with h1 h2;rw[ih h2,#[iY,a,b]]
 exact inj e
def NM [328]:ZAx z=Zab ZanU:=by
 unfold rdNum;rw[dif_pos ⟨ds,h⟩];have:=P7 (Exists.choose_spec (⟨ds,h⟩:ZuM)) h;rw[this]
def Rl [358]:ZAx z=Zac:=by
 unfold rdNum;rw[dif_neg (fun ⟨ds,q⟩=>h ds q)]
abbrev numAt [30]:Zav6:=#[aNK,ZAx]
abbrev dO [263]:Nat->Zbi->#[uV,Zd2]
 | 0,_=>none
 | n+1,l=>#[b4,ZVp,(rd (Zc6 1)).bind fun p=>(dO rd n p.2).map #[a9,(p.1::q.1,q.2)],#[afl,Zav9,ZaG2]]
abbrev m7 [411][144]:ZarZ:=if w=ZaH then (#[aq9,ZaB0,ZpM,fs]) else match fs with
 | [f]=>Zab (ZAs f)
 | _=>none
abbrev gm [411][167]:ZarZ :=
 if ZauP then (match gs with
  | Zgm=>Zab ZZn
  | _=>none)
 else if ZauS then (match gs with
  | ZCP=>#[aq9,ZD_,.pl,(ZKO a b c d)]
  | _=>none)
 else #[afk,ZG0,#[fw,ZauQ,Zab Zayl,#[ek,ZauR,Zaym,#[afl,w=Zdi,Zayk]]]]
abbrev figM:ZaBE
 | 0,_=>none
 | d+1,l =>
  if ZFR then
   (if ZaKF then #[aj2,Zq9,m7]
   else #[aj2,ZmI,gm])
  else Zafm
abbrev brM [443]:Zaow :=
 if toS (fG l)=ZaH\/toS (fG l)=Za' then #[aP5,Zq9,m7]
 else #[aP5,ZmI,gm]
def Ji [443](h:ZFR):Zfe Zlr l=brM d (Zc6 1):=#[cL,Zfe,ZcE]
def Jj [443](h:#[Vi,40]):Zfe Zlr l=Zafm:=#[b1,Zfe,Zco]
abbrev RT [263]:Zaa:=∀ l a r,rd l=Zab (a,r)->∃ k,r=Zc6 k
def JW [18](h:RT rd){l:Zbi}{a:α}{r:Zbi}(e:rd l=Zab (a,r)):#[DY,ZbM]:=by
 obtain⟨k,rfl⟩:=h l a r e;rw[YH]
 lia
def Et:RT ZmI:=fun l a r h=>by
 unfold numAt at h;refine #[CK,h,fun n _ e=>?_];injection e with _ e;exact Zasb
def wJ [18](h:RT rd):∀ n,RT (dO rd n)
 | 0=>fun l a r e=>by cases e
 | n+1=>fun l a r e=>by
  rw[dO]at e;split at e
  ·refine ZHW
   refine ZHD;injection e4 with _ e4;obtain⟨k,hk⟩:=h _ p.1 p.2 e1;obtain⟨k2,hk2⟩:=#[aRL,wJ];exact⟨1+(k+k2),by rw[<-e4,hk2,hk,Zf,Zf]⟩
  ·split at e
   ·injection e with e
    injection e with _ e;exact⟨1,ZJt⟩
   ·cases e
def yr:∀ d,RT (Zfe d)
 | 0=>fun l a r e=>by rw[figM]at e;cases e
 | d+1=>fun l a r e=>by
  by_cases h:ZFR
  ·rw[Ji d l h]at e
   unfold brM at e;split at e
   ·refine ZHW
    refine ZHD;injection e4 with _ e4;obtain⟨k,hk⟩:=#[aRp,ZT8];exact ZaSI
   ·refine ZHW
    refine ZHD;injection e4 with _ e4;obtain⟨k,hk⟩:=#[aRp,Et];exact ZaSI
  ·rw[Jj d l h]at e
   split at e
   ·injection e with e
    injection e with _ e;exact Zasb
   ·cases e
def TJ [306]:(!(Builtin.Str.occurrences #[fV," ()"] ⟨#[c]⟩ 0 #[Te," ()"] 1).isEmpty)=Cq c:=by
 rw[StrLaws.found_one]
 have e:#[wH," ()"]=[32,40,41]:=ZaA
 rw[e];unfold Cq;rw[ZP];simp only[Yn,aQq,or_false]
def Pe [262]{a b:Nat}(h:#[nb,b]):Dh z ZasI (Zab (b:Int))=toS (ZD8 (b-a)):=by
 unfold Dh toS bA;rw[HT.sIx_nat,HT.sIx_nat,Z6 h]
 by_cases q:ZoM
 ·rw[Z6 q]
 ·have hz:ZaeH:=Zro
  rw[#[iY,b-min a Zb6,0],#[iY,b-a,0],aQf,aQf]
def Di [262](a:Nat):Dh z ZasI (Zab (ZCY+1))=toS (ZD8 1):=by
 unfold Dh toS bA
 have hz:ZaeH:=Zro
 rw[#[iY,(ZCY+1),#[a1,a+1]],HT.sIx_nat,HT.sIx_nat]
 by_cases q:#[nb,a+1]
 ·rw[Z6 q,ZasS,#[iY,a+1-a,1]]
 ·rw[Za0r (#[ud,Zb6,a+1])]
  by_cases q2:ZoM
  ·rw[Z6 q2,#[iY,#[k2,a],0],aQf,Za0x];rfl
  ·rw[Za0s,Nat.sub_self,aQf,Za0x];rfl
def Dq [30][306]:decide (ZaY (toS (ZAy 1))=V.str ⟨#[c]⟩)=#[AV,#[B5,c]]:=by
 rw[ZP]
 cases l with
 | nil=>exact⟨(fun h=>by have h:=ZEE;unfold toS at h;injection h with h;cases h),(fun h=>by cases h)⟩
 | cons x l =>
  constructor
  ·intro h
   have h:=ZEE;unfold toS at h;injection h with h;have h:=Zp Za0t h;simp at h;rw[h];rfl
  ·intro h
   have h:x=c:=Yk h;rw[h];rfl
#print Wz
set_option maxRecDepth 1000000
namespace Wz
open PySem L2
abbrev GK [250]:Zaa:=#[p2,H,(ZHT),#[a4,H']]
def fk [23][79]:ZdH:=Zarl
def GK.refl [42]:GK H H:=fun _ _ e _=>e
def GK.trans [316](a:GK H H1)(b:GK H1 H2):GK H H2:=ZaOZ
def GK.tup [238][176]:Zavd:=k b _ e fun _ z=>nomatch z
def GK.lst [238][124][41](e:#[b9,Zu6]):#[jD,Zu6]:=k b _ e fun _ z=>nomatch z
def Su [23][433](k:ZdH)(h:Zjn):GK H ZaLC:=#[K2,#[R4,k b u e n]]
def MD [442][23][173][286](k:ZZC):ZdH:=fun b o e n=>by
 obtain⟨ps,q⟩:=t.tbl
 exact ZaQg
abbrev KT [37][356][348]:Zaa:=#[D5,#[WU,q,#[al3,bw vs ZAw]]]
def KT.sq [323]{q:Addr}{vs:Zbg}(h:KT K q vs)[33]:bL K H q vs:=Zaq h
structure Kk where
 (q1 q2 q3 q4 q5 q6 q7:Addr)
abbrev szL (q:Kk):Zjh:=[(ZeE,q.q1),(Zdx,q.q2),(Zf8,q.q3),(Zdi,q.q4),(Zf9,q.q5),(ZaH,q.q6),(Za',q.q7)]
structure We [288](cF kd cs:Addr)(q:Kk):Zaa where
 eF:c6 K cF
 mF:#[bI,ZK3,cF]
 ff:ZaFF
 md:Za15
 dg:Za17
 dp:∃ u,#[ah,mg Za0v,u]/\bo (Zae 8) u
 ml:Za19
 mt:Za1'
 mkd:ZaFo
 kd:KT K kd Zafi
 ms:#[bI,"SIZES",cs]
 sz:GR K Zfd cs ZNM
 t1:KT K q.q1 #[bP,2,2]
 t2:KT K q.q2 #[bP,2,60]
 t3:KT K q.q3 #[bP,2,60]
 t4:KT K q.q4 #[bP,2,60]
 t5:KT K q.q5 #[bP,4,4]
 t6:KT K q.q6 #[bP,1,60]
 t7:KT K q.q7 #[bP,1,1]
inductive wM [8]:Zaa
 | mk [262](a:Nat)(_:ZaBK)(_:Zup)(_:ZoM)(_:∀ t,ZSR->#[b8,t,#[k9,t,Zamh]])
inductive Oc [60][117]:Zaa
 | mk (z:Str) (a:Nat) (h_0:ZaBK) (h_1:ZjX) (h_2:Zup) (h_3:ZoM) (h_4:J H) (h_5:ZFC)
  (h_6:∀ x r,R Zfr=Zab (x,r)->∀ (t:Addr)(v:V)(H':Hp),#[aP3,v,ZaMf])
  (h_7:ZaNf):Oc P0 lp ql cF J R At vs H Q E
inductive Gw (P0:Addr)(lp:Pos)(ql:Str)(cF fl:Addr)[117]:Zaa
 | mk (z:Str) (a:Nat) (h_0:vs=[Zu',Zgk,Zaj fl]) (h_1:ZjX) (h_2:Zup) (h_3:ZoM) (h_4:J H) (h_5:ZFC)
  (h_6:∀ xs r,ZaRj=Zab (xs,r)->∀ (t q:Addr)(vs':Zbg)(H':Hp),ZdH->Zvg->#[aoC,Zaj q]->#[cB,q,#[dz,vs']]->#[aNZ,vs']->Q ZQs H')
  (h_7:ZaRj=Zac->ZRu):Gw P0 lp ql cF fl J R At vs H Q E
inductive AN (cF:Addr)(d:Nat)[56]:Zaa
 | figs [411][356](ps:Zcr)[144][423](h_1:Zaad)(h_2:#[aK,q,#[OW,ZtI]])(h_3:ZaH5)(h_4:Zd6<=Ztm)(h_5:#[aOi,m7,fs])(h_6:#[Y2,w]->#[ua,cF]):ZaSG
 | nums [411][356][167][423](h_1:¬ (Zaad))(h_2:#[C_,Zmv])(h_4:#[DZ,Ztm])(h_w:Zmm<=Ztm)(h_5:#[aOi,gm,gs])(h_6:#[sj,w]->#[ua,cF]):ZaSG
inductive qT [60](d e:Nat)(R:Zbi->#[uV,ba])[56]:Zaa
 | mk (z:Str) (a:Nat) (h_0:vs=[Zu',Zgk,Zae e]) (h_1:ZjX) (h_2:Zup) (h_3:ZoM) (h_5:ZFC)
  (h_6:∀ f r,R Zfr=Zab (f,r)->∀ (t p:Addr)(H':Hp),#[aP3,ZbH,#[CU,d]])
  (h_7:ZaNf):qT P0 lp ql cF d e R vs H Q E
inductive Od [60][56]:Zaa
 | mk (z:Str) (h_0:ZFh) (h_1:ZjX) (h_2:Zup) (h_5:ZFC) (h_6:#[ao3,Zfe,8,ZdV,(f,[]),ZdH->Zvg->#[CU,8]->Q Zh' H'])
  (h_7:(ZaCv)->ZRu):Od P0 lp ql cF vs H Q E
inductive vw [8]:Zaa
 | mk [198](_:#[TP,(.bl (zw z))])
def QX [129](hs:Cq c=Zaz):fG l=ZAy (n+1)++fG (Zc6 ZdE):=by
 have hn:=Zatl
 have e:ZaJc:=by
  rw[aQc hn]
  congr 1
  exact ZaDr
 rw[h,e,YG,hc,YE,ZW]
 congr 1
 unfold fG;rw[List.takeWhile_cons,hs];rfl
def QY [129](hs:Cq c=Zad):ZaPp:=by
 have hn:=Zatl
 have e:ZaJc:=by
  rw[aQc hn]
  congr 1
  exact ZaDr
 have e2:fG (Zc6 n)=[]:=by
  rw[e];unfold fG;rw[List.takeWhile_cons,hs];rfl
 rw[h,e2,Zd]
def Ue {l:Zbi}[162](h:ZaKo)(hn:ZbM<=n):ZaPp:=by
 rw[Za0w hn]at h;rw[h]
 show Zaop++[]=ZAy n
 rw[Zd]
def RW {z:Str}(h:ZjX):∀ c∈bA z,c<128:=fun c hc=>by
 unfold xW at h;rw[<-Array.all_toList]at h;exact Y1 (ZpQ h c hc)
def L7 {z:Str}(h:ZjX)(a:Nat):#[Cw,xW]:=L6 fun c hc=>by
 have hc:c∈#[Cw,bA]:=hc;rw[Ox]at hc;exact RW h c (ZaYq (#[arT,0].subset hc))
def IT {z:Str}{a:Nat}(h:ZoM):ZBT=#[k2,#[a0,ZEe,ZBS]]/\#[nb,ZBT]:=by
 have h1:=Uf (Zfm a);rw[YH,<-iF]at h1;rw[YH,YH,<-iF]
 lia
def we {a:Nat}(h:a<=1000001):Zaro<10 ^ 100:=by
 have e:Zaro=a:=Zaf
 rw[e];exact ZF h Zb7
abbrev GL [250]:Zaa:=#[hh,ZEq,(ZHT),(∀ xs,o≠ZaI xs),ZQx]
def Jp [238]:ZEH:=fun b o e n _=>k b o e n
def Sv [42][433][41](h:Zu7):GL H ZUJ:=fun b u e n n2=>by
 rw[#[wm,by rw[z,h]at e;exact n2 _ ZXq]];exact e
def GL.tup [414][176]:Zavd:=k b _ e (fun _ z=>nomatch z) fun _ z=>nomatch z
def GL.fg [414][162][197]:ZWc:=#[qO,h.mono,k.tup z]
def GL.code [414]{c':Addr}{q:Str}(h:lK H c' q):lK H' c' q:=by
 obtain⟨oc,vs,t,e,r⟩:im:=h;exact oq oc vs t (k _ _ e (fun _ z=>nomatch z) (fun _ z=>nomatch z)) r
def KF [151]{l r:Zd2}{e k:Nat}(h:r=(Zc6 e).drop k):Zc6 (ZbM-ZfY)=r:=by
 rw[Zf]at h;subst h;rw[YH]
 by_cases q:e+k<=ZbM
 ·rw[#[aIv,e+k]]
 ·rw[#[aIv,ZbM],List.drop_length,Za0x]
def Nj [18][162]{l r:Zbi}{x:α}(h:ZVp)(e:rd ZuC=Zab (x,r)):ZRQ=(dO rd n r).map #[a9,(x::q.1,q.2)]:=by
 rw[dO,ZcE,e];rfl
def Nk [289](h:ZVp)(e:rd ZuC=Zac):ZatG:=by
 rw[dO,ZcE,e];rfl
def Ll [289](h:Zav9):ZRQ=Zab ZaG2:=by
 rw[dO,#[asp,h],ZcE]
def Lk [289](h:#[Vi,32])(h2:#[Vi,41]):ZatG:=by
 rw[dO,Zco,ZrA]
def Oi:ZTq=⟨#[32]⟩:=ZaA
def Oj:#[fV,")"]=⟨#[41]⟩:=ZaA
def QS:#[fV,"("]=⟨#[40]⟩:=ZaA
def Dr {z:Str}{e c:Nat}(h:#[ah,#[xb,0].head?,c]):ZaDf:=by
 rw[List.head?_drop]at h;have:=ZTy;rw[<-iF]at this;exact this
inductive J4 [56]:Zaa
 | mk [198](_:∀ ds H',ZuL->Zcw->Q ZaBW H')(_:(ZWk)->ZNj)
#print Wz
set_option maxRecDepth 1000000
set_option maxHeartbeats 8000000
namespace Wz
open PySem PySem.Spec PyProof.Rows L2 PySem.SetTable
def BO:#[aGv,Zs9]:=ZSf
def rP:#[aGv,#[ed,"frozenset"]]:=ZSf
section
variable {P:Program}{w:World}{A:Around}{E:Zfh}{s:Shared}
def NP {l:Addr}{e_:Zhz}{ns:Zbf}{Q:Zfh}(hh:Zeo)(hl:#[af',l,e_])(hi:#[acS,ZAw])(hb:ZK4+1<scanBound)
  (h:∀ (h':Heap)(tk:Nat),h'.SetOf Zafo s.heap.objs.size (fun k'=>#[ajJ,0].any (· == k')) ZaqK->(ZaJj)->#[atq,ZKj]) :
  #[fl,Ztd,(ZgM Zs9 [Zgh]),Q]:=by
 refine Pl aQh.mro fun c tl mro=>?_;have made:=aQh.made;have sub:=aQh.sub;have nt:=aQh.notType;have cc:=aQh.canCreate;have tc:=F.typeCall_set_1 Zef;refine ZaXX
 show #[aFj,Zs9]
 refine Za4w;rw[ZaYI (ZaYJ Zs8 [Zgh] []) rfl]
 repeat (any_goals (first | assumption | wp_step))
 refine Ze (code_set_new_1 Zef (E:=E) (Q₁:=fun obj s₁=>∃ led:Bool,ZYZ/\s₁={ s with heap:=s.heap.push (Gp #[] 0 ZlV) }) fun led=>#[B6,led]) fun r s₁ hr=>?_
 cases r with
 | error e=>exact hr
 | ok fl =>
  cases fl with
  | ret obj =>
   obtain⟨led,rfl,rfl⟩:ak:=hr;have hS:(s.heap.push (Gp #[] 0 ZlV)).get? s.heap.objs.size=some (Gp #[] 0 ZlV):=Zd0;have hT:Shared.TypeIs { s with heap:=s.heap.push (Gp #[] 0 ZlV) } ZcU "set":=Zaol;have li:=aQh.init.lookup;have bi:=aQh.init.bind ZcU
   repeat (any_goals (first | assumption | wp_step))
   refine Ze (codeAny_call_builtin (R:=wants (fun r s₂=>r=Zan/\∃ h' tk,Zpe=ZKj/\h'.SetOf Zafo s.heap.objs.size (fun k'=>#[ajJ,0].any (· == k')) ZaqK/\(ZaJj)) E) aQh.init.plain F.entry_set_init (check_set_init_1 hT ?_)) #[aYL,?_]
   ·obtain⟨a_,ho,hc,nl,hd⟩:jB:=hl;obtain⟨oc,od,odt,osl⟩:=a_
    have hc:oc=Zbn ZfW:=hc;have hd:odt=ZaT e_ nl:=hd;subst hc;subst hd;have ho':(s.heap.push (Gp #[] 0 ZlV)).get? l=ZwJ:=X6 _ ho;have s1:=BO;have s2:=rP
    have ne:#[a2I,ZfW,Zmj]:=ZaC
    have u_:(s.heap.push (Gp #[] 0 ZlV)).IsTuple l e_:=#[CD,ho',nl];unfold Builtin.«set.__init__» noKeywords Builtin.Frozenset.updateFrom;generalize hPI:pyIter=PI
    wp_walk
    subst hPI;refine Z0 u_ (X5 (wpAny_runValue ?_));have lt:#[dc,l]:=Yf ho
    have h3:A.in1.in1.in1.handled=Zac:=by simp[hh]
    have neI:l≠(s.heap.push (Gp #[] 0 ZlV)).objs.size:=#[aW,YR,Yo (Zo lt)]
    have Sf:s.heap.objs.size∉[(s.heap.push (Gp #[] 0 ZlV)).objs.size,l]:=by
     rw[YR];intro z;rcases Zhp with z | z
     ·exact #[nN,ZaFs]
     ·exact #[g4,ZdN,z,(YX lt)]
    have W:=(Walks.tuple (prog:=P) (w:=w) h3 _ l neI e_).toS;refine codeAny_set_update_loopS W Zar Sf (Zadc) (fun i v hv=>IntsAre.int_at hi i v #[aX,Za0y,hv]) hb (ZK4-0) 0 _ Zag ZqG ⟨ZvQ,u_.push _⟩ ?g0 ?fin
    case g0=>exact SetOf_congr ((setObjOf_fresh (knd:=Zafn P w) led).setOf (X6 _ hS) (by unfold scanBound;lia)) ZoI rfl
    case fin =>
     rintro⟨h',g',d',tk',os'⟩ hm hS';have eg:g'=s.gens:=hm.gens;have ed:d'=s.drawn:=hm.drawn;have eo:ZaA3:=hm.os;subst eg;subst ed;subst eo;refine Yg (Yg ⟨rfl,h',tk',rfl,hS',#[nj,hm.heap b o Zie (X6 _ (X6 _ e))]⟩);rw[YR]at z;rcases Zhp with z | z
     ·exact Zdf z (Yo hb)
     ·exact #[g4,ZdN,z,(Yo (Zo hb))]
   ·cases r₂ with
    | error e=>exact hr₂
    | ok g =>
     cases g with
     | ret r =>
      obtain⟨rfl,h',tk,rfl,hg,hk⟩:og:=hr₂
      repeat (any_goals (first | assumption | wp_step))
      exact h _ _ hg hk
     | _=>exact hr₂.elim
  | _=>exact hr.elim
#where
section
variable {X:Cx}
inductive QL [377]:Zaa
 | mk [89][139][74](_:bL K H p ZvR)[64]
def Ks [131]:gW X Zs9 (QL X.K):=by
 intro pins s σ H xs us Q I r h;obtain⟨p,ns,rfl,hq,hz,q⟩:=h;obtain⟨u,rfl,rx⟩:ak:=ZfH;cases rx;refine #[uR,#[aY7,?_]];have hl:=rv.length;rw[X7]at hl;refine #[aZz,NP,pl];rw[show Za3P by unfold firstMet;rw[Yq,<-hl,zn]]at hS;obtain⟨d1,d2⟩:=ZaNL;exact Za3Q
#where
#print Wz
set_option maxRecDepth 1000000
set_option maxHeartbeats 8000000
namespace Wz
open PySem L2
def Vr (q:Kk):#[NN,ZeE,q.q1]:=rfl
def Vs (q:Kk):#[NN,Zdx,q.q2]:=rfl
def Vt (q:Kk):#[NN,Zf8,q.q3]:=rfl
def Vu (q:Kk):#[NN,Zdi,q.q4]:=rfl
def Vv (q:Kk):#[NN,Zf9,q.q5]:=rfl
def Vw (q:Kk):#[NN,ZaH,q.q6]:=rfl
def Vx (q:Kk):#[NN,Za',q.q7]:=rfl
def Vy {q:Kk}{w:Str}(h1:w≠ZeE)(h2:w≠Zdx)(h3:w≠Zf8)(h4:w≠Zdi)(h5:w≠Zf9)(h6:w≠ZaH)(h7:w≠Za'):#[e9,ZNM] w=Zac:=by
 unfold szL;rw[YI,ZhC h1,YI,ZhC h2,YI,ZhC h3,YI,ZhC h4,YI,ZhC h5,YI,ZhC h6,YI,ZhC h7];rfl
#print Wz
namespace L2
open PySem
abbrev lQ [347]:Expr:=match #[aIp,1] with
 | #[aP7,Stmt.If]=>l
 | _=>ZaCL
#print L2
namespace Wz
open PySem L2
abbrev V6 (d:Nat)[33](v:V)(f:ba):Zaa:=∃ p,v=ZbH/\dy d H p f
abbrev Uu (_:Hp)(v:V)(x:Int):Zaa:=v=Zae x
inductive Ob [60](d:Nat)[277]:Zaa
 | mk (h:ZaLE)(h2:Gw P0 lp ql cF fl (fun H=>ZXU) Zq9 (V6 d) vs H Q E)
abbrev Ro [60]:Nat->Sp
 | 0=>fun _ _ _ _=>Zkt
 | d+1=>qT P0 lp ql cF Zlr Zlr (brM d)
def xP {d:Nat}[42]:∀ {vs:Zbg}[272],Za3 (V6 d H) vs fs->∃ ps:Zcr,vs=ZtI ZaS/\ZaH5
 | _,_,Zao=>#[hn,[],Zao]
 | _,_,ZaFd=>by
  obtain⟨ps,rfl,p⟩:ak:=xP t;obtain⟨q,rfl,hq⟩:ak:=h;exact #[hn,(q::ps),ZaD hq p]
def vf [42]:∀ {vs:Zbg}[287],Za3 (Uu H) vs gs->vs=Zmv Zaw
 | _,_,Zao=>rfl
 | _,_,ZaFd=>by
  rw[vf t,show _=Zaw _ from h];rfl
set_option tactic.hygienic true
def wD [18](h:RT rd):∀ [38][30](xs:Zd2)(r:Zbi),dO rd n l=Zab (xs,r)->ZaR<=ZbM
 | 0,l,xs,r,e=>by cases e
 | n+1,l,xs,r,e=>by
  rw[dO]at e;split at e
  ·rename_i hd
   refine ZHW;refine ZHD;injection e4 with e5 e6;have h1:=#[aRL,wD];have h2:=JW h (show rd ZuC=Zab ZCy from e1)
   have h3:0<ZbM:=by cases l with | nil=>cases hd | cons _ _=>exact Za1s
   rw[YH]at h2;rw[<-e5,YF]
   lia
  ·split at e
   ·injection e with e
    injection e with e _;rw[<-e];exact Zdb
   ·cases e
#print Wz
namespace L2
open PySem
def KI [386]{sp sp':Sp}(m:#[Oj,sp',ZlS])(F:ZDx):#[u9,sp'] :=
 ⟨#[ae5,Zzu vs H Q E (m vs H Q E h)],#[a0e,Zzs A ZbU s H ZfQ us vs Q E hr e0 hb r (m vs H Q E h)]⟩
open PySem PySem.Spec PyProof.Rows
abbrev Kj (lo:Int)(d:Nat)[38]:It:=#[aOM,ZX2]
def GF [450](d n:Nat):#[a4L,ZHY,(lo+Zqv*ZnV),d] where
 mem:=ZaM
 obj:=fun i h st b hb=>by
  have e:Zid:=ZbZ
  subst e
  exact ⟨_,st,(fun v z=>by
   have z':ZaPq:=z
   cases z')⟩
 keep:=ZaKY
 item:=by
  intro X hP hw hK hc i pins s σ H E I hf st hg;subst hP hw hK;refine Ze3;have W:=#[aR0,d];refine ZaTv;obtain⟨t,rfl⟩:=hv;have I1:ZS':=Za2E;exact #[aTy,ZX2,ZUY]
 done:=by
  intro X hP hw hK hc i pins s σ H E I hf st hg;subst hP hw hK;refine Ze3;exact Za2C
 self:=Za3A
def Hd {lo:Int}{d n:Nat}{g:TG}{tb:TS}{D:kA}{σ:St}{H:Hp}(Pv:ZiC)(h0:Zj2)
  (hs:#[aGN,ZX2]) (hd:#[ML,n]) :
  ∃ W:Zhu,ZiA/\∀ i m σ H,Zhr ->
   #[ah1,ZHY,ZHY,ZHY]:=by
 refine Zaaq;intro i m σ H a_;obtain⟨rfl,hi,p⟩:fz:=a_
 by_cases q_:i<n
 ·refine ZaHv
  obtain⟨e,y⟩:=y;subst e y;exact ZaMN
 ·have e:i=n:=Zaf
  subst e;exact Zaw_
#print L2
set_option maxHeartbeats 8000000
namespace Wz
open PySem L2
abbrev Ip [262]:ZgI:=if ZakQ then some (numV (#[dV,0].map (· - 48))) else none
def QN [262]:ZAx z=Ip z:=by
 unfold Ip
 by_cases h:ZuM
 ·have h2:ZakQ:=ZvZ h
  rw[ZEr];obtain⟨ds,N⟩:=h;rw[NM N]
  have e:#[dV,0].map (· - 48)=ds:=by
   unfold bA;rw[N.eq,Y7]
   have:((· - 48) ∘ (·+48):Nat->Nat)=id:=Zafp #[b5,#[kr,x+48-48=x]]
   rw[this,List.map_id]
  rw[e]
 ·have h2:¬ (ZakQ):=#[a9,h ((lS z).mpr q)]
  rw[ZrA,Rl (fun ds q=>h ⟨ds,q⟩)]
abbrev HN [30]:Zav6:=#[aNK,Ip]
def HQ:ZmI=HN:=funext fun l=>by unfold numAt HN;rw[QN]
abbrev Fm:ZaBE
 | 0,_=>none
 | d+1,l =>
  if ZFR then
   (if ZaKF then #[aj2,(Fm d),m7]
   else #[aj2,HN,gm])
  else Zafm
def Fo:∀ d,Zfe d=Fm d
 | 0=>Zafp fun l=>#[b1,Zfe,Fm]
 | d+1=>Zafp fun l=>by rw[Zfe,Fm,Fo d,HQ]
abbrev Rb [262]:Bool:=match Fm 8 ZdV with
 | Zab (_,[])=>false
 | _=>true
def L9 {z:Str}(h:Rb z=Zad):ZaCv:=fun f e=>by
 unfold Rb at h;rw[Fo 8]at e;rw[e]at h;cases h
#print Wz
namespace L2
open PySem PySem.Spec PyProof.Rows
def Qy {X:Cx}(i:Nat){x:Str}{es:Zbh}{ta:TA}{p1 p2 p3:Pos}{rest:Zel}{u:TS}(hN:X.N.Nodup)(h1:ZHG)(hr:ZaHj)(hi:Zgz:=by rfl)(hx:Zagh:=by first | exact ZJB | exact ZTr)
  (hf:ZNP:=by first | exact Ze1 | exact ZjZ | assumption) :
  #[aP2,ZaoD,(Oo (Ot ta) ZC4)] :=
 #[aTl,Zaot,AU]
def JU {X:Cx}(i:Nat){x:Str}{es:Zbh}{ta:TA}{p1 p2 p3 p4 p5:Pos}{rest:Zel}{u:TS}(hN:X.N.Nodup)(h1:ZHG)(hv:PE X #[kQ,p4] Zwf)(hr:ZaHj)(hi:Zgz:=by rfl)(hx:Zagh:=by first | exact ZJB | exact ZTr)
  (hf:ZNP:=by first | exact Ze1 | exact ZjZ | assumption) :
  #[aP2,#[aO_,p4,p5],(Oo (Ut QB Zwf (Ot ta)) ZC4)] :=
 #[aTl,ZaJq,rfl]
#print L2
namespace Wz
open PySem L2
def AT {H G:Hp}{l a:Addr}{xs ys:Zbe}{Q':VK}(s:ay H G)(hG:G l=Zab #[mS,Zo5])(ha:G a=Zac)(hl:ZaR+Zko<=ZbY)(k:∀ (p:Addr)(G':Hp),ZNK->ay H G'->G' p=Zab #[mS,(xs++ys).map]->Q' #[ak,p] G'):QB Zef ZbV (upd G a #[mS,ZK5]) Q':=by
 have s1:=#[x0,ZK5,ha];refine⟨l,a,_,_,rfl,rfl,s1 _ _ hG,ac,#[Yu,Y6],#[l8,k p _ ?_ (#[dG,ZKA,s1] (ag hp)) #[g',ac,Yu]]⟩
 cases e:H p with
 | none=>rfl
 | some o =>
  have:=(ZKA s1) _ _ e;rw[hp]at this;cases this
def jT.gk [23][438](g:ZdH):jT H' l ds:=by
 obtain⟨as,h1,p⟩:ak:=h;exact #[vw,g.lst h1,p,#[adK,by rw[ym]at z ⊢;exact g.tup z]]
def GK.dK [238][124]{xs:ZdU}(e:#[b9,Zaty]):#[jD,Zaty]:=k b _ e fun _ z=>nomatch z
def GK.ins [238]{b C dx:Addr}{xs:Zjg}(e:#[b9,Zau4]):#[jD,Zau4]:=k b _ e fun _ z=>nomatch z
def aM.gk [353][44][257](g:ZdH):ZG4 :=
 ⟨g.ins x.ob,x.nd,g.dK x.w,g.dK x.h,g.dK x.c,ZiU x.cs fun a y e=>g.dK e,x.d.gk g⟩
inductive Rs [261][8]:Zaa
 | mk [225](_:Q (Zax "none") H)
inductive Rr [261][8]:Zaa
 | mk [225](_:Q ZaJ H)
#print Wz
namespace L2
open PySem PySem.Spec PySem.Calls PyProof.Rows
section
variable {prog:Program}{w:World}{A:Around}{E:Zfh}{s:Shared}{K:ge}{x D:Addr}{ox:Obj}{odo:ZSK}
def KG {Q:ZEA}(ga:#[a2e,D])(gh:#[a2g,D])(mb:#[a2X,D])
  (hdct:#[a01,D]) (ha:#[a2i,D]) (hn:Za0B) (htk:Zafy) (hm:#[a2W,D])
  (X:Zl5) (I:Zzk ZaE x ox D odo) (h:Q #[nq,D] ZaUC):#[tc,(getAttr? #[ak,x] ZAz)]:=by
 have hf:#[ah,PySem.W.findObj K D odo ZAz,(.bind (ZdQ Za0A) Zafx)]:=by
  refine #[wb,hdct,fun cd hc _=>?_];unfold PySem.W.findObj;rw[hc,Option.bind_some,ha,Option.bind_some];simp[hn,htk]
 have L0:=I.type (M:=Zwv);have L1:=#[aLh,ga];have L2:=#[aLh,gh];have L3:=PySem.W.looks_find (M:=Zwv) X I hf;have L4:#[aP1,ZJM]:=#[aIn,mb];have G:=PySem.F.excAttr_ValueError.ga;unfold getAttr? getAttrBy? getAttrBy;refine #[k4,wpAny_mkText,(ZJ' (YO (X5 (L0 _ _ _ _ ZahC (X5 (L1 _ _ _ _ ZahC ?_))))))];dsimp only
 have hx2:#[kN,Zafq ZtM,Zafq "object.__getattribute__"]:=ZaA
 rw[hx2,Bool.and_false,Zgx];refine ZbX;unfold hookBefore;rw[#[ahN,Za0C #[OR,D]=Zad]];refine L2 _ _ _ _ ZahC (X5 (ZJ' (YO ?_)));unfold callGetattribute;rw[#[gW,#[kM,Zaz&&Za0C (Zafq ZtM)]],Zgx];unfold boundAndCalled;rw[G.bind];refine ZFB
 show #[h0,#[qB,ZtM,[Zaj x,ZaB8]]]
 refine #[aEF,G.plain,PySem.F.entry_bexc_ga,?_];refine #[aUE,ZtM,ZJL,Zz2,[ZaB8],Zb7,Zb7,L4,(PySem.F.args_bexc_ga _ _)];refine #[k4,Yg,(Yg (X5 #[ahD,(X5 (L3 _ _ _ _ ZahC ?_))]))]
 show #[h0,(Builtin.ObjectAttr.bindTo _ _ _ _)]
 unfold Builtin.ObjectAttr.bindTo;dsimp only;exact X5 (YO (ZI (PySem.W.class_get (s:=ZaUC) (ox:=ox) (od:=odo) X I hm (Yg (PySem.W.handed_on rfl (Yg h))))))
#where
structure XCls [37](D:Addr):Zaa where
 ga:#[a2e,D]
 gh:#[a2g,D]
 mb:#[a2X,D]
 hd:#[a01,D]
 ha:#[a2i,D]
 hn:Za0B
 htk:Zafy
 hm:#[a2W,D]
set_option tactic.hygienic true
def Fv [323]{x D:Addr}{ox:Obj}{odo:ZSK}(c:XCls K D):PySem.W.KitX K Zli #[ak,D] #[vV,Zzk h x ox D odo] where
 ty:=fun _ _ _ I=>I.type
 it:=fun _ _ X _=>by
  refine ZaJL;unfold PySem.W.clsIn at hcD;split at hcD
  ·rename_i c' d' cd' sl' ho
   intro A' Q' E' s' k q;unfold isType loadHead;exact X5 (Za0D (k _ _ ZaEK) (Yg q))
  ·cases hcD
 ne:=fun h tp dd e_ n sl X htp=>by
  refine ZaJL;refine Za0F #[a9,?_];have e:D=tp:=Value.ref.inj (ZI8 q);subst e;unfold PySem.W.clsIn at hcD;split at hcD
  ·rename_i c' d' cd' sl' ho
   have z:=#[aEK,0].symm.trans htp;cases z
  ·cases hcD
 ca:=fun X I k=>KG c.ga c.gh c.mb c.hd c.ha c.hn c.htk c.hm X I k
inductive yq [445]:Zaa
 | own [35](b:Bool)(h_0:xs=[ZwL,Zaj C])(h_1:#[afs,D,C,b])[148]:Zabe
 | ty (T:String)(b:Bool)(h_0:xs=[Zaj ea,.ty T])(h_1:#[t4,Zafr,D,ZqS,b])[148]:Zabe
set_option tactic.hygienic false
def Ko [45]{ea D:Addr}[244][290][256](c:XCls X.K D):#[av7,(yq X.K ea D ZzX)]:=by
 intro pins s σ H xs vs Q I r h;have hx:=(ZhG _ (ZT _ hp)).1
 have inst:(#[aKO,ZzX])->∃ odo,Zzk ZaE ea oe D odo:=fun k=>by
  cases e:oe.dict with
  | none=>exact⟨none,hx,hc,by unfold PySem.W.notCls;rw[hd],#[adO,e]⟩
  | some dx =>
   obtain⟨fs,hf⟩:=k dx e;refine ak (#[Zh,dx,ZPD,Zbp dx _ hf]) fun mA hns _=>?_;refine ak (Cu hns) fun o ho _=>?_;exact⟨ZeZ,hx,hc,by unfold PySem.W.notCls;rw[hd],#[vX,ho]⟩
 rcases h with ⟨C,b,rfl,e,k,q⟩ | ⟨T,b,rfl,e,k,q⟩
 ·obtain⟨odo,J⟩:=inst k
  cases r with
  | cons rx r2 =>
   cases r2 with
   | cons rt r3 =>
    cases r3;cases rt;cases ZaEf;exact PySem.W.kia_one (Fv c) I.kIn J e (fun z=>nomatch z) ZaO4
 ·obtain⟨odo,J⟩:=inst k
  cases r with
  | cons rx r2 =>
   cases r2 with
   | cons rt r3 =>
    cases r3;cases rt;cases ZaEf;exact PySem.W.kia_one (Fv c) I.kIn J e (fun z=>nomatch z) ZaO4
def Qx [45][171]{ta:TA}{p q:Pos}(h1:ZHG):Q5 X [ZI0 (Zab #[C',p]) q] (QV (Ot ta)):=⟨ae (aL (dq h1.h))⟩
def Ii [45][200][171]{ta:TA}{p1 p2 p3 q:Pos}(hv:PE X #[kQ,p1] Zwf)(h1:ZHG):Q5 X [ZI0 (Zab #[aO_,p1,p3]) q] (QV (Ut QB Zwf (Ot ta))):=⟨#[ej,ZaJq]⟩
section
variable {X:Cx}{tg:Expr}
abbrev UZ (ta:TA):TI:=#[aHd,∃ (i j:Int)(d:Nat),vs=[ZjN,Zae j,Zae d]/\(ZHX)/\(-(2 ^ 40)<=i/\i<Zr0/\#[xV,j]/\j<Zr0)/\R (Kj i d #[akX,i,j]) H1]
def qM [159][415]:ZK6 a b d=#[ada,a<b,(b-a-1)/d+1]:=by
 unfold Builtin.Range.rangeSize;rw[Yb (by rcases hd with rfl | rfl | rfl<;>decide)]
def QQ [211][415](h1 : #[xV,a])(h2:a<Zr0)(h3 : #[xV,b])(h4:b<Zr0):Builtin.Range.small a b d=Zad:=by
 unfold Builtin.Range.small;rw[ZYF];rcases hd with rfl | rfl | rfl
 ·simp only[Builtin.Range.rangeFitsLong,Y4,Bool.or_eq_true,Zw,ZH,#[ah_,1],ZQ]
  split<;>lia
 ·simp only[Builtin.Range.rangeFitsLong,Y4,Bool.or_eq_true,Zw,ZH,#[ah_,2],ZQ]
  split<;>lia
 ·simp only[Builtin.Range.rangeFitsLong,Y4,Bool.or_eq_true,Zw,ZH,#[ah_,3],ZQ]
  split<;>lia
def Lv {pins:ZdT}{σ:St}{H:Hp}{s:Shared}{R:ZTt}{E:Zfh}{lo hi:Int}{t u v:Tok}{tk:Nat}{d:Nat}(hd:ZHX)(I:ZhY)(h1 : #[xV,lo])(h2:lo<Zr0)(h3 : #[xV,hi])(h4:hi<Zr0)
  (q:R (Kj lo d ZakY) H):wpAny Zt0 X.A ZazM Zabg E { s with heap:=s.heap.push { cls:=ZsB,data:=ZaL #[Zht,Zhv,ZxI] },toks:=tk }:=by
 refine #[aPF,(QQ hd h1 h2 h3 h4)];have I1:aS X pins σ H { s with heap:=s.heap.push { cls:=ZsB,data:=ZaL #[Zht,Zhv,ZxI] },toks:=tk }:=ZaAT
 refine⟨(s.heap.push { cls:=ZsB,data:=ZaL #[Zht,Zhv,ZxI] }).objs.size,[(s.heap.push { cls:=ZsB,data:=ZaL #[Zht,Zhv,ZxI] }).objs.size],_,_,H,rfl,
  Zzj (t':=tk) ZnF,GF _ lo d ZakY,?_,Znx,q⟩
 ·have e1:lo+ZqR*ZnV=lo:=ZaM
  have e2:#[aI6,Zasl,d]:=by rw[ZYF];rcases hd with rfl | rfl | rfl<;>(split<;>lia)
  show #[a4K,(lo+ZqR*ZnV),Zasl,d]
  rw[e1,e2];exact Zd0
 ·have e:b=(s.heap.push { cls:=ZsB,data:=ZaL #[Zht,Zhv,ZxI] }).objs.size:=ZbZ
  subst e;exact ZN'
def Lq {a b c:Expr}[168](ha:PA X ZX4 ta)(hs:#[m6,ZX4,[ZRw,#[mW,b],#[mW,c]]]:=by rfl)(S_:#[m6,[b,c],[#[mW,b],#[mW,c]]]:=by rfl) :
  #[aMo,ZX4,UZ]:=by
 intro pins s σ H R I h;refine #[aME,(Zc (bD ZahI fun us s1 ⟨vs,H1,I1,r1,q1⟩=>?_) #[g',hs,S_] #[n',S_])];obtain⟨i,j,d,e,hd,⟨q1,q2,q3,q4⟩,q⟩:=q1;subst e
 cases r1 with
 | cons r rr =>
  cases rr with
  | cons r' rr =>
   cases rr with
   | cons r'' rr =>
    cases rr;obtain⟨t,rfl⟩:=r;obtain⟨t',rfl⟩:=r';obtain⟨t'',rfl⟩:=r'';exact call_range_3 (by rcases hd with rfl | rfl | rfl<;>decide) (Lv hd I1 q1 q2 q3 q4 q)
#where
inductive Wj [267]:Zaa
 | mk [269](xs ys:Zru)[381](r1:#[dY,#[mT,Zo5]])(r2:#[b9,#[mT,ZK5]])(h:#[ao8,Zqp↔xs=ys,!k])
abbrev WP:R2:=#[l9,Wj x y H Q]
def R0 {xs ys:Zru}(hl:#[Df,Zko]):#[BA,ZaR] (#[Qm,ZaDi])=Zad↔xs=ys:=by
 rw[YT];constructor
 ·intro h
  apply ZUF
  intro j h1 h2;have:=#[apI,Y1];rw[Yi h1,Zwg]at this;exact Yk Zbu
 ·rintro rfl j _
  exact ZrN
def Qe [45][105]:#[abZ,WP]:=by
 intro pins s σ H x y v u Q I rx ry h;obtain⟨a,b,xs,ys,rfl,rfl,q,q',k⟩:=h;cases rx;cases ry;obtain⟨us,rv,p1,_⟩:=ZK7 (ZbO q);obtain⟨x_,U_,p2,_⟩:=ZK7 (ZbO q');have l1:=rv.length;have l2:=U_.length;rw[X7]at l1 l2
 by_cases hl:Zabu
 ·have he:∀ j [70],#[a3k,Ztj,#[A2,ZaDi]]:=fun j h1 h2=>by
   have g1:#[ah,(Zo5 ZcH)[j]?,(ZcH ZAA)]:=ZVA
   have g2:#[ah,(ZK5 ZcH)[j]?,ZaBd]:=ZVA
   obtain⟨w,ew,rw1⟩:=ZzR g1;obtain⟨w',ew',rw2⟩:=U_.get g2
   have e1:ZJG=w:=by rw[Yi h1]at ew;exact Yk ew
   have e2:x_[j]=w':=by rw[Zwg]at ew';exact Yk ew'
   have:=G8 (A:=Ztj) (s:=s) rw1 rw2 rfl rfl;rw[e1,e2,Zll,Zll]
   have ee:GM (ZcH ZAA) ZaBd=#[AV,Zab ZAA=Zab ys[j]]:=by cases ZAA<;>cases ys[j]<;>rfl
   rw[<-ee];exact this
  have R:=ZaWY (A:=X.A) Ztk Ztl ZQd Zag ZaeN
  refine #[hf,R,⟨ZlB,H,I,rfl,k _ ?_⟩];rw[Yq,#[aky,ZaR]];exact #[cQ,R0]
 ·have R:=ZaWZ (A:=X.A) Ztk Ztl ZQd Zag
  refine R _ _ _ _ ⟨.bl (!false),H,I,rfl,k false ⟨fun z=>(by cases z),#[aV,Zdf (by rw[<-l1,<-l2,z]) hl]⟩⟩
inductive QG [445]:Zaa
 | mk (c:XCls K D)(h:Zabe)
def O7:#[ah,Zaft Ztn,Zaog]:=ZaA
def c8 [45][37]{ea D:Addr}[244]{od:ZgH}[290](ho:ZXm)[256](hK:ZoU):#[av7,(QG K ea D od)]:=by
 subst hK;subst ho;intro pins s σ H xs vs Q I r h;obtain⟨c,h⟩:=h;exact Ko hp hc hd c Zai s σ H xs vs Q I r h
#print L2
namespace Wz
open PySem L2
def yS [143]:gW X ZasW (xQ K):=by subst hK;exact jp
abbrev io:Zbe:=[Zz6,ZKZ,Zz7,Zz8,ZK3,Zdv,ZK',ZLa,ZpK,ZpR,ZAB,Zpz,ZK0,ZK1,ZtL]
inductive J3 [8]:Zaa
 | mk (_:vs=[])(_:#[Gu,Zxp])
abbrev Kw:Zbe:=[Zz6,Zz7,Zdv,Zz8,Zpz,Zdv,Zdv,Zdv,Zdv,Zdv]
abbrev Pa:Zbe:=[Zdv,Zdv,ZpR,ZAB,Zdv,ZAB,Zpz,Zdv,ZpR]
abbrev Pb:Zbe:=[Zdv,Zdv,ZpR,Zz8,Zdv,ZK',ZpR,ZLa,Zpz,ZKZ]
abbrev UL:Zbe:=[ZtL,ZtL,ZtL,ZK0,ZK1,ZK3,ZpK,Zz6,Zz7]
abbrev pM:Zbe:=((Kw++Pa)++Pb)++UL
inductive CM [8]:Zaa
 | mk (_:vs=[])(_:∀ l H',Zcw->#[cB,l,Zaf6]->Q Zef H')
abbrev Pp [159]:ZEl:=[Zv8,Zf4 b,ZnZ]
abbrev c5 [159]:eD:=⟨[ZfA,ZD'],[ZfA,ZD'],ZaKK,Pp a b⟩
def Om [211](h:Zj8):j5 ZasU=ZEB:=by
 have h2:Zir:=#[age,h];simp[j5,Pp,after,c5,put,wr,look,dS,h,h2]
structure A3 (a b l:Int):Zaa where
 ab:Zj8
 al:a≠l
 bl:b≠l
 sa:cH a
 sb:cH b
 sl:cH l
def oy [211]:#[eL,ZeS,a,b]:=Za0G
def MV [16]:#[eL,ZeS,b,a]:=by simp[c5,look,h.ab]
def mj [16]:Zbq ZeS l=Zac:=Za0H
def MJ [16]:Zbq ZarD l=Zac:=Za0H
def MI [16]:#[eL,ZarD,a,b]:=Za0G
def Wq [211]:gX ZSq a=[b]:=by simp[c5,gX]
def xD [211]:AZ (c5 a b):=by
 refine ZH2<;>simp[c5,Pp]
structure L5 where
 cP:Addr
 cV:Addr
 cQ:Addr
 cO:Addr
 cX:Addr
 fX:Addr
 cB:Addr
 cT:Addr
 cU:Addr
 cL:Addr
 cF:Addr
 ck:Addr
 cb:Addr
 kd:Addr
 cs:Addr
 dz:Addr
abbrev xx [77](x:L5):Zcr:=[Zfb,x.cB,Zfc,ZhO,x.cF,Zc0,x.cO,x.cP,x.cX,x.cV,x.cQ,Zf3,x.cT,x.cL,x.cU]
structure gi [288][77](x:L5)(q:Kk):Zaa where
 k:HK K mg x.ck
 eP:c6 K x.cP
 mP:#[bI,ZLa,x.cP]
 eV:c6 K x.cV
 mV:#[bI,ZpR,x.cV]
 eN:c6 K x.cQ
 mN:#[bI,ZAB,x.cQ]
 eO:c6 K x.cO
 mO:#[bI,ZK',x.cO]
 g:Wd K mg Zf3 x.cU x.cb x.cB x.cT x.kd x.cL
 r:We K mg w x.cF x.kd x.cs q
 b:Wa K mg w c x.dz x.cX x.fX
 wt:#[Sr,#[agN,a,Zts]]
 xc:#[Sr,XCls K a]
 kv:#[Sr,ZaNX]
 kk:#[aLi,ZHg[i]?,ZHg[j]?]
 mE:#[cZ,Ztn]
 tn:#[agQ,Zc0]
 ts:ZaxZ
abbrev Hi:Zbi:=[0,2,5,3,11,5,5,5,5,5,5,5,9,10,5,10,11,5,9,5,5,9,3,5,6,9,7,11,1,14,14,14,12,13,4,8,0,2]
abbrev Pj [77](x:L5)(k:Nat):Addr:=#[Hg,0].getD (Zafv k 0) Zfb
abbrev XD [50][33]:Zaa:=∀ y,od=Zab y->∃ fs,ZaBq
def xU [42]:XD Zac H:=fun y e=>by cases e
def Kg [42]{y:Addr}{fs:Zjg}(h:ZaBq):XD (Zab y) H:=fun z e=>by cases e;exact ZSU
abbrev TB [31][33]:Zaa:=∀ t∈T,Zd' H t.1 Zlh ZnH
inductive NR [190]:Zaa
 | mk [14](h_k:k<12)[113]
inductive NU [190]:Zaa
 | mk [14](h_k:12<=k/\k<25)[113]
inductive NS [190]:Zaa
 | mk [14](h_k:25<=k/\k<38)[99]
inductive NV [190]:Zaa
 | mk [14](h_k:k<38)[99]
inductive Oa [77][356][8]:Zaa
 | mk [446](_:ZGs)[5](h_g:g=a\/g=l)(_:#[yo,(#[a0I,g=a])])
inductive EI [77][356][8]:Zaa
 | mk [446](_:vs=[ZbH,Zgk,Zae g])[5](h_g:g=b\/g=l\/g=a)(_:#[yo,(if g=b then q else if g=a then c.cS else c.cN)])
def Q9 {a b g:Int}:#[Rz,ZSq]:=by
 show #[Rz,ZaKK]
 unfold gX;split
 ·simp
 ·unfold gX
  split<;>simp[gX]
def O9 [16]:OR Zgm ZcR:=by
 have n1:=h.ab;refine⟨by simp[c5,h.ab],Zf1⟩;simp[c5]at hx;rcases hx with rfl | rfl<;>simp
def zp [16]:gM (c5 a b):=by
 have d:re (Pp a b):=by
  have n2:Zir:=Zagf;refine gE (ds:=ZaDa) (gE (ds:=[Zv8]) #[apG,?_] ?_) ?_<;>simp[bn,j5,after,put,look,lH,gX,h.ab,n2]
 have n:∀ d∈Pp a b,#[th,ZaIc]:=fun d hd g hg=>by
  simp[Pp]at hd;rcases hd with rfl | rfl | rfl<;>simp[names]at hg
  ·subst hg;exact ZN1
  ·subst hg;exact ZVN
  ·rcases hg with rfl | rfl
   ·exact ZN1
   ·exact ZVN
 have P:=Ie d n #[aZ,ZasU];rw[YJ]at P;exact Om h.ab▸P.good
def WH [226][191]:#[oQ,ZrM]:=by
 have j:bn ZcR ZrM=ZsG:=by simp[bn,c5,look,lH,gX,h.ab]
 unfold jA;rw[j,Zgx];exact k
inductive AO [77][321]:Zaa
 | mk [39][307][27]
inductive J6 [77][8]:Zaa
 | mk [39][307](_:#[E8,Zaz])
inductive N6 [77][261][321]:Zaa
 | mk (k r:Addr)(D:KA)[155](_:vs=[ZQv,Zaj r])[245][307][27]
inductive N5 [261][321]:Zaa
 | mk (k:Addr)(D:KA)(_:ZauA)(_:tj ck H k D HI)[27]
inductive N4 [77][261][8]:Zaa
 | mk (k:Addr)(D:KA)[155](_:vs=[ZQv,Zae a])[245](_:#[yo,Zfc])
def JE [226](h:Zn9)(k:ZauD):#[oQ,(.go a)]:=by
 have n2:Zir:=Zagf
 have j:bn ZcR (.go a)=ZJY:=by simp[bn,c5,look,n2]
 unfold jA;rw[j,Zgx];exact k
inductive N1 [77][321]:Zaa
 | mk [89](B:HA)(a b n:Int)(_:#[CO,n])(_:ZaCg)(h_n:n<0)(h_s:cH n)[27]
inductive N2 [77][321]:Zaa
 | mk [89][155][58][5][27]
def NQ [16]:#[kc,aQ ZeS,ZdF]:=fun g hg=>by
 simp[c5,aQ]at hg;rcases hg with rfl | rfl
 ·exact h.sa
 ·exact h.sb
def LO [211]:wr ZeS a=b:=by simp[c5,wr,look]
def Q0 [16]:wr ZeS b=a:=by simp[c5,wr,look,h.ab]
def Xo {a b l g:Int}(h:Zn9)(hg:ZaB6):ZaJD=[g,wr ZeS g]:=by
 have n2:Zir:=Zagf;rcases hg with rfl | rfl
 ·simp[fY,Ao,fK,iter,List.range_succ,LO,Q0 h,n2]
 ·simp[fY,Ao,fK,iter,List.range_succ,LO,Q0 h,h.ab]
def Ug [16]:∃ g ks,cx ZeS=g::ks/\(ZaB6):=by
 have n2:Zir:=Zagf
 have m:a∈ZVx:=by
  unfold cx;rw[YM,Zow];exact⟨by simp[c5,aQ],by rw[LO];simpa using n2⟩
 cases e:ZVx with
 | nil=>rw[e]at m;cases m
 | cons g ks =>
  have mg:g∈ZVx:=#[vX,Ye]
  unfold cx at mg;rw[YM,Zow]at mg;refine#[rn,g,ks,?_];have:=mg.1;simpa [c5,aQ] using this
def WA [16]:(#[dJ,(oG ZeS)] fun r=>(rH ZSq r).isNone)≠[]:=by
 obtain⟨g,ks,e,hg⟩:=Ug h;have n2:Zir:=Zagf
 have m:ZaJD∈oG ZeS:=by
  unfold oG;rw[e,fT,Zem];exact Ye
 refine List.ne_nil_of_mem (Zaeo #[bF,m])
 have ms:∀ x y:Int,x∈cK [y]↔x=y:=fun x y=>#[e5,Zow]
 rw[Xo h hg];rcases hg with rfl | rfl
 ·rw[LO];simp[rH,qw,c5,gX,h.ab,n2,ms]
 ·rw[Q0 h];simp[rH,qw,c5,gX,h.ab,n2,ms]
def TB.same [416][23](x:Zyw)[79]:Zrf:=#[mA,(x t ht).same s]
def Dd [442][23][65]{ql:Str}(t:Zd' H P pos ql)[285]:ZdH:=fun x o e n=>b x o e fun z=>by
 obtain⟨ps,q⟩:=t.tbl;rw[z,q]at e;cases e;exact n ps rfl
def TB.but [416][442][65]{ql:Str}[23](x:Zyw)(m:(P,pos,ql)∈T)(d:(T.map (·.1)).Nodup)[285](t:ZaAE):Zrf:=fun u hu=>by
 by_cases e:u.1=P
 ·have:u=(P,pos,ql):=by
   obtain⟨i,hi⟩:=Y3 hu;obtain⟨j,hj⟩:=Y3 m
   have a1:(T.map (·.1))[i]? = Zab P:=#[f6,YC,hi,ZZi]
   have a2:(T.map (·.1))[j]? = Zab P:=#[nW,hj]
   have ij:i=j:=(Za0J #[pc,a1] d).mp (a1.trans a2.symm);rw[ij,hj]at hi;exact ZUd
  rw[this];exact t
 ·rcases x u hu with q | ⟨c',q,oc,vs,tt,e2,r⟩
  ·exact Zal (ZaJf)
  ·refine Zaq ⟨c',ZaJf,oc,vs,tt,b _ _ e2 Zlp,r⟩
   obtain⟨ps,q2⟩:=(x _ m).tbl;rw[z,q2]at e2;cases e2
def VJ {a b l:Int}[174][410](h:Zn9)(x:uA (Cj (c5 a b)) a ZaBR Zdk t Zc4):b∉Zfo:=fun hb=>by
 have n2:Zir:=Zagf;obtain⟨e,he,eb⟩:=ZFf;obtain⟨i,hi⟩:=ZF5
 have key:∀ [207](e:Nd),#[ah,ZpE,e]->e.1=a:=by
  intro i
  induction i using Nat.strongRecOn with
  | _ i ih =>
   intro e he
   cases i with
   | zero=>rw[x.hd]at he;cases he;rfl
   | succ i =>
    obtain⟨j,p,hj,_,hp,_,_,hr,hg⟩:=x.up i e he;have pa:=ih j Zag p hp
    have eg:e.1=a\/e.1=b:=by
     unfold uQ at hg;rw[Zow]at hg;simpa [c5,aQ] using hg
    rcases eg with z | z
    ·exact z
    ·rw[pa,z]at hr
     simp[Cj,lH,c5,gX]at hr
 exact n2 (eb.symm.trans (key i e hi))
inductive Rp [77][31][356][8]:Zaa
 | mk [89](B:HA)(a b l m:Int)(_:vs=[ZbH,Zae m,Zgk])[5](h_m:m=a\/m=l)(h_t:Zyw)(_:#[yy,ZdH,Zrf,(#[a0I,m=a])])
inductive Rt [77][8]:Zaa
 | mk [89][155](_:vs=[ZbH,Zgk,Zae l])[5][90]
def Wo {a b l:Int}[320][174][229](ht:t∈ts):Ma ZcR t=Zad:=by
 have n2:Zir:=Zagf;obtain⟨f,lf,r,T⟩:=x.tr t ht;have hf:f∈Zfo:=Zms #[dB,ZWd]
 have key:∀ y∈Zfo,y=f:=fun y hy=>by
  obtain⟨e,he,rfl⟩:=ZeB hy;obtain⟨i,hi⟩:=ZF5
  cases i with
  | zero=>rw[T.hd]at hi;cases hi;rfl
  | succ i =>
   obtain⟨_,_,_,_,_,_,_,hr,_⟩:=T.up i e hi;simp[Ke]at hr
 have fg:f=a\/f=b:=by
  have:=(x.dj t ht f hf).2;unfold uQ at this;rw[Zow]at this;simpa [c5,aQ] using this
 unfold Ma;refine List.any_eq_true.mpr #[eg,ZWd]
 have nw:wr ZeS f∉Zfo:=fun z=>by
  have:=key _ z;rcases fg with rfl | rfl
  ·rw[LO]at this;exact n2 Zbu
  ·rw[Q0 h]at this;exact h.ab Zbu
 simpa using nw
def XY {a b l:Int}[320][229]:ts≠[]:=fun z=>by
 have m:a∈uQ (c5 a b):=by unfold uQ;rw[Zow];simp[c5,aQ]
 rcases x.cov a m with q | ⟨t,ht,_⟩
 ·cases q
 ·rw[z]at ht;cases ht
inductive J0 [77][31][356][8]:Zaa
 | mk [39](h_r:fU H r [])(h_t:Zyw)(_:#[yy,ZdH,Zrf,q])
inductive Rq [77][8]:Zaa
 | mk [39](h_r:#[aK,r,(ZaI #[bP,a,l])])[90]
inductive Gz [77](fl:Addr)[8]:Zaa
 | mk [89][155](_:vs=[ZbH,Zae l,Zaj fl])[5][90]
inductive CO [77](P:Addr)[305]:Zaa
 | mk [89][155](_:#[CO,l])[5](h_t:Zd' H P pos ql)(_:#[yy,ZWz,ZaAE,Zc0])
section
variable {c:HX}{H:Hp}{p:Addr}{A:HA}{a b l:Int}{Q:VK}{E:XK}
def XH (k:ZauC):#[oQ,Zvn]:=by
 have j:bn ZcR Zvn=Zz4:=Za0L
 unfold jA;rw[j,Zgx];exact k
def Wx [156]:#[oQ,(.go l)]:=by
 have j:bn ZcR (.go l)=ZavW:=Za0M
 unfold jA;rw[j,Zem];exact ZaiQ
def U6 [191]:#[oQ,ZaEI]:=by
 have n2:Zir:=Zagf
 have j:bn ZcR ZaEI=ZsG:=by simp[bn,c5,look,lH,gX,h.ab,n2]
 unfold jA;rw[j,Zgx];exact k
def Vm (k:ZUk):#[oQ,(Zi7 a a)]:=by
 have j:bn ZcR (Zi7 a a)=ZJZ:=Za0L
 unfold jA;rw[j,Zgx];exact k
def Wv [156]:#[oQ,(Zi7 a l)]:=by
 have j:bn ZcR (Zi7 a l)=ZavW:=Za0M
 unfold jA;rw[j,Zem];exact ZaiQ
#where
section
variable {K:ge}{mg:Zm5}{w:World}{c:HX}{x:L5}{q:Kk}(u:gi K mg w c x q)
include u
def gi.mkd:=u.g.mkd
def gi.ml:=u.g.ml
def gi.mt:=u.g.mt
def gi.kd:=u.g.kd
def gi.mp:=u.g.mp
def gi.eU:=u.g.eU
def gi.mU:=u.g.mU
def gi.eB:=u.g.eB
def gi.mB:=u.g.mB
def gi.eT:=u.g.eT
def gi.mT:=u.g.mT
def gi.eL:=u.g.eL
def gi.mL:=u.g.mL
def gi.f:=u.g.f
def gi.md:=u.r.md
def gi.dg:=u.r.dg
def gi.eF:=u.r.eF
def gi.mF:=u.r.mF
def gi.dp:=u.r.dp
def gi.sz:=u.r.sz
def gi.t1:=u.r.t1
def gi.t2:=u.r.t2
def gi.t3:=u.r.t3
def gi.t4:=u.r.t4
def gi.t5:=u.r.t5
def gi.t6:=u.r.t6
def gi.t7:=u.r.t7
def gi.msz:=u.r.ms
def gi.gd:=u.b.gd
def gi.ms:=u.b.ms
def gi.eQ:=u.b.eQ
def gi.tQ:=u.b.tQ
def gi.mQ:=u.b.mQ
def gi.gQ:=u.b.gQ
#where
def WI {c:HX}{ck p kp kdx:Addr}{B:HA}[332][42](S:aM c.C H p B st)(hk:#[a_,kp])(hd:#[a_,kdx]) :
  ZaM7/\VS c ck (upd ZapB kp ZaiU) kp ⟨kdx,p,kp⟩ HI B st:=by
 have s:ZaM7:=fun b o e=>by rw[ah (fun z=>by rw[z,hk]at e;cases e),ah (fun z=>by rw[z,hd]at e;cases e)];exact e
 exact⟨s,⟨ac,fun ps e=>(by cases e),fun ps e=>(by cases e)⟩,ZeC s,fun z=>(by obtain⟨o,q⟩:=ZSP;rw[hk]at q;cases q),fun ps e=>(by cases e)⟩
def Hg:xW #[dj,Zg1]:=by unfold xW;decide +kernel
def TD:xW Zalo:=by unfold xW;decide +kernel
def G4 {f:ba}:defO [] ZaH f=.bad:=by
 unfold defO;rw[Yb (ZaA)]
def Hh:¬ zw Zg1 = Zaz:=ZaA
def yZ:defO [] Zg1 (Zi_ Zg1)=Zafg:=by
 unfold defO;rw[X8 Hh,Zem,X8];intro k;have:=#[aFG,k];simp at this
def yX {g:b9}:defO [] Zg1 (.pl g)=Zcv:=by
 unfold defO;rw[X8 Hh,Zem,Yb];intro w hw;simp[ba.names]at hw
def yY {x:BE}{f:ba}(h:x.w=Zg1):defO ([]++[x]) Zg1 f=Zaff:=by
 unfold defO;rw[X8 Hh,Yb (Za0N)]
def Ee [42]{t:Addr}[211](h:#[aK,t,Zapi]):dy 9 H t ZZn:=⟨h,Za0P,Za0P,fun _ _ _ _ e=>by cases e⟩
def JL [42]{t:Addr}(h:#[aK,t,#[dz,[ZDm,Zax Zg1]]]):dy 9 H t (Zi_ Zg1):=#[ait,h]
def Vi:xW #[dj,Za0Q]:=by unfold xW;decide +kernel
def Vk:#[ao2,Zfe 8 (bA Za0Q)]:=#[ME,L9]
def O8:#[dj,Za0R]=sE (Zf4 1):=ZaA
def R4:LU Za0W:=RX Zb7 (ZaA) (ZaA)
def Q8:RQ [1] Za0S:=⟨O8,fun g hg=>by
 simp[names]at hg;subst hg
 exact⟨ZaM,by unfold cH;decide,by unfold OS;decide⟩⟩
def W8:LZ [1] Za0Y "" "come 1\ncome x\n":=⟨fun q hq=>by
 simp at hq;rcases hq with rfl | rfl
 ·exact Q8
 ·exact R4,ZaA,ZaA,ZaA⟩
def W9:LZ [1] Za0U "" "come 1\ncome 1\n":=⟨fun q hq=>by
 simp at hq;rcases hq with rfl | rfl
 exact Q8,ZaA,ZaA,ZaA⟩
def Vh:(lU ZcW 0 ZWi (pK "")).1=ZKz 2:=by
 simp[lU,bn,look]
def Vj:(lU ZcW 0 ZWj (pK "")).1=.out Zz4:=by
 simp[lU,bn,look,after,put]
inductive Oe [190]:Zaa
 | mk [14](h_k:k<38)[5](h_t:ZaJY)(_:∀ (q:Addr)(H':Hp),ZdH->ZaGU->#[cB,q,#[aGs,ZZp]]->Q ZwK H')
def SD (k:Nat):ZaFi<15:=by
 by_cases h:k<Hi.length
 ·rw[Zm,Yi h]
  have:∀ n∈Hi,n<15:=ZaC
  exact Zbu _ (List.getElem_mem h)
 ·rw[Zm,ZaX2]
  decide
def Jo [151](l:Zd2)[38](d:α)(h:n<ZbM):#[ah,l[n]?,(l.getD n d)]:=by
 rw[Zm,Yi h];rfl
def jP {c:HX}{x:L5}(k:Nat):#[ah,ZHg[ZaFi]?,Zaaf]:=Jo _ _ _ (SD k)
def G5 {c:HX}{x:L5}(k:Nat):Pj c x k∈xx c x:=Yy (jP k)
def Ld:(#[BA,38] fun k=>(ZpS ZZp) == #[UU,15,ZaQe])=Zad:=ZaA
def M5 {k:Nat}(h:k<38):(ZpS ZZp)=#[qI,15] ZaQe:=by
 have:=ZpQ Ld k (ZhE h);exact ZJm Zbu
inductive ED [37][31][8]:Zaa
 | mk [88][139](_:vs=[Zcm])[367](_:ZfL<=63)(_:∀ t∈T,H t.1=some (Zd7 #[]))(_:∀ H',Q (.bl Zad) H')
def Wy (c:Int):A3 (GN 0 c) (GN 1 c) (GN 2 c) :=
 ⟨ZaaO,ZaaO,ZaaO,ZT2,ZT2,ZT2⟩
def Mj [172](j:Zgr)(k:Zanw):ZWA:=by
 unfold jA;rw[Yb j];exact k
def SE [16]:bn ZaHh ZrM=Zcv:=by
 have n2:Zir:=Zagf;simp[bn,after,put,look,lH,gX,h.ab,n2]
def UQ:AZ (ZcW:eD):=by refine ZH2<;>simp
def UR {a:Int}:AZ (ZgV ZcW Zvn):=by refine ZH2<;>simp[after,put]
def US [211]:AZ (ZgV ZRD ZQY):=by
 by_cases h:a=b<;>(refine ZH2<;>simp[after,put,h])
def Jq [16][164](n:#[ars,ZaIc])(d:re ds):ZaHM:=by
 have P:=Ie d n Zkz;rw[YJ]at P;exact P.good
def Sw [16]:gM (ZgV ZcW Zvn) :=
 Jq h [Zv8] (fun d hd g hg=>by simp at hd;subst hd;simp[names]at hg;subst hg;exact ZN1) ZaKg
def Sx [16]:gM (ZgV ZRD ZQY):=by
 refine Jq h ZaDa (fun d hd g hg=>?_) (gE (ds:=[Zv8]) ZaKg (by simp[bn,j5,after,put,look,h.ab]));simp at hd;rcases hd with rfl | rfl<;>(simp[names]at hg;subst hg)
 ·exact ZN1
 ·exact ZVN
def Ol [16]:ZgV ZaHh ZrM=ZEB:=Om h.ab
def all5 [151]{p:Zat9}{a b c d e:α}(h1:p a)(h2:p b)(h3:p c)(h4:p d)(h5:p e):∀ t∈[a,b,c,d,e],p t:=fun t ht=>by
 simp only[Yn,aQq,or_false]at ht;rcases ht with rfl | rfl | rfl | rfl | rfl<;>assumption
abbrev Xh [37](L:Zcr):Bool:=L.all fun D =>
 (#[a2b,D,Zz2] == Zab (Zab (ZdQ ZtM)))&&((#[a2b,D,Zadn] == Zab Zac)&&((#[a2Y,ZJM] == Zab Zad)&&(Za00 K D&&((#[a2b,D,ZAz] == Zab (Zab (ZdQ Zafw)))&&(#[a2Y,ZasY] == Zab Zad)))))
def VP [323]{L:Zcr}(h:Xh K L=Zad)(hn:Za0B)(htk:Zafy):∀ a∈L,L2.XCls K a:=fun a ha=>by
 have q:=ZpQ h a ha;simp only[Y4,ZH]at q;exact⟨q.1,ZjR,ZE7,q.2.2.2.1,q.2.2.2.2.1,hn,htk,q.2.2.2.2.2⟩
abbrev Xb [37](L:Zcr):Bool:=#[BA,Zo4] #[e8,#[BA,Zo4] #[Qm,#[afs,(L.getD i 0),(L.getD j 0),#[A2,i=j]]]]
def U3 [323]{L:Zcr}(h:Xb K L=Zad):#[aLi,L[i]?,L[j]?]:=fun i j a b hi hj=>by
 have li:=ZDo;have lj:=Zato;have q:=Y1 (ZpQ (ZpQ h i (ZhE li)) j (ZhE lj));rw[Zm,Zm,hi,hj]at q;exact q
def Mw [386]{c:HX}[387](F:#[aO2,HA×eD,(AQ ZaQJ ZaEo fl)]):#[u9,#[aql,ql]] :=
 ZaT5
#print Wz
namespace Wk53
open PySem L2 Wz
abbrev fo [207]:Stmt:=PySem.Challenge.pw_lastwaltz_k53_each_refusal_its_own.main.body.getD i (.Pass Zn_)
structure Txt [455]:Zaa where
 len:#[cZ,ZzE]
 range:#[cZ,ZsA]
 isinstance:#[cZ,Zafz]
 tuple:#[cZ,ZfW]
 list:#[cZ,Zds]
 int:#[cZ,Zs7]
 bool:#[cZ,"bool"]
 all:#[cZ,Zdi]
 any:#[cZ,"any"]
 sorted:#[cZ,ZJF]
 reversed:#[cZ,Zpv]
 bset:#[cZ,Zs8]
 bmin:#[cZ,"min"]
 bmax:#[cZ,"max"]
 dict:#[cZ,Zmj]
 zip:#[cZ,Zdu]
 enumerate:#[cZ,ZdK]
 sum:#[cZ,"sum"]
 str:#[cZ,Zmi]
section
variable {P:Program}{w:World}{K:ge}{mg:Zm5}{base:Heap}{c:HX}{co cq ck f P0 P1 cB cT kd cL cF cs cX fX cb ze dl y0 y1 cU cP cV cQ cO dz Pm Pf Pt Pk:Addr}{T5:Zahw}{yy:Zcr}{qz:Kk}{lp:Pos}{ql:Str}{fd:FuncData}
noncomputable abbrev jL:Stmt:=bT (fo 16) 0
noncomputable abbrev zL:Zbe:=ZkK
def yk:#[oC,zL,jL]:=fj
noncomputable abbrev k8:Stmt:=bT (fo 17) 0
noncomputable abbrev Bh:Zbe:=ZrJ
def AG:#[a2,Bh,ZrJ,k8]:=fj
noncomputable abbrev oP:Stmt:=#[eq,0]
noncomputable abbrev FI:Zbe:=Zjc
def Ej:#[jY,FI,oP]:=fj
noncomputable abbrev oO:Stmt:=#[eq,1]
noncomputable abbrev FH:Zbe:=ZkK
def Ei:#[oC,FH,oO]:=fj
noncomputable abbrev tW:Stmt:=#[eq,2]
noncomputable abbrev K6:Zbe:=ZkK
def Iv:#[oC,K6,tW]:=fj
noncomputable abbrev jh:Stmt:=#[eq,3]
noncomputable abbrev x8:Zbe:=[Zjb,Zdl,Zdm,Zff,"other_mask"]
def je:#[a2,x8,Zjd,jh]:=fj
noncomputable abbrev mx:Stmt:=#[eq,4]
noncomputable abbrev DF:Zbe:=ZHp
def BF:#[a2,DF,ZHp,mx]:=fj
noncomputable abbrev jg:Stmt:=#[eq,5]
noncomputable abbrev x6:Zbe:=[Zjb,Zdl,Zdm,Za03]
def nh:#[a2,x6,Zjd,jg]:=fj
noncomputable abbrev kW:Stmt:=#[eq,6]
noncomputable abbrev Bb:Zbe:=ZkK
def AC:#[oC,Bb,kW]:=fj
noncomputable abbrev kU:Stmt:=#[eq,7]
noncomputable abbrev Ba:Zbe:=Zjc
def AB:#[jY,Ba,kU]:=fj
noncomputable abbrev mD:Stmt:=#[eq,8]
noncomputable abbrev DH:Zbe:=ZkK
def BH:#[oC,DH,mD]:=fj
noncomputable abbrev kY:Stmt:=#[eq,9]
noncomputable abbrev Bd:Zbe:=ZEL
def AE:#[a2,Bd,ZEL,kY]:=fj
noncomputable abbrev qU:Stmt:=#[eq,10]
noncomputable abbrev Hu:Zbe:=Zjd
def Gq:#[a2,Hu,Zjd,qU]:=fj
noncomputable abbrev ji:Stmt:=#[eq,11]
noncomputable abbrev x9:Zbe:=ZkK
def wF:#[oC,x9,ji]:=fj
noncomputable abbrev mz:Stmt:=#[eq,13]
noncomputable abbrev DG:Zbe:=Zjc
def BG:#[jY,DG,mz]:=fj
noncomputable abbrev kX:Stmt:=#[eq,14]
noncomputable abbrev Bc:Zbe:=Zjc
def AD:#[jY,Bc,kX]:=fj
noncomputable abbrev j6:Stmt:=#[eq,15]
noncomputable abbrev xI:Zbe:=ZoE
def vo:#[jY,xI,j6]:=fj
noncomputable abbrev mJ:Stmt:=fo 21
noncomputable abbrev DM:Zbe:=[ZaH]
def BJ:#[hg,DM,ZaH,mJ]:=fj
noncomputable abbrev o7:Stmt:=fo 23
noncomputable abbrev FV:Zbe:=ZH5
def Es:#[a2,FV,ZH5,o7]:=fj
noncomputable abbrev oW:Stmt:=fo 29
noncomputable abbrev Cy:Zbe:=ZnT
def Iz:#[hg,Cy,ZhA,oW]:=fj
noncomputable abbrev jk:Stmt:=fo 30
noncomputable abbrev yb:Zbe:=[Zd5,"unlike",ZLb]
def jf:#[UH,yb,jk]:=fj
noncomputable abbrev jm:Stmt:=fo 31
noncomputable abbrev yc:Zbe:=[Zd5,"many"]
def ni:#[UH,yc,jm]:=fj
noncomputable abbrev hW:Stmt:=fo 32
noncomputable abbrev oA:Zbe:=[Zd5,Zhx]
def sN:#[UH,oA,hW]:=fj
noncomputable abbrev ir:Stmt:=#[oJ,0]
noncomputable abbrev uY:Zbe:=Zjc
def tR:#[jY,uY,ir]:=fj
noncomputable abbrev gz:Stmt:=#[oJ,1]
noncomputable abbrev rL:Zbe:=ZHq
def qN:#[a2,rL,ZHq,gz]:=fj
noncomputable abbrev iu:Stmt:=#[oJ,3]
noncomputable abbrev uZ:Zbe:=ZEM
def tS:#[a2,uZ,ZEM,iu]:=fj
noncomputable abbrev gB:Stmt:=#[oJ,4]
noncomputable abbrev rN:Zbe:=ZkL
def qP:#[a2,rN,ZkL,gB]:=fj
noncomputable abbrev d9:Stmt:=#[oJ,5]
noncomputable abbrev mn:Zbe:=[Zjb,Zd5,ZLb]
def gO:#[a2,mn,ZkL,d9]:=fj
noncomputable abbrev eW:Stmt:=#[oJ,6]
noncomputable abbrev jQ:Zbe:=ZkL
def qO:#[a2,jQ,ZkL,eW]:=fj
noncomputable abbrev gA:Stmt:=#[oJ,7]
noncomputable abbrev rM:Zbe:=[Zjb,Zd5,ZaH,ZLb]
def gy:#[a2,rM,ZkL,gA]:=fj
noncomputable abbrev iR:Stmt:=fo 39
noncomputable abbrev sF:Zbe:=ZnT
def AJ:#[hg,sF,ZhA,iR]:=fj
noncomputable abbrev ue:Stmt:=fo 40
noncomputable abbrev Lc:Zbe:=#[MN,ZLc]
def tT:#[a2,Lc,Zop,ue]:=fj
noncomputable abbrev o0:Stmt:=fo 41
noncomputable abbrev FU:Zbe:=#[Rt,ZhA,ZLc,"number"]
def j3:#[a2,FU,Zop,o0]:=fj
noncomputable abbrev qX:Stmt:=fo 42
noncomputable abbrev Hx:Zbe:=#[Rt,Za05,ZLd,"part"]
def lV:#[a2,Hx,Za06,qX]:=fj
noncomputable abbrev oV:Stmt:=fo 43
noncomputable abbrev FO:Zbe:=[ZhA,ZLd,"fewest","most"]
def oK:#[a2,FO,ZLe,oV]:=fj
noncomputable abbrev bq:Stmt:=fo 44
noncomputable abbrev DJ:Zbe:=#[aIL,ZLd]
noncomputable abbrev aJ:Str:=#[A7,Zaka]
noncomputable abbrev aU:Pos:=MR (lQ bq)
def eZ:#[a2,DJ,ZMO,bq]:=fj
noncomputable abbrev oU:Stmt:=fo 45
noncomputable abbrev FN:Zbe:=#[aIL,ZLc]
def oJ:#[a2,FN,ZMO,oU]:=fj
noncomputable abbrev lG:Stmt:=fo 46
noncomputable abbrev Bo:Zbe:=[ZmJ,Zd5,ZLc]
def kR:#[hg,Bo,ZmJ,lG]:=fj
noncomputable abbrev tX:Stmt:=fo 48
noncomputable abbrev K7:Zbe:=#[a8,ZpT]
def Iw:#[eW,K7,ZpT,tX]:=fj
noncomputable abbrev tY:Stmt:=fo 49
noncomputable abbrev K8:Zbe:=#[ob,ZkE,"then",ZpT]
def Ix:#[eW,K8,ZkE,tY]:=fj
noncomputable abbrev mR:Stmt:=fo 50
noncomputable abbrev DN:Zbe:=[Za5,Zba,"ask","then","walk",ZkE,ZpT]
def BL:#[a2,DN,Zlw,mR]:=fj
noncomputable abbrev dH:Stmt:=fo 51
noncomputable abbrev FT:Zbe:=ZTk
noncomputable abbrev bI:Str:=#[A7,Zakb]
noncomputable abbrev bW:Pos:=MR (du dH)
def Er:#[eW,FT,Zff,dH]:=fj
noncomputable abbrev dG:Stmt:=fo 52
noncomputable abbrev FM:Zbe:=ZEW
noncomputable abbrev bF:Str:=#[A7,Zakc]
noncomputable abbrev bV:Pos:=MR (du dG)
def El:#[UI,FM,dG]:=fj
noncomputable abbrev j9:Stmt:=fo 55
noncomputable abbrev xL:Zbe:=[Zdx,"words","numbers"]
def oN:#[hg,xL,Zdx,j9]:=fj
noncomputable abbrev wO:Stmt:=fo 56
noncomputable abbrev M4:Zbe:=[ZmJ,Za5,"lines",Zi8,Zdx,ZpT]
def ki:#[hg,M4,ZmJ,wO]:=fj
noncomputable abbrev gK:Stmt:=fo 58
noncomputable abbrev lR:Zbe:=[Zo1,Zhx,ZLf,ZhV,"reached","left","at",Zdl,"fresh",Zdm]
def dF:#[a2,lR,ZLg,gK]:=fj
noncomputable abbrev bJ:Stmt:=fo 62
noncomputable abbrev FP:Zbe:=ZTl
noncomputable abbrev aY:Str:=#[A7,Zaj']
noncomputable abbrev bE:Pos:=MR (du bJ)
def Em:#[eW,FP,Zo1,bJ]:=fj
noncomputable abbrev mX:Stmt:=fo 63
noncomputable abbrev DP:Zbe:=#[aGM,Zo2]
def sO:#[a2,DP,Zj',mX]:=fj
noncomputable abbrev oS:Stmt:=fo 64
noncomputable abbrev FL:Zbe:=[Za5,Zff,Zba,Zo2,ZhV,"way"]
def oH:#[a2,FL,Zj',oS]:=fj
noncomputable abbrev mI:Stmt:=fo 65
noncomputable abbrev DL:Zbe:=#[aGM,ZhV]
def sM:#[a2,DL,Zj',mI]:=fj
noncomputable abbrev rE:Stmt:=fo 67
noncomputable abbrev FX:Zbe:=Zlz
def Ly:#[Fm,FX,rE]:=fj
noncomputable abbrev o8:Stmt:=fo 68
noncomputable abbrev FW:Zbe:=#[ob,Zba,ZtN,Zff]
def j4:#[UI,FW,o8]:=fj
noncomputable abbrev qY:Stmt:=fo 69
noncomputable abbrev Hy:Zbe:=[Za5,"placed","rings",Zba,ZtN,Zdm]
def iC:#[Fm,Hy,qY]:=fj
noncomputable abbrev jj:Stmt:=fo 70
noncomputable abbrev ya:Zbe:=[Za5,ZLh,"held",Zba,Zdm]
def gI:#[eW,ya,ZLh,jj]:=fj
noncomputable abbrev wN:Stmt:=fo 73
noncomputable abbrev M3:Zbe:=ZEW
def Lx:#[UI,M3,wN]:=fj
noncomputable abbrev nj:Stmt:=fo 74
noncomputable abbrev zM:Zbe:=#[ob,ZtN,ZafA,Zba]
def wG:#[eW,zM,ZtN,nj]:=fj
noncomputable abbrev gJ:Stmt:=fo 76
noncomputable abbrev pG:Zbe:=Zlz
def wH:#[Fm,pG,gJ]:=fj
noncomputable abbrev tZ:Stmt:=fo 81
noncomputable abbrev K9:Zbe:=Zlz
def Iy:#[Fm,K9,tZ]:=fj
noncomputable abbrev uc:Stmt:=fo 82
noncomputable abbrev La:Zbe:=#[a8,Zdl]
def IA:#[eW,La,Zdl,uc]:=fj
noncomputable abbrev j7:Stmt:=fo 83
noncomputable abbrev xJ:Zbe:=#[ob,Zdl,Zdm,"new"]
def vp:#[a2,xJ,Zlo,j7]:=fj
noncomputable abbrev ud:Stmt:=fo 84
noncomputable abbrev Lb:Zbe:=Zlo
def IB:#[a2,Lb,Zlo,ud]:=fj
noncomputable abbrev qV:Stmt:=fo 85
noncomputable abbrev Hv:Zbe:=[Za5,Zdl,Zdm,ZaH,"hubless"]
def Gr:#[a2,Hv,Zlo,qV]:=fj
noncomputable abbrev k9:Stmt:=fo 87
noncomputable abbrev Bi:Zbe:=[Za5,ZaH,ZAC,Zdl,Zdm]
def iO:#[eW,Bi,ZaH,k9]:=fj
noncomputable abbrev AR:Stmt:=fo 88
noncomputable abbrev P5:Zbe:=#[ob,ZaH,Zdl,Zdm]
def NO:#[eW,P5,ZaH,AR]:=fj
noncomputable abbrev mH:Stmt:=fo 89
noncomputable abbrev DK:Zbe:=[Za5,ZaH,"behind"]
def sL:#[eW,DK,ZaH,mH]:=fj
noncomputable abbrev kZ:Stmt:=#[rX,0]
noncomputable abbrev Be:Zbe:=ZoE
def AF:#[a2,Be,ZoE,kZ]:=fj
noncomputable abbrev jJ:Stmt:=#[rX,1]
noncomputable abbrev zJ:Zbe:=ZEN
def yi:#[a2,zJ,ZEN,jJ]:=fj
noncomputable abbrev jK:Stmt:=#[rX,2]
noncomputable abbrev zK:Zbe:=Zjc
def yj:#[jY,zK,jK]:=fj
noncomputable abbrev mG:Stmt:=#[rX,6]
noncomputable abbrev DI:Zbe:=Zjc
def BI:#[jY,DI,mG]:=fj
noncomputable abbrev k7:Stmt:=#[rX,7]
noncomputable abbrev Bg:Zbe:=#[kJ,ZeE]
def qQ:#[jY,Bg,k7]:=fj
noncomputable abbrev oQ:Stmt:=#[rX,9]
noncomputable abbrev FJ:Zbe:=ZkK
def Ek:#[oC,FJ,oQ]:=fj
noncomputable abbrev oR:Stmt:=fo 93
noncomputable abbrev FK:Zbe:=[Zf_,ZkF,Zdl,Zdm]
def jY:#[hg,FK,Zf_,oR]:=fj
noncomputable abbrev aX:Stmt:=fo 94
noncomputable abbrev pI:Zbe:=[Za5,Zf_,ZkF,"trees","left",ZhV]
noncomputable abbrev aD:Str:=#[A7,Zakd]
noncomputable abbrev aW:Pos:=MR (ny aX)
def dW:#[eW,pI,Zf_,aX]:=fj
noncomputable abbrev j8:Stmt:=fo 95
noncomputable abbrev xK:Zbe:=ZTm
def En:#[eW,xK,ZhV,j8]:=fj
noncomputable abbrev lE:Stmt:=fo 97
noncomputable abbrev Bn:Zbe:=#[ob,Zf_,ZaH,ZhV]
def kQ:#[eW,Bn,Zf_,lE]:=fj
noncomputable abbrev lA:Stmt:=fo 99
noncomputable abbrev Bk:Zbe:=ZG8
def AI:#[a2,Bk,ZG8,lA]:=fj
noncomputable abbrev qW:Stmt:=fo 100
noncomputable abbrev Hw:Zbe:=[Zo3]
def Gs:#[hg,Hw,Zo3,qW]:=fj
noncomputable abbrev oY:Stmt:=fo 101
noncomputable abbrev FR:Zbe:=[ZkG,Zo3,"_law_left","_law_turn","_law_number"]
def jZ:#[a2,FR,ZYh,oY]:=fj
noncomputable abbrev oZ:Stmt:=fo 102
noncomputable abbrev FS:Zbe:=[]
def Ep:#[a2,FS,[],oZ]:=fj
noncomputable abbrev jM:Stmt:=fo 103
noncomputable abbrev zN:Zbe:=ZLm
def yl:#[Ln,zN,jM]:=fj
noncomputable abbrev lx:Stmt:=fo 104
noncomputable abbrev Bj:Zbe:=ZLm
def AH:#[Ln,Bj,lx]:=fj
noncomputable abbrev ig:Stmt:=fo 105
noncomputable abbrev qx:Zbe:=[ZLi,ZkG,ZLj,ZLk,ZLl,"_law_book"]
def pJ:#[Ln,qx,ig]:=fj
noncomputable abbrev lC:Stmt:=fo 106
noncomputable abbrev Bl:Zbe:=["_law_first"]
def iP:#[a2,Bl,[],lC]:=fj
noncomputable abbrev oX:Stmt:=fo 107
noncomputable abbrev FQ:Zbe:=ZLm
def Eo:#[Ln,FQ,oX]:=fj
noncomputable abbrev lD:Stmt:=fo 108
noncomputable abbrev Bm:Zbe:=[ZLi,ZkG,ZLj,ZLk,ZLl,"_law_found","e"]
def iQ:#[Ln,Bm,lD]:=fj
noncomputable abbrev EL:Stmt:=fo 109
noncomputable abbrev Rg:Zbe:=[ZtO,Zo3,ZLj,ZLk,ZLl,ZafB,"_law_step",ZkG,ZLi]
def oM:#[hg,Rg,ZtO,EL]:=fj
variable (T:Txt mg)(U:ZaFT)(VM:HM K c)(UO:gi K mg w c Zahm qz)
include T U VM UO
def jG (F:#[w1,Za07,jL]) : #[dD,ZkK,(N8 Zc0 Zba)]:=by
 refine #[agK,yk]
 ·obtain⟨ea,g,rfl,_⟩:=h
  rfl
 ·obtain⟨ea,g,rfl,hg,hx,k⟩:=h
  refine ⟨_,af #[aSZ,Ztt,#[fx,Zp7,aB,Zrk]] (
   ZaH'),?_⟩
  refine⟨_,rfl,_,rfl,g,rfl,hg,#[aPR,Zc0,U.eN]⟩;exact#[aNb,Zc0,U.gN]
def Ac (F:#[w1,Za08,k8]) : #[dD,ZrJ,(N8 cX Zi8)]:=by
 refine #[agK,AG]
 ·obtain⟨ea,g,rfl,_⟩:=h
  rfl
 ·obtain⟨ea,g,rfl,hg,hx,k⟩:=h
  refine ⟨_,af #[aSZ,fX,#[fx,aB,Zp7,(be aB Zrk)]] (
   ZaH'),?_⟩
  refine⟨_,rfl,_,rfl,ZaC,_,rfl,g,rfl,hg,#[aPR,cX,UO.eQ]⟩;exact#[aNb,cX,UO.gQ]
def DS (F:#[w1,Za09,oP]) : #[FY,N9]:=by
 refine #[agK,Ej]
 ·obtain⟨p,dx,rfl,_⟩:=h
  rfl
 ·obtain⟨p,dx,rfl,hp,k⟩:=h
  refine ⟨_,af ZVT (
   af ZVT (
   af ZVT (
   ae (iq Zap Zhs rfl)))),?_⟩
  intro w hw;have n1:p≠w:=ao hp hw;refine#[aSm,p,c.C,hp,Zbv,ZmK];intro h hh;have n2:p≠h:=Zawz;refine#[aaG,n2,ZpU,1];intro cc hc;have n3:p≠cc:=ZVD;refine#[aaG,n3,U.nC,2];refine⟨#[ark,#[pj,0]],fun d hd=>?_⟩;have n4:p≠d:=ZFZ;refine#[aaG,n4,U.nD,3];rw[Zxc]at hh;have wh:w≠h:=Zawz;rw[ZrT]at hc;have hcw:h≠cc:=ZVD;rw[#[cn,hcw],ZrT]at hc;have hwc:w≠cc:=ZVD;rw[ZE6]at hd;have hdc:cc≠d:=ZFZ;rw[#[cn,hdc],ZE6]at hd;have hdh:h≠d:=ZFZ;rw[#[cn,hdh],ZE6]at hd;have hdw:w≠d:=ZFZ;rw[#[cn,hdw]]at hd;rw[#[cn,hwc]]at hc;rw[#[cn,wh]]at hh;refine k ⟨dx,w,h,cc,d,[]⟩ _ ⟨ac,?_,?_,?_,?_,Zao,[],?_,Zao⟩ (fun b o e hb=>?_) Znx
  ·simp[HA.fp,wh,hwc,hdw,hcw,hdh,hdc]
  ·rw[ZE5,ah hdw,ZE5,ah hwc,ZE5,ah wh,ZE5,ac]
   rfl
  ·rw[Zxc,ah hdh,Zxc,ah hcw,Zxc,ac]
   rfl
  ·rw[ZrT,ah hdc,ZrT,ac]
   rfl
  ·rw[ZE6,ac]
   rfl
  ·rw[Zen,#[nn,hd],Zen,#[nn,hc],Zen,#[nn,hh],Zen,#[nn,hw]]
   exact e
  ·simp[HA.fp]at hb
   rcases hb with rfl | rfl | rfl | rfl
   ·exact hw
   ·exact hh
   ·exact hc
   ·exact hd
def DR (F:#[am,Zc5,Za0_,oO])[134] : #[oF,2,ZkK,EA]:=by
 refine #[agL,Ei]
 ·obtain⟨p,B,st,g,rfl,_⟩:=h
  rfl
 ·obtain⟨p,B,st,g,rfl,S,ft,hg,k⟩:=h
  have hu:=ZaU
  refine ⟨_,af (aN Zaza (ae (#[zz,U.eA,U.mA,#[fx,Zp7,aB,Zrk]])) aI) (
   af #[yF,fO,hr,Zau,Zau] (
   ZaCW)),?_⟩
  have g1:ZamS:=ZX7
  refine ZaSK
  cases e:ZlO with
  | some m =>
   refine aR #[bw,g,hg,ZahS];exact #[H6,Zz4,ZQe,(ZD6)]
  | none =>
   refine aG #[yJ,Za6,Zbj,zq _ Zb7,B,st,g,g,S,by have:=ft.w;lia,by have:=ft.h;lia,?_];have S1:=Do (Dp S ZOF) Zx9;have k1:#[GC,ZWE,Zx9]:=ZaIQ;have t1:#[F0,ZWE,Zx9]:=ZazL;generalize #[Hn,ZWE,Zx9]=H1 at S1 k1 t1;refine ZaBF;have hl:ZYf:=Zw9;refine ZaQp;have td:B.d≠t:=ZXF;refine ZaC0;refine #[aTQ,ZatT]
def HR (F:#[am,Zck,Za0',tW])[11] : #[oF,4,ZkK,QR]:=by
 refine #[agL,Iv]
 ·obtain⟨p,B,st,g,rfl,_⟩:=h
  rfl
 ·obtain⟨p,B,st,g,rfl,S,ft,hg,hm,k⟩:=h
  refine ⟨_,af (aN #[eH,qF,ZaCV,Zau] (ae (#[zz,U.eM,U.mM,#[fx,Zp7,aB,(be (dP (bz bg Zap Zbv hr aA ZQ0)) Zrk)]])) aI) (
   af ZaPP (
   af ZaPP (
   ZaCW))),?_⟩
  have no:=#[Ig,ZlX];refine ZaNd
  cases e:ZlO with
  | none=>exact #[Z6,ZS5,ZQe]
  | some m =>
   obtain⟨hs,hh⟩:=hm m e;refine ZBd
   by_cases em:m=g
   ·subst em
    rw[ZrN];refine ZwS
    have hv:d6 (dk ZaB) #[q1,m]=Zab (Zaw m):=#[cL,pe,e]
    obtain⟨m2,e2⟩:=Zzx (hh rfl)
    have hv2:d6 (dk Zcb) #[q1,m]=Zab (Zaw m2):=#[cL,pe,e2]
    refine#[aTP,Zbj,ZmK,Zq5,B.w,S.w,S.w,hv];rw[Fh];have S0:=Dp S (fV ZaB m);refine#[aTP,S0.ob,ZpU,ME _,B.h,S0.h,S0.h,hv2];rw[Fh];have S1:=Do S0 ZHU;have k1:#[GC,ZWF,ZHU]:=ZaIQ;have t1:#[F0,ZWF,ZHU]:=ZazL;generalize #[Hn,ZWF,ZHU]=H1 at S1 k1 t1;refine ZaBF;have hl:ZYf:=Zw9;refine ZaQp;have td:B.d≠t:=ZXF;refine ZaC0;refine #[aTQ,(.go m)]
   ·rw[#[Ww,em]]
    refine aR #[bw,g,hg,#[No,#[bF,ZaC]]];refine ZaNd;rw[e];refine #[c_,m,hs,(#[Z2,Zie])];exact #[H6,ZJY,(by simp[bn,e,em]),(ZD6)]
def wu (F:#[am,Zer,Za1a,jh])[11][145][134](ic:#[ka,ZAD,1,Zjd,Rn]) : #[oF,4,Zjd,AM]:=by
 refine #[agL,je]
 ·obtain⟨p,B,st,a,b,rfl,_⟩:=h
  rfl
 ·obtain⟨p,B,st,a,b,rfl,S,ft,ha,hb,k⟩:=h
  have hr1:dJ 1 _:=#[Sy,ZafC]
  refine ⟨_,af #[JA,3,je.nd,ZaCV] (
   af #[JA,4,je.nd,#[aqi,(aj Zay aV)]] (
   af (aN ZaJx (ae (#[zz,U.eS,U.mS,#[fx,Zp7,aB,Zrk]])) aI) (
   af (aN (jd (bz ii Zap Zbv hr1 dw #[kP,Zau,Zay])) (ae (#[zz,U.eT,U.mT,#[fx,Zp7,aB,(be ZXz (be aB Zrk))]])) aI) (
   af #[yF,fO,hr1,Zau,ZcC] (
   af #[yF,fO,hr1,Zay,Zbl] (
   af #[yF,ic,hr1,Zau,Zay] (
   af #[yF,ic,hr1,Zay,Zau] (
   #[aqk,(aj Zay (aV))])))))))),?_⟩
  have no:#[afG,m∈([ZlX,Zsy,ZyU,ZAD]:Zbe)->ZQ']:=fun B m hm=>by
   simp only[Yn,aQq,or_false]at hm;rcases hm with rfl | rfl | rfl | rfl<;>exact Zfu
  have n1:ZavI:=ZH7;have n2:ZavJ:=ZH7;have n3:#[t7,ZyU]:=ZH7;have n4:#[t7,ZAD]:=ZH7;refine#[DM,n1 B,a,ha]
  cases ea:Zyk with
  | none=>exact #[Z6,Zasa,(by simp[bn,ea])]
  | some ma =>
   refine#[DM,n1 B,b,hb]
   cases eb:ZHA with
   | none=>exact #[Z6,ZasG,(by simp[bn,ea,eb])]
   | some mb =>
    refine ZOJ
    by_cases eab:a=b
    ·rw[#[Tx,eab]]
     refine aR #[bw,a,ha,ZahS];exact #[H6,ZJZ,(by simp[bn,ea,eb,eab]),(ZD6)]
    ·rw[#[Ww,eab]]
     refine aG #[aT0,n2 B,ZSs]
     cases em:ZOb with
     | true =>
      refine aR #[bw,a,ha,#[aMt,b,hb,ZahS]];exact #[H6,ZsG,(Za1b),s1]
     | false =>
      refine ZwS;have S1:=ZlL;have kd:=vN k (Za1b)
      have wa:ZZs:=by unfold wr;rw[ea];rfl
      have wb:ZZt:=by unfold wr;rw[eb];rfl
      have l1:=JB ZaB a mb;have l2:=JB Zcb mb a;have f1:=ft.w;have f2:=ft.h;refine#[yJ,Za6,ZAE,n3 B,B,st,a,mb,S1,Zaf,Zaf,?_];have S2:=Do (Dp S1 ZuD) Zqt;have k2:#[GC,ZZA,Zqt]:=#[aIP,(Kp.of_same s1).on];have t2:#[F0,ZZA,Zqt]:=((Tr.of_same s1).upd _ _).upd _ _;generalize #[Hn,ZZA,Zqt]=H2 at S2 k2 t2;refine#[yJ,Za6,S2.ob,n3 B,B,_,b,ma,S2,#[arb,ZuD],#[arb,Zqt],?_];have S3:=Do (Dp S2 ZCB) Zsq;have k3:#[GC,ZZr,Zsq]:=#[aIP,k2.on];dsimp only at S3 ⊢;have t3:#[F0,ZZr,Zsq]:=(t2.upd _ _).upd _ _;generalize #[Hn,ZZr,Zsq]=H3 at S3 k3 t3;refine#[yJ,Za6,S3.ob,n4 B,B,_,a,b,S3,by have:=ft.c;show Zazm;lia,Zay2,fun H4 ⟨B4,S4,k4,p4,t4⟩=>?_];dsimp only at S4;refine#[yJ,B4.dx,S4.ob,n4 B4,B4,_,b,a,S4,by have:=ft.c;have:=ZawY;show #[C7,Zqr];lia,#[ai5,yP (n:=999) (Zay2) ZaF x hx],fun H5 ⟨B5,S5,k5,p5,t5⟩=>?_]
      dsimp only at S5;have k4':Kp Zf5 H H4:=k3.on k4
      have f4:∀ x∈B4.fp,ZaB4:=fun x hx=>by
       rcases p4 x hx with z | z
       ·exact ZSN
       ·by_cases hq:ZasH
        ·exact Zal hq
        ·refine Zaq ?_
         cases e:H x with
         | none=>rfl
         | some o=>rw[k3 x o e hq]at z;cases z
      have k5':Kp Zf5 H H5:=k4'.trans k5 f4
      have f5:∀ x∈B5.fp,ZaB4:=fun x hx=>by
       rcases p5 x hx with z | z
       ·exact f4 x z
       ·by_cases hq:ZasH
        ·exact Zal hq
        ·refine Zaq ?_
         cases e:H x with
         | none=>rfl
         | some o=>rw[k4' x o e hq]at z;cases z
      refine ak (id S5.d) ZCd;have hl:ZYf:=Zw9;refine⟨_,rfl,p,c.C,B5.dx,_,_,rfl,S5.ob,Zbv,U.nD,KO _,Zaox,_,rfl,_,rfl,#[mn,#[pj,3]],ZmB⟩;have td:B5.d≠t:=ZXF;refine#[aqz,B5.d];have S6:=vQ S5 hd hp ZrM ht;refine kd _ #[DC,B5,?_,?_,f5,(#[dG,t3.trans,t4] t5).upd]
      ·show aM c.C _ p B5 ZalZ
       rw[wa,wb];exact S6
      ·intro x o e hx
       have h5:=k5' x o e hx
       have hx5:x≠B5.d:=fun z=>by
        rcases f5 B5.d MZ with q | q
        ·exact #[eU,hx,z,q]
        ·rw[z,q]at e;cases e
       show #[aQ,(upd H5 t _),B5.d,_,x,o]
       rw[ah hx5,ah (ao h5 ht)];exact h5
def Bq (F:#[am,ZyU,Za1c,mx]) : #[qJ,ZHp,EB]:=by
 refine #[agK,BF]
 ·obtain⟨p,B,st,g,m,rfl,_⟩:=h
  rfl
 ·obtain⟨p,B,st,g,m,rfl,S,hw,hh,k⟩:=h
  have hu:=ZaU
  have nwh:B.w≠B.h:=by have:=S.nd;simp[HA.fp]at this;exact #[q2,0].1
  have npw:p≠B.w:=jR S.ob S.w (by intro z;cases z)
  refine ⟨_,af ZaAN (
   ae (jX hu Zfp Zay Zau rfl)),?_⟩
  refine⟨_,rfl,_,rfl,p,c.C,Za6,_,_,rfl,Zbj,Zbv,ZmK,Zq5,_,rfl,B.w,_,rfl,ZtP (k:=ZBQ) S.w #[aX,MU,Yw hw ZaF],?_⟩;rw[JR];refine⟨_,rfl,_,rfl,p,c.C,Za6,_,_,rfl,#[oh,npw,Zbj],Zbv,ZpU,ME _,_,rfl,B.h,_,rfl,ZtP (k:=#[ee,m]) #[aX,#[cn,nwh],S.h] #[aX,MU,Yw hh ZaF],?_⟩;rw[JR];exact k
def wq (F:#[am,ZAD,Za1d,jg]) : #[qJ,Zjd,Rn]:=by
 refine #[agK,nh]
 ·obtain⟨p,B,st,a,b,rfl,_⟩:=h
  rfl
 ·obtain⟨p,B,st,a,b,rfl,S,u_,m_,k⟩:=h
  have hu:=ZaU
  refine ⟨_,af #[JA,3,nh.nd,(Nq Zfp Zau iK ZDe)] (
   ae (jX hu Zbl Zay sI rfl)),?_⟩
  refine ZaT2;have s1:ZTE:=Zxt;have S1:=ZlL;have ap:=S.apart;have cq3:B.cs.length=Ztq:=Yx ZtQ
  have lc:#[Uy,(dR B.cs Zbo)]:=#[aW,rq cq3,Yw u_ ZaF]
  have np:=S.pne;simp only[HA.fp,Yn,not_or]at np;refine gu _ (Zdr a) S1.c rfl lc (fun v hv=>?_) (fun hv=>?_)
  ·rcases ZGM with ⟨h1,h2,h3⟩ | ⟨ad,h1,h2,h3,h4⟩
   ·rw[h1]at hv;cases hv
   ·rw[h2]at hv
    cases hv
    have lk:#[Uy,(vU (gX Zbo a))]:=by
     have e:∀ ci:Zgy,(#[adM,Zayg])->#[C7,ZGz]:=by
      intro ci
      induction ci with
      | nil=>intro _;show 0<Zcc;decide
      | cons x r ih =>
       intro h;unfold gX;split
       ·exact h x Ye
       ·exact ih #[aih,h]
     unfold vU;rw[X7];exact Yw (e _ m_) ZaF
    refine#[Y6,rfl,ad,ZtP (k:=ZnO) h3 lk];rw[JS]
    have cx6:ad∈Zf5:=by simp[HA.fp,h1]
    have nn:∀ x,x∉B.cs->x≠ad:=fun x hx z=>#[eU,hx,z,h1];obtain⟨q1,q2⟩:=h4 b (upd ZO4 ad #[k5,(ju Zax1 b)]) ap.cs (fun x _ hx o e=>#[eR,hx,e]) ac;refine k _ #[DC,B,⟨#[R5,np.2.2.2.2,ZAE],S.nd,#[R5,ap.w,S1.w],#[R5,ap.h,S1.h],by rw[ah (nn _ ap.c),S1.c,q2],q1,?_⟩,((Hk hl).on (kM cx6)),(#[fZ,Zal hx]),ZafH];refine ak S1.d ZCd;refine #[aHZ,#[aX,ah (nn _ ap.d),hd]];obtain⟨xs,ex⟩:=qk x;rw[#[wm,S1.tup (xs:=xs) #[gf,ex,e] #[aX,z,cx6]]];exact e
  ·rcases ZGM with ⟨h1,h2,h3⟩ | ⟨ad,h1,h2,h3,h4⟩
   ·have lB:l∉Zf5:=fun z=>by obtain⟨o,e⟩:=ZSP;rw[hl]at e;cases e
    have lB':=lB;simp only[HA.fp,Yn,not_or]at lB';obtain⟨l1,l2,l3,l4,l5⟩:qo:=lB';refine#[Y6,rfl,l,ZtP (k:=ZnO) #[oh,l3,ac] #[mo,0<Zpi]];rw[#[gW,hU [] ZD0 (ZcH Zad)=vU [b]],qL _ hv]
    have e1:∀ x o,#[aK,x,o]->x≠B.c->x≠l->#[bD,ZaRH,o]:=fun x o e hx hy=>by
     rw[ah hy,ah hx,ah hy];exact e
    have nl:∀ x o,#[aK,x,o]->x≠l:=fun x o e=>ao e hl;refine k _ #[DC,⟨Za6,B.w,B.h,B.c,B.d,B.cs++[l]⟩,#[aN0,#[Hh,S.w,ap.wc,S.w],#[Hh,S.h,ap.hc,S.h]],?_,Zly,(ZafH _ _).upd]
    ·exact #[Hh,Zbj,np.2.2.1,Zbj]
    ·refine IY.fp ⟨ap.wh,ap.wc,ap.wd,ap.hc,ap.hd,ap.cd,?_,?_,?_,?_,?_⟩
     ·simp[ap.w,Yz l1]
     ·simp[ap.h,Yz l2]
     ·simp[ap.c,Yz l3]
     ·simp[ap.d,Yz l4]
     ·exact u9 ap.cs l5
    ·show ZaRH B.c=Zab (.dK (dR ZaBt Zqr))
     rw[#[cn,l3],ac,h3 b,tz a [b] l cq3]
    ·show V8 _ ZaBt Zqr
     rw[h3 b];exact cJ (uF ZtQ fun x hx o e=>#[aNz,#[bx,#[go,ap.c,z,hx]]]) #[fz,ac]
    ·refine ZCe
     refine #[aHZ,#[Hh,hd,(Yz ap.cd),hd]];obtain⟨xs,ex⟩:=qk x;exact e1 t _ e #[bx,S.tup (xs:=xs) #[gf,ex,e] #[aX,z,Rf]] (nl t _ e)
    ·intro x o e hx
     exact #[aNz,#[bx,#[eU,hx,z,Rf]]]
    ·simp only[HA.fp,Yn,Yp]at hx ⊢
     rcases hx with hx | hx | hx | hx | hx | hx | hx
     ·exact #[r3,hx]
     ·exact Zal (Zaq (Zal hx))
     ·exact #[W_,Zaoo]
     ·exact #[W_,#[PL,hx]]
     ·exact #[W_,(Zaq (Zaq hx))]
     ·exact #[eU,Zaq,hx,hl]
     ·cases hx
   ·rw[h2]at hv;cases hv
def kO (F:#[am,ZyM,Za1e,kW]) : #[qJ,ZkK,vt]:=by
 refine #[agK,AC]
 ·obtain⟨p,B,st,g,rfl,_⟩:=h
  rfl
 ·obtain⟨p,B,st,g,rfl,S,k⟩:=h
  have hu:=ZaU;refine #[aL1,Zau,Zfp]
  have g1:ZamS:=ZX7
  refine⟨_,rfl,_,rfl,p,c.C,Za6,_,_,rfl,Zbj,Zbv,ZmK,Zq5,B.w,_,rfl,g1,?_⟩;rw[Option.isSome_map];exact k
def zX (F:#[am,Zhx,Za1f,kU]) : #[FY,vq]:=by
 refine #[agK,AB]
 ·obtain⟨p,B,st,rfl,_⟩:=h
  rfl
 ·obtain⟨p,B,st,rfl,S,hl,k⟩:=h
  refine #[aN8,ZU4];refine⟨_,rfl,p,c.C,B.dx,_,_,rfl,S.ob,U.cl,U.nW,Zq5,B.w,_,ZgA,rfl,S.w,?_,by unfold aQ;rw[X7];exact hl,k⟩;unfold dk aQ;rw[Y7,Y7];rfl
def Bt (F:#[am,ZlX,Za1g,mD])[447] : #[oF,3,ZkK,lW]:=by
 refine #[agL,BH]
 ·obtain⟨p,B,st,g,rfl,_⟩:=h
  rfl
 ·obtain⟨p,B,st,g,rfl,S,hg,k⟩:=h
  have hu:=ZaU
  refine ⟨_,(af ZaHr (
   Zamm)),?_⟩
  have g1:ZamS:=ZX7
  refine ZaSK
  cases e:ZlO with
  | none =>
   rw[e]at k;exact ZaAd
  | some m =>
   rw[e]at k;refine #[aTR,ZmK,Zq5,B.w]
def zZ (F:#[am,Zo2,Za1h,kY])[447] : #[oF,3,ZEL,vz]:=by
 refine #[agL,AE]
 ·obtain⟨p,B,st,g,rfl,_⟩:=h
  rfl
 ·obtain⟨p,B,st,g,rfl,S,hg,k⟩:=h
  have hu:=ZaU
  refine ⟨_,(af ZaHr (
   Zamm)),?_⟩
  have g1:#[amR,B.h,ZawA]:=#[dM,pe,#[h_,ZBQ,S.h]]
  refine⟨_,rfl,_,rfl,p,c.C,Za6,_,_,rfl,Zbj,Zbv,ZpU,ME _,B.h,_,rfl,g1,_,rfl,?_⟩
  cases e:ZWr with
  | none =>
   rw[e]at k;exact ZaAd
  | some m =>
   rw[e]at k;refine #[aTR,ZpU,ME _,B.h]
def xN (F:#[am,Zsy,Za1i,qU]) : #[qJ,Zjd,N7]:=by
 refine #[agK,Gq]
 ·obtain⟨p,B,st,a,b,rfl,_⟩:=h
  rfl
 ·obtain⟨p,B,st,a,b,rfl,S,k⟩:=h
  have hu:=ZaU;refine #[aL1,Zay,ZaRE];refine⟨_,rfl,_,rfl,p,c.C,Za6,_,_,rfl,Zbj,Zbv,U.nC,PH _,B.c,rfl,ZaoL,_,rfl,ZLq⟩;have s1:ZTE:=Zxt;have S1:=ZlL;refine ZaL0;rcases ZGM with ⟨h1,h2,h3⟩ | ⟨ad,h1,h2,h3,h4⟩
  ·rw[h1]
   refine au l _ rfl (#[h_,ZnO,ac]) ?_;have:=k _ s1;unfold lH at this;rw[h2]at this;exact this
  ·rw[h2]
   refine au ad _ rfl (#[h_,ZnO,h3]) ?_;rw[Kf];exact k _ s1
def wv (F:#[am,ZyV,Za1j,ji]) : #[qJ,ZkK,tV]:=by
 refine #[agK,wF]
 ·obtain⟨p,B,st,g,rfl,_⟩:=h
  rfl
 ·obtain⟨p,B,st,a,rfl,S,h64,k⟩:=h
  have hu:=ZaU;refine #[aN8,(aj ZaRE aV)];refine ZaT2;have s1:ZTE:=Zxt;have S1:=ZlL;refine ZaL0;rcases ZGM with ⟨h1,h2,h3⟩ | ⟨ad,h1,h2,h3,h4⟩
  ·rw[h1]
   refine⟨l,[],[],rfl,ac,rfl,ZaC,ZEf⟩;refine k l2 _ #[qQ,m_] #[rb,m_] ?_;rw[h2,ac]
  ·rw[h2]
   refine⟨ad,_,gX Zbo a,rfl,h3,by unfold vU;rw[Y7];rfl,h64,ZEf⟩;exact k l2 _ #[qQ,m_] #[rb,m_] ac
def Br (F:#[am,ZLo,Za1k,mz]) : #[FY,J8]:=by
 refine #[agK,BG]
 ·obtain⟨p,B,st,rfl,_⟩:=h
  rfl
 ·obtain⟨p,B,st,rfl,S,k⟩:=h
  refine #[uP,#[afJ,ZU4]];refine ZCe;refine#[aNE,ZLq];exact k l _ hl ZvL #[hc,as,#[p',hp,fun b y e=>ZvL _ _ e]]
def zY (F:#[am,ZkE,Za1l,kX]) : #[FY,Gv]:=by
 refine #[agK,AD]
 ·obtain⟨p,B,st,rfl,_⟩:=h
  rfl
 ·obtain⟨p,B,st,rfl,S,k⟩:=h
  refine #[uP,#[ad0,ZU4]];refine ZCe;refine#[aNE,?_];rw[X7,Zw9];exact k
def DT (F:#[am,ZAC,Za1m,j6])[264] : #[cS,3,Zjc,(Oh c.C)]:=by
 refine #[agK,vo]
 ·obtain⟨p,A0,st,rfl,_⟩:=h
  rfl
 ·obtain⟨p,A0,st,rfl,S,ndc,lc9,k⟩:=h
  have hu:=ZaU
  refine ⟨_,(af (bZ 1 vo.nd ZaaE) (
   af ZaKh (
   af ZaKh (
   af (Qt (iq Zau (#[gn,Gc,ai j6,xI,Za04,[Zac,Zac],Dg,(Ny (cu Zap rfl)),#[ng,⟨(#[aSX,Za04,Za04]),fS,pv 0,#[ap5,ZmZ]⟩]]) rfl)) (
   af (iq Zau #[afJ,ZaoY] rfl) (
   Zxz)))))),?_⟩
  try dsimp only[cxK,cxK']
  intro x dx nx ndx nex;refine ZaCq
  have s0:ZaIu:=ZOP
  have E1:ZaJU:=Zane;have S1:=E1.hall;have xo:=S1.ob;have s1:=E1.same;have px:#[ns,H,x]:=#[ct,ao e nx];clear E1 S1;refine#[Zv,s1 _ _ Zbj,ZmK,Fr,A0.w,s1 _ _ S.w,fun lw hlw=>?_];have xw:x≠lw:=ao xo hlw;refine#[Id,#[eR,xw,xo],ZmK];rw[Tz];have fw:#[a_,lw]:=s1.free hlw;have s2:ay H (upd ZHF x ZBL):=cw #[rb,hlw] nx
  have w2:#[aQ,ZHF,x,ZBL,lw,ZTJ]:=#[b1,Zatz,ac]
  have x2:#[aQ,ZHF,x,ZBL,x,ZBL]:=ac;generalize upd ZHF x ZBL=H2 at s2 w2 x2 ⊢;refine#[Zv,#[eV,Zbj],ZpU,ME,A0.h,#[eV,S.h],fun lh hlh=>?_];have xh:x≠lh:=ao x2 hlh;have wh:lw≠lh:=ao w2 hlh;refine#[Id,#[eR,xh,x2],ZpU];rw[Tx];have fh:#[a_,lh]:=s2.free hlh;have s3:ay H (upd ZP6 x ZBK):=cw (Zje (ag hlh)) nx
  have w3:#[Zq,lw,ZTJ]:=#[f6,Zatz,ah wh,w2]
  have h3:#[Zq,lh,Zatw]:=#[b1,#[cn,xh],ac]
  have x3:#[Zq,x,ZBK]:=ac;generalize upd ZP6 x ZBK=H3 at s3 w3 h3 x3 ⊢;have cl:=Yx ZtQ;have kl:=rq cl;refine#[Zv,#[gp,Zbj],U.nC,PH,ZhW,Zavz,fun oo lc hlc=>?_];have c3:=Zavz
  have cne:#[Fq,ZrH]:=fun b e z=>by rw[z,S.c]at e;cases e
  have hFz:#[aQ,H3,ZhW,ZakO,ZhW,ZakO]:=ac;have hF:∀ b,ZrH->upd H3 ZhW ZakO b=H3 b:=#[fa,Zen];generalize upd H3 ZhW ZakO=HF at hlc hFz hF ⊢
  have lcc:lc≠ZhW:=fun z=>by rw[z,hFz]at hlc;cases hlc
  have az6:H3 lc=Zac:=#[dM,hF lc lcc,hlc]
  have flc:#[a_,lc]:=s3.free az6
  refine KM (d:=A0.c) (o:=oo) (kvs:=dR A0.cs Zbo) #[gs,∃ (v1 v2:ZgG)(cs:Zcr),σ=[v1,v2]/\ay HF HK/\HK lc=Zab (.dK (dR cs (Za1n i)))/\#[gj,(#[n7,y,ZCp,HK,ZUG]),cs,Za1n,i]/\(#[JX,#[g3,HF]/\b≠lc])/\ZaXP]
   ⟨none,none,[],rfl,ag hlc,ac,Zao,(fun b h=>nomatch h),Zl⟩ #[qo,#[aaS,t1],ZaxU] ?_ ?_
  ·intro i q σ HK T hq a_ hT;obtain⟨v1,v2,cs,rfl,t1,hd,pc,fr2,bx5⟩:kJ:=a_
   obtain⟨a,y,ha,hy,rfl⟩:da:=Kv cl hq;have csl:=Yx pc;refine #[adf,ZtQ,ha,fun y' hy' hA=>?_];rw[hy]at hy';cases hy';have hil:i<Ztq:=#[pc,hy]
   have aF:HF a=Zab ZUG:=by
    rw[hF a Zie]
    ·exact #[gp,hA]
    ·have:=S.nd
     simp only[HA.fp,YN,Yn,not_or]at this;exact #[go,#[bu,0].2.2.1.2,z,Yy ha]
   refine#[qs,T,ac];have sT:=#[fk,[kV (Zdr y.1),ZC2],hT];refine Kd ⟨_,rfl,_,rfl,a,_,rfl,sT _ _ (t1 _ _ aF),#[Lp,bS _ (Zdr y.1) #[aX,ah (ao ZaBp hl),sT _ _ hd] rfl #[rj,rq csl,YL,Zhe] ?_]⟩;have lF:HF l=Zac:=t1.free (sT.free hl);have llc:l≠lc:=(ao ZaBp hl).symm
   have lcs:l∉cs:=fun z=>by
    obtain⟨j,hj⟩:=Y3 z;refine #[aJB,pc];have:=sT _ _ e;rw[hl]at this;cases this
   refine ⟨_,_,cs++[l],rfl,cw (Zmu (sT.trans ZvL)) hlc,?_,?_,Zp5,u9 bx5 lcs⟩
   ·rw[ac,qL _ (Fe (Zlp)),YG,hy,YE,tz _ _ _ csl]
    have hn:(st.circ.map (·.1))[i]? = Zab y.1:=#[nW,hy]
    rw[List.map_take]at z;obtain⟨j,hj⟩:=Y3 z;have hj2:=Zato;rw[YL]at hj2;rw[ZasQ]at hj;have:=#[a0K,ZCs,ndc,hj.trans,hn.symm]
    lia
   ·rw[YG,hy,YE]
    refine #[a1p,pc,?_,#[qV,llc]];rw[ah #[dy,fr2].2];exact ZvL _ _ #[le,sT]
   ·rcases Zaug with z | z
    ·exact fr2 b z
    ·rw[ZdO];exact⟨lF,llc⟩
  intro σ HK a_;obtain⟨v1,v2,cs,rfl,t1,hd,pc,fr2,bx5⟩:kJ:=a_;rw[kl,YJ]at hd pc
  have xF:#[bD,HF,ZBK]:=#[aW,hF x ZaEW,x3]
  refine#[Id,t1 _ _ xF,U.nC];rw[Tv]
  have nfz:#[ak0,H ZhW]:=fun o' u' z=>by rw[S.c]at z;cases z
  refine jV ZhW oo ZakN #[oh,#[aEW,0].symm,ZaxU] nfz ?_
  have lcx:lc≠x:=fun z=>by rw[z,x3]at az6;cases az6
  have csx:#[JX,ZrG/\ZrH/\ZbW]:=fun b hb=>by
   have e:=#[qb,fr2]
   have n1:ZrH:=fun z=>by rw[z,hFz]at e;cases e
   refine ⟨(fun z=>by rw[z,xF]at e;cases e),n1,?_⟩;rw[hF b n1]at e;exact s3.free e
  generalize hH4:upd (upd HK x ZaPI) ZhW (.dK (dR A0.cs Zbo))=H4
  have g4:∀ b,ZrG->ZrH->H4 b=HK b:=fun b n1 n2=>by rw[<-hH4,ah n2,ah n1]
  have x4:#[bD,H4,ZaPI]:=by rw[<-hH4,ah (cne x nx),ac]
  have s4:ay H H4:=fun b o e=>by
   by_cases hb:b=ZhW
   ·rw[hb,S.c]at e
    rw[hb,<-hH4,ac];exact e
   ·rw[g4 b #[cA,px] hb]
    exact t1 _ _ #[aX,hF b hb,s3 _ _ e]
  have up4:#[hh,#[a4,H3],ZrG,ZrH,ZarU]:=fun b o e n1 n2=>#[aW,g4 b n1 n2,t1 _ _ #[aX,hF b n2,e]]
  have w4:=up4 _ _ w3 (Yz xw) Zazt;have h4:=up4 _ _ h3 (Yz xh) Zazu
  have c4:H4 lc=Zab #[OE,cs]:=#[aW,g4 lc lcx lcc,hd]
  have pc4:Za3 (#[n7,y,ZCp,H4,ZUG]) cs Zbo:=Wz.Paired.mapP' pc fun b z hb e=>by
   rw[g4 b ZauJ #[dy,csx].2.1];exact e
  have cv6:lw≠lc:=fun z=>by rw[z,az6]at w3;cases w3
  have cv5:lh≠lc:=fun z=>by rw[z,az6]at h3;cases h3
  have wcs:lw∉cs:=fun z=>by
   have e:=(fr2 lw z).1;rw[hF lw Zazt,w3]at e;cases e
  have hcs:lh∉cs:=fun z=>by
   have e:=(fr2 lh z).1;rw[hF lh Zazu,h3]at e;cases e
  clear hH4 up4 g4;refine ak S.d fun qs hq hqp=>?_;refine⟨_,rfl,p,c.C,A0.dx,_,_,rfl,s4 _ _ Zbj,Zbv,U.nD,KO A0,A0.d,_,rfl,#[lv,(s4 _ _ hq)],fun ld hld=>?_⟩;have xd:x≠ld:=ao x4 hld;refine#[Id,#[eR,xd,x4],U.nD];rw[Tw];have fd5:#[a_,ld]:=s4.free hld
  have up:#[p2,H4,ZrG,#[aQ,(upd H4 ld #[nc,ZKy]),x,#[BJ,{ B with w:=lw,h:=lh,c:=lc,d:=ld }],b,o]]:=#[pC,#[eR,n,(ag hld) _ _ e]]
  refine#[c9,k x ⟨Za6,lw,lh,lc,ld,cs⟩ _ nx ⟨?_,?_,up _ _ w4 (Yz xw),up _ _ h4 (Yz xh),up _ _ c4 lcx,?_,qs,?_,?_⟩ Zp5 ?_]
  ·rw[ac,<-UV _ cs]
  ·have d1:lw≠ld:=ao w4 hld
   have d2:lh≠ld:=ao h4 hld;have d3:lc≠ld:=ao c4 hld
   have d4:ld∉cs:=fun z=>by
    obtain⟨j,hj⟩:=Y3 z;refine #[aJB,pc4];rw[hld]at e;cases e
   have d5:lc∉cs:=#[aV,(fr2 lc z).2 rfl];simp[HA.fp,wh,cv6,cv5,wcs,hcs,d1,d2,d3,d4,d5,bx5]
  ·exact Za1o pc4 fun b z hb e=>up _ _ e ZauJ
  ·rw[#[cn,xd],ac]
  ·exact ZiU hqp fun a z e=>up _ _ Zav2 #[le,px]
  ·simp[HA.fp]at hb
   rcases hb with rfl | rfl | rfl | rfl | z
   ·exact fw
   ·exact fh
   ·exact flc
   ·exact fd5
   ·exact (csx b z).2.2
  ·exact cw (ZAF (ag hld)) nx
def Bz (F:#[am,ZLr,ZLr,mJ]) : #[dD,[ZaH],(Gy K)]:=by
 refine #[agK,BJ]
 ·obtain⟨l,xs,rfl,_⟩:=h
  rfl
 ·obtain⟨l,xs,rfl,hS,k⟩:=h
  refine #[uP,(Ib rfl Zap ZadW ZafI ZadW T.reversed)];exact⟨_,rfl,l,xs,rfl,hS,k⟩
def D7 (F:#[am,ZIs,ZIs,o7]) : #[cP,2,ZH5,ZaEi]:=by
 refine #[agL,Es]
 ·obtain⟨a,b,c,d,rfl,_⟩:=h
  rfl
 ·obtain⟨a,b,c',d,rfl,k1,k2⟩:=h
  have hu:=ZaU
  have two:Zpm:=ZaC
  have four:#[pl,4]:=ZaC
  have six:#[pl,6]:=ZaC
  refine ⟨_,(af #[zA,#[a4V,Kr,(dv (dq #[kO,Zap,Zau,#[kP,Zay,Zbl]]))],U.eS,U.mS] (
   ae (aL (dq #[uQ,#[h7,Zap,Zau],ZW6,#[h7,Zap,Zay],#[h7,Zau,Zbl],#[kP,#[h7,Zap,Zbl],ZazP]])))),?_⟩
  try dsimp only[cxK,cxK']
  refine⟨_,rfl,_,rfl,_,rfl,_,rfl,four,ZLq⟩;have s1:=#[nl,ZaOD,hl];refine⟨l,ZVs,rfl,ZbO ac,#[arh,(4:Nat)],fun q S n hq hn hnd=>?_⟩;have s2:=#[fj,ZY3,hq];refine⟨q,_,_,rfl,ac,_,_,rfl,rfl,_,rfl,?_⟩;have y_:=Zj6;generalize upd #[we,l,ZaOD] q ZRk=H2 at y_ ⊢;have hn:n<=4:=hn;have hnd:n=4↔#[Vs,0].Nodup:=hnd
  by_cases nd:#[Vs,0].Nodup
  ·rw[X9 (#[i2,hnd.mpr nd])]
   refine aG #[lu,fun t1 h1=>#[lu,fun t2 h2=>#[lu,fun t3 h3=>#[lu,fun t4 h4=>#[lu,fun t5 h5=>#[lu,fun t6 h6=>⟨six,ZSu⟩]]]]]];have g1:=#[fk,[ZnI,Zqz],h1];have g2:=#[lM,Zaok,d,h2];have g3:=#[lM,ZnI,c',h3];have g4:=#[lM,Zqz,d,h4];have g5:=#[lM,ZnI,d,h5];have g6:=#[lM,Zqz,c',h6];have g7:=#[nl,[Zauj,Zaui,Zauk,ZaS t4,ZaS t5,ZaS t6],hlq];have g67:=g6.trans g7;have g57:=g5.trans g67;have g47:=g4.trans g57;have g37:=g3.trans g47;have g27:=ZAG g37;have g17:=g1.trans g27;refine k1 nd lq _ (y_.free (g1.free (g2.free (g3.free (g4.free (g5.free (g6.free hlq))))))) (ZAH g17) #[br,[t1,t2,t3,t4,t5,t6],ac];exact ZaD #[gw,g27] #[B0,#[gw,g37],#[gw,g47],#[B0,#[gw,g57],#[gw,g67],#[fz,#[gw,g7]]]]
  ·rw[Yc (by have:n≠4:=#[jC,nd,hnd.mp];lia)]
   exact aR (k2 nd H2 y_)
def tM (F:#[am,ZyX,ZyX,oW]) : #[dD,ZnT,vw]:=by
 refine #[agK,Iz]
 ·obtain⟨z,rfl,_⟩:=h
  rfl
 ·obtain⟨z,rfl,asc,len,k⟩:=h
  have hu:=ZaU;have sl:Zpk:=Y6
  have zl:Zpn:=Zaf
  have hz:ZaeG:=Zro
  refine ⟨_,(af #[m',(ZpV (JT (ar wC Zap (#[adY,kd,UO.mkd]) rfl) (Eg (jc #[aOq,UO.ml])))),Zoa] (
   #[ej,#[a1S,oW,Cy,UO.mt]])),?_⟩
  try dsimp only[cxK,cxK']
  refine fF UO.kd fun o e_ n k1 k2 k3 k4 k5=>?_;refine⟨_,rfl,kd,Zafh ZaY,rfl,#[q8,(gf o e_ n k1 k2 k3 k4 k5)],rfl,KH _,_,rfl,?_⟩;unfold zw at k;rw[#[aOW,z,Zafi,z,Zafi,#[AV,z∈ZafK],Dv z ZafK]]
  by_cases c1:ZaDl
  ·rw[Yc c1]at k ⊢
   exact ZZT
  rw[X9 c1]at k ⊢;refine aG ZaTD
  by_cases h1:Zvp
  ·rw[Zax3]
   refine aR Zaba
   by_cases h2:Zuq
   ·rw[ZaFz]
    rw[Yc (#[c2,ZaG6,Zwq])]at k;refine ZaPi;refine #[aTC,Co]
    ·refine ZaGw
     rw[SM];exact Zyt
    refine#[GV,q,hq1,?_];rw[show #[aoQ,Co] id=Za0j Co by rw[ZaWR];rfl];exact k H1 s1
   ·rw[ZaGd]
    rw[#[aM6,h2,q.2]]at k;exact ZZT
  ·rw[ZazZ]
   rw[#[aM6,h1,q.1]]at k;exact #[jv,ZZT]
def wy (F:#[am,ZIt,ZIt,jk]) : #[dD,[Zd5],N3]:=by
 refine #[agK,jf]
 ·obtain⟨p,n,f,rfl,_⟩:=h
  rfl
 ·obtain⟨p,n,f,rfl,hn,hf,k⟩:=h
  have sl:Zpk:=Y6
  refine ⟨_,(af #[Bb,#[se,ZBa]] (
   af #[m',#[xi,ZBa],Zhs] (
   af (bZ 1 jf.nd Zhs) (
   af #[x1,(Au ZBa),(iW 2 jf.nd),#[m_,(ar (Lj 18 (Ra hr ZaF)) Zay Zau rfl),(ng Y8 Zh Zi iA Zau Zm0),ZhZ]] (
   Zxz))))),?_⟩
  try dsimp only[cxK,cxK']
  obtain⟨xs,hp⟩:=hf.hd;refine ZBr
  cases f with
  | pl f =>
   rw[OE];refine ZBq;rw[OG];exact ZaNV
  | name w =>
   rw[VN];refine ZBq;rw[VO];exact ZaNV
  | back f =>
   obtain⟨q,e1,e2⟩:ak:=hf;rw[OB];exact aR ⟨_,rfl,p,_,1,_,rfl,rfl,Zg7,rfl,#[uk,1],#[aqd,[q],(ZaD (e2.mono #[aqY,hl]) Zao)]⟩
  | row fs =>
   obtain⟨t,as,e1,e2,fl,pr⟩:cg:=hf;have al:=ZoG;rw[OH];refine ZBk;rw[#[c2,#[AX,#[uh,ZaH,ZaH]],ZrN]];refine aG #[nU,ZLq];have s1:=Zawe;refine ZaS7
   refine uO (K:=K) (a:=t) (xs:=ZpZ) #[gs,∃ (v:ZgG)(bs:Zcr)(gs:Zcf),σ=[ZdZ,ZjO,v]/\Zij/\HK l=Zab ZFe/\Za3 (dy n HK) bs gs/\gs=#[afe,0].foldl Zi' []/\ZhP<=i]
    ⟨Zac,[],[],rfl,s1,ac,Zao,rfl,Zbs⟩ #[qo,#[aaS,s2],Zayb] ?_ ?_
   ·intro i y σ HK hi a_;obtain⟨v,bs,gs,rfl,s2,m_,pg,eg,gl⟩:kJ:=a_
    obtain⟨b,hb,rfl⟩:ak:=Zdd;have hil:=Zati;refine #[adf,pr,hb,fun g hg hB0=>?_];have hB:dy n HK b g:=#[qO,hB0.mono,#[eV,z]];have bl:=Yx pg
    have rdP:#[aN7,bs,Zmv,ZmF]:=by
     clear eg gl bl m_
     induction pg with
     | nil=>exact Zao
     | cons a _ ih=>exact ZaOd
    have es:(Zafd (i+1)).foldl Zi' []=Zi' gs g:=by rw[YG,hg,YE,aQa,eg];rfl
    refine⟨_,rfl,_,rfl,l,bs,g.dt,Zmv ZmF,rfl,#[lv,m_],ZpO hB.rd Zag,rdP,fun kb hkb=>Zhi⟩;have hkb:ZSJ↔g∈gs:=hkb.trans #[Ul,by refine ak (ZeB z) fun u hu e=>?_;rw[Zauv]at hu;exact hu,Zk (f:=ZmF) z]
    cases kb with
    | true =>
     refine aG ⟨_,bs,gs,rfl,s2,m_,pg,?_,Zag⟩;rw[es];unfold likeStep;rw[Yb (hkb.mp rfl)]
    | false =>
     refine aR #[B',m_,l,m_,#[hJ,X7]]
     have up:∀ c xs,HK c=Zab ZeQ->#[aQ,HK,l,#[jr,ZiG ZaS,ZC0],c,ZeQ]:=fun c xs e=>by rw[ah (fun z=>by rw[z,m_]at e;cases e)];exact e
     refine ⟨_,bs++[b],gs++[g],rfl,ZaBJ,(ZN7),(cJ #[ra,pg,z.mono up] (ZaD (hB.mono up) Zao)),?_,#[DU,Yr,YW]⟩;rw[es];unfold likeStep;rw[X8 (fun z=>by have:=hkb.mpr z;cases this)]
   intro σ HK a_;obtain⟨v,bs,gs,rfl,s2,m_,pg,eg,gl⟩:kJ:=a_;rw[X7,al,YJ]at eg;subst eg;exact#[c9,k l bs HK hl s2 m_ pg]
def wA (F:#[am,ZLs,ZLs,jm]) : #[dD,[Zd5],NZ]:=by
 refine #[agK,ni]
 ·obtain⟨p,f,rfl,_⟩:=h
  rfl
 ·obtain⟨p,f,rfl,hf,ok,k⟩:=h
  refine ⟨_,(af Zaw1 (
   af Zaw1 (
   af (bZ 1 ni.nd #[ad0,(dv ZBa)]) (
   af #[Bb,(d7 Qd (d7 Ea Zau ZayU) ZcT)] (
   #[ej,#[adX,Kq,T.bmax,PyProof.Rows.boot_max,(fW ZayU ZcT)]]))))),?_⟩
  try dsimp only[cxK,cxK']
  obtain⟨xs,hp⟩:=hf.hd;refine ZBr;have o1:=ok.1;have o2:=ZS8
  cases f with
  | pair a b =>
   rw[ZaG'];exact aR k
  | quad a b c d =>
   rw[ZtH];refine ZBq;rw[#[qT,#[eh,(b9.quad a b c d).word,Zf9]]];exact aR k
  | line g =>
   obtain⟨q,e1,e2⟩:ak:=hf;have g0:Zr6:=o1;rw[ZtH];refine ZBk;rw[ZtH];refine Zabs;rw[ZtH];refine ZaTn
   have e:#[n0,ZfB>ZaAa,ZfB,ZaAa,((ZafL g).row.length:Nat)]:=by
    show #[n0,ZfB>ZKQ,ZfB,ZKQ,(#[p8,g.zip,ZgZ,1]:Nat)]
    rw[X7,List.length_zip,YH,ZS9]
    lia
   rw[e];exact k
  | star g =>
   obtain⟨q,e1,e2⟩:ak:=hf;have g0:Zr6:=o1;rw[ZtH];refine ZBk;rw[ZtH];refine Zabs;rw[ZtH];refine ZaTn
   have e:#[n0,ZfB>ZaAb,ZfB,ZaAb,((ZafM g).row.length:Nat)]:=by
    show #[n0,ZfB>ZKQ,ZfB,ZKQ,(#[a0,Zvx,ZawM]:Nat)]
    rw[X7,X7,YH,ZS9]
    lia
   rw[e];exact k
  | all g =>
   obtain⟨q,e1,e2⟩:ak:=hf;have g0:Zr6:=o1;have g1:ZoN:=o2;rw[ZtH];refine ZBk;rw[ZtH];refine Zabs;rw[ZaIF];have lm:#[qq,(b9.all g).gs.map]=ZeD:=X7 ..;rw[lm];refine aR ⟨_,rfl,_,rfl,_,_,rfl,rfl,_,_,rfl,rfl,ZaFW,_,_,rfl,rfl,Zaiu,?_⟩
   have e:ZaI9/2=Zaq3:=by
    have h:=zE g
    have h2:#[a1,2*ZDa]=#[a1,ZeD*(ZeD-1)]:=#[gT,h]
    rw[Int.natCast_mul,Int.natCast_mul,#[cQ,Int.natCast_sub]]at h2;have h3:ZaI9=2*Zaq3:=h2.symm;rw[h3]
    lia
   rw[e];exact k
def By (F:#[am,ZLt,ZLt,hW])[146] : #[cS,3,[Zd5],N0]:=by
 refine #[agK,sN]
 ·obtain⟨p,f,rfl,_⟩:=h
  rfl
 ·obtain⟨p,f,rfl,hf,ok,k⟩:=h
  have two:Zpm:=ZaC
  refine ⟨_,(af #[Bb,#[se,#[h7,ZBa,ZBa]]] (
   af (bZ 1 sN.nd ZBa) (
   af #[Bb,(Gf rfl (fW Zau ZaCJ) ZadW ZafI ZadW T.zip)] (
   af #[Bb,(#[gn,iJ,ai hW,oA,Zazk,#[vu,1],Dg,(Au ZaCJ),#[ag8,Zazk,#[h7,#[Ms,(Ju K)],Zap]]])] (
   af #[Bb,(#[gn,No,ai hW,oA,ZHQ,[Zac,Zac,Zac,Zab 1],Dg,(Nw ZadW Za1q ZmZ),#[ng,jq (#[aSX,ZHQ,ZHQ]) fS (Qp K (iL (QP K) Zbl (gH (d7 kP Zap ZcT)) vh)) #[ag7,2,ZHQ] fS ZazP]])] (
   #[ej,(bC p_ Zbk rfl Ap #[kO,ZMt,ZMt,#[kP,ZMt,ZMt]])])))))),?_⟩
  try dsimp only[cxK,cxK']
  obtain⟨xs,hp⟩:=hf.hd;refine ZBr;have o1:=ok.1;have o2:=ZS8
  cases f with
  | pair a b =>
   have hp:ZauZ:=hf;rw[ZaG'];refine aR ⟨_,rfl,p,_,1,_,rfl,rfl,ZBp,rfl,_,rfl,p,_,2,_,rfl,rfl,ZBp,rfl,two,#[mA,#[ul,1,ZLq]]⟩;have s1:=#[fk,ZGQ,ht];exact k l _ ZVO #[rb,hl] #[hc,[t],ZaD (ag hl _ _ ac) Zao]
  | line g =>
   obtain⟨q,e1,e2⟩:ak:=hf;have e2:ZWP:=e2;have g0:Zr6:=o1;have g1:ZoN:=o2;rw[ZtH];refine ZIj;rw[#[qT,#[eh,(ZafL g).word,Zdx]]];refine aR ⟨_,rfl,_,rfl,_,rfl,ZaOz⟩;rw[Mg,<-List.map_drop];have s1:=ZaCH;refine ⟨q,r,_,_,rfl,ZaoI,Zc7 ac,(#[Yu,YH]),#[DU,X7,YH],(fun l ts H' hl s2 m_ pr=>?_)⟩;rw[OP]at pr;exact k l H' ZVO ZGK #[bm,ts,m_,vg (f:=fun p:Zhq=>ZayP) (R:=fun t p=>Zax0) pr]
  | star g =>
   obtain⟨q,e1,e2⟩:ak:=hf;have e2:ZWP:=e2;have g0:Zr6:=o1;have g1:ZoN:=o2;rw[ZtH];refine ZIj;rw[ZtH];refine ZBk;rw[#[qT,#[eh,(ZafM g).word,Zf8]]];refine aR #[hm,ZaOz];rw[Mg,<-List.map_drop];have s1:=ZaCH;have hr2:#[aQ,H,r,ZUx,r,ZUx]:=ac;generalize upd H r ZUx=H1 at s1 hr2 ⊢;refine #[c_,r,#[a7,Zc7 hr2],(ZLq)]
   have dl:#[a0,ZgZ,1]<=60:=Zaq5
   refine uO (K:=K) (a:=r) (xs:=Zvx Zaw) #[gs,#[Ed,σ=[v,Zwa]/\ZxD/\fU HK l (((ZgZ 1).take i).map ZawM)]]
    #[c_,Zac,Zxt,ZHr] #[VR,hr2] ?_ ?_
   ·intro i y σ HK hi a_;obtain⟨v,rfl,s2,row⟩:az:=a_
    obtain⟨o,ho,rfl⟩:ak:=Zdd;obtain⟨as,m_,pr⟩:=row;have al:=ZoG;rw[X7,YL]at al
    obtain⟨x0,gt,rfl⟩:∃ x0 gt,g=x0::gt:=by
     cases g with
     | nil=>simp at g0
     | cons x0 gt=>exact #[eM,x0,gt]
    refine iS ⟨_,rfl,q,_,0,_,rfl,rfl,#[nz,s2,(s1 _ _ e2)],Zjm,_,rfl,two,ZmB⟩;have st:=#[fk,#[bP,x0,o],ht];refine #[DD,(st _ _ m_),Zazz,cw (Zje st) hl];have:=Gn (a:=x0) (b:=o) m_ pr ht;rw[YG,ho,YE,Yu];exact this
   intro σ HK a_;obtain⟨v,rfl,s2,row⟩:az:=a_;rw[X7,YJ]at row;exact k l HK ZVO ZGK row
  | all g =>
   obtain⟨q,e1,e2⟩:ak:=hf;have e2:ZWP:=e2;have g0:Zr6:=o1;have g1:ZoN:=o2;have rl:=b9.rl ok;have rl:Zauc:=rl;rw[ZtH];refine ZIj;rw[ZtH];refine ZBk;rw[ZtH];refine ZBk;rw[ZaIF];refine aR #[bw,q,#[a7,Zw7],ZLq]
   refine KL (K:=K) (a:=q) (xs:=ZKP Zaw) #[gs,∃ (v0 v1 v2:ZgG)(ps:ZdS),σ=[v0,v1,v2,Zwa]/\Zij/\fU HK l ps/\ps++uD (ZgZ i)=uD g]
    ⟨Zac,Zac,Zac,[],rfl,Zxt,ZHr,rfl⟩ #[qo,⟨_,_,_,_,_,s2,_⟩,Zayb] ?_ ?_
   ·intro i y σ HK T hi a_ hT;obtain⟨v0,v1,v2,ps,rfl,s2,row,ep⟩:vO:=a_
    obtain⟨x,hx,rfl⟩:ak:=Zdd;have hil:=Zw_;have sT:=#[fk,#[bP,Zh3,x],hT];have hTT:#[aQ,HK,T,ZaIs,T,ZaIs]:=ac;have row:=ZafN sT;have s2:=Zje sT;generalize #[gq,HK,T,#[bP,Zh3,x]]=HK at hTT row s2 ⊢;refine ZaBM
    have ed:ZgZ i=x::ZgZ (i+1):=#[b1,aQc hil,(Zpb hx).2]
    rw[ed]at ep;have ep:ps++(ZaiF (#[oc,x])++uD (ZgZ Zcz))=uD g:=ep;have epl:=#[xL,ep];rw[Yr,Yr,X7]at epl;have ei:(Zh3+1)=ZOT:=rfl;refine Ow ⟨_,rfl,_,rfl,_,_,rfl,rfl,_,rfl,#[aqv,(s2 _ _ e2),Zcz,(Za1r _)]⟩;rw[ei,Mh,<-List.map_drop];have s3:=#[apM,ZaiF];have hr2:#[aQ,HK,r,ZaiG,r,ZaiG]:=ac;have row:=ZafN s3;have s3:=Zaxc
    have nrl:r≠l:=fun z=>by
     obtain⟨as,m_,_⟩:=row;rw[<-z,hr2]at m_;cases m_
    generalize upd HK r ZaiG=H3 at row s3 hr2 ⊢;clear s2 hTT hr1;refine #[c_,r,#[a7,Zc7 hr2],?_]
    refine uO (K:=K) (a:=r) (xs:=ZaiF Zaw) (fun j σ H4=>#[Ed,σ=[#[cV,Zh3],#[cV,x],v,Zwa]/\(#[p2,H3,b≠l,#[a4,H4]])/\fU H4 l (ps++(#[aiE,0].take j).map #[oc,x])])
     #[c',ZXj,(by simpa using row)] (fun j σ H4 _ #[ce,_,s4,_]=>Zc7 (s4 _ _ hr2 nrl)) ?_ ?_
    ·intro j y σ H4 hj a_;obtain⟨v,rfl,s4,ak1⟩:az:=a_
     obtain⟨o,ho,rfl⟩:ak:=Zxv;obtain⟨as,hl4,pr⟩:ak:=ak1;have al:=ZoG;rw[Yr,X7,YL]at al;refine iS Zawy;have st:=#[fk,#[bP,x,o],ht];refine #[DD,(st _ _ hl4),(by rw[X7];have sl:Zpk:=Y6;lia),#[K2,?_]]
     ·rw[Zlk];exact st _ _ (s4 b u e n)
     ·have:=Gn (a:=x) (b:=o) hl4 pr ht
      rw[YG,ho,YE,Yu,<-ZW];exact this
    intro σ H4 a_;obtain⟨v,rfl,s4,ak1⟩:az:=a_;rw[X7,YJ]at ak1;exact ⟨_,_,_,_,rfl,(fun b u e=>s4 b u (s3 b u e) (fun z=>by rw[z,hl]at e;cases e)),ak1,#[aX,ZW,ep]⟩
   intro σ HK a_;obtain⟨v0,v1,v2,ps,rfl,s2,row,ep⟩:vO:=a_;rw[X7,List.drop_length]at ep;have ep:ps++[]=uD g:=ep;rw[Zd]at ep;rw[ep]at row;exact ZaKl
  | quad a b c d =>
   obtain⟨q,e1,e2⟩:ak:=hf;have e2:#[C_,#[CP,0].map]:=e2;rw[ZtH];refine ZIj;rw[ZtH];refine ZBk;rw[ZtH];refine ZBk;rw[ZtH];exact aG ⟨_,rfl,q,_,0,_,rfl,rfl,Zw7,rfl,_,rfl,q,_,1,_,rfl,rfl,Zw7,rfl,_,rfl,q,_,2,_,rfl,rfl,Zw7,rfl,_,rfl,q,_,3,_,rfl,rfl,Zw7,rfl,a,b,c,d,rfl,fun _ l H' hl s1 r1=>k l H' hl s1 r1,fun nn=>#[dg,(ok.2.2 a b c d rfl),nn]⟩
def tK (F:#[w1,Za1t,ir]) : #[dD,Zjc,(Ey cb)]:=by
 refine #[agK,tR]
 ·obtain⟨b,dx,rfl,_⟩:=h
  rfl
 ·obtain⟨b,dx,rfl,hb,k⟩:=h
  refine ⟨_,af Zaxa (
   af Zaxa (
   ae (iq Zap (iK) rfl))),?_⟩
  try dsimp only[cxK,cxK']
  intro d1 h1;have n1:b≠d1:=ao hb h1;refine#[aSm,b,cb,hb,ZcM,ZafO];intro d2 h2
  have n2:b≠d2:=fun z=>by rw[<-z,ac]at h2;cases h2
  refine⟨_,rfl,b,cb,dx,_,rfl,#[qV,n2],ZcM,ZLu,#[PA,1],?_⟩;intro d3 h3
  have n3:b≠d3:=fun z=>by rw[<-z,ac]at h3;cases h3
  refine⟨_,rfl,b,cb,dx,_,rfl,#[qV,n3],ZcM,ZafP,(#[Ec,RZ,2]),?_⟩;rw[Fc]
  have F_:upd H d1 ZrS d2=Zac:=by rw[Zxc]at h2;exact h2
  have h3':upd ZU' d2 ZrS d3=Zac:=by
   rw[ZrT]at h3
   by_cases z:d3=d2
   ·rw[z,ac]at h3;cases h3
   ·rw[ZlC,ZrT]at h3;rw[ZlC];exact h3
  have s1:=#[GO,h1];have s2:=#[GO,F_];have s3:=#[GO,h3']
  have keep:#[l1,#[aQ,(upd ZU' d2 (.dK [])),d3,ZrS,a,o]->Zj8->#[aQ,(upd (upd (upd (upd ZU' b (Zde cb dx (dE Zi9 #[ak,d1] []))) d2 (.dK [])) b (Zde cb dx (dE ZhT #[ak,d2] (dE Zi9 #[ak,d1] [])))) d3 (.dK [])),b,(Zde cb dx #[amV,d1,d2,d3]),a,o]]:=fun a o e n=>by
   rw[Zlk]
   by_cases z3:a=d3
   ·rw[z3,ac]at e ⊢;exact e
   ·rw[ah z3]at e ⊢
    rw[Zlk]
    by_cases z2:a=d2
    ·rw[z2,ac]at e ⊢;exact e
    ·rw[ah z2]at e ⊢
     rw[Zlk];exact e
  have d12:d1≠d2:=fun z=>by rw[<-z,ac]at F_;cases F_
  have d13:d1≠d3:=fun z=>by rw[<-z,#[eV,ac]]at h3';cases h3'
  have d23:d2≠d3:=fun z=>by rw[<-z,ac]at h3';cases h3'
  refine k ⟨dx,d1,d2,d3⟩ _ (#[aEe,Zcs,(s3 _ _ ZayA)]) ⟨ac,Zcs d1 _ (s3 _ _ #[gw,s2]) (Yz n1),Zcs d2 _ #[gw,s3] (Yz n2),Zcs d3 _ ac (Yz n3),(fun e he=>nomatch he),(fun e he=>nomatch he),Zl,Zdb,d12,d13,d23⟩ h1 #[qQ,F_] (#[GK,0].free h3')
def qy (F:#[am,ZafQ,Za1u,gz])[239][22] : #[cP,14,ZHq,ZaRf]:=by
 refine #[agL,qN]
 ·obtain⟨b,p,A,bs,w,f,rfl,_⟩:=h
  rfl
 ·obtain⟨b,p,A,bs,w,f,rfl,B,hf,asc,wl,bl,kd0,kd1,kd2,kd3⟩:=h
  have hu:=ZaU;have sl:Zpk:=Y6
  refine ⟨_,(af #[zA,#[n8,(fm iD ZafD rfl ZmZ)],UO.eB,UO.mB] (
   af #[aGH,Zaza,UO.eT,UO.mT,ZatP] (
   af #[aOm,Zm0] (
   af ZaAN (
   af #[RF,(bz g_ Zap ZcM ZafD dw Zm0)] (
   ae (aN #[eH,Am,Zaml,ZaxC] (ae #[RF,(bz f_ Zap ZcM ZafD dw Zm0)]) ZhZ))))))),?_⟩
  try dsimp only[cxK,cxK']
  have nC:ZVu:=ZMF;have nL:ZVv:=ZMF;have nR:ZVw:=ZMF;refine⟨_,rfl,w,rfl,asc,Zaf,ZSs⟩;unfold defO at kd0 kd1 kd2 kd3
  cases nm:zw w with
  | false =>
   refine ZfF;exact kd1 (#[gT,Yb nm]) H1 s1
  | true =>
   rw[#[asp,nm]]at kd0 kd1 kd2 kd3;have B1:=ZafT
   have g1:fq H1 Zea Zoj (#[Ro,0].map ZaDG):=#[HB,B1.f1]
   refine aG #[aSN,B1.ob]
   cases e:ZoW with
   | some x =>
    have hm:w∈bs.map (·.w):=Zms ⟨x,ZXB,(m5 e).2⟩;exact aR #[c',ZaF,#[bw,w,Zaf,#[ahR,kd2 (#[gT,ZwP]) H1 s1]]]
   | none =>
    have hm:=m4.mp e;rw[ZlA]at kd0 kd2 kd3;have hf1:ZaAO:=ZaGJ;refine aG #[sw,B1.ob,nC,p,f,B1,hf1,fun kn H2 s2=>?_,fun kn H2 s2=>kd3 #[os,X8 kn] H2 (ZeF s2)];rw[Yb kn]at kd0;have B2:=Zaux;have hf2:ZaAP:=Zaz8;have y_:=Zj6
    have e1:nO H2 Zea Zoj Zh' (upd H2 Zea Zal9):=by
     have q:=#[Z7,ZaS p,B2.f1]
     rwa [Zayx]at q
    refine#[aqy,ZAI,_,rfl,Zea,_,rfl,e1];generalize h3:upd H2 Zea Zal9=H3
    have n3:ND H2 H3:=#[dM,h3,Hz B2.f1]
    have k3:#[l1,#[h6,H2]->ZUz->#[h6,H3]]:=#[aEg,h3]
    have f31:H3 Zea=Zab Zal9:=by rw[<-h3,ac]
    clear h3
    have ob3:=n3 _ _ B2.ob fun _ q=>nomatch q
    refine#[sw,ob3,nL,p,f,⟨ob3,k3 _ _ B2.f2 (Yz B.d12)⟩,ZLv n3,kn,fun H4 s4=>?_];have n4:=n3.trans (Rh s4);have ob4:=s4 _ _ ob3;have f42:=s4 _ _ (k3 _ _ B2.f2 (Yz B.d12))
    have e2:nO H4 Zeb Zoj ZaGX (upd H4 Zeb Zanu):=by
     have q:=#[Z7,Zant,f42]
     rwa [Zayx]at q
    refine#[aRP,ob4,ZLu,GW,Zeb,e2];generalize h5:upd H4 Zeb Zanu=H5;have n5:ND H2 H5:=#[go,n4.trans,h5,Hz f42]
    have k5:#[l1,#[h6,H4]->ZUA->ZauG]:=#[aEg,h5]
    have f52:H5 Zeb=Zab Zanu:=by rw[<-h5,ac]
    clear h5
    have ob5:=n5 _ _ B2.ob fun _ q=>nomatch q
    have f51:=#[YL,f31,B.d12];have f53:=#[YL,(k3 _ _ B2.f3 (Yz B.d13)),(Yz B.d23)]
    have g5:fq H5 Zeb Zoj (Zab (Zae (ZAJ (qh bs)))):=by
     have q:=#[h_,Zqf,f52]
     rwa [#[hf,CU,ZaoZ],Zav]at q
    refine⟨_,rfl,b,cb,Zex,_,_,rfl,ob5,ZcM,ZLu,GW,_,rfl,Zeb,_,rfl,g5,_,_,rfl,rfl,_,rfl,?_⟩;have kd0:=kd0 rfl;have kp:#[l1,ZlI->ZUz->ZUA->ZauG]:=fun a o z m1 m2=>#[YL,(k3 _ _ (y_ _ _ z) m1),m2]
    by_cases c:ZAL
    ·rw[#[ue,ZEG,Zcc]]
     have BR:Ui cb H5 b A bs:=⟨ob5,f53,#[Sp,#[aw9,0].1.nd n5,Zaw9],B.nd⟩;refine aR #[aT4,ob5,BR,ZLv n5,c,fun l H6 hl s6 row=>?_];have f63:=s6 _ _ f53;have lf:(#[a0,ZKV,jI])<=Zkv:=ZB ..
     have vn:d6 (ZKW #[bN,ZRa]) ZauK=Zac:=by
      rw[ka,m4.mpr (Zlp)]
      ·rfl
      ·refine ak (ZeB z) fun u hu eu=>?_
       exact hm (Zms ⟨u,(Zl3 hu).1,eu⟩)
     have e3:nO H6 Zg0 Zoj Zef ZaPd:=by
      have q:=#[Z7,ZaS l,f63]
      rwa [qL _ vn]at q
     refine#[aRP,s6 _ _ ob5,ZafP,Mb,Zg0,e3];have n7:ND H6 ZaPd:=Hz f63;have n7':=(n5.trans (Rh s6)).trans n7;refine #[aTH,ZaFS,l,ZoI,fun a o z m1 m2 m3=>#[eR,m3,s6 _ _ (kp a o z m1 m2)]];refine Ja B2 n7' hm #[oh,B.d13,s6 _ _ f51] #[oh,B.d23,s6 _ _ f52] (by rw[ac];show Zab (ZKY (_++_))=Zab ZaCz;rw[ZrC]) (ZLv n7') #[g5,⟨row.nd n7,ZKX (ZaEd) f kn c⟩] bl
    ·rw[#[iZ,ZEG<=Zcc]]
     refine aG (#[aTH,[],p,ZaE',fun a o z m1 m2 _=>kp a o z m1 m2]);exact Ja B2 n5 hm f51 f52 (by rw[f53];show #[rt,ZKY]=Zab ZaCz;rw[Zrx,Zd]) (ZLv n5) ZaE' bl
def tL (F:#[am,ZIq,Za1v,iu]) : #[cP,2,ZEM,ZaGh]:=by
 refine #[agL,tS]
 ·obtain⟨b,A,bs,w,rfl,_⟩:=h
  rfl
 ·obtain⟨b,A,bs,w,rfl,B,wl,k1,k2⟩:=h
  have hu:=ZaU
  refine ⟨_,(af #[jl,ZaoO,#[zz,UO.eU,UO.mU,#[fx,aB,ZatP,gj]]] (
   Zamm)),?_⟩
  try dsimp only[cxK,cxK']
  have g1:#[aHA,Zea,ZaDG]:=#[HB,B.f1]
  refine#[aSN,Zja]
  cases e:ZoW with
  | none =>
   exact aR #[c',ZaF,#[bw,w,Zaf,#[Z2,#[bx,k2 e H Zg6]]]]
  | some x =>
   rw[e]at g1;exact aG ⟨_,rfl,b,cb,Zex,_,_,rfl,Zja,ZcM,ZafO,Dc,_,rfl,Zea,_,rfl,g1,k1 x e⟩
def qC (F:#[am,ZafR,Za1w,gB])[22] : #[cP,14,ZkL,ZaH8]:=by
 refine #[agL,qP]
 ·obtain⟨b,p,A,bs,f,rfl,_⟩:=h
  rfl
 ·obtain⟨b,p,A,bs,f,rfl,B,hf,k1,k2,k3⟩:=h
  refine ⟨_,(af #[aOm,ZmZ] (
   af #[aGH,#[eH,Ri,(bz g_ Zap ZcM ZafD dw ZmZ),ZaxC],UO.eL,UO.mL,(dP (jy ZadW UO.mp))] (
   #[ej,(bz f_ Zap ZcM ZafD dw ZmZ)]))),?_⟩
  try dsimp only[cxK,cxK']
  have nC:ZVu:=ZMF;have nL:ZVv:=ZMF;have nR:ZVw:=ZMF;refine#[sw,Zja,nC,p,f,B,hf,fun kn H1 s1=>?_,k1];have B1:=ZafT;have hf1:ZaAO:=ZaGJ;refine#[sw,B1.ob,nL,p,f,B1.l,hf1,kn,fun H2 s2=>?_];have B2:=Zaux;have hf2:ZaAP:=Zaz8;have y_:=Zj6;refine Zaba
  by_cases lg:ZaA4
  ·rw[#[atd,Zcc,ZEG]]
   exact aR (dC _ rfl ZaF Zcc rfl ⟨ZaA,#[ahR,k2 kn lg H2 y_]⟩)
  ·rw[#[iZ,(Zcc:Int)<ZEG]]
   exact aG #[aT4,ZAI,B2.r,hf2,Zaf,fun l H3 hl s3 r=>k3 kn Zag l H3 (y_.free hl) (ZAH s3) r]
def lI (F:#[am,ZAM,Za1x,d9])[192][141][448](d_:#[aB3,ZFX,ZaMA]):#[cP,(n+3+1),ZkL,(CL cb cU ZdE)]:=by
 refine #[agL,gO]
 ·obtain⟨b,p,A,bs,f,rfl,_⟩:=h
  rfl
 ·obtain⟨b,p,A,bs,f,rfl,B,hf,k1,k2⟩:=h
  refine ⟨_,(af (aN ZMw (ae (ax (bz k_ Zap ZcM ZafD aA ZMv))) ZhZ) (
   ae (iM Zx rfl ZaGO (iW 2 gO.nd) #[dq,(bz d_ Zap ZcM ZafD aA Zm0)]))),?_⟩
  try dsimp only[cxK,cxK']
  obtain⟨xs,hp⟩:=hf.hd;refine ZBr;have nT:#[Cb,ZIq]:=ZMF;have nC:ZVu:=ZMF
  apply TK (fun σ HH=>HH=H/\σ=[ZEO,ZdZ,Zac]/\∀ w,ZapY->Zhk)
  ·intro rest
   cases f with
   | name w =>
    rw[OD];obtain⟨e1,wl⟩:=hf;refine aR ⟨_,rfl,b,Zex,_,rfl,Zja,nT,_,rfl,p,_,1,_,rfl,rfl,Zg7,rfl,b,A,bs,w,rfl,B,Zaf,Zaq6,fun he HX sX=>k2 #[bx,m4.mp he (kL.mp z)] HX sX⟩;exact Ze7 _ _ #[qh,rfl,#[A8,kL.mpr (Zms ⟨e,(m5 he).1,(m5 he).2⟩)]]
   | pl f=>rw[OF];exact aG (rest _ _ ⟨rfl,rfl,(fun w z=>by cases z)⟩)
   | back f=>rw[OC];exact aG (rest _ _ ⟨rfl,rfl,(fun w z=>by cases z)⟩)
   | row fs=>rw[OI];exact aG (rest _ _ ⟨rfl,rfl,(fun w z=>by cases z)⟩)
  intro σ HH a_;obtain⟨rfl,rfl,cj4⟩:fz:=a_;refine#[aPB,f,hf,fun l as H1 hl s1 u_ pr=>#[lG,l,u_,?_]];have al:=ZoG
  refine de (K:=K) (a:=l) (xs:=ZpZ) #[gs,#[iB,[ZEO,ZdZ,v],ZxD,∀ u∈f.inner.take i,ZUN]]
   #[aFK,#[Kt,by simp at hu]] ZayW ?_ ?_
  ·intro i y σ HK hi a_;obtain⟨v,rfl,s2,kn⟩:az:=a_
   obtain⟨a,ha,rfl⟩:ak:=Zdd;refine ZaCc;have y_:=Zj6;have B2:=ZaC4;refine#[sw,ZAI,nC,a,u,B2,ZaEs,fun ku H3 s3=>?_,fun nk H3 s3=>?_]
   ·refine #[c',Zaxc,Zly]
    rw[YG,hu,YE]at hx;rcases Zr1 with z | z
    ·exact kn x z
    ·rw[ZdO];exact ku
   ·refine k2 #[bx,nk ?_] H3 (ZAH s3)
    by_cases q:ZarE
    ·obtain⟨w,rfl⟩:=q
     cases (show #[ah,Zas6[i]?,u] from hu)
    ·exact (xG (ZaO5)).mp z u (Yy hu)
  intro σ HK a_;obtain⟨v,rfl,s2,kn⟩:az:=a_;rw[X7,al,YJ]at kn;refine k1 ?_ HK (ZeF s2)
  by_cases q:ZarE
  ·obtain⟨w,e⟩:=q
   exact cj4 w e
  ·exact (xG (ZaO5)).mpr kn
def qA (F:#[am,ZtR,Za1y,eW])[192](ky:#[oR,ZLs,Zd5,NZ])[448](g_:#[aAf,ZFX,(wL cb n)]):#[cS,(n+3+1),ZkL,(wL cb ZdE)]:=by
 refine #[agK,qO]
 ·obtain⟨b,p,A,bs,f,rfl,_⟩:=h
  rfl
 ·obtain⟨b,p,A,bs,f,rfl,B,hf,kn,k⟩:=h
  have hu:=ZaU;have sl:Zpk:=Y6
  refine ⟨_,(af #[Mu,Zayp] (
   af #[Mu,(bz g_ Zap ZcM ZafD dw ZMv)] (
   af #[Mu,#[adX,Kt,T.sum,PyProof.Rows.boot_sum,(dv (#[gn,iJ,ai eW,jQ,ZaKM,#[HR,0,1],Dg,ZaGO,#[ag8,ZaKM,(d7 Ea (Tq K 18 (Ra hr ZaF) #[A',(Ju K),Zay] Zap) (bz g_ Zau ZcM ZafD dw Zm1))]]))]] (
   #[ej,(fm ky ZafD rfl ZmZ)])))),?_⟩
  try dsimp only[cxK,cxK']
  obtain⟨xs,hp⟩:=hf.hd;have nL:ZVv:=ZMF;refine ZBr
  cases f with
  | name w =>
   rw[OD];obtain⟨e1,wl⟩:=hf
   have g1:#[aHA,Zeb,#[bN,Zaw e.n]]:=#[HB,B.f2]
   cases e:ZoW with
   | none=>exact ZaCy
   | some x =>
    rw[e]at g1;refine aR ⟨_,rfl,b,cb,Zex,_,_,rfl,Zja,ZcM,ZLu,GW,_,rfl,p,_,1,_,rfl,rfl,Zg7,rfl,Zeb,_,rfl,g1,?_⟩;have:=k H Zg6;rw[ba.len,show ZaJ_ by unfold qh;rw[e]]at this;exact this
  | pl f =>
   rw[OF];refine ZBq;rw[OE];refine ZBq;rw[OG];have:=k H Zg6;rw[ba.len]at this;exact #[aS0,Zbu]
  | back f =>
   rw[OC];refine ZBq;rw[OB];obtain⟨q,e1,e2⟩:ak:=hf;rw[ba.len]at k;exact aR ⟨_,rfl,b,Zex,_,rfl,Zja,nL,_,rfl,p,_,1,_,rfl,rfl,Zg7,rfl,b,q,A,bs,f,rfl,B,e2,ZaAV,k⟩
  | row fs =>
   rw[OI];refine ZBq;rw[OH];refine ZBq;rw[Rw];have hf0:=hf;obtain⟨t,as,e1,e2,fl,pr⟩:cg:=hf;have al:=ZoG;refine aR #[aPB,ZpN,hf0,fun l us H1 hl s1 u_ pu=>#[lG,l,u_,ZqP]];have pu:#[gj,(dy n H1),us,ZpP,fs]:=pu;have ul:=Yx pu;have B1:=ZafT;have olen:#[a0,ZpP,fs]<=100:=YU (Nc fs) fl
   refine de (K:=K) (a:=l) (xs:=ZtK ZaS) #[gs,#[iB,[v,ZEO,ZdZ],ZxD,#[iy,#[mU,(#[avy,0].take i).map,fun u=>#[a1,ZXW*u.len (qh bs)]]]]]
    ZxU ZayW ?_ ?_
   ·intro i y σ HK hi a_;obtain⟨v,rfl,s2,C_⟩:az:=a_
    obtain⟨a,ha,rfl⟩:ak:=Zdd;refine #[aoK,pu];have y_:=Zj6;have B2:=ZaC4;have e2':=y_ _ _ e2;have prd:#[aN7,as,ZhU,fs]:=dy.rds hn #[aB1,y_ _ _ y];have hA2:dy n HK a u:=#[qO,hA.mono,#[eV,z]];have ku:ZUN:=ro.mp kn u (vd.mp (Yy hu));refine iS ⟨_,rfl,p,_,1,_,rfl,rfl,#[nz,y_,e1],rfl,t,rfl,#[a7,e2'],_,rfl,as,u.dt,_,e2',ZpO hA2.rd Zag,prd,Zrs⟩;have hc:ZaPE:=R3 hc;have cle:=R1 fs u;refine#[sw,ZAI,nL,a,u,B2,hA2,ku,fun H3 s3=>?_];refine⟨_,_,rfl,rfl,ZaFW,_,#[gp,C_],#[Yu,YL],_,rfl,cw (Zje s3) hq,?_⟩;rw[ac,YG,hu,YE,Yu,Yu,hc,<-Int.natCast_mul];rfl
   intro σ HK a_;obtain⟨v,rfl,s2,C_⟩:az:=a_;rw[X7,ul,YJ]at C_;refine#[GV,q,C_,?_];have:=k HK (ZeF s2);rw[ba.len,FC,<-Pc,<-GB,Y7]at this;exact this
def qB (F:#[am,ZtS,Za1z,gA])(pW:#[oR,ZLr,ZaH,(Gy K)])(pV:#[eO,ZLt,3,[Zd5],N0])[448](f_:#[aAg,(n+4),(rD cb n)]):#[cS,(n+4+1),ZkL,(rD cb ZdE)]:=by
 refine #[agK,gy]
 ·obtain⟨b,p,A,bs,f,rfl,_⟩:=h
  rfl
 ·obtain⟨b,p,A,bs,f,rfl,B,hf,kn,lt,k⟩:=h
  have hu:=ZaU;have sl:Zpk:=Y6
  refine ⟨_,(af #[Mu,#[afJ,(dv Zayp)]] (
   af #[Mu,(fm pW ZafD rfl #[aQk,ZMv])] (
   af (aN ZMw (af (bZ 2 gy.nd Zhs) (
   af #[x1,(Au ZMt),(iW 3 gy.nd),#[dq,(ng Y8 Za1A Za1B Cw Zay #[aQk,Zm2])]] (
   ZOd))) ZhZ) (
   #[ej,(fm pV ZafD rfl ZmZ)])))),?_⟩
  try dsimp only[cxK,cxK']
  obtain⟨xs,hp⟩:=hf.hd;have nL:ZVw:=ZMF;have okr:Za4h:=ZaEd;refine ZBr
  cases f with
  | name w =>
   rw[OD];obtain⟨e1,wl⟩:=hf
   cases e:ZoW with
   | none=>exact ZaCy
   | some x =>
    rw[ba.len,show ZaJ_ by unfold qh;rw[e]]at lt
    have g1:fq H Zg0 Zoj (((AY (ZKV jI) w).map #[bN,ZaS e.l])):=#[HB,B.f3]
    rw[Km B.nd e lt]at g1;obtain⟨⟨as,hl,pr⟩,rl⟩:=B.rw x ZXB lt;refine aR ⟨_,rfl,b,cb,Zex,_,_,rfl,Zja,ZcM,ZafP,Mb,_,rfl,p,_,1,_,rfl,rfl,Zg7,rfl,Zg0,_,rfl,g1,x.l,_,rfl,#[lv,hl],fun l2 h2=>?_⟩;refine k l2 _ h2 (ag h2) ?_;rw[ba.rowF,show OV bs w=x.r by unfold OV;rw[e]];exact #[hc,as,#[ra,pr,ag h2 _ _ z]]
  | pl f =>
   rw[OF];refine ZBq;rw[OE];refine ZBq;rw[OG];rw[ba.rowF]at k;exact #[aS0,k]
  | back f =>
   rw[OC];refine ZBq;rw[OB];obtain⟨q,e1,e2⟩:ak:=hf;rw[ba.len]at lt;rw[ba.rowF]at k;refine aR ⟨_,rfl,b,Zex,_,rfl,Zja,nL,_,rfl,p,_,1,_,rfl,rfl,Zg7,rfl,b,q,A,bs,f,rfl,B,e2,ZaAV,lt,fun l H1 hl s1 row=>?_⟩;obtain⟨as,u_,pr⟩:=row;refine#[GV,l,u_,fun l2 h2=>k l2 _ #[qQ,h2] #[rb,h2] ?_];rw[<-List.map_reverse];exact #[hc,as.reverse,(qI (ZiU pr #[aqY,h2]))]
  | row fs =>
   rw[OI];refine ZBq;rw[OH];refine ZBq;rw[Rw];obtain⟨t,as,e1,e2,fl,pr⟩:cg:=hf;have al:=ZoG;rw[ba.len]at lt;rw[ba.rowF,AA]at k;have kn:=ro.mp kn;refine aR #[nU,ZLq];have s1:=Zawe;refine ZaS7
   refine uO (K:=K) (a:=t) (xs:=ZpZ) #[gs,#[iB,[ZEO,ZdZ,ZjO,v],Zij,fU HK l (#[afe,0].flatMap (Zae_ (OV bs)))]]
    #[c_,Zac,s1,ZHr] #[VR,e2] ?_ ?_
   ·intro i y σ HK hi a_;obtain⟨v,rfl,s2,row⟩:az:=a_
    obtain⟨a,ha,rfl⟩:ak:=Zdd;refine ZaCc;have um:=Yy hu;have ul:=JA (e:=qh bs) um;have B2:=ZafS s2;refine ak (id row) fun cs m_ pc=>?_;refine⟨_,rfl,#[B_,m_],_,rfl,b,Zex,_,rfl,ZAI,nL,_,rfl,b,a,A,bs,u,rfl,B2,ZaEs,kn u um,Zaf,fun l3 H3 hl3 s3 cz0=>?_⟩;obtain⟨ds,hl4,pd⟩:ak:=cz0;have cj9:=#[gp,m_];have rl1:=Yx pc;have rl2:=Yx pd
    have ck1:=ba.row_lenL okr Zafe #[DV,kn g (Zaea hg)] (by
     have:=ZaCN
     lia)
    rw[AA]at ck1;have len2:=ZKX okr u (kn u um) Zag;have lle:=ZaCN;refine⟨l,l3,_,_,rfl,rfl,cj9,hl4,#[po,X7,X7],?_⟩;refine #[rP,cw (Zje s3) hl];rw[YG,hu,YE,List.flatMap_append,List.flatMap_singleton,<-Yu]
    have up:∀ c xs,H3 c=Zab ZeQ->#[aQ,H3,l,#[nc,(cs++ds).map],c,ZeQ]:=fun c xs e=>by rw[ah (fun z=>by rw[z,cj9]at e;cases e)];exact e
    exact #[hc,cs++ds,(cJ #[ra,pc,up _ _ (s3 _ _ z)] (ZiU pd #[iM,up _ _ z]))]
   intro σ HK a_;obtain⟨v,rfl,s2,row⟩:az:=a_;rw[X7,al,YJ]at row;exact#[c9,ZaKl]
def qE (F:#[am,ZyW,ZyW,iR]) : #[dD,ZnT,J4]:=by
 refine #[agK,AJ]
 ·obtain⟨z,rfl,_⟩:=h
  rfl
 ·obtain⟨z,rfl,asc,len,k1,k2⟩:=h
  have hu:=ZaU
  refine ⟨_,(af #[Fa,(ZpV (JT (jc #[aOq,UO.md]) (Eg (jc (jd #[a1S,iR,sF,UO.dg])))))] (
   af #[Fa,(ZpV (Ih (ar bu #[A',MP,Zap] (aB) ZeG) (Ef #[xi,Zap])))] (
   #[ej,(dU Kn ZadW T.int PyProof.Rows.boot_int Zm1)]))),?_⟩
  try dsimp only[cxK,cxK']
  have sl:Zpk:=Y6
  have zl:Zpn:=Zaf
  have hz:ZaeG:=Zro
  have zz:#[wH,"0"]=[48]:=ZaA
  refine ZaTD
  by_cases h1:Zvp
  ·rw[Zax3]
   refine aR Zaba
   by_cases h2:Zuq
   ·rw[ZaFz]
    refine ZaPi;refine #[aTC,pF]
    ·refine ZaGw
     rw[R6];exact Zyt
    refine#[aRN,hq1]
    by_cases h3:ZaZu
    ·rw[show ZaCj id=Zad from YT.mpr fun b hb=>by obtain⟨c,hc,rfl⟩:ak:=ZFf;exact h3 c hc]
     obtain⟨c,l,R_⟩:∃ c l,Zmg=c::l:=by
      cases e:z.cps.toList with
      | nil=>rw[hz,e]at h1;exact #[C3,h1]
      | cons c l=>exact #[eM,c,l]
     refine aG ⟨_,rfl,z,_,c,rfl,rfl,zl,#[aW,R_,Zjm],rfl,_,rfl,?_⟩;rw[IJ,zz]
     show #[Lw,#[AX,[c]=[48]]]
     have fin:¬ (ZaBg/\Zmg≠[48])->ZuM:=fun h4=>(lS z).mpr ⟨h1,h2,h3,h4⟩
     by_cases h4:c=48
     ·rw[#[Tx,h4]]
      refine aR ZBd;rw[IJ,zz]
      by_cases h5:ZazX
      ·rw[Yc h5]
       obtain⟨ds,N⟩:=fin #[a9,q.2 h5];exact aG ZaRO
      ·rw[X9 h5]
       exact aR (k2 (#[tT,(ZvZ ZDy).2.2.2 ⟨#[cL,R_,h4],h5⟩]) H1 s1)
     ·rw[X9 (#[a9,h4 (Zaew q).1])]
      obtain⟨ds,N⟩:=fin #[a9,h4 (by have:=q.1;rw[R_]at this;exact Yk Zbu)];exact aG (aG ZaRO)
    ·rw[#[c2,ZaCj id=Zaz,Za0F #[a9,h3 #[pI,ZpQ q _ (Zk hc)]]]]
     exact aR (k2 (#[tT,h3 #[aEq,0].2.2.1]) H1 s1)
   ·rw[ZaGd]
    exact aR (k2 (#[tT,h2 #[aEq,0].2.1]) H Zg6)
  ·rw[ZazZ]
   exact #[jv,aR (k2 (#[tT,h1 (ZvZ ZDy).1]) H Zg6)]
def Ak (F:#[am,ZyR,ZyR,ue]) : #[dD,Zop,wM]:=by
 refine #[agK,tT]
 ·obtain⟨z,a,rfl,_⟩:=h
  rfl
 ·obtain⟨z,a,rfl,zl,al,k⟩:=h
  have sl:Zpk:=Y6
  have two:Zpm:=ZaC
  have zl2:Zpn:=Zaf
  refine ⟨_,(af (bZ 2 tT.nd Zau) (
   af (qK ZA (ZpV (Ih #[eH,ve,Zay,Zad1] (Ef (ar Eb (bP MP Zap Zay ZA_) (aB) rfl)))) (ae (#[aRd,2,tT.nd]))) (
   #[GF,#[anf,(gH (pv 2))],Zay]))),?_⟩
  try dsimp only[cxK,cxK']
  have hz:ZXH:=ZU6
  have fin:∀ e:Nat,a<=e->ZUc->fG Zfr=ZD8 (e-a)->∀ (v:ZgG),QV (VG (nu (Xr Vf (AV 0) (Ou (AV 1)) (Ou (AV 2))) (nu (AV 2) q8))) { nx:=fun x H'=>Q Zs3 H',rt:=Q } ZaKL H:=fun e h1 h2 h3 _=>by
   refine⟨_,rfl,_,rfl,_,rfl,_,rfl,_,rfl,z,rfl,zl2,_,rfl,two,ZmB⟩;have:=k t ht;rw[h3,YL,YH,hz,ZasS,ZaLX]at this;rw[Pe z h2];exact this
  refine Zhi;refine #[au_,∃ e:Nat,σ=ZaKL/\H'=H/\a<=e/\ZUc/\m=Zwj/\fG Zfr=ZD8 (e-a)++fG (ZEe (e-a)),(f8 _ a rfl rfl Zbz al rfl #[n',Nat.sub_self])];intro m σ H' a_;obtain⟨e,rfl,rfl,h1,h2,rfl,h3⟩:uI:=a_;refine⟨_,rfl,_,rfl,z,rfl,zl2,_,_,rfl,rfl,_,rfl,?_⟩
  by_cases lt:ZaDf
  ·rw[#[atd,e,ZnB]]
   have hc:#[ah,ZdV[e]?,ZEg]:=Zll
   have hc2:#[ah,Zfr[e-a]?,ZEg]:=#[f6,List.getElem?_drop,ZaLX,hc]
   refine aR ⟨_,rfl,_,rfl,z,e,ZEg,rfl,rfl,zl2,bR (j:=e) hc,_,_,rfl,rfl,_,rfl,?_⟩;rw[TJ]
   cases hs:Cq ZEg with
   | true=>exact aG (fin e h1 h2 (QY h3 hc2 hs) Zac)
   | false =>
    refine aR ⟨(ZaKV),(ZIZ),_,⟨rfl,_,_,rfl,rfl,Zaut,Zaf,e+1,rfl,rfl,Zaf,Zaf,rfl,?_⟩⟩;rw[#[iY,e+1-a,e-a+1]];exact QX h3 hc2 hs
  ·rw[#[iZ,(e:Int)<ZnB]]
   exact aG (aG (fin e h1 h2 (Ue h3 #[nk,YH]) Zac))
def D6 (F:#[am,ZLx,ZLx,o0])[101][215] : #[cP,2,Zop,(Oc P0 lp ql cF ZQM ZmI Uu)]:=by
 refine #[agL,j3]
 ·obtain⟨z,a,rfl,_⟩:=h
  rfl
 ·obtain⟨z,a,rfl,asc,zl,al,_,tI,k1,k2⟩:=h
  have two:Zpm:=ZaC
  refine ⟨_,af #[oq,#[eT,gn,Zwh],(iW 2 j3.nd),(iW 3 j3.nd)] (
   af (bZ 4 j3.nd #[eT,fL,Zm0]) (
   af #[HK,#[Ha,ZcC],Zp7] (
   #[GF,ZcC,Zbl]))),?_⟩
  try dsimp only[cxK,cxK']
  refine Zabd;have s1:=Zami;have wp:=IT al;have ea:ZmI Zfr=(ZAx (toS (fG (Zfm a)))).map fun n=>(n,ZEe ZBS):=rfl;refine ZW9;refine⟨_,rfl,_,rfl,ZaF8,ZSe,fun ds H2 N s2=>?_,fun no H2 s2=>?_⟩
  ·rw[NM N]at ea
   refine#[hm,aG #[lu,ZEh]];have y_:=#[dG,ZeF,s2] (#[fk,[ZaHL,Zae #[a1,ZBT]],ht2]);exact k1 _ _ ea t2 ZaBW _ (fk y_) (ZtU y_) #[g',ac,wp.1] rfl
  ·rw[Rl no]at ea
   exact#[hm,#[ahg,a,k2 ea H2 #[Xu,s2] (ZtU (ZeF s2))]]
def xO (F:#[am,ZtV,ZtV,qX])[151]{J:Zj5}{R:ZGY}{At:ZaJo}[337]{lv:Nat}{pa pb:Str}(hJ:∀ H H',J H->ZEH->J H')(hAt:∀ H H' v x,At H v x->ZEH->ZaMf)(shr:RT R)(LA:aT P w K mg ZaP ZcO lv fl fdl ZYg (Oc P0 lp ql cF J R At))[216](lbi:#[aNU,ZYg,ZYg]):#[cP,(lv+1),Za06,(Gw P0 lp ql cF fl J R At)]:=by
 refine #[agL,lV]
 ·obtain⟨z,a,rfl,_⟩:=h
  rfl
 ·obtain⟨z,a,rfl,asc,zl,al,j0,tI,k1,k2⟩:=h
  have two:Zpm:=ZaC
  have sl:Zpk:=Y6
  have zl2:Zpn:=Zaf
  refine ⟨_,(af (bZ 3 lV.nd Zhs) (
   af (qK Zx (ar bu Zang (aB) ZeG) (af #[oq,(Gb (i:=2) LA ZafD rfl ZJz lob lod lbi aA #[p9,ZW']),(iW 4 lV.nd),(iW 1 lV.nd)] (
   ae (ax (ng Y8 Zh Zi iA Zbl Zm3))))) (
   af #[HK,#[xi,Zang],Zp7] (
   #[GF,(dU jp ZadW ZLy aQj Zm2),ZW'])))),?_⟩
  try dsimp only[cxK,cxK']
  have hz:ZXH:=ZU6;refine#[nU,ZSu];have s1:=#[nm,hlq];refine #[au_,∃ (e:Nat)(vs:Zbg)(xs:Zd2)(fu:Nat)(v4:ZgG),σ=[ZQr,#[cV,e],#[bE,fl],#[bE,lq],v4]/\ZdH/\Zvg/\J H'/\#[cB,lq,(ZaI vs)]/\#[aNZ,vs]/\ZUc/\m=Zwj/\Zwj<fu/\ZiQ<=e/\dO R ZapA (Zfm a)=(dO R fu Zxb).map #[a9,(xs++q.1,q.2)],#[ce,a,[],⟨[],#[a0,Zfm,a]+1,Zac,rfl,fk s1,ZtU s1,hJ _ _ j0 (Jp (fk s1)),ac,Zao,al,rfl,#[po,YH,hz],Zdb,by show _=Option.map (#[a9,q]) _;rw[Option.map_id']⟩]];intro m σ H2 a_;obtain⟨e,vs,xs,fu,v4,rfl,g2,t2,j2,h2,pr,el,rfl,zx4⟩:bf:=a_;obtain⟨fl2,vl,pm⟩:fz:=zx4;refine Zabq;rw[Di,Oi,Dq];obtain⟨fu,rfl⟩:∃ n,fu=n+1:=⟨fu-1,Zaf⟩
  by_cases hd:#[ah,#[xb,0].head?,32]
  ·rw[Yc hd]
   have elt:=Dr hd;refine aR #[br,(ZaKV),(ZIZ)];refine⟨rfl,_,rfl,_,rfl,_,_,rfl,rfl,z,e+1,#[cJ,ZafU],asc,zl,Zaf,j2,t2,fun x r hr t v H5 g5 t5 ht av=>?_,fun hr H5 g5 t5=>?_⟩
   ·rw[<-Zf]at hr
    refine ZayQ;have h5:=g5.lst h2;refine#[B',h5,lq,h5,Zaf];have g6:=Sv (o:=ZaI (vs++[v])) h5;obtain⟨k,hk⟩:=shr _ _ _ hr
    have rl:#[DY,Zaut]:=by
     rw[hk,Zf,Zf,YH,hz]
     lia
    refine #[rm,#[k2,(Zb6-ZfY)],Zvq,⟨vs++[v],xs++[x],fu,_,rfl,Su (ZAG g5) hlq,Wz.TabI.put t5 h5,hJ _ _ (hJ _ _ j2 (Jp g5)) g6,ac,cJ (ZiU pr #[IY,hAt _ _ _ _ (hAt _ _ _ _ q (Jp g5)) g6]) #[fz,(hAt _ _ _ _ av g6)],Zaf,rfl,Zaf,ZYr,?_⟩];rw[pm,Nj hd hr,Option.map_map,show Zfm (Zvq)=r by rw[<-hz];rw[Zf]at hk;exact KF hk]
    congr 1
    funext q
    show (xs++(x::q.1),q.2)=((xs++[x])++q.1,q.2)
    rw[ZW];rfl
   ·rw[<-Zf]at hr
    refine k2 (#[cL,pm,Nk hd hr]) H5 (ZAG g5) t5
  ·rw[X9 hd]
   refine aG Zabq;rw[Di,Oj,Dq]
   by_cases hd2:#[ah,#[xb,0].head?,41]
   ·rw[Yc hd2]
    have elt:=Dr hd2;refine aG #[aLL,lq,h2,fun q hq=>⟨_,rfl,_,_,rfl,rfl,two,ZmB⟩];have w1:=#[fk,vs,hq];have w2:=#[fk,[Zaj q,Zae ((e:Int)+1)],ht];have w12:=fk (Za1C w2);refine k1 xs (#[xb,0].drop 1) (by rw[pm,Ll hd2];show Zab (xs++[],_)=_;rw[Zd]) t q vs _ (ZAG w12) (t2.same (Za1C w2)) (by rw[ac,YH,YH,hz,#[iY,(#[k2,(Zwj-1)]:Nat),e+1],ZafU];rfl) #[gw,w2] #[p',pr,#[Lz,hAt _ _ _ _ y (Jp w12)]]
   ·rw[X9 hd2]
    exact #[ahg,e,k2 (#[cL,pm,Lk hd hd2]) H2 g2 t2]
def DZ (F:#[am,ZAN,ZAN,oV]){dd:Nat}:#[cP,1,ZLe,(AN cF dd)]:=by
 refine #[agL,oK]
 ·rcases h with ⟨w,q,ps,fs,rfl,_⟩ | ⟨w,q,gs,rfl,_⟩<;>rfl
 ·have two:Zpm:=ZaC
  have sl:Zpk:=Y6
  refine ⟨_,(af #[Hy,(iN (Lp UO.sz Zap ZaFV))] (
   af #[oq,(Ts UO.sz ZaFV Zap ZA_),(iW 2 oK.nd),(iW 3 oK.nd)] (
   af #[HK,(jc (Aw Am Am Zay #[ad0,ZmZ] Zbl)),(Ia (pv 0))] (
   af #[Hy,(ZpV (Ih (ar bu Zap (aB) ZeG) (Ef #[a4V,Ks,ZmZ])))] (
   af #[uz,Zap,(bO (BC Zfn ZMt ZMt))] (
   af #[uz,Zap,#[vN,ZMt]] (
   ae (aL (bO Zwh))))))))),?_⟩
  try dsimp only[cxK,cxK']
  rcases h with ⟨w,q,ps,fs,rfl,hw,hq,pr,fl,k1,k2⟩ | ⟨w,q,gs,rfl,hw,hq,gl,wl,k1,k2⟩
  ·have pl:=ZoG
   rcases hw with rfl | rfl
   ·refine ZahX
    rw[Vw];refine #[oY,qz.q6,Vw];refine#[ju,qz.q6,UO.t6.sq H];refine ZNZ;rw[X7,pl]
    by_cases c:ZaB0
    ·rw[ZGA]
     refine Zuv;rw[#[ue,Zqy,60]];refine ZBe;rw[#[M1,ZaH]];refine ZBf;rw[#[M0,ZaH]];refine ZBe;rw[#[M2,ZaH]];refine aG ⟨_,rfl,_,rfl,two,fun p hp=>k1 (ZpM fs) (by unfold m7;rw[Zav,ZrC]) p _ ZrZ (bS q ps ac (ag hp _ _ hq) Zag #[aB1,ag hp _ _ y])⟩
    ·have nn:#[Y2,ZaH]:=by
      unfold m7;rw[Zav,Zrx]
     by_cases c1:ZaxJ
     ·rw[ZGA]
      refine Zuv;rw[#[iZ,Zqy<=60]];exact Zahe
     ·rw[Zaz0]
      exact Zahf
   ·refine ZahX
    rw[Vx];refine #[oY,qz.q7,Vx];refine#[ju,qz.q7,UO.t7.sq H];refine ZNZ;rw[X7,pl]
    by_cases c:1<=Zd6/\Zd6<=1
    ·rw[ZGA]
     refine Zuv;rw[#[ue,Zqy,1]];refine ZBe;rw[#[M1,Za']];refine ZBf;rw[#[M0,Za']];refine ZBe;rw[#[St,Za',Za']];obtain⟨f,rfl⟩:=#[aEt,Zd6];obtain⟨p0,rfl⟩:=#[aEt,ZfR]
     obtain⟨hf,_⟩:dy dd H p0 f/\True:=by cases pr with | cons hf _=>exact⟨hf,Zs_⟩
     exact aR ⟨_,rfl,q,_,0,_,rfl,rfl,ZEP,Zjm,two,fun p hp=>k1 (ZAs f) (by unfold m7;rw[ZdI]) p _ ZrZ #[hc,p0,(hf.mono #[Lz,ag hp _ _ y])]⟩
    ·have nn:#[Y2,Za']:=by
      unfold m7;rw[ZdI]
      match fs,c with
      | [],_=>rfl
      | [f],c=>exact ZZ'
      | _::ZcX,_=>rfl
     by_cases c1:ZaxJ
     ·rw[ZGA]
      refine Zuv;rw[#[iZ,Zqy<=1]];exact Zahe
     ·rw[Zaz0]
      exact Zahf
  ·by_cases w1:ZauP
   ·subst w1
    refine ZahX;rw[Vr];refine #[oY,qz.q1,Vr];refine#[ju,qz.q1,UO.t1.sq H];refine ZNZ;rw[X7]
    by_cases c:2<=ZhP/\#[DZ,2]
    ·rw[Zuf]
     refine Zuv;rw[#[ue,Zh2,2]];refine ZBe;rw[#[M1,ZeE]];refine ZBf;rw[#[St,ZeE,ZeE]]
     match gs,c,hq,k1 with
     | Zgm,_,hq,k1=>exact aR ⟨_,rfl,q,_,0,_,rfl,rfl,ZEP,Zjm,_,rfl,q,_,1,_,rfl,rfl,ZEP,rfl,ZPy,fun p hp=>k1 ZZn (by unfold gm;rw[Zav]) p _ ZrZ ⟨ac,⟨#[mo,2<=2],#[mo,2<=60],(fun _ _ _ _ z=>by cases z)⟩⟩⟩
    ·have nn:#[sj,ZeE]:=by
      unfold gm;rw[Zav]
      match gs,c with
      | [],_=>rfl
      | [_],_=>rfl
      | Zgm,c=>exact ZZ'
      | ZazK,_=>rfl
     by_cases c1:ZFw
     ·rw[Zuf]
      refine Zuv;rw[#[iZ,Zh2<=2]];exact Zahe
     ·rw[ZGU]
      exact Zahf
   by_cases w2:ZauQ
   ·subst w2
    refine ZahX;rw[Vs];refine #[oY,qz.q2,Vs];refine#[ju,qz.q2,UO.t2.sq H];refine ZNZ;rw[X7]
    by_cases c:ZG0
    ·rw[Zuf]
     refine Zuv;rw[ZW3];refine ZBe;rw[#[M1,Zdx]];refine ZBf;rw[#[M0,Zdx]];refine ZBe;rw[#[M2,Zdx]];refine aG ⟨_,rfl,_,rfl,two,fun p hp=>k1 Zayl (by unfold gm;rw[ZdI,ZdI,ZrC,Zav]) p _ ZrZ ⟨ZXK,⟨c.1,c.2,(fun _ _ _ _ z=>by cases z)⟩⟩⟩
    ·have nn:#[sj,Zdx]:=by
      unfold gm;rw[ZdI,ZdI,Zrx]
     by_cases c1:ZFw
     ·rw[Zuf]
      refine Zuv;rw[ZXI];exact Zahe
     ·rw[ZGU]
      exact Zahf
   by_cases w3:ZauR
   ·subst w3
    refine ZahX;rw[Vt];refine #[oY,qz.q3,Vt];refine#[ju,qz.q3,UO.t3.sq H];refine ZNZ;rw[X7]
    by_cases c:ZG0
    ·rw[Zuf]
     refine Zuv;rw[ZW3];refine ZBe;rw[#[M1,Zf8]];refine ZBf;rw[#[M0,Zf8]];refine ZBe;rw[#[M2,Zf8]];refine aG ⟨_,rfl,_,rfl,two,fun p hp=>k1 Zaym (by unfold gm;rw[ZdI,ZdI,ZrC,#[YJ,Zf8,Zdx],Zav]) p _ ZrZ ⟨ZXK,⟨c.1,c.2,(fun _ _ _ _ z=>by cases z)⟩⟩⟩
    ·have nn:#[sj,Zf8]:=by
      unfold gm;rw[ZdI,ZdI,Zrx]
     by_cases c1:ZFw
     ·rw[Zuf]
      refine Zuv;rw[ZXI];exact Zahe
     ·rw[ZGU]
      exact Zahf
   by_cases w4:w=Zdi
   ·subst w4
    refine ZahX;rw[Vu];refine #[oY,qz.q4,Vu];refine#[ju,qz.q4,UO.t4.sq H];refine ZNZ;rw[X7]
    by_cases c:ZG0
    ·rw[Zuf]
     refine Zuv;rw[ZW3];refine ZBe;rw[#[M1,Zdi]];refine ZBf;rw[#[M0,Zdi]];refine ZBe;rw[#[M2,Zdi]];refine aG ⟨_,rfl,_,rfl,two,fun p hp=>k1 Zayk (by unfold gm;rw[ZdI,ZdI,ZrC,#[YJ,Zdi,Zdx],#[YJ,Zdi,Zf8],Zav]) p _ ZrZ ⟨ZXK,⟨c.1,c.2,(fun _ _ _ _ z=>by cases z)⟩⟩⟩
    ·have nn:#[sj,Zdi]:=by
      unfold gm;rw[ZdI,ZdI,Zrx]
     by_cases c1:ZFw
     ·rw[Zuf]
      refine Zuv;rw[ZXI];exact Zahe
     ·rw[ZGU]
      exact Zahf
   by_cases w5:ZauS
   ·subst w5
    refine ZahX;rw[Vv];refine #[oY,qz.q5,Vv];refine#[ju,qz.q5,UO.t5.sq H];refine ZNZ;rw[X7]
    by_cases c:4<=ZhP/\#[DZ,4]
    ·rw[Zawb]
     refine Zuv;rw[#[ue,Zh2,4]];refine ZBe;rw[#[St,Zf9,Zf9]]
     match gs,c,hq,k1,k2 with
     | Zyn,_,hq,k1,k2 =>
      refine aR ⟨_,rfl,q,Zyn,rfl,ZEP,#[arh,4],fun l S n hl nle aj9=>⟨l,S,n,rfl,ac,_,_,rfl,rfl,_,rfl,?_⟩⟩;have s1:=#[fj,ZY3,hl];have nle:n<=4:=nle;have aj9:n=4↔#[yn,0].Nodup:=aj9
      by_cases nd:#[yn,0].Nodup
      ·rw[ZavZ]
       rw[ZavZ]at s1;refine ZBe;rw[#[M0,Zf9]];refine ZBe;rw[#[M2,Zf9]];exact aG ⟨_,rfl,_,rfl,two,fun p hp=>k1 (.pl (ZKO a b d e)) (by unfold gm;rw[ZdI,Zav];show Za4F;rw[Yb nd]) p _ Zaxw ⟨#[hc,q,Zaxw _ _ hq],⟨#[mo,2<=4],#[mo,4<=60],(fun _ _ _ _ z=>by cases z;exact nd)⟩⟩⟩
      ·rw[Yc (show Zcg<4 by have h9:¬ n=4:=#[jC,nd,aj9.mp];lia)]
       exact aR (k2 (by unfold gm;rw[ZdI,Zav];show Za4F;rw[X8 nd]) _ s1)
    ·have nn:#[sj,Zf9]:=by
      unfold gm;rw[ZdI,Zav]
      match gs,c with
      | [],_=>rfl
      | [_],_=>rfl
      | Zj9,_=>rfl
      | Zx2,_=>rfl
      | Zyn,c=>exact ZZ'
      | _::_::ZazK,_=>rfl
     by_cases c1:4<=ZhP
     ·rw[Zawb]
      refine Zuv;rw[#[iZ,Zh2<=4]];exact Zahe
     ·rw[#[iZ,(4:Int)<=Zh2]]
      exact Zahf
   refine ZahX;rw[Vy w1 w2 w3 w4 w5 #[bx,hw (Zal z)] #[bx,hw (Zaq z)]];refine aR (k2 ?_ H Zg6);unfold gm;rw[X8 w1,X8 w5];split<;>first | rfl | (rw[X8 w2,X8 w3,X8 w4])
def vb {fl c1 cy:Addr}{pm ct:Value}{d lv:Nat}(kq:#[aBz,lv,ZaM_])(Lm:#[aal,aJ,ZFD,ZFE,ZxB,ZkH,(Zae ZQA)]) :
  aT P w K mg ZaP ZcO (lv+1) fl #[HM,aJ,ZFD,ZFE,ZxB,[(ZkH,cy)],c1] ZaDc (Oc P0 aU aJ cF (fun H=>lK H c1 aJ) Zq9 (V6 d)):=by
 refine #[ain,ZaDc,ZkH]
 ·have hm:=Zj hx
  exact #[ag6,∀ p∈#[xB,0].names,p.2=Ztf->p.1=ZkH] _ hm rfl
 ·obtain⟨z,a,rfl,_⟩:=h
  rfl
 ·obtain⟨z,a,rfl,_,_,_,hc,_⟩:=h
  exact hc
 ·obtain⟨z,a,rfl,asc,zl,al,hc,tI,k1,k2⟩:=h
  refine #[eg,(bC kq ZafD rfl Nl (BC Zap Zau #[Gm,Ec]))];refine⟨_,rfl,_,rfl,_,rfl,_,_,rfl,rfl,z,a,#[cJ,#[iX,(ZQA-1)=#[a1,d]]],asc,zl,al,tI,#[a1D,k1 f r hr t Zh' H' g t' ht #[hn,p,hf]],k2⟩
def Bv (F:#[am,ZmL,ZmL,bq]){c0 fw fN:Addr}{fdw:FuncData}{d lv:Nat}(hco:ZV2)(CK:Zayc)(BK:ZOD)(hmw:#[bI,ZtV,fw])[51](hbw:fb K fdw Za06 [])(WS:#[a1E,ZCh->pL mg b->jt b aJ ZFD ZFE ZxB ZkH vy fl c1 cy pm ct->aT P w K mg b ZcO (lv+2) fw fdw Za06 ZaRV])(hmN:#[bI,ZLx,fN])(vF:#[mq,ZtV,3,Za06,#[aQr,fN]])[101](sU:#[mq,ZAN,1,ZLe,ZaF6])(hlv:5<=lv):#[cP,(lv+3),ZMO,#[PR,Zlr,Zlr,(brM d)]]:=by
 refine #[aim,eZ]
 ·obtain⟨z,a,rfl,_⟩:=h
  rfl
 ·obtain⟨z,a,rfl,asc,zl,al,tI,k1,k2⟩:=h
  have two:Zpm:=ZaC
  refine ⟨_,(af #[oq,ZaGE,(iW 3 ZLA),(iW 1 ZLA)] (
   af (aN (ar wC Zbl Zaxv rfl) #[aLS,#[DT,Ga,2,ZkH,ZafD,aA,Zap,Zau]] #[aLS,#[afF,vF,(BC Zap Zau (#[adY,fN,hmN]))]]) (
   ae (aL (bO (fW #[afF,sU,ZaBA] Zau)))))),?_⟩
  try dsimp only[cxK,cxK']
  refine Zabd;have wp:=IT al;have ea:brM d Zfr=brM d (Zfm a):=rfl;have dl:ZEe ZBS=Zfm (ZBT):=Zf
  conv at ea=>rhs;unfold brM;rw[dl]
  have s1:=Zami;refine ZW9
  have ak0:ZaLO:=ZSe
  generalize toS (fG (Zfm a))=w at ea s1 ak0 ⊢;generalize ZBT=b at ea s1 wp ⊢;have bl:=wp.2;generalize #[gq,H,t,[ZTv,Zae #[a1,b]]]=H1 at s1 ⊢;refine#[axo,⟨t2,_,rfl,Zaq (Zal (Rd.of ac)),rfl,rfl,_,rfl,?_⟩];have s2:=ZeF (#[fk,[Zas_,Zax Za'],ht2]);have tI2:=ZtU s2;rw[#[aOW,w,ZaKI,w,ZaKI,#[AV,w∈Zalp],Dv w [ZaH,Za']]];generalize #[gq,H1,t2,[Zas_,Zax Za']]=H2 at s2 tI2 ⊢;have hz:ZXH:=ZU6
  by_cases hw:Zaad
  ·rw[Yb hw]at ea
   rw[Yc (show w∈Zalp by rcases hw with rfl | rfl<;>simp)];refine aR #[OI,tI2,fun fl c1 H3 cf tI3 bt=>⟨rfl,z,b,rfl,asc,zl,bl,cf,tI3,fun fs r hp t3 q vs' H4 g4 t4 ht3 hq pr=>?_,#[a1G,?_]⟩]
   ·have g24:=ZGc (ZaMg g4)
    refine ZaGq;obtain⟨ps,rfl,pf⟩:ak:=xP pr;have fl2:=wD ZT8 _ _ _ _ hp;rw[YH,hz]at fl2;rw[hp]at ea;refine#[hm,.figs w q ps fs rfl hw hq pf Zag ZaLj #[aTm,m7,fs]];have s6:=ZaNm;exact #[aTT,m7,fs]
   ·exact #[aQn,(ZGc (ZaMg g4))]
  ·rw[X8 hw]at ea
   rw[X9 (show ¬ w∈Zalp by simpa using hw)];refine aG ⟨_,rfl,_,rfl,z,b,rfl,asc,zl,bl,Zs_,tI2,fun gs r hp t3 q vs' H4 g4 t4 ht3 hq pr=>?_,#[a1G,?_]⟩
   ·have g24:=ZGc g4
    refine ZaGq;have e9:=vf pr;subst e9;have fl2:=wD Et _ _ _ _ hp;rw[YH,hz]at fl2;rw[hp]at ea;refine#[hm,.nums w q gs rfl hw hq Zag ak0 ZaLj #[aTm,gm,gs]];have s6:=ZaNm;exact #[aTT,gm,gs]
   ·exact #[aQn,(ZGc g4)]
def va (F:#[am,ZtW,ZtW,oU]){d lv:Nat}(pS:#[mq,ZmL,(lv+3),ZMO,(Ro P0 lp ql cF d)])[101][239]:#[cP,(lv+4),ZMO,(qT P0 lp ql cF d d Zq9)]:=by
 refine #[agL,oJ]
 ·obtain⟨z,a,rfl,_⟩:=h
  rfl
 ·obtain⟨z,a,rfl,asc,zl,al,tI,k1,k2⟩:=h
  have two:Zpm:=ZaC
  have sl:Zpk:=Y6
  have zl2:Zpn:=Zaf
  refine ⟨_,(af #[Hy,(ar bu Zay (am) ZeG)] (
   af #[uz,Zang,#[afF,pS,(BC Zap ZW' Zay)]] (
   af #[oq,ZaGE,(iW 3 oJ.nd),(iW 4 oJ.nd)] (
   af #[HK,#[n8,(fm iD ZafD rfl Zm2)],Zp7] (
   #[GF,Zaxu,ZcC]))))),?_⟩
  try dsimp only[cxK,cxK']
  refine ZBd
  cases d with
  | zero=>exact aR (k2 #[os,Zfe] H GK.refl tI)
  | succ d =>
   rw[X9 (#[c2,¬ #[uZ,(((d+1:Nat)):Int),0],#[R8,ZmH z]])];refine aG Zabq;rw[Di,QS,Dq]
   by_cases hd:#[ah,#[fr,0].head?,40]
   ·rw[Yc hd]
    have alt:=Dr hd;rw[Ji d _ hd,Zf]at k1 k2;exact aR ⟨_,rfl,_,rfl,_,_,rfl,rfl,_,rfl,z,a+1,#[cJ,ZafU],asc,zl,Zaf,tI,k1,k2⟩
   ·rw[X9 hd]
    rw[Jj d _ hd]at k1 k2;refine aG Zabd;have wp:=IT al;have s1:=Zami;refine ZW9
    have ak0:ZaLO:=ZSe
    refine⟨_,rfl,_,rfl,ZaF8,ak0,fun H2 s2=>Zhi⟩;have y_:=Zj6
    cases nm:#[Cw,zw] with
    | false =>
     rw[nm]at k2;exact #[ahg,a,k2 rfl H2 (fk y_) (ZtU y_)]
    | true =>
     rw[nm]at k1;refine aG #[vJ,#[l8,#[vJ,ZEh]]];have s3:=ZAH ((#[fk,[ZDm,ZakM],hp]).trans (#[fk,[ZbH,Zae #[a1,ZBT]],ht2]));exact k1 _ _ rfl t2 p _ (fk s3) (ZtU s3) #[g',ac,wp.1] ⟨ag ht2 _ _ ac,#[i2,Td nm]⟩
def Aj (F:#[am,ZLB,ZLB,lG])(kq:#[aBz,37,ZaM']) : #[cP,38,ZDX,ZaRg]:=by
 refine #[agL,kR]
 ·obtain⟨z,rfl,_⟩:=h
  rfl
 ·obtain⟨z,rfl,asc,zl,tI,k1,k2⟩:=h
  have sl:Zpk:=Y6
  have zl2:Zpn:=Zaf
  refine ⟨_,(af #[oq,#[dn,kq,(BC Zap ZcT (jy ZadW UO.dp))],(iW 1 kR.nd),(iW 2 kR.nd)] (
   af #[Hy,#[eH,qF,Zay,Zad1]] (
   Zxz))),?_⟩
  try dsimp only[cxK,cxK']
  refine⟨_,rfl,z,0,rfl,asc,zl,Zdb,tI,#[a1D,?_],fun hn H' g t'=>k2 (fun f q=>by rw[List.drop_zero]at hn;rw[hn]at q;cases q) H' g t'⟩;rw[List.drop_zero]at hr;refine ZayQ;refine⟨_,rfl,_,rfl,z,rfl,zl2,rfl,_,rfl,?_⟩
  by_cases r0:r=[]
  ·subst r0
   rw[#[qT,#[aGr,#[k2,#[BH,Zbi]]]]];exact #[jv,k1 f hr p H' g t' hf]
  ·have rl:=JW (yr 8) hr
   have rp:0<ZfY:=ZaX8 r0;rw[<-iF]at rl;rw[X9 (#[c2,¬ #[aGr,Zvq],#[a9,#[i2,Zata]]])];exact aR (k2 (fun f2 q=>r0 (by rw[hr]at q;injection q with q;injection q with _ q)) H' g t')
def HS (F:#[am,ZLC,ZLC,tX])[52] : #[cP,5,#[a8,ZpT],(Vo c)]:=by
 refine #[agL,Iw]
 ·obtain⟨p,t,B,st,d,rfl,_⟩:=h
  rfl
 ·obtain⟨p,t,B,st,d,rfl,ht0,S,ft,hg,sm,k⟩:=h
  have ht:#[aK,t,(Zbb (yW d))]:=#[dM,ym,ht0]
  have T0:bL K H t (yW d):=Zc7 ht;refine #[eg,#[m_,ZMw,#[e2,dQ,ZMv],#[m_,ZMw,#[e2,f6,ZMv],#[dq,#[e2,br,(fW ZMt ZMt)]]]]]
  try dsimp only[cxK,cxK']
  have n1:=#[Ig,Zc5];have n2:=#[Ig,Zck];have n3:=#[Ig,Zer]
  cases d with
  | come g =>
   refine ZBl;rw[show #[AX,#[eh,(ZkB (Zf4 g)),Zc5]] from cc];exact aR ⟨_,rfl,p,Za6,_,rfl,Zbj,n1,_,rfl,t,_,_,_,rfl,rfl,T0,rfl,p,B,st,g,rfl,S,ft,Zak4,k⟩
  | go g =>
   refine ZBl;rw[show #[AY,#[eh,ZaCx,Zc5]] from gc];refine aG ZBl;rw[show #[AX,#[eh,ZaCx,Zck]] from gg];exact aR ⟨_,rfl,p,Za6,_,rfl,Zbj,n2,_,rfl,t,_,_,_,rfl,rfl,T0,rfl,p,B,st,g,rfl,S,ft,Zak4,(fun m hm=>⟨hg.sm g m hm,#[bN,by rw[e]at hm;rw[(hg.wh g g).mp hm];rfl]⟩),k⟩
  | exch a b =>
   refine ZBl;rw[show #[aJl,Zc5] from ec];refine aG ZBl;rw[show #[aJl,Zck] from eg];exact aG ⟨_,rfl,p,Za6,_,rfl,Zbj,n3,_,rfl,t,_,_,_,rfl,rfl,T0,rfl,_,rfl,t,_,_,_,rfl,rfl,T0,rfl,p,B,st,a,b,rfl,S,ft,sm a ZCW,sm b ZCW,k⟩
def HU (F:#[am,ZLD,ZLD,tY])(l7:#[ka,ZkE,1,Zjc,Gv]) : #[cP,6,#[a8,ZkE],ZaEZ]:=by
 refine #[agL,Ix]
 ·obtain⟨p,B,a,b,n,rfl,_⟩:=h
  rfl
 ·obtain⟨p,B,a,b,n,rfl,S,hn,sn,k⟩:=h
  have hu:=ZaU
  refine ⟨_,af #[jl,(ZpV (JT ZagY (Eg #[eH,Ri,Zau,#[PQ,l7]]))),#[zz,UO.eO,UO.mO,#[fx,aB,Zp7,gj]]] (
   cG),?_⟩
  try dsimp only[cxK,cxK']
  refine Zuu;rw[Yc hn];exact aR #[c',ZaF,#[bw,n,sn,#[Z2,#[bx,#[Oh,Zg6]]]]]
def sG (F:#[am,ZIo,ZIo,mR])[32]{fl:Addr}:#[cP,5,Zlw,ZDJ]:=by
 refine #[agL,BL]
 ·obtain⟨p,B,a,b,l,rfl,_⟩:=h
  rfl
 ·obtain⟨p,B,a,b,l,rfl,S,A,k⟩:=h
  have hu:=ZaU;have nI:ZT9:=Zfu
  refine ⟨_,(af ZaKa (
   cG)),?_⟩
  try dsimp only[cxK,cxK']
  refine#[RX,nI,_,l,_,rfl,?_];rw[Zix];exact aR #[bw,l,ZpW,#[JU,k _ _ Zakw (Kg ac)]]
def D5 (F:#[am,ZmM,ZmM,dH])[53](CK:gL K c0 Pm)[100](WS:#[a1F,bI,Zax4,Zax5,Zax6,Zff,ZcO,5,Zlw,ZDJ]):#[cP,6,#[a8,Zff],Zaaw]:=by
 refine #[aim,Er]
 ·obtain⟨p,B,a,b,l,rfl,_⟩:=h
  rfl
 ·obtain⟨p,B,a,b,l,rfl,S,A,hT,k⟩:=h
  refine #[aQI,Zff];refine ZaHa;exact Za1N
def DY (F:#[am,ZmN,ZmN,dG])[53](CK:gL K c0 Pf)[100](WS:#[a1F,bF,Zax7,Zax8,Zax9,Zba,ZcO,5,Zlw,ZDJ]):#[cP,6,#[a8,Zba],Zaax]:=by
 refine #[aim,El]
 ·obtain⟨p,B,a,b,l,rfl,_⟩:=h
  rfl
 ·obtain⟨p,B,a,b,l,rfl,S,A,hT,k⟩:=h
  refine #[aQI,Zba];refine ZaHa;exact Za1N
def D8 (F:#[am,ZLE,ZLE,j9])[215] : #[cS,2,[Zdx],Vp]:=by
 refine #[agK,oN]
 ·obtain⟨z,w0,ws,rfl,_⟩:=h
  rfl
 ·obtain⟨z,w0,ws,rfl,asc,len,hw,k1,k2⟩:=h
  have hu:=ZaU
  refine ⟨_,(af (bZ 1 oN.nd ZaEY) (
   af (#[P',2,j9,xL,ZnT,ZvW,(dD #[apO,JX]),#[ag8,ZnT,fm fL Zbk rfl Zm1],oN.nd]) (
   af #[Fa,(ar wC ZqF Zay rfl)] (
   #[ej,(d7 Qc (bO (dv #[Ms,rm])) (dU jp ZadW ZLy aQj Zm0))])))),?_⟩
  try dsimp only[cxK,cxK']
  have sl:Zpk:=Y6
  have sp:ZTq=⟨#[32]⟩:=ZaA
  obtain⟨wl,wok⟩:=LM (c:=32) ZaF asc;rw[hw]at wl wok;have wl:Zaoa<=Zb6+1:=wl;refine#[aQq,z,sp,fun lw hlw=>?_];rw[#[ad_,(ZKv z ZTq)=w0::ws,sp,hw]];have s1:=#[x0,ZP4,hlw];have h1:#[aQ,H,lw,ZUn,lw,ZUn]:=ac;generalize upd H lw ZUn=H1 at s1 h1 ⊢;refine#[hm,zR #[GV,lw,h1,ZEi]];rw[Mg,#[gW,(ZP4 ZaY).drop 1=ZhR ZaY]];have s2:=#[x0,ZhR,hl3];have h3:#[aQ,H1,l3,ZUm,l3,ZUm]:=ac;have h2:=#[eV,h1];have s02:=Zj6;generalize upd H1 l3 ZUm=H2 at s2 h3 h2 s02 ⊢;refine#[lG,l3,h3,fun ln hln=>?_];refine K1 (K:=K) ZaY (rs:=ws) (f:=Zf7) hln h3 Zag ZakV (fun H3 s3 h4=>?_)
  ·obtain⟨ra,rl⟩:=wok r #[fq,B_]
   refine⟨_,rfl,r,rfl,ra,Zaf,fun ds H' N s'=>?_,fun n H' s'=>?_⟩
   ·have:=ZaGK
    rw[zV N]at this;exact this
   ·have:=ZaGK
    rw[F3 n]at this;exact this
  have s03:=s02.trans s3;have h2:=#[gp,h2]
  have fl:(ZhR Zf7).all qr=Zad:=YT.mpr fun v hv=>by
   obtain⟨w,_,rfl⟩:ak:=ZUf;exact tF (wo w)
  refine⟨_,rfl,ln,_,rfl,#[lv,h4],rfl,fl,_,rfl,?_⟩
  have ein:MM Zs3 (ZhR Zf7)=Zad↔Zak6:=by
   unfold MM;rw[List.any_eq_true];constructor
   ·intro a_;obtain⟨v,hv,e⟩:ak:=a_
    obtain⟨w,hw0,rfl⟩:ak:=ZUf;have e:=#[aPz,0].mp e;refine #[bm,w,hw0,#[tT,?_]];rw[zV N]at e;cases e
   ·intro a_;obtain⟨w,hw0,n⟩:ak:=a_
    refine #[c8,Zk hw0,#[aPz,0].mpr (F3 n)]
  cases hb:MM Zs3 (ZhR Zf7) with
  | true =>
   rw[#[gW,#[eI,if Zh1 then !true else true]]];exact aR (k2 (ein.mp hb) H3 s03)
  | false =>
   have al:Zarz:=fun w hw0=>Classical.byContradiction fun n=>by
    rw[ein.mpr #[bm,w,hw0,#[tT,n ⟨ds,N⟩]]]at hb;cases hb
   rw[#[gW,#[kM,if Zh1 then !false else false]]];refine aG ⟨_,rfl,lw,_,_,_,rfl,rfl,Zate,Zjm,ZWR,fun t1 ht1=>?_⟩;have s4:=#[fk,ZRf,ht1];have h5:#[aQ,H3,t1,Zas1,t1,Zas1]:=ac;have h6:=s4 _ _ h4;have s04:=s03.trans s4;have ht0:=s03.free ht1;generalize #[gq,H3,t1,ZRf]=H4 at s4 h5 h6 s04 ⊢;refine#[aLL,ln,h6,ZEh];have s5:=#[fj,Zbb (ZhR Zf7),ht2];have h7:#[aQ,H4,t2,ZYV,t2,ZYV]:=ac;have h8:=s5 _ _ h5;have s05:=s04.trans s5;generalize upd H4 t2 ZYV=H5 at s5 h7 h8 s05 ⊢;refine ⟨t1,t2,_,_,rfl,rfl,Zc7 h8,Zc7 h7,ZaN,(by rw[X7];show 1+Zacv<=_;lia),(#[bN,?_]),(fun _ t3 ht3=>?_)⟩
   ·refine k1 al t1 H5 ht0 s05 ?_
    rw[e];exact h8
   ·exact k1 al t3 _ (s05.free ht3) (s05.trans (ag ht3)) ac
def Lh (F:#[am,ZLF,ZLF,wO])[264](sY:#[eO,ZLE,2,[Zdx],Vp])(yx:#[mq,ZLC,5,#[a8,ZpT],(Vo c)])(NT:#[aQL,P]) : #[cP,8,ZDX,ZaE0]:=by
 refine #[agL,ki]
 ·obtain⟨qs,tl,z,L,rfl,_⟩:=h
  rfl
 ·obtain⟨qs,tl,z,L,rfl,tx,ql,hL,k1,k2⟩:=h
  have hu:=ZaU
  refine ⟨_,(af (bZ 1 ZAO ZaaE) (
   af (bZ 2 ZAO ZaEY) (
   af (iM Zx rfl (Nv ZadW Za1q (dv (iL JX Zay vh (gH (JP EQ ZcT))))) #[aam,(iW 3 ZAO),(iW 4 ZAO)] (af (bZ 5 ZAO #[eT,sY,Zm3]) (
   af #[aTO,(ZpV (JT #[Ha,Zu1] (Eg #[eH,qF,(Qi UO.gd ZadW UO.ms #[A',bB,Zu1] ZDe),Zaw6]))),Zbl] (
   ae (ax #[dn,yx,(fW Zau Zu1)]))))) (
   af #[aTO,#[xi,(bP rm Zay ZaCw ZA_)],#[ad0,Zm0]] (
   Zxz))))),?_⟩
  try dsimp only[cxK,cxK']
  intro x dx nx ndx nex;refine ZaCq
  have s0:ZaIu:=ZOP
  have E1:ZaJU:=Zane;have tlen:=Uc tx;have sl:Zpk:=Y6
  have nl:#[fV,"\n"]=⟨#[10]⟩:=ZaA
  have tw:ZKv z (ZfU "\n")=qs.map (·.1)++[tl]:=#[wD,nl,OA,tx]
  refine#[aQq,_,nl,fun ll hll=>?_];rw[tw,Yu];have sA:=ag (o:=ZaI ((qs.map (·.1)).map V.str++ZWQ)) hll;have E2:=E1.on sA;have m_:upd H1 ll (ZaI ((qs.map (·.1)).map V.str++ZWQ)) ll=some (ZaI ((qs.map (·.1)).map V.str++ZVX)):=ac;have llB:=E1.track hll;generalize upd H1 ll (ZaI ((qs.map (·.1)).map V.str++ZWQ))=H2 at E2 m_;clear sA;refine#[c9,zR #[c',_,⟨rfl,ll,_,rfl,ZbO m_,ZalB⟩]];rw[Pd,List.dropLast_concat];have sB:=ag (o:=ZaI ((qs.map (·.1)).map V.str)) hlp;have E3:=E2.on sB;have hl3:=sB _ _ m_;have hp3:upd H2 lp (ZaI ((qs.map (·.1)).map V.str)) lp=some (ZaI ((qs.map (·.1)).map V.str)):=ac;have lpB:=E2.track hlp;generalize upd H2 lp (ZaI ((qs.map (·.1)).map V.str))=H3 at E3 hl3 hp3;clear sB
  have dne:∀ {a b:RO×eD},a=b->b.1≠Zcv->a.1≠Zcv:=fun e n=>#[vX,n]
  refine #[lG,lp,hp3,?_]
  refine KJ (K:=K) (a:=lp) (xs:=(qs.map (·.1)).map V.str) (fun i σ HH=>∃ (B:HA)(st:eD)(v3 v4 v5:ZgG),σ=[ZQr,#[bE,x],#[bE,ll],v3,v4,v5]/\Ev c H HH x B st/\Of L st/\Sz i st/\lU ZcW 0 (qs.map (·.2)) Zr'=lU st i ((qs.map (·.2)).drop i) Zr'/\HH ll=some (ZaI ((qs.map (·.1)).map V.str++ZVX))/\ll∉Zf5/\HH lp=some (ZaI ((qs.map (·.1)).map V.str))/\lp∉Zf5)
   (bQ B _ Zac Zac Zac rfl E3 ZaX4 Xp rfl hl3 llB hp3 lpB) (fun i σ HH _ zz=>by obtain⟨_,_,_,_,_,_,_,_,_,_,_,_,h,_⟩:=zz;exact ZbO h) ?_ ?_
  ·intro i y σ HH T hi a_ hTn;obtain⟨B,st,v3,v4,v5,rfl,EV,o,z0,er,hll,llB,hlp,lpB⟩:bf:=a_
   obtain⟨q,hq,rfl⟩:ak:=Zdd;obtain⟨p,hp,rfl⟩:ak:=cR hq;have hil:=Zatk;have sT:=#[fk,[ZnR,Zax p.1],hTn];have hTT:#[aQ,HH,T,ZaIt,T,ZaIt]:=ac;have EV:=EV.on sT;have hll:=sT _ _ hll;have hlp:=sT _ _ hlp;generalize #[gq,HH,T,[ZnR,Zax p.1]]=HH at hTT EV hll hlp ⊢;clear sT hTn;refine ZaBM;have ok:=tx.ok p (Yy hp);have ls:=DC ok
   have edr:(qs.map (·.2)).drop i=p.2::(qs.map (·.2)).drop Zcz:=by rw[#[eU,aQc,X7,hil],List.getElem_map,(Zpb hp).2]
   rw[edr]at er
   have cq8:(Zh3+1).natAbs<10 ^ 100:=Zaf
   have at0:∀ {u:V}{us:Zbg},Kl (u::us) 0=Zab u:=Zjm
   have bv6:#[bc,p.1,900]:=#[hJ,iF]
   have bv7:xW p.1:=L6 #[pI,(ls.1 c hc).2];obtain⟨z1,od⟩:=p
   cases od with
   | none =>
    have bad:∀ HX:Hp,ay H HX->∀ dx,HX dx=Zac->E #[ak,cX] Znr #[XA,HX,[(Zi8,ZnR)]]:=fun HX sX dx hdx=>by
     have:=k2 (dne er (by intro q;cases q));rw[er]at this;exact Zbu dx _ (sX.trans (ag hdx)) ac
    have ok:LU z1:=ok;refine bU ok.bad fun w0 ws hws hb=>?_;refine⟨_,rfl,z1,w0,ws,rfl,bv7,bv6,hws,fun al t HX ht sX hX=>?_,fun _ HX sX=>?_⟩
    ·have hg:ZaOE:=by
      rcases hb with ⟨u,hu,n⟩ | hb
      ·obtain⟨ds,N⟩:=al u hu
       exact Zdf N (n ds)
      ·exact hb
     refine ZaT9
     have sc:TH (qt ZgY w0) (Zae #[a1,ZaOF])=Zad:=by unfold qt;split<;>rfl
     refine#[fE,sc,rfl,?_];rw[X9 (show ¬ qt ZgY w0=Zae #[a1,ZaOF] by rw[YF,X7];exact hg)];exact aR Za1K
    ·exact#[hm,aR (aR Za1K)]
   | some d =>
    have ok:#[aan,z1]:=ok;obtain⟨e1,nm⟩:=ok;have gs:ZavH:=#[iP,#[ayY,0].2.2];have smD:ZVb:=#[iP,#[ayY,0].2.1];have lw:=Ho gs;rw[<-e1]at lw;refine⟨_,rfl,z1,ZkB d,_,rfl,bv7,bv6,lw,fun _ t HX ht sX hX=>?_,fun bd=>?_⟩
    ·have e1:(Zti mr).map Zf7=Zti Zaw:=by
      rw[Y7];exact Zy #[iP,Tf (gs g hg)]
     rw[e1]at hX
     have hD:HX t=Zab (xz d):=#[aW,ym,hX]
     have EV:=EV.on sX;have hll:=sX _ _ hll;have hlp:=sX _ _ hlp;refine ZaT9
     have gv:qt ZgY (ZkB d)=Zae (#[aZ,(ZaHK::ZatW)]:Nat):=by
      cases d with
      | come g=>show qt ZgY #[fV,Zc5]=Zaw 2;decide +kernel
      | go g=>show qt ZgY #[fV,Zck]=Zaw 2;decide +kernel
      | exch a b=>show qt ZgY #[fV,Zer]=Zaw 3;decide +kernel
     rw[gv];refine#[fE,rfl,rfl,?_];rw[ZrN];have ft:=Px ZLG o hL z0 Zag;refine aG ⟨_,rfl,_,rfl,x,t,B,_,d,rfl,hD,EV.hall,ft,ZLG,smD,?_⟩;unfold jA
     by_cases hj:Zgr
     ·rw[ZrE]
      intro H4 mv;have g2:=Cn ZLG (d:=d) smD;have o2:=JN ZLG o (#[anW,nm]);have z2:=Ka z0 d
      have en:iV st d=ZgV st d:=by unfold iV;rw[ZrE]
      have mv2:yI c.C HX x B ZxE H4:=#[aW,en,mv]
      refine az (EV.moved mv2 g2) fun B' V2 keep _=>?_;have er2:=Za1H (Iq hj);rw[<-en]at er2;exact bQ B' _ _ _ _ rfl V2 o2 z2 er2 ((Zcs _ _ hll llB).1) ((Zcs _ _ hll llB).2) ((Zcs _ _ hlp lpB).1) ((Zcs _ _ hlp lpB).2)
     ·rw[X8 hj]
      have er2:=Za1H (Lw hj);have:=k2 (dne er2 (by intro q;cases q));rw[er2]at this;have this:ZawE:=this;exact this.mono EV.same
    ·obtain⟨w0,hw0,n0⟩:ak:=bd
     obtain⟨g,hg,rfl⟩:ak:=ZeB hw0;refine ak (zU (gs g hg)) fun e N _=>?_;exact Zdf N (n0 e)
  ·intro σ HH a_;obtain⟨B,st,v3,v4,v5,rfl,EV,o,z0,er,hll,llB,hlp,lpB⟩:bf:=a_
   rw[X7,X7,#[eU,ZaYc,X7,Zbs]]at er;refine⟨_,rfl,_,rfl,ll,_,_,_,rfl,rfl,ZbO hll,L8 _ _,rfl,_,rfl,?_⟩
   have z0:#[wH,""]=[]:=ZaA
   rw[IJ,z0]
   by_cases ht:ZaHJ
   ·have tb:pK tl=Zaz:=by unfold pK;rw[Yc ht];rfl
    rw[Yc (show Za1I=[] from ht)];rw[tb]at er k1;have er:_=(RO.done,st):=er;refine #[jv,k1 #[os,er] x B HH nx ?_];rw[er];exact EV
   ·have tb:pK tl=Zad:=by unfold pK;rw[X9 ht];rfl
    rw[X9 (show ¬ Za1I=[] from ht)];rw[tb]at er k2;have er:_=(RO.notext ((ZAm:Int)+1),st):=er;have k3:=k2 (dne er (by intro q;cases q));rw[er]at k3;refine aR ⟨_,rfl,ll,_,rfl,#[lv,hll],_,rfl,?_,#[JU,?_]⟩
    ·rw[Yr,X7,X7,YW];lia
    ·have el:((((qs.map (·.1)).map V.str++ZVX).length:Nat):Int)=(ZAm:Int)+1:=by rw[Yr,X7,X7,YW];rfl
     rw[el];exact k3 dx _ (Za1J (ag hdx)) ac
def vc (F:#[am,ZIn,ZIn,gK])[177]{J:Zj5}[337](hJ:∀ H H',J H->Zcw->J H')(LA:#[aay,fdl,(IF J R)])[216](lbi:#[aNU,ZvT,ZvT]):#[cS,4,ZLg,(AQ J R fl)]:=by
 refine #[agK,dF]
 ·obtain⟨f0,lg,gs,rfl,_⟩:=h
  rfl
 ·obtain⟨f0,lg,gs,rfl,hlg,nd,hgl,j0,k⟩:=h
  have hu:=ZaU
  have one:#[pl,1]:=ZaC
  refine ⟨_,(af (bZ 3 ZpX (Qh (NB Zap ZqF Qr) rfl rfl ZaF ZaF)) (
   af (bZ 4 ZpX #[se,Zap]) (
   af #[ag9,5,Zav0,ZRd,Zxf,Zav0,rC (ar qF Zap Zau ZeG)] (
   af (bZ 6 ZpX ZcT) (
   af (qK ZA #[eH,ve,ZBv,#[ad0,Zm3]] (af (bZ 7 ZpX (bP rm ZcC ZBv ZA_)) (
   af #[ag9,8,[Zdm,ZLf,Zdl],#[HR,2,7],(dD (pv 5)),[Zdm,ZLf,Zdl],(rC (jd (Gb (i:=1) LA Zbk rfl (by first | exact Ze1 | exact Zax2 | exact Zaxs) lob lod lbi dw (fW Zay Zap))))] (
   af #[x1,(dD (pv 8)),(iW 9 ZpX),(ae (jX hu Zbl (pv 9) (pv 7) rfl))] (
   af (ax (ng Y8 Za1A Za1B Cw ZcC #[mY,8])) (
   af #[ag9,5,Zazl,#[vu,3],(dD (pv 5)),Zazl,ZaO'] (
   ae (#[aRd,6,ZpX])))))))) (
   ZVQ)))))),?_⟩
  try dsimp only[cxK,cxK']
  intro tr htr;refine⟨_,rfl,ac,[(Zats,ZaJ)],rfl,#[mo,ZSa<=15],?_⟩
  have e0:upd #[qn,tr] tr (.dK (v6 [] [(Zats,V.non)]))=upd H tr ZO':=by
   funext b
   by_cases z:b=tr
   ·rw[z,ac,ac];rfl
   ·rw[ZlC,ZlC,ZlC]
  rw[e0];refine#[c',one,fun lr hlr=>?_];have s1:ay H (upd ZPa lr (ZaI ZP0)):=#[R_,htr] (ag hlr);have cj5:ZST:=(ag htr).free hlr;have bz8:#[aQ,ZPa,lr,ZTS,tr,ZO']:=ag hlr _ _ ac;have av0:#[aQ,ZPa,lr,ZTS,lr,ZTS]:=ac;generalize upd ZPa lr (ZaI ZP0)=H1 at s1 bz8 av0 ⊢;clear e0 hlr;refine#[bw,lg,#[wU,s1,hlg],fun l1 u_=>?_];refine #[akW,ZaBV,u_,(s1 _ _ hlg),fun H2 s2 m_=>?_]
  ·refine ZOJ
   have e1:(!#[AV,#[uZ,r,f0]])=#[AV,r≠f0]:=by
    by_cases z:r=f0
    ·rw[z];simp
    ·rw[Yc (show r≠f0 from z),X9 (#[a9,z (ZmH q)])];rfl
   rw[e1];exact Zyt
  have y_:=Zj6
  have n1:l1≠lr:=fun z=>by rw[z,av0]at u_;cases u_
  refine #[br,(fun m σ HH=>∃ n,m=ZSE-n/\Q7 R f0 gs H lg fl tr lr n σ HH),#[ce,0,rfl,⟨_,_,l1,Zac,Zac,Zac,rfl,y_,#[eV,bz8],#[eV,av0],m_,n1,VI nd,Zdb,?_⟩]]
  ·show 1+#[aZ,(ZaY1 _)]<=_
   have:=ZB (ZaBV) gs
   lia
  clear m_ u_ n1 y_ s2 av0 bz8 s1 H1;intro m σ HH a_;obtain⟨n,rfl,t,c_⟩:Mo:=a_;obtain⟨left,la,v7,v8,v9,rfl,sH,cq9,ak9,hla,nal,TI,hn,hle⟩:bf:=c_;refine#[NY,lr,#[lv,ak9]]
  have hlk:(ZavQ:Int)=(Zdk:Int):=by unfold gF;rw[X7,X7]
  rw[hlk]
  by_cases q_:n<Zdk
  ·obtain⟨p,hp⟩:∃ p,Zav_:=#[a7,Yi q_]
   rw[ZasR];refine aR #[br,Q7 R f0 gs H lg fl tr lr ZdE,(fun σ' H' h'=>#[rm,ZSE-ZdE,n+1,#[da,h']])];have hat:#[aH1,ZCi,Zcg,p.1]:=bR (by unfold gF;rw[YC,YC,hp];rfl);refine⟨_,rfl,_,rfl,lr,_,_,_,rfl,rfl,ZbO ak9,hat,?_⟩;refine#[bw,la,#[jw,hla],ZEf];refine #[akW,R p.1,m_,hla,fun H2 s2 hf2=>?_]
   ·exact⟨rfl,_,rfl,_,rfl,p.1,r,rfl,hJ _ _ j0 (Za1L sK),#[Kq,#[c9,kk H5 s5]]⟩
   have n2:l2≠lr:=fun z=>by rw[z,ak9]at m_;cases m_
   have ax2:∀ {HX:Hp}[124][41][55],HX tr=Zab ZeK->HX b=Zab Zu6->ZSQ:=fun h1 h2 z=>by rw[z,h1]at h2;cases h2
   have sH2:=Za1L s2;have ax4:=#[eV,cq9];have cj6:=#[eV,ak9];have cj8:=#[eV,hla];have cv9:ZST:=cj5;have lfr:=Mt (R p.1) Zc4;obtain⟨fr,efr⟩:∃ fr,fr=ZaLy:=ZbG;rw[<-efr]at hf2 lfr
   have frn:∀ x∈fr,ZxH:=fun x hx z=>by
    rw[efr]at hx;exact TI.dj x z (Zl3 hx).1
   have frd:fr.Nodup:=#[wD,efr,TI.ln.sublist,Zaeq]
   refine#[Bc,l2,rfl,#[jw,hf2]]
   refine de (K:=K) (a:=l2) (xs:=Zajn) (fun i σ HX=>∃ v9,#[aTr,f0,#[cV,p.1],#[bE,l2],HX tr=Zab (.dK (mi (t++Zaaz))),(#[p2,H2,b≠tr,#[a4,HX]])])
    #[c',(by rw[aQf];show H2 tr=Zab (.dK (mi (t++[])));rw[Zd];exact ax4),ZXj] (fun i σ HX _ #[ce,_,_,s3]=>ZbO (s3 _ _ hf2 (ax2 ax4 hf2))) ?_ ?_
   ·intro i y σ HX hi a_;obtain⟨v9,rfl,ax3,s3⟩:az:=a_
    obtain⟨r,B_,rfl⟩:ak:=Zdd;have hil:=ZTB
    have rn:r∉gF (t++Zaaz):=fun z=>by
     rw[DQ,zm]at z;rcases ZSO with z | z
     ·exact frn r (Yy B_) z
     ·obtain⟨j,hj⟩:=Y3 z
      have hj2:#[ah,fr[j]?,r]:=by
       rw[List.getElem?_take]at hj;split at hj
       ·exact hj
       ·cases hj
      have hji:j<i:=by
       rw[List.getElem?_take]at hj;split at hj
       ·assumption
       ·cases hj
      have:=#[a0K,hil,frd,B_.trans,hj2.symm]
      lia
    have lk:#[Uy,(mi (t++Zaaz))]:=by
     unfold mi i9;rw[X7,Yr,X7,YL];exact Zhe
    refine⟨_,rfl,_,rfl,_,rfl,tr,_,rfl,ZtP (k:=#[ee,r]) ax3 lk,_,rfl,?_,fun b o e nb=>?_⟩
    ·rw[ac,PU (d:=Zqu) rn,ZW,YG,B_,YE]
     unfold i9;rw[Yu];rfl
    ·rw[ah nb];exact s3 b o e nb
   ·intro σ HX a_;obtain⟨v9,rfl,ax3,s3⟩:az:=a_
    rw[X7,YJ]at ax3;have bk4:=#[YK,cj6,cj6];have hf5:=#[YK,hf2,hf2];have cv1:=#[YK,cj8,cj8];have sH5:ay H HX:=fun b o e=>s3 b o #[cA,sH2] (fun z=>by rw[z,htr]at e;cases e)
    have lk:#[pj,ZavQ+#[qq,fr.map]]:=by
     unfold gF;rw[X7,X7,X7];exact Zzb (bK Zag)
    refine⟨_,rfl,#[B_,bk4],_,rfl,lr,l2,_,_,rfl,rfl,bk4,hf5,lk,?_⟩
    have bk3:#[aQ,HX,lr,Zajo,lr,#[mR,(gF (t++ZDL)).map]]:=by rw[ac,DQ,zm,Yu]
    have sH6:ay H (upd HX lr Zajo):=cw sH5 cj5
    have bz7:#[aQ,HX,lr,Zajo,tr,(.dK (mi (t++ZDL)))]:=#[eR,(ax2 ax3 bk4).symm,ax3]
    have bk5:#[aQ,HX,lr,Zajo,la,#[mR,ZaY5]]:=#[eR,nal,cv1]
    generalize upd HX lr Zajo=H6 at bk3 sH6 bz7 bk5 ⊢;have TI2:=LH TI hp
    have ett:t++ZakT=t++ZDL:=#[cJ,efr]
    rw[ett]at TI2;refine#[bw,la,#[jw,bk5],ZEi];refine #[aNH,ZaHe,bk5]
    ·refine#[aKn,tr,bz7]
     rw[uV TI2.kn];exact Zyt
    have n3:l3≠lr:=fun z=>by rw[z,bk3]at hl3;cases hl3
    have efl:(Zi5 ZaHe)=Zi5 ZXs:=List.filter_congr fun x hx=>by
     rw[DQ,zm]
     cases e:ZP1 with
     | true=>rw[#[VC,Yc,#[aX,efr,#[aep,hx,e]]]]
     | false =>
      rw[X9];intro z;rcases ZSO with z | z
      ·exact TI.dj x z hx
      ·rw[efr]at z
       rw[ZYk]at e;cases e
    rw[efl]at hf7;refine #[c',_,#[rP,rfl]];refine #[ce,_,l3,⟨_,_,_,rfl,sH6.trans s7,s7 _ _ bz7,s7 _ _ bk3,hf7,n3,TI2,?_,?_⟩]
    ·rw[Yr];lia
    ·unfold i9
     rw[Yr,X7]
     lia
  ·rw[ZEV]
   refine ZwS
   have en:n=Zdk:=Zaf
   rw[en]at TI;exact#[c9,k tr t HH htr sH cq9 ZYl Zag]
def wz {fl c1 cy p:Addr}{pm ct:Value}{B:HA}[332][145](Lm:#[aal,aY,ZFJ,ZFK,ZFL,Za5,Zh']) :
  #[aay,#[HM,aY,ZFJ,ZFK,ZFL,[(Za5,cy)],c1],(IF (yG c c1 aY p B st) (Cj st))]:=by
 refine #[ain,ZvT,Za5]
 ·have hm:=Zj hx
  have hm:#[a3I,Za5]:=hm;rcases ZauI with z | z
  ·cases z
  ·rcases Zhp with z | z
   ·cases z
   ·exact ZaM4
 ·obtain⟨a,b,rfl,_⟩:=h
  rfl
 ·obtain⟨a,b,rfl,⟨_,hc⟩,_⟩:=h
  exact hc
 ·obtain⟨a,b,rfl,⟨S,_⟩,k⟩:=h
  refine #[eg,Tt (bz ii Zay Zbv Zbk dw Zwh)];have nX:#[t6,Zsy]:=Zfu;refine#[aT0,nX,fun H' s'=>?_];exact #[c9,k H' s']
def D0 (F:#[am,ZlY,ZlY,bJ])[53](CK:gL K c0 Pt)[91][78](WS:#[a1F,aY,ZFJ,ZFK,ZFL,Za5,d8,4,ZLg,ZaCX]):#[cP,5,#[a8,Zo1],ZaaX]:=by
 refine #[aim,Em]
 ·obtain⟨p,B,st,f0,rfl,_⟩:=h
  rfl
 ·obtain⟨p,B,st,f0,rfl,S,G,h64,hT,k⟩:=h
  refine #[eg,#[ej,#[DT,oB,0,Za5,Zbk,dw,Zau,ZXb]]];have nG:#[t6,Zhx]:=Zfu;refine⟨_,rfl,_,rfl,p,Za6,_,rfl,Zbj,nG,p,B,st,rfl,S,h64,Zan_⟩;have s1:=ZahA;have aq9:ZaPM:=ac;generalize ZaGB=H1 at s1 aq9 ⊢;have hT1:=ZAP s1;refine ⟨hT1,_,rfl,(Zan9)⟩
  have lP:lg≠Pt:=fun z=>by
   obtain⟨ps,q⟩:=hT1.tbl;rw[z,q]at aq9;cases aq9
  have nd:Zarc:=ZaKA
  have ll:ZaQt:=by rw[kg];unfold aQ;rw[X7]
  refine#[aSn,(p,B,st),lg,bt _ _ aq9 lP,nd,#[aPv,bt],fun q t H' hq s' htr ZYl tl=>?_];have b1:pP Pt H H3:=#[aK',#[cA,s1]];exact k q t Zc4 H' (pP.none b1 hT3 hq) (ZLH b1 s') (Za1M s') htr TI Zag
def BB (F:#[am,ZIk,ZIk,mX])[147][32] : #[oF,4,Zj',II]:=by
 refine #[agL,sO]
 ·obtain⟨p,B,st,m,g,rfl,_⟩:=h
  rfl
 ·obtain⟨p,B,st,m,g,rfl,S,sm,sg,k⟩:=h
  have hu:=ZaU
  refine ⟨_,(af (bZ 3 sO.nd #[e2,f7,ZmZ]) (
   af #[apn,Zm0,#[P_,ZafE,Zay]] (
   ZVQ))),?_⟩
  try dsimp only[cxK,cxK']
  have nW:#[t6,Zo2]:=Zfu;have nI:ZT9:=Zfu;refine#[DM,nW,m,sm];unfold QZ at k
  cases e:ZaGl with
  | none =>
   rw[e]at k;exact k
  | some x =>
   rw[e]at k;refine ZaKw
   cases hin:ZNm with
   | false =>
    rw[hin]at k;have k:ZVK:=k;exact aR #[bw,g,sg,Zakx]
   | true =>
    rw[hin]at k;exact ZUC
def DW (F:#[am,ZLI,ZLI,oS])[40](mt:Zaxf)[107]:#[cP,6,Zj',ZaAl]:=by
 refine #[agL,oH]
 ·obtain⟨p,B,a,b,l,m,rfl,_⟩:=h
  rfl
 ·obtain⟨p,B,a,b,l,m,rfl,S,A,hm,hT,k⟩:=h
  have hu:=ZaU
  refine ⟨_,af (bZ 3 oH.nd ZaAe) (
   af (bZ 4 oH.nd #[p_,i6,Zay]) (
   af #[jl,(iN (jb hu Zbl ZcC)),#[zz,UO.eV,UO.mV,#[fx,aB,Zp7,(be aB (be ZXz gj))]]] (
   cG))),?_⟩
  try dsimp only[cxK,cxK']
  have sm:cH m:=by rcases hm with rfl | rfl;exact A.sa;exact A.sl
  refine⟨_,rfl,_,rfl,_,rfl,p,B,_,m,a,rfl,S,sm,Zec,?_⟩;unfold QZ;rcases hm with rfl | rfl
  ·rw[MI A]
   dsimp only;rw[oy,ZahP];refine⟨_,rfl,_,rfl,p,B,_,m,rfl,S,ZoH,ZtX,hT _ mt,fun q t left H1 hq b1 hT1 hq1 TI tl=>?_⟩;refine#[apQ,q,#[h_,ZnO,hq1]];rw[ZaAU,X9 (VJ A TI)]
   have ls:∀ [425],ZgX<=40->ZgX<=ZbY:=fun h=>Zaf
   rw[Zav]at k;exact aR #[c',(ls (ZaC)),#[bw,m,Zec,fun y1 hy1=>dC _ rfl hy1 _ rfl ⟨#[Sy,ls],#[bw,m,Zec,fun y2 hy2=>#[c',hy2,#[g5,k Zac _ (Dd ZXx b1) (ZafV mt dj b1 hT1) xU]]]⟩]]
  ·rw[MJ A]
   rw[Zv6]at k;exact #[LJ,k _ _ (fk s) Zaor ZNb]
def Bx (F:#[am,ZLK,ZLK,mI])[40] : #[oF,6,Zj',Rt]:=by
 refine #[agL,sM]
 ·obtain⟨p,B,a,b,l,rfl,_⟩:=h
  rfl
 ·obtain⟨p,B,a,b,l,rfl,S,A,k⟩:=h
  refine ⟨_,af (bZ 3 sM.nd #[p_,i6,ZaAe]) (
   cG),?_⟩
  try dsimp only[cxK,cxK']
  refine⟨_,rfl,_,rfl,_,rfl,_,rfl,p,B,_,a,l,rfl,S,Zec,ZpW,?_⟩;unfold QZ;rw[MI A];dsimp only;rw[Zix,Zem];exact ZaiQ
def Li (F:#[am,ZLL,ZLL,rE])[78][11] : #[cS,4,Zlz,(Gx c)]:=by
 refine #[agK,Ly]
 ·obtain⟨p,B,st,rfl,_⟩:=h
  rfl
 ·obtain⟨p,B,st,rfl,S,G,h64,sm,k⟩:=h
  have hu:=ZaU;refine #[aMM,rE,FX,ZFP,(dD ZXb),ZFP,rC (ar qF #[aM0,Zau] Zap ZeG)]
  try dsimp only[cxK,cxK']
  have nos:#[afG,ZUt->ZUs->ZUr->ZUq->ZQ']:=fun B m h1 h2 h3 h4=>sw B h1 h2 h3 h4;have nG:#[t7,Zhx]:=ZjU;have nM:#[t7,ZkE]:=ZjU;have nI:#[t7,ZyM]:=ZjU;have nS:#[t7,ZLo]:=ZjU;have nW:ZavI:=ZjU;have nR:#[t7,Zo2]:=ZjU;have nT:ZavJ:=ZjU;have nP:#[t7,"pairs"]:=ZjU;have nQ:#[t7,ZyV]:=ZjU
  have two:Zpm:=ZaC
  have bv9:#[pl,0]:=Zdb
  have dkk:∀ wl:ZdS,(dk wl).map (·.1)=(aQ wl).map Zdr:=fun wl=>by unfold dk aQ;rw[Y7,Y7];rfl
  have ksl:#[p8,cK,aQ,ZaB]<64:=#[f6,kg,zF,h64]
  have ksm:∀ g,g∈ZZ9↔g∈ZgA:=#[gR,K2];refine#[aSJ,Za6,Zbj,nG B,B,_,S];have sg:=ZahA;have hg1:ZaPM:=ac;generalize ZaGB=H1 at sg hg1 ⊢;refine#[lG,lg,hg1,fun lm hlm=>?_];have ew:cx ZaB=#[dJ,ZaoV] Zajs:=rfl;rw[ew]at k;generalize ZZ9=ks at hg1 ksl ksm k
  refine de (K:=K) (a:=lg) (xs:=ZzG Zaw) #[jT,#[iB,ZDz,ZVf,#[ei,lm,#[mU,Zaxh,Zajs]]]]
   #[c_,Zac,ag hlm,ac] #[ot,#[ce,_,s,_],#[hb,s,hg1]] ?_ ?_
  ·intro i y σ HH hi a_;obtain⟨v,rfl,s2,X_⟩:az:=a_
   obtain⟨g,hg,rfl⟩:ak:=Zdd;have hil:i<Ztx:=Zatn;have gk:=(ksm g).mp (Yy hg);have S2:=(ZeC sg).mono s2
   have tk:ZafW Zcz=ZafW i++[g]:=by rw[YG,hg,YE]
   have ll:#[a0,Zaxh,Zajs]<=64:=ZaN1;refine IM #[la,Za6,S2.ob,nW B,B,st,g,S2,sm g gk,?_];rw[oz gk];refine ZBd
   by_cases hm:#[Cv,g,g]
   ·rw[#[aEh,(wr ZaB g),hm]]
    refine aG #[rP,s2]
    have fg:#[aMH,[]]:=#[cL,ZE,#[CJ,(Y1 z) hm]]
    rw[tk,Z1,fg];simpa using X_
   ·rw[#[aXJ,#[eI,#[Ry,(wr ZaB g)]]]]
    refine aR #[Bc,_,X_,ZFW];refine #[rP,cw s2 hlm]
    have fg:#[aMH,[g]]:=#[cL,ZE,Yb (Yc hm)]
    rw[ac,tk,Z1,fg,Yu];rfl
  ·intro σ HH a_;obtain⟨v,rfl,s2,X_⟩:az:=a_
   rw[X7,YJ]at X_;exact k lm HH (sg.free hlm) (sg.trans s2) X_
def D9 (F:#[am,ZIl,ZIl,o8])[11] : #[cP,5,#[a8,Zba],(yu c)]:=by
 refine #[agL,j4]
 ·obtain⟨p,B,st,g,rfl,_⟩:=h
  rfl
 ·obtain⟨p,B,st,g,rfl,S,G,h64,smk,sm,k⟩:=h
  have hu:=ZaU
  refine ⟨_,af (bZ 2 j4.nd #[se,Zau]) (
   af (bZ 3 j4.nd #[e2,bg,ZmZ]) (
   af (qK Zx #[eH,qF,Zbl,Zau] (af #[aOt,Zay,Zm2] (
   ae (bZ 3 j4.nd #[e2,bg,Zm2])))) (
   ZOd))),?_⟩
  try dsimp only[cxK,cxK']
  have nW:#[t6,ZlX]:=Zfu;refine#[c',Zan3,ZLq];have s1:=#[nl,[Zva],hl];have u_:#[aQ,H,l,(ZaI [Zva]),l,#[mR,(fK ZjA g 1).map]]:=ac;generalize upd H l (ZaI [Zva])=H1 at s1 u_ ⊢;have S1:=ZlL;refine#[la,Za6,ZAE,nW,B,st,g,S1,sm,?_]
  by_cases hg:g∈ZgA
  ·have P:=Av G
   have R:=P.ring hg;have ol:=Zaeb hg;rw[Yb (ZzU hg)]at k;rw[oz hg];unfold fY at k;generalize #[amd,Ao]=M at R k ol;have i1:ZbT (wr ZaB) 1 g=Zajr:=rfl;rw[<-i1];refine #[br,(fun n σ HH=>∃ i,n=M-i/\1<=i/\i<=M/\σ=#[aNk,ZX1]/\Zxa/\#[Dp,l,(fK ZjA g i).map]),f8 _ 1 rfl Zbz R.1 rfl s1 u_];intro n σ HH a_;obtain⟨i,rfl,h1,hM,rfl,s2,m_⟩:uI:=a_;refine ZOJ
   by_cases e:ZbT (wr ZaB) i g=g
   ·rw[#[aEh,ZX1,e]]
    have:i=M:=by
     by_cases q_:i<M
     ·exact #[dg,e,(R.2.2 i Zag q_)]
     ·lia
    rw[this]at m_;exact #[jv,k l HH hl s2 m_]
   ·rw[show #[eI,#[Ry,ZX1]] by simpa using e]
    have q_:i<M:=by
     by_cases q_:i<M
     ·exact q_
     ·have:i=M:=Zaf
      rw[this]at e;exact #[dg,R.2.1,e]
    have ik:ZbT (wr ZaB) i g∈ZgA:=ZaJV;refine aR #[br,(#[ab2,σ'=#[aNk,(ZbT ZjA Zcz g)]/\Zcw/\#[cB,l,ZaBv]]),(fun σ' H' ⟨a1,a2,a3⟩=>#[rm,M-Zcz,i+1,⟨rfl,Zaf,Zaf,a1,a2,a3⟩])];refine#[B',m_,l,m_,#[f6,X7,KZ,Zhe]];have s3:ay H #[qw,HH,l,ZTV,ZaaF]:=ZaBJ
    have hl3:#[aQ,HH,l,#[jr,ZTV,ZaaF],l,ZaBv]:=by rw[ac,Ir,Yu];rfl
    generalize upd HH l #[jr,ZTV,ZaaF]=H3 at s3 hl3 ⊢;have S3:=ZeC s3;refine#[la,Za6,S3.ob,nW,B,st,_,S3,smk _ ik,?_];rw[oz ik];exact #[qh,s3,hl3]
  ·have en:ZaAk:=by
    cases e:ZlO with
    | none=>rfl
    | some m=>exact #[aFk,hg]
   rw[X8 (#[e5,en])]at k;rw[en];exact #[LJ,k dx H' (ZeF s) hx]
def F6 (F:#[am,ZLM,ZLM,qY])(C4:#[Zf,ZLL,4,Gx])[61] : #[cS,6,Zlz,(J5 c)]:=by
 refine #[agK,iC]
 ·obtain⟨p,B,st,rfl,_⟩:=h
  rfl
 ·obtain⟨p,B,st,rfl,S,G,h64,smk,k⟩:=h
  have hu:=ZaU;have bv9:#[pl,0]:=Zdb
  refine ⟨_,(af (bZ 1 ZAQ Za4W) (
   af (bZ 2 ZAQ Zhs) (
   af (iM ZA rfl (dD #[eT,C4,Zm1]) (iW 3 ZAQ) (ae (aN (ar CF Zbl Zau rfl) (af (bZ 4 ZAQ (bC fM Zbk rfl Ap #[p9,Zbl])) (
   af #[x1,(dD (pv 4)),(iW 5 ZAQ),#[aRt,Zau,ZQD]] (
   ae (ax (ng Y8 Zh Zi iA Zay Zm3))))) ZhZ))) (
   ZOd)))),?_⟩
  try dsimp only[cxK,cxK']
  have P:=Av G;refine ZZY;refine ZalC;have sA:=ZaPo;have hp1:ZaPN:=ac;generalize ZaGC=H1 at sA hp1 ⊢;refine⟨bv9,fun lr hlr=>?_⟩;have sB:=#[nm,hlr];have lr0:ZST:=sA.free hlr;have hr1:#[aQ,H1,lr,Zxh,lr,#[nc,#[Nv,0].map]]:=ac;have hp2:=sB _ _ hp1;generalize #[aJr,lr]=H2 at sB hr1 hp2 ⊢;refine#[aSA,(ZeC sA).mono sB,fun ls H3 hls s3 h3=>?_];have cq2:lp≠lr:=jR hp2 hr1 (by intro z;cases z)
  have lsr:ls≠lr:=fun z=>by rw[z,hr1]at hls;cases hls
  have lsp:ls≠lp:=fun z=>by rw[z,hp2]at hls;cases hls
  refine⟨ls,rfl,#[jw,h3],de (K:=K) (a:=ls) (xs:=(cx ZaB).map Zaw) (fun i σ HH=>∃ (Sf:ZlJ)(n:Nat)(as:Zcr)(v3 v4 v5:ZgG),σ=[ZdZ,Zasw,#[bE,lr],v3,v4,v5]/\Zxa/\#[ei,ls,#[mU,cx,ZaB]]/\ZaFJ/\(#[RK,Sf,ZNH])/\n<=ZaqJ /\
    #[ei,lr,Zp0]/\Za3 (#[n7,r,Zbf,HH,Zq7]) as #[NG,0].2/\(Zv2)/\lr∉as)
   ⟨_,0,[],⟨none,none,none,rfl,#[dG,Za1O,sB] s3,h3,#[gp,hp2],#[gO,rfl],Zbs,#[gp,hr1],Zao,(fun a h=>nomatch h),(fun h=>nomatch h)⟩⟩ (fun i σ HH _ zz=>by obtain⟨_,_,_,_,_,_,_,_,h,_⟩:=zz;exact ZbO h) ?_ ?_⟩
  ·intro i y σ HH hi a_;obtain⟨Sf,n,as,b_⟩:iU:=a_;obtain⟨v3,v4,v5,c_,s4,bk2,hp4,hS4,hn4,zx4⟩:=b_;subst c_;obtain⟨hr4,hpa,has,hnr⟩:gY:=zx4
   obtain⟨g,hg,rfl⟩:ak:=Zdd;have hil:i<#[a0,cx,ZaB]:=Zatn;obtain⟨gk,gw⟩:=w1 g (Yy hg);refine qo (Rj P i) fun q1 q2 q3 q4 q5=>?_;have qn:=Qw hg;have lpa:=Yx hpa;refine#[abm,g];rw[hS4]
   by_cases hq:g∈ZNH
   ·rw[Yc hq]
    have e:qR ZaB Zcz=qR ZaB i:=by rw[qn];unfold AS;rw[Yb hq]
    refine aG ⟨Sf,n,as,⟨_,_,_,rfl,s4,bk2,hp4,?_,?_,hr4,?_,has,hnr⟩⟩
    ·rw[e];exact hS4
    ·rw[e];exact hn4
    ·rw[e];exact hpa
   ·rw[X9 hq]
    have e:qR ZaB Zcz=(ZNH++Zame,#[NG,0].2++[Zame]):=by rw[qn];unfold AS;rw[X8 hq]
    refine aR ⟨_,rfl,_,rfl,p,B,st,g,rfl,ZVy,G,h64,smk,smk g gk,?_⟩;rw[Yb (ZzU gk)];intro l H5 hl s5 h5
    have rl:#[bc,(fY ZjA ZgU g),ZgU]:=#[wD,Ct,Zaeb,gk]
    generalize Zame=r at e h5 rl
    have llr:l≠lr:=fun z=>by rw[z,hr4]at hl;cases hl
    have llp:l≠lp:=fun z=>by rw[z,hp4]at hl;cases hl
    refine⟨_,rfl,l,rfl,ZauX,de (K:=K) (a:=l) (xs:=ZTU) #[wy,∃ (Sg:ZlJ)(n':Nat)(v5:ZgG),#[aRR,[ZdZ,Zasw,#[bE,lr],#[cV,g],ZjO,v5],ZaDj,ZaqJ+j]]
     #[aTz,(#[gO,#[f6,aQf,Zd,hS4 y]]),hn4] ZaQb ?_ ?_⟩
    ·intro j y σ HK hj a_;obtain⟨Sg,n',v5,rfl,hp6,hS6,hn6,kk⟩:fF:=a_
     obtain⟨x,hx,rfl⟩:ak:=Zxv;have hjl:j<ZfY:=Zw_;refine ZaT3;refine ZaR5
     ·rw[hS6,YG,hx,YE,<-ZW,<-Bool.decide_or]
      congr 1
      rw[Yp (s:=ZaDj),Yj]
     ·split<;>lia
    ·intro σ HK a_;obtain⟨Sg,n',v5,rfl,hp6,hS6,hn6,kk⟩:fF:=a_
     rw[X7]at hn6;have hr6:=kk _ _ #[qx,hr4] (Yz cq2);refine#[B',hr6,lr,hr6,ZFW]
     have up:#[p2,HK,b≠lr,#[aQ,HK,lr,#[jr,ZpZ,ZaS l],b,o]]:=#[ao',z]
     refine ⟨Sg,n',as++[l],⟨_,_,_,rfl,fun b o z=>up b o (kk b o ((ZAF s5) b o z) (ao z hlp)) (ao z lr0),up _ _ (kk _ _ #[qx,bk2] lsp) lsr,up _ _ hp6 cq2,#[gO,?_],?_,ZN7,?_,#[Kx,?_],Zlp⟩⟩
     ·rw[hS6,e,X7,YJ]
     ·rw[e];show n'<=#[aZ,(ZNH++r)];rw[Yr];exact hn6
     ·rw[e]
      refine cJ (Wz.Paired.mapP' hpa fun a q ha z=>up a _ (kk a _ #[qx,z] (jR z hp4 (by intro q;cases q))) #[a9,#[go,hnr,q,ha]]) #[fz,(up _ _ (kk _ _ h5 llp) llr)]
     ·rcases Zauf with z | z
      ·exact has a z
      ·rw[ZdO];exact s4.free hl
     ·rcases ZSO with z | z
      ·exact hnr z
      ·exact llr (ZdN z).symm
  ·intro σ HH a_;obtain⟨Sf,n,as,b_⟩:iU:=a_;obtain⟨v3,v4,v5,c_,s4,bk2,hp4,hS4,hn4,zx4⟩:=b_;subst c_;obtain⟨hr4,hpa,has,hnr⟩:gY:=zx4
   rw[NF ZaB #[aX,X7,Zbs]]at hpa;exact#[c9,k lr as HH lr0 s4 hr4 hpa has]
def ww (F:#[am,ZLN,ZLN,jj])[61] : #[cP,6,#[a8,ZLh],(Rq c)]:=by
 refine #[agL,gI]
 ·obtain⟨p,r,B,a,b,lo,rfl,_⟩:=h
  rfl
 ·obtain⟨p,r,B,a,b,lo,rfl,S,A,B_,k⟩:=h
  have hu:=ZaU
  refine ⟨_,(af (bZ 2 gI.nd Za4W) (
   af (iM Zx rfl Zxf (iW 3 gI.nd) (ae (aN (ar CF Zbl Zay rfl) (ae (iM Zx rfl (dD #[p_,fM,Zbl]) (iW 4 gI.nd) #[aRt,Zay,Zm3])) ZhZ))) (
   cG))),?_⟩
  try dsimp only[cxK,cxK']
  have G:=ZoH;refine ZalC;have sA:=ZaPo;have hp1:ZaPN:=ac;generalize ZaGC=H1 at sA hp1 ⊢
  refine⟨_,rfl,r,rfl,#[wU,sA,B_],de (K:=K) (a:=r) (xs:=[ZnI,Zaw lo]) #[jT,i<=1/\∃ (Sf:ZlJ)(n:Nat)(v3 v4:ZgG),σ=#[aOc,v3]/\Zxa/\ZaFJ/\(#[RK,Sf,#[b4,i=0,[],Zgm]])/\n<=2*i]
   ⟨Zdb,_,0,Zac,Zac,rfl,sA,hp1,#[gO,rfl],Zbs⟩ #[ot,⟨_,_,_,_,_,_,s,_⟩,#[hb,s,B_]] ?_ ?_⟩
  ·rintro i y σ HH hi ⟨i1,Sf,n,v3,v4,rfl,s4,hp4,hS4,hn4⟩
   match i,i1,hi with
   | 0,_,hi =>
    cases hi;refine#[abm,a];rw[hS4,Zav,X9 (ZaM)];refine #[aaJ,a,ZVy,G,Zec];rw[oy,ZahP];intro l H5 hl s5 h5;rw[#[CG,#[cR,0].worn.length,2],Xo A (Zal rfl),LO]at h5
    have llp:l≠lp:=fun z=>by rw[z,hp4]at hl;cases hl
    refine⟨l,rfl,ZauX,de (K:=K) (a:=l) (xs:=#[gm,0].map Zaw) #[wy,∃ (Sg:ZlJ)(n':Nat)(v4:ZgG),#[aRR,#[aOc,#[cV,a]],#[gm,0].take j,j]]
     #[aTz,hS4,Zag] ZaQb ?_ ?_⟩
    ·intro j y σ HK hj a_;obtain⟨Sg,n',v5,rfl,hp6,hS6,hn6,kk⟩:fF:=a_
     obtain⟨x,hx,rfl⟩:ak:=Zxv;have hjl:j<2:=Zw_;refine ZaT3;refine ZaR5
     ·rw[hS6,YG,hx,YE,<-Bool.decide_or]
      congr 1
      rw[Yp,Yj]
     ·split<;>lia
    ·intro σ HK a_;obtain⟨Sg,n',v5,rfl,hp6,hS6,hn6,kk⟩:fF:=a_
     have nlp:#[a_,lp]:=hlp;refine⟨Ya 1,Sg,n',_,_,rfl,fun b o e=>kk b o #[qx,Zav2] (fun z=>by rw[z,nlp]at e;cases e),hp6,hS6,hn6⟩
   | 1,_,hi =>
    cases hi;refine#[abm,lo];rw[show Sf lo=Zaz by rw[hS4];simp[A.al.symm,A.bl.symm]];refine #[aaJ,lo,ZVy,G,ZpW];rw[Zix,Zem];exact #[aiP,ZauW]
  ·rintro σ HH ⟨e,_⟩
   exact #[v',e]
def Lg (F:#[am,ZIm,ZIm,wN])[32][149] : #[cP,4,#[a8,Zba],(yt c)]:=by
 refine #[agL,Lx]
 ·obtain⟨p,B,st,g,rfl,_⟩:=h
  rfl
 ·obtain⟨p,B,st,g,rfl,S,sm,h64,k⟩:=h
  have hu:=ZaU;have nI:ZT9:=Zfu;have nQ:Zaue:=Zfu
  refine ⟨_,(af ZaKa (
   #[ej,(yp (Tj 1 (Ra hr ZaF)) #[amQ,eE,ZmZ] Zhs ZeG)])),?_⟩
  try dsimp only[cxK,cxK']
  refine ZaKw
  cases e:ZNm with
  | false =>
   rw[e,ZbQ]at k;exact aR #[bw,g,sm,Zakx]
  | true =>
   rw[e,Zav]at k;refine aG #[la,Za6,Zbj,nQ,B,st,g,S,h64,fun l H1 hl s1 h1=>#[nU,ZEf]];have s2:=#[nm,m_];refine⟨l,l2,_,_,rfl,rfl,JV (ZbO (s2 _ _ h1)),JV (ns:=[]) (ZbO ac),Znx⟩
   have eb:(if Zh1 then !b else b)=#[AV,ZOg]:=by
    show b=_
    have e1:(Cz ZG5=Cz [])↔ZOg:=by
     rw[Na];constructor
     ·intro z
      have:=#[xL,z];rw[kg]at this;exact List.length_eq_zero_iff.mp Zbu
     ·intro z;rw[z];exact Vn
    by_cases hc:ZOg
    ·rw[Yc hc,hb.mpr (e1.mpr hc)]
    ·rw[X9 hc]
     cases b with
     | true=>exact #[dg,(e1.mp (hb.mp rfl)),hc]
     | false=>rfl
   rw[eb];exact k _ ZGK
def Lf (F:#[am,ZLO,ZLO,nj])[149] : #[cS,2,ZasL,(JZ c)]:=by
 refine #[agK,wG]
 ·obtain⟨p,l,B,st,L,r,rfl,_⟩:=h
  rfl
 ·obtain⟨p,l,B,st,L,r,rfl,S,hl,h64,ci,hL,k⟩:=h
  have hu:=ZaU;have nQ:Zaue:=Zfu
  refine ⟨_,(af (bZ 2 wG.nd (#[gn,Gc,ai nj,zM,[Zba],ZvW,Dg,Zxf,#[ng,⟨#[ag7,0,[Zba]],fS,pv 0,sI⟩]])) (
   af #[x1,Zxf,(iW 3 wG.nd),(ae #[m',#[n8,#[adX,Ca,T.any,Za1P,(dv (#[gn,iJ,ai nj,zM,[Za1Q,ZafA],#[vu,2],Dg,(dD (bz eE Zap Zbv Zbk dw Zm2)),#[ag8,[Za1Q,ZafA],As (wE hu Zap Zau)]]))]],Zbl])] (
   #[ej,ZqF]))),?_⟩
  try dsimp only[cxK,cxK']
  refine#[bw,l,#[jw,hl],fun dm hdm=>?_];have s1:=#[GO,hdm]
  refine de (K:=K) (a:=l) (xs:=ZTU) #[gs,#[iB,[v],Zij,HK dm=Zab #[k5,((ZAa i).foldl ju [])]]]
   #[c_,Zac,s1,ac] #[PN,hl] ?_ ?_
  ·intro i y σ HK hi a_;obtain⟨v,rfl,t1,hd⟩:az:=a_
   obtain⟨x,hx,rfl⟩:ak:=Zdd;have hil:i<ZfY:=Zw_;have ln:=yN (ZAa i) [];rw[YL]at ln;refine Kd ⟨_,rfl,_,ZTG,hd,rfl,by unfold vU;rw[X7];exact bK (by simp at ln;lia),?_⟩;refine #[rP,cw t1 hdm];rw[ac,JS,YG,hx,YE,aQa];rfl
  intro σ H1 a_;obtain⟨v,rfl,t1,hd⟩:az:=a_;rw[X7,YJ]at hd;have isin:∀ (HH:Hp)(x:Int),#[ei,dm,#[k5,(ZAb ju [])]]->fq HH dm (Zae x) (d6 (vU (ZAb ju [])) #[q1,x]):=fun HH x h=>#[h_,ZTG,h]
  have cz6:∀ x,#[AW,x∈ZAb ju [],#[AV,x∈r]]:=fun x=>by
   have:=yO r [] x;simp only[aQq,false_or]at this;exact Zaeu Zbu
  refine⟨_,rfl,l,rfl,#[wU,t1,hl],de (K:=K) (a:=l) (xs:=ZTU) #[jT,∃ v3:ZgG,σ=[ZdZ,ZjO,Zasy,v3]/\ZVf/\#[ey,ZAa i,#[kM,! qw Zbo r x]]]
   #[aFK,#[fZ,by simp at hx]] #[ot,ZB8,#[hb,s2,(t1 _ _ hl)]] ?_ ?_⟩
  ·intro i y σ HH hi a_;obtain⟨v3,rfl,t2,hm⟩:az:=a_
   obtain⟨g,hg,rfl⟩:ak:=Zdd;have SH:=ZeC (Zmu t2);refine#[la,Za6,SH.ob,nQ,B,st,g,SH,ZaNn,fun lq H5 hlq s5 h5=>#[lG,lq,h5,ZqP]];have c64:=ci.cl g
   have sl:#[bc,ZG5,64]:=#[hJ,kg]
   have hd5:=s5 _ _ (t2 _ _ hd)
   have em:ZX5=(#[G5,0].map Zaxj).any id:=by unfold qw;rw[List.any_map];rfl
   generalize cK (gX Zbo g)=ps at h5 sl em
   refine de (K:=K) (a:=lq) (xs:=ZtI Zaw) #[wy,#[iB,[v,Zasy],ay H5 HK,#[iy,#[mT,((ps.take j).map Zaxj).map]]]]
    ZxU #[Qf,ZB8,#[hb,s2,h5]] ?_ ?_
   ·intro j y σ HK hj a_;obtain⟨v,rfl,t3,hq3⟩:az:=a_
    obtain⟨x,hx,rfl⟩:ak:=Zxv;have hjl:j<ZfR:=Zw_;refine iS ⟨_,rfl,_,rfl,dm,_,rfl,isin HK x (t3 _ _ hd5),_,hq3,ZaO1,?_⟩;refine #[rP,cw t3 hq];rw[ac,Kf,cz6,YG,hx,YE,Yu,Yu];rfl
   ·intro σ HK a_;obtain⟨v,rfl,t3,hq3⟩:az:=a_
    rw[X7,YJ]at hq3;refine#[aRN,hq3];rw[<-em]
    cases e:ZX5 with
    | true =>
     refine aG #[c',#[dG,t2.trans,s5] t3,Zly];rw[YG,hg,YE]at hx;rcases Zr1 with z | z
     ·exact hm x z
     ·rw[ZdO,e];rfl
    | false =>
     refine aR Zhi;have fe:rH Zbo r=Zab g:=Jk hm hg (#[adN,#[eI,! ZX5],e]);rw[fe]at k;exact k HK (#[dG,#[dG,Zmu,t2],s5] t3)
  ·intro σ HH a_;obtain⟨v3,rfl,t2,hm⟩:az:=a_
   rw[X7,YJ]at hm
   have fe:rH Zbo r=Zac:=#[aKB,hm x hx]
   rw[fe]at k;exact k HH (Zmu t2)
def wx (F:#[am,ZLP,ZLP,gJ])(vG:#[Zf,ZLM,6,J5])(CZ:#[eO,ZLO,2,ZasL,(JZ c)]) : #[cS,7,Zlz,(CN c)]:=by
 refine #[agK,wH]
 ·obtain⟨p,B,st,L,rfl,_⟩:=h
  rfl
 ·obtain⟨p,B,st,L,rfl,S,G,h64,smk,ci,hL,k⟩:=h
  have hu:=ZaU;refine #[aMM,gJ,pG,ZaDb,(dD #[eT,vG,Zm1]),ZaDb,rC (iN (Aq #[eT,CZ,ZayK]))]
  try dsimp only[cxK,cxK']
  have P:=Av G;obtain⟨rs1,rs2⟩:=Gm P;refine#[aSA,S,fun lr as H1 hlr s1 h1 pa fr=>#[lG,lr,h1,ZqP]];generalize oG ZaB=rs at pa k rs1 rs2;have r_:=Yx pa
  refine de (K:=K) (a:=lr) (xs:=ZpZ) #[gs,#[apa,σ=ZDz/\ZxD/\#[iy,ZFe]/\#[gj,(#[n7,r,Zbf,HK,Zq7]),bs,ZaeK,Zom]/\(Zapb)/\Zkv<=i]]
   (f8 none [] rfl (ag hq) ac Zao (fun b h=>nomatch h) Zbz) #[qo,⟨_,_,_,s2,_⟩,#[hb,s2,h1]] ?_ ?_
  ·intro i y σ HK hi a_;obtain⟨v,bs,rfl,t1,C_,pb,sub,bl⟩:kf:=a_
   obtain⟨a,ha,rfl⟩:ak:=Zdd;have hil:ZasA:=Zath;refine #[adf,pa,ha,fun r B_ hA=>?_];have rl:=rs2 r (Yy B_);have SK:=ZaIj
   have ex:ZaeL (Zom)=ZaeK (Zom)++ZvY (Zom):=by rw[YG,B_,YE,Z1]
   have noq:∀ b∈as,b≠q:=fun b hb z=>by
    obtain⟨j,hj⟩:=Y3 hb;refine #[adf,pa,hj,fun r' _ e=>?_];rw[z,hq]at e;cases e
   have cq4:∀ H5,ZDI->ZaEp=[]->#[aTA,H5,H5 q=Zab ZFe,#[gj,(#[n7,r,Zbf,H5,Zq7]),bs,ZaeL,Zom]]:=fun H5 s5 e=>f8 _ bs rfl (Zmu s5) ZQ6 (#[Ah,ex,e,Zd,ZiU pb fun b z e=>ZUh]) sub Zag
   have cv7:∀ H5,ZDI->ZaEp=[r]->#[amB,H5 q=Zab ZPv,#[aTA,#[qw,H5,q,ys,ZC2],#[aKj,q,ZFe],#[gj,(fun b (r:Zbf)=>#[aKj,b,Zq7]),bs,ZaeL,Zom]]]:=fun H5 s5 e =>
    (jD _ ZQ6 Zazz _ ⟨bs++[a],rfl,ZakS,ZN7,by
     rw[ex,e]
     exact #[a1p,pb,#[eR,(noq b (sub b hb)),ZUh],#[aX,ah (noq a (Yy ha)),s5 _ _ (t1 _ _ hA)]],fun b hb=>by
     rcases Zaug with z | z
     ·exact sub b z
     ·rw[ZdO];exact Yy ha,ZYr⟩)
   refine IM ⟨_,rfl,_,rfl,p,a,B,st,L,r,rfl,SK,t1 _ _ hA,Zaf,ci,hL,#[Kq,Zhi]⟩
   cases e:rH Zbo r with
   | none =>
    rw[#[c2,#[AX,Tl Zac=Zs3],ZrN]];exact aR #[c9,cv7 H5 s5 (Zs')]
   | some g =>
    rw[show #[AY,Tl #[cx,g]=Zs3] from X9 (by intro z;cases z)];exact aG (cq4 H5 s5 (Zs'))
  ·intro σ HK a_;obtain⟨v,bs,rfl,t1,C_,pb,sub,bl⟩:kf:=a_
   rw[X7,r_,YJ]at pb;exact k q bs HK #[qQ,hq] (ZeF t1) C_ pb #[fa,fr b #[dy,sub]]
def HV (F:#[am,ZLQ,ZLQ,tZ])(kr:#[Zf,ZLP,7,CN]) : #[cP,8,Zlz,ZaE1]:=by
 refine #[agL,Iy]
 ·obtain⟨p,B,a,b,l,rfl,_⟩:=h
  rfl
 ·obtain⟨p,B,a,b,l,rfl,S,A,k⟩:=h
  refine ⟨_,(af #[Zj,(Gj #[eT,kr,Zm1] ZoI)] (
   cG)),?_⟩
  try dsimp only[cxK,cxK']
  refine⟨_,rfl,p,B,_,Zgm,rfl,S,ZoH,ZtX,NQ A,O9 A,ZaM,fun lb ab H1 hlb s1 h1 pb _=>?_⟩;have r_:=Yx pb;refine #[eg,Zal #[dB,ZbO h1]]
  cases ab with
  | nil=>rw[List.length_nil]at r_;exact #[atH,r_.symm,(WA A)]
  | cons x xs=>exact aR (Zaxb)
def HW (F:#[am,ZLR,ZLR,uc])[67] : #[cP,6,#[a8,Zdl],ZawR]:=by
 refine #[agL,IA]
 ·obtain⟨p,B,a,b,l,g,rfl,_⟩:=h
  rfl
 ·obtain⟨p,B,a,b,l,g,rfl,S,A,hg,k⟩:=h
  refine ⟨_,af #[aMx,#[n8,#[p_,jS,Zau]],UO.eN,UO.mN] (
   cG),?_⟩
  try dsimp only[cxK,cxK']
  have sg:ZdF:=by rcases hg with rfl | rfl;exact A.sa;exact A.sl
  refine⟨_,rfl,_,rfl,p,B,_,g,rfl,S,sg,Q9,?_⟩;rcases hg with rfl | rfl
  ·rw[oy,ZahP]
   rw[Zav]at k;intro H1 s1;rw[Wq,X9 (ZaY_ _ _)];exact#[c9,aR #[bw,g,Zec,#[ahR,Zaxb]]]
  ·rw[Zix,Zem]
   rw[X8 (#[age,A.al])]at k;exact ZaiQ
def DX (F:#[am,ZIp,ZIp,j7])[67] : #[cP,5,Zlo,ZawQ]:=by
 refine #[agL,vp]
 ·obtain⟨p,B,st,L,one,other,rfl,_⟩:=h
  rfl
 ·obtain⟨p,B,st,L,one,other,rfl,S,sm1,sm2,ci,hL,k⟩:=h
  have two:Zpm:=ZaC
  refine ⟨_,(af (NE (ix:=3) (so:=ai j7) (N:=xJ) (N':=ZFP) (src:=ZRd) rfl rfl Dg rfl (Au (bO (fW Zau Zay))) rfl rfl rfl PF (fun cl C s2 H2 ex xe hx=>⟨#[ag7,0,ZFP],fS,bC jS Zbk rfl hx ZayK⟩) vp.nd rfl rfl) (
   af #[aMx,ZaJx,U.eS,U.mS] (
   ae (aN #[n8,#[adX,vK,ZAf,Za1R,Zm2]] (ae (#[zz,UO.eN,UO.mN,#[fx,Zp7,aB,(be ZXz (be aB gj))]])) ZhZ)))),?_⟩
  try dsimp only[cxK,cxK']
  refine Zawy;have s1:=#[lM,Zajl,ZeA,ht];have hT:#[aQ,H,t,Zas0,t,Zas0]:=ac;generalize #[gq,H,t,Zajm]=H1 at s1 hT ⊢;refine #[c_,t,#[a7,Zc7 hT],(ZqP)];have c64:∀ g,ZaAI:=#[gR,ZaNn];unfold O4 at k
  refine uO (K:=K) (a:=t) (xs:=Zajm) #[gs,∃ v:ZgG,σ=ZDz/\ZxD/\#[iy,#[mT,((Zajz i).map (Bp Zbo)).map]]/\#[kc,Zajz i,ZNn]]
   (dN Zac rfl (ag hq) ac #[DV,#[v',hg]]) #[VR,hT] ?_ ?_
  ·intro i y σ HK hi a_;obtain⟨v,rfl,t1,C_,al⟩:qp:=a_
   have hil:=ZDo
   obtain⟨g,eg,hg0,sg⟩:∃ g:Int,y=Zae g/\#[ah,Zajy[i]?,g]/\ZdF:=by
    match i,hi with
    | 0,hi=>exact #[rn,one,ZUd,sm1]
    | 1,hi=>exact #[rn,ZeA,ZUd,sm2]
   subst eg;refine iS ⟨_,rfl,_,rfl,p,B,st,g,rfl,ZaIj,sg,c64 g,?_⟩
   have tk:Zajz Zcz=Zajz i++[g]:=#[cL,YG,hg0]
   cases e:ZNm with
   | true =>
    rw[Zav];intro H2 s2;refine dC _ (s2 _ _ C_) (#[Ah,X7,X7,YL,bK (ZJ6)]) _ rfl #[br,#[akR,s2],?_]
    ·rw[ac,tk,Yu,Yu]
     rfl
    ·rw[tk]
     intro z hz;rcases Zd_ hz with z1 | z1
     ·exact al z z1
     ·rw[ZdN z1];exact e
   | false =>
    rw[ZbQ];intro dx H2 s2 hx2;have s02:=#[dG,ZeF,t1] s2
    match i,hg0,al with
    | 0,hg0,al =>
     cases hg0;rw[ZaEQ]at k;exact ZaPA
    | 1,hg0,al =>
     cases hg0;rw[ZaCO,ZaEQ]at k;exact ZaPA
  ·intro σ HK a_;obtain⟨v,rfl,t1,C_,al⟩:qp:=a_
   have s01:=ZeF t1;rw[ZaCO,Yb (al ZeA ZaN)]at k;refine ZOJ
   by_cases ne:one=ZeA
   ·rw[Yb ne]at k
    rw[Yc (Zp Zaw ne)];exact aR #[bw,one,sm1,#[ahR,k _ s01]]
   ·rw[X8 ne]at k
    rw[#[Ww,ne]];refine aG ⟨_,rfl,q,_,rfl,ZbO C_,_,rfl,?_⟩;rw[#[Ka,(((Zajz #[aZ,Zajm]).map (Bp Zbo)).all id)=(ZWM&&ZWN)]]
    by_cases hn:ZaKP
    ·rw[Yb hn]at k
     rw[show #[eI,ZWM&&ZWN] by unfold Bp;simp[hn.1,hn.2]];exact aG (k _ s01)
    ·rw[X8 hn]at k
     rw[show #[kM,ZWM&&ZWN] by
      unfold Bp
      rw[<-Bool.not_eq_true,Y4,decide_eq_true_iff,decide_eq_true_iff];exact hn]
     exact aR #[bw,one,sm1,#[aMt,ZeA,sm2,fun y2 hy2=>dC y2 rfl hy2 _ rfl #[ahQ,k _ s01]]]
def HY (F:#[am,ZLS,ZLS,ud])[128] : ZaJk:=by
 refine #[agL,IB]
 ·obtain⟨p,B,a,b,l,g,rfl,_⟩:=h
  rfl
 ·obtain⟨p,B,a,b,l,g,rfl,S,A,hg,k⟩:=h
  refine ⟨_,af ZaBe (
   cG),?_⟩
  try dsimp only[cxK,cxK']
  have sg:ZdF:=by rcases hg with rfl | rfl | rfl;exact A.sb;exact A.sl;exact A.sa
  refine ZaT7;unfold O4;rw[oy,ZahP];rcases hg with rfl | rfl | rfl
  ·rw[MV A,#[ahO,a],ZwM,X8 (fun z=>by rw[Wq]at z;cases z.1)]
   rw[Zav]at k;exact Zakp
  ·rw[Zix,Zem]
   rw[ZSH,Zv6]at k;exact ZaiQ
  ·rw[oy,ZahP,Zav]
   rw[ZwM,Zav]at k;exact Zakp
def F4 (F:#[am,ZLT,ZLT,qV])[128] : ZaJk:=by
 refine #[agL,Gr]
 ·obtain⟨p,B,a,b,l,g,rfl,_⟩:=h
  rfl
 ·obtain⟨p,B,a,b,l,g,rfl,S,A,hg,k⟩:=h
  refine ⟨_,af ZaBe (
   cG),?_⟩
  try dsimp only[cxK,cxK']
  have sg:ZdF:=by rcases hg with rfl | rfl | rfl;exact A.sb;exact A.sl;exact A.sa
  refine ZaT7;unfold O4;rw[oy,ZahP];rcases hg with rfl | rfl | rfl
  ·rw[MV A,#[ahO,a],ZwM,X8 (fun z=>by rw[Wq]at z;cases z.1)]
   rw[Zav]at k;exact Zakp
  ·rw[Zix,Zem]
   rw[ZSH,Zv6]at k;exact ZaiQ
  ·rw[oy,ZahP,Zav]
   rw[ZwM,Zav]at k;exact Zakp
def Ad (F:#[am,ZIr,ZIr,k9])(qe:#[ka,ZAC,3,Zjc,Oh])[21] : #[cP,5,#[a8,ZaH],ZHf]:=by
 refine #[agL,iO]
 ·obtain⟨p,l,B,a,b,lo,rfl,_⟩:=h
  rfl
 ·obtain⟨p,l,B,a,b,lo,rfl,S,A,row,k⟩:=h
  have hu:=ZaU
  refine ⟨_,af (bZ 2 iO.nd #[PQ,qe]) (
   af (iM Zx rfl Zxf #[aam,(iW 3 iO.nd),(iW 4 iO.nd)] #[dq,(bz br Zay Zbv Zbk aA ZaBA)]) (
   cG)),?_⟩
  try dsimp only[cxK,cxK']
  have nT:#[t6,ZAC]:=Zfu;refine⟨_,rfl,p,Za6,_,rfl,Zbj,nT,p,B,ZEB,rfl,S,(O9 A).kn,ZtX,fun x B1 H1 nx S1 fr1 s1=>?_⟩;have E1:Ev c H H1 x B1 ZcR:=⟨s1,S1,ZoH,fr1⟩;refine ak (id row) fun qs hq hqp=>?_;have hql:=Yx hqp
  refine⟨_,rfl,l,rfl,#[wU,E1.same,hq],de (K:=K) (a:=l) (xs:=ZKy ZaS) #[jT,i=0/\∃ (v w:ZgG),σ=[ZdZ,ZjO,#[bE,x],v,w]/\Ev c H HH x B1 ZcR]
   (gU rfl Zac Zac rfl E1) #[ot,⟨_,_,_,_,E⟩,#[hb,E.same,hq]] ?_ ?_⟩
  ·intro i y σ HH hi a_;obtain⟨rfl,v,w,rfl,E⟩:G6:=a_
   obtain⟨bx,hb,rfl⟩:ak:=Zdd;refine #[adf,hqp,hb,fun e he hB=>?_];cases he;have hbK:=E.same _ _ hB;have nX:#[t5,(bh B1),Zer]:=zq B1 Zb7;refine#[qs,bx,hbK];refine⟨_,rfl,x,B1.dx,_,rfl,E.hall.ob,nX,_,rfl,_,rfl,x,B1,_,a,b,rfl,E.hall,xD,Zec,A.sb,?_⟩;exact WH A #[ako,(E.same.trans s)]
  ·rintro σ HH ⟨e,_⟩
   rw[X7,hql]at e;cases e
def Nb (F:#[am,ZLU,ZLU,AR])[142] : #[cP,6,#[a8,ZaH],ZHf]:=by
 refine #[agL,NO]
 ·obtain⟨p,l,B,a,b,lo,rfl,_⟩:=h
  rfl
 ·obtain⟨p,l,B,a,b,lo,rfl,S,A,row,k⟩:=h
  refine ⟨_,af (ax #[p_,gC,Zau]) (
   cG),?_⟩
  try dsimp only[cxK,cxK']
  exact#[aSD,k]
def Bw (F:#[am,ZLV,ZLV,mH])[142] : #[cS,6,ZasK,(J6 c)]:=by
 refine #[agK,sL]
 ·obtain⟨p,l,B,a,b,lo,rfl,_⟩:=h
  rfl
 ·obtain⟨p,l,B,a,b,lo,rfl,S,A,row,k⟩:=h
  refine ⟨_,(af (WL (i:=2) gC Zbk rfl Zwh rfl rfl sL.nd rfl ZJz (Qn rfl U.mN rfl U.mS rfl U.mT (fun ea oe=>ZauH) Nu)) (
   cG)),?_⟩
  try dsimp only[cxK,cxK']
  exact#[aSD,fun dx H2 s2 _=>#[c8,Pw UO.tn VM.ts VM.tt,aR (k H2 s2)]]
def Aa (F:#[w1,Za1T,kZ]) : #[dD,ZoE,ZVB]:=by
 refine #[agK,AF]
 ·obtain⟨k,dx,p,rfl,_⟩:=h
  rfl
 ·obtain⟨k,dx,p,rfl,hk,q⟩:=h
  refine ⟨_,af #[vy,Zau] (
   af #[vy,ZqF] (
   af #[vy,ZcT] (
   ae (iq Zap ZqF rfl)))),?_⟩
  try dsimp only[cxK,cxK']
  refine⟨_,rfl,_,rfl,k,ck,dx,[],rfl,hk,ZkI,ZafX,ZaoR,?_⟩;refine#[aa2,UO.k.nP,#[PA,1]];refine#[aa2,UO.k.nD,(#[Ec,Re,2])];refine#[aa2,UO.k.nB,(#[Ec,U2,3])];rw[o9,o9,o9,Jv];exact q
def yd (F:#[am,ZafY,Za1U,jJ])(pT:#[eO,ZLV,6,ZasK,(J6 c)]) : #[cP,7,ZEN,ZaHs]:=by
 refine #[agL,yi]
 ·obtain⟨k,r,D,B,a,b,l,rfl,_⟩:=h
  rfl
 ·obtain⟨k,r,D,B,a,b,l,rfl,I,A,row,q⟩:=h
  refine ⟨_,af #[Zj,#[n8,#[eT,pT,(fW Zfp Zau)]]] (
   cG),?_⟩
  try dsimp only[cxK,cxK']
  refine⟨_,rfl,k,ck,D.dx,_,_,rfl,I.kp.ob,ZkI,ZafX,Jw,_,rfl,D.p,r,B,a,b,l,rfl,I.hall,A,row,ZSs⟩;exact aR (q Zac _ s1 xU)
def ye (F:#[am,ZafZ,Za1V,jK]) : #[dD,Zjc,(Rs ck)]:=by
 refine #[agK,yj]
 ·obtain⟨k,B,rfl,_⟩:=h
  rfl
 ·obtain⟨k,B,rfl,S,q⟩:=h
  refine ⟨_,af #[m',#[Ha,Zfp],Zfn] (
   cG),?_⟩
  try dsimp only[cxK,cxK']
  exact⟨_,rfl,k,ck,Za6,_,_,rfl,Zbj,ZkI,UO.k.nP,PQ,_,rfl,aR q⟩
def Bu (F:#[am,"due",Za1W,mG])(kD:#[aHR,ZafZ,1,(Rs ck)]) : #[cS,2,Zjc,(Rr ck)]:=by
 refine #[agK,BI]
 ·obtain⟨k,B,rfl,_⟩:=h
  rfl
 ·obtain⟨k,B,rfl,S,q⟩:=h
  refine ⟨_,af #[Fa,#[xi,(oF kD Zap ZkI Zbk dw)]] (
   cG),?_⟩
  try dsimp only[cxK,cxK']
  exact⟨_,rfl,k,Za6,_,rfl,Zbj,ZMG,k,B,rfl,S,rfl,_,rfl,aR q⟩
def Ab (F:#[am,Zaf0,Za1X,k7])(nZ:#[aHR,"due",2,(Rr ck)]) : #[cP,6,Zjc,ZaLp]:=by
 refine #[agL,qQ]
 ·obtain⟨k,D,rfl,_⟩:=h
  rfl
 ·obtain⟨k,D,rfl,I,q⟩:=h
  refine ⟨_,af (bZ 1 qQ.nd (oF nZ Zap ZkI Zbk dw)) (
   af #[zA,#[Ha,Zau],UO.eP,UO.mP] (
   cG)),?_⟩
  try dsimp only[cxK,cxK']
  refine⟨_,rfl,k,D.dx,_,rfl,I.ob,ZMG,k,D,rfl,I,?_⟩;exact#[hm,aR (q Zac _ Zg6 xU)]
def DU (F:#[am,Zck,Za1Y,oQ])(f6:ZaM9) : #[cP,6,ZkK,ZaE2]:=by
 refine #[agL,Ek]
 ·obtain⟨k,D,B,a,b,l,rfl,_⟩:=h
  rfl
 ·obtain⟨k,D,B,a,b,l,rfl,I,A,q⟩:=h
  refine ⟨_,af (ax (bz f6 Zfp Zbv Zbk aA ZmZ)) (
   cG),?_⟩
  try dsimp only[cxK,cxK']
  have nX:#[t6,Zck]:=Zfu;refine⟨_,rfl,k,ck,D.dx,_,_,rfl,I.kp.ob,ZkI,ZafX,Jw,D.p,Za6,_,rfl,I.hall.ob,nX,_,rfl,D.p,B,ZEB,a,rfl,I.hall,xD,Zec,fun m hm=>?_,JE A fun H' s=>q Zac _ s xU⟩;rw[oy]at hm;cases hm;exact ZaFR
def DV (F:#[am,ZLW,ZLW,oR]) : #[dD,[Zf_],NX]:=by
 refine #[agK,jY]
 ·obtain⟨l,ps,rfl,_⟩:=h
  rfl
 ·obtain⟨l,ps,rfl,row,hlen,k⟩:=h
  have hu:=ZaU
  refine ⟨_,af (bZ 1 jY.nd Np) (
   af (iM ZA rfl (dD (pv 0)) #[aam,(iW 2 jY.nd),(iW 3 jY.nd)] (af (jX hu Zau ZW6 Zoa rfl) (
   ae (jX hu Zau #[h7,Zbl,Zay] Zoa rfl)))) (
   Zxz)),?_⟩
  try dsimp only[cxK,cxK']
  refine ak (id row) fun as hl hp=>?_;have r_:=Zw9;intro kn hkn;have sA:=#[fj,.dT [],hkn];have hs1:#[aQ,H,kn,Zaxl,kn,#[uY,[]]]:=ac;generalize upd H kn (.dT [])=H1 at sA hs1 ⊢
  refine⟨_,rfl,l,rfl,#[wU,sA,hl],de (K:=K) (a:=l) (xs:=ZpZ) #[jT,∃ (v1 v2:ZgG)(ml:ZdS),σ=[ZjO,#[bE,kn],v1,v2]/\Zxa/\ZY4/\Zad9<=2*i/\#[aQ_,Ke (ps.take i) a b]]
   (gf none none [] rfl sA hs1 Zbz (fun a b=>⟨fun z=>(by cases z),#[aV,by simp[Ke]at z]⟩)) #[ot,#[aaS,s2],#[hb,s2,hl]] ?_ ?_⟩
  ·intro i y σ HH hi a_;obtain⟨v1,v2,ml,rfl,t1,S_,ln,al⟩:fF:=a_
   obtain⟨b,hb,rfl⟩:ak:=Zdd;have hil:ZasA:=Zati;refine #[adf,hp,hb,fun p hp0 hB=>?_];refine#[ju,b,#[nz,t1,hB]]
   have two:Zpm:=ZaC
   have put:∀ (HA:Hp)(mm:ZdS)(x z:Int)(kt:Addr),HA kn=Zab #[uY,mm]->mm.length<=900->HA kt=Zac->nO ZaND kn #[ak,kt] (ZcH Zad) (upd ZaND kn #[uY,(l9 mm (x,z))]):=fun HA mm x z kt e1 e2 e3=>by
    rw[<-P2];exact nO.t (k:=[ZTG,Zdr z]) ((ag e3) _ _ e1) ac (by unfold Cv;rw[X7];exact Zhe)
   refine#[aAw,fun kt hkt=>au kn _ rfl (put HH ml p.1 p.2 kt S_ Zag hkt) ?_];have u1:=cw (o:=.dT (Cv ZPY)) (Zmu (#[fk,#[bP,p.1,p.2],hkt])) hkn;have w1:#[aQ,ZaNC,kn,ZVo,kn,ZVo]:=ac;generalize upd ZaNC kn ZVo=H5 at u1 w1 ⊢;have l1:=Fa ml ZCy;have l2:=Fa (l9 ml ZCy) ZaDv;refine#[aAw,fun k2 hk2=>au kn _ rfl (put H5 _ p.2 p.1 k2 w1 Zag hk2) ?_];refine gf _ _ (l9 ZPY ZaDv) rfl (cw (Za1Z (ag hk2)) hkn) ac Zag (fun x z=>?_);rw[zH,zH,al x z,YG,hp0];unfold Ke;rw[decide_eq_true_iff,decide_eq_true_iff,YE,Yp,Yp,Yj,Yj];obtain⟨p1,p2⟩:=p;have e1:((x,z)=(p2,p1))↔((z,x)=(p1,p2)):=⟨fun y=>by cases y;rfl,fun y=>by cases y;rfl⟩;rw[e1];have o4:∀ {a b c d:Zaa},(((a\/b)\/c)\/d)↔((a\/c)\/b\/d):=fun {a b c d}=>⟨fun y=>by rcases y with ((y | y) | y) | y;exact #[r3,y];exact #[wi,y];exact #[xm,y];exact #[q8,y],fun y=>by rcases y with (y | y) | y | y;exact Zal (Zal (Zal y));exact #[xm,y];exact Zal (Zal (Zaq y));exact Zaq y⟩;exact o4
  ·intro σ HH a_;obtain⟨v1,v2,ml,rfl,t1,S_,ln,al⟩:fF:=a_
   rw[show #[BU,#[a0,ZpY,ZaS]] by rw[X7,r_],YJ]at al;exact#[c9,k kn HH ml hkn t1 S_ al]
def qD {fl c1 cy kn:Addr}{pm ct:Value}[154](Lm:#[aal,aD,ZFM,ZFN,ZFO,ZkF,#[ak,kn]]) :
  #[aay,#[HM,aD,ZFM,ZFN,ZFO,[(ZkF,cy)],c1],(IF (yH c1 aD kn ml) (#[pt,#[AV,ZfA∈ml]]))]:=by
 refine #[ain,ZvT,ZkF]
 ·have hm:=Zj hx
  have hm:#[a3I,ZkF]:=hm;rcases ZauI with z | z
  ·cases z
  ·rcases Zhp with z | z
   ·cases z
   ·exact ZaM4
 ·obtain⟨a,b,rfl,_⟩:=h
  rfl
 ·obtain⟨a,b,rfl,⟨_,hc⟩,_⟩:=h
  exact hc
 ·obtain⟨a,b,rfl,⟨S,_⟩,k⟩:=h
  have hu:=ZaU;refine #[eg,As (wE hu (bO #[kP,Zap,Zau]) Zay)];refine#[bw,_,#[Pg,Zpm],fun kt hkt=>?_];have sk:=#[fk,ZGQ,hkt];refine⟨_,rfl,kn,_,rfl,fq.t (k:=[ZBO,ZnO]) (sk _ _ S) ac,?_⟩;rw[P3 ml ZfA];exact k _ sk
def wB (F:#[am,ZmO,ZmO,aX])[53](CK:gL K c0 Pk)[91](sR:#[oR,ZLW,Zf_,NX])[78](WS:#[a1F,aD,ZFM,ZFN,ZFO,ZkF,d8,4,ZLg,ZaCU]):#[cP,5,#[a8,Zf_],ZaaY]:=by
 refine #[aim,dW]
 ·obtain⟨p,l,A,st,ps,rfl,_⟩:=h
  rfl
 ·obtain⟨p,l,A',st,ps,rfl,S,G,h64,row,hps,hT,k⟩:=h
  have hu:=ZaU
  refine ⟨_,(af (bZ 2 ZAR #[eT,sR,ZmZ]) (
   af (bZ 3 ZAR Zhs) (
   af (bZ 4 ZAR ZXb) (
   af (qK Zx (Gj ZcC ZoI) (af (bZ 5 ZAR #[DT,oB,2,ZkF,Zbk,dw,#[A',rm,ZcC],ZcC]) (
   af #[aOt,Zbl,ZQD] (
   ae (#[P',4,aX,pI,Zav1,#[vu,5],(dD (pv 4)),#[ng,⟨#[ag7,0,Zav1],ZaO',pv 0⟩],ZAR]))))) (
   ZVQ))))),?_⟩
  try dsimp only[cxK,cxK']
  have nG:#[t5,(bh A'),Zhx]:=ZaRK;refine⟨_,rfl,l,ps,rfl,row,hps,fun kn H1 ml hkn s1 hk1 al=>Zaws⟩;have s2:=Zawf;have q2:#[aQ,H1,q,Zxh,q,Zxh]:=ac
  have hq0:Zod:=by
   cases e:H q with
   | none=>rfl
   | some o=>rw[s1 _ _ e]at hq;cases hq
  have hk2:=#[eV,hk1];have y_:=Zj6;generalize #[aJr,q]=H2 at s2 q2 hk2 y_ ⊢;refine#[aSJ,A'.dx,(ZeC y_).ob,nG,A',st,ZeC y_];have s3:=ZahA;have aq9:#[aQ,H2,lg,Zahz,lg,Zahz]:=ac;have q3:=#[gp,q2];have hk3:=#[gp,hk2];have s13:=ZAH s3;generalize upd H2 lg Zahz=H3 at s3 aq9 q3 hk3 s13 ⊢;have nd:Zarc:=ZaKA
  have ll:ZaQt:=by rw[kg];unfold aQ;rw[X7]
  have eR:(fun a b:Int=>#[AV,ZfA∈ml])=Ke ps:=funext fun a=>funext fun b=>by
   cases e:ZY8 with
   | true=>exact Yc (#[asV,0].mpr e)
   | false=>exact X9 fun z=>by rw[#[asV,0].mp z]at e;cases e
  refine ⟨(fun m σ HH=>#[aO6,m=Zaf1/\ZaQF/\Zaz1/\ZaCQ/\ZY4/\#[ei,q,Zp0]/\Zayo/\ZaHU/\ZaCK/\(Zv2)/\ZaJH]),⟨_,lg,uQ st,⟨[],[],none,rfl,rfl,#[pC,s13 b o e],ZAP s13,hk3,q3,Zao,aq9,W6 nd,fun a ha=>(by cases ha),by show 0+_<=64;unfold uQ;lia⟩⟩,?_⟩;intro m σ HH a_;obtain⟨lf,lv,as,ts,v5,rfl,rfl,bH,tH,kH,qH,pH,fH,zx4⟩:bf:=a_;obtain⟨TR,aH,ck0⟩:fz:=zx4;refine⟨_,rfl,_,Zal #[dB,Zatf],?_⟩
  cases lv with
  | nil=>exact #[jv,k q as ts HH hq0 bH tH qH pH TR aH]
  | cons f0 r =>
   refine aR #[br,(fun σ HH=>#[aO6,Zaf1<#[aZ,(f0::r)]/\ZaQF/\Zaz1/\ZaCQ/\ZY4/\#[ei,q,Zp0]/\Zayo/\ZaHU/\ZaCK/\(Zv2)/\ZaJH]),(fun σ' H' ⟨a1,a2,a3,a4,a5,z,zz⟩=>#[ce,z,a1,⟨a2,a3,a4,a5,rfl,zz⟩])];refine⟨_,rfl,lf,_,_,_,rfl,rfl,Zatf,#[eP,#[aH1,(f0::r).map,0,f0],Zjm],_,rfl,tH,_,rfl,fun fl c1 H4 hcf hT4 bt=>?_⟩;have b4:pP Pk H H4:=#[aK',(bH b o e n)];have ne:∀ [124]{o:HO},#[a4,HH]->(ZHT)->ZarU:=fun e n=>pP.get bt tH e n;have kH4:=ne kH (fun _ z=>by cases z);have qH4:=ne qH (fun _ z=>by cases z);have fH4:=ne fH (fun _ z=>by cases z);have pH4:#[aiO,H4]:=pH.mono fun a t e=>ne e (fun _ z=>by cases z);refine#[aSn,(kn,ml),lf,fH4,TR.nd,kH4,fun q1 t H5 hq1 s5 htr ZYl tl=>?_];rw[eR]at TI;have qH5:=s5 _ _ qH4;have fH5:=s5 _ _ fH4;have kH5:=s5 _ _ kH4;have pH5:#[aiO,H5]:=pH4.mono fun a t e=>ZUh;have ck7:#[a_,q1]:=pP.none b4 hT4 hq1
   have nq:q1≠q:=fun z=>by rw[z,qH4]at hq1;cases hq1
   have nf:q≠lf:=fun z=>by
    rw[z,fH5]at qH5;have:=HO.lst.inj (Yk qH5)
    cases as with
    | nil=>cases this
    | cons a b=>exact V.noConfusion (Zaew Zbu).1
   refine#[B',qH5,q,qH5,ZFW];have b6:pP Pk H ZaJ0:=pP.put (ZLH b4 s5) hq0;have T5:=hT4.same s5;have T6:Zd' ZaJ0 Pk aW aD:=TabI.put T5 qH5;have q6:#[aQ,H5,q,#[jr,ZpZ,ZOZ],q,ZXG]:=ac;have o6:∀ b,b≠q->upd H5 q ZXG b=H5 b:=ZarF;generalize upd H5 q ZXG=H6 at b6 T6 q6 o6 ⊢;have fH6:=(o6 lf (Yz nf)).trans fH5;have t6:=(o6 q1 nq).trans htr;have k6:=(o6 kn (fun z=>by rw[z,qH5]at kH5;cases kH5)).trans kH5;have p6:#[aiO,H6]:=pH5.mono fun a t e=>(o6 a (fun z=>by rw[z,qH5]at e;cases e)).trans e;have pA:Za3 (#[aiN,H6]) ZaE8 ZYP:=F8 p6 t6;have TR2:=Oy (Ua ps) TR Ye TI;refine#[bw,lf,#[jw,fH6],ZEi];refine #[aNH,ZGv,fH6]
   ·refine#[aKn,q1,t6]
    rw[ZaAU];exact Zyt
   have lt:#[a0,ZaqT,ZGv]<#[aZ,(f0::r)]:=by
    have h0:ZaqT (ZGv)=#[auF,r.filter]:=List.filter_cons_of_neg (#[sO,Yc (#[c2,f0∈Zfo,Zms #[dB,Yy TI.hd]])]);rw[h0];exact Nat.lt_succ_of_le (ZB _ _)
   refine bQ l3 _ ZaE8 ZYP _ lt rfl (ZLH b6 s7) (T6.same s7) (s7 _ _ k6) ?_ (pA.mono fun a t e=>s7 _ _ e) hf7 #[br,TR2,#[Kx,?_]]
   ·rw[Yu];exact s7 _ _ q6
   ·rcases Zauf with z | z
    ·exact aH a z
    ·rw[ZdO];exact ck7
   ·rw[Yr,YW]
    have:=ck0
    lia
def D1 (F:#[am,ZLX,ZLX,j8])[11] : #[cS,5,ZTm,(NW c)]:=by
 refine #[agK,En]
 ·obtain⟨p,tr,A,st,t,rfl,_⟩:=h
  rfl
 ·obtain⟨p,tr,A',st,t,rfl,S,htr,hin,nd,h200,nA,k⟩:=h
  have hu:=ZaU;refine #[uP,#[adX,Ca,T.any,Za1P,(dv (Ql (#[gn,iJ,ai j8,xK,[Zba,ZhV,Za5],#[HR,1,0],Dg,#[p6,Qo],#[ag8,[Zba,ZhV,Za5],As (jb hu #[aM0,Zay] Zau)]])))]]
  try dsimp only[cxK,cxK']
  have nW:#[t5,(bh A'),ZlX]:=ZaRK;refine⟨_,rfl,tr,_,rfl,htr,fun o lc hlc=>?_⟩
  have kF:#[kh,#[b9,u]->ZSQ->#[k3,ZOY]]:=#[K2,#[eR,n,e]]
  have hF:ZOY tr=Zab ZOX:=ac;have S2:aM c.C ZOY p A' st:=S.kept (fp:=[tr]) (#[K2,kF b u e #[bx,#[eU,n,z,Ye]]]) (fun z=>by have ob:=S.ob;rw[ZdO,htr]at ob;cases ob) (fun b hb z=>#[go,nA,ZdO,hb]) (fun b xs e z=>by rw[ZdO,htr]at e;cases e);have un:∀ b,ZSQ->ZOY b=H b:=ZarF;generalize upd H tr ZOX=H2 at kF hF S2 un hlc ⊢
  have nlc:lc≠tr:=fun z=>by rw[z,hF]at hlc;cases hlc
  have lk9:#[a0,mi,t]=Zdk:=by unfold mi;rw[X7]
  refine My (d:=tr) (o:=o) (kvs:=mi t) #[jT,#[iB,[v,Zaoe,ZdZ],ay H2 HH,#[ei,lc,#[mT,((t.take i).map #[bN,Zaai]).map]]]]
   #[c_,Zac,ag hlc,ac] #[ot,#[ce,_,s,_],s _ _ hF] ?_ ?_
  ·intro i y σ HH hi a_;obtain⟨v,rfl,sH,hc⟩:az:=a_
   obtain⟨e,he,rfl⟩:ak:=Zdd;have il:=Zatm;obtain⟨h1,h2⟩:=hin e.1 (Zk (f:=(·.1)) (Yy he));refine iS #[la,A'.dx,(S2.mono sH).ob,nW,A',st,e.1,S2.mono sH,h2,?_];obtain⟨m,hm⟩:=Zzx h1
   have wm:#[Cv,e.1,m]:=by unfold wr;rw[hm];rfl
   rw[hm];have dg:fq HH tr (Zae m) (d6 (mi t) (Zdr m)):=Zal (au (mi t) (Zdr m) (Zaq #[ft,ZaBk]) rfl rfl);refine⟨_,rfl,tr,_,rfl,dg,?_⟩;rw[uV nd];refine #[DD,hc,ZaCR,cw sH hlc];rw[ac,YG,he,YE,Yu,Yu,wm.symm];rfl
  ·intro σ HH a_;obtain⟨v,rfl,sH,hc⟩:az:=a_
   rw[lk9,YJ]at hc;refine⟨tr,o,_,ZaBk,fun o' u' z=>(by have z:#[aK,tr,ZakZ]:=z;rw[htr]at z;cases z),?_⟩;refine⟨lc,_,rfl,ZbO (#[dG,ah,nlc] hc),?_⟩
   have eb:(t.map #[bN,Zaai]).any id=Ma st t:=by unfold Ma;rw[List.any_map];rfl
   rw[eb];refine k _ ZzW
   by_cases z:b=tr
   ·rw[z,ac,<-htr,<-z];exact e
   ·rw[ZlC];exact sH _ _ (kF b u e z)
def Ai (F:#[am,ZLY,ZLY,lE])(kz:#[mq,ZmO,5,#[a8,Zf_],ZaaY])(sV:#[eO,ZLX,5,ZTm,(NW c)])(mt:Zaxg)[107]:#[cP,6,#[a8,Zf_],ZaAm]:=by
 refine #[agL,kQ]
 ·obtain⟨p,l,A',a,b,lo,rfl,_⟩:=h
  rfl
 ·obtain⟨p,l,A',a,b,lo,rfl,S,A,row,hT,k⟩:=h
  have hu:=ZaU
  refine ⟨_,af (bZ 2 kQ.nd Zhs) (
   af (iM Zx rfl (dD #[p_,kz,Zau]) (iW 3 kQ.nd) (af #[Zj,(jd #[eT,sV,#[p9,Zbl]])] (
   cG))) (
   ZOd)),?_⟩
  try dsimp only[cxK,cxK']
  have G:=ZoH;refine Zaws;have s1:=Zawf;have q1:#[aQ,H,q,Zxh,q,Zxh]:=ac;generalize upd H q (ZaI [])=H1 at s1 q1 ⊢;have hT1:=#[Xx,0].same s1;refine⟨_,rfl,_,rfl,p,l,A',_,[],rfl,ZlL,G,ZtX,ZafN s1,ZaM,hT1,fun lt as ts H2 q_ b2 hT2 h2 p2 TR a2=>?_⟩;have S2:aM c.C H2 p A' ZcR:=#[aPv,b2];have pl:=Yx p2
  refine⟨lt,rfl,#[jw,h2],de (K:=K) (a:=lt) (xs:=ZpZ) #[jT,i=0/\∃ v3:ZgG,σ=[ZdZ,ZjO,Zwa,v3]/\HH=H2]
   #[rn,rfl,Zac,rfl] #[ot,#[ce,_,_,e],#[vX,Zate]] ?_ ?_⟩
  ·intro i y σ HH hi a_;obtain⟨rfl,v3,rfl,rfl⟩:iT:=a_
   obtain⟨tr,cj0,rfl⟩:ak:=Zdd;refine #[adf,p2,cj0,fun t ht0 htr=>?_];have ht:=Yy ht0
   have inG:#[q3,x∈aQ ZeS]:=fun x hx=>by
    have:=(TR.dj t ht x hx).2;unfold uQ at this;exact (tU _).mem_iff.mp Zbu
   refine iU (TR.tr t ht) fun f9 lf9 r9 T9=>?_;have tl:=iB T9.kn inG;unfold gF aQ at tl;rw[X7,X7]at tl;have trF:tr∉A'.fp:=Sr (ZeC s1) (a2 tr (Yy cj0));refine⟨_,rfl,_,rfl,p,tr,A',_,t,rfl,S2,htr,#[fZ,⟨ZzU (inG x hx),NQ A x (inG x hx)⟩],T9.kn,YU tl (ZtX),trF,fun H3 s3=>Zhi⟩;rw[Wo A TR ht];exact aR (k Zac _ (ZVP ((Dd hT1 b2).trans (fk s3))) (((ZAP s1).but mt dj b2 hT2).same s3) xU)
  ·rintro σ HH ⟨e,_⟩
   rw[X7,pl]at e;exact #[atH,e,(XY A TR)]
def Af (F:#[am,ZLZ,ZLZ,lA]) : #[dD,ZG8,(NY K)]:=by
 refine #[agK,AI]
 ·obtain⟨a,ns,k,rfl,_⟩:=h
  rfl
 ·obtain⟨a,ns,i,rfl,hS,hi,k⟩:=h
  refine #[eg,(af #[TX,#[eH,ve,Zau,#[ad0,(aj Zap aV)]],(bP rm Zap Zau ZA_)] #[uO,am])];refine#[NY,a,Zal hS];unfold yU at k;rw[X7]
  by_cases hc:i<(ZfL:Int)
  ·rw[Yb hc]at k
   rw[Yc hc];refine aR ⟨_,rfl,_,rfl,a,_,_,_,rfl,rfl,hS,?_,k⟩;have e:i=#[a1,ZzC]:=(Int.toNat_of_nonneg hi).symm
   have hl:ZzC<ZfL:=Zaf
   rw[e];refine bR ?_;rw[YC,Zm,Int.toNat_natCast,Yi hl];rfl
  ·rw[X8 hc]at k
   rw[X9 hc];exact aG k
def F5 (F:#[am,ZIu,ZIu,qW]) : #[dD,[Zo3],IG]:=by
 refine #[agK,Gs]
 ·obtain⟨c,rfl,_⟩:=h
  rfl
 ·obtain⟨c,rfl,k⟩:=h
  refine #[eg,af #[TX,#[eH,ve,Zap,am],(JP EQ Zap)] #[uO,Zap]];refine Zuu;unfold qg at k
  by_cases hc:c<0
  ·rw[Yb hc]at k
   rw[Yc hc];exact aR #[hm,k]
  ·rw[X8 hc]at k
   rw[X9 hc];exact ZUC
def D3 (F:#[am,ZL0,ZL0,oY])[194] : #[cS,2,ZYh,JY]:=by
 refine #[agK,jZ]
 ·obtain⟨k,c,rfl,_⟩:=h
  rfl
 ·obtain⟨i,c,rfl,⟨i0,i1⟩,k⟩:=h
  refine ⟨_,af #[JA,2,jZ.nd,(fm iY hr rfl ZQ0)]
   (af #[JA,3,jZ.nd,(d7 kP am (d7 An #[Gm,Ea] am))]
   (af #[JA,4,jZ.nd,(d7 An (d7 kP (d7 Ea Zap Zbl) #[Gm,Nf]) am)]
   (af #[TX,#[eH,bu,#[Gm,An],am],(d7 kP ZcC am)]
   #[uO,ZcC]))),?_⟩
  refine#[hm,?_];refine⟨_,rfl,_,_,rfl,rfl,Zaq Zaiu,_,_,rfl,rfl,#[Sg,ZzT],_,_,rfl,rfl,?_⟩;refine⟨_,rfl,_,rfl,_,_,rfl,rfl,#[gc,#[kr,(ZVe:Int)<i],#[kr,i<(ZTZ:Int)]],_,rfl,_,_,rfl,rfl,Zaiu,_,_,rfl,rfl,_,_,rfl,rfl,#[Sg,ZpA],?_⟩;refine⟨_,rfl,_,_,rfl,rfl,#[Sg,5],rfl,_,rfl,?_⟩;unfold GN at k;dsimp only at k
  by_cases hc:qg c%5=4
  ·rw[Yb hc]at k
   rw[Yc (show ZaLM by rw[hc])];exact aR ⟨_,rfl,_,_,rfl,rfl,k⟩
  ·rw[X8 hc]at k
   rw[X9 (#[c2,¬ ZaLM,#[aV,hc (by injection z)]])];exact ZUC
def D4 (F:#[am,ZL1,ZL1,oZ]) : #[dD,[],J3]:=by
 refine #[agK,Ep]
 ·obtain⟨rfl,_⟩:=h
  rfl
 ·obtain⟨rfl,k⟩:=h
  refine #[eg,(by with_reducible exact Q5.h (by with_unfolding_all exact Qx (bj (bj #[O1,#[MY,Zape]]))))]
  try dsimp only[cxK,cxK']
  exact#[ul,15,#[Lp,k l hl]]
def yf (F:#[am,ZL2,ZL2,jM])[52][11][147][61](ko:#[mq,ZLN,6,#[a8,ZLh],(Rq c)])[67](sW:#[mq,ZmM,6,#[a8,Zff],Zaaw])(mt:ZNq∈T5)[107]:#[aho,8,NR]:=by
 refine #[agL,yl]
 ·obtain⟨p,B,k,a,b,l,rfl,_⟩:=h
  rfl
 ·obtain⟨p,B,k,a,b,l,rfl,hk,S,A,hT,q⟩:=h
  have hu:=ZaU;refine #[T3,ZagV,#[dq,#[e2,dQ,Zm0]],#[agX,#[e2,f6,Zm0],#[e2,f6,Zm3],#[e2,br,(fW Zbl Zay)],#[e2,br,(fW Zay Zay)],#[agX,#[e2,br,(fW Zay ZcC)],#[e2,bg,Zm3],#[e2,f7,Zm3],#[xu,fM],#[agW,#[p_,ko,(dq (fW Zay ZcC))],#[xu,jS],#[dq,#[xu,sW]]]]]]
  try dsimp only[cxK,cxK']
  have kT:ZajN:=ZYA;have kF:ZajM:=ZYz;have no:∀ m:Str,ZaSk:=fun m h=>ZaQE;have qs:ZaCC:=ZaIh;refine ZBd
  by_cases e0:ZaO=0
  ·rw[kT _ e0]
   obtain rfl:k=0:=Zaf
   exact aR #[RX,Zvs,_,a,xD,Zec,XH ZaiS]
  rw[kF _ e0];refine ZBe
  by_cases e1:ZaO=1
  ·rw[kT _ e1]
   obtain rfl:k=1:=Zaf
   exact aR ⟨_,rfl,p,B.dx,_,rfl,S.ob,Zvs,_,rfl,p,B,_,a,rfl,S,xD,A.sa,fun m hm=>(by rw[oy]at hm;cases hm;exact ZaFR),JE A ZaiS⟩
  rw[kF _ e1];refine ZBe
  by_cases e2:ZaO=2
  ·rw[kT _ e2]
   obtain rfl:k=2:=Zaf
   exact aR ⟨_,rfl,p,B.dx,_,rfl,S.ob,Zvs,_,rfl,p,B,_,l,rfl,S,xD,A.sl,fun m hm=>(by rw[Zix]at hm;cases hm),Wx A qs⟩
  rw[kF _ e2];refine ZBe
  by_cases e3:ZaO=3
  ·rw[kT _ e3]
   obtain rfl:k=3:=Zaf
   exact #[abn,b,a,A.sb,Zec,U6 A ZaiS]
  rw[kF _ e3];refine ZBe
  by_cases e4:ZaO=4
  ·rw[kT _ e4]
   obtain rfl:k=4:=Zaf
   exact #[abn,a,a,Zec,Zec,Vm ZaiS]
  rw[kF _ e4];refine ZBe
  by_cases e5:ZaO=5
  ·rw[kT _ e5]
   obtain rfl:k=5:=Zaf
   exact #[abn,a,l,Zec,ZpW,Wv A qs]
  rw[kF _ e5];refine ZBe
  by_cases e6:ZaO=6
  ·rw[kT _ e6]
   obtain rfl:k=6:=Zaf
   refine ZaTo;rw[Zix];exact ZNc
  rw[kF _ e6];refine ZBe
  by_cases e7:ZaO=7
  ·rw[kT _ e7]
   obtain rfl:k=7:=Zaf
   refine ZaTo;rw[MJ A];exact ZNc
  rw[kF _ e7];refine ZBe
  by_cases e8:ZaO=8
  ·rw[kT _ e8]
   obtain rfl:k=8:=Zaf
   refine #[aaJ,l,S,ZoH,ZpW];rw[Zix,Zem];exact ZNc
  rw[kF _ e8];refine ZBe
  by_cases e9:ZaO=9
  ·rw[kT _ e9]
   obtain rfl:k=9:=Zaf
   refine aR #[aAx,ZQp];exact#[aTB,ZeC (ag B_),ac,#[R_,B_]]
  rw[kF _ e9];refine ZBe
  by_cases e10:ZaO=10
  ·rw[kT _ e10]
   obtain rfl:k=10:=Zaf
   refine aR ⟨_,rfl,_,rfl,p,B,_,l,rfl,S,ZpW,Q9,?_⟩;rw[Zix,Zem];exact ZNc
  rw[kF _ e10]
  obtain rfl:k=11:=Zaf
  exact aG #[aTf,mt,(Dd ZXx bt),(ZafV mt dj bt t2)]
def Ae (F:#[am,ZL3,ZL3,lx])(yA:#[mq,ZLQ,8,Zlz,ZaE1])(uf:#[mq,ZLR,6,#[a8,Zdl],ZawR])(ug:#[aJp,ZLS])(vE:#[aJp,ZLT])(nJ:#[mq,ZLI,6,Zj',ZaAl])(pU:#[mq,ZLK,6,Zj',(Rt c)])(nK:#[mq,ZLY,6,#[a8,Zf_],ZaAm])(aj0:#[mq,ZLU,6,#[a8,ZaH],ZHf])(sS:#[mq,ZmN,6,#[a8,Zba],Zaax])(yz:#[mq,ZLD,6,#[a8,ZkE],ZaEZ])(mt:Zaxf)(mk:Zaxg)(mf:ZNr∈T5)[107]:#[aho,9,NU]:=by
 refine #[agL,AH]
 ·obtain⟨p,B,k,a,b,l,rfl,_⟩:=h
  rfl
 ·obtain⟨p,B,k,a,b,l,rfl,hk,S,A,hT,q⟩:=h
  have hu:=ZaU;refine #[T3,ZagV,#[dq,#[dn,yA,Zm1]],#[agX,#[p_,uf,Zay],#[xu,uf],#[dn,ug,(BC Zap Zay Zbl)],#[dn,vE,(BC Zap Zay Zay)],#[agX,#[dn,ug,(BC Zap Zay ZcC)],#[dn,nJ,(BC Zap Zay Zay)],#[dn,nJ,(BC Zap ZcC Zay)],#[dn,pU,(BC Zap Zay ZcC)],#[agW,#[p_,nK,Zhs],#[p_,aj0,#[se,ZW6]],#[m_,ZagV,#[xu,sS],#[dq,#[p_,yz,(d7 Ec ZaCw (d7 An Zay ZcT))]]]]]]]
  try dsimp only[cxK,cxK']
  have kT:ZajN:=ZYA;have kF:ZajM:=ZYz;have qs:ZaCC:=ZaIh;refine ZBd
  by_cases e12:ZaO=12
  ·rw[kT _ e12]
   obtain rfl:k=12:=Zaf
   refine ZfF;exact⟨_,rfl,p,B,a,b,l,rfl,S,A,qs⟩
  rw[kF _ e12];refine ZBe
  by_cases e13:ZaO=13
  ·rw[kT _ e13]
   obtain rfl:k=13:=Zaf
   refine ZfF;exact#[aRW,a,Ze1,ZaA9]
  rw[kF _ e13];refine ZBe
  by_cases e14:ZaO=14
  ·rw[kT _ e14]
   obtain rfl:k=14:=Zaf
   refine ZfF;exact#[aRW,l,ZjZ,#[aqO,ZDK]]
  rw[kF _ e14];refine ZBe
  by_cases e15:ZaO=15
  ·rw[kT _ e15]
   obtain rfl:k=15:=Zaf
   refine ZfF;exact#[abp,b,Ze1,ZaA9]
  rw[kF _ e15];refine ZBe
  by_cases e16:ZaO=16
  ·rw[kT _ e16]
   obtain rfl:k=16:=Zaf
   refine ZfF;exact#[abp,a,Zaxs,#[f6,ZwM,Zav,ZDK]]
  rw[kF _ e16];refine ZBe
  by_cases e17:ZaO=17
  ·rw[kT _ e17]
   obtain rfl:k=17:=Zaf
   refine ZfF;exact#[abp,l,Zax2,#[f6,ZSH,Zv6,ZDK]]
  rw[kF _ e17];refine ZBe
  by_cases e18:ZaO=18
  ·rw[kT _ e18]
   obtain rfl:k=18:=Zaf
   refine ZfF;exact#[aTS,a,Ze1,#[anL,ZaQh]]
  rw[kF _ e18];refine ZBe
  by_cases e19:ZaO=19
  ·rw[kT _ e19]
   obtain rfl:k=19:=Zaf
   refine ZfF;exact#[aTS,l,ZjZ,#[aqO,ZaQh]]
  rw[kF _ e19];refine ZBe
  by_cases e20:ZaO=20
  ·rw[kT _ e20]
   obtain rfl:k=20:=Zaf
   refine ZfF;exact⟨_,rfl,_,rfl,_,rfl,p,B,a,b,l,rfl,S,A,qs⟩
  rw[kF _ e20];refine ZBe
  by_cases e21:ZaO=21
  ·rw[kT _ e21]
   obtain rfl:k=21:=Zaf
   refine ZfF;refine#[c',Zdb,ZQp];have s0:=#[nm,B_];exact⟨p,r,B,a,b,l,rfl,Zawq,A,ZHr,ZAP s0,#[an',(#[dG,fk,s0] g),t]⟩
  rw[kF _ e21];refine ZBe
  by_cases e22:ZaO=22
  ·rw[kT _ e22]
   obtain rfl:k=22:=Zaf
   refine ZfF;refine#[aAx,ZaDV];have s0:=ZaO9;exact#[aTB,Zawq,ZaKk,s0.trans]
  rw[kF _ e22];refine ZBe
  by_cases e23:ZaO=23
  ·rw[kT _ e23]
   obtain rfl:k=23:=Zaf
   refine ZfF;exact#[aTf,mf,(Dd (hT _ mf) bt),(ZafV mf dj bt t2)]
  rw[kF _ e23]
  obtain rfl:k=24:=Zaf
  refine ZwS
  have sn:cH (-1-a%5):=by
   have:(-1-a%5).natAbs<=6:=Zaf
   exact ZF Zbu ZaF
  exact⟨_,rfl,_,rfl,_,rfl,_,_,rfl,rfl,ZaC,_,_,rfl,rfl,p,B,a,b,_,rfl,S,Zaf,sn,qs⟩
def yg (F:#[am,ZL4,ZL4,ig])(MF:#[wo,RL,cb])(MK:#[wo,Wf,ck])(kC:aO P w K mg ZaP ZcO ck ZafY 7 ZEN ZaHs)(l8:aO P w K mg ZaP ZcO ck Zaf0 6 Zjc ZaLp)[146](j_:aO P w K mg ZaP ZcO cb ZafQ 14 ZHq ZaRf)[141](l_:aO P w K mg ZaP ZcO cb ZafR 14 ZkL ZaH8)(nN:#[mq,ZLB,38,ZDX,ZaRg])(Z_:#[mq,ZLF,8,ZDX,ZaE0])(qf:aO P w K mg ZaP ZcO ck Zck 6 ZkK ZaE2)(mb:ZNs∈T5)[107]:#[aho,60,NS]:=by
 refine #[agL,pJ]
 ·obtain⟨p,B,k,a,b,l,rfl,_⟩:=h
  rfl
 ·obtain⟨p,B,k,a,b,l,rfl,hk,S,A,hT,q⟩:=h
  have hu:=ZaU
  refine ⟨_,(af (bZ 5 pJ.nd (Tn MF UO.f Zbk rfl)) (
   ae (aN ZagV #[aFP,kC,(dv (dq (dv (bO ZayL))))] (ae (aN ZagV #[dq,(oF l8 Zaqq ZkI Zbk aA)] (ae (aN ZagV #[dq,#[dn,p_,#[kO,Zay,Zbl,#[kP,ZcC,Zay]]]] (ae (aN ZagV #[dq,#[u2,j_,Zam3]] (ae (aN ZagV #[dq,#[u2,k_,ZQ1]] (ae (aN ZagV #[dq,#[u2,l_,(dv (bO (fW Zfn Zfn)))]] (ae (aN ZagV #[dq,#[u2,j_,(fW Zfn Zaxv)]] (ae (aN ZagV (af (ax (bz j_ Zu1 ZcM Zbk aA Zam3)) (
   ae (ax #[u2,j_,Zam3]))) #[agX,#[u2,l_,(dv (bO (fW Zfn (dU jp ZadW ZLy aQj (dv (#[gn,iJ,ai ig,qx,ZR2,ZvW,Dg,ZaJO,#[ag8,ZR2,#[vN,(dU (yS K) ZadW ZLy aQj (dv (#[gn,iJ,_,ZR2,[Za10],ZvW,Ws,ZaJO,#[ag8,[Za10],pv 0]])))]]]))))))],#[dn,nN,ZQ1],ZaBy,ZaBy,#[aFP,qf,Zm0]]))))))))))))))))),?_⟩
  try dsimp only[cxK,cxK']
  have kT:ZajN:=ZYA;have kF:ZajM:=ZYz;intro bk dx nx ndx nex;refine⟨bk,dx,rfl,ac,fun Y H1 kp BK n1 n2 n3=>Zwd⟩
  have s0:ay H (upd (upd H dx (Zes bk)) bk (Zde cb dx [])):=ZOP
  have s1:ZTD:=Zanc;have S1:=ZlL;have T1:k<=34->TB T5 H1:=ZaD7;have qs:#[sz,ay H1 H'->ZuG->#[kS,Zapt,dx]]:=#[Qo,#[Xu,s],#[vV,#[kR,T1].same s]];have m1:=ZL5 n1;have m2:=ZL5 n2;have m3:=ZL5 n3;clear s0 kp n1 n2 n3 nex;refine ZBd
  by_cases e25:ZaO=25
  ·rw[kT _ e25]
   obtain rfl:k=25:=Zaf
   refine ZaBo;rw[o9];obtain⟨s3,K3⟩:=Zaa_;generalize ZaiV=H3 at s3 K3 ⊢;refine⟨kp,kdx,_,rfl,Zaf2,ZMG,_,rfl,_,rfl,ZPz,ZaDV⟩;have s4:=ZaO9;have I4:VS c ck _ kp _ HI B ZcR:=⟨K3.kp.mono s4,K3.hall.mono s4,K3.kB,K3.pB⟩;exact⟨kp,r,_,B,a,b,l,rfl,I4,A,ZaKk,#[AS,qs dx H' (Zaf3 (ZAF s))]⟩
  rw[kF _ e25];refine ZBe
  by_cases e26:ZaO=26
  ·rw[kT _ e26]
   obtain rfl:k=26:=Zaf
   refine ZaBo;rw[o9];obtain⟨s3,K3⟩:=Zaa_;generalize ZaiV=H3 at s3 K3 ⊢;exact⟨kp,kdx,_,rfl,Zaf2,ZMG,kp,_,rfl,K3.kp,#[AS,qs dx H' (Zaf3 s)]⟩
  rw[kF _ e26];refine ZBe
  by_cases e27:ZaO=27
  ·rw[kT _ e27]
   obtain rfl:k=27:=Zaf
   exact aR ⟨_,rfl,_,rfl,_,rfl,_,rfl,a,b,l,a,rfl,fun n=>#[v',n],ZarG⟩
  rw[kF _ e27];refine ZBe
  by_cases e28:ZaO=28
  ·rw[kT _ e28]
   obtain rfl:k=28:=Zaf
   refine ZaLK;have s2:=ZawU;exact⟨bk,t,Y,[],"row",_,rfl,ZFg,Ee ac,TD,ZaC,ZaM,fun z=>(by rw[G4]at z;cases z),Zanb,fun z=>(by rw[G4]at z;cases z),fun z=>(by rw[G4]at z;cases z)⟩
  rw[kF _ e28];refine ZBe
  by_cases e29:ZaO=29
  ·rw[kT _ e29]
   obtain rfl:k=29:=Zaf
   exact aR ⟨_,rfl,bk,Y.dx,_,rfl,BK.ob,ZMF,bk,Y,[],"hey",rfl,BK,ZaC,fun e z=>(by cases z),ZarG⟩
  rw[kF _ e29];refine ZBe
  by_cases e30:ZaO=30
  ·rw[kT _ e30]
   obtain rfl:k=30:=Zaf
   refine ZaS2;have s2:=ZaNw
   have nk:¬ df [] (Zi_ Zg1):=#[aV,by have:=#[aFG,z];simp at this]
   exact⟨bk,t,Y,[],_,rfl,ZFg,JL ac,Zanb,ZaDC,ZaDC⟩
  rw[kF _ e30];refine ZBe
  by_cases e31:ZaO=31
  ·rw[kT _ e31]
   obtain rfl:k=31:=Zaf
   refine ZaS2;have s2:=ZaNw;exact⟨bk,t,Y,[],"hey",_,rfl,ZFg,JL ac,Hg,ZaC,ZaM,fun z=>(by rw[yZ]at z;cases z),fun z=>(by rw[yZ]at z;cases z),fun z=>(by rw[yZ]at z;cases z),Zanb⟩
  rw[kF _ e31];refine ZBe
  by_cases e32:ZaO=32
  ·rw[kT _ e32]
   obtain rfl:k=32:=Zaf
   refine ZaLK;have s2:=ZawU;refine⟨bk,t,Y,[],"hey",_,rfl,ZFg,Ee ac,Hg,ZaC,ZaM,fun _ x H3 xw _ _ _ _ BK3 kp3=>?_,fun z=>(by rw[yX]at z;cases z),fun z=>(by rw[yX]at z;cases z),fun z=>(by rw[yX]at z;cases z)⟩;refine#[aqA,BK3.ob,ZEh];have s4:=#[fk,ZapV,ht2];have s13:ay H H3:=fun y o e=>kp3 y o ZayA (fun z=>by rw[z,m1]at e;cases e) (fun z=>by rw[z,m2]at e;cases e) (fun z=>by rw[z,m3]at e;cases e);exact⟨bk,t2,Y,[]++[x],"hey",_,rfl,BK3.mono s4,Ee ac,Hg,ZaC,ZaM,fun z=>(by rw[yY xw]at z;cases z),fun z=>(by rw[yY xw]at z;cases z),#[af4,q Zac H' (fk (Za11 ZauW)) #[g5,#[kR,hT].same (Za11 (ZAF s))] xU],fun z=>(by rw[yY xw]at z;cases z)⟩
  rw[kF _ e32];refine ZBe
  by_cases e33:ZaO=33
  ·rw[kT _ e33]
   obtain rfl:k=33:=Zaf
   let G60:Zbf:=#[UU,60,ZaDS]
   refine aR ⟨_,rfl,bk,Y.dx,_,rfl,BK.ob,ZMF,_,rfl,ZaC,ZaC,fun q0 hq0=>?_⟩
   refine Ci (n:=2) #[jT,∃ (v:ZgG)(as:Zcr),σ=[v]/\ZVf/\#[ei,q0,Zp0]/\ZL6=i/\∀ x∈as,∃ u,#[bD,HH,ZHE]/\#[ei,u,ZO2]]
    (gu none [] rfl (ag hq0) ac rfl (fun x hx=>by cases hx)) ?_ ?_
   ·intro i σ HH hi a_;obtain⟨v,as,rfl,s2,C_,la,ha⟩:zd:=a_
    refine iS (dN _ rfl ZaF ZaF (fun l0 hl0=>?_))
    refine Ci (n:=60) #[wy,#[Ed,σ=[v]/\HK=upd HH l0 #[mU,#[qI,j],ZaDS]]]
     ZVr ?_ ?_
    ·intro j σ HK hj a_;obtain⟨v,rfl,rfl⟩:ak:=a_
     refine iS #[Bc,_,ac,by simp only[X7,aQb];exact Zhe];refine Zhi;rw[o9,List.range_succ,Yu,Yu];simp
    ·intro σ HK a_;obtain⟨v,rfl,rfl⟩:ak:=a_
     refine#[fE,l0,rfl,#[gc,ZbO ac,#[Kt,#[ul,2,Zf1]]]];have t3:ay HH (upd ZO3 x (Zbb ZaGg)):=(#[R_,hl0] (ag hu)).trans (ag hx);have hu2:#[aQ,ZO3,x,ZHE,u,ZO2]:=ag hx _ _ ac;have hx2:#[aQ,ZO3,x,ZHE,x,ZHE]:=ac
     show ∃ ys,_
     generalize #[gq,ZO3,x,ZaGg]=H5 at t3 hu2 hx2 ⊢;have q5:=t3 _ _ C_
     have nq:∀ {y:Addr}[41],H5 y=Zab ZeQ->y≠q0:=fun e z=>by rw[z,q5]at e;cases e
     refine jD _ q5 #[rj,X7,la,Zhe] _ ⟨as++[x],rfl,cw (Zje t3) hq0,ZN7,#[cL,Yr,la],ZQl⟩;rcases Zd_ hy with z | z
     ·refine ak (ha y z) fun w e1 e2=>?_
      exact ⟨w,#[He,(t3 _ _ e1),t3 _ _ e1],#[He,(t3 _ _ e2),t3 _ _ e2]⟩
     ·rw[ZdO]
      exact ⟨u,#[He,hx2,hx2],#[He,hu2,hu2]⟩
   ·intro σ HH a_;obtain⟨v,as,rfl,s2,C_,la,ha⟩:zd:=a_
    refine#[fE,q0,rfl,#[gc,ZbO C_,fun tt htt=>#[ul,2,fun t0 ht0=>?_]]];have s3:=(#[fj,Zbb (ZpY ZaS),htt]).trans (#[fk,Zapu,ht0])
    obtain⟨x1,x2,rfl⟩:∃ x1 x2,as=Zwt:=by
     match as,la with
     | Zwt,_=>exact #[eM,x1,x2]
    have fgx:#[ey,Zwt,dy 8 ZaRF x (.pl (Zps G60))]:=fun x hx=>by
     refine ak (ha x hx) fun u e1 e2=>?_;exact ⟨⟨u,#[gp,e1],#[gp,e2]⟩,(Za12),(Za12),(fun _ _ _ _ e=>by cases e)⟩
    have fg:dy 9 ZaRF t0 (ZpM ZajU):=bS tt Zwt ac (ag ht0 _ _ ac) ZaN #[B1,(fgx x1 ZaN),(fgx x2 ZaN)]
    have kn:df [] (ZpM ZajU):=#[tE,by simp[ba.names,ba.namesL]at hw]
    have ln:Zcc<(ba.row ZajU).len (qh []):=ZaA
    exact⟨bk,t0,Y,[],_,rfl,BK.mono (Zje s3),fg,#[aV,#[dg,kn,z]],fun _ _ H' s=>#[ana,#[dG,Zje,s3]],fun _ z=>#[dg,ln,Zag]⟩
  rw[kF _ e33];refine ZBe
  by_cases e34:ZaO=34
  ·rw[kT _ e34]
   obtain rfl:k=34:=Zaf
   exact aR ⟨_,rfl,Vi,ZaC,T1 Zag _ mb,fun f e=>Zdf e (Vk f),fun _ H' g _=>q Zac H' (ZVP g) ZaHb xU⟩
  rw[kF _ e34];refine ZBe
  by_cases e35:ZaO=35
  ·rw[kT _ e35]
   obtain rfl:k=35:=Zaf
   refine #[aS1,Za0Y,W8]
   ·rw[show Za0Z (·.2)=ZWi from rfl,Vh]at z
    cases z
   ·rw[show Za0Z (·.2)=ZWi from rfl,Vh]
    exact ZNc
  rw[kF _ e35];refine ZBe
  by_cases e36:ZaO=36
  ·rw[kT _ e36]
   obtain rfl:k=36:=Zaf
   refine #[aS1,Za0U,W9]
   ·rw[show Za0V (·.2)=ZWj from rfl,Vj]at z
    cases z
   ·rw[show Za0V (·.2)=ZWj from rfl,Vj]
    exact ZaiS
  rw[kF _ e36]
  obtain rfl:k=37:=Zaf
  refine #[jv,Zaqu];rw[o9];obtain⟨s3,K3⟩:=Zaa_;generalize ZaiV=H3 at s3 K3 ⊢;exact⟨kp,kdx,_,rfl,Zaf2,ZMG,_,rfl,kp,_,B,a,b,l,rfl,K3,A,#[Qo,#[Xu,(Zaf3 s)],ZaHb]⟩
def Ag (F:#[am,ZL7,ZL7,lC]) : #[dD,[],CM]:=by
 refine #[agK,iP]
 ·obtain⟨rfl,_⟩:=h
  rfl
 ·obtain⟨rfl,k⟩:=h
  refine ⟨_,(by with_reducible exact Q5.h (by with_unfolding_all exact Qy 0 iP.nd Zax' (
   JU 0 iP.nd Zax_ Zap (
   JU 0 iP.nd Zax' Zap (
   Ii Zap Zax_))))),?_⟩
  try dsimp only[cxK,cxK']
  refine#[ul,10,fun l0 h0=>?_];have s0:=#[x0,Kw.map,h0];have m0:upd H l0 #[mS,Kw.map] l0=_:=ac;refine#[aaU,9,Kw,Pa,s0,m0,fun l1 G1 n1 s1 m1=>?_];refine#[aaU,10,Kw++Pa,Pb,s1,m1,fun l2 G2 n2 s2 m2=>?_];exact#[aaU,9,(Kw++Pa)++Pb,UL,s2,m2,fun l3 G3 n3 s3 m3=>k l3 G3 s3 m3]
def D2 (F:#[am,ZL8,ZL8,oX])(kj:#[ahp,ZL2,8,NR])(lX:#[ahp,ZL3,9,NU])(km:#[ahp,ZL4,60,NS]) : #[aho,61,NV]:=by
 refine #[agL,Eo]
 ·obtain⟨p,B,k,a,b,l,rfl,_⟩:=h
  rfl
 ·obtain⟨p,B,k,a,b,l,rfl,hk,S,A,hT,q⟩:=h
  have hu:=ZaU;refine #[T3,ZagY,#[dq,#[dn,kj,Zalb]],#[m_,ZagY,#[dn,lX,Zalb],#[dq,#[dn,km,Zalb]]]]
  try dsimp only[cxK,cxK']
  refine Zuu
  by_cases h1:ZaO<12
  ·rw[Yc h1]
   exact ZaLJ
  rw[X9 h1];refine aG Zuu
  by_cases h2:ZaO<25
  ·rw[Yc h2]
   exact ZaLJ
  rw[X9 h2];exact aG ⟨_,rfl,_,rfl,_,rfl,_,rfl,_,rfl,p,B,k,a,b,l,rfl,Zaf,S,A,hT,q⟩
def Ah (F:#[am,ZL9,ZL9,lD])(pQ:#[ahp,ZL8,61,NV]) : #[cS,62,ZLm,Zawi]:=by
 refine #[agK,iQ]
 ·obtain⟨p,B,k,a,b,l,rfl,_⟩:=h
  rfl
 ·obtain⟨p,B,k,a,b,l,rfl,hk,S,A,hT,q⟩:=h
  have hu:=ZaU
  refine ⟨_,(af (bZ 5 iQ.nd Zhs) (
   af (Qu rfl rfl (fun pins E=>ae (ax (Qv pQ Zbk rfl Tp Zalb))) (U9 (i:=6) rfl U.mW iQ.nd rfl rfl (fun ea oe CC od us hc ho hd=>ae (bZ 5 iQ.nd (dq #[uQ,#[ahj,(Qg (v:=.ty Ztn) ZadW UO.mE O7 rfl)],#[ahk,Zfb,U.mA],#[ahk,cB,UO.mB],#[ahk,Zfc,U.mM],#[uQ,#[ahk,ZhO,U.mT],#[ahk,cF,UO.mF],#[ahk,Zc0,U.mN],#[ahk,cO,UO.mO],#[uQ,#[ahk,cP,UO.mP],#[ahk,cX,UO.mQ],#[ahk,cV,UO.mV],#[ahk,cQ,UO.mN],#[kO,#[ahk,Zf3,U.mS],#[ahk,cT,UO.mT],#[kP,#[ahk,cL,UO.mL],#[ahk,cU,UO.mU]]]]]]) (hs:=AU))) Nu)) (
   #[Oc,5]))),?_⟩
  try dsimp only[cxK,cxK']
  refine#[nU,fun lf hlf=>?_];have s1:=#[nm,hlf];refine⟨_,rfl,_,rfl,_,rfl,_,rfl,_,rfl,p,B,k,a,b,l,rfl,hk,ZlL,A,ZaD7,fun od H2 g2 t2 x2=>?_⟩;refine #[br,Zad,UO.wt _ (G5 k)];rw[Zav];refine #[c9,(fun ea=>?_)];have XC:=UO.xc _ (G5 k);refine#[ahh,.ty,(UO.kv _ (G5 k)),#[ahi,0,#[ahi,1,#[ahi,2,#[ahi,3,#[ahi,4,#[ahi,5,#[ahi,6,#[ahi,7,#[ahi,8,#[ahi,9,#[ahi,10,#[ahi,11,#[ahi,12,#[ahi,13,#[ahi,14,#[ul,16,ZSu]]]]]]]]]]]]]]]]];refine#[c9,q lq _ (ZVP (ZAG (fk (ag hlq)))) #[vV,(t2 h).same (ag hlq)] ?_];rw[ac,M5 hk];rfl
def Th (F:#[am,ZL_,ZL_,EL])(jn:#[eO,ZLZ,1,ZG8,(NY K)])(jr:#[eO,ZL0,2,ZYh,JY])(lY:#[eO,ZL7,1,[],CM])[194][264](dQ:ZaM8)[21](lZ:#[eO,ZL9,62,ZLm,Zawi])(pR:#[eO,ZL1,1,[],J3])(nY:#[ka,ZLo,1,Zjc,J8]) : #[cS,64,ZR1,(ED K T5)]:=by
 refine #[agK,oM]
 ·obtain⟨a,ns,rfl,_⟩:=h
  rfl
 ·obtain⟨a,ns,rfl,hS,hlen,hT,k⟩:=h
  have hu:=ZaU
  refine ⟨_,(af (bZ 1 ZmP ZaJw) (
   af (bZ 2 ZmP ZZQ) (
   af (bZ 3 ZmP ZZQ) (
   af (bZ 4 ZmP ZZQ) (
   af (bZ 5 ZmP (Nm lY Zbk rfl)) (
   af (bZ 6 ZmP (d7 kP ZcT (d7 An #[eT,iY,(dv ZaJw)] ZcT))) (
   af (iM ZA rfl (Lq ZadW T.range (BC ZcT Zaw6 ZBv)) (iW 7 ZmP) (af (bZ 8 ZmP ZaaE) (
   af #[ZR,dQ,Zm0] (
   af #[ZR,dQ,Zm2] (
   af #[ZR,br,ZayL] (
   af #[m',#[eH,(Qe (Ra hr ZaF)),#[eT,lZ,#[ala,ZPo,(pv 7)]],(d7 HZ #[se,Zoa] (#[gn,iJ,ai EL,Rg,[Za13,ZafB,ZkG],#[HR,5,7],Dg,(dD (Nm pR Zbk rfl)),#[ag8,[Za13,ZafB,ZkG],(yp bu Zap (bP (MO K) Zau Zay ZA_) ZeG)]]))],Zoa] (
   ae (aN #[eH,(Tk 1 (Ra hr ZaF)),(oF nY ZPo Zbv Zbk dw),(dq (BC #[vN,Zay] Zaxu Zam2))] #[uO,Zoa] ZhZ)))))))) (
   ZauH)))))))),?_⟩
  try dsimp only[cxK,cxK']
  have one:#[pl,1]:=ZaC
  have two:Zpm:=ZaC
  have three:#[pl,3]:=ZaC
  refine⟨_,rfl,a,ns,1,rfl,hS,ZaC,?_⟩;generalize yU ns 1=cn;refine⟨_,rfl,0,cn,rfl,Zaiu,_,rfl,1,cn,rfl,Zaiu,_,rfl,2,cn,rfl,Zaiu,?_⟩;have A:A3 (GN 0 cn) (GN 1 cn) (GN 2 cn):=Wy cn;generalize GN 0 cn=ga at A ⊢;generalize GN 1 cn=gb at A ⊢;generalize GN 2 cn=gl at A ⊢;refine#[da,fun lc H1 s1 hc=>?_];refine⟨_,rfl,a,ns,0,rfl,s1.seq hS,ZaC,_,rfl,_,_,rfl,rfl,ZaC,_,_,rfl,rfl,?_⟩
  obtain⟨d,hd,ed⟩:∃ d:Nat,(ZHX)/\1+ZaPf%3=ZnV:=by
   generalize ZaPf=x;refine #[br,(1+x%3).toNat,?_]<;>lia
  rw[ed]
  have l38:#[a0,Zaf5,ZaY]=38:=ZaC
  refine⟨_,rfl,lc,_,rfl,#[lv,hc],_,rfl,0,_,d,rfl,hd,⟨ZaF,ZaF,(#[sO,l38]),(#[sO,l38])⟩,?_⟩;rw[l38];have hT1:TB T5 H1:=#[mA,Zal (s1 _ _ (hT t ht))]
  have cz7:∀ i:Nat,i<(ZK6 0 #[a1,38] d).toNat->i*d<38:=fun i hi=>by
   rw[ZYF]at hi;rcases hd with rfl | rfl | rfl<;>(simp at hi;lia)
  refine Hd #[jT,∃ v7 v8:ZgG,σ=[#[bE,a],#[cV,cn],#[cV,ga],#[cV,gb],#[cV,gl],Zasx,#[cV,ZnV],v7,v8]/\#[ei,lc,Zaf6]/\(i*d<=34->TB T5 HH)]
   (au Zac Zac rfl hc #[g5,hT1]) ?_ ?_
  ·intro i σ HH hi a_;obtain⟨v7,v8,rfl,R_,hTB⟩:da:=a_
   have hk:=cz7 i hi;obtain⟨k0,ek⟩:∃ k0:Nat,k0=i*d:=ZbG
   have e1:ZfB+#[a1,i]*ZnV=ZSd:=#[e5,ek]
   rw[e1];rw[<-ek]at hTB hk;intro x dx nx ndx nex;refine⟨x,dx,rfl,ac,fun B1 H2 S1 kp fr=>Zwd⟩
   have s0:ay HH (upd (upd HH dx (Zes x)) x Zapo):=ZOP
   have E1:Ev c HH H2 x B1 ZcW:=Zane;have no:#[afG,ZaSk]:=fun B m h=>ZaQE;refine⟨_,rfl,x,B1.dx,_,rfl,ZAE,ZHc,_,rfl,x,B1,_,ga,rfl,S1,UQ,Zec,Mj (by simp[bn,look]) fun H3 mv1=>?_⟩;refine ak (E1.moved mv1 (Sw A)) fun B2 E2 _=>?_;refine⟨_,rfl,x,B2.dx,_,rfl,E2.hall.ob,ZHc,_,rfl,x,B2,_,gb,rfl,E2.hall,UR,A.sb,Mj (by simp[bn,after,put,look,A.ab]) fun H4 mv2=>?_⟩;refine ak (E2.moved mv2 (Sx A)) fun B3 E3 _=>?_;refine⟨_,rfl,x,B3.dx,_,rfl,E3.hall.ob,ZHc,_,rfl,_,rfl,x,B3,_,ga,gb,rfl,E3.hall,US,Zec,A.sb,Mj (SE A) fun H5 mv3=>?_⟩;refine ak (E3.moved mv3 #[aX,Ol A,ZoH]) fun B4 E4 _=>?_;rw[Ol A]at E4;refine⟨_,rfl,_,rfl,_,rfl,_,rfl,_,rfl,x,B4,k0,ga,gb,gl,rfl,hk,E4.hall,A,fun h=>(hTB h).same E4.same,fun q H6 g6 t6 hq6=>?_⟩;have hc6:H6 lc=Zab Zaf6:=g6.lst (E4.same _ _ R_);have hx6:=E4.hall.gk g6;refine⟨one,fun l1 u_=>?_⟩;have sA:=#[nl,ZvA,u_];refine ZalC;have sB:=#[x0,ZpS,hlp];refine#[lG,lp,ac,fun qc hqc=>?_];have sC:=#[nm,hqc];have hp7:#[aQ,ZaaD,lp,Zxp,lp,Zxp]:=ac;have h17:#[aQ,ZaaD,lp,Zxp,l1,(ZaI ZvA)]:=sB _ _ ac;have s67:=Za1O sB
   generalize upd ZaaD lp Zxp=H7 at sC hp7 h17 s67 hqc ⊢
   refine de (K:=K) (a:=lp) (xs:=ZpS ZaY) #[wy,#[iB,[v,Zasx,#[cV,ZSd]],ay H7 HK,HK qc=Zab #[mT,((io.take j).map ZajS).map]]]
    #[c_,Zac,sC,ac] #[Qf,#[ce,_,s,_],#[hb,s,hp7]] ?_ ?_
   ·intro j y σ HK hj a_;obtain⟨v,rfl,s7,hq7⟩:az:=a_
    obtain⟨n,hn,rfl⟩:ak:=Zxv;have hat:Kl (Zaf5 ZaY) ZSd=Zab (Zax (ZAT k0 "")):=bR (#[nW,Jo pM k0 "" (by show k0<38;exact hk)]);have jl:j<15:=#[pc,hn];refine iS ⟨_,rfl,_,rfl,_,rfl,lc,_,_,_,rfl,rfl,#[hb,s7,(s67 _ _ hc6)],hat,rfl,_,hq7,ZaO1,_,rfl,cw s7 hqc,?_⟩;rw[ac,YG,hn,YE,Yu,Yu]
    have eb:#[AW,ZaY n=ZaY (ZAT k0 ""),#[AV,n=ZajR]]:=by
     by_cases z:n=ZAT k0 ""
     ·rw[Yc z,Yc (Zp ZaY z)]
     ·rw[X9 z,X9 #[gO,z (ZtG y)]]
    rw[eb];rfl
   ·intro σ HK a_;obtain⟨v,rfl,s7,hq7⟩:az:=a_
    rw[X7,YJ]at hq7;refine⟨l1,qc,_,_,rfl,rfl,s7 _ _ h17,hq7,by rw[X7,X7];show #[pl,16];decide,ZEi⟩;have s3:=#[fj,ZaI (ZvA++Zap4),hl3];have h33:#[aQ,HK,l3,ZaGG,l3,#[aGs,ZajS]]:=ac;generalize upd HK l3 ZaGG=H8 at s3 h33 ⊢;have s68:=#[dG,s67.trans,s7] s3;refine#[aKm,q,l3,s68 _ _ hq6,h33];obtain rfl:ZSJ:=ZasZ;refine#[c9,ZwS];have hx8:=hx6.mono s68;refine⟨_,rfl,x,B4.dx,_,rfl,hx8.ob,ZHc,x,B4,_,rfl,hx8,fun ls H9 hls s9 dl=>?_⟩;refine#[vJ,fun t1 ht1=>#[axo,#[bw,_,three,fun t3 ht3=>⟨three,fun lz hlz=>?_⟩]]];have u1:=#[lM,ZTw,ga,ht1];have u2:=#[lM,ZTw,gb,ht2];have u3:=#[fk,[Zas9,Zaw ga,Zaw gb],ht3];have u4:=#[nl,[Zauj,Zaui,Zauk],hlz];have u14:=#[dG,#[dG,Za1Z,u2],u3] u4;refine#[aKm,ls,lz,Gk (jT.gk dl (fk u14)),Gk (ds:=Pp ga gb) #[hc,[t1,t2,t3],ZaD (u4 _ _ (u3 _ _ #[gw,u2])) #[B1,(u4 _ _ #[gw,u3]),#[gw,u4]]]];obtain rfl:ZSJ:=ZasZ;have sz:=#[dG,s68.trans,s9] u14;refine#[c9,aG (au _ _ rfl (sz _ _ hc6) #[vV,(t6 ?_).same sz])];rw[ek]
    rcases hd with rfl | rfl | rfl<;>lia
  ·intro σ HH a_;obtain⟨v7,v8,rfl,_⟩:bU:=a_
   exact k HH
#where
def all_mk2 {l:PySem.W.OpenLaw}{w:World}[323][150][127]{fa:Addr}{C cW cA cM cS cT cN fN cP cV cQ cO cX fX cB cTk cU cL cF ck cb kd cs dz q1 q2 q3 q4 q5 q6 q7 t1 t2 t3 t4 t5 t6 t7 t8 t9 t10 t11 t12 u1 u2 u3 u4 u5 u6 u7 n1 n2:Addr}[405](G:Zr8)(hfa:#[bI,ZL_,fa]){cm Pm cf Pf ct Pt cj Pk c0 P0:Addr}(CKm:gL K cm Pm)(ax6:#[Mh,ZmM,(cm,Pm)])(CKf:gL K cf Pf)(ax8:#[Mh,ZmN,(cf,Pf)])(CKt:gL K ct Pt)(ax5:#[Mh,ZlY,(ct,Pt)])(CKk:gL K cj Pk)(ax7:#[Mh,ZmO,(cj,Pk)])(CK:Zayc)(aq5:#[Mh,ZmL,(c0,P0)])(hnd:Zaa8)(aC:#[Mp,ZJ1,C])(S8:#[Mp,ZaXN,cW])(SN:#[Mp,Zz6,cA])(SS:#[Mp,Zz7,cM])(P4:#[Mp,Zpz,cS])(SY:#[Mp,Zz8,cT])(SU:#[Mp,Zdv,cN])(bv2:#[a2j,cN,fN])(pg:Zay0)(hd:Za02)(po:Za3Y)(sa:Za2h)(JK:#[a2c,C,Zky])(zP:#[a2c,C,Zi0])(zO:#[a2c,C,ZhN])(FY:#[a2c,C,ZhM])(R7:c6 K cA)(Sb:c6 K cM)(Pn:c6 K cS)(Sj:c6 K cT)(Sc:#[wk,cN,fN])(g1:#[a2e,cN])(g2:#[a2g,cN])(g3:#[a2d,cN])(g4:#[a2c,cN,Zba])(g5:#[a01,cN])(g6:#[a2X,cN])(g7:#[a2W,cN])(g8:#[aao,cN])(tN:#[a3L,fN])(wS:#[aJs,cW])(wR:#[aXu,cW])(wI:#[aXw,cW])(bx0:#[agN,cA,cA])(bj5:#[agO,cM,cA])(bj4:#[agN,cM,cM])(bq5:#[agO,cS,cA])(bq4:#[agO,cS,cM])(az9:#[agN,cS,cS])(bq2:#[agP,cA])(bq1:#[agP,cM])(az8:#[agP,cS])(av8:ZaFD)(bj2:#[agS,cA])(bj1:#[agS,cM])(bq8:#[agS,cS])(bq7:#[agS,cT])(bj0:#[agN,cN,cN])(mk:Za31)(kc:Za2R)(SW:#[Mp,ZLa,cP])(S7:#[Mp,ZpR,cV])(SX:#[Mp,ZAB,cQ])(SV:#[Mp,ZK',cO])(S9:#[Mp,ZpK,cX])(SO:#[Mp,ZKZ,cB])(ax0:#[Mp,ZK0,cTk])(SZ:#[Mp,ZtL,cU])(SR:#[Mp,ZK1,cL])(SQ:#[Mp,ZK3,cF])(Ta:#[Mp,ZKr,ck])(bz0:#[Mp,ZKR,cb])(kpg:#[axt,ck])(khd:#[a01,ck])(kpo:#[a3Z,ck])(ksa:#[a2d,ck])(Fx:#[a2c,ck,Za5])(Fy:#[a2c,ck,ZhQ])(zA:#[a2c,ck,Zi6])(uU:#[a2c,ck,Zmw])(kmk:#[a32,ck])(kkc:#[a2N,#[ak,ck]])(bpg:#[axt,cb])(bhd:#[a01,cb])(bpo:#[a3Z,cb])(bsa:#[a2d,cb])(W_:#[a2c,cb,Zi9])(V_:#[a2c,cb,ZhT])(aq7:#[a2c,cb,ZmD])(bmk:#[a32,cb])(bkc:#[a2N,#[ak,cb]])(ak4:#[Mr,Za14,Zae,12,t1])(ak6:#[Mr,Za16,Zax,ZAk,t2])(bx7:#[Mp,ZaZr,dz])(dzo:ZhL dz=Zab (L2.gObj Zfd Wz.sizesD [(t3,t4),(t5,t6),(t7,t8)] n1))(dzs:#[aby,dz])(cq7:#[a2i,C])(bz4:Za0B)(bz3:Zafy)(cq6:#[a2W,C])(bz2:#[afs,C,C,Zad])(bv1:#[a2j,cX,fX])(Sn:#[wk,cX,fX])(p1:#[a2e,cX])(p2:#[a2g,cX])(p3:#[a2d,cX])(p4:#[a2c,cX,Zi8])(p5:#[a01,cX])(p6:#[a2X,cX])(p7:#[a2W,cX])(p8:#[aao,cX])(tQ:#[a3L,fX])(ak5:#[Mp,"KINDS",kd])(kdo:ZtY K kd (Wz.kindsL.map L2.V.str))(bx9:#[Mp,"SIZES",cs])(szo:ZhL cs=Zab (L2.hObj Zfd (Wz.szL ⟨q1,q2,q3,q4,q5,q6,q7⟩) [u1,u2,u3,u4,u5,u6,u7] n2))(szs:#[aby,cs])(sz1:ZtY K q1 #[bP,2,2])(sz2:#[WH,q2])(sz3:#[WH,q3])(sz4:#[WH,q4])(sz5:ZtY K q5 #[bP,4,4])(sz6:ZtY K q6 #[bP,1,60])(sz7:ZtY K q7 #[bP,1,1])(bx6:#[Mr,Za0l,Zae,Zcc,t9])(ak3:#[Mr,Za18,Zae,12,t10])(ak2:#[Mr,Za1_,Zax,ZAv,t11])(bx8:#[Mr,Za0v,Zae,8,t12])(Se:c6 K cP)(Sm:c6 K cV)(Si:c6 K cQ)(Sd:c6 K cO)(R8:c6 K cB)(az7:c6 K cTk)(Sk:c6 K cU)(Sa:c6 K cL)(R9:c6 K cF)(aj6:ZaFC)(aj5:#[agO,cTk,cB])(aj4:#[agN,cTk,cTk])(av7:ZazH)(av6:#[agO,cU,cTk])(av5:ZaFB)(bj6:ZaFf)(bj7:ZaFE)(bj8:ZaFF)(bq6:#[agN,cX,cX])(bj9:#[agO,cA,cX])(bq9:#[agS,cX])(bj3:#[agO,cM,cX])(bq3:#[agO,cS,cX])(av9:#[agP,cX])(bq0:#[agP,cN])(VQ:#[Mq,Ztn])(wt_:#[aGA,#[agN,a,cW]])(xc_:Xh K ZRZ=Zad)(kv_:#[aGA,ZaNX])(kk_:Xb K ZRZ=Zad)(rZ:aZ K ZLZ lA)(yC:aZ K ZIu qW)(xi:aZ K ZL0 oY)(r6:aZ K ZL7 lC)(wV:cE K C Zf2 Za09 oP)(uh:cE K C ZyU Za1c mx)(wU:cE K C Zc5 Za0_ oO)(pZ:cE K cN Zf2 Za07 jL)(uj:cE K C ZlX Za1g mD)(sZ:cE K C Zsy Za1i qU)(pj:cE K C ZAD Za1d jg)(pk:cE K C Zer Za1a jh)(BQ:cE K C Zck Za0' tW)(rS:cE K C Zo2 Za1h kY)(xp:aZ K ZIl o8)(py:aZ K ZLN jj)(jo:cE K C ZyM Za1e kW)(pq:cE K C ZyV Za1j ji)(EX:aZ K ZIm wN)(uw:aZ K ZIo mR)(xk:aZ K ZmM dH)(qa:aZ K ZL2 jM)(rQ:cE K C Zhx Za1f kU)(EZ:aZ K ZLL rE)(yE:aZ K ZLM qY)(EW:aZ K ZLO nj)(pz:aZ K ZLP gJ)(BV:aZ K ZLQ tZ)(BW:aZ K ZLR uc)(w8:aZ K ZIp j7)(BX:aZ K ZLS ud)(yB:aZ K ZLT qV)(ux:aZ K ZIk mX)(xq:aZ K ZIn gK)(xb:aZ K ZlY bJ)(wZ:aZ K ZLI oS)(uq:aZ K ZLK mI)(wY:aZ K ZLW oR)(pE:aZ K ZmO aX)(xf:aZ K ZLX j8)(se:aZ K ZLY lE)(wW:cE K C ZAC Za1m j6)(rX:aZ K ZIr k9)(I0:aZ K ZLU AR)(w9:aZ K ZmN dG)(rR:cE K C ZkE Za1l kX)(BU:aZ K ZLD tY)(rY:aZ K ZL3 lx)(lL:cE K cb Zf2 Za1t ir)(rT:cE K ck Zf2 Za1T kZ)(uo:aZ K ZLV mH)(pX:cE K ck ZafY Za1U jJ)(pY:cE K ck ZafZ Za1V jK)(uk:cE K ck "due" Za1W mG)(rV:cE K ck Zaf0 Za1X k7)(xm:aZ K ZIs o7)(rg:aZ K ZyX oW)(pC:aZ K ZIt jk)(lM:cE K cb ZIq Za1v iu)(eX:cE K cb ZAM Za1x d9)(pD:aZ K ZLs jm)(gR:cE K cb ZtR Za1y eW)(uv:aZ K ZLr mJ)(ur:aZ K ZLt hW)(gS:cE K cb ZtS Za1z gA)(jN:cE K cb ZafQ Za1u gz)(jO:cE K cb ZafR Za1w gB)(vH:aZ K ZyR ue)(xa:aZ K ZAN oV)(yD:aZ K ZtV qX)(l6:aZ K ZyW iR)(xl:aZ K ZLx o0)(nU:aZ K ZmL bq)(p9:aZ K ZtW oU)(sf:aZ K ZLB lG)(xn:aZ K ZLE j9)(BS:aZ K ZLC tX)(rW:cE K cX Zf2 Za08 k8)(EY:aZ K ZLF wO)(wX:cE K ck Zck Za1Y oQ)(qb:aZ K ZL4 ig)(xg:aZ K ZL8 oX)(sd:aZ K ZL9 lD)(xj:aZ K ZL1 oZ)(ui:cE K C ZLo Za1k mz)(Q2:aZ K ZL_ EL)(RA:#[Mq,ZzE])(Kh:#[Mq,ZsA])(vC:#[Mq,Zafz])(Ki:#[Mq,ZfW])(ON:#[Mq,Zds])(Rz:#[Mq,Zs7])(OL:#[Mq,"bool"])(Rx:#[Mq,Zdi])(Ry:#[Mq,"any"])(GH:#[Mq,ZJF])(AW:#[Mq,Zpv])(RF:#[Mq,Zs8])(RE:#[Mq,"min"])(RC:#[Mq,"max"])(OM:#[Mq,Zmj])(RJ:#[Mq,Zdu])(xV:#[Mq,ZdK])(RH:#[Mq,"sum"])(RG:#[Mq,Zmi]) :
  #[a4s,∀ [135][283],ZsZ s fd #[dX,[v]] [(ZtO,v)],#[akJ,Zl4,aT Zc3 w K mg ZaP d8 64 fa fd ZR1 (ED K Zahx)]]:=by
 obtain⟨c,rfl,rfl,rfl,rfl,rfl,rfl,rfl,rfl⟩:∃ c:HX,c.C=C/\Zts=cW/\Zfb=cA/\Zfc=cM/\Zf3=cS/\ZhO=cT/\Zc0=cN/\Ztt=fN:=⟨⟨C,cW,cA,cM,cS,cT,cN,fN⟩,rfl,rfl,rfl,rfl,rfl,ZQ7⟩;have T:Txt mg:=⟨#[cY,RA],#[cY,Kh],#[cY,vC],#[cY,Ki],#[cY,ON],#[cY,Rz],#[cY,OL],#[cY,Rx],#[cY,Ry],#[cY,GH],#[cY,AW],#[cY,RF],#[cY,RE],#[cY,RC],#[cY,OM],#[cY,RJ],#[cY,xV],#[cY,RH],#[cY,RG]⟩;have U:ZaFT:=⟨⟨pg,hd,po,sa⟩,JK,zP,zO,FY,#[b_,aC],R7,Sb,Pn,Sj,#[b_,SN],#[b_,SS],ZatI,#[b_,SY],#[b_,SU],#[b_,S8],Sc,⟨g1,g2,g3,g4,g5,g6,g7,g8⟩,tN,wS,wR,wI⟩;have VM:HM K c:=⟨bx0,bj5,bj4,bq5,bq4,az9,bq2,bq1,az8,av8,bj2,bj1,bq8,bq7,bj0⟩;have UO:gi K mg w c #[ahl,cTk] ⟨q1,q2,q3,q4,q5,q6,q7⟩:=⟨⟨⟨kpg,khd,kpo,ksa⟩,Fx,Fy,zA,uU,#[b_,Ta]⟩,Se,#[b_,SW],Sm,#[b_,S7],Si,#[b_,SX],Sd,#[b_,SV],⟨⟨⟨Pn,ZatI,az9⟩,⟨⟨bpg,bhd,bpo,bsa⟩,W_,V_,aq7,#[b_,bz0]⟩,#[qD,bx6],Zawl,Zawm,#[b_,ak5],kdo,Sk,#[b_,SZ],R8,#[b_,SO],az7,#[b_,ax0],aj6,aj5,aj4,av7,av6,av5⟩,Sa,#[b_,SR],bj6,bj7⟩,⟨R9,#[b_,SQ],bj8,Zawn,Zawo,#[qD,bx8],Zawl,Zawm,#[b_,ak5],kdo,#[b_,bx9],⟨#[af7,(([ZeE,Zdx,Zf8,Zdi,Zf9,ZaH,Za']:Zbe)).Nodup],szs,[u1,u2,u3,u4,u5,u6,u7],n2,rfl,szo⟩,sz1,sz2,sz3,sz4,sz5,sz6,sz7⟩,⟨⟨⟨Zawn,Zawo,#[b_,bx7],⟨ZaA,dzs,[(t3,t4),(t5,t6),(t7,t8)],n1,rfl,dzo⟩⟩,cq7,bz4,bz3,cq6,bz2⟩,Sn,⟨p1,p2,p3,p4,p5,p6,p7,p8⟩,tQ,#[b_,S9],bq6,bj9,bq9,bj3,bq3,av9⟩,#[aLk,wt_],VP xc_ bz4 bz3,#[aLk,kv_],U3 kk_,#[cY,VQ],bq0,az8⟩
 obtain⟨Fl,Dk,E8,Ft,xr⟩:=wV;obtain⟨zg,jC,yL,ML,fD⟩:=pZ;obtain⟨uK,sr,uC,gD⟩:=uw;obtain⟨xB,uL,xu,iz⟩:=xq;obtain⟨uJ,tE,uB,uR,lN⟩:=lL;obtain⟨A7,zi,A1,A9,sh⟩:=rT;obtain⟨zh,xC,yM,i7⟩:=yD;obtain⟨xA,Dl,E9,xt⟩:=xl;obtain⟨A8,zj,A2,OW,si⟩:=rW;obtain⟨dq0,Sq,cx7,av4⟩:=Q2;have e:=hfa.symm.trans (Yt X G cx7);cases e;have eN:=Yk (Yk (yL.symm.trans bv2))
 have eN2:zg=Ztt:=by injection eN
 have eQ:=Yk (Yk (A2.symm.trans bv1))
 have eQ2:A8=fX:=by injection eQ
 refine #[bm,Sq,?_,fun base KB _ BK=>?_]
 ·obtain⟨_,_,_,_,_,_,_,_,_,rfl,_,_⟩:=av4.ex
  exact fun s v=>Zaco
 ·have z:#[xJ,Bs,h]:=ZG9
  have cz3:ZNq∈Zahx:=.head _;have cz4:ZNr∈Zahx:=ZcN _ Zjt;have cq0:ZNg∈Zahx:=ZcN _ Zvt;have cq1:ZNh∈Zahx:=ZcN _ ZGe;have cz5:ZNs∈Zahx:=ZcN _ ZGf;have dj:(#[ahx,0].map (·.1)).Nodup:=hnd;have jn:=#[kW,rZ,Af];have iY:=#[kW,yC,F5];have jr:=#[MB,xi,D3,iY];have lY:=#[kW,r6,Ag];have MH:#[xJ,Ux,c]:=au Fl Dk ⟨mk,E8,Ft,kc⟩ #[H8,DS,xr] (xr.binds (ps:=Zjc) (by intro _ _ _ _ _ _;(repeat refine ZMX);exact Zd3));have fO:=#[kX,uh,Bq];have dQ:=#[MA,wU,DR,fO];have NG:#[xJ,iE,c]:=⟨jC,eN2▸ZZW,(fD.binds (ps:=ZkK) (by intro _ _ _ _ _ _;(repeat refine ZMX);exact Zd3))⟩;have bg:=#[MA,uj,Bt,NG];have ii:=#[kX,sZ,xN];have ic:=#[kX,pj,wq];have br:=#[ji,jF,pk,#[qZ,wu,bg,ii,fO,ic]]
  have f6:=#[MA,BQ,HR,bg];have f7:=#[MA,rS,zZ,NG];have fM:=#[Mz,xp,D9,bg];have ko:=#[Mz,py,ww,fM];have cz:=#[kX,jo,kO];have eE:=#[kX,pq,wv];have jS:=#[FH,EX,Lg,cz,NG,eE]
  have C8:#[aSC,bI,Zax4,Zax5,Zax6,Zff]:=by
   intro b fl c1 cy vy pm ct md lm;have zb:ZZP:=ZG9;have NG:ZaH_:=⟨jC,eN2▸ZZW,(fD.binds (ps:=ZkK) (by intro _ _ _ _ _ _;(repeat refine ZMX);exact Zd3))⟩;have cz:=ZaKp;exact ZaPY
  have sW:#[yh,ZmM,6,ZTk,Zaaw]:=by
   obtain⟨f9,fd9,a9,g9⟩:=xk;exact bS f9 fd9 (D5 T U VM UO g9 #[yB,ax6] CKm BK Zavq gD.kp (gD.binds (ps:=Zlw) fun _ _ _ _ _ _ us hl=>match us,hl with | Zx2,_=>rfl) C8) Zxx g9.kp (g9.binds (ps:=ZTk) fun _ _ _ _ _ _ us hl=>match us,hl with | Zj9,_=>rfl)
  have kj:=#[jM,qa,yf T U VM UO h dQ f6 br bg f7 fM ko jS sW cz3 dj];have dB:=#[kX,rQ,zX];have C4:=#[YM,EZ,Li,dB,bg];have vG:=#[YM,yE,F6,C4,fM];have CZ:=#[MB,EW,Lf,eE];have kr:=#[YM,pz,wx,vG,CZ];have yA:=#[Mz,BV,HV,kr];have uf:=#[Mz,BW,HW,jS];have iZ:=#[Mz,w8,DX,jS];have ug:=#[Mz,BX,HY,iZ];have vE:=#[Mz,yB,F4,iZ];have iw:=#[FH,ux,BB,f7,cz,NG]
  have C7:#[aRT,aY,ZFJ,ZFK,ZFL,Za5,ZaCX]:=by
   intro b fl c1 cy vy pm ct md lm;have zb:ZZP:=ZG9;have ii:=#[ap0,sZ,xN];refine Mw (ql:=aY) fun i hv=>?_;subst hv;exact vc T U VM UO iz #[aO7,yG.same] (wz T U VM UO ii lm) lm.ob rfl (fun s us hl=>match us,hl with | Zj9,_=>Zaco)
  have i6:#[yh,ZlY,5,ZTl,ZaaX]:=by
   obtain⟨f9,fd9,a9,g9⟩:=xb;exact bS f9 fd9 (D0 T U VM UO g9 #[yB,ax5] CKt BK Zavr iz.kp (iz.binds (ps:=ZLg) fun _ _ _ _ _ _ us hl=>match us,hl with | Zx2,_=>rfl) dB C7) Zxx g9.kp (g9.binds (ps:=ZTl) fun _ _ _ _ _ _ us hl=>match us,hl with | Zj9,_=>rfl)
  have nJ:=#[jM,wZ,#[qZ,DW,iw,i6,cq0,dj]];have pU:=#[jM,uq,Bx T U VM UO h iw i6];have sR:=#[kW,wY,DV]
  have vJ:#[aRT,aD,ZFM,ZFN,ZFO,ZkF,ZaCU]:=by
   intro b fl c1 cy vy pm ct md lm;refine Mx (ql:=aD) fun i hv=>?_;subst hv;exact vc T U VM UO iz #[aO7,yH.same] #[H8,qD,lm] lm.ob rfl (fun s us hl=>match us,hl with | Zj9,_=>Zaco)
  have kz:#[yh,ZmO,5,ZasM,ZaaY]:=by
   obtain⟨f9,fd9,a9,g9⟩:=pE;exact bS f9 fd9 (wB T U VM UO g9 #[yB,ax7] CKk BK Zavr iz.kp (iz.binds (ps:=ZLg) fun _ _ _ _ _ _ us hl=>match us,hl with | Zx2,_=>rfl) sR dB vJ) Zxx g9.kp (g9.binds (ps:=ZasM) fun _ _ _ _ _ _ us hl=>match us,hl with | Zj9,_=>rfl)
  have sV:=#[MB,xf,D1,bg];have nK:=#[jM,se,#[qZ,Ai,kz,sV,cq1,dj]];have qe:=#[MA,wW,DT,MH];have gC:=#[jM,rX,Ad T U VM UO h qe br];have aj0:=#[Mz,I0,Nb,gC]
  have C6:#[aSC,bF,Zax7,Zax8,Zax9,Zba]:=by
   intro b fl c1 cy vy pm ct md lm;have zb:ZZP:=ZG9;have NG:ZaH_:=⟨jC,eN2▸ZZW,(fD.binds (ps:=ZkK) (by intro _ _ _ _ _ _;(repeat refine ZMX);exact Zd3))⟩;have cz:=ZaKp;exact ZaPY
  have sS:#[yh,ZmN,6,ZEW,Zaax]:=by
   obtain⟨f9,fd9,a9,g9⟩:=w9;exact bS f9 fd9 (DY T U VM UO g9 #[yB,ax8] CKf BK Zavq gD.kp (gD.binds (ps:=Zlw) fun _ _ _ _ _ _ us hl=>match us,hl with | Zx2,_=>rfl) C6) Zxx g9.kp (g9.binds (ps:=ZEW) fun _ _ _ _ _ _ us hl=>match us,hl with | Zj9,_=>rfl)
  have l7:=#[kX,rR,zY];have yz:=#[Mz,BU,HU,l7];have lX:=#[jM,rY,Ae T U VM UO h yA uf ug vE nJ pU nK aj0 sS yz cq0 cq1 cz4 dj];have MF:#[xJ,RL,cb]:=au uJ tE ⟨bmk,uB,uR,bkc⟩ #[H8,tK,lN] (lN.binds (ps:=Zjc) (by intro _ _ _ _ _ _;(repeat refine ZMX);exact Zd3));have MK:#[xJ,Wf,ck]:=au A7 zi ⟨kmk,A1,A9,kkc⟩ #[H8,Aa,sh] (sh.binds (ps:=ZoE) (by intro _ _ _ _ _ _;(repeat refine ZMX);exact Zd3));have pT:=#[MB,uo,Bw,gC];have kC:=#[MA,pX,yd,pT];have kD:=#[kX,pY,ye];have nZ:=#[MA,uk,Bu,kD];have l8:=#[MA,rV,Ab,nZ];have p_:=#[ji,kN,xm,#[kV,D7]];have iD:=#[kW,rg,tM];have fB:=#[kW,pC,wy];have k_:=#[kX,lM,tL]
  have w_:#[Yy,#[aHD,ZFX,ZaMA]]:=by
   intro n
   induction n with
   | zero=>exact fun _=>Ur eX fun _ _ _=>uN (by intro _ _ _ _ h;cases h;exact ZaaK)
   | succ n ih=>exact #[Z8,eX,lI,fB,k_]
  have d_:#[aHD,12,(CL cb cU 9)]:=w_ 9 Zbz;have ky:=#[kW,pD,wA]
  have H_:#[Yy,#[wx,d8,ZtR,ZFX,(wL cb n)]]:=by
   intro n
   induction n with
   | zero=>exact fun _=>Ur gR fun _ _ _=>uN (by intro _ _ _ _ h;cases h;exact ZaaK)
   | succ n ih=>exact #[Z8,gR,qA,fB,ky]
  have g_:#[wx,d8,ZtR,12,(wL cb 9)]:=H_ 9 Zbz;have pW:=#[kW,uv,Bz];have pV:=#[MB,ur,By,p_]
  have G_:#[Yy,#[wx,d8,ZtS,(n+4),(rD cb n)]]:=by
   intro n
   induction n with
   | zero=>exact fun _=>Ur gS fun _ _ _=>uN (by intro _ _ _ _ h;cases h;exact ZaaK)
   | succ n ih=>exact #[Z8,gS,qB,pW,pV]
  have f_:#[wx,d8,ZtS,13,(rD cb 9)]:=G_ 9 Zbz;have j_:=#[ji,jF,jN,#[qZ,qy,iD,d_,g_,f_]];have l_:=#[ji,jF,jO,qC T U VM UO h d_ g_ f_];have fL:=#[kW,l6,qE]
  have RB:∀ d:Nat,d<=8->∀ b:ZsI,Zl4 b->pL mg b->Zmp Zc3 w K mg b ZtW (4*d+5) ZMO ZaM_:=by
   intro d
   induction d with
   | zero =>
    intro _ b kb bb;have gn:ZaNa:=ZaH3;have iD:ZaJQ:=ZaH2;exact #[aTX,1,(V0 X G nU fun _ _ _=>uN fun _ _ _ _ h=>h)]
   | succ d ih =>
    intro hd b kb bb;have gn:ZaNa:=ZaH3;have iD:ZaJQ:=ZaH2;have fL:#[aoM,ZyW,J4]:=U7 X G l6 #[iW,#[kV,qE]];have sU:Zmp Zc3 w K mg b ZAN 1 ZLe ZaF6:=V0 X G xa #[iW,#[kV,DZ]];have LN:aT Zc3 w K mg b ZC9 2 xA Dl Zop (Oc P0 aU aJ cF ZQM ZmI Uu):=D6 T U VM UO xt gn fL
    have vF:Zmp Zc3 w K mg b ZtV 3 Za06 #[aQr,xA]:=by
     obtain⟨_,_,_,_,_,_,_,_,_,rfl,lk,_⟩:=id xt.ex;exact bS zh xC (xO T U VM UO i7 (fun _ _ j _=>j) (fun _ _ _ _ a _=>a) Et LN (kb _ _ lk) rfl (fun s us hl=>match us,hl with | Zj9,_=>Zaco)) Zavs i7.kp (i7.binds (ps:=Za06) (by intro _ _ _ _ _ _;(repeat refine ZMX);exact Zd3))
    have WS:∀ (b2:Heap)[62],#[uF,b2]->pL mg b2->jt b2 aJ ZFD ZFE ZxB ZkH vy fl c1 cy pm ct->aT Zc3 w K mg b2 ZC9 (4*d+5+2) zh xC Za06 ZaRV:=by
     intro b2 fl c1 cy vy pm ct md2 bl2 lm
     by_cases hv:ZaLE
     ·subst hv
      refine KI (fun _ _ _ _ h=>by cases h;assumption) (xO T U VM UO i7 (fun _ _ j g=>g.code j) (fun _ _ _ _ a g=>?_) ZT8 (vb T U VM UO (ih Zag b2 md2.kin bl2) lm) lm.ob rfl (fun s us hl=>match us,hl with | Zj9,_=>Zaco));obtain⟨p,e,hp⟩:=a;exact ⟨p,e,g.fg hp⟩
     ·exact uN (fun _ _ _ _ h=>by cases h;exact hv (ZaX_))
    have pS:Zmp Zc3 w K mg b ZmL (4*d+5+3) ZMO (Ro P0 aU aJ cF Zlr):=by
     obtain⟨f9,fd9,a9,g9⟩:=nU;exact bS f9 fd9 (Bv T U VM UO g9 #[yB,aq5] CK bb Zavs i7.kp (i7.binds (ps:=Za06) (by intro _ _ _ _ _ _;(repeat refine ZMX);exact Zd3)) WS #[qj,E9] vF gn sU Zag) Zxx g9.kp (g9.binds (ps:=ZMO) (by intro _ _ _ _ _ _;(repeat refine ZMX);exact Zd3))
    exact #[aTX,4*d+5,pS]
  have kq:#[yh,ZtW,37,ZMO,ZaM']:=RB 8 Zbz ZaP KB BK;have nN:=#[Mz,sf,Aj,kq];have sY:=#[MB,xn,D8,fL];have yx:=#[FH,BS,HS,dQ,f6,br];have NT:#[aQL,Zc3]:=⟨zj,eQ2▸Ac T U VM UO si,(si.binds (ps:=ZrJ) (by intro _ _ _ _ _ _;(repeat refine ZMX);exact Zd3))⟩;have Z_:=#[jM,EY,#[qZ,Lh,MH,sY,yx,NT]];have qf:=#[MA,wX,DU,f6];have km:=#[jM,qb,yg T U VM UO h MF MK kC l8 p_ j_ k_ l_ nN Z_ qf cz5 dj];have pQ:=#[FH,xg,D2,kj,lX,km];have lZ:=#[MB,sd,Ah,pQ];have pR:=#[kW,xj,D4];have nY:=#[kX,ui,Br];exact Th T U VM UO av4 jn jr lY iY MH dQ br lZ pR nY
def walk {l:PySem.W.OpenLaw}{q:Program}{loose:Zbe}{XP:ZVk}{YP:ZVj}{d:DefRec}{K:Params->Za0d}{cm Pm cf Pf ct Pt cj Pk c0 P0:Addr}(hnd:Zaa8)(hn:l.most=Zab 63)(hdf:ZUg)
  (hY:ZaEc)
  (hTY:∀ (w:World)(h:Heap),ZRx->∀ t∈Zaqx,ZaC2=some (PySem.W.tabObj #[])) (hch:#[axO,ZaPg]) (aq5:#[axO,Zabb]) (hnt:ZaHg)
  (F:∀ (w:World)(mg:Zm5)(fa:Addr)(h:Heap),#[nL,0].In h->Zr8->ZacV->#[sc,cm,Pm]->#[Mi,ZmM,(cm,Pm)]->#[sc,cf,Pf]->#[Mi,ZmN,(cf,Pf)]->#[sc,ct,Pt]->#[Mi,ZlY,(ct,Pt)]->#[sc,cj,Pk]->#[Mi,ZmO,(cj,Pk)]->#[sc,c0,P0]->#[Mi,ZmL,(c0,P0)]->Zaa8 ->
   #[a4s,#[Z5,ZtO],#[aSE,d8,64,ZR1,(ED (K Zfd) Zahx)]]) :
  ZaC1 :=
 L2.walk_ofL (n:=63) (k:=64) (x:="_law_script") (tabs:=[ZalE,ZalF,ZalG,ZalH,ZalI]) (CX:=#[dL,d8]) (sp:=fun w=>ED (K Zfd) Zahx) hn ZaF hdf #[qh,ZaC,ZaC] hY hTY hch aq5 hnt
  (fun w mg fa h X G hm A=>F w mg fa h X G hm (A _ Zjt).1 (A _ Zjt).2 (A _ (ZcN _ Zjt)).1 (A _ (ZcN _ Zjt)).2 (A _ (ZcN _ Zvt)).1 (A _ (ZcN _ Zvt)).2 (A _ (ZcN _ ZGe)).1 (A _ (ZcN _ ZGe)).2 (A _ (ZcN _ ZGf)).1 (A _ (ZcN _ ZGf)).2 hnd) (fun _ H a ns hl hT hS=>⟨a,ns,rfl,hS,hl,all5 (p:=fun t:Zcq×Zahv=>H t.1=some (Zd7 #[])) (hT _ Zjt) (hT _ (ZcN _ Zjt)) (hT _ (ZcN _ Zvt)) (hT _ (ZcN _ ZGe)) (hT _ (ZcN _ ZGf)),Zaq1⟩) fun _ _ _ _ _ z=>z
#print Wk53
namespace PySem.W.Fast
#check[6622595446161399563,15116409401898864495,8530798079861154735,18049790938678894037,9887751274647683017,18031962711588223067,5921482531063775372,11387520317992899412,5986586297459993924,8691606262227055920,12809511048575739864,12509060462127899678,11782410726098231030,7821452141918559560,17908772359879127159,3484878956584959208,15132884664990745341,17969699381961988378,10140771663052652039,1770665545899482198,6061600430316605758,13345101686799357782,4290031922400483210,7152325084761248452,9600870052805055745,327361183947707921,13010279023598493973,377481851604193525,17498678914379173285,7725016030728291307,13139337642113265209,734986971344694556,608596133697189273,14107731324442786057,3994665422338379806,3659942269953146628,14439914793315000097,7985454799564361179,15500733558819603597,8043373969661364668,17849487971709234196,15077395770063914005,12785380345217498084,9488630766240632513,4582307645333732256,50115138422910766,8627265418117963008,17617323935971231876,13432949557746905829,13338981622298946698,5832704481849772903,306954074727010551,2631532992657294367,2649468474008846781,8822871513655631235,14433269887005816001,3445821006041443276,11754955014068061799,10262832663943777449,13992887021650561787,5965601234438641890,2123817864952394153,5745078578262809765,11103498268613432377,6301213118051596330,1339904510059623395,7706664161381210762,9848822492460186956,2929651466003719744,10497728023888713816,14128427202775734570,6739272553761656809,14938292135941592454,4785955959672969742,2046373889053526057,2137310059595060647,6257382593246955274,2203725281626682639,8139960460848394474,8004296575540604687,4366552376928206358,5773425505803112891,17190759109054011762,15981174539139269533,12886938664161767294,10260842145046123590,11558584875918508596,1839756625364570945,14175922734139311606,16659343043525415095,8990349038818686291,3501035478547693326,11926921155703285260,10276971092399451784,7750724942532588668,4076741964980536930,1352288151908492240,11107687294337752175,13913817589186128840,12422223635592417127,17879242820348826411,16713738238989464892,8953369725480192531,15554402731589081443,6670002642604228155,7496759385349321191,2418308105589851293,3456419631049009772,1108080590963739573,197179583965681360,4296030130109425939,443037688296906541,4140241227680612256,17989337657074505636,13839369645785064427,4122924659374259388,10119721343011658306,15582552734984423501,6730033642386324565,16345795706911702289,17905043921290170558,11908643472802259540,17491291841145812747,10740436303685860512,4810733478441248259,1159224287846092847,7541402161103865263,6143415680058149195,10078599396630935837,523577257489355868,1783838450098933292,7385048637802088377,10386866319956513703,10585301682756375924,18327012623003366529,12499966998939897282,4961278137958138046,6416254553371716234,11328477578912191822,17992060529574632050,8106478917661961908,18146902836585314700,13624512490202629270,1813509375688655984,7331309015251997951,13892023726224884772,13031681386933130407,4060583166919398087,8707771059981180898,9787487602545244156,4053877363659958028,16171364763158171902,9655061896465670722,1064026946467030915,8686186672190221931,16923493039942930543,4180032961916031060,11314809973703354130,17454095650360262072,12151063018652163917,2157057051126808384,13056883625748983450,4553366253302458424,16169456891712718011,5755714274290347829,15831418829324500839,8627948744185623854,7205086010492903383,7108186256647622481,9359879229781843472,6084375970109104968,10541704414979651875,8621323013453880549,1517676184768574831,13657046309405670249,5512514603943706135,4517897531786798727,13367905419892927808,6044468030354669438,9790861288133878502,10935813125696979724,5226224593486242937,11876547052320008344,9686648229924481473,1845897358906269781,15868916827359261504,4989747295601763300,10134072885801247699,9525611035414503433,5938512420504545384,4078293254862697726,18170658096352981204,3474710416828803348,1677438298773796162,14459156948027223838,6163047617799722507,4933847439160803287,5714912113075167231,8435078158913754873,8948187833515593813,15682042213956801531,8476776395008913196,11102760672601511235,7641401667137736771,17041103457752602912,7410704024740207928,1840774155484912843,4211643573915130103,11105804378917049600,904492020973045895,17796386016448761538,393722540605399712,16527811432469490838,10179495563368611099,4661821254010504354,815415676193104505,17098253476726446021,11442343858119393856,12269193404651694177,14747122203778321865,14620947315508182460,122500407135224677,13562846784492596170,22974353228558928,6390396384285175291,8710139345040936327,11309958141945923101,17023646123796708564,1236950538270907815,656982713444917153,8816823520909265321,5762657685615514196,10329381417572821896,14451874604841153183,14780879171346034282,15819685590424430042,10710144295488152936,2672164820251918548,3832572867918593016,15456689253795869812,12422996974296478919,13230294426344174662,16307780697393066174,7807332515203636835,13896034670364111712,14595271297798451846,9775062179489700895,9764520547448618501,11605595097084595476,12281848435190078589,15172338956815256259,11297125527952711210,1909514569463867426,2115798202030179994,10486860505710986759,10116306350233182602,9089866513623090612,4481783342301921619,11979746794390625137,1667559703397274341,17284986821180414483,3469925617337127472,446805948956325454,16496136065783703016,14595424035424759889,5606807622329771719,17191221589117048566,4080692101765580094,5278614546701302319,9669103593121856885,14583640194527706773,6471734658426672092,14026019866923072521,9244326066578280388,12665268607973289003,6360427540262409546,6522237493069962913,10668072327585166641,14523508946509916825,8270236195890588505,12662698326746466023,6014376564423341413,6197682448583919250,1791065755310536912,172587186048326731,14039535147706043670,2057760454993393897,8077190753740448657,10151997366480794281,578523176713355064,2415439329521078303,14247548166175534272,4595548335418298174,14461851737896404998,6539015526364021457,16835879494912860917,3191171727680832318,3867830773055988755,3411061350373433208,5559950607535057451,8481928849188731233,1916818892270141844,14791739714621264994,14206600188099722250,10260789837786578320,7923823384808184036,14806303270338715006,15416542943845724398,1164242597920403265,8817512040686605495,3816783401281241531,14621652825906922078,6244503370701066041,7108340349639479892,15599715582567210573,15471859447799943472,270293872288494609,3448760837233663344,3845901346374620277,7793978167162149536,17624868546139509825,1447991040250467351,11906727714784174245,3010319193270615264,3169234765142515215,12313745137516519770,657123636472116065,12354460102231533297,17994742834264132291,740615133138856655,11157683565450311315,11258088416615953638,11636136509834413678,4890128128133319360,11948008385986184271,16622475590669013830,806058474852966182,7497228622396366420,7778689108200975476,136027788146092925,2345800773283754233,316316001990919895,15178806163374426214,14055021918754591400,12974595436106967206,4542459507748936440,12193530956417333163,2183348431155255646,16660108515968428795,18277637077180164668,8669803376860480214,13184488422660505315,4762993905272377842,14726002296548319265,10015957909947977979,7169073397837764157,15509945669072574902,15515853384938323968,3864818351357098371,17110757469539399273,737779279666675999,17337846029135858535,7983188085249013105,11675415660309518958,1243657206453294857,16309665286515534794,15146731195736069769,976086667686481846,4496347657921590593,3008464031187069760,6817304030494088442,6712650595838918810,1156038051472735267,8383188503323221104,9028241176033596969,16104976215693522782,4328294932698868231,14940991121320168085,1393705528678647541,11544741671906603145,10252804946760431147,11915187048822806392,1249589184211329565,9679885307836159141,748311553936996713,6072062818656070911,10810247633946735349,6204946824678281381,15150804764906053667,3163186657199419200,410458015537127412,6490435723046529571,14292015380274869669,8504134156164857348,6473190287459307431,24392244026086740,5312949952840939272,7551298191991942606,500912198736166302,12415150122341139522,1197849590482739594,17908245156826741162,13165693050261833527,11016981534289609451,10407151572943141546,11904129555281293777,5189191363724882366,14065567652930782056,7897737225125458064,9331045003726809260,11368094631615784138,7812172458660787392,64900635178525693,17619788008169846088,18441865656878040509,18359649263964588246,10161892957431350763,6677004512040042251,10982265900460596089,14344859986312185742,11756104048734949036,2883029371085034256,16838226421127001602,2124260416898437403,6293787768666202670,4051141686238463239,11066232117358574017,7341399056286400597,12734918027511107663,1750337059438086411,4069723412074609236,6168970724720034611,15172093500866024325,4706060733123006809,1965887635141091823,17900750762028634614,3742902826321273237,16200388389609685959,8220637055061133271,6830420393759132660,9366916858860040692,24099306139351831,8686847202315017225,17828280292157443615,901542275687526889,11510041562781865034,4632923168183889483,16889232404954765926,16880597516840591511,8984962817291877182,12819636677013272766,1473209731434252208,5992291937211088313,12023884619500055161,17886733535676833884,9254545303457481721,4438572244623173239,5105662637379941137,18160248804969497182,5109751569929552152,18137617343636741635,2690937348374457438,10427491563707008533,5091377960555661186,7338107739474282168,9158624335063742347,14949208784862869731,9790998209884493443,1647716487205190281,17403273010744857974,9736262569010332497,17243415413406022720,3690928023303411787,2305479962566547252,9773063224754039918,7081101559308748070,6069327652931810420,12202669948688947727,12422783632753679500,10788072628877939878,18357257176627842196,6796716180368470772,12141080557264855887,16325855235673697262,14103239725047104849,7025719696944425796,13075705539881401374,11482251949462203633,6723490024974964261,16094861525761415860,17165655580733282422,6694667389020779965,6768721002319131151,3369975563468349962,11043410910815615714,230337100973527007,1574786578404972420,14051764982517449737,14277525467385963432,5308244760016372207,14263365788480329201,12025779949177180148,17928979282386419786,711553189605389786,4677051360297359899,7718613188519869787,13591480280247765675,14815292006527481096,1471959631206329130,12468846028083636652,18235224486179394688,9030934689461010385,17738121147677903176,2750663517965953666,7021356464030064590,9443679338344309581,1721970005223669550,14328114120241236601,12924978234860820272,5314063869165298823,18233935752082770034,17134724237525453199,4969497266932762660,16572621089214987459,13580562153682391856,4476313900035740436,8886250727156164226,9743969951281880994,14284552368327008457,13143759935097459831,3785479904534333769,10944234951349165010,5497685466009633765,4000592648019090390,5486868314454274664,1764496798642805769,8984988485788115430,2251696371866293469,2022303699589204743,3920863602308877438,836776158353854316,2780365465688003870,9026247483709506018,5789104156282692071,16271993927065992551,17030462405768471138,3799560110273201976,15384728651035640597,15595162955738175900,5301904662711281257,12888130584063085778,17918446142970737507,15471027854970298695,7491056797654300733,7247213230282382690,10017771004943550312,13115288887791046987,11761038034584755097,11394220667724282553,4475157635078202846,10837121756847630093,10604016714550070318,10754760219741221385,13637581418612274157,4133356116503933424,1584209481040396428,13862531276590571248,12387348879532418350,5053817087519724599,7016290321440614489,8897880217725849536,14129003792634421055,9101227216525225771,10508740717428176910,11398249331433943181,4953563943780361253,2204330132062432800,15566837679414826084,302317679743743809,15575913912643392472,4808241256696658262,4641788606854055386,7587389551895477579,9377954300271049909,1873932047968855359,5361257981337139541,707093752526232837,10947317353847808889,2255359339823636549,17023394755396728978,15756890208692116961,13858561840596956942,17607297477914799950,17423610750980541655,16024242562162375361,13571191666361150705,14876011027901184919,5453783763485714913,11687911088455718600,5276407245056235539,7021398362097609797,12609394931273296877,11395072149159201399,4256189667505657204,2373532534734255889,12391622385504535763,15254026019673787032,18362953094230201419,11387832998927058310,17721433085846267268,2386363646641572714,16762289563945591087,39436119302660156,7982514324489684745,14802107614172121070,17927868107564173378,12285447575792340168,5364551413648733959,17696091598892721880,12442708286719188938,1831354144054210644,9491290401777970246,10049327953782588880,17763190791069724599,292745969066625854,7623642905120889467,3847886011938864397,10622592292320812333,866475348717532344,9442058254275346476,7416641417626067733,12060379808151747504,12146204880042266694,13555541438825290483,15784816561873949954,9120158909691855599,13798111525951304855,3054863296225873877,4989058016045755615,9481148033235278926,3668215623674595746,14233891396657747982,9488297869826386147,6741120972267767914,1837405269332773227,6965448259236640854,10880158892672980930,9281032368276970719,3273441322742674134,14022409228658245048,2962225048802870915,15606636416789720696,16954966471568332085,13995629746536369103,1197827356024317609,6001324141739730134,13631196855967006715,1783223853486247360,13116666312875779405,4259841394756556364,14939444734051936960,2475545236387676943,1586943912922209193,12005077070860476057,1866081404729605174,11410089277549522407,12270009333552140494,6405470890132498975,15846277722551565966,7813537667285703904,11280924463286378313,5803575279505680968,18310170848635322095,364802739725966912,17030309938930371735,6557351683279857882,5541928641279458208,12432832927130365494,12352584487486072005,8343238452326427153,108340706182931793,17814733574915864475,5978684922934379304,1621254272207204567,7265189445108252577,1967333733476989332,6104737700510007709,3856329221202749472,591463412568913780,12608506983123454272,7922931885559826867,2808118671017297698,4830230838679985287,1075146131114303395,1027441499153229893,17501021811314919271,10591615915516766190,16124151518921340608,3707949799599137515,367118917917048682,2094268204134319588,8695050217546422341,4536557230293244314,6376294574064351061,15245394607842041630,16533029705837815350,18231353109837365877,2542998818455445963,14958916279968692791,13678865673870916942,13521019721306551020,11141021604130371957,11769233460829731232,10143739229228104289,5706591713057177212,14512879146438787869,14391815877582099854,16965275890756574871,3601649430567004620,1769642311475179001,15037009810926634036,2703475463856629352,16434621563704755213,2766723502724368905,3012393571804584600,10973970877436312200,3607227257138490165,17146583002377319892,2074963709883648786,5684747023123344634,93149392847770792,16454357810764064523,5798637196465181231,8000983890888701662,17942951520711190808,2731490235019618498,16996427584867446919,11077061119735948891,11412528385999815357,2318424951457385490,6846563065853231422,9298931306750832399,5427630545607620485,10399567332491973145,13430094512391001235,11645041643596645659,18376239971787614501,18147137822457224361,17069174766091872284,12724769184995836156,15311461328634326381,18306251726922977132,9402734976206104639,12420909941388136499,6624204191875366380,1435326777938184798,5747977256787018883,16955468688426021206,9222573702926142709,13798499065023934415,7431684250877225738,11423862765822925900,17971980598822180075,5758086384364193844,11430737809639546420,17675817730026676338,17520856955936439681,10385302078285769091,5443848046366155315,4897573174292844074,2970086281280764673,10347877113590414245,7529464997273991585,10500341491747614017,11824505035930974935,2654521035505832530,12744914953522230863,4226825868525118237,78395806322849367,7137236515364576018,5804219007296394858,12512970517214036525,5861496039133188261,12652404552702828143,14585277266614982278,5125761472128105994,10023906289392860601,10598353492884047157,13500789126755769791,10522935954856834929,8011277841074703085,1491132344086410807,5772685750136454675,15141871427060284767,6120678164729923441,10421172026346733224,12965732011321903784,9637387531036408306,13262278366925312366,6317458746259220691,8158570586929632806,16959268517312124737,13592403325677566927,2074812983892590513,3024345895632239062,10206292803680524902,15110274083016381394,4336786128282234074,16230707792510274915,5294871364001263514,14685288865323372163,4965256773353615310,3952825551440962490,12832001218457588952,2958241791195105953,10191682763897070869,16565590214383794232,9682277554511143799,5043748908065484223,10346338841418035123,12567582773725423896,803255200921526893,9997493749538794253,6557091679644112579,11397428931425628363,13387706578087134537,15151364833138113865,3223908259455701501,13384615407154102824,14301533418310461274,4822790588709621478,14100200882045213141,9858508766508436262,7244605369419377143,6686820546045190005,6585141140825597564,18211556794850137762,7793733623854782823,7181730101280399473,14329936523012852250,15038994442312718465,6709804538217309626,12084046113125098129,12676267896589558265,8928597239767759563,16642256391713185975,6760712384387974531,4947933051067372341,18437651482390303654,10229191663557204611,12106574538668951027,7307293542538957260,2039943812535115402,12162226187550241854,11265721883321005388,17919760883360821280,1671932498225884789,13289395219209081488,8484341690364022514,15706242782410477338,17529304743862991686,6434220698125019827,13439523782762364940,14379666843540901289,10304625396469532806,15238401477054224940,18082746323185615608,5710963773180905931,9726547576985862478,14823108266741371092,7104323671455912367,11726355964739948848,477770811023326515,5474029669298394528,13546704019058105484,6477263109057724127,8532033389726877741,12080436637884017446,700716437630283455,3666415970089327226,9847725436281557834,12056362393160278806,758019095709545305,11313373067931611689,8807500313284420864,17471869422994799677,9544786822473287600,15132926363590109877,8195141290841951029,397716178151725103,4301229710696342066,5686008024667577205,16532548890336396028,8583915334245889142,12765586344366525884,17864539944217126489,6297357707325763900,1740404771422522830,12596939368418076960,6310401999637871608,1498769500787852831,15012431568274750931,17453093138274909058,12530226301551906721,7337049156600430330,9584744153637428087,7009049959834404560,4155436427336530272,9415481827230307344,18235012948719483662,16808785986217138137,10959717679651723366,7978709696571632578,569136491818599323,8421667745489459727,17103887584681188279,12268687801573222156,14034405839350431126,18436194033580541888,18122625432814039573,17318329446024354923,6626435351720423689,3258357611784906595,7769731530454697377,16251032276120947917,4029232527820523276,16611389072980781130,3793727029442941765,10177631272121664143,8486886068367213927,1511885113060661499,8483330632959474871,964435273732957198,16262746077193134707,4399234263246417007,2283803563988910686,2858495886932210942,7824941884475725,2799171705755093574,9036529948849687140,8024531341465873410,13735278933248021581,1612005073886716633,7098337175683284437,8487771779966776382,13276605657641402901,5271700210811280697,12694497354167069631,16927504602340316452,5836084710939700662,17227940565948936673,3347655693235020095,11111189580681689027,17276972447624576525,5780094660605004695,14720949723741200944,17935500771432339036,16678101626748810339,811665010182156463,3089623097146002082,5187262846789556233,15532573055399839452,7439727882860200566,14702899964022107098,7052166025934849906,9715512988772131191,12924584092271612832,17528035732925535298,6730181573527950685,3335666997993469357,17469545530398491378,7272043303520843068,2173207354009859009,4087369812383416680,7517410466199164879,5486225950814838201,9069143363168179166,15418453816474387581,7897521831624735443,1733278289306821029,7176892290346002589,5520418949713113106,6494617433119760500,6968462489392862389,2443806056156597171,4391564597122220632,18169665346790219429,12358188503404913186,18248207839715808338,8557930196557776440]
#print PySem.W.Fast
open PySem PySem.W PyProof.Rows
set_option tactic.hygienic true
end
set_option maxRecDepth 100000 in
set_option maxHeartbeats 0 in
theorem PySem.Challenge.cw_lastwaltz_k53_each_refusal_its_own_holds : PySem.Challenge.rw_lastwaltz_k53_each_refusal_its_own.Holds := by
 w_on;o_law;k_head;(case hw=>w_witness2)
 k_fill
 refine Wk53.walk (l:=PySem.Challenge.rw_lastwaltz_k53_each_refusal_its_own) (cm:=553) (Pm:=549) (cf:=560) (Pf:=556) (ct:=599) (Pt:=595) (cj:=857) (Pk:=855) (c0:=511) (P0:=507) (by decide) rfl rfl (fun w h Y=>PySem.W.km_in_of Y) (fun w h Y=>Wz.all5 (PySem.W.km_tabs_of Y _ (by decide)) (PySem.W.km_tabs_of Y _ (by decide)) (PySem.W.km_tabs_of Y _ (by decide)) (PySem.W.km_tabs_of Y _ (by decide)) (PySem.W.km_tabs_of Y _ (by decide))) (fun w=>Wz.all5 (by kernel_rfl) (by kernel_rfl) (by kernel_rfl) (by kernel_rfl) (by kernel_rfl)) (fun w=>Wz.all5 (by kernel_rfl) (by kernel_rfl) (by kernel_rfl) (by kernel_rfl) (by kernel_rfl)) (fun w=>by kernel_rfl) ?F
 case F =>
  intro w mg fa h KX G hmg CKm ax6 CKf ax8 CKt ax5 CKk ax7 CK aq5 hnd;refine' Wk53.all_mk2 KX G hmg CKm ax6 CKf ax8 CKt ax5 CKk ax7 CK aq5 hnd ?aC ?S8 ?SN ?SS ?P4 ?SY ?SU ?bv2 ?pg ?hd ?po ?sa ?JK ?zP ?zO ?FY ?R7 ?Sb ?Pn ?Sj ?Sc ?g1 ?g2 ?g3 ?g4 ?g5 ?g6 ?g7 ?g8 ?tN ?wS ?wR ?wI ?bx0 ?bj5 ?bj4 ?bq5 ?bq4 ?az9 ?bq2 ?bq1 ?az8 ?av8 ?bj2 ?bj1 ?bq8 ?bq7 ?bj0 ?mk ?kc ?SW ?S7 ?SX ?SV ?S9 ?SO ?ax0 ?SZ ?SR ?SQ ?Ta ?bz0 ?kpg ?khd ?kpo ?ksa ?Fx ?Fy ?zA ?uU ?kmk ?kkc ?bpg ?bhd ?bpo ?bsa ?W_ ?V_ ?aq7 ?bmk ?bkc ?ak4 ?ak6 ?bx7 ?dzo ?dzs ?cq7 ?bz4 ?bz3 ?cq6 ?bz2 ?bv1 ?Sn ?p1 ?p2 ?p3 ?p4 ?p5 ?p6 ?p7 ?p8 ?tQ ?ak5 ?kdo ?bx9 ?szo ?szs ?sz1 ?sz2 ?sz3 ?sz4 ?sz5 ?sz6 ?sz7 ?bx6 ?ak3 ?ak2 ?bx8 ?Se ?Sm ?Si ?Sd ?R8 ?az7 ?Sk ?Sa ?R9 ?aj6 ?aj5 ?aj4 ?av7 ?av6 ?av5 ?bj6 ?bj7 ?bj8 ?bq6 ?bj9 ?bq9 ?bj3 ?bq3 ?av9 ?bq0 ?VQ ?wt_ ?xc_ ?kv_ ?kk_ ?rZ ?yC ?xi ?r6 ?wV ?uh ?wU ?pZ ?uj ?sZ ?pj ?pk ?BQ ?rS ?xp ?py ?jo ?pq ?EX ?uw ?xk ?qa ?rQ ?EZ ?yE ?EW ?pz ?BV ?BW ?w8 ?BX ?yB ?ux ?xq ?xb ?wZ ?uq ?wY ?pE ?xf ?se ?wW ?rX ?I0 ?w9 ?rR ?BU ?rY ?lL ?rT ?uo ?pX ?pY ?uk ?rV ?xm ?rg ?pC ?lM ?eX ?pD ?gR ?uv ?ur ?gS ?jN ?jO ?vH ?xa ?yD ?l6 ?xl ?nU ?p9 ?sf ?xn ?BS ?rW ?EY ?wX ?qb ?xg ?sd ?xj ?ui ?Q2 ?RA ?Kh ?vC ?Ki ?ON ?Rz ?OL ?Rx ?Ry ?GH ?AW ?RF ?RE ?RC ?OM ?RJ ?xV ?RH ?RG
  (case aC=>k_is)
  (case S8=>k_is)
  (case SN=>k_is)
  (case SS=>k_is)
  (case P4=>k_is)
  (case SY=>k_is)
  (case SU=>k_is)
  (case bv2=>k_is)
  (case R7=>kernel_rfl)
  (case Sb=>kernel_rfl)
  (case Pn=>kernel_rfl)
  (case Sj=>kernel_rfl)
  (case Sc=>kernel_rfl)
  (case g8=>kernel_rfl)
  (case bx0=>kernel_rfl)
  (case bj5=>kernel_rfl)
  (case bj4=>kernel_rfl)
  (case bq5=>kernel_rfl)
  (case bq4=>kernel_rfl)
  (case az9=>kernel_rfl)
  (case bq2=>kernel_rfl)
  (case bq1=>kernel_rfl)
  (case az8=>kernel_rfl)
  (case av8=>kernel_rfl)
  (case bj2=>kernel_rfl)
  (case bj1=>kernel_rfl)
  (case bq8=>kernel_rfl)
  (case bq7=>kernel_rfl)
  (case bj0=>kernel_rfl)
  (case SW=>k_is)
  (case S7=>k_is)
  (case SX=>k_is)
  (case SV=>k_is)
  (case S9=>k_is)
  (case SO=>k_is)
  (case ax0=>k_is)
  (case SZ=>k_is)
  (case SR=>k_is)
  (case SQ=>k_is)
  (case Ta=>k_is)
  (case bz0=>k_is)
  (case ak4=>k_is)
  (case ak6=>k_is)
  (case bx7=>k_is)
  (case dzo=>exact rfl)
  (case dzs=>kernel_rfl)
  (case bz2=>kernel_rfl)
  (case bv1=>k_is)
  (case Sn=>kernel_rfl)
  (case p8=>kernel_rfl)
  (case ak5=>k_is)
  (case kdo=>exact⟨_,_,_,rfl,rfl,rfl,by decide,.cons ⟨_,rfl⟩ (.cons ⟨_,rfl⟩ (.cons ⟨_,rfl⟩ (.cons ⟨_,rfl⟩ (.cons ⟨_,rfl⟩ (.cons ⟨_,rfl⟩ (.cons ⟨_,rfl⟩ (.cons ⟨_,rfl⟩ .nil)))))))⟩)
  (case bx9=>k_is)
  (case szo=>exact rfl)
  (case szs=>kernel_rfl)
  (case sz1=>exact⟨_,_,_,rfl,rfl,rfl,by decide,.cons ⟨_,rfl⟩ (.cons ⟨_,rfl⟩ .nil)⟩)
  (case sz2=>exact⟨_,_,_,rfl,rfl,rfl,by decide,.cons ⟨_,rfl⟩ (.cons ⟨_,rfl⟩ .nil)⟩)
  (case sz3=>exact⟨_,_,_,rfl,rfl,rfl,by decide,.cons ⟨_,rfl⟩ (.cons ⟨_,rfl⟩ .nil)⟩)
  (case sz4=>exact⟨_,_,_,rfl,rfl,rfl,by decide,.cons ⟨_,rfl⟩ (.cons ⟨_,rfl⟩ .nil)⟩)
  (case sz5=>exact⟨_,_,_,rfl,rfl,rfl,by decide,.cons ⟨_,rfl⟩ (.cons ⟨_,rfl⟩ .nil)⟩)
  (case sz6=>exact⟨_,_,_,rfl,rfl,rfl,by decide,.cons ⟨_,rfl⟩ (.cons ⟨_,rfl⟩ .nil)⟩)
  (case sz7=>exact⟨_,_,_,rfl,rfl,rfl,by decide,.cons ⟨_,rfl⟩ (.cons ⟨_,rfl⟩ .nil)⟩)
  (case bx6=>k_is)
  (case ak3=>k_is)
  (case ak2=>k_is)
  (case bx8=>k_is)
  (case Se=>kernel_rfl)
  (case Sm=>kernel_rfl)
  (case Si=>kernel_rfl)
  (case Sd=>kernel_rfl)
  (case R8=>kernel_rfl)
  (case az7=>kernel_rfl)
  (case Sk=>kernel_rfl)
  (case Sa=>kernel_rfl)
  (case R9=>kernel_rfl)
  (case aj6=>kernel_rfl)
  (case aj5=>kernel_rfl)
  (case aj4=>kernel_rfl)
  (case av7=>kernel_rfl)
  (case av6=>kernel_rfl)
  (case av5=>kernel_rfl)
  (case bj6=>kernel_rfl)
  (case bj7=>kernel_rfl)
  (case bj8=>kernel_rfl)
  (case bq6=>kernel_rfl)
  (case bj9=>kernel_rfl)
  (case bq9=>kernel_rfl)
  (case bj3=>kernel_rfl)
  (case bq3=>kernel_rfl)
  (case av9=>kernel_rfl)
  (case bq0=>kernel_rfl)
  (case wt_=>kernel_rfl)
  (case xc_=>kernel_rfl)
  (case kv_=>kernel_rfl)
  (case kk_=>kernel_rfl)
  all_goals first | (refine' Wz.fact_mk ?a ?l ?c ?k;(case a=>k_is);(case l=>k_is);(case c=>k_is);(case k=>k_is)) | (refine' Wz.mfact_mk ?a ?i ?l ?c ?k;(case a=>k_is);(case i=>k_is);(case l=>k_is);(case c=>k_is);(case k=>k_is)) | k_is
