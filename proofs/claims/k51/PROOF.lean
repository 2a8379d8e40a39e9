import PyProof.Rows.All
import Wide.All
import OpenK.AllK
import Wide.FinOn
import Lean
import PyProof.EqAt
import PyProof.EqKinds
import PyProof.TupleCall
import PyProof.NeData
import PyProof.DictItems
import PyProof.JoinWalk
import PyProof.CallStr
import OpenK.KOwn
import KE.KTryMore
import PyProof.EnumMake
import KE.KLam
import KE.KNestM
import KE.KEqDict
import PyProof.Conv_int
import PyProof.StrWalks
import PyProof.StrCalls2
import PyProof.StrLawsIn
import PyProof.SliceStr2
import PyProof.StrBlock2
import PySem.Challenge.RW_lastwaltz_k51_names_and_dances_at_the_de
set_option Elab.async false
set_option linter.all false
set_option compiler.extract_closed false
set_option tactic.hygienic false
set_option hygiene false
local macro_rules|`(command|#check[$ns,*])=>return Lean.mkNullNode (<-ns.getElems.mapM fun n=>do
 let x:=Lean.mkIdent (.mkSimple s!"tw{n.raw.isNatLit?.getD 0}")
 `(theorem $x:ident:True:=⟨⟩))
def Z_i:Nat->Lean.Syntax->StateM (List Lean.Syntax) Lean.Syntax
|n+1,.node i k a=>if k==`Lean.Parser.Term.cdot then modifyGet fun|x::l=>(x,l)|_=>(.missing,[]) else return .node i k (<-a.mapM (Z_i n))
|_,s=>return s
def Z_c (c:Char):Nat:=let v:=c.toNat;if v>96 then v-97 else if v==95 then 62 else if v>64 then v-39 else if v==39 then 63 else v+4
def Z_n:List Char->Option Nat
|[a,b]=>some (Z_c a*64+Z_c b)
|[a,b,c]=>some (3328+(Z_c a*64+Z_c b)*64+Z_c c)
|_=>none
def Z_s (t:Array Lean.Syntax):Nat->Lean.Syntax->Lean.Syntax
|n+1,.node i k a=>
 if k==`«term#[_,]» then let b:=a[1]!.getSepArgs.toList;match b.head?.bind fun x=>if b.length>1&&x.isIdent then Z_n x.getId.toString.toList else none with
  |some m=>if m<t.size&&t[m]!.isNatLit? !=some 0 then ((Z_i 9999 t[m]!).run (b.tail.map (Z_s t n))).1 else .node i k (a.map (Z_s t n))
  |_=>.node i k (a.map (Z_s t n))
 else .node i k (a.map (Z_s t n))
|_,.ident _ r n p=>match n.toString.toList with
 |'Z'::l=>match Z_n l with
  |some m=>if m<t.size&&t[m]!.isNatLit? !=some 0 then t[m]! else .ident .none r n p
  |_=>.ident .none r n p
 |_=>.ident .none r n p
|_,.atom _ v=>.atom .none v
|_,s=>s
def Z_t (c:Lean.Syntax):Array Lean.Syntax:=c[1][1].getSepArgs.foldl (fun t x=>t.push (Z_s t 9999 (if x.getKind==`Lean.Parser.Term.paren&&(x[1].getKind==`Lean.Parser.Term.byTactic||x[1][1].getKind==`Lean.Parser.Term.byTactic) then x[1] else x))) #[]
def Z_x (b:Array (Array Lean.Syntax))(x:Lean.Syntax):Option (Array Lean.Syntax):=if x.isOfKind `Lean.Parser.Term.instBinder then x[2].isNatLit?.map (b[·]!) else none
def Z_b (b:Array (Array Lean.Syntax)):Nat->Lean.Syntax->Lean.Syntax
|n+1,.node i k a=>.node i k (a.flatMap fun x=>(Z_x b x).getD #[Z_b b n x])
|_,s=>s
def Z_v (c:Lean.Syntax):Array (Array Lean.Syntax):=c[1][1].getSepArgs.foldl (fun b x=>b.push (x[1].getArgs.flatMap fun x=>(Z_x b x).getD #[x])) #[]
def Z_d (x:Lean.Syntax):Lean.Syntax:=let d:=x[1];let k:=d.getKind
 if k==`Lean.Parser.Command.definition then x.setArg 1 (.node .none `Lean.Parser.Command.theorem #[.atom .none "theorem",d[1],.node .none `Lean.Parser.Command.declSig #[d[2][0],if d[2][1].getNumArgs==0 then .node .none `Lean.Parser.Term.typeSpec #[.atom .none ":",.node .none `Lean.Parser.Term.typeOf #[.atom .none "type_of%",d[3][1]]] else d[2][1][0]],d[3]])
 else if k==`Lean.Parser.Command.abbrev&&x[0][4].getNumArgs==0 then (x.setArg 1 (.node .none `Lean.Parser.Command.definition #[.atom .none "def",d[1],d[2],d[3],Lean.mkNullNode])).setArg 0 (x[0].setArg 4 (Lean.mkNullNode #[.node .none `Lean.Parser.Command.noncomputable #[.atom .none "noncomputable"]]))
 else x
def Z_o:Nat->Lean.Syntax->Lean.Syntax
|n+1,.node i k a=>let a:=a.map (Z_o n)
 if k==`Lean.Parser.Tactic.obtain&&a[2]![1].isIdent then Lean.Unhygienic.run do
  let v:=a[3]![1][0]
  let (b,z):=a[1]![0][0][0][1].getSepArgs.foldl (fun (b,z) p=>let q:=p[0][0][0][0];if q.getId==`rfl then let y:=Lean.mkIdent ((`r).appendIndexAfter (z.size+1));(b.push y.raw,z.push y) else (b.push (if q.isIdent then q else .node .none `Lean.Parser.Term.hole #[q]),z)) ((#[]:Array Lean.Syntax),(#[]:Array Lean.Ident))
  let b:Array (Lean.TSyntax `Lean.Parser.Term.funBinder):=b.map (⟨·⟩)
  let t<-if v.isOfKind `Lean.Parser.Term.app then `(($(⟨v⟩))) else pure ⟨v⟩
  let c<-if v.getId.isAtomic&&v.isIdent then pure #[<-`(tactic|clear $(⟨v⟩):ident)] else pure #[]
  return (<-`(tactic|($(#[<-`(tactic|refine $(⟨a[2]![1]⟩):term $t fun $b*=>?_)]++c++(<-z.mapM fun y=>`(tactic|subst $y)));*))).raw
 else .node i k a
|_,s=>s
local macro_rules|`(mutual $c:command $cs:command* end)=>do
 if !c.raw.isOfKind `Lean.Parser.Command.check then Lean.Macro.throwUnsupported
 let t:=Z_t c
 let cs:=cs.raw.map (Z_s t 9999)
 let b:=Z_v cs[0]!
 return Lean.mkNullNode (<-(cs.extract 1 cs.size).mapM fun x=>do
  if x.isOfKind `Lean.Parser.Command.where then return (<-`(command|end)).raw
  if x.isOfKind `Lean.Parser.Command.print then return (<-`(command|end $(⟨x[1]⟩):ident)).raw
  return Z_d (Z_o 9999 (Z_b b 9999 x)))
mutual
#check[Prop,
some,
none,
true,
(by lia),
(Zae),
.str,
.int,
.ref,
(Zai ·),
(pv 0),
.inl,
pins,
.nil,
(by decide +kernel),
.inr,
(pv 1),
eE K · · · f fd,
0,
0,
V.int,
· = Zab ·,
s.heap.objs.size,
.none,
false,
aQd rfl,
(pv 2),
.cons,
V.str,
s.heap,
"row",
(by decide),
(ZaF),
fun z=>·,
st.worn,
xs.length,
.non,
(by rw[·];exact ·),
(#[aL,·,·]),
V.ref,
(pv 3),
H ·=Zab ·,
X.env,
⟨_,·⟩,
base,
"back",
(by simp),
(ZaU),
aD · · (am ·),
aQf _,
⟨·,·,(·)⟩,
look,
Paired,
.fields,
.type,
.seq,
((·:Nat):Int),
upd · · · ·=Zab ·,
.lst,
"line",
(aQf _),
Str.ofString,
H ·=Zac,
#[aR,rfl],
aS P w K mg ZaS · · · ·,
#[a_,b],
·.length,
#[bc,(· ·)],
.done,
#[bc,·]<=·,
aX.of,
bT.of,
aY P w K mg ZaS eR · f fd · ·,
(n:Int),
fun q=>·,
I.hok,
(by rw[·,·]),
show · from ·,
List,
Zbo Str,
Zbo Int,
Zbo Nat,
Zbo V,
· b=Zab o,
Zbo Expr,
Zab #[aj,·],
(ak),
qual,
0,
2000,
(upd H · ·),
· x=Zab ·,
(#[aH,·]),
fm hr,
1000,
fun _=>·,
"hall",
"name",
hr.m,
⟨_,·,·⟩,
#[bJ,rfl,·],
bV hi,
d_.toArray,
z.length,
H' ·=Zab ·,
"_law_cell",
Bool,
this,
"star",
(.dK (dk ·)),
aR (j:=0) rfl,
#[aj,a],
#[av,mg ·,#[aj,·]],
s.toks,
scope,
"pair",
aT X Zam σ · ·,
Zai a,
Zbo aA,
Value,
Zbo Zb3,
if · then · else ·,
(by rw[·];rfl),
wpAny,
l.length,
Q #[aj,·] ·,
aG H H',
ai (aQA ·),
(wr W),
fun e=>·,
"all",
[Zah ·,Zah ·],
(i+1),
H b=Zab ·,
⟨·,·,?_⟩,
#[aL,ai ·,·],
Zbo BE,
Zbo bc,
pure,
X.prog,
outer,
"come",
B.dx,
·->·->Zaa,
(· ·).trans,
aQE _,
af (ar ·),
(bp · ZbI rfl ·),
⟨·,?_⟩,
bL bs f,
aQG X G ·,
aQc h,
aQd h,
x::xs,
X.mg,
S.ob,
⟨·,rfl,·,·⟩,
· (Zae),
(Zao),
Zai p,
aQo e,
#[bi,1,·,·],
· (c8 I q (ZaU)),
.tup,
(ZcJ ·),
upd · · (ZcJ ·),
(by simpa using hb),
.Call,
l.drop,
aA.namesL,
"quad",
⟨_,rfl,·,rfl,·,·⟩,
(.dK []),
(pv 4),
Zbo Env,
fun x=>·,
A.dx,
fun b hb=>·,
U.cl,
Zab (· ·),
#[cZ,Zah,·],
(· b hb),
(Za9 ·),
#[cC,_,·,·],
(· b o e),
·->·->·->Zaa,
(aB · (aB · ·)),
(cG Zak rfl),
ao (id ·) ·,
aQd hj,
"exchange",
s'.heap,
name,
.dict,
aQj.mp,
Zdc z,
es.length,
st.hold,
B.fp,
(aQh _ ·),
#[av,·,x],
(· Zam s σ H _ I ·),
#[bJ,·,rfl],
#[aj,Zaw],
[32],
#[b5,·=Zad,·,·],
0,
(k+1),
(fun i σ HK=>·),
aQc (Zao),
aQ3 X G ·,
mg · = Zac,
Sum.inl,
X.stack,
"list",
Za2 Zdw,
fun b o e=>·,
(by rw[·,·];exact ·),
g.drop,
f.word,
"_law_figure_here",
(e::es),
ZaC ·=ZaC ·,
(0:Int),
bP g,
Zbg e1,
r0 a b,
#[cK,xs],
(aj),
·<Zaw,
#[bc,·]=·,
Zah i,
_::_,
Zbo α,
aQc aQs,
#[a5,H,·,·,·,·],
us.length,
X.env.locals,
keep,
s.heap.get?,
#[bt,ZdV],
rest,
st.circ,
c.cA,
c.cS,
.name,
"_law_worn",
Zbo (·×·),
#[d3,Int,Int],
⟨rfl,·⟩,
#[aP,a,·],
⟨·,[]⟩,
#[bt,H],
#[b9,·,H'],
(aV P w),
(upd H1 · ·),
Zai t,
(j+1),
aQc z,
.pl f,
Gl X x,
h.get?,
.Name,
Addr,
Zbo Zeh,
#[d3,Zeh,Obj],
fs.length,
"zip",
h'.get?,
ps.length,
z.cps.toList,
kvs.length,
fun _ _ h=>·,
(· : Str),
2147483647,
show · from rfl,
18446744073709551616,
·<Zeu,
(by have:=·;lia),
(by rw[·,·];rfl),
(#[ex,·,·]),
A.d1,
A.d2,
(Za6 ·),
(#[bF,·]),
Za9 ·,
⟨·,·,rfl⟩,
(#[bm,·,·]),
Zag z,
⟨_,rfl,_,rfl,·⟩,
aQq _ rfl,
(aQq _ rfl),
#[bt,Zef],
bJ x v,
aQd z,
Zd1 w,
Str->V,
i8 r,
"figure",
"word",
.tbl,
.cell,
V.bl,
(by rw[<-·];exact ·),
(#[eV,·,·]),
r.length,
s2.heap.objs.size,
s1.heap.objs.size,
(by rw[·]),
"guest",
show · by lia,
W.length,
x.length,
"_law_k",
"_law_told",
Zbg (· _ _ ·),
(.dK kvs),
(bg (fG · ·)),
⟨·,rfl⟩,
#[aR,Zbh ·],
#[bt,Zem],
q0 a,
⟨·,·.2⟩,
#[aP,p,·],
s0 a b c,
(· _ _ e),
(n+1),
(pv 5),
aG H HK,
HH ·=Zab ·,
ai hb,
A.handled=Zac,
bJ v u,
(dw bz),
f::fs,
ns.length,
namesL,
.ins,
(by rw[·];simp),
.bool,
body,
call,
·.lookup,
l.prog,
"__init__",
c.cM,
∀ x∈·,·,
g.length,
"self",
[ZfC],
UO.f.cl,
#[cp,·,Shared],
#[fF,Zb3],
Zb7 · A · · E s,
(Zab ·),
⟨_,·,·,·⟩,
(#[bn,·,·]),
#[b5,·=·,·,·],
#[bv,p],
#[e2,·-·=·],
#[aH,?_],
· (#[eV,·,·]),
bK xs us,
⟨·,_,·,·⟩,
uN c l,
X.calm=Zad,
#[fF,Unit],
LS rfl,
Option,
Sum.inr,
·.isSome,
aQm.mp,
0,
.ret,
"str",
"tuple",
Za2 Zf3,
.free,
·.toArray,
items.size,
(by rw[·,·];lia),
fun x hx=>·,
w.length,
.builtin,
c.cT,
c.cN,
fun g hg=>·,
y.length,
fun h=>·,
figM,
"_law_drawn",
UO.e.cl,
ZfW ·,
#[gi,V],
#[gi,Zeh],
#[gi,Int],
ah (o:=·) ·,
#[gm,ZcJ ·,·],
#[cp,·,Hp],
#[go,St],
(·)=Zad,
#[a_,l],
ZaZ · ·=Zab ·,
(Zal rfl),
r1 a b,
(wr ZaI),
#[aW,·,[·],·],
s1 a b c,
s3 _ _ ·,
#[d5,rfl],
#[aM,ai ·,·],
aQc hj,
aQ k,
aQa ?_,
aQx pr,
Int×Int,
dR (hf it ZaV) fun f0 f1 f2 f3 f4 f5=>?_,
∀ b∈·,·,
rawInt,
(by rw[·];lia),
∀ H',·,
fun c hc=>·,
rs.map,
defO,
s2.trans,
"text",
"_law_state",
s1.trans,
(Za6 (· ·)),
(bf z),
#[gT,0].drop,
(ZgU a),
(upd H2 · ·),
fk c,
#[bA,l,·],
(bd es),
#[gq,· == ·],
· (so:=·) (N:=·) (N':=·) (src:=·) rfl rfl · rfl · ·,
q1 a,
fun u s1 zz=>?_,
· (#[aL,·,·]),
#[bt,H'],
#[bv,l],
(a:Int),
#[bC,?_],
aU ZaI,
#[bR,0].1,
aK (I.tuple ·) ·,
bJ y u,
iD w=Zad,
∃ v:Zgj,σ=·/\·/\·,
Zab o,
Zag _,
ZgR s2,
PE X e te,
PA X ZdD t,
o.data,
.set,
"enumerate",
pl.isList,
I.kIn,
eval,
Value.ref,
args,
X.base,
ns.map,
fun f=>·,
Str.empty,
"go",
L.length,
8589934592,
"plan",
(by show ·;lia),
numW,
A.d3,
"keeper",
A0.c,
UO.k.cl,
(aJ _),
(ay · · · ZhE),
(ay bF · (ak) ZhE),
Zhn · ZaQ,
(Zay,#[hH,·]),
(iX P w),
aY P w K mg ZaS ZhJ · f fd · ·,
au #[bJ,·,au #[bJ,·,·]],
#[bc,(· (· ·))],
#[gS,·,Zau],
#[hN,·.map],
(Zfr · dx ·),
Zb7 _ _ · _ _ _,
Q (Zag ·) ·,
GK H H',
#[gS,·,ZaC],
ZfZ ·,
(Za6 (·++[·])),
#[bd,Za9,·]=·,
Zbo df,
· a=Zab o,
#[hQ,(· >>= _)],
(.dK (vF ·)),
#[fw,·] #[er,·]=Zab ·,
⟨o,·⟩,
(PW.pt (· · ·)),
Zal (Zbh ·),
[Zac],
Zaw+1,
#[bK,?_],
#[gn,·,ht],
(ZaB · Zan),
#[fL,·,·,Zab ·,·],
[Zb1],
(upd #[bA,·,·] · ·),
Zal #[aR,·],
bf w,
fun q hq=>?_,
iY X (Za2 ·) ·,
0,
(lJ · (gH rfl (aW (gv · ·) (aW (gv · ·) ·)))),
(#[dz,·,·,·]),
⟨·,rfl,·⟩,
#[gL,?_],
Zbo Stmt,
aQc e,
aQd e,
0,
p8 z,
#[d3,Int,Zbq],
#[d6,o],
aU W,
0,
0,
#[d3,df,V],
p::ps,
Zah hi u,
Zah lo t,
ir CX X E,
t::ts,
Array,
ZiA Zb3,
fun b=>·,
.own,
.frz,
fun _ _ z=>·,
#[iF,· _ _ z],
fun i=>·,
(by simp at h),
s₁,
vs.length,
Zep=ZiK,
List.range,
HT.sIx,
d_.toArray.size,
hlen,
"dict",
Za2 ZiQ,
"set",
False,
A.in1,
ds.length,
K.lookup,
x.ob,
"done",
∀ g∈·,·,
2147483648,
ws.map,
IsPair,
"lengths",
aA.dtL,
fs.map,
fun u hu=>·,
w.params,
f.txt,
aA.Good,
q.w0,
.come,
Zi' g,
(Zi' g),
"_law_script",
(aN · · (ax)),
#[b0,H,·],
#[je,s],
⟨_,rfl,·,_,·,_,rfl,rfl,·,·,rfl,_,rfl,?_⟩,
(· (Zai ·)),
⟨#[f6,·]⟩,
Zag #[ji,·],
#[gK,Zb_->·],
#[jk,E #[aj,·] Zac H'],
aQb _ e,
#[aj,x],
(#[gJ,·]),
⟨·,ac,·⟩,
Q ZaK H',
#[aj,C],
(fun i σ HK _ ·=>·),
¬ (#[er,·]=·),
fun v s1 zz=>?_,
(af (bq ·)),
fun _ _=>ZiT,
#[aH,· (· z)],
s2 a b c,
sp vs H Q E,
#[fY,·]=Zad,
(aQu (aQo e)),
(#[b6,·]),
((by simp[names])),
(jY),
(pv 6),
fx h,
(aL bE Zbw ·),
b=it,
dQ P w K mg ZaS · · · ·,
(a::l),
Zft Zay,
ie f N g,
aK (I.list ·) ·,
aX K H a xs,
Q (Zah ·) H,
Zah _,
aQd hb,
#[eC,rfl],
(Zag w),
Hp->Zaa,
fj k X.A,
W i m σ H,
Nat->Nat->Zgp,
af (ar (bg (fG · ·))),
∀ l,Zgr->#[b9,l,#[gY,·]],
Type,
cLine,
h.objs.size,
∀ a b,·,
Paired.mapP,
(Zj4 · ·),
#[j5,·,#[iF,·]],
X.fs,
I.ok.kind,
Value.none,
∀ b∈fp,·,
"max",
fun y hy=>·,
∀ y∈·,·,
ws.length,
d_.length,
h'.objs.size,
·.flatten,
s₁.heap,
bs.map,
"deeds",
"circles",
word,
G.ow,
G.wh,
ts.length,
aQL.mp,
2870177450012600261,
"danced",
ps.map,
"figures",
.row,
Zkt fs,
likeStep,
us.map,
B.ob,
gs.length,
#[a4,Zky],
A.bk,
oh.nd,
· a b c d e,
(ZcJ (· ·)),
Zdu ·,
#[eB,[]],
aQe (#[e2,·]),
(I.tok _),
#[c1,·].1,
Zay=Zad,
· c=Zab o,
#[hR,·,H'],
aQg (#[e2,¬ ·]),
(Zhn · ZaQ),
(upd (upd · · ·) · ·),
Zb7 _ _ · _ _ s,
(i:Int),
#[eB,xs],
[Zai ·,Zai ·,·],
#[av,·,y],
r2 a b,
aZ P w K mg ZaS ZhJ · · · · ·,
(K Zi7),
(j:Int),
#[bJ,·,?_],
#[cK,[Zag ·,·]],
0,
s3 a b c,
(#[ji,·]:Str),
((·:Int)-·),
#[hN,(· ·).map],
Zbo Dt,
Za0 · · (· ·),
(Zaw+1),
b≠e,
Zbg e2,
q2 a,
bJ x u,
#[d3,aA,Nat],
Zai l,
aQc hm,
#[aR,q],
#[cC,·,#[e',·],·],
#[aW,·,ZfD,·],
x=Zb1,
aQx rel,
aQa (· (aQk ·)),
#[ct,·,(wu · · ·)],
ca (gy 18) ·,
#[d3,κ,V],
a::l,
bT K H a xs,
p.1=k,
(∃ m,W 0 m σ H),
(eO aQ2 rfl · (gv · ·) ·),
#[c5,Nat,St,Hp],
⟨[],[],[],[]⟩,
#[g0,apos.endLine,h_.line],
au #[jg,p,0,ZdH,rfl],
yz bs w,
ZipApart z TI TO i1 i2 l1 l2,
"state",
Keyed,
ZiA Zly,
st.deeds,
prog,
.met,
∀ b u,·,
.local,
mainGlobals,
I.cell,
I.pin,
decide,
ZlI (·),
ZlI (·)=·,
#[lK,·,Zad],
#[lK,·,Zay],
#[lM,#[dE,·,·]],
X.xe,
fun i j=>·,
{ s with heap:=· },
#[lQ,h'],
names,
(by simp[pS,Jp]at e),
toString,
A.cs,
"holders",
.already,
st.worn.length,
A.fp,
aQy.mpr,
params,
x.cps.toList,
∀ c o,·,
aA.lenL,
"rings",
numAt,
f.gs,
"other",
"bracket_at",
"_law_deed",
"_law_kind",
D.dx,
"dance",
(af (ar ·)),
#[jd,·,#[mc,·]],
(c5 (pv ·)),
#[me,1],
#[me,0],
#[me,2],
[ZfC,·],
#[mi,Ze1],
#[mi,ZeQ],
(· (Zae)),
#[ml,hr.mono],
(bp · Zmm rfl ·),
⟨_,rfl,·,·,·,?_⟩,
#[mo,rfl,_,rfl],
au Zmp,
(· i).map,
(aQb _ ·),
#[ms,e],
Zbg hp,
au #[jg,p,0,Zmu,ZbU],
bW Zcl X.w · · · ·,
#[fK,#[mw,·,·,·,·],·],
(Za2 ·),
#[hI,e],
#[md,#[hG,·],·],
(#[f9,·]),
#[mB,?_],
nY z · #[eq,·],
#[gS,·,ZaN],
⟨·,_,rfl,·,rfl,_,_,rfl,_,_,rfl,rfl,?_⟩,
Zal ⟨·,·⟩,
ZfX w,
Pv i σ H,
#[cD,b9],
rdF z=Zab f,
#[gm,Za6 ·,·],
aQb _ q,
(s2 _ _ ·),
⟨Zae,·⟩,
au #[bJ,rfl,·],
#[e9,Zbw,·],
·≠Zbe,
#[cX,?_],
(1:Int),
#[aP,t,·],
#[fI,v],
aQa (· ?_),
#[jg,t,_,T0,rfl],
#[dy,Zjm],
Zai C,
ZiA Nat,
Zef a=Zab ·,
-2147483648<·/\·<Zi0,
#[aj,l],
(ZiM ·).map,
Dm g,
r3 a b,
(aQE _),
x.n<=Zbz,
Zap (Zal ·),
· σ H1 fun y H2=>·,
(ZaB · (ZaB · ·)),
rdF z=Zac,
wH K H · #[my,·],
[w,m,ls],
EP X Zam σ Q · ·,
⟨?_,·⟩,
#[aL,Zdc ·,·],
fun _ _ x=>x,
·%Zes,
Zai d,
· (Zae) ·,
(d+1),
#[a_,a],
Zbh #[mN,·],
#[md,·,Zbw],
0,
#[cR,_,two,·],
#[eH,au ·],
#[kP,(· >>= _)],
(aQk ?_),
(aB · bz),
(jd (iG ·)),
(Zhn · env),
(#[e0,·]),
fun H' k σ' _=>#[bJ,·,·],
Zab v,
aQc hb,
(s3 _ _ ·),
(m+1),
Ln z,
ZfZ z,
#[aR,e],
.go g,
#[fF,Result],
Zal rfl,
aQc (Zae),
#[aW,·,#[mi,·],·],
Ai w,
vs=[Zai ·],
(bh · de.nd ·),
#[di,X.N[i]?],
Zap (Zap ·),
Pv 0 σ H,
ca (gy 69) ·,
bK vs us,
#[mD,·,· T U VM UO h ·],
#[lN,·.word,·],
#[h2,e],
(qR W i).1,
kT st,
cJ es,
ZaB r t,
Zbo (ZfW Nat),
#[gK,#[kL,·]->E' #[aj,·] Zac H'],
I n s,
(Hf ea C Zac),
(.fresh 0 0 led),
Jo (Zfq 12 cn) es,
∀(_:·),0,
pos',
"_law_many",
997852516353,
items,
·.objs.size,
aXh.mpr,
K.In,
Zoa ZaD,
I.ok.above,
I.hok.fresh,
fun p hp=>·,
0,
D.nx,
assign,
sizeLine,
·<=Zoi,
·<Zoi,
#[oj,ZbN],
A.units,
0,
kindOf,
aXu.mp,
eq_of_beq,
0,
ys.length,
value,
.compLoop,
"worn",
.same,
.noguest,
aQr.mpr,
field,
.exch,
ZoA a b,
ds.map,
(by omega),
TabI,
"breaking",
arr.size,
numV,
∀ c∈·,·,
ys.size,
h1.objs.size,
gs.map,
"rows",
f.dt,
aA.dt,
V.int.inj,
absurd,
ZoQ · ·,
#[oR,rfl,·],
ZoQ (· ·) ·,
#[oR,z,·],
ZoQ (·) ·,
"book",
r.map,
aA.txtL,
g.dK,
x.ne,
x.f0,
nu.k,
"deep",
∀ b o,·,
#[o4,·->·->·],
#[o4,·->·->·->·],
#[o5,·,b≠·,·],
#[o5,·,b∉·,·],
(·)=Zay,
#[o9,· == ·],
#[d3,Str,·],
#[o',V],
#[o',Zeh],
· (Zao),
#[pc,ri],
#[gi,Zb3],
Str->Zpe,
#[jh,Zab,·],
#[oj,(·:Nat)],
#[ph,2],
·%Zeu,
·.2.2.2.2.1,
Zog σ ·,
H' b=Zac,
⟨rfl,·,·⟩,
Zal #[pn,_,Zbh ·],
· T U VM UO h,
#[o4,#[bt,·]->·],
(aQp ·).symm,
(· (i+1)),
ZbN-·,
H' b=Zab ·,
(fG · Zaq),
au (au ·),
#[pw,Zmp],
#[kG,(·:Int)<=·],
#[py,2,Zkz],
⟨two,·⟩,
Zap (Zbg ·),
aXc · · (x:=·) rfl ·,
fD.k (k:=·) ·,
ZbX+1,
#[hP,ze,·],
(bZ #[dj,·,h] ·),
(fun b o hb e=>·),
#[cK,#[cd,·,·]],
eW (· Zbl e) ·,
#[mF,·,Zbg ·],
#[fJ,_,·,_],
· (fS X sc cl C N' s H ex) · ·,
q.1.1,
Zab (Zah (·)),
ZdV ·=Zab ·,
#[av,·,c],
H1 ·=Zac,
ai (aq e ·),
aK (I.list hq) ·,
#[cK,ys],
#[fH,M,·,Q],
#[d7,us],
rm x,
#[fI,dx],
#[hP,C,fs],
⟨Zcr,·⟩,
Zef ·=Zab ·,
b≠ZdT,
(fb e),
#[oe,?_],
#[e2,·=·],
(.bl _),
au (ZdX _ _ ·),
(· _ _ z),
q.2.1,
#[hN,ZoC],
iY X (Zf' ·) ·,
x.2=1,
(ZdA 1).map,
#[hM,Za9,ZlU,·],
bW P w H h a ·,
· (c8 I q ·),
[ZeR],
#[gZ,0].worn,
ok.2.1,
s4 a b c,
2 ^ 63,
#[pc,xc],
#[bA,a,o],
#[pL,s2],
#[eF,ai ·,ac],
(az · H I rfl ·),
Zfq 12 cn,
[ZbG,·],
∀ fs:Zb2,·,
#[ka,?_],
(s4 _ _ ·),
b≠x,
ai n,
q3 a,
#[kC,u0],
#[kC,u1],
#[kC,u2],
#[kC,u3],
#[dk,e],
(1+t0),
Kp · H H1,
(.dT kvs),
aQa (· · ?_),
k _ _ Zgt e,
∀ f,ZmK->·->·,
#[bJ,#[cw,·],Za'],
(ax),
fun _ _ _=>ZiT,
(a,b),
Zbh (·),
#[aj,p],
#[aj,b],
Zai c',
· (ZaF) ·,
aQc hx,
aQd kn,
(· _ _ ac),
.bl _,
Zbg ht,
Zoa h,
Zbh h1,
#[me,3],
#[cD,aQg],
ZdV ·=Zab o,
#[d5,?_],
Q (Zag (· ·)) H',
qu _ _,
ZfB<=60,
Zap ⟨·,·,·,·⟩,
ca (gy 31) ·,
(aA.pl f),
Sem ZbQ,
gf K ck ·,
u::us,
ZaZ ZaI g,
#[aP,l,ZkR],
#[b0,H',s'],
cC W,
len u,
#[jg,p,0,Zmu,ZbU],
Jn X.K C,
(by rw[aZv,aXN];kernel_rfl),
fun f h=>(no h).elim,
tH (fun σ HH=>·),
bK X_ ds,
je X.K fd ps ds,
(qp src σ),
au ⟨_,rfl,_,·,rfl,· qz,?_⟩,
k z0 z1 z2 z3 z4,
"length",
"row_of",
"wears",
∃ a b,·,
∀ a b c,·,
(by simpa using e),
X.outer,
X.ex,
0,
I.loc,
free,
aQn.mp,
(Zrz ·).1,
.next,
.BoolOp,
I.kept,
fun x y H Q=>·,
I.laid,
"int",
codeAny,
k.toNat,
valueAt,
xs.map,
bs.length,
"list_reverseiterator",
l.map,
l.take,
(by rw[·,·,·];lia),
I1.bk,
s1.toks,
st.circ.length,
after,
∀ x∈xs,·,
h.kl,
aQy.mp,
ZrW ·,
#[rX,hx],
fun e he=>·,
base.get?,
.Lambda,
b.size,
V.str.inj,
Txt.join,
g5.objs.size,
.line,
f.row,
.back,
Zr8 f,
RD.up,
once,
"abcdefghijklmnopqrstuvwxyz",
∀ e∈bs,·,
fs.take,
HO.dK,
∀ u∈us,·,
A.kp,
s1.free,
x.yB,
x.dY,
fun b hb z=>·,
"one",
[ZfC,Zsk,Zl8],
"guests",
"_law_word_here",
0,
"_law_names_here",
"_law_due_here",
T.list,
tI.same,
show · by decide +kernel,
#[st,#[hW,·,·]],
dG.nd,
cI.nd,
td.mono,
cx.nd,
im z · #[eq,·],
#[sz,·,· T U VM UO h ·],
#[sz,·,#[pp,·]],
· a b c d,
#[sC,t0],
#[sC,t1],
#[bF,?_],
LU ZsF,
ZbN<=·,
kv.1,
(aL da · (aj)),
(aL dL · (aj)),
#[aj,f],
#[av,·,v],
PE X (· · · pos) ·,
(env::Zcm),
Zdu g,
∃ m,m<n/\·,
·<=ZbN,
#[sR,a],
tv e.w,
(Zod (aQf _)),
Jr B ZcE,
fun B=>ZsV,
(·::ZdX),
· c ck ze cb P0 lp ql · H · ·,
standAt ·,
#[aL,Z9,·],
#[aP,d,·],
[ZcF,Zah ·],
#[eC,Zac],
e.n<=Zbz,
#[o',Zb3],
#[kM,(·:Int)<=·],
· T U VM UO h · ·,
#[bB,ZcA,·],
#[lM,ZaC · = ZaC ·],
#[pg,f],
#[pr,ZbR],
(eV ZdY a b),
az Zdl _ (·) rfl ·,
· (aQf _),
[(y,cy)],
#[f8,Z9,·],
#[a4,Zek],
Zdu b,
aQe (#[et,·]),
⟨_,rfl,_,rfl,·,·,rfl,·,·,·⟩,
(#[b5,·,·,·]),
(ZsP:df),
(i:Nat),
(m:Int),
#[gJ,Z9],
0,
Zai q,
Zah g,
#[oj,Zep],
aQe rfl,
es≠[],
(ZgR (ah ·)),
ai (#[aH,·]),
(Zfv (Zf' ·) ·),
aQu (aQo e),
Zi9 x.2 x.1,
qe P w H ·,
(#[e2,·]),
#[aL,·,e],
(ZbN:Int),
#[ex,·,aQP],
fun r hr=>?_,
(pv 7),
#[a4,0],
#[aM,Z9,·],
· Zfx w K mg ZaS · · · ·,
(aX6 _ _),
#[bT,ZaI],
#[ct,·,#[pv,·]],
#[o4,Zd8->·],
(ZiD x),
#[gs,ZaI,·,m],
(qR ZaI i).1,
(w9 ry),
(aL bE · (ak)),
#[bR,0].2,
#[rZ,?_],
h.2.2,
I.tok _,
#[cZ,Zag,·],
#[cD,aQw],
(Zgf d),
ZcA · = Zac,
#[hT,Zi1],
p.1=g,
u.2.2.2,
(q _ ZsU),
(· b u q),
aXa List.length ·,
t σ H Q,
#[oR,(aQp z).symm,·],
⟨_,rfl,_,rfl,·,·,·,·⟩,
aZq hp (bZ · ·),
Dp P w K · · [it] it (fun i h=>·),
nN c E H ·,
⟨_,rfl,#[po,·],_,rfl,·,_,_,rfl,rfl,·,·,?_⟩,
((by simp[bH.gs])),
(fun i σ HH=>·),
· Zaw ·,
#[iZ,·,ZdG],
⟨·,?_,·⟩,
⟨·,#[aL,·,·]⟩,
#[b6,aQV],
(k:Int),
#[f9,?_],
Zab _,
Zab (· _),
aQc c,
aQc h1,
aQc h2,
Zah b,
aQd c,
aQd hm,
(Zaw+·),
ai z,
#[a_,q],
Zal h,
aG H HH,
#[lK,·,#[lJ,·=·]],
p8 w,
#[me,5],
#[cD,m9],
b=P0,
#[mi,ZbG],
aQk ?_,
aQx r,
aQe (#[e0,·]),
#[di,xs[k1]?],
Tr H H',
ND H H',
#[c3,·,?_],
#[b',n3],
#[d6,ZpZ],
2 ^ 40,
#[pc,Eh],
#[sz,·,#[s7,·,·,·]],
#[pl,H1],
ca (gy 73) ·,
#[d3,ZhX,V],
#[hK,·,#[mi,·],·],
#[hU,hc],
#[hU,hx],
#[mD,·,#[pp,·]],
jt hj,
·->·->·->·->·->#[d9,·],
(ah hp),
(eV ci a b),
#[pw,ZmX],
(cu c l),
2<=ZfB,
#[kV,·,·,·,#[mi,·],·],
Dl xs,
tS xs,
#[kY,#[mc,·]],
(db Zca g ·),
PE X o to,
aQJ ZbR,
aA->Nat,
h.Ns ZlF mg,
Zah 1 v,
Tw bs,
⟨h1,h2⟩,
#[cC,Zac,ah hq,ac],
[Zag Zcn,Zah g],
(show False from r).elim,
#[f8,aQl,aQW],
(gZ (zd ·)),
(jf e).1,
#[gm,.dK [],·],
#[ey,ac,aQt],
0,
· fun _ _ _ _ _ _ _ q=>· q,
X.K=K,
env.frame=Zab L,
#[oV,show #[er,·]=· from w,ZcE],
gj · gs=Zac,
#[jp,[],Zan],
(eQ cs ci),
(vG H ts ps),
mr (I.lstM hH) fun z d_ n r hl e=>?_,
fun a h=>aQJ (Zko · a h),
ZiA (ZfW Zb3),
⟨0,0,0,0⟩,
(gH rfl (aW (gv · ·) (aW (gv · ·) dX))),
(show False from ‹bX 0 _ _ _›),
k z0 z1 z2 z3,
ao (hN σ7 H7 n7) fun m' hm w7=>?_,
⟨_,rfl,b,ZcW,_,rfl,·,·,_,rfl,b,·,A,bs,·,rfl,·,·,·,·⟩,
∀(x:·),0,
∀(xs:·),0,
"range",
Za2 ZvF,
∀(h:·),0,
∃ a b c,·,
aQ8.mpr,
ZvJ ·,
us.drop,
(ZvL j).map,
ZvL j,
.ext,
Heap,
h2.get?,
∀ a o,·,
#[vR,·->a≠·->·],
I.os,
I.free,
I.freeC,
False.elim,
ZvW hq,
fun D σ H=>·,
#[vY,· σ H ·],
fun b H1=>·,
s2.heap,
p.isList,
1000000,
#[sH,Zv3],
·<=Zv3,
Heap.SameBut,
ps.zip,
List.replicate,
scope.names.lookup,
vs.toArray,
slice,
(by rw[·,<-·];exact ·),
ks.map,
more,
tupleKind,
.func,
model,
(Zwf ZlB w),
#[fH,Zwg,·,Q],
(Zwf P w),
ZrH Zwg A · R s,
.all,
NameKind.free,
"reversed",
(by show ·;decide),
(#[wn,·]),
#[wn,ZdF<·],
.masked,
st.deeds.length,
"NoGuest",
c.fN,
ks.length,
RD.tup,
again,
ts.map,
1921,
1755844984,
a.size,
f.gs.map,
aA.rowL,
aA.row_len,
.Constant,
z.mono,
kindsL,
aA.txt,
es.take,
t1.trans,
Y.d1,
Y.d2,
Y.d3,
I.ev.ob,
x.wB,
p.good,
"at",
"words",
"_law_met",
"_law_guest_here",
U.nW,
s4.trans,
g2.trans,
A_.trans,
UO.mF,
"parts_at",
"figure_at",
D0.kp,
gL.nd,
iI.nd,
"_law_figure_text",
M.on,
"_law_names_of",
show · by decide,
Wz.KT,
(· Zcl X.w),
#[w9,Zwf],
#[fH,Zw_,·,Q],
Zb7 Zw_ X.A · · ZlO s,
#[w9,aV],
Zb7 Zw_ X.A · · ZlO ·,
(#[st,·]),
#[xd,(·:Zbp).Nodup],
(#[cX,·]),
#[xf,?_],
ZfX e.w,
(Zxh:df),
(Zeg x ·),
#[xj,p],
PE X (ZcN Zxk ZdD [] pos) ·,
(fun cl C s2 H2 ex=>·),
#[xm,⟨(gv 0 #[xe,·]),dv,·⟩],
(c5 (#[g1,dM,am ·,·,·,·,Dk,·,#[xn,·,·]])),
fun _ _ h'=>h'.elim,
Pv (i+1),
Zi9 · f,
#[xr,8],
#[xr,n],
#[oV,·,aQs],
#[xu,show ZkJ from hs],
aQa (· (aQa ·)),
#[kD,·,Zau],
(am st),
#[cs,Zbw],
(ic rfl · (fun ea oe=>Zxz) ·),
(ay · · (aj) ZhE),
#[xB,bF,·],
bo st ·=Zbe,
#[xD,d],
[Zag ·,Zah ·,Zah ·],
#[xF,Zc_,e.1,e.2],
(b,o),
(put ZaI a mb),
aQa (aQR · (·) Zxp),
(aQo e),
bX · H p f,
fun o=>(·,o),
#[xM,x],
Zdu a,
(ZxO:df),
Zeu*·+·,
aK (I.tuple hq) ·,
uE H0 · w m ls · ·,
#[hH,o],
#[pk,·.2.2],
#[cf,·]->#[pu,·],
#[mL,[],·],
#[xW,hl],
gz (bd es) ps,
ZxY=Zbe,
o.cls=Za2 ·,
Num z ds,
∃ ds,Zx1,
Zho ·,
(show · from rx),
fun d_ r pl hz=>?_,
(cE (pv ·)),
mw Zdv,
mw Zcm,
ZfW (·×Zbr),
(put Zdf mb a),
(cC W),
(c:Int)-a,
(show · from r),
(ay l9 · (ak) ZhE),
#[sH,12],
Sem Zb3,
fun kv=>#[lJ,ZsI=·],
sIx Zf7 0 lo,
(fun i σ H2=>·),
(pv 9),
#[bv,d],
·=Zaw+1,
bX · H' p f,
.at (Zag ·),
(Zsg ·),
(s5 _ _ ·),
b≠C,
#[bv,q],
b∉Zdg,
(Zsc i),
(ZiE o u),
#[jo,Z9],
(ah hl),
(.dT []),
(Zhr Zau),
RD X.K H n · d,
aQa (#[pC,·,rfl,·,?_]),
∃ sl,· b=Zab { o with slots:=sl },
(ps++[y]),
#[js,·,#[e7,s2,e2]],
(Zah i t),
KV kvs vs,
aT X Zam σ' H' s',
aV Zcl X.w,
(· Zam s1 σ H1 _ I1 ·),
bZ (· Zam s1 σ H1 _ I1 ·) ·,
fun _ q=>q,
b≠S,
(Zag z),
r4 a b,
u.2.1,
#[me,4],
#[eB,ys],
#[a5,·,·,#[cK,·],·,·],
#[o4,ZdW->·],
(mD (pv 1)),
Zem b=Zab u,
#[ok,Zep],
(ZaZ l g),
#[x0,Zf3],
GK H H1,
(gW Zak · rfl),
(aL d8 Zaq (aj)),
Q (.bl Zad) H',
(g i j),
(ZwE · j ·),
(dw (c5 ·)),
(cu 32 Zeo).2.2,
[u.w,u.m,u.ls],
#[pA,fun r h3=>fin · _ r (·) · h3],
Zag y,
Zau a,
#[oR,Zs',·],
Zbh ac,
s5 a b c,
#[md,#[yc,·],·],
#[c2," "],
Zau b,
#[c0,c],
#[kC,u4],
#[kC,u5],
#[eD,"__next__"],
#[sC,t2],
#[pt,e],
#[xw,aQk,·],
GP st,
rel.val k,
ZgN bs w f=Zbe,
#[s0,ZmJ],
dh H l ps,
#[o5,·,ZdW,Zfa],
(vs++X_),
bK xs d_,
#[iH,#[lJ,#[pQ,·]]],
[ZgP,ZwQ],
∀ n:Nat,n<=9->·,
aQc (#[st,¬ #[er,·]=·]),
#[cd,a,b],
az · H ZkH Za' ·,
(hs.2 b (aQu (aQD ZxK ·))).trans,
gG _ · · _ rfl #[cu,·],
[u1,u2,Zai f],
nO ns 0%3,
(put Zx_ ma b),
aZ Zfx w K mg ZaS · cb · · Zmk ·,
p9 c ck ze · e A D B st q · ·,
(#[gc,·]),
ZdB≠·,
·≠Zaw,
∃ o,Zd8,
⟨·,ZaU⟩,
#[b6,z],
fun y=>?_,
#[dz,·,ai ·,·],
∀ k:Nat,·,
#[ew,· ·],
(by rw[·];show ·<ZbE;decide),
(ZbG,h),
∀ l:Zbr,·,
if ·=x.w then v else ·,
Zab j,
Zbo ZbQ,
aQc q,
Zah c,
Zah a,
aQd q,
aQd h1,
ZdX _ _ ·,
r=Zad,
(Zb8+1),
aQe z,
b≠a,
b≠ZhC,
Zox g,
ZfZ h,
#[cK,#[s2,·]],
lH a b,
R.2.1,
aQc (ZaF),
aQc (ZaU),
#[jd,·,(af ·)],
#[ar,Zfy,·,·],
i<ZaJ,
#[je,ZlR],
b=ZeZ,
b∉ch,
#[dh,z],
#[dh,hb],
aQx hp,
b∈fs,
b∈Zx7,
Str->Nat,
aR (j:=1) rfl,
#[b',n2],
x::os,
#[dj,he,h],
2 ^ 64,
#[pc,CP],
#[rA,hg],
#[rX,hc],
(Wq x),
#[jk,Zjq],
[Zag ·,ZaK],
Kp Zdg H ·,
bf ZbH,
#[e_,t],
#[mA,Zaq,·],
(aA.back f),
Zal (Zal ·),
Q v H,
j9 c l,
bo (bd es) ·=Zbe,
aQd (ZaF),
#[hY,H'],
#[hP,C,[]],
[Zai l],
(es++Zkr fb),
#[jt,ZbG,·],
Nat->ZbQ,
#[sN,ZrC,·,·,·],
ZgI pos.col,
f.isP=Zay,
·=Zaw+·,
#[mO,Zae],
(ZoA a b),
PE X o ta,
#[sZ,apos.atName],
⟨t,ev⟩,
Zah 2 v,
⟨q,hq⟩,
(Zap (Zap ·)),
(hZ st d),
#[ar,x,Zbx,st],
(WC d o kvs),
(WD d o kvs),
· Zfx w K mg ZaS ·,
c::cs,
#[j_,b<ZeY],
ZdV S,
ltl b o e z,
ZfX x.w,
(Zft Zad),
Mu H b,
V->Zbs->#[cp,Hp,VK],
Un fs ex H · h ·,
sm _ _ q,
cntF fs u,
oe.data=Za1 us,
(Hf ea C ZpY),
[a,b],
ZcA x=Zac,
PE X b tb,
bw K x st,
PySem.W.isFn K ZsL=Zad,
#[xd,#[s9,·,ZiY]],
es++#[ps,ps.take].map fb,
#[mG,Zae,Zae],
aQa (aZs hT · ?_),
bZ h7 fun _ s8 zz=>?_,
PI X tg bO wi,
Zww I10 Y_,
hA.mono (#[iG,s2]),
Zb3->Zb3->Zye,
(Wm ZaD a b).get? ·=Zab _,
· (#[mx,H,ZaD,a,·,Zbl a _ ea]) ·,
iu P.wrong fun w1 w2 w3 w4=>?_,
#[hs,#[lJ,f=u]],
ZoQ (aQD · ·) (aZe _),
(put l g m),
aQd (#[et,·.word=Za9 ·]),
⟨_,rfl,_,rfl,·,_,rfl,·,?_⟩,
(dJ · Zak ZfE Zmm fW ·),
hl i σ H hi p,
⟨_,rfl,p,·,_,rfl,·,·,_,rfl,_,rfl,p,·,·,·,·,rfl,·,·,·,·⟩,
I8.pinned (y_ fr8) (T.obj _ _ st8),
turn i n σ6 H6 w6,
Zb7 Zwg A · Q E ·,
k z0 z1 z2 z3 z4 z5,
⟨_,rfl,_,_,rfl,rfl,·,_,_,rfl,rfl,#[wp,·],_,_,rfl,rfl,?_⟩,
⟨_,rfl,p,Zco,_,rfl,·,·,_,rfl,p,B,st,·,rfl,·,·,?_⟩,
.Attribute,
(ZBL · · apos),
#[BM,o,m],
Or.inr,
"word_at",
∀(r:·),0,
"dress",
"read_number",
"is_name",
B.StaysIn,
ZBU ZaD,
us.take,
(ZBW j).map,
IsTup,
fun b u q n _=>·,
builtinsNs,
.function,
sc.kind=ZB1,
X.env.cells.lookup,
∀ x c,#[bB,ZB3,c]->·,
I.base.free,
Nat.le_of_lt,
I.ok.frf,
(by rw[·];decide),
I.ok.bsz,
X.s₀.heap.get?,
I.len,
isTrue,
ZCa c env (Zhn c env),
d_.size,
target,
σ.set,
pyIter,
fun g h=>·,
(by simpa using h),
(ZCh),
I1.laid,
A.deeper,
s.heap.FunFrames,
I.bare,
BindsTo,
I.ok.mod.kin,
sc.names,
S.kind,
hr.hd,
getItem,
i.toNat,
"len",
trivial,
e.symm,
atKey,
dd.mapOf,
.NotIn,
s₁.heap.get?,
(by simpa using hx),
compTurn,
fun b z=>·,
fun a b=>·,
I1.hok.fresh,
2147483646,
dO.mpr,
fun b u e=>·,
"object",
"ValueError.__new__",
fun r s'=>·,
hx.new,
s1.heap,
{ s' with heap:=· },
st.hold.length,
"Same",
(by simp[HA.fp]),
RD.flat,
I.ok.glob,
ds.take,
614540362697595703,
14029467366897019727,
Builtin.Tuple.tupleHashOf,
tupleKeyHash,
fun b o e n=>·,
(#[CZ,·]),
fun vs H1=>·,
fun v H'=>·,
acc.length,
fun w hw=>·,
(by simpa using ·),
x.cps.toList.length,
"0123456789",
fun o e=>·,
(· #[C8,·]),
b1.extBut,
fun t ht=>·,
#[C',?_],
(ZDa),
xs.zip,
(ZDc ts).map,
.star,
.quad,
#[sC,ZDf],
rs.length,
Builtin.Range.rangeSize,
f.rowF,
(ZDj (lA bs)),
ZDj (lA bs),
d_.toList,
rdNum,
bH.line,
·.txt.length,
linesD,
.dance,
"dance ",
"no: NoFigure",
oF.pre,
"parts",
"<lambda>",
"twin",
"rest",
"_law_other",
"_law_step",
"_law_shelf",
"_law_draws_here",
"_law_line",
"met",
"acquaint",
s3.free,
fun l hl=>·,
#[DH,?_],
g1.trans,
B2.ob,
f.len,
ZDL (iP bs),
ZDM<=Zbz,
Zbz<ZDM,
"check_names",
fun _ _ y=>·,
UO.eF,
"figure_of",
hf.mono,
I.kp.ob,
S.mono,
jF.nd,
UO.e.nK,
s0.free,
q.ns.map,
D0.dx,
s3.trans,
T.range,
iV.nd,
three,
.pair,
ZD5 a b,
ws[j],
"_law_flat",
aQr.mp,
ZD9 ·,
#[D_,hc],
#[D_,hx],
#[D_,he],
(by show ·;decide +kernel),
aQc (#[Ec,¬ Za9 · = #[eD,·]]),
starEach,
ZEe · ZaQ=·,
#[Ef,·,·::ZEe · ZaQ],
#[Eg,ZdD,Zmz,es],
#[Eg,[e],Zmz,[]],
as.map,
ZEj ZaN,
#[mE,ZEj],
(fun _ _=>·),
#[Em,ZiT],
#[Em,rfl],
(aM · · (aj) ZEo),
#[Ep,aE,·],
#[Eq,ZaA],
#[Eq,Zak],
#[Eq,Zaq],
#[mA,ZEs,·],
#[mA,ZEt,·],
(c5 ZEs),
aQg (#[aH,·]),
#[Ex,#[oT,Zr3,z,(by dsimp only[bH.word];decide +kernel)]],
#[Ex,· (Zr3 z)],
#[lM,ZaC #[c2,·]=ZaC (Za9 ·)],
#[Ec,#[EA,·,·]],
#[ka,#[cC,y,hy,(#[cV,·])]],
#[bc,([]:·)],
#[jd,·,(af (·))],
#[EE,·,eC · dN rfl ZCr rfl · ·],
#[c1,O_],
(fZ st),
(n,k),
(Zfr c.C Zco (bQ ·)),
#[EJ,{ B with w:=lw,h:=lh }],
#[EJ,{ B with w:=lw }],
ZlS d,
(ZcN · · [] h_),
PE X #[EN,#[BM,o,·],·] ·,
#[eE,·,rfl],
#[EP,rfl],
#[hM,fM,ZgU,a],
a+ZER,
(k7 kvs k ·),
#[ET,v],
{ nx:=fun _ H'=>·,rt:=· },
#[gm,Za6 (· ·),·],
#[EW,·,Zau,·],
(.dK ((Zkh #[cb,·])++[·])),
Aj · P w K mg ZaS N Zbx · f · A Zcm · · E,
[·,ZbP],
#[bd,Za9,·],
#[oj,#[E1,·]+·],
(ZcO 1),
#[iZ,ZEM,g∈L/\ZdG],
ZgX/ZCG,
d/60%3,
#[j_,o9 X Zam · b],
fun g=>32::·,
#[f9,· x ·],
Zai b,
y=ZE_,
k b u q,
#[fJ,·,rfl,rfl],
#[Fb,ZeI],
je K fd · [],
[#[kE,·],#[kE,·]],
Zb7 _ ZiU (· >>= _) _ _ s,
jG H d · tv,
#[Fg,bs],
IsZip · z TI TO ·,
bZ (· Y rfl rfl rfl hc i · s6 σ6 H6 _ I6 (y_ fr6) st6 ·) fun r s7 zz=>?_,
#[xj,pos],
af (ar (pv ·)),
#[Fl,2],
(Zxi,ZsT),
[a,b,c,d],
#[Fo,0].Nodup,
#[aP,q,#[xx,·]],
fun r=>lC r c,
#[bd,fM,l],
#[eV,·,#[pD,·,·]],
fun d_ rv p hz=>?_,
(2:Nat),
#[wn,#[ph,·]],
#[bB,·,Zf5],
(assignEach · ZaQ),
aQk #[d5,·],
#[kK,Zem],
PySem.W.plainGet K · ·=Zad,
wr ZaI ·=·,
foldedSetIterable · · x,
∀ x,#[FD,bO,ZaQ]=Zck x,
fun a (·:Int×Zbq)=>·,
·+·*ZCW=#[xQ,·,·],
(.dK (Zkh #[cb,·])),
(wr ZaI a),
(d:Int)-b,
#[mG,·,hd σ H p],
(put ZxI b ma),
(· (· · 0 lo)).take,
#[hM,ZDj,lA,bs],
· a b c d e f g,
(#[C5,·]),
#[wn,#[oj,·]],
#[bt,H5],
aQk h,
#[bA,Zaw,·],
ao (aXI.mp ·) ·,
#[c3,two,·],
es++Zkr fb,
#[xw,aXH,·],
#[sY,j3,[Zai ·,Zag ·,·],Q,E],
(put ZaI g g),
qv (ZsF) #[eC,?_],
sIx Zf7 Zf7 hi,
oF c ck ze cb P0 lp ql H0 · u B es · Y d bs R_ tv,
W i m σ' H',
Do c ck ze · e A D B · H',
Zr1 Zl1 Zfu ZbY aq0,
hsm.1,
#[aL,e,·],
fun u hu ru=>?_,
#[gJ,iW],
fun as hd hp=>?_,
Ze4+1,
ZBU g,
#[bv,w],
#[hG,ZEt],
(l7 d),
#[wo,·<=60],
aQa (aQa ·),
1<=ZbN,
uE Zs3 · w m ls · ·,
#[xL,n],
#[ps,ZdA].map,
(aL d8 ZdK ·),
(bs++[x]),
#[yb,∃ t,u=·],
#[bc,·]<Zbz,
(us++ds),
aQk (aQk ·),
(p++c::r),
#[o6,·,b≠·,b≠·,#[bt,·]],
[x,y],
(fb p),
(exOb C t ·),
⟨·,·,·,fun b o e hx=>?_,·,·,·⟩,
Zbj-m,
(aQG X G ·),
#[Fe,p.1,p.2],
y=kV k,
PS X (.Assign [·] · pos) ·,
dJ · Zak ZcY · fW #[c6,·,·,bz],
(· a b c d),
JU (ZaC ·) (· ZaC),
· (fun n s'=>·) ?_ m0 ·,
⟨_,rfl,·,_,·,_,rfl,rfl,·,·,·,·,rfl,·,·,·⟩,
[ZdC],
(qA z).mp,
#[bF,rfl],
#[f6,(·++·)],
fun i v=>#[sM,·],
#[ex,·,aQt],
fun d_ rv pl hz=>?_,
∃ k:Bool,(·)/\·,
#[ge,?_],
(Zv8 · ·),
Zai Zaw,
aQg z,
#[bv,t],
#[je,s'],
b∉F,
#[bK,h],
aXW ?_,
(ZiD a),
Zau d,
Zau c',
0<=·/\·<Zi0,
10 ^ 15,
32::Zi8,
1<=Zek,
#[jo,aQz],
#[hY,Zef],
(Pg (oU bI)),
bO f i g,
#[EW,·,ZaC,·],
[e,f],
(Zap (Zal ·)),
#[av,kvs[i]?,p],
#[o7,#[bt,·],·,#[a5,·,·,·,b,o]],
Zho (Zh6),
#[gm,ZcJ (· Zau),·],
(aQp e).symm,
(aQa (· ?_)),
(put Zdf g g),
(tj · · ZhD ZbI fW),
(c5 (cG Zak rfl)),
fun i H x H'=>H'=H/\·,
· (ZgO s3),
es++ZCU i,
[a,b,d,e],
[Zai w2,Zai m2],
⟨_,rfl,p,f,rfl,·,·,·⟩,
(ux K Zbw (·)),
PySem.W.mroIn K · #[my,·]=Zab Zad,
(#[hy,·]),
(ZCR),
(fun ds N=>·),
[ZwT],
·<=Zb8,
∀ d∈es,ZE4,
(Ztg:df),
#[b5,·,Zab ·,·],
#[aL,z,·],
#[fs,e],
∃ c,#[bB,·,c],
#[dy,?_],
#[bm,aQ6,·],
#[CI,?_],
∃ (o:Obj)(d_:ZiB)(n:Nat),·,
(kk:Int),
#[bn,·,Zts],
fun iv s2 zz=>?_,
fun cl hcl q1 q3=>?_,
(by rw[<-hs3]),
fun _ _ p _=>?_,
(0,0),
fun i1 i2 i3=>?_,
fun a b c d=>?_,
#[c2,·].cps.toList,
#[gV,0].drop,
ZgT[e],
fun e he hB=>?_,
(Kp.of_same ·),
ZgR (·),
(pv 8),
Zai Zj2,
aQc hc,
aQc hd,
aQc hk,
aQc kn,
Zah j,
Zag x,
aQd h2,
aQd hc,
aQd hx,
aQd hd,
aQd hk,
ok=Zad,
(Zkm x m).mp z,
(Zkm x m).mpr z,
aZh _,
Zi' _,
Zbg hq,
aQp h,
Zr3 h,
aA.dt_word h,
#[bv,b],
aG H H1,
Za2 "dict_items",
Za2 "tuple_iterator",
#[fF,Nat],
x.2.1,
h.2.1,
Zal k,
Zal q,
#[Eq,ZcT],
i<ZC6,
#[cD,aQd],
#[cD,aX0],
#[cD,aX9],
Zap x,
theTreesLotGoes x,
(·++[Zb8]),
aXi ?_,
wpAny_noted ?_,
.bl b,
Zft b,
b∈ks,
#[o',Int],
#[hN,ZgM],
GL H H',
Q v H',
#[b',n1],
#[b',n4],
Zdc q,
#[dj,ha,h],
#[D_,hd],
#[D_,hy],
#[pc,AH],
#[rX,hy],
qf.new _ _,
#[ph,0],
#[lL,ZaC · = ZaC ·],
(Zag x),
f2' y,
u=Value.bool ·,
s _ _ ZiX,
(aA.name w),
aQk h₁,
(#[er,·],ZaN ·),
bf Zmb,
#[e_,m],
#[EA,·,ZbZ],
· vs H Q E_,
#[hU,hy],
Zdc hb,
#[dL,b],
#[cC,Zac,·,(·)],
#[mD,·,· T U VM UO h · · · ·],
bV hj,
#[mE,Zwx],
#[gw,·,ZdC,·],
fj k A,
#[ev,x],
a≠b,
(cE (pv 1)),
ZDV s1,
Zss s1,
(f,M+1),
#[xu,show ZkJ from fx],
aQp hc,
aQp e1,
(c5 ZEt),
p∈ml,
#[cq,dH,s2],
PA X es t,
2<=Zky,
af (ar (pv 1)),
w=Zcc,
#[kT,ys[k2]?],
sE x=Zad,
Nat->Nat->ZbQ,
f∈fs,
#[pR,a],
#[pT,Zx5],
#[xL,9],
Zfp<=n,
l∉Zdg,
#[sX,b],
#[EP,Zac],
#[xR,Zx5],
#[xR,ZFu],
ah hl,
#[md,#[h3,IB,·,·],·],
#[xU,·.2.2],
u1.there b o e hx,
#[E0,Ze5],
_::ZdO,
h _ ZkH,
Tr H H1,
(p::r),
#[x6,3],
(hf b z),
#[s8,Zjr],
(Tz K a),
(WE K a),
aq ac hd,
dh H l r,
#[tc,Zod],
#[E7,H],
(n+3),
(n+4),
Zag x t,
(h x aQi),
#[p',·,(· X.K)],
#[c5,V,Hp,VK],
tn 0 h4,
#[Ed,Zcc,·],
#[qd,o],
#[yk,Zke],
#[o7,#[bt,·],·,#[bt,·]],
#[yl,n],
Zi2 h' Zaw x y,
#[tz,h],
-(2 ^ 40)<=·,
Zf_<=900,
⟨·.1,Zae⟩,
w::vs,
· _ _ p Zaf,
· _ _ Zv2 Zaf,
Zah i tk,
(ds++[d]),
Jn K C,
#[Fz,h₃],
Zl4 e fs,
(Wp lo n),
(MN lo n),
Zbl p _ hp,
#[sQ,I m s₃],
bT X.K H a xs,
aX X.K H a xs,
Int->Int->ZbQ,
qh c ck H k A B · s ·,
(dncS es bs f),
#[EF,·,ZDR,ZwY,Zbw],
w∈mi,
Zkk d≠Zcn,
⟨sl2,e3⟩,
(sZ ZEs),
q _ h2,
bT K H p xs,
ZCl B ZsO,
#[pG,ho,Zg3],
db f g m,
bZ (hl Zam s σ H _ I h) Zju,
ZoE H P pos Zbx,
.sq Zad [#[ym,·],·],
(cw f v fs),
40::(bf ·++(·++[41])),
∀ s',·->Q () s',
aQa (m:=Builtin.Tuple.tupleExact _) ·,
(cY · · · · ((· _ _).upd _ _)),
aQd (aQe z),
#[C9,·,aq6 _ _ e],
#[py,1,Ztf],
(ZCS rfl 1),
(gQ kvs k),
#[dy,aq1.extBut b o ZjB Zmt],
S.fre y hy hf,
[ZaC w0],
[#[x3,ea],u],
[p.1,p.2],
h2.2.symm,
o::os,
#[bm,e3,aQ6],
(aU ·).Nodup,
PE X a ta,
(u9 ci a),
#[wo,0<ZbE],
aQk ⟨aZy aZl _,·⟩,
(Zkw fun u=>·).sum,
#[s6,2,Zkz],
#[su,ZDs,6],
bK (Zhr Zau) ·,
f8 c ck ze H' e A D B st,
(bO Zca j g),
Zbr->#[x9,α],
fj 2 X.A,
gQ (dk ·) Ztk,
aQa (aQa (aXo ?_)),
(gZ (· hu Zaq Zc7)),
iQ cb H ZkA Y bs,
tX (es:=es) he,
(Zfq 12 cn),
fj (k+1) X.A,
(eV Zta b a),
N'.zip src,
(fun h4 aq2 aq1=>?_),
X.N=N,
i.natAbs.log2<1920,
H6 C=Zac,
#[bd,l7,d],
(Zay,Zhn a ZaQ),
#[cf,#[kD,k.map,kV]],
#[cq,ZgR,s2],
·*t+Zes*·,
(ZiE oc (ZiD c')),
Zah 0 0,
(ZiE o #[FH,ZFn]),
[ZfC,ZeR,ZeQ],
(a::b::ZdX),
#[sN,ZwE,·,j,·],
#[pK,b,hbK],
#[xJ,h₁,fun _ s₁' h₁'=>?_],
obj=Zai Zaw,
#[pP,T,oT],
aZ P w K mg ZaS eR cb · · Zmk ·,
#[xM,g.headD 0],
ZrF (t':=·) · Za8 #[mx,_,h',_,·,·],
pN c=Zay,
aQu (aq3 b hb),
(· (x,t)).1=ZfX z,
bT K H a Zyx,
Za0 F l m,
[x1,x2,Zai f],
#[qe,·,(aXa not ·)],
#[Fi,ZaD,Zax],
(acc+(n ^^^ (p5 ^^^ 3527539)))%m,
Lw Pi hj,
#[Ft,j8,ZmH,·],
bf (gV g),
#[Ef,[e],[Zmz]],
(kvs.any #[yf,k]),
#[FU,e2,fun q e3 e4=>?_],
⟨_,_,_,s2,_⟩,
(neC b o e hx),
k H1 s1,
(Zhj #[eC,Zay] 0),
#[a4,sIx n 0 lo],
#[cC,rfl,rfl,rfl],
ZfZ (I3.stkSub b z),
aZ P w K mg ZaS eR ck · · ZfD (· ck),
[ZwQ,Zsk,Zl8,Zsm],
iP bs w=x.n,
(x.r e he).1,
(Dj a b c),
R (.ok ZrB) ZiJ,
48<=c/\c<58,
yG I hu' rx hx hp r,
⟨_,rfl,p,c.C,A0.dx,_,_,rfl,·,ZcY,·,· A0,·,_,rfl,·,·⟩,
∀ b ys,#[xV,ZpU,ZpU],
∀ b xs,#[xV,ZdJ,ZdJ],
#[dy,aQu (aQD ZxK Zoc)],
#[cX,#[aL,sz3,aXB (flt b hb)]],
∀ ps,s.plan=Zab ps->·,
fun f' h kn=>#[oR,(ZjG▸kn),un],
Zo2 (k:=ZmH) (v:=·) · Zyu,
· (aX2 (·) fun r s' hq=>?_),
2<=Zky/\Zky<=60,
2+2*i,
ao (Option.bind_eq_some_iff.mp e) fun p e1 e2=>?_,
rh H p f,
ao (hR _ hfr) fun W a_ turn=>?_,
#[fd,#[cK,#[xF,ZbZ,a,b]]],
(Jq h k b),
#[xJ,h₁',fun _ s₂ h₂=>#[xJ,h₂,fun ok s₃ h₃=>?_]],
ups b _ e1 hnf,
behindInMarks op b=Zay,
(fin h' tk k),
["a","b","c","d"],
fun B=>no B _ ZaV,
bA c.C H · B st,
dR (O_ b hb) fun f0 f1 f2' f3 f4 f5=>?_,
⟨_,rfl,_,rfl,·,_,rfl,·,_,rfl,?_⟩,
(·)*k0+(·)*k1+(·)*k2+(·)*k3,
(nd · · ZaG ZaG ZaG ZaG ZaG),
aXd (kN I hg hm ?_ S_),
wpAny_Call_method m.base m.few m.line aZf · · ·,
· Zcl X.w X.K ZcA Zhq ·,
(bq (iZ aQO aQS aQT dq · ·)),
⟨_,rfl,x,c.C,Zco,_,rfl,·,ZcY,·,FG _,?_⟩,
#[EZ,ZhJ,sc,cd,s0,H0],
cw · Zm3 (bQ A)=bQ ·,
((·)*u+(·)*v+(·)*s+(·)*t),
#[FX,(aQR (turn n s hI) (fun r s₁ h₁=>?_) Zxp)],
⟨·,ZvT,ZCm,I.base,Zrx,ZlG,ZvU,ZvV,·,Zbl,ZB'⟩,
codeAny_loop rfl I (fun n s hI=>?_) n h,
#[aP,e,(Zfr ze ZcW (Jq #[aj,A.x] #[aj,Zsf] #[aj,ZkA]))],
⟨_,rfl,_,_,rfl,rfl,·,_,_,rfl,rfl,·,?_⟩,
"_law_guest",
"_law_size",
"_law_draws",
"_law_base",
"_law_after",
9148689060682678900,
"_law_due",
"_law_cell_at",
"_law_more",
"read_figure",
"quadrille",
"_law_key",
"inner_figures",
hashInt,
Sum.inl.inj,
Sum.inr.inj,
h1.get?,
u.keep,
fun b xs q=>·,
env.kindOf,
X.H₀,
I.base.keep,
I.base.slot,
I.ok.exfs,
I.ok.has,
ZM3 y.1 ZbR,
I.ok.inj,
fun _ _ _ H _ I h=>·,
fun _ _ q=>·,
#[M7,q],
h.elim,
fun x H1=>·,
∃ σ' H',·,
"dict_itemiterator",
I1.tuple,
1073741824,
aZb.mp,
.call,
fs.lookup,
PySem.W.instObj,
Nat.le_of_eq,
"isinstance",
A.depth,
.Tuple,
.error,
I.ok.frames,
r.append,
F.run,
I2.kIn,
I1.kIn,
envOfC,
(ZCk (ZNr Zbx · Zaw f ·)),
vs[i]?,
#[sM,ZNt],
ps[i]?,
S.par,
V.non,
ws.toArray,
(by simpa using hv),
IsPart,
·.filterMap,
s3.heap.objs.size,
#[j_,b<ZNC],
ZNC=ZeY+1,
xs[j]?,
subscripted,
(by simp only[aQz]<;>lia),
h'.push,
r.get,
Nat.mul_comm,
(by simp[e]),
.Subscript,
#[sN,ZNM,·,·,·],
fun v H1=>·,
"get",
Or.inl,
(ZNQ rfl),
(ju (i:=·) dF.nd rfl ZNR ·),
env.cells.lookup,
cl.lookup,
I.ok.noex,
d_.toArray[i]?,
∀ h' tk,·,
(by simpa using hl),
"sorted",
acc.toList,
p1.isList,
p2.isList,
rv.get,
aXh.mp,
ns.getD,
#[iH,ZN5 i 0],
dO.mp,
m.length,
l[i]?,
paired_get,
ao (ZN_ · ·) ·,
g.get?,
B.get?,
ZOb e=Zac,
ob.data,
g1.get?,
wpAny_setField,
fun g a1 a2 a3 a4=>·,
"BaseException",
"type",
"__getattribute__",
(by rw[<-·,·];exact ·),
newId,
s1.heap.get?,
s0.heap.get?,
I.base.there,
ZOo b o e hx,
I1.kept,
I1.hok,
fun b u q=>·,
joinParts,
∃ (f:Addr)(fd:FuncData),·,
∀ b∈A.fp,·,
fun b hb o e=>·,
∀ b∈cs,·,
∀ x∈st.circ,·,
"Hall",
"AlreadyIn",
"Masked",
"Met",
ci.length,
I.ok.cab,
I.ok.hd,
(ZOF hc),
I.ok.bs,
(by simp[hi]),
ds.foldl,
es.size,
holding,
wpAny_of_eq,
show · by rw[·];exact ·,
P.inj,
wpAny_setField_rec,
sep.length,
11400714785074694791,
839798700976720815,
wpAny_dictEntries,
entryOfKey,
(by clear hs;lia),
1082452398,
sc.names.lookup,
#[bB,ZOX,·],
e0.bs,
∀ vs H Q E,·,
#[O0,Zjz->ZiK=Zen],
{ s with heap:=·,toks:=· },
#[O2,h',·],
#[O3,tk],
#[O3,t'],
s'.heap.get?,
fun b o e _=>·,
callerA,
World,
∀ w:ZO9,·,
step_dedup,
aXX.mpr,
s.trans,
fun H' s'=>r H' (ZPb s'),
"Keeper",
Tr.of_same,
dd.typeIs,
fun a ha=>·,
xs[i]?,
#[di,ZPh],
D.l1z,
b2.extBut,
D.l2z,
D.l2i1,
b4.extBut,
b5.extBut,
b3.extBut,
itb.length,
g.map,
(#[bd,ZPr,Zau]:Nat)-1,
RD.succ,
"FigureBook",
argBest,
"default",
[(ZPw,d)],
List.getElem_mem,
aA.names,
fs.flatMap,
∀ f∈fs,·,
aXR.mpr,
bs.filter,
(ZPD lM).map,
fun e he h=>·,
.taken,
.unknown,
kindsL.map,
fun v hv=>·,
jR.mp,
Builtin.Str.strSub,
"Evening",
xs.lookup,
List.mem_of_mem_drop,
bH.star,
16030,
funext,
aG.refl,
(ZPS _),
aQ #[c3,ZaG,#[cR,_,ZaF,#[EC,k2 nn H ZPT]]],
#[mP,ZPU],
kk HK ZPT,
.rings,
.state,
"name ",
(by rw[·];decide +kernel),
"come ",
"inner",
"end",
"_law_row",
"_law_one",
"_law_part",
[ZP6],
"_law_j",
"_law_evening",
S1.ob,
T.dict,
"turned_row",
"single_length",
"single_row",
UO.f.nL,
"define",
hf2.nd,
"told",
"spread",
fun l2 h2=>·,
if · then _ else _,
(#[Qj,·]),
"number_at",
fU.nd,
fun t2 ht2=>·,
#[Qn,?_],
"do_deed",
"read_line",
(by rw[·];show ·;lia),
"strays",
ks.take,
(ZQt i).filter,
"ring_with",
"rings_of",
"hall_behind",
UO.k.nH,
row.mono,
"rings_line",
fJ.nd,
"_law_wrong",
"_law_rings",
"_law_names",
k9.nd,
"_law_word",
lj.nd,
"_law_ranks",
"_law_plain",
"_law_small",
"_law_wrapped",
"_law_figure",
"_law_plain_pairs",
"_law_together",
"_law_deed_answer",
"_law_rings_text",
"_law_said",
"_law_dance_answer",
"danced ",
"_law_name_answer",
"_law_some_word",
"_law_line_due",
"law",
X.mono,
ZQY s3,
{ cls:=·,data:=· },
#[Q0,·,Za3 ·],
pyNext,
(ZQ2 it),
mi.map,
ZQ4 ZaC,
hs₁.extBut,
aQ0.mp,
PySem.W.nsIn K · ·,
#[Q8,ZlF,·],
#[av,#[Q9,·],·],
#[Q_,·,#[pg,·]],
#[Q_,·,Zac],
#[Q_,·,(Zab (Zah · ·))],
ZoE · P0 lp ql,
#[Rc,H],
#[Rc,H'],
#[gK,ZhS->ZRe->·],
#[Rf,E #[aj,·] Zac H'],
#[Rc,H1],
#[Rg,cF],
⟨ZaF,·⟩,
#[Rj,ZaF],
#[mr,ps.take],
es++ZRl fb,
(es++ZRl fb),
(bd (ZRm)),
bo (bd ZRn) Zp3=Zbe,
#[fw,·] #[er,·]=Zac,
∀ [187],#[Rq,(Dj x y z),·],
#[Rq,(bQ B),·],
∀ B:HA,#[Rs,·],
u=Zho ·,
#[Ru,a],
#[x4,ZRv],
(.ListComp elt · · pos),
#[Rx,[⟨tg,bO,ifs,0⟩],sc],
(· X Zam σ Q),
#[Rz,EP],
#[xa,·,ZRA],
·*ZOR,
#[RC,(·*Zi0+·)],
#[pj,#[RC,·]],
#[RE,uM x],
#[dh,hy],
#[ka,· y ZRG],
#[RH,h],
[ZgP,ZwQ,·],
#[RJ,Zo3],
s.heap.IsTupleIter · · ·,
#[RL,i1,l1,·],
#[RM,k1],
#[RL,i2,l2,·],
#[RO,k2],
#[j_,Zpm],
∃ i σ' H',·/\tn i ·/\(ZRQ)/\·,
#[pl,H],
∀ σ H,Pv · σ H->ZRS,
#[Rx,[⟨·,·,·,0⟩,⟨t1,i1,c1,0⟩],·],
#[RU,t0,i0,c0,ZbY],
#[st,#[EA,·,·]],
#[RW,·,ZbZ],
#[RW,·,ZcQ],
#[RW,·,ZaT],
(Zab (Zf' ·)),
∃ o',· b=Zab o',
#[R1,ZOb],
Zi2 ZaD · · ·,
#[R3,TI,#[aj,i1],#[aj,i2]],
#[R3,TO,a,b],
(Zv8 k ·),
#[kf,#[R6,·]],
(backToKw · (keywordEach · ZaQ)),
#[R8,h_,[]].all (#[cV,#[fY,x.1]]),
ZrL<=·,
#[R_,50],
· C H b A bs,
#[Sa,iQ],
#[aL,·,q],
Zau g,
[ZSd],
#[xf,#[kI,·]],
#[Sf,hf],
Zck (ForInStep.yield ·),
#[Sh,r],
#[Sh,ok],
Zbo (Zbo ·),
#[Sk,Int],
[·,Ze6],
#[lQ,g],
{ cls:=·,dict:=Zac,data:=· },
#[aj,ZeY],
#[cp,·,ZvP],
#[Sq,Nat],
([]:Zei),
#[oV,show b∈ZSs from z,ZaV],
#[CD,ZSt],
(ZiE o Ze8),
#[cq,dH,s],
(ZSw g),
#[a_,·]->#[b9,·,#[bA,·,·]],
∀ p,#[Sy,p,p,p,·],
· == Zwl&&env.scope.kind == ZB1&&ZMY n == Zab ZeT,
ZaZ ZaI ·,
#[SB,a],
#[SB,b],
#[sJ,#[sK,·]],
#[SE,Zak],
(cw ZbG Zjn []),
#[pF,ZSG],
#[pF,(cw ZhB #[aj,kp] ZSG)],
·*u+·*v+Zeu*·,
·=#[SJ,3250076511083954176,ZOS,·],
fun g=>#[lJ,wr · g≠g],
#[SL,ZaI],
#[SL,w],
d/5%12,
#[hM,fM,ZcO,1],
ZiN · 0 lo,
(szL q),
#[h1,ZSR,·,·],
(x.rw e he h),
#[ST,0].1,
ZdS=Zen->·,
(az · H ZkH · q),
#[SW,·,Za'],
(hsb.2 b #[c4,neC]).trans,
(#[rU,·]),
#[SZ,ZpX],
#[jh,ZQ2,·],
#[c0,d],
(ZCF (aQf _)),
I1.fpOk (aQf _) ZS3,
#[pt,ZeX],
#[a4,ZS5],
Q () ZSn,
IntsAre · ns,
#[S8,vs],
[Zac,Zab ·],
#[S_,1],
X.pn++Zam,
∀ p∈ZTa,p.1≠·,
[Zag ·,Zag ·,Zag ·],
#[Tc,Zi_,bl,rs],
#[xS,·,st,ml],
#[Te,H],
fun (a:Addr)(e:Dt)=>·,
#[cg,(fun i m σ H=>m=·-i/\i<=·/\ZmI),⟨·,ZaV,Zcr,h0⟩],
Zap ⟨·,Zxq,(fun σ' H' p'=>cY (·-Zce) Zaf rfl v_ p'),(·)⟩,
(show · from ry),
#[Tj,#[Ru,b]],
#[aH,#[ew,·]],
fun _ _ e=>e,
(ZTm),
#[x',0].take,
(ZTo i),
(Zf' ·),
#[bB,·,ZlE],
(bQ A),
#[h1,ZTs,·,#[aj,·]],
Zem a=Zab ·,
∃ q,#[Tu,q],
#[kK,ZdV],
c≠z->c≠i1->c≠i2->ZTw->ZFA,
gz (bd es) ZDk,
·=Zck Zay,
(ZaZ ZaI g),
toS Zi8,
#[hs,ZTB],
(.dK (eQ · ZdY)),
(Zwd Zd_),
#[TE,0].is,
(getMethod · · pl),
· (toS Zi8),
(vi N vs),
#[ka,gG y rfl hy _ rfl ·],
#[n_,(· ZaD a b)],
fun m hn hl=>?_,
ao Zrx ZTL,
#[cX,#[fc,·,#[c1,·]]],
#[Os,ZmM],
#[ew,· x hx],
∃ (v:Zgj),·,
#[yh,#[TQ,·]],
fun q e1 e2=>?_,
ao hf.1 ZTS,
(Zho ·),
#[bt,·.get?],
Zbg h1,
⟨l,_,rfl,ZTW,rfl,_,_,rfl,_,_,rfl,_,_,rfl,rfl,?_⟩,
#[bv,a],
#[a4,ZES],
#[b9,Zaw,·],
#[T0,ZlR],
#[ml,ih],
#[gq,#[SA,k]],
H_≠[],
#[pr,h],
#[ge,by rw[rd]at h;exact ZT5],
(f,[]),
#[pv,Zak],
(bf r),
#[s1,ZSv],
(.pl (· gs)),
(cu c Zeo),
(u1.free b o e n hx),
(QV f).map,
(Zkk (ZoA a b)),
(i7 (aU ZaI)),
#[hO,ZUe],
#[Ti,·,·,fun x H' y=>?_],
∃ a,Zfb/\·,
Value.int i t,
#[Ep,(uj K),·],
#[Uj,Zak],
#[aH,(mu _ z).tup ·],
W i n σ' H',
!#[lJ,Zau ·=ZSd],
⟨_,rfl,_,_,rfl,rfl,·,rfl,_,rfl,·⟩,
#[Uo,ZaF,ZF0],
[lC 0 c,lC 1 c],
Zl4 (iP bs) ·,
(A.under (Zf' "type.__call__" ·)),
#[Us,⟨ZmZ::us,kw⟩],
#[cK,#[kS,w,m,Zai ls]],
lC ((ZSO+(1+ZE6)*(0+·))%12) c,
· a b c d e f g h i,
⟨_,rfl,·,_,·,_,rfl,rfl,·,rfl,_,rfl,·,_,·,_,rfl,rfl,·,rfl,·,·,rfl,·⟩,
au #[Ux,p,1,ZdH,p,0,ZdH,rfl,_,?_],
#[lD,· b=Zab u->·],
⟨#[aH,·],·⟩,
#[eV,·,z],
fun us s1 zz=>?_,
fun u s2 zz=>?_,
∀ d∈·,ZE4,
u.2.2.1,
b∉wr,
#[jh,ZCf,·],
(ZgU e),
#[c0,g],
#[fI,1],
#[kD,·,ZaN],
(jC d),
(RN x),
#[jk,Q · H'],
ZDZ Zau,
s _ _ z,
#[gY,ZcS],
(bf w),
#[my,ZOi],
wpAny_loadPart_at · ?_,
#[ba,·,·,[ZdC],·],
(ZgI L),
X.fn x=Zad,
aXg _ ZaG,
aQ9 _ ZaG,
· ZdY a b,
#[Sm,ZdC],
#[oj,ZaJ]/\·,
(ZgR s2),
(t1.same s2),
ZB3 y=Zab ·,
#[hV,ZEk,Zea],
(toS (fM l)),
(va 0),
#[Fy,es],
#[Q1,Zdx,Zv_],
Zhi≠Za1 ·,
#[cK,[p.1,p.2]],
Za0 (#[Tg,·]) as ds,
#[B4,c≠b],
(tK P0 aO aI cF · · ·),
#[f6,(· Zho)],
lt x y=Zad,
Zgf 8 ZgT,
dncE es bs f=·,
(10:Int) ^ (18:Int).toNat,
#[cV,32::tx x],
{ worn:=·,hold:=·,circ:=·,deeds:=ZlA++[·] },
(toS Zi8),
(.dT (B8 ·)),
Zko · c hc,
aZT (fun W_=>#[oR,W_,·]) #[eC,·],
PySem.W.codeIn K i_ ·=Zad,
(w0::ws).map,
#[o6,·,b≠·,ZdW,Zfa],
(ZDJ (dH s2)),
#[gW,lh,#[bT,Zdf]],
¬ (#[av,·,48]/\·≠[48]),
(bg (wu Zbw · ·)),
(rj · (toS Zi8)),
(dE 0 _ _ · · #[Sf,·] w0),
(excClassObj nm · C N bs bm hdct sn sub ab col dd k0 k1 k2 k3 k5 ·),
¬ Zcv,
(#[kE,·]:df),
#[b5,·,·,Zbe],
#[b6,e],
#[iF,ah · _ _ z],
#[bF,Zac],
#[gV,0].take,
#[ex,aQI,·],
fun u eu ru=>?_,
(by rw[z,·]at e;exact ·),
Zab m,
· (#[e2,·]),
· (fun j=>?_),
Zb8+1,
Zwu+1,
Zai TI,
(Zag _),
#[bt,K_.get?],
#[a_,T],
#[oj,ZaJ],
r5 a b,
#[a4,ZDM],
#[a4,d+1],
i<Zep,
b∉ex,
#[bK,ZFS],
#[eC,ZaK],
#[eC,True],
#[hN,ZoX],
#[cu,e],
Zap ZpN,
#[sC,t3],
#[xj,np],
#[hT,ZUc],
#[bB,ZNT,c],
#[dM,·,Zen],
#[Rz,TP],
#[Rf,#[kL,·]],
(Zag b),
(ZvV x c e),
∀ x c,#[bB,ZNU,c]->·,
#[pS,h],
#[mQ,ZjE],
41::ZdX,
.at (Zah ·),
#[xC,#[sJ,·]],
(R7 (oU bI)),
(R8 (oU bI)),
#[x6,5],
#[te,Z9],
(ZrT st d),
#[Fd,ps],
#[SQ,n],
#[SQ,ZaJ],
(ZiM ·).all,
cJ (ZRm),
Zde+i,
⟨ds,N⟩,
#[yn,hl],
#[yo,x_],
(Zxi,ZaN e.l),
(dncE es bs f),
Zag · ZbX,
sE v=Zad,
#[wo,#[oj,3]],
(Fy h H),
k=Zad↔d=e,
aXg _ Zaf,
iQ C H' b A ·,
(iX Zfx w),
YP w h,
(Zhj S n),
#[kZ,ZdB,Ztp],
On c ck H k A · B st,
h.Ns N mN,
(exOb C t Zac),
· Zcl X.w X.K ZcA Zhq · · · ·,
wF B Zdv ea Zjr od ·,
· (Zdd▸hb),
· (Zdc z).symm,
Zm0×ZbQ,
Ztt/\ZT4,
(lH a b).2,
fun kv=>if ZsI=k then · else kv,
∀ (cl:Zpb)(C:Addr)(s:Shared)(H:Hp)(ex:Zei),·,
[ZgP,ZwQ,·,·,·],
fun j:Nat=>#[Uv,ZkX],
UE H u,
(p::ps),
((p,w)::P.zip vs),
#[bd,si,g],
JH y x,
k _ _ x.tt #[Ul,x.tt],
az #[aj,·] _ (·) rfl (q _ ·),
(Zoh · env v),
ZaB · (ZaB · Zan),
ZiN n n hi,
aXd (lI I hg hm · ?_ ZaG ZaG),
(hi-lo).toNat,
1<=ZbN/\Zyd,
(#[EZ,CX,ZbY,·,s,H]),
(ZcJ (Zag ·::·)),
ZeX<=64/\∀ g∈r,ZdG,
(lH a b).1,
#[pM,PG,tg,g],
#[pM,TB,ifs,tt],
∃ a,Zfb/\Zg2/\·,
fun p=>#[lJ,p.1=g],
BP x.ta k mu,
Oc rfl (k H' g t),
[ZwK,ZwL,ZwM,d],
I.lset (its':=·) hH e · · ?_,
(.dT (B8 (gR es))),
bZ (· _ s10 σ9 H10 _ I10 Y_) ·,
· Zam s1 σ H1 · · Q I1 r1 q1,
· · Zam s1 σ H1 · I1 ·,
(ZDi lo hi 2).toNat,
fun f a b H' g=>· f a b H' ZSx,
JY Zbx ZbY s f c' y cy,
GU cb cF cU cB cT P0 lp ql · · Y bs w z Q E,
(fun _ s'=>·),
((by size_fits)),
·=Zaw,
ZC3+·,
#[rU,ZpX],
#[rU,Zty],
#[bk,Zae],
(ZaF:·),
f.nw.1,
#[gH,Zx7,·],
#[eV,·,F.len _ _ _ _ ·],
#[iF,z],
#[bc,ZjK],
#[bF,Zay],
(0:Nat),
(u:Int),
aQ6 ..,
#[gJ,aQN],
#[gc,?_],
#[f9,#[TP,·]],
#[ex,·,· fs],
(by rw[isSubtype_type];kernel_rfl),
fun bm N nm a_=>?_,
fun b y e=>?_,
∀ g m,#[tO,g]->·,
#[st,#[lL,ZaC #[c2,·]=ZaC (Za9 ·)]],
fun x c h=>?_,
(Zhx,p),
#[gL,#[Vn,·]],
∀ (HK:Hp),Zfi->·->Qf HK,
#[oI,·,c<128],
fun u2 h2 t2 p2 k2=>?_,
fun f hf=>?_,
∀ [348],ZGi->·,
#[Ec,#[lL,ZaC #[c2,·]=ZaC (Za9 ·)]],
#[U3,0].free,
#[UI,0].head?,
∀ p∈ps,Oo p,
fun lw hlw=>?_,
fun qs hq hqp=>?_,
fun lq hlq=>?_,
fun t1 ht1=>?_,
fun l1 q_=>?_,
Zab 1,
Zab ZyL,
#[aj,W],
Zbo β,
Zbo ExceptHandler,
Zbo GQ,
ZeZ+1,
Zai ea,
Zai ZyN,
(Zah _),
(I1.tok _),
(C6 _),
(I2.tok _),
aQc s1,
aQc s2,
aQc s3,
aQc s4,
aQc s5,
aQc s6,
aQc hm2,
aQc YO,
aQc YQ,
aQc YR,
aQc YD,
aQc q.1,
aQc Zp9,
Zah d,
Zag r,
aQd hm2,
aQd le,
#[cp,Zeh,·],
ZD9 z,
b≠it,
#[aR,h],
#[aR,#[b6,ZoO]],
#[gi,aA],
#[a_,Zaw],
#[a_,ea],
#[oj,ZiK],
#[oj,Zf7],
#[oj,Zos],
#[oj,ZoJ],
Zap h,
ZvJ h,
ZvW h,
aZb.mpr h,
ZQ7 h,
ZrW h,
Zbh h,
Zox a,
#[bv,m],
aG H H2,
#[b0,·,#[O2,·,·]],
Za2 Zhk,
Za2 Zel,
Za2 "slice",
#[fF,Zpe],
f.nw.2.1,
Zal #[e_,·],
#[oR,w.symm,·],
aQc (#[aH,·]),
ZDL e,
#[mc,ZcT],
ZiA GenState,
ZiA DictEntry,
(.dK kv),
i<ZiK,
#[je,ZO4],
#[je,ZO5],
#[cD,List.getElem?_take_of_lt],
#[cD,aQe],
#[cD,aXK],
ao (PySem.W.any_some ·) ·,
x=ZaK,
Zdu x,
p.2.2.1,
q.2.2.1,
#[mi,Za7],
b∉Zj7,
aQb _ #[ms,#[ms,·]],
#[bK,r],
aXA ?_,
JoinedStr_many ?_,
aQx r',
aQx pc,
aQx hqp,
Zox b,
b∈ZlZ,
Str->Zd4,
#[o',Tok],
#[c0,e],
#[go,It],
ZEI::r,
(k,x)::r,
#[gq,#[Un,·]],
Zap rfl,
g∈Zg9,
(Zag a),
#[d6,Ze8],
u.len (iP bs),
#[D_,hp],
2 ^ 62,
#[rA,hi],
#[rA,hx],
#[rA,he],
#[rX,hv],
(Zah i),
(bd ds),
(bd []),
#[dk,he],
#[dk,hz],
#[ph,3],
#[eD,ZP1],
(AX d),
ds≠[],
Zap ZRk,
ZPr Zau,
10 ^ 100,
s _ _ e1,
#[gY,o],
#[gY,Zp_],
32::bf z,
#[d3,V,V],
#[kG,Zkz<=60],
aQk hQ,
aQk Zh7,
aQe hc,
#[e_,z],
(ZPL x · ·),
lC k c,
⟨_,rfl,_,rfl,·,·,·⟩,
Zal (Zap ·),
n _ rfl,
#[hT,ZVq],
#[bB,ZB3,c],
qs.map ZaN,
Zdc hc,
ZC6<=i,
Zrv=[],
d.params.defaults=[],
(kV k),
#[xr,d],
#[pq,Zr0,·],
k=Zay,
#[gw,·,ZeQ,·],
#[gw,·,Zd2,·],
#[gw,·,ZbG,·],
#[kM,Zkz<=60],
#[hY,ZiW],
¬ m=Zki,
¬ m=Zkj,
¬ m=ZlW,
¬ m=Zov,
lN vs H Q E,
zh vs H Q E,
ZdS-i,
#[ps,Zsc],
#[o_,x,#[er,"__classdict__"]],
#[wp,12],
#[wp,5],
#[ff,s],
#[ff,s05],
(eV c a b),
#[oS,h2],
tn i ZaD,
#[xx,Zqb],
#[xx,ZGj],
#[pA,Zp4],
#[pA,ZtE],
(cw · #[aj,·] []),
#[jt,Zov,·],
ZgO s3,
s02.trans s3,
Int->ZbQ,
i=ZaJ,
(i7 l),
(dj _ ZaV),
(dY _ ZaV),
(dY2 _ ZaV),
#[sM,d_[i]?],
#[xD,Zjb],
aQg hc,
sc.isCoroutine=Zay,
sc.isGenerator=Zay,
(Qu K),
fV c=Zad,
pN c=Zad,
#[h4,h1],
#[h4,ac],
#[qc,i]<=ZbE,
(eI z).symm,
sG x=Zad,
#[aW,·,[·,ZbP],·],
wr w g≠g,
∃ t,u=ZUi,
#[sR,e],
f∈us,
t≠it,
(aXx ?_),
#[pR,dx],
#[jA,ZyV],
(KS ck),
#[mU,ZUu],
#[mU,ZUM],
#[aP,l,ZEl],
#[OY,Zf5],
#[mW,aQk],
#[mW,aZJ],
#[xC,ZaA],
#[xC,ZaO],
#[jH,Zyi],
k b ob q,
-(2 ^ 64),
#[Sa,Wx],
#[Sa,Wn],
#[sZ,i1.pos],
ZN4 hk,
Zhv<=100,
(ZrN ·).sum,
#[RE,uM y],
I7.base.there b o e hx,
Kp F H H',
Kp fp H H',
#[Sk,Nat],
#[a_,·]->Zb_->·->#[d9,·],
#[Rr,ZDP],
#[Rr,Zro],
#[Rr,Zrp],
n9.mp hx,
#[E0,Zn7],
#[R7,fs],
#[Sq,ZO9],
#[Sq,(Zpf)],
#[s8,u],
(Ou K a),
#[Ex,· (ZoP z)],
aq ac hc,
Zbo (ZfW V),
ZM1 b o e n hb hx,
I7.base.slot b o e n hb hx,
aQC hu,
ZlY<64,
[e,it],
#[E8,yW g],
(#[Qj,·])=_,
#[m9,h],
dh H' l r,
X.A.in1.units+n<Zj1+1,
#[yf,k],
#[Ed,ZbS,·],
ZQ7 nd,
α->β,
(gR ds),
cJ (ZFW),
s1 _ _ ob,
(x::os),
es++[d],
ds++[d],
vs=[ZeG],
(cu c ZGq),
#[gs,ZFL,x,m],
#[gs,ZFZ,x,m],
#[Fq,ZPr],
(ZB5 b o e n hx),
Zem S,
nV.mp kn,
dx≠x,
#[Fw,6],
aG H1 HK,
#[FB,·,Zht],
#[EV,#[d9,a],Zjw],
#[yy,ZbV],
Int->Int->Int,
#[S_,0],
#[RT,ZaJ],
#[Te,H'],
#[FP,#[tA,·]],
#[FQ,2],
Le H F,
(Os h a),
aX K H p xs,
aZw F.entry_extend_loop ?_,
aZw F.entry_max_loop ?_,
(Fy Zkg H),
vs=[Zai e,ZeG],
yp f g m,
(x a o e),
bZ (ha Zam s σ H _ I h) Zju,
#[yY,iE],
#[hZ,Zoz #[aj,z] 3],
#[hZ,Zoz #[aj,z] 2],
#[yz,hz,ZjL],
FB w k x os j,
#[yH,he,q1],
#[TH,bf],
#[TH,Ln],
aXU i0,
s'.os=s.os,
x.n=ZDM,
#[TK,Yn],
#[Ge,ZFv],
(PySem.W.methodObj #[aj,f] ·),
aZd aZg _,
aZd aZl _,
#[hW," ",1],
Ru L es,
Of L st,
UA L st,
(hk b o q),
xI · g os Zdp,
f8 c ck ze H e A D B ZgZ,
⟨o',ZSY q⟩,
⟨sl,ZSY q⟩,
Mk X.K C f,
Zw8 K · #[cd,2,60],
bindL Zoo · m x,
bindC Zoo · m x,
Rd H a (.dK kvs),
Rd H a (.dT kvs),
#[Uh,Zg2],
#[M',ZyF/\· σ' H'],
#[FY,u.e,·,Zag ·],
#[TJ,#[Rj,#[aH,·]]],
#[TJ,#[Rj,ZfO]],
Ov s H H',
#[Ur,Zys],
Nat×Nat,
ZCl Zhq ·,
[e2,ZF5],
x == n,
(qR W i).2,
#[UA,Zae,·],
(aQw h1),
ZiW ·=Zab o/\ZyW/\·,
au #[p0,ZDI],
(Zde+i),
#[aP,x,o],
PE X ZFk (tC v),
#[bA,x,o],
#[jd,ZGc,(gU)],
(Rr cn).1,
uN c Zeo,
¬ q.1=k,
#[lJ,y=b],
(rn ks b),
#[e9,Zaq,ZaA],
#[UU,hC],
min v.toNat n,
(aL d8 Zaq aj),
#[pK,t,ac],
#[U5,cy],
aQa (aXw hS rfl ?_),
ie Zca Ze3 g,
#[Tl,ZoP z],
#[F2,H,H_],
G.sm x m h,
#[Vh,es],
#[Vp,Zbx],
#[Vw,wd],
Zem Zaw,
ZvW hq',
g.ins ZiX,
KasT α,
(#[O7,e]),
Int->Int,
z∈ZwG,
a == b,
ZiO*ZrI,
(ZGy:ZhX),
⟨q1,ZF6⟩,
(m g).mp,
∃ w,f=Zd1 w,
(ZD1 s4),
ZOn b=Zab o2,
(t::ts),
((n,c)::cs),
l.most=Zab n,
ue a S1.cs,
#[oj,#[bc,ZEU]],
PE X (.JoinedStr · pos) ·,
h x aQi,
#[bA,d,u],
ao S.d ZF_,
PS X st t,
(aQa (· (· ?_))),
#[d',a,ZkF],
#[fc,q2,hsm],
#[pq,ZOn,Zp2],
ZaZ l h,
#[h0,(Q0.1++db Zca g Zeb)],
upd · B.h #[bT,·],
#[iZ,ZlS x,g∈Zqp/\ZdG],
u9 ci a,
#[pP,e,oe],
aK (id w_) fun o e c d=>?_,
Zhi=Za1 vs,
(jW hu Zak ZEr ZEo),
PA X [a] ta,
(bO Zgv i g),
(lK · Zmm rfl cz ·),
eQ cs ci,
m3 t ht,
(bd (ZwI i)),
wU d _ rfl,
G_ b o hf e (ZB7 b hf),
Za3 #[Ve,k_.map] c',
#[F4,H,w_],
Zom+1<Zj1,
rM H c' Zbx,
#[jp,q,ah hp _ _ hq],
(wM xs lo hi),
(aN · (af (eC · dN rfl ZCr rfl · (jX (c6 ZyS (c6 ak ·))))) ax),
#[yI,ho,q1,ZUD],
#[Vo,ZcE,?_],
[-1,0,1],
vp c ck ze H e A D B st,
(ZgN bs w f),
bA C H' p A st,
0<=i/\i<62,
bA c.C H p A st,
Zhi=Zdb es ep,
hG f N ks S,
r.inj r',
AutoSeq1.wpAny_loadPart' et,
(∀ k,o≠· k),
(fun j t e=>?_),
Zbq×ZSl,
#[bB,·,ZeT]\/#[Fx,·],
u=Zj9,
k_.length=ZoJ,
ZoJ<xs.size,
#[iZ,·,g∈L],
[Zjc,Ze5],
[ZP5,ZDz],
[ZeR,ZDv],
(b x hx).2,
(x.r e he).2,
⟨AG g,ZF9⟩,
∀ x:Int,0<=·/\·<·,
∀ (i j:Int)(t u:Tok)(s:Shared)(Q:ZfG)(E:ZfG),·,
#[cV,⟨ZUY,ZUZ⟩],
∀ w' s',·->·->Q w' s',
{ s2 with heap:=h',toks:=tk },
∀ x∈S,f x∈S,
fun b o z nb=>#[ch,nb,·],
fun hd H2 s2=>· f hf hd H2 ZVs ZU4,
(ZEj ZaN),
(· (ZgM ZFr)),
fr4 (sM.free ·),
(sz _ Zaf),
ZaB _ t,
aQd ⟨kn,le⟩,
k H ZPT,
#[Q9,x]=Zab Zs_,
(S++ZjM),
PE X e2 t2,
Zkm x m,
vs=#[cd,·,c],
Zag y u,
bL bs u,
operate · (ZCs · ·),
ao I.look fun od J hl=>?_,
#[bd,·,l]=Zb8,
Ld X E,
· a=Zab #[h0,y.2],
#[cg,t1,t2],
(DX H a),
#[kD,Zi1,Zhz],
#[wo,ZFv<=2],
(aB Zak bz),
aX K H t xs,
#[d',lw,ZtK],
#[wh,#[S1,z]],
Zhj S n,
kY · fs=Zac,
#[ba,·,·,[ZbG],(· c)],
(es++ZCU i),
az ZaK _ (·) rfl q,
gf K C f,
#[pI,a,b],
(d::l).map,
(q::qs).map,
aK (id p) fun o eo c _=>?_,
V->Zgl->#[c5,Zgl,Hp,VK],
Zww I7 n7,
#[bi,·,[ZbG],(· c)],
bJ (kV k) u,
bZ (hi Zam s σ H _ I h) fun iv s1 zz=>?_,
#[dy,· b o #[c4,s0] (aq e ·)],
gR (ZwI i),
#[tv,#[g4,n,z,aQj.mpr rfl]],
#[gs,(kf ZaI g),x,m],
bf #[c2,")"]=[41],
(aQu (aQD hc ZtJ)),
[Zag #[ji,ZUS],#[jj,Zdm],#[jj,ZgT]],
sL ZwP p.of,
⟨ob,h1,h2.2.1⟩,
Zb3->Zgk->TS,
[Zai t2,Zai t3],
#[mn,fO,(wu Zaq Zbw (ak))],
bO Zca j g,
#[FC,a,ma],
#[FC,b,mb],
w∈[#[er,ZaE],ZaT],
#[kf,(· #[bk,·++bf q])],
(f.gs.flatMap #[E8,yW g]),
#[yQ,·,·,ZxG,·,(jC (fb e))],
0<=j/\j<62,
b=e\/ZjI,
ZNA vl lo,
ZNA vu hi,
(f v u),
WI (H x),
ZiN · 0 (Zab ·),
(k _ _ Zgt e),
gQ kvs k=Zac,
#[pV,(setFlight #[aj,e] Zac)],
#[Ff,ZQ2 #[aj,z]],
jG H' d bs tv,
[Zag #[ji,(bf ZbH)],#[jj,Zdm],#[jj,ZT9]],
[Zag #[ji,(bf Zmb)],#[jj,Zdm],#[jj,ZgT]],
(#[o7,Zd8,·,Zg5]),
nf us hd,
DY st ml,
(jE es Zjb),
(upd H7 d #[EY,ZFn,(ZmH,v)]),
aQ (k2 · H1 s1),
ao (ZN3 hx) ZF8,
#[a5,ZVt,x,ZEK,·,·],
#[bd,bf,z]=ZbN,
⟨_,rfl,·,Zal #[dk,·],?_⟩,
Za0 (bX n H) as fs,
(sliceBounds lo hi Zac n),
#[Vv,Zfh,ZjF],
Zhw*·+·=ZCW*·+Zeu*·,
hf it ZaV,
⟨e,·,_,⟨_,_,_,h0,·⟩⟩,
mw Zdv=ZdT::Zx8,
#[aM,en,iS di hj],
ao (xA h) fun ds N e=>?_,
Rd H a u,
#[o6,Zd8,Zyr,b≠k,·],
sp e (aQC he),
(put (put wl a zb) b za),
(Zm8->x.r=ZDl),
gQ kvs k=Zab v,
ao (hl i x v · · ·) fun u r l=>?_,
qe Zcl X.w H6 h',
(k B H' (#[F7,x.gk g t])),
(fun x1 x2=>x1++x2),
h.Ns1 dx mA,
[a,b,c],
∀ a,Zfb->Zg2->G,
∃ u,Zem e=Zab u,
∀ f,ZVg≠Zab ZT7,
#[dy,#[dz,#[pS,·],#[pS,·],e]],
#[bn,(#[dn,Zay,!·,·])=#[lJ,·],·],
#[gc,· g (p.of.1 g hg)],
∀ o' u',·≠Zab (ZiE o' u'),
(by have:=#[pD,·,·];rw[m4,·]at this;exact ZbR),
fun hn=>Wv · #[eq,· T U VM UO h · · Zaf ZT2],
(lE (toS Zi8)),
· (yM (xs:=·) · · pl fun I' St s2 I_ hI W st kp fin=>?_),
·.on (sH Pw),
aQd ⟨ok.1,Zqh⟩,
(· · (Vd hr ZaG)),
#[er,·++Za9 ")"]=toS ·.txt,
aT X · σ H s,
#[oR,⟨ZaX,ZaX⟩,c],
#[aW,N,ps,st],
e=x\/#[aP,e,ZtN],
w=ZaE\/w=ZaT,
⟨_,rfl,_,rfl,·,_,rfl,·,·⟩,
bA C H p A st,
·.txt++r=40::(bf ·++(·++41::r)),
k b o #[bC,hc (by simp[z])] e,
aZ P w K mg ZaS eR c.C · 1 · (· c.C),
#[mR,bo st (Zi' g)],
cR K C m q st,
(vd st ml d),
PS X (.Raise #[fI,#[EN,·,[e]]] Zac pos) ·,
#[FK,⟨xs,q,ZaX⟩],
#[Th,n,n,n],
#[Th,ZaJ,ZaJ,ZaJ],
k z0 z1 z2,
k HK t1 x_,
aXd (lI I hg hm hv ?_ hn S_),
tY w i j,
#[gH,[Y1.d1,Y1.d2,Y1.d3],·],
eJ (zk hw) fun w1 w2 w3=>?_,
(e1::e2::es),
#[ti,_,_,rfl,·,?_],
Za0 (Fb H) ts xs,
⟨_,rfl,_,_,rfl,rfl,·,·⟩,
∀ k,0<k->k<m->bO f k g≠g,
bf (xy w z),
aQa (aXc he hd h1 ?_),
⟨_,rfl,p,c.C,dx,_,rfl,#[qn,·],ZcY,·,#[wo,·<ZbE],?_⟩,
⟨a,b,c,·,e,f,g⟩,
PE X (ZcN (Zeg · p) [] [] pos) (EO · · [] E0 rD),
Jt ZaD x dx C mA,
#[rr,ZdI/\Zgu/\ZkU],
⟨ZaX,#[wo,1<=7],#[eC,·]⟩,
#[n_,(s1.heap.push (revObj a ((ZiO:Int)-1)))],
yx (st:=bd (ZRm)) he,
∀ {f':aA},rdF ZVl=Zab f'->f'=f,
(Yk r ta tb),
qq (Fj he) fun j h1 h2 h3 h4 h5=>?_,
aQ (k H ZPT),
k1 S _ nW hS,
#[lJ,#[av,N[j]?,p.1]/\ZOX p.1=Zab Zf5],
yz bs w=Zab e,
az ZSp H6 J7 rfl qn,
#[mR,ZgN bs w f],
eJ (#[mx,·,·,ea,·,· ea _ ·]) fun a_ _ _=>?_,
(Ro h p d b),
⟨m1++m2,#[bm,e2,Array.append_assoc]⟩,
(gA Zcl X.w z t),
(ZOE x c hfn hc),
sy (ZlH p hp) fun e n ne nf d=>?_,
em (ZSO+(1+ZE6)*(0+·)) 12 ZaG,
⟨_,_,rfl,rfl,_,rfl,?_⟩,
⟨_,rfl,_,·,·,rfl,·,_,_,rfl,rfl,·,rfl,?_⟩,
ZGg/\Zyd/\(#[oI,bf z,vb c=Zad])/\#[Vu,#[gT,0].head?,bf z],
s.heap.IsSliceOf sl vl vu Zax,
#[et,cw f v ((k,x)::r)=(#[fL,k,f,(k,v)::r,(k,x)::cw f v r])],
[ZgQ,Ze6,Zjc,Ze5,ZbP],
PySem.int_text_length_le10 (a:=i) (k:=100) ZaG hi,
(Gu c ck ze cb),
(f ZyD (Zah j u)),
jD (FA h1 h2) fun k0 k1 k2 k3 eu ev eD ee=>?_,
#[ti,z,a,zl,al,ZDa],
jT v σ' H' · r q,
xN r · _ (fun g hg r hr=>·) (by have:=wV · ·;rw[aQl];lia),
(#[FM,items.toList.drop,sIx,Zf7] (ZF1-Zyg)),
⟨a,b,·,·,z4,z5,z6,z7⟩,
⟨_,rfl,b,cb,ZcW,_,_,rfl,·,ZfE,·,·,_,rfl,·,_,rfl,·,·⟩,
OV lk Z_ S len fun A outer s H vs Q E hr hsp=>·,
hx Zam σ · · e s' · hq,
(Yy X Zam σ tg R),
#[cf,(Zfr C ZcW (Dj #[aj,Zez] #[aj,ZeA] #[aj,ZhA]))],
Zww (Zou ZRV · it acc env),
CmpOf ZlB w ZiU .Gt P bt,
⟨I',_,_,_,_,St,·,rfl,W,st,·⟩,
⟨·,·,·,·,#[rZ,·],#[PF,#[fc,·,ZST]],x.nd,x.ln,x.d12,x.d13,x.d23⟩,
bZ (sj (X:=Y) I11 hys ZiP ry) fun _ A_ I12=>Zww I12 q11,
E9 c H p A st · Q E,
k z0 z1 z2 z3 z4 z5 z6,
⟨_,rfl,_,_,rfl,rfl,·,_,_,rfl,rfl,?_⟩,
CI M G hr hg · hb Zan fW,
k z0 z1 z2 z3 z4 z5 z6 z7,
iZ PySem.F.plainAttrs_str · · · ho (aB he bz hs) u_ aq7 D_ hs z_,
Walks ZlB w ZiU I fp wr n P St,
⟨_,rfl,_,rfl,_,rfl,_,rfl,_,_,rfl,rfl,_,rfl,z,rfl,zl2,rfl,_,rfl,?_⟩,
ij K mg w c cq cX ck cb ze dl y0 y1 cB · cU cL cF · cs ·,
(Ef CX P w K mg ZaS ZyB Zbx ZbY f c' y cy A Zcm s H E),
au ⟨_,rfl,p,_,1,_,rfl,rfl,ZdH,rfl,q,_,rfl,#[pB,e2],_,rfl,p,_,0,_,rfl,rfl,ZdH,rfl,rfl,_,rfl,?_⟩,
X.A.units,
Zain+n<Zj1,
#[hy,Zain+1+n<Zj1+1],
sysModules,
#[o_,·,Zaiq],
#[air,a],
us'.length,
∀ b∈B.fp,·,
∀ a b c d,·,
∃ a b c d e,·,
∀ a b c d e,·,
Value.float,
us[i]?,
(by simpa using h1),
bK.append,
xs.drop,
Un.kept,
ZaiD hk,
fun b u q _=>·,
#[aiF,⟨u,ZFa⟩],
fun b u xs q=>·,
PySem.W.hideAll,
aZp.mp,
aZp.mpr,
PySem.W.hideAll_none,
X.env.scope.kind,
X.env.kindOf,
s.heap.Ns,
X.base.get?,
#[pq,ZaiP,·],
X.K.In,
I.ok.funs,
Heap.get?_none_of_le,
fun b xs e=>·,
I.base.tups,
I.base.frzs,
u.free,
u.there,
I.stkSub,
{ s with toks:=· },
#[ai0,ZpE],
spliced,
fun σ H Q=>·,
#[ai3,· σ H ·],
#[ai4,·,#[M_,·]],
#[ai5,ta,·],
#[ai5,te,·],
#[ai4,ty,fun y H1=>·],
#[ai4,t,fun c H1=>·],
#[ai4,t,#[C1,·]],
fun _ H Q=>·,
#[ai',Q · H],
I.ok.blt,
compareOp,
uZ X (Zajc ·) ·,
#[ajd,·,(T4 #[lP,.bl (ZlI (·))])],
#[ajd,ZCz,·],
o.dict,
X.wish,
(Zajh E),
fun σ' H'=>·,
pos.line,
ZgI Zajk,
σ[i]?,
fun s3 I3=>·,
I.tuple_inj,
T.done,
#[Fj,Zajp,[],stop],
T.item,
#[Fj,Zajr,[],go],
I7.unpinned,
i.natAbs,
Zaju<10 ^ 100,
Zaju=0,
getAttr,
List.lookup,
Zajy · ·=Zab ·,
e.trans,
aQm.mpr,
PySem.W.emptyDict,
"bool",
PySem.W.specialIn,
I.ok.mod,
I.stkFree,
.of_eq,
ZajH rfl,
PySem.W.callWith_K,
N.length,
Builtin.Slice.slicePlaces,
ht.typeIs,
Subscript_,
s3.toks,
s5={ s3 with heap:=h4,toks:=ZajO+#[ED,Zs5] },
wY (h':=h4) I3 hso S q1 q3 O_ aq3 (by simpa using aq2) kp4 (ZajO+#[ED,Zs5]),
typeIs_str,
(ZajR _ _ _),
typeIs_int,
I.write,
Builtin.List.listTooLong,
"list.append",
kvs.map,
z.symm,
o.isSome,
o.getD,
vs.map,
Nat.lt_trans,
tupleKind_room_in1,
rel.put,
rel.length,
d.name,
mg Zaj6=Zab #[aj,fa],
if · then none else ·,
(by simpa using hk),
Eq.trans,
Zaj_ ih ?_,
S.nocell,
σ[j]?,
(by refine ·;exact ·),
bs.getD,
#[iH,Zakd i Zay],
(by simpa using e1),
X.A.in1,
out.toList,
RD.inj,
"__length_hint__",
xs.reverse,
if · then · else 0,
z.symm.trans,
m.erase,
List.length_pos_of_mem,
oe.cls,
oe.dict,
ob.dict,
fun b o q nf=>·,
#[aks,?_],
o.slots,
⟨Zaku,·⟩,
Obj.data_mapFields,
"__setattr__",
.ellipsis,
PySem.W.Looks,
codeAny_call_builtin,
fun b o n q=>·,
T.keeps,
typeLookup,
ZakD (Za2 ·) · = Zck Zac,
#[akE,Zf2,·],
"function",
PySem.W.typeIn · ·=#[cZ,Za2,ZakG],
oI.cls=Za2 ZakG,
fun b o e n hf hx=>·,
{ s1 with heap:=· },
z.elim,
strLen_append,
ZakM _ _,
fun a q z=>·,
⟨as,·,#[j5,p,#[akO,·]]⟩,
∀ x∈ci,·,
ml.length,
fun g m h=>·,
show · by simp,
X.tried,
I1.untried,
I2.hok.fresh,
ZakW (aQf ZeY),
.compStart,
(by rfl),
(ZakZ),
(bR gS Zak0 T.tuple aXV ·),
(bC (· rfl) Zak0 · · ·),
(kZ Zak0 ·),
(bC · Zak0 T.len aQ4 ·),
#[ak4,bU,·],
#[ak4,mj,Zmg],
(bR sk Zak0 T.str aX8 ·),
#[ak2,pK,T.all,aZx,·],
xO (v:=Zai ·) Zak0 · rfl,
#[ak5,Zmg],
ps.getD,
(by simp;lia),
(Zala),
fun x c e=>·,
#[alc,?_],
∀ x∈ks,·,
∀ p∈ml,·,
∀ d∈ds,·,
Int.sub_mul,
Int.toNat_of_nonneg,
n9.mpr,
P.ring,
P.ord_le,
18131465553559158967,
11281517459552600064,
e=#[SJ,Zalm,Zaln,·],
-317073092351089884073562638,
-490739042303951060969702305,
7683057188801249888269000591591303500,
1000000000001,
Zn8<=·/\·<Zals,
es.toList,
Zalu=ZrK (ZOU (Zwd Zd_)),
Heap.SameBut.update,
vs.getD,
Zalx · Zax=·,
fun b o e n _=>·,
fd.code,
s₁.heap.Ns,
failedOf,
ps.drop,
if · then · else es,
l.toArray,
Txt.split,
Builtin.Str.strKind,
ZalH x,
x.cps.toList[i]?,
Nat.toDigits,
Nat.digitChar,
z.cps.toList.length,
ZbN=ZalM,
ZalM=ZbN,
rs.take,
fun H5 s5=>·,
"StopIteration",
.of_wp,
Heap.IsTuple,
fun i h h' st k=>·,
s1.heap.IsTuple,
wpAny_newTuple,
F.args_zip_next_1,
h'.IsTupleIter,
ZalY · · ·,
#[alZ,i1,l1,(k1+1)],
#[alZ,i2,l2,(k2+1)],
hs₄.extBut,
hs₂.extBut,
∀ t∈k_,·,
arr.push,
Heap.size_update,
f.gs.length,
∀ [239](j:Nat),·,
fun b o b1 b2 z=>·,
wpAny_rule,
#[xw,Zal_,·],
fun vs H Q E h=>·,
#[ama,?_],
bX.mono,
aA.rowF,
aA.dt_inj,
fs.foldl,
fs.countP,
aZM.mp,
aA.row_lenL,
List.take_append_drop,
e2.mono,
aA.row,
(Zaml fs),
wpAny_mkStr,
z.cps.toList.drop,
"no: ",
JoinOk,
as.length,
"wears ",
if · then · else none,
#[amt,·,Zab ·],
#[amu,iD ZU7=Zad,(Zd1 (toS (fM l)),ZcO ZFs)],
l.head?,
#[av,Zamw,·],
#[amx,40],
Zamw≠Zab ·,
#[amx,32],
intKind,
(ZamB P w),
bH.all,
gs.flatMap,
f.txt.length,
ZamF<=·,
#[amG,150000],
ZamF+1,
#[hs,ZamI],
200000,
"(back ",
"(row ",
h1.symm.trans,
ZamN e,
joinParts_cons,
"none",
"none 0",
"no: Unknown",
x.td.h,
x.md.kp,
x.bk.f1,
x.bk.f2,
x.bk.f3,
"mask",
[ZfC,Ze1,ZamY],
"deed",
"ring",
[Zam1],
"_law_deeds",
"_law_first",
"_law_guests",
Tr.refl.upd,
sT.trans,
s4.free,
g6.trans,
A_.free,
show · by rw[·];rfl,
UO.f.nF,
UO.f.nR,
fun kn H2 s2=>·,
0,
B.mono,
Zane s1,
s03.trans,
s03.free,
s05.trans,
fun i σ HH _ ·=>·,
E.same,
"pairs_left",
"left",
I.hall,
fun b o e'=>·,
UO.e.nH,
fun b o e' n=>·,
UO.e.nB,
fun y o e' n=>·,
"answer",
"number_line",
"dance_line",
"name_line",
z0.cps.toList,
fun H1 s1=>·,
fun i σ H2 _ ·=>·,
fun l2 j_=>·,
td.okr,
"hey ",
PySem.W.tabIn,
backTo,
(ZanE · (ZEe · ZaQ)),
#[anF,h_,[]].any,
#[anF,pos,·].any,
#[anH,es],
#[anF,h_,·].all (#[cV,! x.1]),
ZanE · (ZEe · ZaQ)=·,
s.heap.IsTuple,
ZanL · ·,
#[anM,l1,xs],
#[anM,l2,ys],
#[anM,t,xs],
s.heap.push,
ZanQ ·,
(ZanQ ZajC),
s.TypeIs,
ZanT #[aj,·] ·,
#[anU,z,Zel],
AllBare,
ZanW s'.gens,
X.env.scope,
WO ZanY x,
ZanY=so,
UG ZanY x,
X.env.scope.names.lookup,
#[Tr,Zan2],
ZUX\/Zan3,
s3.heap,
tn 0 Zan5,
letOwnedTupleGo,
(Zan7 · it v),
fun σ H R=>·,
#[an9,tl σ H #[M_,·]],
.FormattedValue,
#[hH,(Zan' · (-1) Zac ·)],
Zan' · (-1) Zac ·,
leaving,
#[hQ,(Zaoc _ _)],
∀ i σ H,·,
K_.objs.size,
· · (Zamb) (fun i_ A outer s H vs Q E hr h=>?_),
#[aog,F.ok,·],
#[aog,F.okX,·],
{ D with nx:=·,ct:=·,bk:=Zog },
fun σ2 H2=>tb #[aoj,·,·] σ2 H2,
#[aok,Zxq,Zxq],
(·+·*ZCW),
#[pj,#[aom,·,·]],
bM (kL #[aom,·,·]) ·,
#[gW,ZeY,·],
#[aop,ZkF],
#[aop,ZcS],
#[E7,Zaoq],
fS X sc cl C N' s3 Zaoq fp,
ZaN u.1,
fun u=>Zaou,
#[gS,ZvM,Zaov],
#[bd,Zkw,Zaov],
⟨_,rfl,_,·,·,rfl,?_⟩,
#[aoy,rfl,_],
⟨r,_,rfl,Zbg hr,rfl,_,_,rfl,_,_,rfl,rfl,Zaoz⟩,
#[aoy,_,rfl],
⟨_,rfl,_,_,rfl,rfl,_,rfl,?_⟩,
aQ ZaoC,
·*1234567891%ZCG,
#[aoE,ZgX],
(1+ZaoF),
k*ZaoG+ZE5,
Zbo Keyword,
#[lJ,#[bc,·]+#[ED,ZaoI]+(if ([]:ZaoI).isEmpty then 0 else 1)<30],
PySem.W.fnOf · · · · · · kV doc pm an i_ ct,
#[aoK,·,·,(jj st),ZEH,Zxy,Zax],
#[aoL,x,Zbx],
(iZ aQO aQS aQT dq · ·),
#[jv,#[aoN,·,·]],
af (bq #[aoN,·,·]),
(aQF _ (aQF _ (d7 hb e))),
(I7.pin ZxH ZaoQ).2.1,
au #[jg,t,_,T0,·],
#[aoS,at0],
#[aoS,rfl],
∃ N:Zgp,(∀ σ' H',N σ' H'->∃ m',m'<m/\·)/\·,
ai (aq q hn),
#[Sc,ZaoW],
(· pos Zam s σ H _ I ·),
#[aoY,ha,h],
(bZ ZaoZ ZUC),
ao (T.obj _ _ · b hb) ·,
· Zcl X.w X.K ZcA Zhq CX · · · ps sp,
#[ao2,aY,k,f,fd],
(· i H/\ZRS)\/(· i H/\#[aoV,W Zce m' σ' H',·]),
#[So,Zdx,Za3 #[f6,([]:Zb4)]],
#[ao4,·,·,∀ x H',· i H x H'->g x σ H' #[aok,N,N]],
#[ao6,·.stop,·.go,·.yld],
Rq · z TI TO (ZgI T) ·,
#[ao8,ZaD,b],
#[ao8,h',Zad],
show p∈· from hp,
#[oe,#[oV,#[ao',([]:Zej)],ZaV]],
(n,NameKind.cell),
#[E3,0].drop,
#[dh,hx],
#[E9,·,Zapd],
#[ape,h],
(loop _ rfl),
#[pq,s3.heap.get?,·],
#[aph,Zyp],
#[aph,#[bt,h4.get?]],
(j9 c l),
#[apk,0].map,
(Zsh _ ZaV),
#[apm,0].2,
#[apm,0].1,
#[e7,s1,e1],
T.keep _ _ _ · fun b _ o e=>·,
#[apq,st2,#[aL,e3,Zjm]],
#[apq,st3,kp4 b o e],
(wr ZaI b),
k _ _ s1,
Zck (Zv7 us),
⟨_,rfl,_,rfl,·,_,rfl,·,_,_,rfl,rfl,_,rfl,?_⟩,
#[apw,q,#[pB,hq]],
#[fs,z],
#[bC,n (Zapy)],
#[bv,nm],
[#[bv,s],ZS2,ZapA,#[pO,d%4],·,·,·,·,·],
#[apB,#[c0,mn],Zyq,#[pO,1+M],v,·],
#[pJ,·,fun z hd vs rel dd=>?_],
#[apD,Bp],
#[apD,Lr],
(q1 x c e),
#[alc,· x c ZapG],
mx #[c1,hn] ?_ Zg8 (Zal hb) (#[apH,f4]) (Zapa),
Zeh×Zb3,
#[d3,ZhX,ZapJ],
Zaj1 Zab,
(ZapL++[Zab vy]),
fun n:Nat=>Zbj,
aXa (ZapN) ·,
A3 so sc · N' src,
#[apP,N],
#[w7,·>0],
#[apR,ZmT],
fun d_ r' pl hz=>?_,
#[pT,ZapT],
#[xR,ZapT],
#[akc,·,ZcG],
fun o e _=>?_,
#[cX,#[apW,#[ao1,st2,ZapX]]],
{ s7 with heap:=h' },
#[b0,H6,ZapZ],
fun x m h=>?_,
⟨·,fun x m=>?_,Zap1,Zap1,·⟩,
show x∈· from hx,
pQ.mp (#[ap3,·]),
#[bt,ZOn],
#[o8,Zap5,Zx8,ZR2],
(rel.val k),
#[ap7,0].isSome_eq,
#[h0,x.2],
(g.binds hb),
ZiW f=Zab ·,
#[ap',⟨oc,od,Zwe (·),osl⟩],
nU (I.ok.funs.mem ·) ·,
#[ao1,·,fun o e d=>?_],
#[aqc,st8],
#[N',·,ha,fun u hu hA=>?_],
#[aqe,pr],
fun v s1 h1=>bZ h1 ·,
∀ [445],(ZRQ)->·,
(nn b hc),
k b o #[aqi,0].1 #[aqi,0].2 q,
(firstMet (ZN6) ·),
#[aqk,ZCc],
(ok f fd g),
(d9 · (#[bd,·,·]+1) ·).bind #[bk,· #[hs,(f,q.2)]],
(by rw[Z9,Z9,·];exact ZmJ),
#[aqo,aQQ],
ZN_ · (aQw hi),
#[aqq,S.cs],
aY P w K mg ZaS CX k f fd ps ·,
#[aqs,sp],
(nr b o q nf),
(ot b Zaqu).trans,
tY w k j,
#[hL,·.2.1,·.2.2.1,#[hL,·.2.2.2.1,#[pk,·],·]],
#[aqx,·,·,·,·,#[hL,#[pk,·.2],#[xU,·],#[hL,#[pk,·.2.2.2],·,·]]],
iA m' hm Zce σ7 H7 Zajt ⟨T.keep _ _ _ · #[Ow,(I7.pin ZxH ZaoQ).1],ZmS,w7⟩,
#[aqz,st8],
#[aL,ai (aQu ·),·],
#[TN,#[aqB,#[c1,flt],#[kI,f2]],f2],
#[aL,·,aQs],
aQc (#[aqD,·]),
fun m a_ _=>?_,
ao Zrx ZaqF,
fun m hn _=>?_,
#[c8,I7.loc,ZaqH],
#[eV,hC,·],
#[dy,#[aqJ,Ztx]],
fun z hd xs rel dd=>?_,
#[pJ,Br,ZaqL],
fun _ s9 zz=>?_,
fun ok s10 zz=>?_,
bZ (ht _ s9 σ9 H9 _ I9 q9) ZaqO,
Zag ZbH,
s.heap.UpToSlots g,
∀ g,·->ZaqR->ZS7,
#[c0,cn],
σ=[ZTY,#[bv,e1],#[bv,t1],Zyj,ZaqT,v5,·,·,·,·,·]/\·/\·,
Zau e.n,
#[e7,s1,e2],
⟨_,rfl,p,_,1,_,rfl,rfl,Zapp,rfl,t,rfl,#[aR,ZaqW],?_⟩,
base.Ns ZlF mg,
(toS (fM ZgV)),
yj mg ZaS,
∀ base:ZvP,· ZaS->ZaqY->Zaq0->·,
(s1 _ _ e2),
qv (#[bF,Zapu]) #[eC,⟨_,rfl,p,_,1,_,rfl,rfl,Zapp,rfl,q,_,rfl,#[pB,Zaq2],_,_,rfl,rfl,Zapu⟩],
#[FG,Zkp,·,·,·],
#[aq4,a,zx,x],
#[TD,A0.cs],
(ZiE oo Zaq6),
#[anJ,[e]],
#[gq,Zaq8&&ZR9&&#[aoJ,[e]]],
#[bc,(· ZO' ·)],
#[aqg,fun itv s2 h2=>?_],
(#[w7,#[oj,·]]),
#[ara,1],
⟨fun i H=>·,·,fun i H=>·⟩,
(#[dn,·,[(x,o)],[]]),
#[ard,Zaqw]++FB w k x os Zeb,
qe Zcl X.w H' ·,
#[arf,h'],
#[bn,#[lM,ZaC ·=ZaC _],dS (s:=·) ZcE],
#[arh,(oG.come g).w0,Zcn],
Za0 (#[FF,x,·]) cs ci,
ZOL [ov] #[TG,ov,·],
#[ark,m],
0<=d/\d<b,
#[alg,Zarm],
#[tb,ZrF (t':=·) (o:=·) (·) Za8 ·,·],
Fa P w K mg ZaS · Zcm s H,
#[arp,A],
#[aqh,#[j_,o9 Y · H' b]],
#[arr,[]],
callWith pos f first #[anF,pos,·] #[R8,pos,[]],
#[art,ZdD],
∀ [104],aT Y (·++qD fp s8.heap) σ7 H7 s'->Nx σ7 H7->#[sQ,·],
#[arv,[],#[RR,aT Y [] σ' H' s',Zc',ZF3]],
hg _ s8 σ6 H8 x u _ I8' r8 (step x H8 y8),
bZ (Zarx) ZaqN,
["sign"],
#[dy,aQb _ ·],
#[arA,Zmt],
#[dy,#[c4,·].1],
#[arC,ZOZ],
#[rE,∃ i j,·],
(#[arE,x=Zag i/\y=Zag j/\·]),
fun b ob q=>ZmM,
fun hz lo vs rel dd=>?_,
fun us' rv' p2 _=>?_,
#[akJ,?_],
fun _ o2 ho2 hnf=>?_,
#[aqb,hf,ZarK],
fun n1 n2 n3=>?_,
eJ (FO hw ln) ZarM,
∀ g∈f.gs,Zm5,
f.Ok/\ZarO,
#[aj,fI],
#[av,mN Zfy,ZarQ],
ZanL a ·,
#[w9,ZamB],
s.heap.SetOf ZarT p S n,
b∉Zrv,
∀ b,ZarV,
#[d6,Zap9],
#[arj,ZarX],
H0 b=Zac,
#[o6,b∈Zx8,Zap5,ZarZ,#[yA,ZvQ]],
(ZalD i),
(ZlS d),
#[ar2,0].take,
(Zah d),
Zek<=60,
ZaJ<=i,
#[arc,∃ xs x,·/\ZPi,·,∃ xs,·/\Zar6],
#[ps,ZdA],
(·++xI w g Zar8 Zce),
(ZaQ::Zcm),
(put ZaI a Zapt),
(put Zdf Zapt a),
#[Vk,put Zar' b ZFI,put Zasa ZFI b,eV Zta b a,ZoB],
so.names.lookup y.1=Zab ·,
(bH.pair a b),
#[th,#[dE,#[asd,0].word,ZbZ]],
#[OY,ZeT],
#[EY,(Zxi,ZaqV),·],
#[Sm,"_law_name"],
(g24.trans (dH ·)),
#[p8,ht],
k _ _ z Zasj,
Za3 d_ n,
Zhi=Zasl/\#[oj,ZCc]/\·,
#[EV,Qf H',Zjw],
#[RR,aT Y [] σ' H' s',Zc',ZUm],
qh c ck H k A B · oH ·,
#[gK,#[asp,·,H']->Zjq],
(aQX _ _ (aQ5 (aQo e))),
(Os ZaD a),
(ZNg C ·),
#[ast,dx],
#[c1,sb.2].trans e,
#[aY,m,·,fun h' hsb=>?_],
#[asw,hn],
b∈Zdg\/Zbb,
cH (ZwJ ·) hq,
#[asz,s5],
∀ p∈ZDl,Oo p,
Zcv->ZDN->ZasB,
(ZgM ZFr).map,
#[xx,ZasD],
#[bA,q,ZkF],
· Zgv ZlY g,
#[asG,ie],
ZanD (K Zi7) ·,
· #[C8,k it ZaV o e],
#[alU,#[asJ,st.at]],
((by rw[ea];show ·;rw[·];rfl)),
ZdI/\Zgu,
#[rr,ZasM],
show #[m1,_] from x,
(aQX _ _ (·)).trans,
fun a x=>#[d6,(jC x)],
fun u=>#[lJ,∃ a,u=Zb1/\·],
#[asR,RD X.K H2 n ZbV d],
(Zv7 us),
Zkn=ZaJ/\·,
#[cd,ZkQ,x],
#[oT,kq.mp,·,(ZPK e)],
#[asW,kn],
#[d',d,ZSv],
Num w ds,
#[pG,hi,Zaq'],
#[pI,ZkQ,x],
#[cK,[ZdN,x]],
#[FT,Zas2],
[Zag ZaqZ,Zah ZTZ],
#[h8,Zas4],
aQa (#[pC,ei,di,·,?_]),
#[EY,(Zxi,ZaN e.p),·],
#[as7,(ZmH,ZaN p)],
Za9 (ZlU i),
((· ZQ6 ·).extBut Zal3 ·),
Un (mw Zcm) [] H0 · s0.heap ·,
#[alt,b,b],
(a<Zi0/\b<Zi0)\/(Zn8<=a/\a<Zals/\Zata),
#[hV,·.map Zau,Zau (bO · · g)],
#[atc,(db Zgv g i),Zgv,i],
fF ZeZ [ZeZ] _ _ · rfl · · · Zxg ·,
#[ate,H1,(ZOq (t':=ZrR) ZmY),·,ZFc,q],
(hG f N ks S),
#[kf,Zatg],
#[CD,ZoQ z (noA b)],
#[ew,oV kvs k ·],
#[atj,v],
MI (h1:=·) · · · · (fun b o hf e n=>·) fun b o hf e=>?_,
∃ (fI:Addr)(fd:FuncData),Mk K · fI/\·/\#[Fd,·],
#[atm,·,aY P w K mg ZaS eR 1 fI fd · ·,·],
(yI Zbl eb),
· (Zaj3 hu) Zato · · ?_,
x.1∈L/\x.2.Nodup/\·,
(·.2 c ?_).trans q,
(I7.hok b ob e).stay (fun c w' hc' q=>#[atr,hsb]) (ZyJ) ZM8,
eJ (FC I1 ·) fun t1 t2 _=>?_,
#[att,d],
(iF Gm Zak (gI (pv 1)) ·),
#[atv,(gI ZyZ)],
⟨tv,_,_,rfl,·,·,b5,Zae⟩,
fun H4 g4 t4=>#[bK,#[p7,⟨B,es,bs,#[atx,X.gk g4 t4,e5]⟩]],
I2.laid (t':=s2.toks) (ZTO) Za8 ·,
#[atz,(js Zm7 [] 0 Zan ZeJ)],
(Ro · ZaK (Zah 0) ZaK),
#[aqn,·,Zapc,ZSP,(Zapc ZSP),·],
#[ajz,x,(#[tj,ZT3,Zapb,ZEI]::_),·],
∀ f,ZmK->Zcv->ZDN->·->·,
#[fw,(names.map fun ZEI=>#[b5,(#[SA,k]),Zapb,ZEI])],
∀ (j:Nat)(t:Addr),#[av,·,t]->∃ x y,#[di,ZNF]/\#[kT,ys[j]?]/\·,
Zau (ZDL (iP bs)),
#[asg,(ZmH,ZatH)],
t #[EV,Zjq,Q] ZTI H,
(toS (fM (ZcO 1))),
· k mu · (ro fun n=>Zo0 (· n)),
(.DictComp kx vx [⟨·,bO,ifs,0⟩] · pos),
· Zapg (T.self _ 0 _ _ _ st4 Zapg),
#[atN,codeAny_compStart_list],
[ZcN (Zeg · p2) · [] pos2],
I3.call' (ch:=fp) (s':=·) I7.os · · I7.bare #[cX,⟨#[EG,0].2.2.2.1,#[EG,0].2.1,#[pk,ZEG],#[EG,0].2.2.2.2.2⟩],
#[atQ,ZapZ,un,hok],
bS f fd Zaqm · g.kp Zap_,
⟨_,rfl,rfl,·,32,rfl,#[e0,p7],Zae,ZDI⟩,
#[atT,z0],
(compPost Zw_ X.A ZlO · · ZSp C),
#[atV,Zac,ZRA],
⟨e1,t1,A1,D1,w1,m1,l1⟩,
(· c ck ze cb P0 aO aI),
GN c ck ze cF cU cL P0 lp ql · e A D B es bs L z Q E,
#[atZ,H],
Bool.eq_false_iff.mpr ·,
(fun u HK Q' hu sK kk=>·),
#[rU,Zqa],
∃ b,ZdI,
(Zao:·),
#[M7,ZmM],
#[aL,#[b',·],·],
#[n_,(Os · b)],
fun b o e n hx=>?_,
#[oe,#[FV,·]],
#[CI,Zjm],
fun h' w_ sb=>?_,
(Zes:Int),
(ZoH ds:Int),
#[anS,0].push,
fun w' hw rw'=>?_,
fun h' dd' hs=>h _ ?_,
fun b q=>?_,
(Zakb).join,
fun y s11 zz=>?_,
(by rw[·,Zal6,·]),
fun h2 fl2 ups=>?_,
(by show ·;exact Zcr),
fun b x e=>?_,
fun x y=>ZVf,
{ s1 with heap:=·,toks:=ZrR },
#[PF,(· e he h).2],
Nat.mul_le_mul_right _ ·,
(ZbN+1),
#[a4,Zen],
#[a4,Zyg],
aQc (#[B8,·]),
aQc (#[e2,·]),
PySem.W.noTabs ·=Zad,
ZFN<=Zbz,
#[dh,hv],
(aXM _ _),
(Zah g),
ZanL b ·,
#[bT,ZxI],
#[dk,hS],
#[d7,Zh'],
es++#[Dk,0].map fb,
(aQA ne),
#[xj,px],
#[hT,ZQ4],
ZTy=Zbe,
ZrO n,
Zef b=Zab u,
Dt->ZbQ,
Zgd<=ZbE,
#[ak5,Zmh],
#[R0,"type.__getattribute__"],
Zah (1+M),
#[jA,ZTA],
[a,b,c',d],
#[x9,aA],
(ZiD kp),
ZaZ _ h,
#[SE,Zaq],
Zom+n<Zj1+1,
(z.cps.toList.map ·).all,
#[tw,ZajW,·],
#[Fq,ZwB],
wpAny_formatField_int hd ·,
#[Tq,id],
(aQX _ _ (aQA b2)),
#[pG,ho,Zju],
#[aoo,Zkp,·,·],
#[ch,n,e'],
#[Gf,(aQR h₃ (·) Zxp)],
#[aqb,·,fun _ o ho _=>?_],
#[GC,bH.quad],
#[Uz,ZdV,·],
#[UE,ZRm],
(ZeS ps),
(PySem.W.looks_clsIn X ·),
#[Ep,kM,ZaO],
xs.all sG=Zad,
#[UL,ZEj],
#[pG,he,Zg3],
(jW hu Zc7 Zaq ZEo),
(dJ · Zak Zgh ZbI cz ·),
(#[kE,p.1],Zau p.2),
#[aoe,i<=ZaJ->ZmI->·],
(Str×Zeh),
aS Zfx w K mg b · 1 Zqf ·,
#[ak7,Zmg],
∀ f,·->∀ (p:Addr)(H':Hp),·,
#[cu,aZy aZg _],
#[ch,h1,e],
Zb7 Zwg A · (·) ZEn s₄,
#[OY,ZlE]\/Zasf,
lo+Ztl*2,
ao (· (P:=Zcl) g ·) fun ts hl dd=>?_,
#[atq,#[kb,x.2,y∈L]],
(fun u:GQ=>Zaou),
(x,NameKind.free)∈·,
(ZfX a:df),
#[Q0,Zax,Za1 ps],
#[Q0,Zdx,Za3 ZbM n],
#[bm,aXL ·,(Zrz ·).2],
·-(638699622168397319)*·,
∃ kvs k,·/\ZGz/\ZyU/\·,
#[hy,ZdF<m+1],
∀ (s:Shared)(u:Value),ZCn s fd #[d7,[u]] [·],
(p.1.push d,true),
#[Ec,#[er,·]≠Zcn],
fun a o e n=>· a o · n,
(Shared.heap ⟨·,g,d,tk,os⟩),
aQ #[cg,(#[ajj,·]),·],
Zau (·)=Zau 4,
(iG (pv 10)),
(ZQ7 nd).1,
H3 a=Zab Ze8,
·*Zwz+·*ZOW,
ao (pJ.some_of (v:=v) (o:=·) ·) ·,
(ZxO,ZaN l),
(ZCe i ZmV),
(ZQ7 nd).2,
-8589934592<·/\·<Zhw,
qq (AM Zbl e) ·,
#[pI,e.1,e.2],
Zv6 a ZaD ·,
#[ar,m,q,st],
#[aoL,m,q],
(.pl (Zr6 ZUq)),
(#[bd,ZgU,a]+1),
ZiN ZaJ ZaJ hi,
#[gW,B.w,#[bT,ZFL]],
(CJ Zak0 T.enumerate ·),
(Builtin.«zip.__next__» #[d7,[Zai z]]),
#[o5,ZdW,(∀ vs,#[U',vs]),·],
#[pM,PE,elt,te],
(SP X Zam D),
[ZGb,#[bv,sn],#[bv,lr],·,·,·],
(a x o e n),
#[Vr,ZUG,S],
(Bk ZaS h f cy),
(upd H3 a (.dK #[ET,z])),
v=.bl Zad,
KT H kvs xs,
#[Gr,ZFR,w2,m2,·],
S.tup (xs:=xs) #[eW,ex,e] (by rw[z];simp[HA.fp]),
p.1∈L/\p.2∈L,
#[atG,k_[j]?,Zi2 h' t x y],
wL S.cs #[Ow,·],
fun ys hy=>#[aL,· hy hq,hx],
(ZkQ+Ztm*1).toNat,
PySem.W.methodCall_KW (pl:=pl) · ht,
#[dz,ai (aq e' ·),ai (aq e' ·),e'],
#[al9,k2 b o b1 b2 ·],
StateT SortSt Sem (· ·),
(Zfr ck kdx #[atB,Zjn]),
gz (bd ZRn) Zar1,
(k1 b o b1 z),
(wM ZGd ZUK Zac),
ZakD (Za2 ·) · = Zck (Zab (Zf' ·)),
#[Tc,Za7,ZbS,Zcc],
#[c6,·,Zbw,#[c6,Zbw,Zbw,bz]],
pJ (ZNf f) (mA f),
#[UO,(Zag (tp (gJ ·)))],
#[aro,ZbX,·,ZarG,?_,·],
∃ t,GJ (#[EZ,·,·,·,s,H]) · t/\ZatJ,
Un (mw Zdv) fp · H6 Zan5 h',
[⟨Zab ZPw,ZwE Zar4 cj cp,kp⟩],
fun c v _ q=>k c v q,
∃ ys,H2 a=Zab ZyP/\#[ok,Zos]/\#[pl,#[gW,a,#[hV,ys,y]]],
#[DH,k l · _ hl Zyv ac ·],
ZrK (ZOU (Zwd Zd_)),
ai (hm b _ q #[aH,z]),
⟨xs,xs[i],q,(by simp[v_])⟩,
#[pF,(Jq Zjn #[aj,kp] #[aj,b])],
(cY 1 · rfl Za8 Zgt),
⟨_,rfl,_,rfl,_,_,rfl,rfl,_,rfl,·⟩,
aZm F.slot_str_split ZajS F.entry_str_split (F.args_str_split_2 _ _) · ·,
#[av,ds[j]?,d1]->#[av,ds'[j]?,d2]->·,
#[o4,Zd8->b≠w->b≠m->b≠ls->·],
yD b5.sm 8 f g,
#[GE,·,Zaso,#[Vx,I4,st4,O_]],
⟨·,_,rfl,·,rfl,rfl,_,rfl,?_⟩,
#[atl,Zc',·,fl.1,fl2.1,·,G_ b o hf e n],
#[vI,Zfe/\Zgx/\Zjy/\Zk1/\·],
#[kO,G,w,ZcS,m,Zyw],
#[aY,·,rfl,En (s:=ZlR) e c · ZaG ·],
(· ZDw Zbx Zl1 Zfu ZbY Ztd pm · ct),
#[Og,hq g ⟨a1,f2,a2,a3⟩ a4],
FR (bS q _ rfl (Zbg ·) (yV · · (Ztn)) (fun r hr1=>?_)),
(ZNr Zbx ZbY Zaw f cd),
r9 · ZU8 (Oq AF te q) Zasn #[sX,Zac] ZasF,
⟨_,rfl,_,rfl,b,cb,ZcW,_,_,rfl,·,ZfE,Zana,Fk,·,·,·,·,·,·,?_⟩,
⟨_,rfl,_,rfl,_,_,rfl,rfl,_,_,rfl,rfl,·,?_⟩,
· x c m Zdp arr Zry Zaf Zaf ·,
· q loose XP YP l.row.toRowW d [] (fun f vs=>PySem.call f vs),
P_ A Zcm s H vs Q E · hsp,
⟨ea,C,od,·,B,rfl,·,?_,Fz · · · trB,·,·,h0B,trB,hE⟩,
Zd1 · · Y bs _ _ w · rfl n1 · · · · ln n2 (vI w3) n3 w1 Zaf bl ⟨·,·,·⟩,
Ef · P w K mg ZaS · Zbx · f c' y cy A Zcm · · E,
[ZgP],
[Zjc],
Zaw<=·,
∀(_:·)(_:Zzk),0,
ZOS*·,
#[lQ,#[anR,#[Q1,Zf4,#[f6,·]]]],
∀(ho:PE X o ·),0,
∀ b∈B1.fp,Zasy,
(#[aiu,Zbb]),
#[b5,·,Zbe,·],
∃ o,ZG5,
#[aL,ZWc,·],
#[MX,ZaoX],
#[aiH,ZaoX],
#[aH,#[oS,z]],
#[fY,ZTA],
#[n_,Zass],
#[dy,aq e ·],
#[oe,ZlH p ·],
#[O2,·,tk],
#[b6,aZV],
#[asr,0].trans,
#[ai',#[Sz,·]],
#[iF,ZUQ],
#[bc,ZtP],
#[bc,Zaql],
#[U9,0].findIdx?,
#[bF,Cm],
#[bF,ZawN],
#[C8,Zjm],
(Zt2:Int),
#[an9,t σ H ·],
fun y=>ZW0,
∀ x∈P,Zavr,
#[amt,·,#[cZ,·,·]],
fun j=>Zauh,
(show T=· from ty),
#[GP,·,d_].flatten.toArray,
#[ew,#[rA,e]],
#[Hl,0].Nodup,
#[auS,0].Nodup,
bs[i]' Zaf,
∀ {ns:Zbq}[16],·,
#[hy,#[Gn,·]],
#[hs,ZG2],
#[wn,·<=ZbE],
#[ge,∃ t,#[p1,·,#[Gu,·]]],
fun _ σ H=>te σ H ·,
#[O7,s b o e],
#[Oy,#[bf,x.2,·]],
#[Ro,0].worn,
#[qC,0].natAbs,
(Zg7).natAbs,
#[st,bf #[c2,·]=·],
∃ p,ZG',
fun r s₆=>r=.ok ZrB/\·,
#[ale,x∈K],
#[alf,Zawf],
fun n=>bO f n g,
∀ (l:Addr)(as:Zei)(H':Hp),·,
∀ a∈as,Znl,
∀ y∈ts,Zgd<=B,
∀ a∈ks,∀ b∈ks,·->a=b,
#[asT,0].reverse.lookup,
∀ (s:Shared)(us:Zb4),·,
(fun v _=>Zawb),
{ s with brk:=ZVJ },
∀ b∈B'.fp,Zasy,
∀ d∈l,d<10,
∀ e∈ds,e<10,
∀ w∈ws,Zhb,
∀ w∈ws,∃ ds,ZasZ,
∀ r∈rs,ZW',
∀ (fs acc:Zb2),·,
#[PB,Zcv],
fun a o e _=>· a o e,
x.1.names.length,
∀ [71][473],Zxt->·,
#[Dp,Zamm],
∀ g∈L,ZdG,
fun _ H' g t=>ZXg,
#[any,Zh7],
fun kb hkb=>Zh7,
show #[o9,#[Un,·]] by rw[·];simp,
#[anq,Zau6],
∀ (ds:Zbq)(z:Int),·,
ZCX ·=·,
#[aj,c'],
#[aj,C1],
#[aj,c0],
#[aj,fw],
Zbo Zly,
Zbo Tok,
Zbo WData,
Zf_+1,
Zai q.1.2,
f.nw.2.2,
(PySem.F.typeCall_list_1 _),
(List.takeWhile_sublist _),
Zah Zy1,
Zag ZD7,
#[bt,H1],
#[bt,ZB_],
#[bt,ZOe],
f.isP=Zad,
(Zj2+1),
(Zwy+1),
(Ze4+1),
ZNd z,
choose z,
so.mpr z,
ZPN z,
SeqAt.EqAt.same _,
#[aR,e1],
#[aR,ZCw],
#[aR,ZamT],
#[aR,ZamV],
#[aR,ZamW],
#[aR,ZamX],
#[aR,Zk9],
#[aR,ZtX],
#[aR,(ZasO)],
Zbg bx8,
Zbg bx5,
Zbg bv4,
Zbg hU.1,
ZalV a ·,
#[gi,Expr],
#[gi,HO],
#[a_,dx],
#[a_,Zke],
#[a_,lr],
(ZfX z),
#[oj,Zfp],
#[oj,rest.length],
#[cK,ZHm],
#[cK,Zawr],
aG H ZUR,
#[fF,ZbQ],
#[fF,Fin],
#[a4,ZWn],
#[a4,ZW5],
#[a4,ZW7],
#[a4,ZXn],
#[Eq,ZtF],
(if ZauR then Fc.already else Fc.done)=·,
aQc (by simp[h]),
aQc (fun e:g=f=>·),
PySem.W.handedIn ·=Zad,
Zbh hn,
s6 a b c,
#[cZ,Value.builtin,·],
#[w9,iX],
ZiA UInt8,
(.dK xs),
(.dK ZEU),
i<Zfp,
i<ZiV,
i<ZwA,
i<ZDh,
ao (List.mem_flatten.mp ·) ·,
b=Zaw,
ZaN e.p,
ha.2.2.1,
#[eB,vs],
#[eB,Zakk],
#[eB,Zawt],
b∉ZlV,
aQb _ hoc,
aQb _ htb,
#[ml,Zn'],
ZVU<=Zbz,
ZWZ<=Zbz,
#[dh,ha],
(PySem.F.args_tuple_add_2 _ _),
(Ei _ _),
aQx S.cs,
ZdV b,
b∈Zj7,
#[d5,fin],
#[d5,ih2],
(Zox g),
#[bC,#[oS,z]],
aQe (ZVC),
(Zab e),
(Zal e),
#[c0,ZkQ],
([]:Zb2),
#[go,Nat],
#[go,Zbs],
#[go,Zgl],
#[bT,Zdf],
#[bT,Zqg],
#[kC,u6],
#[kC,u7],
#[kC,u8],
Za2 a::r,
#[di,P[i]?],
#[di,ZNv],
(·+Zeu*·),
ZNQ rfl,
#[hG,ZEr],
#[fI,Zg7],
0<ZN8,
0<ZoJ,
#[b',xw],
ZD9 q,
ZvW q,
#[d6,ZdJ],
#[d6,ZkR],
#[d6,ZqE],
ZN4 hi,
#[cs,Zavg],
#[D_,ht],
x∈Zdg,
ZMZ b=Zac,
#[pc,xM],
#[rA,e2],
#[rA,hc],
#[rA,hd],
#[rA,hj],
#[rA,hr0],
#[c4,ZOH],
#[c4,ZNV],
#[c4,neL],
#[c4,oth],
#[rX,ha],
#[rX,hf],
#[rX,hd],
#[rX,hg],
#[rX,hen],
(ZlU i),
(bd es2),
ZoA _ _,
ZD5 _ _,
#[dk,h1],
#[dk,ho],
#[dk,ho2],
#[eD," "],
#[cu,e1],
ZfS≠[],
(Zah x),
(ZCf x),
Zdc y,
(ZiV:Int)<=·,
(aQA B.d12),
j<ZaJ,
([pa,pb]:Zbp),
#[ms,ZeJ],
#[ms,Zmt],
#[cw,Sq],
#[cw,ak2],
#[xf,Zal hb],
Zwb Zau,
ZoC Zau,
ZoX Zau,
n<=out.size,
s _ _ x.h,
s _ _ x.f2,
s _ _ x.f3,
s _ _ h.1,
bK [x] us,
bK ZGs us,
Gl X Zdw,
#[my,ZOh],
·->#[b9,Zaw,·],
wpAny_pyIter_list · ?_,
wpAny_isSubtype_exc · ?_,
#[O3,ZpE],
(I1.ok.hd hc),
#[e',h3],
#[e',hq],
#[e',hq4],
(ZrN f),
ZamP (bZ · ·),
#[hT,Zhr],
#[hU,hb],
Zdc ht,
Zdc hy,
#[dL,it],
#[dL,i1],
#[dL,i2],
#[kI,csx],
#[sH,900],
(Zal5 k),
(a::b::r),
#[kK,ZiW],
#[kL,ZiY],
ZvP->Zaa,
Zb4->Zaa,
aQd (ZaU),
#[fd,ZWG],
#[hY,H5],
#[hP,C,xs],
#[hP,C,(cw f y fs)],
fj k ZO8,
B1.mono s2,
a≠Zez,
a≠ZeA,
(Ku (pv 1)),
ok.mono s1,
bk.mono s1,
#[pt,(e+1)],
#[wp,Zes],
#[pu,ZdJ],
#[Rf,Zy0],
Zek<ZbE,
ZdV b=Zab u,
H2 b=Zab u,
#[oS,h1],
#[oS,(SeqAt.ne_of_list_tuple · ·)],
#[sJ,Zak],
#[po,h1],
#[po,hd],
#[po,ac],
#[pA,ZDa],
(Zah (lo+i)),
(Zah (Zavs)),
aQh _ hb,
#[air,Zaw],
(uN c l),
(KY c l),
#[sK,Zak],
#[sK,Zaq],
#[sK,ZcT],
#[jt,ZlW,·],
#[jt,Zks,·],
ZQz s3,
i=Zep,
#[ok,ZaJ],
#[sM,ZNF],
#[gy,h1],
#[gy,S.c],
#[gy,j_],
#[gy,hr1],
#[mN,e2],
PE X e ty,
#[pF,[]],
#[cq,dH,s1],
#[e7,s1,ht],
#[h4,j_],
ZrO i,
w=ZbZ,
w=ZbS,
w=ZcQ,
ZDh<=ZbE,
(bd (ZFW)),
(bd (ZHk)),
(aZa _ z),
#[h8,Zzw],
#[cg,(fun m σ H'=>·),·],
#[anH,[]],
#[ak5,ZEw],
#[h9,rfl],
kp.tup h1,
Zep=Zfp,
#[R1,Zem],
(aQa ?_),
#[pQ,ZalJ],
#[pQ,x.cps.toList[k]?],
#[pR,ZeZ],
Zame _ _ e,
ZaZ wl g,
#[pT,ZFu],
#[pT,ZGM],
#[mQ,Zbw],
#[mQ,ZaO],
(B2.rw e he h),
#[xL,Zfg],
ZmZ::ZdX,
(QP c.C),
(QW c.C),
(Zr' fs),
#[oj,ZaJ+·],
#[b0,H',s2],
#[b0,H',ZO5],
#[mW,Zal_],
-(2 ^ 40),
af (ar (bg ZT8)),
ZrH Zwg A · R s',
#[Rt,Zrq],
#[Rt,ZDE],
Zam8 hl,
e0.hok.kept hk,
a<Zj2,
a<ZeZ,
(· _).names.length<=_,
Zkc<=100,
#[Sc,ZawF],
#[s1,Zyt],
trY b hb,
#[m1,Zavy],
Kp [d] H H',
Kp Znc H H',
#[xW,hlr],
#[xW,hl0],
#[x4,∃ t,u=· y t],
Zbz<x.n,
#[Sm,ZbP],
#[E0,Zgg],
#[E0,"_law_rank"],
#[R7,d_],
#[k2,Zy4],
Zan2 y=Zab ·,
Zv9 y=Zab ·,
s4 _ _ ac,
s4 _ _ hs3,
#[m4,ZrL],
#[m4,26],
#[s9,Zc_,·],
(bs++[y']),
aq ac hh,
Heap.get?_update_ne _ _ _ _ ·,
#[tc,ZCF],
#[x9,Int],
ZanW s.gens,
ZanW g',
Ze3<64,
ZrS<Zbz,
#[E7,H'],
(es++ds),
(okn x aQi),
#[Eu,ZdK],
#[hV,Zwx ZaN,Zea],
#[SE,Zfh],
#[c5,Zbs,Hp,VK],
#[qc,Zaus],
#[Fi,·,Zaky],
ax7.mpr nd,
#[v5,ZeX],
#[v5,Zgd],
#[ne,ZtT],
Builtin.List.listSameRef · ·=Zay,
#[amx,41],
#[av,ZNv,p],
#[nj,seqIndex_neg,·],
s2 _ _ h1,
ZlA++[d],
#[aW,·,[·,·,ZdC],·],
#[aW,·,[·,·,Zsp],·],
#[bO,l,ZEl],
#[yk,Zaof],
#[nq,?_],
#[tu,h2],
#[tu,hp],
#[tv,Zawe],
Zi2 h' TO x y,
#[nt,Zaq],
#[Fq,#[Fo,0].map],
#[nv,elt],
#[jg,p,0,#[e7,s1,hp],ZbU],
ZoZ x.h,
pO.mp kn,
uk.mpr kn,
#[SZ,Zqa],
#[SZ,Zty],
[ZaN td],
[ZaN tt],
ZrS<=900,
#[qq,Zam0],
#[tD,hc2],
#[tD,aQP],
(ZanQ oi),
(vs++ws),
#[qt,hw],
#[Fx,Zan2],
#[Fx,ZatF],
#[tH,ZmJ],
#[bi,·,[·,·,Zsp],·],
#[S1,it],
bK xs ZDm,
(IV c ck),
#[kD,Zwb,kV],
#[tM,Zg5],
#[tM,ZR2],
#[qD,fp],
#[Fz,h₆],
aG H1 H2,
ZwC e fs,
⟨o,e,ex⟩,
⟨o,e,ex.2.1⟩,
#[sQ,I m s₆],
#[S8,us],
#[yA,Zem],
#[yC,Zqm],
#[RT,Zep],
#[qI,ak0],
#[tR,Zyi],
#[FK,ZaX],
#[FK,⟨q,ZaX⟩],
#[FO,w0],
#[FO,w1],
#[FO,w2],
#[FO,w3],
Zw5 s03,
Zw5 s02,
ZgO sT,
ZQz sT,
c<ZeZ,
Zj2<=a,
Zaw<=a,
⟨sl2,e2⟩,
(aQ5 lz),
t1 _ _ hFz,
e.nfp b z,
#[yR,Zfa],
#[yR,#[bt,ZMV]],
#[fw,(bQ B)] m=Zac,
#[fw,ZTs] m=Zac,
#[tZ,Zdw],
#[anF,h_,es].any,
#[t4,nit],
vs=[Zai e,Zy7],
#[cK,[kV p.1,p.2]],
Za0 (ZasQ) as ds,
Q (.bl (if neg then · else ·)) H,
ZoE H' P pos Zbx,
#[y3,Zaq],
· K Zi7 a xs,
#[yz,hz,ZVO],
#[yH,hb,q1],
Za3 k_ c',
#[ak3,UO.mp],
#[t7,hm],
PlainAttrs T,
#[C0,?_],
os'=s.os,
#[c4,ZOH].1,
#[TK,Ym],
#[apW,#[c8,·,ZapX]],
#[TU,Zaw],
(ZgO s3),
ZdV a=Zac,
#[TV,ZWA],
#[TV,Zav'],
#[lJ,·<ZalH y],
#[y9,hm],
#[aM,z,q1],
#[aM,z,hb],
#[c1,hsb.2].trans e,
#[aY,·,ZaV,fun a ha b hb e=>·],
#[bO,t,ZVa],
b5.nm e he,
#[hW,")",1],
#[py,1,ZtC],
Mod K mg ZaS,
#[Gk,ZSF],
#[Gk,ZauW],
f8 c ck ze H e A D B st,
#[Gm,ZUi],
#[Gn,x.2],
#[T',Zwk],
#[T',Zr6],
#[T',ZDe],
cH (ZgO ·) hq,
#[zp,Zqu],
gf X.K C f,
(hU3 u (du u hu)),
#[Uh,∃ b c d,·],
#[M',ZyF/\Q σ' H'],
#[zs,ZalJ],
#[apO,h1],
#[apO,h3],
#[Gu,#[fI,Zaw]],
Zb7 Zw_ X.A #[kN,ZFk] Q E s,
(.xd [(f,Ztq)]),
(.xd [(f,y)]),
#[Gx,Bg],
q3 y hy hf,
#[Ur,fs],
#[Uw,y0],
#[Uw,y1],
#[Uw,y2],
bk.gk g1,
(strSub_length_le ..),
ZCt=j,
X.s₀.heap.FunFrames Zhq ·,
n<Zi0,
n<Zhw,
wpAny_formatField_str · · Zaf,
Zaw<=t,
Zaof<=t,
[Ze1,ZbG],
(qR ZaI i).2,
#[UB,Zaj5],
#[f8,gF,gF],
#[GL,ac],
(ZD9 hp),
Da Zkp ·=·,
aQX _ _ (aQA n),
(a++Zas9),
(out++y),
PE X ZFk (Jd i),
#[bA,x,o'],
#[oR,h,ne],
#[oR,h,ZaG],
#[bB,ZatF,ZeT],
#[UH,Zaw],
#[UH,it],
j9 c Zl2,
#[cd,ZkX,o],
¬ p.1=k,
ZaB ?_ ih,
ZaB Zgz ih,
k _ _ z fun y=>·.tup z,
tb σ H1 Q,
#[UV,Zw6,·,·],
#[UV,Zw4,·,·],
Zom+n<Zj1,
#[pK,t,ht],
bX 9 H1 p f,
bX 9 H2 p f,
X.env.code=Zai c0,
ZalA=Zai c0,
#[U0,qw],
#[U0,xi],
(du u hu),
#[U2,∃ (d_:Zb4)(n:Nat),·],
(jW hu Zc7 ZEt ZEo),
#[G_,hx],
aQa (aXw hTI rfl ?_),
#[nb,ZbV,Zdw],
#[nb,ZbV,ZiQ],
(Zau p.1,Zau p.2),
DN Zca Ze3 g,
#[FB,C,Zda],
#[FB,C,Zht],
⟨h',g,d,t,os⟩,
#[F2,H1,H_],
(Str×Int),
#[He,aQk],
Zkl x m h,
(ZOq (t':=tk) ZmY),
#[Hj,ZgR],
#[hK,Zdp,ps,sp],
#[arf,Zc'],
⟨σ',H',ZakV,q⟩,
#[art,[]],
Zef P0,
bH.rl ok,
Zall gk,
Builtin.List.listItems Zdl,
Tok×Tok,
Zavk×Tok,
Zb3->Zye,
Zna->ZRi,
Zla->Nat,
ZaJ=ZdS,
Zkn=ZaJ,
[ZgQ,Zl_],
[ZgQ,Zam3],
op≠.In,
op≠ZCz,
∀ ds,¬ Zx1,
-(Zqj:Int),
#[VG,hx],
#[VL,JV],
#[Dp,x.1]+1,
(cne _ fw),
(cne _ fh),
ZNf m=Zac,
hk _ _ e1,
Q #[pg,Zaw] ZlR,
(b0::bs),
(b0::ak6),
(Zag Zi_::ZUP),
(ZaC Zi_::ZUP),
(sT _ _ hd),
(i+Zgd),
#[arS,xs],
#[bd,cC,W],
#[bd,gJ,W],
#[aqE,ZGR],
aQc (#[bk,z (aQJ q)]),
X.fn y=Zad,
sG y=Zad,
w.cps.toList.all fV=Zad,
(aZz.mp h1).1,
(aZz.mp h3).1,
(Zo0 h).1,
#[eB,[ZaN td]],
#[eB,[ZaN tt]],
#[bK,au ?_],
(cs++[l]),
(B.cs++[l]),
#[o_,op,CmpOp.In],
#[o_,op,CmpOp.NotIn],
bK ys d_,
(uc c z),
#[bf,(Builtin.Str.glued sep ·),_],
aQa (aXo (aQR h₄ (·) Zxp)),
Kp fp H H2,
Kp fp H Zql,
aG H3 H7,
#[V8,ZGo],
(zi cb n),
(uA cb n),
#[Wb,ZV7],
bT X.K H a xs',
aX X.K H a xs',
#[g',q',ZarI],
#[Wg,Zfh],
Zeo=[48],
(Zi5 ZamJ).sum,
(du u um),
#[s6,1,Ztf],
#[s6,1,ZtC],
(I2.env0.make C · []),
#[jN,q',ZarI],
#[k4,cC,ZaI],
#[k4,#[mr,ZiM],·],
aQa (aXZ hS rfl ?_),
#[Fi,·,(ZgI Zr5)],
ZVz->#[jl,cU],
aX K H p ys,
aQ7 _ hx1 rfl,
(zi cb 9),
(uA cb 9),
#[tL,dm,ZdK],
#[tL,dm,Zavc],
(#[bd,(ZDo g).gs.map,Zau]:Nat)-1,
(#[bd,(ZPP g).gs.map,Zau]:Nat)-1,
hf1.mono #[iG,s2],
#[Wx,Zht],
(ZPA #[E8,g.txt]),
([f].flatMap #[E8,g.txt]),
#[js,Zqm,#[nm,q_]],
cu 32 ZT9=(Zic,Zdm,bf z),
r x xs H Q,
∀ f fd,#[ar,x,x,st]->#[hK,k,ps,sp],
∀ f fd,#[ar,x,x,st]->#[bi,k,ps,sp],
aQa (aXw · rfl (aQa (wpAny_updateSeq_pair · ·))),
bT X.K H b xs',
aX X.K H b xs',
fD H a y ZmV,
#[WD,ZGl],
HK q=Zab #[gS,Zkh,ZeU],
(gz (bd es) ZDk),
TC g B e c od Zax,
TC g B e c od ZUW,
bN (Zj4 · ·) #[h9,·],
#[hH,(ZcN ZBN [] [] pos)],
#[hH,(ZcN ZBN ZdD [] pos)],
ZaZ ZaI g=Zac,
(bq (#[GB,gE,hr1,·,·])),
(bq (#[GB,ji,hr1,·,·])),
Bc es ps L,
#[WI,oH],
⟨y,H2,I2,r2,q2⟩,
⟨y,H2,I2,ry,q2⟩,
wv ZkW c0 P0,
aT Zaji Zam σ H s,
#[WM,Zc'],
#[WO,llr],
#[WS,(ZsI,y)],
b1 b o' e',
b2 b o' e',
OwnTail h bmB bm,
#[as6,Zea],
#[as6,Zah i 0],
#[W3,ZCd],
#[an8,ZCd],
#[W6,boot_list],
#[Xd,Zat4],
#[atE,#[mR,ZTy],·],
SP X Zam D ZrB s',
#[Xo,x.un],
#[atS,#[Gx,a]],
#[atY,lN],
#[atY,j3],
ZrD ZmY,
x.mono s,
Ju ZaI,
s04.trans s5,
xV.mpr hf,
ZDZ gV,
(∀ f,Zawv),
(#[se,ZWW]),
(#[te,hal]),
df×Zb3,
ZdS=Zait,
ZoN=g.dt,
x.r.length=x.n,
Zhv<=15,
Zde<=400,
ZVM<=640,
[Zl8,Zsm],
ZdW/\Zbb,
k*Zek,
ys[k2]? = Zac,
∃ o,#[bt,Zr0],
(by rw[ZaoW,q];simp),
#[at8,Zass],
#[gH,Znc,ZGU],
#[at_,ZDa],
#[aul,#[oj,0]],
#[aup,B.rw],
(aQu v_),
HH b=Zab ZavV,
(gR (ZRm)),
(code_list_new _ Zgz),
#[av,us[1]?,Zax],
#[av,d_.toArray[·-1]?,u],
#[av,Zajm,ZmV],
#[av,#[asI,Zl9],(c0,P0)],
#[auq,#[tH,h.1]],
hC3 _ _ e3',
#[d3,κ,Zb3],
#[d3,Tok,Tok],
(acc++d_),
(ZzA++[]),
#[aR,Zbg hr2],
(bf z).map,
hn a ZjD,
#[Wp,ZrL] (Zake)=·,
ai #[c4,ltH],
#[b0,Zql,ZO5],
#[auu,nm],
#[auv,¬ (M+1=1)],
#[b9,it,s],
#[cZ,Zf',ZCK],
s.heap.IsCell c v,
(fG ZaO ZcT),
#[gn,ZxG,htt],
#[auB,ys],
#[di,ZyB[i]?],
(aL vU Zaq (aj)),
¬ p.1=h,
aQa (wpAny_attempt (·)),
WK X es t,
aq hd ht,
(wr ZaI g),
#[c8,Zrx,ZaqF],
(Rr cn).2,
Nat->Zbr->ZauT,
aQd (ZamN e),
#[eW,hlv,hz],
⟨o,h1,h2.1⟩,
ah ht _ _ ac,
#[kP,(ZOt Zht ·)],
hn g ZjD,
(cne y c e),
ZfW (Int×Tok),
vs=[Zai b,ZcF],
#[pK,T,hTT],
St 0 Zv1,
u1.slot b o e n hf hx,
aXa Zab e,
#[ib,Zal S.c],
eV ci a b,
yj ZcA Zhq,
#[jJ,Zw0,·,ZRK,·],
(.pl (ZD5 a b)),
#[wj,(Zou ZRV 1 it acc env)],
Zavx=ZfX b,
upd H l1 ZauI,
#[Eu,#[y3,ZEs]],
#[m_,te,ZawC],
(gW Zaq (bR qj Zak0 ZP' aZn ZHh) rfl),
#[auY,vb],
cH (ZgO ·) hl,
#[qr,· fs=ZPA ·],
Mod X.K ZcA Zhq,
#[R6,·].flatten.length=k*·,
ZdA k=os,
un.tbls b _ e1,
ZxP=Zdu b,
bo (bd ds) d=Zbe,
#[aoP,ZaA,ZyO],
bT K H' a xs,
∀ o,Zd8->Zg5,
ZfW (ZiA Nat),
#[av,ZapM[i]?,ZmV],
(aL da (aL sW ZtF aj) aj),
#[kZ,ZbH,Zag ZD7],
Zap (Zap (Zap Za')),
#[au8,hb],
jG H' d ZGl tv',
#[zv,Zcc,ZbS],
#[GD,z,ZPI],
#[GD,w,ZQ4],
x∈Zdg\/#[a_,x],
#[au_,ZyT],
#[f8,gF,#[su," ",1]],
#[avb,Z_],
(Zr4 sep ts),
(Zah (ZoH ds)),
(zk wok).2.1,
unS.slot b o e n hf ZaV,
#[fR,l,rfl,#[mG,Zy_,·]],
qF dn nm Zde,
#[avj,ZjO],
#[Hc,Zqb,hr1],
⟨a,b,·,z3,z4⟩,
⟨H,ZtV,#[aM,BL r,q]⟩,
#[Hp,C,ZCJ],
(upd H' l o),
(hn g hg).1,
fj k #[Ns,Zxy,i_],
#[kV,cb,ZDP,·,Zmk,·],
(jk hu Zc7 Zaq ZaA rfl),
Zwv (Zbg e1) #[m',(ZCS rfl _),·,Zan],
okU u (du u hu),
bp dm ZbI rfl ZT8,
#[Xq,H,ZkA],
zm xs ok,
#[avw,ZCp],
#[avE,(x,u)],
#[avG,Zc_],
aA.Good.up (n:=n) (f:=f) ·,
#[avI,hp],
i7 (aU ZaI),
#[avK,ZgX%5],
XB x y=Zad,
E #[aj,e] ZlR,
#[avW,h'],
(Zsd (_++#[Qj,ZDN])),
yp f g (DN f N g),
(#[h_,p.1,h,p.2,ZauV])=_,
#[av3,Zmh],
aXj ?_ I_ rfl,
#[av5,b≠T],
#[lD,Zk8->ZauL->ZyT],
k l _ hl Zyv ac,
#[et,vG H · ZWX=·],
#[awd,HH],
#[awk,Zavf],
(gW Zak (iE) rfl),
#[aww,ZaI],
#[awz,Zaoq],
nm d z g hg,
#[awJ,?_],
#[awO,kU],
#[awR,Zqi],
#[awY,(Tz K lr)],
#[aw0,ZavD],
#[aw2,PySem.W.WalkO],
ZQ2 it,
Zane A_,
· #[PJ,ZavM (aZQ hv).1],
(show #[arS,ZbM] from p),
(#[akQ,Zavu]),
ZiB->ZiB,
ZiK=Zen,
Zcl=P,
acc.toList.length=ZiK,
e<ZbN,
t<Zaof,
Zf_<=13,
ZDh<=64,
[Zb1,ZE_],
#[lD,#[cf,u]->·],
∀ b xs,#[cf,ZdJ]->·,
32∉Zic,
(jf e).2,
(Zrz hc).2,
(h u aQi).2,
#[rr,f=ZD6],
#[vI,Zfe/\Zgx],
(Zac:Zgk),
#[iC,f b == n],
⟨d,hd⟩,
#[aL,aQV,F_.1],
fun c v hc r=>k c v ?_ r,
(fun b o _ hb _ e n=>· b o e n hb ZaV),
(ZfZ z).elim,
st.1.elim fun old he=>·,
(no vs H Q E h).elim,
#[cX,ZDY (· b hb)],
#[M6,· (az · H I rfl h)],
#[M6,· (#[zx,·,h])],
{ D with nx:=u D },
#[bc,(b::r)],
∃ x,#[di,ZN9]/\·,
(h.push #[Q1,Zf4,rest.toArray]).push,
(fun b q hb z=>#[c1,·.2].trans z),
fun g=>#[Wf,g],
#[CD,#[oU,ZaV]],
#[CD,aQX _ _ (aQA z)],
#[PJ,h v Zauy],
fun _ H'=>∀ x:Str,#[kL,x],
∀ [337],ZfQ->Zavd->·,
∃ ob,·/\Zakr=Zac,
· (p:=(#[VA,x.1],ZaN c)) ·,
#[ew,(Rr 0).1],
(aU l).Nodup,
(db f g m).Nodup,
· >>= fun cs=>Zck cs,
fun p=>if Zt1 then (p.1,m) else p,
· (p:=Zavi) (r:=dk r) ·,
if S i then n else n+1,
(ZiM N).find?,
if · then 1546275796 else #[b5,·,#[a4,·],#[a4,·]-·],
∀ (w:World)(h:Heap),ZWF->#[kW,0].In h,
#[alQ,#[zz,ZWu,(Zaqp),·]],
∃ w∈ws,∀ ds,¬ ZasZ,
fun acc p=>acc++·++p.cps,
∀ j,Zaqw=Zad↔·,
∀ [239][285],·->xI · g os k=·,
∃ z:Str,x=ZeG/\#[sH,ZbE]/\·,
#[sb,Zs4->∀ p∈e.r,Oo p],
∀ (w:Str)(H':Hp),·->Zb_->#[kL,w],
(fun H=>rM H c1 ·),
fun a H' g t=>i _ _ (s.nf a H' g t),
fun h n l ps r=>· · (OH _ ·) r,
∀ [473],ZmK->ZiT,
fun H' s=>· H' (#[xd,Su ·=Za9 ·]▸k H' s),
fun t2 h2=>#[np,fun t3 h3=>·],
fun a o z n=>#[Ok,·,Zqv,z],
fun b o z=>up b o · (aq z lr0),
show #[lN,(Zkk (Zi' g)),Zc_] from ce,
show #[lN,(Zkk (.go g)),Zcn] from gc,
show #[lN,(Zkk (.go g)),Zc_] from ge,
show #[lN,ZUd,Zcn] from ec,
show #[lN,ZUd,Zhu] from eg,
fun z m h=>⟨ZWC,aQ9 _ h⟩,
∀ {x y:V},GM ZGs ·=Zab ·,
fun e n z=>#[VI,·,n _ ZHd],
(QV f)[j],
(Gz Zd0),
(ZNn r2),
(P.zip vs),
(l.any ZXe),
(ZPy hjl),
(Zr8 ZUF),
(ZDo ZUq),
(ZGH ZWs),
Zab (Zah z),
(Zfv #[Tq,Zj'] · ·),
(· (ZD1 s4)),
aQo (ZasO),
(List.getElem?_inj · ·).mp (· ·),
(ZCk (ZXp)),
#[av,vs[11]?,#[aj,P]],
Nat.le_mul_of_pos_right _ e2,
aQc #[Tl,Zoq z],
(ZOf · · (·) ?_),
(hd0::hdl),
(ZHb::ZGo),
X.env.frame=Zab ZdT,
#[cp,α,β],
#[cp,Int,Int],
(ZlS d).map,
(B8 ml).map,
(#[m4,4] ZWV).map,
#[aP,m,#[Vm,ml]],
#[aP,dx,ZGX],
#[aP,nm,Zt0],
aQ (k _ _ s1),
#[bd,ZcP,fs],
PE X Zot tv,
PE X f tx,
PE X e1 t1,
#[b0,ZasY,#[auo,ZCN]],
#[fF,Zb3×Zb4],
(hch _ z).2.1,
kvs++[(k,v)],
#[bA,d1,ZcS],
(·)=fun m=>xs[i+m]?,
aQc (by exact aQs),
aQc (#[Tl,z.2]),
(ZgX-ZVi),
((·+z3)-5843264246394176785560967236497869100),
#[bB,ZdV,ZWK],
#[aM,l,Zzl],
O9 z=Zad,
ao (· ·) fun l e1 e2=>?_,
(Zag x t),
vs=#[s2,g],
#[md,ZavL,#[e9,·,Zbw]],
aQg (#[bk,· (ZoP q)]),
#[o_,z,x.1],
(j9 c Zl2),
#[cd,b,a],
#[gn,ZasV,hT],
hn b ZjD,
Zkn=ZaJ->·,
PySem.W.set_plain X J · ·,
#[c3,rfl,(nxt ·)],
#[ba,ZD8,·,ZU1,·],
W m σ H,
x::y::rt,
ZCA a=Zab ZU_,
#[cg,Zay,ZaV],
#[cg,u',r'],
#[cg,ZGQ,rfl],
(.UnaryOp · a pos),
(Da Zkp a),
#[bf,(· w z),Zv3],
(ZiE ZU_ #[hN,Zhr]),
·-ZtG=ZDi lo hi ·,
#[lJ,e.w=w],
ZaC ·.word=ZaC (Za9 ZbZ),
Zah q.1.2 q.2.2,
⟨_,rfl,·,rfl,·,Zae,·⟩,
#[oT,ZN7,#[jC,e],·],
#[eE,a,b],
#[eE,0,R.1],
#[eE,ZV3,gA P w ZpN ·],
#[e9,ZEs,ZEs],
ZaB e r,
ZaB h t,
r.repl k ry,
ZOo b o e (ax6 b),
[Zai e,ZeG],
#[gY,#[hV,xs,y]],
#[mn,iq,ZT8],
#[mn,eP,(fG Zak ZdK)],
(Zkv acc g),
(aQu (aZh _)),
#[d',ls,ZU6],
#[bW,"KINDS",kd],
#[wh,(setAttr Zjn · v)],
#[anM,t,ZbM],
#[g0,z,x.1],
(p.getD i 0),
Zck (Zbe ZrB),
#[dM,ZU9,n],
#[pq,H',ZR2],
#[BM,ZV5,Zfy],
PySem.W.hideAll_get _ e ·,
(Zhn e env),
(ot e ZauG),
(C8 cF d),
lt (el b ·) (el a ·)=Zad,
#[pw,#[y6,Zbe,·,s1]],
#[aH,nS (W.sub _ z)],
PS X (.Return · pos) ·,
·<=Zky/\Zky<=·,
(aL PX aj aj),
jL H l ds,
#[py,ZbN,12],
Mg g rfl,
_<10 ^ 15,
y∈rn (u9 c x) b,
aQh _ (ih h),
#[fN,Zb8,(Zb8-(e+k)),·],
(bq (lK · ZbI rfl cz #[pv,Zc7])),
#[jv,(dJ · Zak ZhD ZbI cz ·)],
u1.tbls b ps q,
sl1.2.2 b o q,
(nt b y q),
#[fj,lr,ZEl],
#[pI,b,a],
#[pI,ZkX,o],
#[ajd,op,r],
(B.rw e z h),
ZanT v T,
(x::xs2).map,
#[h8,[ZcF,ZauQ]],
lk x c h,
StrLaws.subAt_one x c k,
#[pK,t3,ht3],
#[h9,(up _ _ · llr)],
v=Zai b,
OQ r f.1,
Da Zkp a,
Ox asc a,
#[pP,l,Zavz],
aQa (#[pC,hz,rfl,·,·]),
fD H w · (Zab (Zau ·)),
#[R8,pos,ZawA],
Zi9 y.2 y.1,
(Gx K P0),
(ZCx xs k),
V->V->ZbQ,
#[mU,#[kD,l7,d]],
#[EP,Zab (i,t)],
Za0 (ZasQ) as ZlA,
∃ m',m'<Zzi/\_,
(List.map_inj_right (·)).mp ZbR,
kk H' s',
Zwf ZlB w,
iD w=Zay,
HT K mg c,
#[aon,b,k],
#[s6,ZbN,12],
#[ie,T,r],
ZfZ (ZaiZ b hb),
#[m2,u,u],
#[m2,Zya,Zya],
#[m2,ZFJ,ZFJ],
#[m2,ZGw,ZGw],
s.heap.IsList d Zn9,
⟨t,#[ex,aX5,aQw hi]⟩,
(#[bd,si,g]:Nat),
(·+·*ZOW)%Zes,
#[p1,fI,oI],
#[k3,yh,xh],
#[k3,yl,xl],
qe Zcl X.w H ·,
len _ _ _ _ hsp,
#[jP,(if · then j else i)],
#[sY,lN,vs,Q,E],
#[SU,0].mono s,
⟨·,(Zakf),e2⟩,
#[p5,ZdS,ZiV],
#[p5,a+(e-a),e],
(cE #[mn,f7,Zmf]),
ZNf f=Zab v,
Zxi=ZfX w,
aT X Zam ZavR H s',
#[g4,h,z,aQi],
#[Fe,ZXa,ZWR],
aXy rfl (aXx (aXk ·)),
(Zag f ZbX),
(ZtU f hf),
(x.gk g t),
fM (p++r)=p,
PT X c tc,
Heap.get?_push_ne _ _ _ hb,
#[aY,·,(Zqs),fun k hk=>·],
#[ba,·,14,[·,·,ZdC],·],
bo (bd ZRn) Zp3,
bf #[c2,·]=40::(bf ·++[32]),
#[EO,·,ZG9,(· td ty tx)],
#[th,#[dE,#[au9,0].word,ZcQ]],
(I2.kept (t':=ZrR) ·),
sL Pi.good Pi.of,
room ds Zaf,
∀ b,ZdI->G,
(Mn cb cU),
AJ d _ hd,
#[bi,14,[·,·,ZdC],·],
HT X.K ZcA c,
#[yC,⟨_,_,_,_,s2,_⟩],
(vG H1 ts (ZDc ys)),
(okU u (du u um)),
ZDT #[iG,s1],
⟨q,aQh _ hq,e⟩,
#[aoe,i<n->ZmI->g · σ H Zaol],
#[kf,(gJ ZaI)],
ZdA i=x::ZdA (i+1),
gQ (· #[cb,·]) (ZfX w),
GJ X Zfu tb,
(bh · Zsv (aj)),
(up _ _ hS1.symm z'),
0<=k/\k<62,
0<=l/\l<62,
#[anU,r,ZrM],
([],ZcO 1),
R (.ok (Zf1 res)) ZlR,
#[xl,(Yj r t)],
aX K H1 a xs,
(gZ (pT hu · Zaq)),
Un fs [] H H' h ·,
#[y6,·,by simp[d6,ea,eb,W_,vH,hmt],s2],
(aU ·).map Zdu,
b=f\/b=cy,
ZwD · u (kn u um) ·,
∀ s',ZGT->Q (Zft ·) s',
#[an9,ta σ H #[C1,·]],
(12-ZzB).toNat,
∀ f fd,ZavX->Zaqt,
#[O_,#[auw,ZkW]],
#[O_,PySem.W.codeHdIn ZkW c0 P0=Zad],
(p.getD j 0),
(upd H4 s #[hV,(ZBX Zaov),Zea]),
(upd H4 m2 ZXj),
#[a4,sIx n n hi],
1<=Zek/\Zar5,
#[za,#[Hg,dD,Zak],·],
aQa (aXZ hS1 rfl ·),
aQd ((h j).mpr z),
#[bO,t,#[cK,[·,Zah ZS6]]],
(gj w gs).map,
#[ai7,∃ i:Int,x=ZdN/\Zajv/\·],
(#[cq,ZgO,s3] (ah ·)),
b∈Zdg\/b∈Zy5\/b∈ZXh,
⟨as,·,#[j5,hp,fun t x e=>?_]⟩,
#[SX,(Zah (g i j))],
(Fm z lo hi),
#[tI,aS,ZD8,·,ZU1,·],
#[Ug,v_,n],
#[Ug,ZawG,ZaJ],
#[Ug,⟨q,v_⟩,Zep],
#[zu,#[tI,aS,·,Zfg,ZGG,·]],
(QU cb cU cL),
lA bs w=x.r,
(bR (zJ rfl) Zak0 Zsr aX3 Zmf),
wF B ZsO e c od ZaD,
#[zD,ZWE,ZDP,·,·],
aQZ ZB9 I.sz,
aQZ Zauz #[jo,aQQ],
nf ts dT,
Zan7 · it v,
⟨kdx,x,kp⟩,
(ZiM Zj2).filter,
(ZrT st Zjb),
(Zah (fk c)),
#[zy,·] (ZM0 b o e n hb hx),
List.getElem?_set_ne (aQA hj),
JH (ZaC ·) (ZaC z),
WH X id r,
· (fun a e=>a*10+e) 0,
au #[p0,fun l0 hl0=>?_],
kindsL.all (fun s=>·)=Zad,
#[eD,·]++toS Zi8,
vs=[ZeG,Zah a],
aQg (#[bn,¬ (ZW8),#[bk,· ·]]),
#[bC,h (ZMT z)],
#[G0,u,u],
(ZlS d).map Zau,
az · _ rfl (#[pD,Ztg,·]) ?_,
#[G8,ZQ4,h1],
· (bZ #[dj,ha,h] fun c s1 zz=>?_),
#[dq,#[hc,[v],Zfi,HK q=Zab #[hT,(#[mr,·] ·).map]]],
Py X G ud #[eq,#[pp,vP]],
Py X G yo #[eq,#[pp,CC]],
qF di nm #[bc,ZRn],
#[aoe,i<=Zep->ZmI->ZT_],
(aM kM ZaA (aL da · ZauO) ZEo),
#[Vb,RD X.K H n ZbV e],
#[md,#[h3,kA,#[hG,ZaA],(jm ·)],#[avh,·,ZyO]],
Za0 (At H') · xs,
Za0 (bX d H) ps fs,
#[h_,p.1,g,p.2,ZaZ r g],
#[Vm,(yu ml d)],
#[akP,s _ _ h,ZUQ],
(.Slice lo hi Zac p2),
(Bk Zhq ZaD f cy),
#[arj,H' a=Zab Zap9],
Zna->#[V_,ZDt],
JF es ZDk,
wP ZaD I.big,
[Zg7,(b:Int)],
[e,e2,e3],
[e1,e2,ZF5],
⟨ZDm,r,·,?_⟩,
⟨aj5,fun lr hlr=>?_⟩,
fun (m:Nat)=>xs[Zawj]?,
#[CL,r=w/\#[nd,r,s']],
#[VK,List.length_eq_one_iff.mp,·=1],
Zbq->Nat->Zd4,
ZWP->Nat->ZfW (Zm0×ZbQ),
Zah (ZoH ds),
PG X tg g,
PG X ZFk (va i),
wv K c P,
wv K c0 P0,
(upd H5 lq ZV6),
aQc (#[aH,kn z.1]),
aQc (#[bk,z ((h j).mp q)]),
Q (tv x.w) H,
seqIndex? i ·=Zab j,
(#[al4,·])->(Zawg)->·,
0<=k/\k<m,
((ZwV ·) b o z),
vB K C fI=Zad,
RD K H Zfg ZbV (.sq · ds),
Fb H' t x,
At H' v x,
#[w',(Zajc · u ZbV)],
az z H I rw' q,
#[Fi,h',(ZgI Zaw)],
#[th,#[dE,(ZamD g).word,Zcc]],
rd l=Zab (a,r),
hsB b o' e' ?_,
un.there b o' e' hx,
ZwD ZanB f kn ·,
aQa (aXw hS rfl Zns),
aXg (ZaoH) (#[w7,Zaub≠0]),
aQ9 (ZaoH) (#[w7,ZdF<Zes]),
k b u (hb b n) q,
⟨s,_,_,rfl,rfl,·,Ztn,?_⟩,
#[WU,Zo3,ZeR,·],
(ZakU Zam (Xe X Zam E)),
(· st (ZoA a b)),
#[C9,i1'.at,up _ _ hS2.symm e],
#[C9,i2'.at,up _ _ hS3.symm e],
#[oj,Zgd]/\k=((Zgd:Int) != 0),
#[oj,y.size]/\k=((y.size:Int) != 0),
#[p1,C,#[Vy,q,ZOl]],
#[as',H,ZaD],
#[as',H',Zc'],
#[aoa,e2,p3],
#[atC,·,(kY ZatK q.1).map],
#[atC,·,(gj ZatK q.1).map],
hs i x σ _ (y xs q) p,
#[ak9,cs,UO.msz],
#[atL,x.td.kp,·,Zap],
#[Xk,he,Zaui],
#[atM,tg,sc],
#[atP,Zel,ZdD],
#[atP,Zwm,[e]],
#[at1,#[jx,kn,uk.mp]],
(#[rZ,#[oR,he,ZaV]]),
aA.dtL_inj fs gs ·,
Mz PySem.F.slot_dict_getitem.lookup hs ·,
Zyr/\b∉Zy5,
[Ze5,Zgg,ZDA],
#[a4,ZfB]*((ZfB:Nat)-1),
[ZfC,·,Zsk,Zl8],
#[bk,#[fP,hnr,q,ha]],
(ZiM (ZVN)).map,
⟨#[bF,Zae],ZGI⟩,
∃ m,· C m/\∀ h',Zv6 C · h'->Q · ·,
(Zqj-1)/8,
∀ us:Zb4,ZdS=·->P us,
∃ q,#[fd,ZWH]/\Zau0,
(List.mem_erase_of_ne (#[bn,·,·])).mpr,
#[auj,eh2,sz],
(by rw[ac,vW,aQt];rfl),
fun hn=>Py X G · #[eq,#[s7,·,Zaf,ZT2]],
(q z hz),
(Zamf Zkv acc),
(QA a4 b4),
Zbg (#[ch,nwt,ht]),
Zly->Zly->ZbQ,
Q (!c) H1,
P.of.1 _ (ZN7 (#[b6,·])),
au #[Hn,hf.1,hf.2,·],
#[aP,ZeA,#[FH,(Zxh,Zau e.n)]],
h _ _ ZkH ?_,
b8.extBut _ _ · (b7.extBut _ _ · ·),
k1 b o b1 z,
#[hH,#[y2,ZV',p2]],
aQg (#[bk,e (ZMU q).symm]),
#[bi,2,ZfD,(· ck)],
#[cg,ZauD,PySem.F.args_list_init_2 _ _],
(cw Zhx p (cw ZbG h [])),
xh*Zhw+xl,
#[c5,Hp,V,α],
0<=v/\v<Zhw,
#[mB,· x (yO.mp (#[ap3,aU (kf · g)])).1],
#[ai5,td,∃ a,x=Zb1/\Yb H1 a/\#[m_,ty,·]],
#[fN,ZWr,Zde,i],
(aL bE #[tR,#[jH,(pv 11)]] Zyi),
Za0 (fun a (r:Zbq)=>HH a=Zab ZV1) as ·,
bK (ZEj ZaN) us,
ZdU b _ Zaqu z,
(d6 Zqg (vH (gR es)) d),
#[Ft,m4,ZsP,S.w],
upd H1 lr (Za6 []),
#[Ef,·,[#[hI,(ZcN (Zeg · p2) · [] pos2)]]],
· ZtQ hd ZCy ?_,
∀ x,x∈out->∀ y,y∈·->R x y,
#[bJ,hns,(fun i x v h1 h2 h3=>?_)],
upd H d u b,
⟨_,rfl,#[po,·],_,rfl,·,rfl,·,·⟩,
(#[FM,·,ZiN,·] (ZiN · · hi-#[SQ,·])),
#[FY,e,y,Zag ZDt],
ui P.cl hg i,
(Zs4->∃ l,·)/\(Zbz<e.n->·),
aXA ⟨H1,I1,q⟩,
#[nh,(k*ZaoG+ZE5)],
(c5 (bg (fG #[mQ,·] ZjF))),
#[avl,ZBT,x8],
aU (put ZxI b ma),
qv · #[bF,#[p7,#[awI,ZPT]]],
Zakz Zw_ h #[jh,·,·] ·,
aX K #[bA,w,#[bT,·]] t (l7 (ZoA a b)),
#[kP,#[Qk,#[g0,#[x3,t],Zj9]]],
fM l=ZauK++fM (ZcO n),
#[avq,#[auZ,[acc,x]],fun _ s₅=>#[sQ,I m s₅]],
⟨rfl,_,rfl,·,rfl,#[e',·],·⟩,
plainObj_wpAny_Assign_Attribute (bZ #[dj,hv,h] Zg3) hs,
⟨a,b,·,z3,z4,z5⟩,
#[W2,_,I.lnew (t':=ZbX) · ·,I.fresh],
uc 32 z=w0::ws,
(Fp hl hd (Zaj4 k rv) dd'),
[Zdu (lC i c),Zdu (lC j c)],
#[avA,hil,hx],
fun t (p:V×V)=>vG H ts ps t=Zab ZVa,
#[avH,t,(· a o e n)],
Za6 ((· Zaov)++[Zea]),
ZrF (fun b o q=>ZmM) Za8 ⟨#[wo,#[oj,2]],·,#[W4,·,·],lG _ ZeJ rfl _ rfl⟩,
#[avO,e,f],
#[avT,v,v],
#[avU,fun mA O r _ _ _=>?_],
bB (id hat) fun o es ho hc bx7 r=>?_,
#[t8,rfl,_,rfl,?_],
#[awl,nb,nbd],
#[awm,(#[au3,0].trans Zawq)],
ZCn s fd · (Zv7 us),
#[h_,g,f,u,mA g],
#[gK,D6 c.C H p A ZWl H'->Zjq],
(AT (i:=6) dF.nd rfl ZNR),
(CG rfl · Zak0 Zsr Zak0 T.reversed),
#[awQ,unS,h0B],
#[aw1,uw,ha],
#[ap7,0].getD rd,
· #[C4,h w #[dh,hw]],
h.mono #[iF,k.tup z],
(fun z:Str=>ZaC z),
toS (fM (ZcO 1))=ZaE\/toS (fM (ZcO 1))=ZaT,
#[atD,ZeT]\/#[atD,Zf5],
vy=Zah ZVV,
ZanT ZbV ZiQ,
AI hep (Zbl d _ hH),
u.any ho ZvU ·,
· k6 mu #[sj,#[WN,·]],
[ZaN ea,ZSd],
bP p.1/\bP p.2,
ZWy/\d=.at v,
[ZwK,ZwL,ZwM],
[Zl',Ze5,ZP8],
[ZP2,ZfC,ZeQ],
#[gK,#[xS,H',·,·]->(#[awM,Zg5])->·],
∀(h1:·=#[xQ,z1,X1]),0,
X.env.qual++ZDw = Zbx,
#[j3,ZdI->Zgu->G],
⟨Zay,ZaV,(· · · (Zae))⟩,
⟨H1,I1,q1⟩,
⟨ZaG,ZaG,ZaG⟩,
(#[kE,x.1],ZaN a),
#[aL,hj,aR (j:=j) #[ey,aQI,aQw jl]],
∀ b o u,#[xV,Zyt,Zyt],
(a::p)::ps,
∃ m,n=m+1,
#[dy,#[asr,0].trans Zmt],
#[cX,#[nf,hb,#[ib,·]]],
#[eV,e1,wQ · _],
#[j_,∃ o,·/\∀ v,Zhi≠ZeT v],
∃ xs,#[fd,#[W_,ZdB,xs]],
#[alU,k it ZaV _ st],
fun b o hb e=>#[aL,eh2,#[asP,#[aH,hb ZajY]] e],
∀ b:Zeh,b∉·.ex,
#[dz,Z9,uv,ZmJ],
∀ b o',ZdV b=Zab o'->Zem b=Zab o',
∀ k:ZbQ,(·)->Q (.bl (if neg then !k else k)) H,
∀ y∈names,y.2=Zf5->∃ c,· y.1=Zab c,
∀ y:Str,ZauN->#[hR,y,H1],
fun k=>S k||#[lJ,k=i],
(∀ y,· y=#[lJ,y∈·]),
∀ b y,#[cf,(jC y)]->·,
∀ σ HH,C σ HH->P σ HH,
∀ ps,o≠ZeS ps,
∃ e,e<10/\c=e+48,
∃ z,#[gs,wl,·,z],
(Str.cps Zsa).toList,
fun c o e=>#[tB,out c (ZOr c o e).lt],
fun h u hu=>h u (· hu),
∀ [39],(Zat3)->· xs=·*ZaJ,
fun h w hw=>· (h w hw),
∀ [429],ZFR->(∀ kv,o≠· kv)->b≠·,
fun H' x=>i _ _ (h H' x),
fun a H' g t=>eF H' (sd.nf a H' g t),
∀ B' H',oF c ck ze cb P0 lp ql H0 H' u B' · · Y d bs R_ tv->Zy0,
(fun f hf p H5 s5 hF=>#[FV,fun t5 ht5=>?_]),
show #[lL,#[dE,(Zkk (Zi' g)),Zcn]] from cc,
show #[lL,#[dE,(Zkk (.go g)),Zhu]] from gg,
show #[lL,#[dE,ZUd,Zc_]] from ee,
∀ z m:Int,0<m->0<=z%m/\z%m<m,
(· fun g=>Dt.at (Zah g)),
(Zah Zy1 ZbX),
(V0 Zgb Ze1),
(ZoA e.1 e.2),
(gz st ps),
(ZPv bt j),
(pU rfl ZD2 ·),
(· #[awX,0].kindOf ZasT ZVE),
ZcO n=c::ZcO (n+1),
Zho a=ZE_,
N.take P.length=P,
typeOf Zau2=Zck (Za2 "method_descriptor"),
(Classical.choose_spec (ex j)),
Zlz->Zlz->#[awn,ZiA,Zly],
ZG3/\Zar5/\#[PB,·],
ZO' acc x=·,
(upd Zav2 B.h #[bT,ZzC]),
#[asI,nm]=Zab (c0,P0),
(z++b++Zas9),
vB X.K C fI=Zad,
· (intBits_le_64 h1 h2),
#[aP,lr,#[gS,ZgM,g]],
#[aP,ZhA,(.dK (ZPE #[cb,(Zxh,ZaN e.l)]))],
#[lJ,p.1<q.1\/(p.1=q.1/\·)],
mkStr (ZPL x · ·),
k · (ZgR s2),
⟨_,rfl,·,_,rfl,#[mG,Zbh ·,·]⟩,
hh _ _ (sm _ ·) (sm _ ·),
kp _ _ x_ hqs,
#[oR,(aQD · (aQZ · ·)),(aZe _)],
(#[x3,C]::bm).contains ·=Zad,
k · (#[aL,ne,·]) (·),
Zamq sep ts=Zad,
ZtP++r.take j,
vs=[Zai ·,Zag w,ZcF],
(ci++[(a,ks)]),
(sb2.2 b n1).trans ?_,
#[o5,ZyK,Zfa,ZVQ],
#[hM,bf,gV,g],
#[hM,g.zip,ZdA,1],
E Zjr od H,
#[aY,p,#[ey,ai ts',ac],·],
ao e.hs fun as h _=>?_,
(Zwv (Zbg e2) ·),
(Zsd (_++[(·,tv ·)])),
defaultsOf Zl1 ZaQ=([],[]),
(cw Zks a []),
upd · dx (.xd [(f,Ztq)]),
(ZNk elts kk pos),
#[fL,ZxY,Zbe,·,#[t',(gz (bd es) ps)]],
#[av,ZajE K #[aj,·] ZOj,ZauP],
0<=r/\r<12,
#[mw,·,ZaD,b,v],
d/4%(Zkc:Int),
k+m=Ze4+1,
· Zoo ZWY m p=_,
(Zfv #[aj,fI] #[sX,Zai e]),
(ie Zgv ZlY g),
#[cL,HK,T,ZasV],
(ZCx xs k).map,
(ZalG z y).map,
R x y H2,
#[bd,toS,Zi8]<=150000,
aQd (#[akT,#[gq,#[x3,T] != Zj9]]),
yz bs w=Zac,
wv X.K c0 P,
#[RL,it,t,i],
#[jp,cs++ds,(bN · (Zj4 pd ·))],
aQa (wpAny_lookBehind hoD #[aM,hdD,pastItsLine_dict (aQZ hcD ·)] ?_),
aQa (aXw et dt ?_),
(dw #[c6,Zbw,Zbw,#[awu,Zbw]]),
jP C H k A s,
· X.K X.w.params a xs,
(af #[ig,·,4,ZQm,1,ZQm,dX]),
#[sN,.Dict,[],[],·],
#[jv,(dJ · Zak ZfE Zmm cz ·)],
ih nd2.2 h,
#[N',·,hj,fun z' _ e=>?_],
ZWq/\(Zau')/\ZxY=Zawp,
wr W x=x,
w1 g (aQC hg),
hap t (aQC e),
· (ZgX-ZVi) (#[e2,·]),
aK (id hs) fun os hos hcs hds=>?_,
aK (id hI) fun oi ei ci di=>?_,
aK (id hit) fun o2 eo2 c2 _=>?_,
[Zag #[ji,#[Ua,0].1],#[jj,#[Ua,0].2.1],#[jj,#[Ua,0].2.2]],
fD H B.w ZauA (#[TA,0].map Zau),
qw c x y,
_<=ZG1*10 ^ 85,
(Zhm a o hk),
(aQ7 _ hS1 rfl),
PI X tg (ZcN (Zeg ZvF p) · [] pos) (· ta),
oF c ck ze cb P0 lp ql H0 · u B es H_ Y d · · tv,
bO f (i+(j-i)) g=ZG7,
(· pos Zam s1 σ H1 _ I1 ·),
#[bi,(n+1+1),[ZdC],(· (n+1))],
#[RB,#[tw,id,(v::us)]],
jP C H' k A s,
((PySem.W.clsIn K ·).any fun cd=>pS cd.mro)=Zad,
(Zab (Zoh ZauH ZaQ)),
(.dK (Bq kvs k)),
(az v H I r h),
EJ · k m (r (List.ne_nil_of_mem he) _ _ ·),
⟨ZPf,(Zaug),hd⟩,
(ea,oe)::(X.pn++Zam),
nU (· z) fun _ o ho nf=>?_,
#[v5,#[hM,toS,fM,ZgV]],
∃ xs,Zawc/\h.DictOfH ZTE a xs,
List.filter (ZSM) [g]=·,
(os.drop (k+1-j)),
#[cK,#[kS,w1,m1,Zai l1]],
#[aW,·,[Zd2,ZwS,Zl_],·],
#[ak2,Ec,T.bmin,PyProof.Rows.boot_min,·],
(dJ dC Zak ZcY hr cz ·),
#[ao6,J.stop,J.go,J.yld],
cD g.at' fun ts n hl e=>?_,
cD (ZlG x c e) fun v o ho hd=>?_,
PySem.W.takerIn K C ·=Zab Zac,
⟨_,rfl,p,n,·,rfl,hn,·,·⟩,
mr (I.lstM hB) fun z2 aq8 n2 r2 j_ e2=>?_,
#[Th,Zep,Zep,Zep],
∃ o,Zem e=Zab o/\#[x0,ZalR],
#[o4,ZeK->Zbb->·->ZVX->·],
(aQa (ZalW (aQk ZGV) ZWz)),
#[ct,m7,(fG ZEr ZEr)],
#[dM,(x++y),Ze4+Zgd],
#[Tz,isSubtype (Za2 Zf3) #[my,·]],
qe P w H' Zc',
(jX (c6 ak (c6 · (c6 ak n8)))),
Zdu (bO Zca j g),
#[aoP,Zc7,(aB (bg #[c6,Zbw,Zaq,·]) bz)],
#[md,#[h3,kA,#[hG,ZEr],(jm (gZ (sY hu · ·)))],ZWd],
hs i σ _ v_ p,
s.heap.IsRevIter r d ((Zf7:Int)-1),
#[gH,[ZwK,ZwL,ZwM],·],
(((· ZC_ ·).extBut ZPk ·).extBut ZPp ·),
ZVF (e-a),
#[zj,(aQa (wpAny_loadPart hx (aQa (PySem.W.Looks.here (s:=Zai1) · ?_))))],
#[Gh,H,ZgZ,(gR es)],
⟨as,#[aM,#[b',·],hd],#[j5,hp,Zaum]⟩,
aT #[W9,·] [] ZTI H s1,
#[aqn,·,ZcO,ZFs,(ZcO ZFs),·],
Call_ (lI I hg hm boot_range ·),
allEq ks hk Zaf,
(O0 tI2 bt).trans,
ao (ZNJ h2) fun w ew rw'=>?_,
ao (ZNJ ha) fun u hu rv=>?_,
#[bK,k l ds hl hds Zaf],
k _ ac #[gA,nwm,hm] fun b o e h1 _=>Zavp,
k l _ ZWt #[tu,hl] #[jp,[t],ZaB (ah hl _ _ ac) Zan],
bB (pW lx) fun xh xl hx1 hx2 hx3 hx4=>?_,
#[bn,#[k2,ZgT]=z,jc z],
#[aq4,c,zy,y],
#[Vd,d,d,ZtY],
#[Vd,8,8,(Zgf 8)],
[ZfM,#[bv,lp],#[bv,lr],·,·,v5],
aS Zfx w K mg b ZBP 1 Zzt zj,
⟨x,H1,I1,r1,q1⟩,
#[arc,ZT_/\ZVW,·,ZT_/\Zep<=i],
#[ai8,td σ H1 fun x H2=>∃ a o,x=Zb1/\fD H2 a y o/\Q (.bl ·) H2],
#[ai8,∃ z,y=ZeG/\·],
.ask i j k,
aD N ps ZbY,
GS ps y ZbY,
Calls.Name_function_global Zj8 hg · hd,
hk _ _ (ZOZ _ _ hoc).1,
k a _ Zgt e,
aQ #[p0,#[awD,[],Zan]],
ao (Zamh hc) fun g hg hc=>?_,
#[fK,Zi9 · ZavZ,⟨lok,lg⟩],
#[mw,#[FT,ZcS],_,Zaw,ZcS],
(Zah (ZDL (iP bs))),
(#[ys,0].flatMap (Zamd (lA bs))),
dJ dC Zak ZcY ZbI cz ·,
#[m',Za',Za',#[h9,Za']],
#[E2,Zamp,#[bc,(Ga (bo · ·))]],
(L0 _ _ _ _ ZTn (aQa (·))),
⟨·,_,_,rfl,rfl,#[ch,td,hd],#[s0,b9 (by have:=ft.d;lia)],?_⟩,
#[zE,H,Q,(E #[aj,ZdZ] Zac)],
#[WT,ZXb/\ZXc/\Zav6],
(yq ml (lH a b)),
∀ f,ZmK->Zcv->ZDN->Bc es ZDk L/\Zaux,
#[atL,x.bk.kp,#[aY,(·),(·),·],Zal],
#[Xl,hc,vs,us],
R ZgV=Zac->ZRi,
uO l (0,q),
uf ns [] aXs,
d9 rd Zfg l,
Hf ea C Zac,
[ZfM,ZUJ,Zg6,#[c0,·]],
⟨·,h1,h2,(fun b o e n n'=>·),·,·⟩,
dI (k:=k) (v:=key) hk,
#[at5,#[E2,Zamp,#[hM,Ga,Zox,0]]],
∃ d_:Zb4,Zzr/\· ZaD a ZbM/\ZVS,
(QQ c ck ze),
s5.trans (#[gn,#[s2,ZS6],ht5]),
JU (ZaC w) [ZaC ZaE,ZaC ZaT],
.of_isNs (PySem.W.isNs_of_in X hok),
ZOL [v] (truthy v),
Zgf 8 ZgT=Zab ZT7,
az _ _ ex ey (up _ _ (aQ5 hSn) pn),
#[ai5,to,Zm K T x H1/\·],
1<=Zf_/\Zf_<=12,
Un Zj7 [] H · ZaD ·,
#[ba,·,2,[Zd2,ZwS,Zl_],·],
⟨?_,?_,·,·,?_,?_,?_⟩,
(TY MH U ZbI rfl),
#[bi,2,[Zd2,ZwS,Zl_],·],
#[au5,a,fun x zx rx hzx lx=>?_],
#[ua,hr6,lr,hr6,Zzn],
PC X · a #[y2,Zax,Zn6] (· ta),
#[k6,(#[Tg,RD K HK 18 ZbV e]),·,·,·],
#[GA,Zeg x Zn6,e,(V2 te (va i))],
tv σ H2 fun z H3=>#[avC,ZavN,#[pl,Zawa]],
#[bd,ZoX,gV]*·<=64*·,
Zjf->Zt6->#[xa,(ZCa e ZaQ ·),ZV9],
#[avn,· w ·=Zab f,Zb_->#[yl,Znk]->#[d9,p]],
un.free b o' e' ZUb hx,
ZaB (hRS _ aQi _ r) (ih #[i6,hRS u #[dh,hu]]),
⟨l,l3,_,_,rfl,rfl,·,·,ZWk,·⟩,
#[avt,LD,#[fK,ZaiR Zv1,fun a o e=>I2.bk a o (I2.mod.kin a o e)]],
#[Xm,hb,wh,Q,q1],
eJ (hb cl C s3 Zaoq fp) fun hg ht he=>?_,
(0<=m/\m<=ZbE),
JP xs ts z hl,
#[avJ,·,(fun σ' H' ·=>⟨M-·,Zaf,·,⟨rfl,Zae,·,·,·,·⟩⟩)],
#[avP,ZrJ vs k,·,Zaue],
#[xo,gq,kO,ZP7,Zh5,ZWj,ZP7,·],
#[av8,ZUJ,Zg6,#[c0,·]],
· hu I2 g ry #[ajn,az · H2 I3 rfl q2],
#[awy,ZhJ,Zxy,·,ZEH],
⟨z,H3,I3,r3,k,e,q3⟩,
#[awP,·,Zap (Zal (Rd.of ac))],
CE Zcm P w H s Q u s',
#[awT,u,d,(iB x H I1 ru #[d5,#[awi,·]] w_ ZSg)],
#[awW,e2,1,ZaG],
eZ I.ok.mod.glob fun o es ep e hd _=>?_,
Slot T Zda id,
Rf I1 r1 ty,
en∈ZDd (· Zi7),
[Zy8,Zzc,ZGZ,ZGY],
#[j3,ZdI->Zgu->ZkU->G],
#[j3,qw ZdY a b=·],
#[vI,Zfe/\Zgx/\Zjy],
∃ u,us=[u]/\Zk',
⟨PyData.keyHash p ZpN,Zag ZpN ·,·⟩,
⟨z.1,ht _ _ z.2.1,z.2.2⟩,
⟨fun i _=>i<n,#[Hi,x=Zah (·)],fun i _=>n<=i⟩,
∀ [337][42],ZfQ->bK (· n) (· n),
#[Q0,ZiR,Zdb #[f6,(ZDd (· p))] n],
#[cb,#[g4,h,e,aQi]],
∀ [2](D:pG),Zjf->t D σ H->#[xa,(· st ZaQ),Zav7],
∀ i x σ H,ZPi->ZmI->g x σ H #[aok,Zxq,Zxq],
#[akT,d_.toArray.any ZUN=d_.any (RN x)],
· (hsz:=hz) ZtQ dd Zauf,
∀ j d1 d2,#[awL,(ks j=Zad↔d1=d2)],
∀ {l m:·},l.Nodup->(∀ x∈l,x∈m)->Zb8<=ZN8,
fun o=>{ cls:=o.cls,dict:=Zab ·,data:=Zhi,slots:=Zaku },
∀ ψ,u≠ZvO ψ,
∀ dx H',Zb_->#[bO,dx,(.xd [(Ze1,Ztq)])]->E #[aj,Zgb] ZpY H',
fun x o e n=>b x o Zav9 n,
∀ t,#[Sy,t,t,t,·],
· (knd:=ZyG) st hat hq ·,
(fun xs H Q=>(∃ s,xs=·/\·)\/∃ i:Int,xs=[·]/\Zajv/\Q · H),
∃ ts n,#[asU,ZiW a=Zab (· p xs ts n)],
AS (c:=c) (l:=l) (p:=·) #[aM,hs,·],
∀ u h' tk,P (ZPv bt (n-1)) u->(Zav_)->R (.ok (Zf1 u)) ZO4,
fun b o b1 e=>hk b o b1 ZjB Zmt,
fun H' x=>h H' (ZPb x),
fun _ l H' hl s1 r1=>k l H' hl s1 r1,
fun w e=>q ⟨w,e⟩,
fun no H1 g1 t1=>ok.nf (CO no) H1 · t1,
Zr0 b=Zac/\b≠f/\b≠cy,
GM [ZaN w,Zai m,Zai ls] ·=·,
z.imp (fun y=>y.symm) id,
(upd H6 ZhA (.dK ((ZPE #[cb,ZWv])++[(ZmH,ZaN l)]))),
au #[cR,z,asc,Zid],
wM xs · Zac=ZaiC ·,
· P w (ZDc ts),
fk (nO ns k),
p.1=q.1/\#[aP,Zp9,#[kD,p.1.map,kV]]/\bJ p.2 q.2.2,
floordiv_int Zaf (#[Sc,Int.fdiv_eq_ediv_of_nonneg i Zaf]) (Zal (· ·)),
List.Pairwise.map _ (fun x y ne e=>ne (ZMU e)) g.nd,
kn g (aZH hg),
· _ _ c3 (Zal3 _ _ c2 (ZQ6 _ _ c1 ·)),
ZvJ (aQA (aQu hb)),
aQc (#[bk,z (so.mp ⟨q.1.2,q.2⟩)]),
fM l=ZrO n,
Data.fields _=Data.cell v,
toS l++toS m,
aQZ · (aQZ (Nat.mul_le_mul_left ZbE ·) ZaG),
ZanE pos (ZEe · ZaQ),
#[ba,x,k,ps,sp],
(aXi (aQk ZVY) aj8),
(Ft (yX w) rfl),
#[bf,(Zr4 Zzb (· ·)),ZamK],
b-Zalr=#[SJ,Zalm,Zaln,t],
ao (#[aw3,(hr.deeper _)]) fun t ht hq=>?_,
#[fL,a,b,Zow,#[VB,·,ZlC]],
ao (d r ·) fun q hq e=>?_,
aXZ hS' rfl (aQk Zavo) · (·),
#[jp,as.reverse,(n6 (Zj4 pr #[VD,h2]))],
sp (Zai x::Zzq) · (fun v H2=>v=ZaK/\#[b9,x,H2]) E,
∃ t,ZoN=.sq Zad (#[ym,ZdB]::t),
(c5 (dJ f_ Zak ZfE Zmm fW ·)),
#[RU,tg,bO,ifs,sc],
(bq (dJ e_ Zak ZfE Zmm cz ·)),
iQ C H' b Y bs,
r=gQ kvs k,
(Zan7 tg #[aj,it] u),
PI X (ZNk elts kk ax5) · ·,
#[EJ,{ B with w:=lw,h:=lh,c:=lc }],
#[ia,t,(jC x),A.d,ZU6],
#[pV,(Zaoc env #[aj,e])],
#[jJ,x,k,ps,sp],
ZCY Zd_ ·=ZCY Zd_ ·,
#[wj,(Xa I S d)],
PA X · (oE t (oE t2 ·)),
#[ai4,t,fun xs H1=>#[U2,∀ p,#[pR,p]->#[b9,p,#[d',p,·]]]],
#[ao2,aZ,C,m,k],
(#[fL,a,c,[0],[]]),
(· #[Rx,[⟨ZCd,bO,ifs,0⟩],ZbY] 0 it acc env),
#[SW,(Zah Zos),⟨ZpE,#[bm,aQz,ZiP]⟩],
· xs ts z (ZCh),
(EG ME UO.e Zmm rfl),
PG X (ZNk es k pos) ·,
(x=a/\y=b)\/(x=b/\y=a),
· _ _ hS1 hS2 hS3 hS,
#[yI,ha,q,fun ov s2 zz=>?_],
(hG Zca Ze3 ZTp []),
(#[b5,v<0,max (v+Zbj) 0,min v Zbj])=·,
(· b u e).stay (ZawB) (fun c q=>ZaoX) fun c xs q=>ZaoX,
⟨_,rfl,_,rfl,·,_,·,_,rfl,rfl,·,rfl,·,_,rfl,·,?_⟩,
#[FM,·,ZiN,ZaJ] (Zav1-ZWo),
#[a5,H1,lr,ZkF,lr,#[mE,#[Ss,0].map]],
⟨_,rfl,z,ds,rfl,N,k1 ds H1 N s1⟩,
Un (mw Zcm) [] H H' ZaD Zc',
(qC (qC (qC (qC ·)))),
(upd #[d',B.w,ZauC] B.h #[bT,Zx_]),
#[a5,HK,T,Zas1,T,Zas1],
Za0 (RD K H n) xs ds,
#[xo,·,·,Zarz,Zh5,(Qn (pv 0)),Zarz,(mz y9 Zak #[ak3,·] rfl)],
#[fH,Zwg,Zav4,(fun fin s'=>∃ v,fin=Zbe (Zf1 v)/\Q v s')],
Ztr/\#[air,p]/\∃ vs,ZyE/\s.heap.DictOf Zxb p vs,
aj1 f1 f2 ry rx,
AK f1 f3 f4 ZawV,
cD (yU h) fun i j hij a_=>?_,
(upd #[gW,kdx,ZauU] kp Zawo),
zf · _ _ p.1 p.2 e1,
Zap (cY · · · · (fun b H' nd k k'=>?_)),
k2 #[ey,ea,hn] H4 · t4,
wpAny_execs_cons (bZ (h1 Zam s σ H · I h) fun f s1 q=>?_),
· (bZ (ha Zam s σ H Q I h) fun c s1 e=>?_),
#[WL,·,x,k,ps,sp],
#[an_,∃ d kvs,x=Zni/\H1 d=Zab Ze8/\∀ o:Obj,R · ZasY],
#[GF,p,·,·,·,_,rfl,_,rfl,?_],
(IX P0 aO aI cF · ZV0 Zl6 Ww),
#[atS,(aQG z.X z.G a)],
(· (toS (fM l))).map fun n=>(n,ZcO ZFs),
ZCC ZRV · it acc env,
⟨rfl,(·+·).toNat,#[jC,#[cD,Zali]],Zaf,Zaf⟩,
#[b5,#[xD,ZGt],gz (hZ st ZGt) ·,bo st (fb p)],
· st · (x:=u) (by simpa using hu) Zaua,
∀ y o,· y=Zab o->y≠e->#[a5,H5,e,ZawH,y,o],
∀ i j,lo<=i->i<j->j<hi->lt (el xs ·) (el xs ·)=Zad,
ZaB (Zr_ a.rd Zaf) ih,
d9 rd Zfg l=Zac,
ZanD K x=Zab (c,P),
aQa (Ic hz hT fun h₁ hz₁ hs₁=>?_),
bM (kL (#[RD,xl,xh])) fun X1 z1 r1 hz1 _=>?_,
e1 x o e #[bC,·] (nl x o e),
⟨#[ch,·,ZcB],S.nd,·,·,#[at7,·,S.c],#[awh,#[tB,ai (fun z:b=·=>#[fP,·,z,hb])]],?_⟩,
(W.frame _ _ _ st1 fun b hb o z=>#[asP,fun y:S=b=>#[g4,nS,y,hb]] z),
#[GA,ZBL o f Zn6,Zot,·],
#[fN,k+1,j,(k+1-Zeb)+1],
⟨x.ev.kp k mu #[sj,·],ZW1,·,·,·,ZXf,ZwO,Zsh,Zsi,·,LO x.g0 k #[cX,Zo1 b ·],Zo1⟩,
#[Xi,d_++[u],ZaV,(ZNn (ZaB ru Zan))],
ao (ZN3 (i:=i) (x:=Zau ns[i]) #[ey,aQI,aQw hi]) ZVH,
#[ia,B.w,#[bT,ZFZ],B.h,#[bT,ZHf]],
pq ((hs.2 p.1 ·).trans e) n ne nf d,
m8 Zavv (rs:=ZvN) (f:=fun u=>·) hc · Zaf #[at2,·] (·),
sD (Zbl p _ hk) fun _ _ _ _ o _ _ e ex _=>?_,
PassesOwn Zw_ X.A ZaQ ZlO,
BW az0 rfl fl Zauk,
(j9 32 Zy4).take 1=[]↔·,
PySem.W.excIn K C Jp ZCK = Zad,
∀ es ep',Zhi=Zdb es ep'->ep'=ep,
· i1 i2 (LH hx1) (TM hx2) · ·,
#[lQ,Zaud (ZNg C Zaw)],
∃ a,Zfb/\Zg2/\Zk_/\Zqw,
#[rr,ZdI/\Zgu/\ZkU/\Zm6],
#[vI,Zfe/\Zgx/\Zjy/\Zk1],
∃ a b c d,ZsD/\ZsE/\Zzh/\ZV4,
⟨mA,vE od es ep · c,r⟩,
∀ [373],Za0 F l₁ l₂->(#[j3,·])->Za0 G l₁ l₂,
⟨⟨o,e,ex.1⟩,fun a e2=>?_⟩,
∀ b ps,#[cf,Zava]->∃ more,#[pu,(ZeS (ps++Zwc))],
#[rE,· K x y H Q],
fun e s'=>Zb7 Zwi · (Zaoc · e) (fun _ s''=>CX Zcm H s E e s'') (fun e' s''=>CX Zcm H s E e' s'') s',
PySem.W.kdl_dict (knd:=ZyG) (kvs:=vs) (ep:=ep) lo,
∃ bm N nm qn bs hdct sn sub ab col dd k0 k1 k2 k3 k5 mN,#[p1,C,#[Vy,qn,ZCK]]/\ZWJ/\·/\OwnTail h Jp bm,
(by rw[#[p5,i+(j-i),j],e2',e1']),
∀ p d,d<10->f p (d+48)=Zab ZavF,
∀ l:·,Pairs Zd_ (ZrN (· Zi7)) (ZrN ·),
((by show K_.get? S=_;rw[eh2];exact aQ7 _ hS' rfl)),
fun a H' g=>x.nf a H' (ZSw g),
∀ [187],GM [x,y,z] ·=Zab ·,
(Ms P0 aO aI cF),
(Zr1 Zl1 Zfu ZbY aq0),
(C7 cb cU cB cT),
eZ (hn2.count (PySem.Within.cons · v ·)) fun oD esD epD hoD hdD hcD=>?_,
· (ZOF hc) fun h' tk k=>az _ H (ZrD k) ?_ q,
aQd #[fc,⟨⟨·,hf⟩,s2.1⟩,s2],
au ⟨_,rfl,_,rfl,p,d,bs,tv,f,rfl,·,ZDT (#[iG,·]),kn,·,·⟩,
d9 R Zav0 (ZgU a),
·->ZmI->ZVR->g #[aj,T] σ #[bA,T,·] Zaol,
aQ #[GF,·,_,·,·,_,_,rfl,ll,?_],
aQ ⟨_,rfl,p,_,1,_,rfl,rfl,ZdH,rfl,#[Fw,1],·⟩,
aY P w K mg ZaS CX Zdp f · ps sp,
#[oR,⟨a,b,c,#[e_,d]⟩,cU],
wpAny_pyIter_range (IsRange.new ..) (· h1 h2 h3 h4) ?_,
ItemsOf (#[GK,items[Zf7-1-i]?]) k_ Zf7,
bZ (ho Zam s2 σ H2 x y v u _ I2 r1 r2 q2) ·,
yq ml (lH a b),
(hch c z).2.2.1 x c e rfl,
az f fd Zaqm ⟨a,i,g.kp⟩ Zap_,
p0/\p1/\p2/\p3/\p4,
ao (pw rv rv') fun ks he hk=>?_,
uE Zs3 · u.w u.m u.ls · (gR ·),
⟨_,rfl,·,_,1,_,rfl,rfl,·,rfl,·⟩,
#[kO,ZawS,ls,ZkF,t,ZUu],
· c ck ze H u.e u.A u.D B ZgZ,
oF c ck ze cb P0 lp ql · · u B es H_ Y d bs R_ tv,
#[b0,H',{ s with heap:=h',gens:=g',drawn:=d',toks:=t' }],
(acc+(h%Ztm).toNat*p2)%m,
(· #[atM,ZCd,ZbY] 0 it #[aj,acc] env),
M2 X o · apos e f h_,
(#[fL,ZTy,Zbe,#[eD,ZQT]++gV ZFN,Su (gz ZgZ ZDk)]),
#[nn,#[nu,#[ak8,#[xo,·,·,Zash,·,(cE #[ct,dy,Zmh]),Zash,Kt (sY hu Zak Zaq)]]]],
#[ai6,∃ c,x=.bl c/\#[dn,c,·,·]],
iB Zdl _ I2 rfl · · Zxg,
ao (hN σ3 H3 n3) fun m' hm w3=>?_,
#[yC,⟨_,_,_,_,_,s2,_⟩],
eW (#[mx,H,ZaD,p,Ze8,Zbl p _ hH]) ZarH,
vE _ es' ep' hL r',
· h n _ q.1 q.2 e3,
#[Gh,H',(bd ZWw),(gR (dncE es bs f))],
#[ap',⟨oc,od,Zwe fd,osl⟩],
d=0\/d=1\/d=2\/d=3\/d=4\/d=5\/d=6\/d=7\/d=8\/d=9,
·=ZOU (Zwd Zd_) x::ZawE,
sy (Qr P i) fun q1 q2 q3 q4 q5=>?_,
#[Ha,HK,lr,HK,lr,#[hV,ZEk,ZaN l]],
dE _ _ (ds++[·]) rfl (app ds _) #[ey,aQl,ZiP] ·,
#[o4,ZyK->b≠z->b≠TO->b≠i1->b≠i2->ZdW->·],
#[Ho,#[g1,dM,_,·,·,Zh5,WQ,(IA K Zak),#[xn,·,Zavm]]],
[ZfM,#[tW,w],Zyq,Zg6,·,·,v6,v7],
#[Dp,(Zaml #[kf,(Zv8 n (ZvM fun u=>ZUF))])]+1,
#[xa,#[kN,a],(fun v s₁=>Zb7 Zw_ X.A (Zhn b ZaQ) (fun u s₂=>#[xc,·,·,s₂]) ZlO ZiJ)],
(QS P0 aO aI cF d fl c1 vy),
#[atE,ZauJ,∀ H1 H',ZyX->ZRh->#[F4,H1,(bd (ZauF))]->#[kL,(#[eD,ZQT]++gV ZFN)]],
ZNr Zbx ZbY Zaw f cd,
ZaB (gA P w ZpN ·) rfl (· P w l),
az #[aj,ZeZ] #[d',ZeZ,·] (ZCj (t':=ZrR) (Zat') Za8 ?_) rfl (q _ hf),
⟨_,rfl,k,·,_,rfl,·,Zqk,k,·,rfl,·,·⟩,
· c o (I.cne x c e) hc nch ho ZWa,
Walks.range (prog:=Zcl) (w:=X.w) ZOG it lo · n,
bM (F_ j T hj) fun _ _ _ _ p=>?_,
#[awx,· (wM xs lo hi),Zt3],
#[aw6,ZhJ,N,sc,s0,H0],
wpAny_Call_method_late u_ aq7 D_ rfl Zau4,
jp (qk r · (#[RH,h1]) ·) fun cl e q1 q2 q3=>?_,
bM (F_ j t e) fun x y e1 e2 p=>?_,
#[rr,ZdI/\Zgu/\ZkU/\Zm6/\ZyM],
AK (s:=ZSn) a1 a2 a3 fun g2 b1 b2 b3 b4=>·,
∀ h' e,Heap.MadeExcOf h h' e Zjr ZdX->·,
∃ ix:Zbr,ix.Perm (ZiM ZiK)/\out=ix.map (#[iH,Zalx i Zj9])/\(ix.map #[iH,Zak' i ·]).Pairwise (#[CE,· a b=Zad]),
∀ [221][255],#[sM,ZNW]->∃ t,v=Zah (ZN5 i 0) t,
∃ ds,Num (gV g) ds/\Zauc=g,
∀ (r:α)(HK:Hp)(Q':VK),r∈rs->Zfi->(·)->te #[sX,#[cZ,g,r]] HK Q',
∀ {b:Zci},(b≠[]->ZWQ)->b≠[]->∀ l ps,Zzo->·,
fun H' s=>Oc rfl (k H' s),
nU (AI hep (Zbl d _ hH)) fun lo vs rel hat=>?_,
PE X (Zan' e (-1) Zac pos) (· te),
(Zkr fb).filter yH=Zkr fb,
(Ey I S1 k1 f1 t1 ·),
aZ P w K mg ZaS CX C m k ps sp,
un.slot b _ e1 ZUb #[aM,frS,aQh _ hf] hx,
vV c Zl2 0 (ZF'-0) (by show ZF'=_;rw[aQV];rfl),
Hk Pi.good Pi.of Zaf Pi.sz (#[ew,Pl di nm hL l60]),
#[kO,ZUR,B.c,(.dK (eQ B.cs ZdY++[ZavQ])),l,#[h0,[b]]],
qh c ck H Zsf D B w_ · H',
#[aoK,Zda,Zbx,Zl1,Zfu,ZbY,dV],
⟨aQ5 bx2,aQ5 az5,aQ5 az4,aQ5 hSn⟩,
p0/\p1/\p2/\p3/\p4/\p5,
cD (F_.2 i v (#[eV,aZr,e2])) fun k y hx hks=>?_,
#[qH,Zzm,∀ H1 p,ZyX->ZRh->UB cb H1 bk Y bs w f p (Q (Zag ZiY))],
(#[l3,c≠z->c≠TO->c≠i1->c≠i2->ZTw->ZFA])->·,
un.keep b o (u1.keep b o e n hf hx) ZUb ?_ hx,
BD I1 ea c hm l ?_,
Builtin.Builtins.bindParams Zj' ["key",ZPw] 0 ⟨[],ZPx⟩,
⟨m',hm,σ3,⟨H3,I3,w3⟩⟩,
kd0 · _ rfl rfl rfl rfl · ?_ (·),
⟨u.e,_,_,rfl,.ask u.e u.A u.D B ZgZ _ · rfl · · ·⟩,
#[aq1,#[kW,0].In,aY Zfx w ZkW mg ZaS · · fa fd · ·],
C8 cF d vs H Q E,
⟨1+(ZSP+k),by rw[<-e4,hk,aXm,aXm]⟩,
(fS X sc cl · N' s H ·),
aXk (bZ (hf Zam s2 σ H2 _ I2 q2) fun fv s3 ·=>ZGW),
aZm F.slot_list_append ZqB F.entry_list_append (F.args_list_append_2 _ _) (PySem.list_append l ZbM n u ZG4) ZV2,
⟨_,rfl,_,rfl,p,c.C,Zco,_,_,rfl,ZcB,ZcY,ZwU,Nl _,B.w,_,rfl,g1,_,rfl,?_⟩,
#[awK,·,(fin [(z,t)] ZbX (#[FQ,1]) ·)],
#[awZ,·,Zez,_,rfl,g1,_,rfl],
nd 1 · ZaG ZaG ZaG ZaG ZaG,
· hr.depth (· _ _ ·) rfl S.co S.gen rfl · (hb _ _ _ _ ?_),
#[rr,ZdI/\Zgu/\ZkU/\Zm6/\ZyM/\ZVT],
#[vI,Zfe/\Zgx/\Zjy/\Zk1/\Zqi/\Zy'],
#[aiw,Zqx/\Zqy/\Zqz/\ZqA/\Zze/\Zzf],
⟨z,y,·,·,ob,es,ep,ZqG,c⟩,
ZajJ (h₀:=Zhq) ZCo · (bZ ZaoZ fun us s1 ⟨vs,H1,I1,r,q⟩=>#[cu,ZNq]) he J_,
∀ [356],(∀ v,(x,v)∉binds)->·=m x,
fun J1 H2=>r9 J1 g1 (Oq tt1 te a) { nx:=Zog,rt:=Zjw } σ H2,
∀ [206],(#[se,∀ q,R u q->S u q])->Za0 R us qs->Za0 S us qs,
cZ (K:=K) (a:=lr) (xs:=ZgM g) · · · ?_ ?_,
fun nn=>#[oV,ok.2.2 a b c d rfl,nn],
(fun hn H5 s5=>k2 #[asL,· _=Zac,hn] H5 #[asi,s5] (t4.same s5)),
wpAny_Dict_empty (#[tb,ZrF (a:=Zaw) (o:=·) (t':=ZbX) (Zat6) Za8 ·,(h _ ZsU)]),
ii (ht r HK _ (aQC hr0) t1 ·),
#[bK,qG (w:="") (z:=·) (ev1.gk ·).ob (bk1.gk ·) b50 · w0 · · ZcE ·],
#[gq,Zaut == 0&&ZmT == 1&&(ZF1-Zyg) == Zf7],
#[oV,by rw[<-l1,l3,h,<-l4,l2],hl],
iA ts hl _ _ _ #[ff,k] ⟨ZEQ,rfl,fun en hen=>?_,?_,?_⟩,
#[pP,p.1,p.2]/\#[a_,p.1]/\p.1≠ZdT/\p.1∉Zj7/\∀ v,p.2.data≠ZeT v,
Ev.fits Zaf Zaf (by have:=z.c;lia) #[mB,#[TP,z.k]] (by have:=z.d;lia),
oF c ck ze cb P0 aO aI · · ZatX · · · Y1 d [] [] ZVZ,
#[kO,(upd G1 w1 ZcS),m1,Zyw,l1,ZkF],
eW (#[mx,H1,ZCN,d,Ze8,ZOr d _ hH]) ZarH,
#[yh,∃ (z:Int)(v:Zgj)(ds:Zbq),σ=[Zzd,#[c0,m],#[c0,b],·,Zg6,·,v,·]/\H2=upd H l Zp_/\ZiV=i/\Zarn],
(· d _ o kvs ep (fun es' ep' e=>?_)),
gT T id pa slot hty h1 h2 ·,
rule i j t t' s _ _ ·,
#[GJ,[head,Zai L,Zax,ZgI L,Zax],(if pl.isEmpty then Zv8 6 Zj9 else pl)],
ao (hl j y v' e1 e2 e3) fun u' r' q=>?_,
L8 G hr hg hm hk hb Zan · ha S_ he J_,
· · k_ c' (·) s3 l3 n3 ZDb p3,
au ⟨_,rfl,_,_,rfl,rfl,_,_,rfl,?_⟩,
(JY Zbx ZbY s f c' y cy),
#[bK,(En (s:=ZO4) (n:="range_iterator") w_ rfl rfl ZaG (iB · H I1 · Zgz w_ ZSg))],
⟨_,_,rfl,rfl,·,_,_,rfl,rfl,·,?_⟩,
· (bZ #[aoY,h,hq] fun us s1 ⟨xs,H1,I1,r,z,q⟩=>#[cu,#[UB,ZeX]]),
(#[avB,(ZOS)*z,e]+(-519024139352440027)*u+(-1114595852176638264772398099)*v),
gT v H' J.os J.bare J.base J.hok rv q,
#[Gv,ZarJ,ZarJ,Zat9,#[MX,un.tups b xs (u1.tups b xs q)],fun b o u q=>un.frzs b o u (u1.frzs b o u q),fun b ps q=>?_],
D5 ZaS Zbx Zl1 Zfu ZbY y vy f c' cy pm ct,
⟨_,rfl,z,rfl,zl,_,_,rfl,rfl,_,rfl,?_⟩,
W.item i s _ _ hg st fun v h' tk hv w_ kk=>?_,
⟨_,rfl,p,_,0,_,rfl,rfl,Zmu,ZbU,?_⟩,
(· D hz · · h1 h2 q_ j_ hx hy ·),
Mod K mg ·->·->D5 · aI ZWh ZWi ZG6 Zo3 vy fl c1 cy pm ct->·,
k1 f r #[asL,·,hf] t5 p _ #[asi,s6] (t4.same s6) ac (hF.mono #[DQ,ah ht5 _ _ y]),
(QI c ck ze cb cF cU cL P0 aO aI),
(Ma (n:=2) K rfl (aW (gv 0 #[xe,·]) (aW (gv 1 #[xe,·]) dX))),
EN (f:=·) hq Zaf (fun c HK Q' sK kk=>?_) (fun H1 s1 hq1=>?_),
∃ (v1 v2 v3:Zgj),σ=[ZGS,Zyj,ZfM,Zg6,#[bv,t9],v1,v2,v3]/\·/\·,
I1.write (by rw[hH];trivial) Zgt (fun b u _ e=>e) #[aR,ho] ⟨ho,hz,lo,⟨vs,rel,dd⟩⟩,
UF X Zam σ H ea C od B s',
⟨u.e,_,_,rfl,#[aw5,u.e,u.A,_,(yR _ _),x.ev.ob,x.bk,x.ta,ZGO,·,·]⟩,
⟨_,_,rfl,rfl,_,rfl,_,_,rfl,rfl,_,rfl,·⟩,
call_list_seq p · ho hc hd (fun h' c' kp e=>fin d_ r' hz h' c' kp e) (ZNH),
#[aw4,H',fl2,hok,fl.1,fl2.1,os.trans ZvT,bare],
IX P0 lp ql cF fl · · · vs H Q E,
⟨o,·,file,⟨tf,flags,tg,inF,text,tt,·,r⟩⟩,
(Mb (ix:=·) (so:=am ·) (N:=·) (N':=·) (src:=Zh5) rfl rfl Dk rfl · #[xn,·,·] · rfl rfl),
aQa (· (A:=ZiU) D hz · · h1 h2 q_ j_ ex ey ·),
ao (Qx I n (A:=·) · h1 h2 (fun hu'=>·)) fun k hk hr=>?_,
oF c ck ze cb P0 aO aI H · ZatX B es es Y1 d bs bs tv,
(QO ze cb cF cU cB cT P0 aO aI),
Yi X G rT #[eq,xD T U VM UO h (lv:=·) · iq jK],
(zh c ck ze cb cF cU cL cB cT P0 aO aI),
P_ i_ A Zcm s H vs Q E hr hsp,
ZrH · ZO8 (ZNe #[aj,fa] ZauE) (#[CL,r=.ok (Zf1 (Zft Zad))/\OldK Zkg Zc'/\s'.os=s₁.os/\ZanX]) ZiJ,
#[t9,(· X rfl rfl rfl hc i Zam s3 σ3 H3 ZlO I3 (y_ fr3) st3 ·),fun r s4 zz=>?_],
⟨_,rfl,_,_,rfl,rfl,ZRk,_,rfl,_,d,bs,tv,rfl,Int.ediv_nonneg q0 ZaG,·,b5,bl,fun wd H7 wok s7=>?_⟩,
⟨_,rfl,k,Zco,_,rfl,ZcB,Zqk,k,B,rfl,S,rfl,_,rfl,·⟩,
aQ ⟨_,rfl,p,_,1,_,rfl,rfl,Zmu,rfl,_,rfl,p,_,2,_,rfl,rfl,Zmu,rfl,two,#[C',⟨#[Fw,1],ZDI⟩]⟩,
⟨_,rfl,t9,_,_,_,rfl,rfl,·,bt0,_,rfl,t9,_,_,_,rfl,rfl,·,bt1,_,rfl,_,rfl,ZD4,·⟩,
⟨bm,ns,nm,⟨qn,bs,hd,sn,sub,ab,col,dd,k0,k1,k2,k3,k5,_,X _ _ ho,·,·,PySem.W.tail_of_in X ht⟩⟩,
NameKind,
#[o',Za4o],
Value.isInt,
((by show Za4q i ZyD=Zad;simp[Value.isInt])),
Value.isStrOf,
SeqAt.EqAt.int_str,
SeqAt.EqAt.str_int,
Value.bytes,
ob.slots,
fun b ob q _ _ _=>·,
fun b u q n _ _=>·,
PySem.W.hideAll_size,
PySem.W.of_hideAll,
Za4A _ ·,
X.env.globals,
X.A.handled,
Za4D=Zac,
X.A.frames,
(Za4F:ZfW (Zbo Env))=Zab Zar_,
X.s₀.heap.objs.size,
Za4H<=·,
b∈Zrv\/#[a4I,b],
∀ b∈ch,(Za4J)/\Zp2/\(ZVc)/\#[Tb,b],
fun b o _ _ hc e _=>·,
I.hok.kept,
e1.trans,
σ.length,
fun j y v' e1 e2 e3=>·,
List.getElem?_set_self,
z.sameBut,
hn.sameBut,
wpAny_loadName_local,
wpAny_loadName_cell,
wpAny_Name,
Za4V (· Zj8 hk · · fin) hd,
wpAny_Constant_int,
Constant_none,
Za4Y (· (az Zp6 H1 I1 #[jC,r1.none_iff] q1)),
h1.keeps,
fun pins s σ H Q I hw=>·,
wpAny_Compare1,
isTrue_and,
isTrue_or,
fun z d_ n r e=>·,
(by simpa using hs),
fun its' r' a_ _=>·,
ok.above,
ok.frames,
I.unwish,
⟨σ',H',Za4_,q⟩,
fun _ _ σ H _ I h=>·,
wpAny_execs_nil,
Za5b ⟨·,·,·,·⟩,
inplaceOp,
wpAny_assign_Name,
(by simpa using rv),
storeName,
#[pV,(Za5g ZaQ x u)],
"dict_reverseitemiterator",
"odict_iterator",
"itertools.zip_longest",
"itertools.pairwise",
I.list_inj,
h.IsTupleIter,
Za5n it t i,
(by rw[·];split<;>lia),
List.mem_filterMap.mpr,
fun _ _ _ _ _ _ _ hc q=>·,
.Compare,
(Za5s a [op] [b] pos),
!kvs.isEmpty,
!d_.toArray.isEmpty,
!xs.isEmpty,
(∃ xs,·/\k = Za5w)\/·,
#[a5x,·,#[a5x,·,∃ kvs,#[fd,Ze8]/\k = Za5u]],
(by simp only[aQz];lia),
j.length,
PySem.W.InstAt,
PySem.W.plainGet_of,
(Za5C hg).1,
PySem.W.lookIn,
∃ od,·/\∀ name,Za5E Zda od=#[cZ,mA,Zda],
wpAny_nsSet1,
PySem.W.looks_findIn,
(by simp[cw]),
Heap.Ns1.of_empty,
True.intro,
attributeBase,
Za5L · · ZaQ #[kN,·]=·,
#[a5M,o,·,o,ZxT],
#[a5N,Zda],
"object.__class__",
#[Tq,Za5P],
PySem.W.kitOne,
Value.str,
Za5S x t,
∃ t,u=Za5T,
#[Gm,Za5T],
recursionLimit,
(by have:=r.dp;lia),
(by have:=r.un;lia),
A.frames,
Za5Z=Zab ZsO,
bindArgs,
∀ (kV doc pm:Value)(an:Zgk)(i_ ct:Value)(us:Zb4),#[SV,Za51 (·) ZpW=Zapv],
#[a52,#[aoL,x,x]],
#[a52,ZavY],
r2.length,
PySem.W.callWith_K0,
cellsFrom,
(Za57 Zk7 scope.names []),
PySem.W.cellsFrom_some,
(by simpa using hi),
e0.hok.fresh,
#[tc,Za5'],
fun A outer s H args us vs Q E hr e0 hb r hsp=>·,
e0.mod.nolimit.keeps,
binaryOp,
uZ X (Za6d ·) ·,
#[a6e,.Add,·],
#[a6e,·,(rI · #[lP,Zah (·)])],
#[a6g,.FloorDiv,·,i/j],
Builtin.Slice.sliceAdjust,
Prod.ext,
slicePart_none,
pick_run,
"__getitem__",
#[aws,T,Za6m,id],
subscriptTail,
fun d_ r ht hz=>·,
seqIndex_of,
fun v u s2 x y H2 I2 rx ry q=>·,
#[a6r,ho Zam s2 σ H2 x y v u Q I2 rx ry q],
(by rw[·];simpa using ew),
SeqAt.in_listAt,
SeqAt.in_tupleAt,
o.ExactDict,
wpAny_Call_method0_late,
PySem.evalArgs_none,
xs.dropLast,
acc.toArray,
Obj.mapSeq,
aq8.toArray.size,
aq8.toArray,
(by simp[gQ,aXt,e]),
(by simp[valueAt,aXt,e']),
Paired.snoc,
(by simp[atKey,aXt,e']),
I.mod.glob.keeps,
#[aM,ZCT,Za6I I.bk],
wpAny_getItem_of,
!o.isSome,
wpAny_notIn_of,
"dict.pop",
fun w' s3 I3 rw'=>·,
PySem.F.type_dict_get,
WData.int,
pre_splitW,
{ posonlyargs:=·,args:=·,vararg:=·,kwonlyargs:=·,kw_defaults:=·,kwarg:=·,defaults:=· },
.FunctionDef,
Za6T _ · · _ _ _ _ _ _ _,
{ kind:=·,names:=·,isGenerator:=·,isCoroutine:=· },
if · then A else B,
Option.none,
compEnvC,
(Zou · 0 #[aj,it] ZSp (Za6Y sc cl C ZaQ)),
#[a6Z,ZRy],
cs.lookup,
closureFor,
Za62 ZbY ZaQ=Zck Ztd,
N'.length,
src.length=Za64,
swapsWith,
#[Tz,Za66 · · Zajk ZaQ],
#[a67,Zot,#[fI,·]],
wpAny_comprehension_free,
Za69 (use:=Zac) rfl hs hcl ZCq S.loc Zas0,
1152921504606846976,
List.all_map,
pl.isList.at,
(by simpa using e2),
(by simp at hl),
acc.toList.toArray,
fun d1 d2 e1 e2=>·,
fun us rv p1 _=>·,
us.toArray.size,
us.toArray,
#[anR,#[Q1,Zf4,Za7i]],
"__len__",
"list_reverseiterator.__length_hint__",
Builtin.List.listExtendWith,
Za7m #[aj,Zaw] #[aj,·] Zax,
old.toList.reverse,
spliced_cons,
Za7p (aXd (lI I hg2 hm2 · ?_ ZaG ZaG)),
spliced_nil,
Za7r ?_,
k_.toList,
List.length_erase_of_mem,
g1.objs.size,
#[TU,Za7v],
Obj.isFreed_of_fields,
aQ7 _ · (Za7x (Zakw · _)),
hl.of_keeps,
(Za7z #[aks,#[eE,o,Zaqv q]]),
Obj.cls_mapFields,
"BaseException.__getattribute__",
"__getattr__",
"object.__setattr__",
Heap.get?_push_at,
"ValueError.__init__",
#[av,·,(.val (Zf' Za7G))],
ExcBaseFacts,
fun b o q _ _ _=>·,
T.hasType,
hN.keeps,
hx.there,
hx.keeps,
I1.unheld,
I1.fresh0,
PySem.W.readsIn,
Za7Q K · ZUT=Zad,
PySem.W.findCls,
#[a7H,Za7S K #[aj,·] ZUT Zfy],
s2.heap.get?,
#[bt,Za7U],
s'.heap.UpToSlots,
I.stack.mem,
I.unmarked,
⟨σ',H',Za7Y ok,q⟩,
"__debug__",
#[o_,x,#[er,Za70]],
PySem.W.exmOne,
Za72 K #[aj,·] #[aj,·]=Zab ·,
#[a73,·,·,Zay],
#[a73,·,·,Zad],
∀ a∈·,#[a74,·,a],
(·.all fun a=>#[lJ,#[a74,·,a]])=Zad,
#[a74,Zgb,·],
#[a74,Zga,·],
#[a74,cU,cB],
#[a74,cL,cU],
#[a75,cU,cU],
#[a75,cF,cF],
#[a75,cB,cB],
#[a75,cT,cT],
#[a75,cL,cL],
PySem.W.Looks.ld,
X.marked,
(Za8g ea oe),
aT Za8h Zam σ H s,
evalEach,
joinParts_nil,
#[au1,#[mO,Za8k (az ZVP H5 ((I5.tok _).tok _) Za' q5) Zaf]],
show · by simpa using hm,
"WaltzError",
∃ fd:FuncData,·,
#[a8o,(·)/\·],
(by simp[eV]),
cs.Nodup,
"setdefault",
(by simp[aU]at h),
(by simp[aU]),
I.ok.stk,
I.ok.exf,
X.N.length,
Za4O=Za8x,
fun b o _ _ hc q _=>·,
fun x s₄ h₄=>·,
#[au7,#[a8A,#[xJ,h₄,fun _ s₅ h₅=>#[Gp,#[d5,h₅]]]]],
codeAny_of_tree,
aZP (Za8C ?_),
And.intro,
aQk (Za8E rfl ·),
(aQR h (fun it' s' h'=>#[a8F,h']) Zng),
List.getElem?_eq_none,
ks.Nodup,
fun x hx y hy e=>·,
List.mergeSort_perm,
(Za8K l _),
(by simp[hG]),
List.mem_flatten.mpr,
Nat.le_succ_of_le,
⟨#[Pg,aQh _ (Zg_ a ha)],Za8O ZtS⟩,
List.length_pos_iff.mpr,
loadIfAlive,
(by assumption),
Builtin.SmallTypes.ownedTupleIsFree,
#[hZ,Za8T #[aj,z]],
ts.Nodup,
PySem.F.slot_dict_itemiterator_iter,
PySem.F.slot_dict_items,
call_meetsIn,
Za8Y aZt · PySem.F.entry_dict_get · · ·,
#[a8Z,ZPf,(PySem.F.args_dict_get_3 _ _ _),·,·],
cs.length,
Za81=ZOD->·,
Nat.succ.inj,
∀ (q:Addr)(B:HA)(H':Hp),·,
Nat.log2_lt,
(Za85 h0).mpr,
Za86 (aQD hi ZcE),
strValues,
(Za88 l),
#[anR,#[Q1,Zdx,#[f6,Za89]]],
List.eq_nil_of_length_eq_zero,
16777216,
Zoi=Za9a,
(by rw[Z9];have sl:Za9b:=aQU;lia),
s'.heap.Ns,
500607328,
-2450766760,
-2125074059,
-293911445,
-4242304441,
-940908900,
71179813,
1011272585,
-2202935132,
-2676812896,
920967912,
-1341154653,
-14029467366897019727,
· = Za9q*·+Zeu*·,
Nat.mod_lt,
Za9s _ ZaG,
fun y zy ry hzy ly=>·,
862499473087128762802838249,
862499473087128762802838250,
3484413306444098645847115629,
3484413306444098645847115630,
2410371294093258740978389387193132715,
#[SK,a+Za9z,s],
15576566623696079691,
·≠Za9B,
h1.trans,
#[jx,e,Za9D],
aQc (Za9E),
9223372036854775808,
2870177450013471924,
#[pj,(·+Za9H)],
#[a9I,r],
ks.filter,
specialOf,
wpAny_isInstance,
aQa (Za9M (T:=·) (b:=Zad) · · ?_),
#[a9N,ZalR,⟨o,ho,·⟩,isSubtype_stop],
Obj.data_mapDictKeys,
reduceHash,
18446744073709551615,
#[g0,·,Za9R],
2305843009213693951,
·<Za9T,
Int.mul_left_comm,
Za9V f · ·,
-1755844984,
-1082452398,
(·=·/\·=·)\/(·=ZOW/\· = Za9X)\/(· = Za9Y/\·),
#[a9Z,c,a,d,b,Zya,ZFJ,Zya,(d:Int)-b=Zwz],
#[a9Z,D,0,e,0,D,e,D,e=Zwz],
PySem.W.kla_fn,
h.FunFrames,
base'.get?,
e0.frames,
⟨e0.mod,ZCq,rfl,rfl,ZaX,·,·,·,#[bF,hd],Around.frames_deeper Za95,Zap Zgz,Zati,ZOZ,e0.bsz,fun b _ _=>noA b,Zati,e0.funs,e0.frf⟩,
I2.after,
bB (Za97 hq') ·,
PySem.W.CodeHd,
Za99 h c P,
PySem.W.Frag,
acc.Nodup,
fun d_ rv pl _=>·,
gallopOf,
List.mem_reverse.mp,
ds.head?,
List.cons.inj,
x.cps.toList[i],
Array.getElem?_eq_none,
numbered,
Builtin.Str.partsBetween,
ne_true_of_eq_false,
(aQc (Za_k h1)).trans,
(by simpa using z),
arr.toList,
x.cps.size,
(by simpa using hen),
Char.toNat,
fun ds h1 h2 h3 h4 h5 a_=>·,
String.ofList,
a.eq.symm.trans,
z.cps.toList.head?,
∀ c∈z.cps.toList,·,
#[a_v,vb c=Zad],
List.map_id,
y.cps.toList,
h.choose,
Nat.succ_le_succ,
· ZOG · (ns:=ns) #[FP,my rv] (#[wa,aQz,hl,aXP (Za_A hz) ZaG]) fun h' tk hS hk=>?_,
(by simp[uN]),
w.cps.toList,
ps.foldl,
a.toList,
(Za_F++b.toList),
(∃ q,r=Zab q/\Fn (Zaun) Za_G q.toList)\/(·),
callType_new,
F.slot_enumerate_next,
fun _ _ _ _ _ st h=>·,
#[a_K,· st h],
#[a_L,wpAny_pyIter_rangeiter],
wpAny_pyIter_enum,
wpAny_onRaise,
h1.extBut,
q_.extBut,
aQa (kr (Za_P ZQ6 D.i1z) (Za_Q ZQ6 ZPj) hx fun h₂ h1₂ hs₂=>#[Gp,?_]),
h2.extBut,
D.i12.symm,
#[as_,Za_S,D.i2z,Za_T],
D.TOi2.symm,
j_.extBut,
#[as_,Za_W,ZPl,ZPm],
D.TOz.symm,
D.i2z.symm,
D.i1z.symm,
g5.IsTupleIter,
D.TOi1.symm,
F.entry_zip_next,
Heap.IsTuple.at,
(Za_4 · #[C8,k1 _ _ e]),
h₄.objs.size,
Array.size_push,
#[jo,Za_7],
fun b o b0 b1 b2 b3 e=>·,
hS6.symm,
hS4.symm,
hS5.symm,
fun h3 k_ c' k3 s3 l3 n3 m3 p3 f3=>·,
fun b o b0 b1 b2 b3 b4 e=>·,
"list.extend.loop",
#[wj,(Zf' Za'd #[d7,#[kS,S,z,res]])],
f.row.length,
(by simp[FB]),
"max.loop",
(ZlU Zj'++ZlU ".loop" : String)=Za'h,
tryCatch,
#[Ff,Za'j #[S1,I] _],
wpAny_tryCatch,
aQa (Za'l ·),
#[a'm,(W.done s _ _ · fun h1 t1 k1=>?_)],
#[a'm,(W.item · s _ _ Zaf st fun u h1 t1 pu st1 k1=>?_)],
fun A outer s H args us vs Q E hr e0 hb r h=>·,
ds.countP,
∃ (as:Zei)(d:Dt)(ds:Zk5),H2 p=Zab Zave/\·/\#[Vb,·]/\∀ c:Nat,(∀ f:ZauM,(∀ x,f x=Zad↔x=d)->c=Za'q f)->Q (Zah c) H2,
Prod.mk.inj,
(Za's ·).1,
List.countP_congr,
if · then 1 else 0,
(#[a'v,·]),
z.cps.toList.all,
"MOST_PAIRS",
"Unknown",
"BadName",
f.names.length,
Za'B<=200,
List.map_nil,
List.replicate_zero,
List.flatten_nil,
Nat.zero_mul,
Nat.succ_mul,
"TooLong",
Array.eq_empty_of_size_eq_zero,
∀ (l:Addr)(H':Hp),·,
#[a'K,Zgr->Zb_->·->#[d9,l]],
#[a'L,#[bO,l,·]],
#[a'L,dh H' l ·],
#[a'N,ZDk],
newTuple,
z.cps.toList.take,
z.cps.size,
"partition",
oH.nextD,
b.length,
x.ki.kp.ob,
Builtin.Str.strSliceIndices,
partValue,
slicePicked,
(Za'Y z l u Zac),
#[NB,Za'Z],
Nat.min_eq_right,
#[cD,Za'1],
Array.toList,
#[C5,aXa Za'3 d1],
"NoFigure",
"MOST_DIGITS",
"DIGITS",
"DEEPEST",
List.drop_eq_nil_of_le,
#[cD,Za'9],
Code.quiet_builtin,
(Za'' _ ·),
xs.flatMap,
(Zbab ZVj),
(Zbac++ZWe),
List.sum_append,
g.natAbs,
Zbaf<10 ^ 100,
DecidableEq,
Zbah κ,
es.filter,
#[bd,Zbaj,yH],
"NoPlan",
"NoText",
"LINE_SIZES",
"NotNew",
(by injection z),
a.length,
"no: TooLong",
"no: AlreadyIn",
"abcdefghijklm",
[ZaC "",Zag ZbZ,Zag ZaE,ZaqQ,Zag "Hey",Zag Zbat],
#[eB,Zbau],
upd H l1 (Za6 Zbau),
fun _ l ps r z=>·,
List.append_eq_nil_iff.mp,
"no: Same",
"no: Met",
"no: NoGuest",
Su ·=Za9 ZbaB,
fun f a b H' g t=>·,
#[baD,i _ _ (· f a b H' g t)],
"circle",
[Ze1,ZbaF],
"read_part",
#[RJ,ZbaH],
"_law_left",
"_law_rings_here",
"_law_ring",
[ZbaL],
"_law_found",
"NoGuest.__init__",
"Hall.__init__",
"Hall.come",
(by simp[bo,e]),
"Hall.exchange",
∀ (B:HA)(m:Str),·,
(by simp[bo,ea,eb,eab,em]),
"Hall.dress",
"Hall.acquaint",
"Hall.guests",
T.sorted,
PyProof.Rows.boot_sorted,
"Hall.wears",
"Hall.met",
"Hall.twin",
st.circ.take,
Wz.Paired.mapP',
"FigureBook.__init__",
"FigureBook.define",
"FigureBook.told",
"FigureBook.spread",
"FigureBook.check_names",
"FigureBook.length",
"FigureBook.row_of",
(by have:=·;rw[·]at this;exact ·),
w1.trans,
"source",
fun A outer s H vs Q E hr h=>·,
fun f r hr t p H' g t' ht hf=>·,
fun hn H4 g4 t4=>·,
PyProof.Rows.boot_set,
#[xB,CF,#[ak4,Eb,(c5 (bR (· rfl) Zak0 T.bset Zbbg ·))]],
fun ls H3 hls s3 h3=>·,
PassesOwn.leaving,
af (eO Zbbj rfl · · ·),
(by simpa using dn),
(by simpa using nm0),
"Keeper.__init__",
"Keeper.state",
"Keeper.pairs_left",
"Keeper.left",
"Keeper.due",
"Keeper.come",
I.hall.ob,
"Keeper.exchange",
"Keeper.dance",
"Evening.__init__",
"Evening.say",
"Evening.answer",
r.cps.toList,
"Evening.dance_line",
fun f hf p H1 g1 t1 hF=>·,
"Evening.name_line",
"Evening.number_line",
ki.kp.ob,
oG.rings.w0,
#[arh,ZbbF,Zl5],
(by simp[d6,e]),
(by simp[d6,e,hz]),
sA.trans,
#[cq,ZbbJ,sB] s3,
Nat.add_sub_cancel_left,
fun b o e _ _ _=>·,
of_decide_eq_false,
kp.trans,
Str.length,
List.length_eq_zero_iff.mp,
fun z HK Q' hz sK kk=>·,
fun b o h1 h2 h3=>·,
∀ (v:V)(H7:Hp),·,
td5.mono,
s06.trans,
X1.ki.hall.tracked,
X.g0.seq,
"LONGEST_NAME",
∃ u,#[av,mg ZbbY,u]/\bJ (Zah 12) u,
"LETTERS",
∃ u,#[av,mg Zbb0,u]/\bJ (Zag Zsa) u,
PySem.W.findIn,
#[av,Zbb2 K #[aj,·] ·,·],
#[bb3,·,·,Zac],
#[bb3,·,·,#[R0,·]],
#[bb5,·,Zakx,Za7E],
Zbb2 K #[aj,C] ·=Zab ·,
#[bb6,C],
#[bb7,f,Zac],
#[bb7,m,Zs_],
#[bb3,C,Zfy,Zs_],
PySem.W.keepIn,
Zbca K ·=Zad,
#[bcb,ZsL],
#[bcb,#[aj,·]],
#[bcb,Zjr],
Zbca X.K ·=Zad,
#[Ou,·/\#[bB,mg,ZsL]/\Zbcc/\ZWm],
I.turned,
Zbch (t':=·) · f0 f1 f3 f4 f5,
fun h' eb=>#[d5,#[bci,ZbX,#[pH,eb b o hb e]]],
#[bci,ZbX,#[pH,Zasv]],
wpAny_pyNext_range_end ZOG st (by have:n<=i:=hg;lia) Zbcj,
Zbch #[pH,kk b o (ZcM) e] f0 f1 f3 f4 f5,
· (knd:=ZyG) ZOG st hat Zalb Zbcj,
Value.type,
Zbco ·,
#[o_,#[bcp,·],#[bcp,·]],
#[bcq,ZrM,·],
u=Zbco n,
∀ y∈sc.names,·,
#[bct,y.2=·->·],
#[bcu,ZlE,ZOX y.1=Zab ZlE],
#[bct,y.2≠·],
#[bcw,ZeT],
#[bcw,Zf5],
#[bcu,Zf5,∃ c,ZNU y.1=Zab c],
#[bcu,Zf5,#[asc,ZeT]\/#[asc,Zf5]],
(by simpa using hw),
(ZbcB),
#[C4,h1 w ZbcC],
· _ Zhl (ZbcD) #[qo,Zp6,?_],
· ZUN · (#[C4,B7 rx fx r fs w (ZbcB)]) #[qo,Zp6,?_],
fun b o e n hb hx=>·,
#[bcG,?_],
#[bcG,ZSY (I7.base.keep b o e n hb hx)],
"__name__",
x≠ZbcJ,
Builtin.SmallTypes.nextOf,
#[hZ,ZbcL #[aj,·]],
#[bcM,i1],
#[bcM,i2],
#[wh,#[jh,ZbcL,it]],
s2.heap.push,
Zan5=ZbcQ Zao5,
{ s2 with heap:=ZbcQ Zao5 },
(ZbcS:Shared),
#[b0,Zaoq,ZbcS],
SeqAt.EqAt,
ZbcV A s u v ·,
#[se,#[bcW,·]],
ZbcV ZiU s us[j] us'[j] ·,
ZauX->#[yy,y]->RD X.K H n x e->Zha->ZeL->#[GN,ZWB,#[bcW,k]],
bootBuiltins,
#[bB,Zbc0,·],
#[bc1,#[my,T]],
∀ x:Str,ZbcK->mb x=Zbc0 x,
PySem.W.hasDictIn,
Zbc4 K C=Zad,
Zbc4 K ·=Zad,
noteFrame,
Zbc7 x env,
#[pV,(Zbc7 #[aj,e] env)],
List.range',
(Zbc_ k m),
#[bc',0].filter,
(Zbc_ · ·).filter,
Nat.succ_pos,
Zbdc _,
(Zbdc _),
Builtin.Str.occurrences,
Zbdf x y 0 Ze4 1,
(Zbdf · · 0 · ·),
#[bdh,z,y,ZbN,Zaur],
!#[bdh,j,i,Za5A,1].isEmpty,
ns.foldl,
#[aq_,Zbdk,[]],
#[aqk,ZiO]=Zbdk ZO' [],
#[aro,tk,Zhj _ Zbdl,#[CI,hk b u ZxK e],(show #[mw,_,_,_,(Zhj _ Zbdl)] from hS),(q _ _ _ ZsU (by simpa using d1) (by simpa using d2))],
e.r.length,
#[sb,Zs4->Zbdo=e.n],
Zbdo=e.n,
#[sb,Zs4->dh H e.l e.r/\Zbdq],
fun b u q _ _ _=>·,
#[bds,ZFa],
#[bds,⟨u.slots,ZFa⟩],
PySem.W.plainOver,
Zbdv K ·=Zad,
Zbdv K C=Zad,
PySem.W.makesIn,
Zbdy K ·=Zad,
Zbdy K C=Zad,
g.FunFrames,
ZbdB B l,
∀ g,ZGa->ZbdB B ZsO->·->Ye ZaD g->ZS7,
#[bdD,TC g B e Zakp Zakq ZUW],
wpAny_typeOf,
aQa (ZbdF (T:=·) · ?_),
#[qF,ZbdF,·],
seqItems?,
#[Ff,ZbdI #[aj,S]],
#[nr,ZbdI #[aj,t]],
h.DictOf,
Ztr/\Zais/\∃ vs,ZyE/\ZbdL Zd_ a vs,
∃ ts:·,#[asU,ZbdL Zd_ a (ZDd ·)],
FormattedValue_plain,
ZamP (ZbdO (bZ · ·)),
ZbdO (bZ #[dj,he,h] Zg3),
#[mO,#[bdP,·,fun u5 s5 zz=>?_]],
PySem.W.kla_obj,
ZbdS ZDw Zbx Zl1 Zfu ZbY Ztd ((ZcA ZbcJ).getD Zax) c' ctv,
#[TV,(ZNI (ZbdT))],
· f=Zab #[awU,ZbdS,c'],
(by have:=·;simpa using this),
#[bdW,#[rA,·]],
#[bdW,#[t5,hk]],
{ s with toks:=·,heap:=· },
#[bdZ,·,#[anR,#[Q1,Zf4,#[f6,·]]]],
#[nd,Zdl,#[bdZ,k,·]],
if _ then _ else _,
#[hQ,(Zbd2)],
(Zbd2)=_,
IsRangeIter,
Zbd5 _ _ · (·-ZtG) ·,
#[t_,tg,·,Zbd5 h it · (Zbj-Ztl) ·],
I.base.tbls,
Zbd8 b ps e,
⟨I.ok,ZvT,ZCm,#[Gv,ZbcH,ZbcH,ZB5,ZaiV,ZaiW,Zbd8],·,·,ZvU,ZvV,Zp4,tracked ⟨·,·,·⟩ hs,by simpa using I.len⟩,
pendingOf,
Zbd' w_=Zbd' st,
(by simpa using h2),
· (i:=i) ZavS (ZaiA) (Zbeb) hk,
fun j h1 h2=>#[C5,he j (ZaiA) (Zbeb)],
hI.typeIs,
aQa (aXF (name:=Zzg) Zbee aZB (aXO aZB Zbee F.entry_tuple_iterator_next ?_ (F.args_tuple_iterator_next_1 _)))]
#check[∀(vs:Zbs)(H:Hp)(Q:VK),0,
∀(K:PySem.W.Frag),0,
∀(pins:Zej)(s:Shared)(σ:St)(H:Hp),0,
∀(I:Zjf),0,
∀{pins:Zej}{σ:St}{H:Hp}{s:Shared},0,
∀(P:Program)(w:World)[1](mg:Zpf)(base:Heap),0,
∀{K:PySem.W.Frag},0,
#[vD,ZadE],
∀(hf:Zan4:=by first | exact ZnH | exact ZZB | assumption),0,
∀{P:Program}{w:World},0,
∀{kvs:Zll}{vs:ZaJI}(r:ZyE),0,
∀(xs:Zbs)(H:Hp)(Q:VK),0,
∀[0](E_:XK),0,
∀{α:Zj0}{rd:ZK4},0,
∀(l:Zd4),0,
∀{H H':Hp},0,
∀{us:Zb4},0,
∀(pins:Zej),0,
∀{ml:Zd4},0,
∀{bs:Zci},0,
∀(_:ZaeF)(_:ZnW)(_:ZabT)(_:(#[ue,Zg9])),0,
∀(e:Addr)(A:EA)(D:KA)(B:HA),0,
∀{e:Addr}{A:EA}{D:KA}{B:HA},0,
∀(h_q:cu 32 (bf y)=(ZAz,Zdm,bf r))(h_1:ZMD)(h_2:ZK9)(h_3:ZRd)(h_4:ZnC)(h_r:ZaDO)(h_p:ZaIs),0,
∀(mg:Zpf),0,
∀(e_:#[aK_,12,(EL cb cU 9)])(g_:#[Lw,Zro,12,ZaIh])(f_:#[Lw,Zrp,13,ZaIi]),0,
∀(p:Addr)(A:HA)(st:eG),0,
∀{kvs:ZuR}{xs:ZapK}(r:Zawc),0,
∀(dn:ZnX)(nm:ZHv),0,
∀{L:Zbq},0,
∀(bs:Zci),0,
∀{xs:Zbs},0,
∀(H:Hp),0,
∀(ml:Zd4),0,
∀(l:Zbr),0,
∀{cs:Zei}{ci:Zip},0,
∀(h_0:ZaE7)(h_y:ZaDP)(h_p:cu 32 (bf y)=(ZIW,Zdm,bf z))(h_1:ZacY)(h_2:ZK9)(h_3:ZRd)(h_4:ZnC),0,
∀(lt:ZaS7),0,
∀{H:Hp},0,
∀{xs:Zla},0,
#[vD,ZaFF],
∀{a:Addr},0,
∀(n:Nat),0,
∀(a:A)(b:B)(c:C)(z3:Zfe)(z4:Zgx)(z5:Zjy),0,
#[vE,Zbs],
∀{ps:Zd4},0,
∀{b:Addr},0,
∀{d:Addr}[19]{tv:ZeO}(x:ZFh),0,
∀(dy:#[aGz,10,(uz 9)])(gB:#[aNY,13,(wf 9)]),0,
∀(w m t:Addr)(wl ml:Zd4)(d:bc)(_:vs=#[kS,w,m,Zea])(_:#[aP,w,#[bT,wl]])(_:ZaNq)(_:Zabh),0,
∀{Q:ZfG}(hu:Zaet)[3](g:fD H a y o)(ry:Zha),0,
∀{E:ZfG},0,
∀(E:ZfG),0,
∀{A:Around},0,
∀(hd:Za71:=by decide),0,
∀(C:Addr),0,
∀[0](E:XK),0,
∀(k:Addr)(A:KA)(_:#[nL,k])(_:jP ck H k A oH),0,
∀(P:Program)(w:World),0,
∀(ps:Zd4),0,
∀(dC:#[kV,c.C,Zrq,3,Zmj,(x9 c)]),0,
∀{X:Cx},0,
∀(k:#[Uz,Zef,ZyT]),0,
#[n5,xs=[ZcF]],
#[n5,vs=[ZcF]],
∀{W:Zd4},0,
∀(P0:Addr)(lp:Pos)(ql:Str)(cF:Addr),0,
∀(a:A)(b:B)(z2:ZdI)(z3:Zgu)(z4:ZkU),0,
∀(_:Zfp<=ZbE)(_:∀ l S (n:Nat),Zgr->n<=Zfp->(n=Zfp↔ns.Nodup)->#[b9,l,#[gY,ZWG]]),0,
∀(dm:#[ba,ZMF,2,ZJE,AY]),0,
∀{t':Nat}[3](k:ZaKT),0,
∀{n:Nat},0,
∀(lo hi:Zgl),0,
∀(es:Zcj),0,
∀{op:CmpOp}{t:TE}(h:PC X op a b t)(h1:ZMj:=by first | exact HY _ ZaG ZaG | rfl),0,
∀(h_0:ZaE7)(h_y:ZaDP)[23](h_s:32∈bf r)(h_w:Zuy)(h_l:ZJ7)(h_b:ZR'),0,
∀(A:Around)(outer:ZcU)(s:Shared)[32],0,
∀{mg:Zpf},0,
∀{st:eG},0,
∀(h3:#[FG,X1,b,z3,V])(h4:#[FG,Y1,d,z4,V]),0,
∀{α:Zj0},0,
∀(hN:X.N.Nodup)(hi:ZnN)(hx:Zan1),0,
∀(L:Zbq),0,
∀(fs:Zb2),0,
∀(ha:ZAU)(hv:ZaNv)(hs:#[a68,(ZBL o f Zn6)]),0,
∀{tl:TE}(hl:PE X l tl),0,
∀(a:Addr),0,
∀(dD:#[LV,Zlx,1,Mo]),0,
∀(us:Zb4),0,
∀{kvs:Ziu},0,
∀{c:HX}{ck ze:Addr},0,
∀(k:ZaBS),0,
∀{kindOf:Str->#[gi,Za4o]}{x:Str},0,
∀{f:ZadO},0,
∀{es:Zcj},0,
∀{p:Addr}{f:aA}(h:ZGi),0,
∀(gC:#[ba,ZMG,1,[ZbP],GA]),0,
∀{op:CmpOp}{r:R2}(ho:ZaO0)(ha:ZKU)(hb:ZBi)(hm:ZMj),0,
∀(src:ZnZ),0,
∀(hi:ZnN:=by rfl)(hx:Zan1:=by first | exact ZaAd | exact ZBO rfl),0,
∀(iq:#[ba,ZBP,1,Zzt,zj]),0,
∀(elt t0 i0:Expr)(c0:Zbu)(t1 i1:Expr)(c1:Zbu)(scope:Scope)(pos:Pos)(it acc:Value),0,
∀(b p:Addr)(A:BA)[30](f:aA)(_:ZaKg),0,
∀(w:Addr)(W:Zd4)(_:#[nL,w])(_:#[aP,w,#[bT,W]])(_:ZaDC)(_:Ju W),0,
∀{s':Shared}{σ7:St}{H7:Hp},0,
∀(S:Zag5),0,
∀[21](st:eG)(z:Str)(q:oG)(h_0:Zacy)(h_1:ZaeB)(h_2:wG z q),0,
∀(d it:Addr)(o:Obj)(kvs:Ziu)(ep:Nat)(hep:Za1g),0,
∀(he:Zhg),0,
∀{w m ls:Addr}[78][18](e:ZTf),0,
#[vE,Zpb],
∀(s:Zb_),0,
∀{p:Addr}{A:HA}[78],0,
∀(hc:ZfT),0,
∀(od:Zgk),0,
∀(f:ZadO),0,
∀(kvs:Zll)(k:κ),0,
#[vE,ZIA],
∀[26](a b:Int)(_:vs=[ZcF,ZzX,Zup]),0,
∀{fp:Zei},0,
∀{kvs:ZuR},0,
∀(_:Zra)(_:#[cf,#[eB,zs]])(_:#[aCW,zs.length]),0,
∀(_:Zabg)(_:#[xS,H,ZgZ,(gR es)]),0,
∀(k:Zabz)(m:Zacs),0,
∀(fA:#[kV,c.C,Zc_,4,Zsl,(KQ c)]),0,
∀(jB:#[ba,ZMH,2,[ZbP,Zn7,ZMI],Gr]),0,
∀(jA:#[aYq,ZMJ,Gp]),0,
∀(hs:#[a67,e,(Zab (Zeg x Zn6))]:=by rfl)[8],0,
∀(lt:ZJp),0,
∀{g:Int}(h:Zm5),0,
∀{r:Zd4},0,
∀[80](J:ZjU)(R:ZK4)(At:ZaTj)[56],0,
∀{α β:Zj0}{F:ZaNl},0,
∀(h3:#[FG,X1,b,z3,ZMK]),0,
∀(m5:#[aYq,ZML,QJ]),0,
∀(e:ZZE),0,
∀(hu:Zain+1<Zj1),0,
∀(h1:Zaq5),0,
∀{l:Zbr}{n c:Nat}(h:ZaTO)(hc:#[pQ,l[n]?]),0,
∀(h:Heap),0,
#[BQ,ZBa],
∀(hq:#[aqS,wF B l e c od g]),0,
#[aUw,#[RD,xl,xh]],
∀(gE:#[ag8,ZBR,ZamZ,Gs]),0,
∀(Q:#[go,ZbQ]),0,
∀(eP:#[ba,ZMM,1,ZaeS,(KO K)]),0,
∀{m:Zpf},0,
∀[37](a b:Zlz),0,
∀(ha:ZKU),0,
∀{k:Addr}{A:KA},0,
∀[55][32](b:Addr)(A:BA)[30],0,
∀(c:HX)(ck ze:Addr)[32][21],0,
∀(kh:#[ba,ZMN,3,ZaHf,KU]),0,
∀{h:Heap},0,
∀(s:Shared),0,
∀(s':Shared),0,
∀{pos:Pos},0,
∀(p:Addr),0,
∀(ok:ZJ5),0,
∀(iR:#[jJ,ZMO,38,Zaw7,Za1B]),0,
∀(z:Str),0,
∀[77]{base:Heap}{CX:Di}{k:Nat}{f:Addr}{fd:FuncData}{ps:Zbp},0,
∀(t_:#[jJ,ZMP,2,ZMl,ZaM2]),0,
∀(m7:#[ba,ZMQ,1,ZaeT,QN]),0,
∀(sp:Sp)(X_:Zbs)(E:XK),0,
∀(c:Zip),0,
∀{u:Value},0,
∀(ps:Zbp),0,
∀(ns:Zbq),0,
∀(g:Int),0,
∀{l:Zd4},0,
∀(w:Zd4),0,
∀(ds:Zcj),0,
∀{ds:Zcj},0,
∀(p:ZgF),0,
∀[29][71][78](G:ZnW)(o:ZacU)(hL:Zabv)(z:Sz n st),0,
∀(W:Zd4),0,
∀{fs:Zb2},0,
∀[32](Q:VK),0,
∀{ta:TA}{p pos:Pos}(hg:Gl X ZvF)(hm:#[tZ,ZvF]),0,
#[axb,td],
∀(st:eG),0,
∀{ts:Zei},0,
∀(a b:Int),0,
∀(kvs:Ziu),0,
∀(hK:Zvn:=by rfl),0,
∀(ck:Addr),0,
∀{x y z:V},0,
∀(e:ZaAn),0,
∀{Q:ZfU},0,
∀(e:#[cf,ZdJ]),0,
∀(x:Str),0,
∀{e:Expr}{te:TE},0,
∀[9][6]{tg:Expr},0,
∀{ks:Zbq}(hk:∀ g∈ks,f g∈ks){g:Int}(hg:g∈ks),0,
∀{c:HX}{ck:Addr},0,
∀[38]{p:Addr}{f:bH}(h:ZMd),0,
∀[15](k:ZhS),0,
∀{C:Addr}[15],0,
∀(X:Cx)[17](σ:St),0,
∀[41]{D:pG}{σ:St}[38],0,
∀(ks:Zbq),0,
#[n5,Zag5],
∀{m c g:Int}(h:g∈Zfq m c),0,
∀(g:ZhS),0,
∀(f7:#[ba,ZMR,1,[ZeQ],QL]),0,
∀{us:Zei}{qs:ZZ2}{R S:#[YA,V×V]},0,
∀(s:ZL4),0,
∀[38]{a b:Addr},0,
∀(hi:PE X i ty),0,
∀[147][42](r:ZfW (ZiA Zly))(out:Zlz),0,
#[n5,ZGi],
∀[2](x y:V)(v u:Value)(Q:VK),0,
∀[61]{pins:Zej},0,
#[vE,Zlz],
∀(f1:Zaxc)(t1:ZJH),0,
∀(c:Nat),0,
∀[160](_:Zab_)(_:Zio)(_:Zv4),0,
∀(gD:#[ba,ZBS,1,[ZeR],Mq]),0,
∀{H0:Hp}{w m ls:Addr}[18](x:ZTf),0,
∀(_:ZK9)(_:ZRd)(_:ZnC),0,
∀(i:Nat),0,
∀[157][44](i:Int)(v:V)(e1:x=ZcF)(e2:y=ZdN),0,
∀{l:Addr},0,
∀[63](_:#[fd,Ze8]),0,
∀[93](hf:Wo f){K:Zbq}(hk:∀ g∈K,f g∈K),0,
∀(hN:N0=0\/N0=Zn8),0,
∀(s:ZIf),0,
∀{z:Str}{ds es:Zbr}(a:Zx1)(b:Num z es),0,
∀[61][41]{xs:Zpb}{i o:Expr}{ty:TE},0,
∀(X:Cx),0,
∀(CX:Di)[5](N:Zbp)(qual:Str)(scope:Scope),0,
∀(neg:Bool)(x:V)(y:V)[178],0,
∀(p:_)(ys:_)[63](_:(bT K H p ys\/ZaIf)),0,
∀(ci:Zip),0,
∀{ci:Zip},0,
∀[149]{s:wq}{B:HA}[78](x:#[WI,s]),0,
∀[117](ts:ZaJJ),0,
∀(gs:Zbq),0,
∀(os:Zbq),0,
∀(jK:#[ba,ZBT,1,[ZeR],x8]),0,
∀[71](hn:n<=9),0,
∀(fs:Zpa),0,
∀{y x:V}{u v:Value},0,
∀{P:Addr}[156]{qual:Str}(x:ZKz),0,
#[BQ,ZafF],
∀(w:Str),0,
∀{C:Addr}[38][46]{A:BA}[19](B:ZSb),0,
∀(M:ZTf),0,
∀(B:Heap)(l:ZcU)(e:Addr)(c:Value)[114],0,
∀(a:A)(z1:Zfb)(z2:Zg2),0,
∀(prog:Program)(w:World),0,
#[vD,ZJ5],
∀{i:Nat}{x:Str},0,
∀(ha:PT X a tA),0,
∀(v:Value),0,
∀(ry:Zha),0,
#[vD,Zag5],
#[n5,ZaBE],
∀[181](d:bc),0,
∀(hj:ZaKE),0,
∀[157][168][63](_:bT K H p Zyx),0,
∀(k:Addr)(A:KA),0,
∀{c:Nat}(hc:c<256),0,
∀{x:aA×Nat},0,
∀(e:Addr)(A:EA)(Y:BA)[30](y r w z:Str)[75],0,
∀{s:Shared},0,
∀(x:V)(lo:Zgl)(hi:Zgl)[178],0,
∀{H H1 H2:Hp},0,
∀(ht:#[aLZ,b∉fp]),0,
∀[65](P:Ju W),0,
∀[80](rd:ZK4),0,
∀(e:Zlg)(o:ZuL),0,
∀{P:Zbp}{vs:Zb4}{i:Nat}[146],0,
∀[9][38][139](hb:Zaiq<Zj2),0,
∀{g:Int},0,
∀{l:ZdP}{m:ZX'},0,
∀{w:Str},0,
∀[21][73](Y:BA)[30][82],0,
∀(new:#[mw,Zql,h',a,o]),0,
∀(Q:Zgp),0,
∀[53]{C:Addr}[16]{kw:Zs5},0,
∀(tt0:TT)(wi1:TI)(g1:TG)(tt1:TT)(te:TE),0,
#[BQ,bs≠[]->∀ l ps,Zzo->l∉F],
∀[32](bk:Addr)(Y:BA)[30](w z:Str)(Q:VK),0,
∀(k:Nat),0,
∀[182]{ps:ZZ2},0,
∀{C b:Addr}{Y:BA}[19](x:iQ C H b Y bs),0,
∀(l b:Addr)(xs zs:Zbs)(_:x=Zlb),0,
∀[188](eb:ZLj),0,
∀[38][182][39](h:Zahm),0,
∀(z0:p0)(z1:p1)(z2:p2)(z3:p3)(z4:p4),0,
∀(vs:Zbs),0,
∀(σ:St)[32],0,
∀(g:Int->Int->V),0,
∀(i j:Int)(e1:x=ZdN)(e2:y=ZH0),0,
∀{d_:Zb4},0,
∀(outer:ZcU)[58][32][154](Q:VK),0,
∀(l:Addr),0,
∀[61][4][41],0,
∀{names:Za4p}{x:Str},0,
∀(wi:TI)(g:TG)(tt:TT),0,
∀(rs:ZSl),0,
∀{elts:Zbu}{kk},0,
∀(c:HX)[186],0,
∀{z:Str},0,
∀[157](f:bH)[64](_:ZMd)(_:f.Ok),0,
∀(ok:ZXv),0,
∀(hk:k=1\/(k<=20/\Zat3)),0,
∀[13][71]{l:Zbr},0,
#[vH,ZaPK],
∀(ta:ZRd),0,
∀(k:#[jk,Zy0]),0,
∀(b1:ZBU h1)(b2:ZBU h2),0,
#[aUw,gX],
∀(m k:Nat)(arr:Zm0)(free:Nat),0,
#[aw_,ZaIM],
∀{v:Value},0,
∀{α β:Zj0},0,
∀[9][38][153],0,
∀(H H':Hp),0,
∀(e:ZeK),0,
∀{x:Str}{v:V}[166][156](hg:Zee),0,
∀(x y:V)[178],0,
∀[38][27](k:ZhX),0,
∀[180](he:ZaCl),0,
∀(h1:j<ZdS)(h2:j<Zait),0,
∀{c:HX}[38][112]{d:bc}{Q:VK}{E:XK},0,
∀{w:Zd4},0,
∀[61]{tg:Expr}[1]{l:Expr}[85][185],0,
∀[115](N:Nat),0,
∀{x:Nat}(h:ZI9),0,
∀{base h:Heap}{f cy b:Addr}{o:Obj},0,
∀[277]{k:Nat}{x:Int},0,
∀[198][46]{A:BA}[19],0,
#[vH,#[zE,H,Q,R]],
∀(ev:f8 c ck ze H e A D B ZZO),0,
∀[31][16],0,
∀(i:_)(j:_)(_:xs=#[cd,i,j]),0,
∀[53](r:ZI8),0,
∀{as:Zei},0,
∀(hn:ZE4),0,
#[vH,Za0Z],
∀(te:TE),0,
∀{p:κ×V}{r:Zll}{k:κ},0,
∀[6][38][41][31]{ds:Zk5}[71],0,
∀[26][169](_:ZaNN),0,
∀{fs:Zpa},0,
∀[71]{p:Addr}{f:aA},0,
∀[277](h:Zhb),0,
∀[110](ts:Zayx),0,
∀[32][21][73][30][82][160](Q:VK),0,
∀[43](z6:Zk1)(z7:Zqi),0,
∀[41]{o:HO},0,
∀(hn:ZbcK:=by decide),0,
∀[55][88](kw:Zs5),0,
∀{binds:Zs5}[146],0,
∀[230](o:Expr)(m:Str)(apos:Pos),0,
∀(p:Params),0,
∀[305]{ds:Zbr}(h:Zx1),0,
∀(ne:ZlA≠[])(x:ZJP),0,
∀(S:ZaaP)[42],0,
∀[46]{o:Obj},0,
∀{s' σ7 H7},0,
∀[14](g m:Int),0,
∀[285][167](sp:Sp),0,
∀[223]{o:HO},0,
∀(ea C:Addr)[114](B:Heap)[155],0,
∀{ea:Addr}{oe:Obj},0,
∀(B:HA)[181],0,
∀[173]{d:bc},0,
∀(κ:SortKind)(a0:Zlz),0,
∀{kv:Ziu},0,
∀{l₁:ZdP}{l₂:ZX'},0,
∀{o:Zgj}{u:Zpe},0,
#[aw_,ZaeF],
∀(a:ZaHF),0,
∀(R:ZZx),0,
#[vE,ZiB],
∀[2](x:V)[44][255][88](Q:VK),0,
∀(a:GM xs i=Zab v)(h:ZAE),0,
#[BQ,Za0y],
#[n5,ZLC],
∀{prog:Program}{w:World}[53],0,
∀(h:PE X e t)(h2:Zafd),0,
∀(hX:#[ev,X]),0,
∀(f c':Addr)(y:Str)(cy:Addr),0,
∀[305](h:ZaHi),0,
∀[90][38][22][78],0,
∀[67](z5:Zm6)(z6:ZyM),0,
∀[191](t:Tok),0,
∀[32][86],0,
∀(e:Expr),0,
∀{e:Expr}{t:TE}(h:PE X e t),0,
∀(lo:Int)[42],0,
#[vE,ZdP],
∀[3](hH:Zra),0,
∀[298][44](y:V)(_:x=Zlb),0,
∀[42](hu:Zaio),0,
∀(d:Addr),0,
∀{l:ZcU},0,
∀[201](b:Int),0,
∀[55][12],0,
∀(hn:#[aeR,ZEM]),0,
#[vH,#[ev,a]],
∀(g:Zbq),0,
∀[15][223][130](h:ZJP),0,
∀[90][15][22],0,
∀(g:#[aWl,GR]),0,
∀(a:A)(b:B)(c:C),0,
∀[1][24],0,
∀(sc:Scope),0,
∀[230](es:Zbu)(t:TA),0,
∀(x:V)[32],0,
∀{D:pG}{f:Flow}{s':Shared},0,
∀(f:Str),0,
∀{k:Nat}[53](r:fj (k+1) A),0,
∀(d_:Zb4),0,
∀[1](T:String)[140](to:TE),0,
∀[10](k:κ),0,
∀{y:V}[166],0,
∀(vs:Zb4),0,
#[vH,Zln],
∀(a b:Addr),0,
∀[14][169],0,
∀(X:ZqW),0,
∀(c:HX),0,
∀[105](w':Zd4),0,
∀(ks S:Zbq),0,
∀[46]{o:HO},0,
∀{f:bH}(ok:f.Ok),0,
∀(f:aA)[64][211],0,
#[axb,#[jh,tC,a]],
∀[15](k:ZIC),0,
#[BQ,ZaDK],
∀(hl:ZyU),0,
∀(q:ZaGW×ZaG9),0,
∀(h_0:vs=[Zag w,Ztp]),0,
#[vD,Zn4],
∀(ln:ZnC)(hn:Zna),0,
∀[318]{F G:ZaNl},0,
∀[62](hp:ZaEU),0,
∀(fp:Zei),0,
∀(Q:ZfG),0,
∀{σ:St}[38],0,
∀{H':Hp},0,
∀(C:ZaNm)[294],0,
∀[55](m:Str),0,
∀(l:ZdP),0,
∀{Q:ZfG},0,
∀(hu:Zaet)[3],0,
∀{es:Zbu},0,
∀(cs:Zei),0,
∀(k:#[aic,d]),0,
∀[128](p:Zm0)[285],0,
∀{N:Nat}(hN:K.length<=N),0,
∀[270][275](hg:g∈Zir),0,
∀(A:HA)[298],0,
∀(h3:x=ZaTi),0,
∀(d:Nat)[34],0,
#[vD,aA×Nat],
∀{vs:Zbs},0,
∀(dj:#[aiu,ZGU]),0,
∀{q:oG}{s:Str}(h:s∉Oy),0,
∀(MH:Ya P w K mg ZaS c),0,
∀{mA:Zpf},0,
#[n5,Zol],
#[n5,Zra],
∀(c:Int)(_:vs=[ZzW]),0,
#[vH,ZaFp],
∀(d:bc),0,
∀(R:#[cp,Zly,Zly]),0,
∀[147](out:Zlz),0,
∀{f:aA},0,
∀(bk:ZK9),0]
section
variable{A B C D E F H I J:Sort _}{G p0 p1 p2 p3 p4 p5:Zaa}{q0 q1 q2 q3 q4 q5:A->Zaa}{r0 r1 r2 r3 r4 r5:#[cp,A,B]}{s0 s1 s2 s3 s4 s5 s6:#[c5,A,B,C]}{t0 t1 t2 t3:A->B->#[cp,C,D]}{u0 u1 u2 u3 u4 u5 u6 u7 u8:A->B->#[c5,C,D,E]}{w0 w1 w2 w3:A->B->C->D->#[c5,E,F,H]}{y0 y1 y2:A->B->C->D->E->F->#[c5,H,I,J]}
def eJ(h:p0/\p1/\p2)(k:p0->p1->p2->G):G:=by
 obtain⟨z0,z1,z2⟩:=h;exact Zahe
def ao(h:Zac7)(k:ZagK):G:=by
 obtain⟨z0,z1,z2⟩:=h;exact Zahe
def RK(h:#[rr,ZdI])(k:#[j3,ZdI->G]):G:=by
 obtain⟨z0,z1,z2⟩:=h;exact Zahe
def iu(h:p0/\p1/\p2/\p3)(k:p0->p1->p2->p3->G):G:=by
 obtain⟨z0,z1,z2,z3⟩:=h;exact ZvA
def nU(h:p0/\Zac7)(k:p0->ZagK):G:=by
 obtain⟨z0,z1,z2,z3⟩:=h;exact ZvA
def aK(h:#[Xd,Zk_])(k:∀ a,Zfb->Zg2->Zk_->G):G:=by
 obtain⟨z0,z1,z2,z3⟩:=h;exact ZvA
def OM(h:#[Uh,Zat4])(k:∀ a,Zfb->ZaP'):G:=by
 obtain⟨z0,z1,z2,z3⟩:=h;exact ZvA
def cD(h:ZasN)(k:ZaUy):G:=by
 obtain⟨z0,z1,z2,z3⟩:=h;exact ZvA
def iw(h:#[vI,Zfe])(k:#[rs,Zfe->G]):G:=by
 obtain⟨z0,z1,z2,z3⟩:=h;exact ZvA
def sy(h:Za1U)(k:p0->p1->p2->p3->p4->G):G:=by
 obtain⟨z0,z1,z2,z3,z4⟩:=h;exact Zrn
def eW(h:p0/\p1/\Zac7)(k:p0->p1->ZagK):G:=by
 obtain⟨z0,z1,z2,z3,z4⟩:=h;exact Zrn
def JG(h:p0/\ZasN)(k:p0->ZaUy):G:=by
 obtain⟨z0,z1,z2,z3,z4⟩:=h;exact Zrn
def jp(h:Za1j)(k:∀ a,Zfb->Zg2->Zk_->Zqw->G):G:=by
 obtain⟨z0,z1,z2,z3,z4⟩:=h;exact Zrn
def jq(h:ZaI2)(k:∀ a,Zfb->Zg2->ZaP'):G:=by
 obtain⟨z0,z1,z2,z3,z4⟩:=h;exact Zrn
def bM(h:Zahv)(k:ZaY1):G:=by
 obtain⟨z0,z1,z2,z3,z4⟩:=h;exact Zrn
def ko(h:ZaL5)(k:#[rs,Zfe->Zgx->G]):G:=by
 obtain⟨z0,z1,z2,z3,z4⟩:=h;exact Zrn
def dR(h:Za2X)(k:p0->p1->p2->p3->p4->p5->G):G:=by
 obtain⟨z0,z1,z2,z3,z4,z5⟩:=h;exact ZBI
def mr(h:p0/\Zahv)(k:p0->ZaY1):G:=by
 obtain⟨z0,z1,z2,z3,z4,z5⟩:=h;exact ZBI
def qq(h:∃ a,Zfb/\Zg2/\Zk_/\Zqw/\q4 a)(k:∀ a,Zfb->Zg2->Zk_->Zqw->q4 a->G):G:=by
 obtain⟨z0,z1,z2,z3,z4,z5⟩:=h;exact ZBI
def bB(h:Za1k)(k:#[j3,ZdI->Zgu->ZkU->Zm6->G]):G:=by
 obtain⟨z0,z1,z2,z3,z4,z5⟩:=h;exact ZBI
def eZ(h:ZaY3)(k:#[rs,Zfe->Zgx->Zjy->G]):G:=by
 obtain⟨z0,z1,z2,z3,z4,z5⟩:=h;exact ZBI
def pL(h:∃ a,Zfb/\Zg2/\Zk_/\Zqw/\q4 a/\q5 a)(k:∀ a,Zfb->Zg2->Zk_->Zqw->q4 a->q5 a->G):G:=by
 obtain⟨z0,z1,z2,z3,z4,z5,z6⟩:=h;exact Zaid
def Bt(h:Za2C)(k:#[j3,ZdI->Zgu->ZkU->Zm6->ZyM->G]):G:=by
 obtain⟨z0,z1,z2,z3,z4,z5,z6⟩:=h;exact Zaid
def eX(h:Za1l)(k:#[rs,Zfe->Zgx->Zjy->Zk1->G]):G:=by
 obtain⟨z0,z1,z2,z3,z4,z5,z6⟩:=h;exact Zaid
def ug(h:Za3g)(k:#[j3,ZdI->Zgu->ZkU->Zm6->ZyM->ZVT->G]):G:=by
 obtain⟨z0,z1,z2,z3,z4,z5,z6,z7⟩:=h;exact Zaig
def gi(h:ZaLG)(k:#[rs,Zfe->Zgx->Zjy->Zk1->Zqi->G]):G:=by
 obtain⟨z0,z1,z2,z3,z4,z5,z6,z7⟩:=h;exact Zaig
def jD(h:Za1m)(k:#[aiv,ZsD->ZsE->Zzh->ZV4->G]):G:=by
 obtain⟨z0,z1,z2,z3,z4,z5,z6,z7⟩:=h;exact Zaig
def iz(h:Za3h)(k:#[rs,Zfe->Zgx->Zjy->Zk1->Zqi->Zy'->G]):G:=by
 obtain⟨z0,z1,z2,z3,z4,z5,z6,z7,z8⟩:=h;exact k z0 z1 z2 z3 z4 z5 z6 z7 z8
def jr(h:#[aiw,Zqx/\Zqy/\Zqz/\ZqA])(k:#[aix,Zqx->Zqy->Zqz->ZqA->G]):G:=by
 obtain⟨z0,z1,z2,z3,z4,z5,z6,z7,z8⟩:=h;exact k z0 z1 z2 z3 z4 z5 z6 z7 z8
def sD(h:p0/\p1/\#[aFP,ZsD/\ZsE/\Zzh])(k:p0->p1->∀ a,Zfb->∀ b c d,ZsD->ZsE->Zzh->G):G:=by
 obtain⟨z0,z1,z2,z3,z4,z5,z6,z7,z8,z9⟩:=h;exact k z0 z1 z2 z3 z4 z5 z6 z7 z8 z9
def kX(h:#[awR,Zqi/\Zy'/\Zazr])(k:#[rs,Zfe->Zgx->Zjy->Zk1->Zqi->Zy'->Zazr->G]):G:=by
 obtain⟨z0,z1,z2,z3,z4,z5,z6,z7,z8,z9⟩:=h;exact k z0 z1 z2 z3 z4 z5 z6 z7 z8 z9
def iT(h:Za3i)(k:#[aix,Zqx->Zqy->Zqz->ZqA->Zze->Zzf->G]):G:=by
 obtain⟨z0,z1,z2,z3,z4,z5,z6,z7,z8,z9,z10⟩:=h;exact k z0 z1 z2 z3 z4 z5 z6 z7 z8 z9 z10
def qr(h:∃ a b c d e f g,ZaEL/\ZaEM/\ZaEN/\ZaEO)(k:∀ a b c d e f g,ZaEL->ZaEM->ZaEN->ZaEO->G):G:=by
 obtain⟨z0,z1,z2,z3,z4,z5,z6,z7,z8,z9,z10⟩:=h;exact k z0 z1 z2 z3 z4 z5 z6 z7 z8 z9 z10
def fT(h:∃ a b c d e f g h i,ZaF1/\ZaF2/\ZaF3)(k:∀ a b c d e f g h i,ZaF1->ZaF2->ZaF3->G):G:=by
 obtain⟨z0,z1,z2,z3,z4,z5,z6,z7,z8,z9,z10,z11⟩:=h;exact k z0 z1 z2 z3 z4 z5 z6 z7 z8 z9 z10 z11
def dZ(h:#[aiw,Zqx/\Zqy/\Zqz/\ZqA/\Zze/\Zzf/\Zaz8/\Zaz9/\Zaz_])(k:#[aix,Zqx->Zqy->Zqz->ZqA->Zze->Zzf->Zaz8->Zaz9->Zaz_->G]):G:=by
 obtain⟨z0,z1,z2,z3,z4,z5,z6,z7,z8,z9,z10,z11,z12,z13⟩:=h;exact k z0 z1 z2 z3 z4 z5 z6 z7 z8 z9 z10 z11 z12 z13
def pq[291]:Za1U:=⟨z0,z1,z2,z3,z4⟩
def js(z0:p0)(a:A)(b:B)(z3:ZdI)(z4:Zgu):p0/\ZasN:=⟨z0,a,b,z3,z4⟩
def cY[250](z3:Zk_)(z4:Zqw):Za1j:=⟨a,z1,z2,z3,z4⟩
def lG[250](b:B)(z4:ZdI):ZaI2:=⟨a,z1,z2,b,z4⟩
def az[67]:Zahv:=#[aK4,z2]
def vE[409](z3:Zfe)(z4:Zgx):ZaL5:=#[aK4,c]
def mx[291](z5:p5):Za2X:=⟨z0,z1,z2,z3,z4,z5⟩
def gG[250](b:B)(z4:ZdI)(z5:Zgu):#[Xd,∃ b,ZasM]:=⟨a,z1,z2,b,z4,z5⟩
def bS[67](z5:Zm6):Za1k:=#[aTS,z2]
def jT[43]:ZaY3:=#[aTS,c]
def iA(a:A)(z1:Zfb)(b:B)(c:C)(d:D)(z5:ZsD)(z6:ZsE):#[aFP,ZsD/\ZsE]:=⟨a,z1,b,c,d,z5,z6⟩
def iB[389]:Za2C:=⟨a,b,z2,z3,z4,z5,z6⟩
def dE[43](z6:Zk1):Za1l:=⟨a,b,c,z3,z4,z5,z6⟩
def gT[389](z7:ZVT):Za3g:=#[ah3,z2,z3]
def fC[352]:ZaLG:=#[ah3,c,z3]
def iU[409](d:D)(z4:ZsD)(z5:ZsE)(z6:Zzh)(z7:ZV4):Za1m:=#[ah3,c,d]
def iC[352](z8:Zy'):Za3h:=⟨a,b,c,z3,z4,z5,z6,z7,z8⟩
def fF[409](d:D)(e:E)(z5:Zqx)(z6:Zqy)(z7:Zqz)(z8:ZqA)(z9:Zze)(z10:Zzf):Za3i:=⟨a,b,c,d,e,z5,z6,z7,z8,z9,z10⟩
#where
set_option maxRecDepth 100000
def Z9:=@List.length_map
def aQa:=@PySem.wpAny_bind
def aQb:=@PySem.Heap.get?_push_of_some
def aQc:=@if_neg
def aQd:=@if_pos
def aQe:=@decide_eq_true
def aQf:=@Nat.le_refl
def aQg:=@decide_eq_false
def aQh:=@List.mem_cons_of_mem
def aQi:=@List.mem_cons_self
def aQj:=@List.mem_singleton
def aQk:=@PySem.wpAny_pure
def aQl:=@List.length_append
def aQm:=@List.mem_cons
def aQn:=@List.getElem?_eq_some_iff
def aQo:=@PySem.Heap.lt_size
def aQp:=@Option.some.inj
def aQq:=@PySem.Heap.get?_push_size
def aQr:=@List.mem_append
def aQs:=@Bool.false_ne_true
def aQt:=@List.map_append
def aQu:=@Nat.ne_of_lt
def aQv:=@List.map_cons
def aQw:=@List.getElem?_eq_getElem
def aQx:=@PySem.Paired.length
def aQy:=@List.mem_map
def aQz:=@List.size_toArray
def aQA:=@Ne.symm
def aQB:=@List.length_cons
def aQC:=@List.mem_of_getElem?
def aQD:=@Nat.lt_of_lt_of_le
def aQE:=@Nat.zero_le
def aQF:=@List.mem_append_right
def aQG:=@PySem.W.mg_of
def aQH:=@List.take_length
def aQI:=@List.getElem?_map
def aQJ:=@of_decide_eq_true
def aQK:=@Option.toList_some
def aQL:=@List.all_eq_true
def aQM:=@List.take_add_one
def aQN:=@List.length_drop
def aQO:=@PySem.F.plainAttrs_list
def aQP:=@List.map_map
def aQQ:=@List.length_take
def aQR:=@PySem.wpAny_mono
def aQS:=@PySem.F.slot_list_append
def aQT:=@PySem.F.type_list_append
def aQU:=@PySem.sizeLine_eq
def aQV:=@Array.length_toList
def aQW:=@List.length_singleton
def aQX:=@PySem.Heap.get?_update_other
def aQY:=@List.lookup_cons
def aQZ:=@Nat.le_trans
def aQ0:=@List.nodup_cons
def aQ1:=@List.not_mem_nil
def aQ2:=@PySem.PassesOwn.never
def aQ3:=@PySem.W.mg_none_of
def aQ4:=@PySem.boot_len
def aQ5:=@Nat.ne_of_gt
def aQ6:=@PySem.Heap.size_push
def aQ7:=@PySem.Heap.get?_update_self
def aQ8:=@beq_eq_false_iff_ne
def aQ9:=@Int.emod_lt_of_pos
def aXa:=@congrArg
def aXb:=@Bool.and_eq_true
def aXc:=@PySem.wpAny_field
def aXd:=@PySem.wpAny_Call_Name_kw
def aXe:=@List.mem_map_of_mem
def aXf:=@List.append_assoc
def aXg:=@Int.emod_nonneg
def aXh:=@List.mem_range
def aXi:=@PySem.wpAny_newObj_type
def aXj:=@PyProof.Rows.callWith_type1
def aXk:=@PySem.Calls.spliced_cons
def aXl:=@List.append_nil
def aXm:=@List.drop_drop
def aXn:=@List.replicate_succ
def aXo:=@PySem.wpAny_holding
def aXp:=@List.flatten_cons
def aXq:=@List.length_range
def aXr:=@List.take_of_length_le
def aXs:=@List.nodup_nil
def aXt:=@List.find?_cons
def aXu:=@Option.isSome_iff_exists
def aXv:=@List.map_congr_left
def aXw:=@PySem.wpAny_seqItems
def aXx:=@PySem.Calls.evalArgs_plain
def aXy:=@PySem.Calls.callWith_builtin
def aXz:=@or_false
def aXA:=@PySem.wpAny_truthy_bool
def aXB:=@Nat.lt_succ_of_lt
def aXC:=@List.sum_cons
def aXD:=@PySem.W.kia_one
def aXE:=@List.zip_cons_cons
def aXF:=@PySem.wpAny_callSpecial?_slot
def aXG:=@List.filter_cons
def aXH:=@PySem.wpAny_standAt
def aXI:=@Option.map_eq_some_iff
def aXJ:=@PySem.mem_of_lookup
def aXK:=@List.getElem?_range
def aXL:=@List.drop_eq_getElem_cons
def aXM:=@List.length_filter_le
def aXN:=@PySem.builtinLookup_eq_fast
def aXO:=@PySem.wpAny_call_entry
def aXP:=@Nat.lt_of_le_of_lt
def aXQ:=@List.filter_append
def aXR:=@decide_eq_decide
def aXS:=@List.any_cons
def aXT:=@if_true
def aXU:=@Int.eq_ofNat_of_zero_le
def aXV:=@PyProof.Rows.boot_tuple
def aXW:=@PySem.Calls.spliced_nil
def aXX:=@List.nodup_append
def aXY:=@List.foldl_cons
def aXZ:=@PySem.wpAny_updateSeq
def aX0:=@Nat.min_eq_left
def aX1:=@List.getElem_of_mem
def aX2:=@PySem.codeAny_mono
def aX3:=@PyProof.Rows.boot_list
def aX4:=@List.getElem?_append_right
def aX5:=@List.getD_eq_getElem?_getD
def aX6:=@Nat.le_add_right
def aX7:=@Bool.false_eq_true
def aX8:=@PyProof.Rows.boot_str
def aX9:=@Array.getElem?_eq_getElem
def aZa:=@List.mem_append_left
def aZb:=@beq_iff_eq
def aZc:=@List.getElem?_of_mem
def aZd:=@PySem.Around.under_plainId
def aZe:=@Nat.lt_irrefl
def aZf:=@PySem.F.plainAttrs_dict
def aZg:=@PySem.F.plain_extend_loop
def aZh:=@Nat.lt_succ_self
def aZi:=@List.cons_append
def aZj:=@List.drop_length
def aZk:=@List.drop_zero
def aZl:=@PySem.F.plain_max_loop
def aZm:=@PySem.call_meets
def aZn:=@PyProof.Rows.boot_dict
def aZo:=@PySem.wpAny_pyIter_tuple
def aZp:=@List.mem_filter
def aZq:=@PySem.wpAny_passesOwn
def aZr:=@Array.getElem?_toList
def aZs:=@PySem.wpAny_specialOf
def aZt:=@PySem.F.slot_dict_get
def aZu:=@List.forIn_cons
def aZv:=@PySem.typeLookup_type
def aZw:=@PySem.codeAny_builtin
def aZx:=@PyProof.Rows.boot_all
def aZy:=@PySem.plainId_quiet
def aZz:=@Array.getElem?_eq_some_iff
def aZA:=@PySem.F.excBase_ValueError
def aZB:=@PySem.F.slot_tuple_iterator_next
def aZC:=@Int.toNat_natCast
def aZD:=@decide_eq_true_eq
def aZE:=@List.getElem?_append_left
def aZF:=@PySem.wpAny_newFunctionEnv
def aZH:=@List.mem_of_mem_take
def aZI:=@Nat.le_succ
def aZJ:=@PySem.wpAny_letGo
def aZK:=@Nat.mul_le_mul
def aZL:=@List.take_zero
def aZM:=@List.mem_flatMap
def aZN:=@PySem.F.called_set
def aZO:=@List.drop_succ_cons
def aZP:=@PySem.wpAny_call
def aZQ:=@List.of_mem_zip
def aZR:=@List.nil_append
def aZT:=@PySem.wpAny_ite_split
def aZV:=@Int.natCast_add
def aZW:=@PySem.F.slot_zip_next
def aZY:=@List.foldl_append
def aZ0:=@Nat.add_comm
def aZ3:=@if_false
namespace L2
open PySem PySem.Spec PyProof.Rows
noncomputable abbrev df:=Sum Int Str
abbrev Et:df->Zb3->ZbQ
 | ZIl,v=>Za4q k v
 | ZIs,v=>Za4s x v
abbrev YN (w:World):df->Int
 | ZIl=>ZMS k
 | ZIs=>hashStr w x
def dI:∀ {k:df}[317],Et k v=Zad->(∃ i t,k=Zdu i/\v=ZUi)\/(∃ x t,k=ZfX x/\v=Za5T)
 | Zal i,v,h=>by
  obtain⟨t,e⟩:=Value.isInt_shape (k:=i) (v:=v) h;exact Zal ⟨i,t,rfl,e⟩
 | ZIs,v,h=>by
  obtain⟨t,e⟩:=Value.isStrOf_shape (x:=x) (v:=v) h;exact #[q5,x,t,rfl,e]
def Np (i:Int)(t:Tok):Et (Zal i) ZyD=Zad:=by simp[Et,Value.isInt]
def Nq [390]:Et (Zap x) ZaNM=Zad:=by simp[Et,Value.isStrOf]
def Vh [183]:#[lK,ZaKD,(a == b)]:=by
 by_cases e:a=b
 ·subst e;simp
 ·have h:¬ ZaKD:=#[bk,e (ZMT q)]
  rw[aQg h];exact (ZvJ e).symm
def Vk (a b:Str):#[ux,ZaKr,a,b]:=by
 by_cases e:a=b
 ·subst e;simp
 ·have h:¬ ZaKr:=#[bk,e (ZMU q)]
  rw[aQg h,aQg e]
def Vi (a:Int)(b:Str):#[lM,ZxP=ZfX b]:=aQg (fun q=>nomatch q)
def Vj (a:Str)(b:Int):#[lM,Zavx=Zdu b]:=aQg (fun q=>nomatch q)
abbrev aV [251]:PySem.KeyKind ZlB w df where
 is:=Et
 hash:=YN w
 inj:=fun v a b ha hb=>by
  rcases dI ha with ⟨i,t,rfl,rfl⟩ | ⟨x,t,rfl,rfl⟩
  ·rcases dI hb with ⟨j,u,rfl,e⟩ | ⟨y,u,rfl,e⟩
   ·injection e with e1 _;rw[e1]
   ·exact nomatch e
  ·rcases dI hb with ⟨j,u,rfl,e⟩ | ⟨y,u,rfl,e⟩
   ·exact nomatch e
   ·injection e with e1 _;rw[e1]
 byValue:=fun k v h=>by
  rcases dI h with ⟨i,t,rfl,rfl⟩ | ⟨x,t,rfl,rfl⟩<;>rfl
 pyHash:=fun hv h=>by
  rcases dI hv with ⟨i,t,rfl,rfl⟩ | ⟨x,t,rfl,rfl⟩
  ·exact wpAny_pyHash_int h
  ·exact wpAny_pyHash_str h
 eqBool:=fun hu hv h=>by
  rcases dI hu with ⟨i,t,rfl,rfl⟩ | ⟨x,t,rfl,rfl⟩
  ·rcases dI hv with ⟨j,u,rfl,rfl⟩ | ⟨y,u,rfl,rfl⟩
   ·rw[Vh]at h;exact wpAny_eqBool_int h
   ·rw[Vi]at h;exact Za4t i t y u _ _ _ _ h
  ·rcases dI hv with ⟨j,u,rfl,rfl⟩ | ⟨y,u,rfl,rfl⟩
   ·rw[Vj]at h;exact Za4u x t j u _ _ _ _ h
   ·rw[Vk]at h;exact wpAny_eqBool_str h
 «strs»:=fun k x t v h=>by
  rcases dI h with ⟨i,u,rfl,e⟩ | ⟨y,u,rfl,e⟩
  ·exact nomatch e
  ·injection e with e1 _
   subst e1;cases v<;>rfl
def Hx [251](i:Int)(t:Tok):(aV ZlB w).is (Zal i) ZyD=Zad:=Np i t
def gA [251][390]:(aV ZlB w).is (Zap x) ZaNM=Zad:=Nq x t
inductive V where
 | non | bl (b:Bool) | int (i:Int) | str [191] | byt (b:Zazu) | flt (b:UInt64) | ref [86] | ty (n:String)
 deriving DecidableEq
abbrev bJ:#[cp,V,Zb3]
 | ZaK,u=>ZaeO
 | ZIx,u=>#[IR,b]
 | ZdN,u=>Zaa_
 | ZH1,u=>Za5U
 | .byt b,u=>∃ t,u=Za4v b t
 | .flt b,u=>∃ t,u=Zaiy b t
 | Zb1,u=>ZRv
 | .ty n,u=>Zbcs
noncomputable abbrev bK:#[cp,Zbs,Zb4]:=Za0 bJ
def bK.length [337](r:ZfQ):ZaHc:=ZuE
def bK.get:∀ [337]{i:Nat}{x:V},ZfQ->ZPi->∃ u,#[av,Zaiz,u]/\Zk'
 | _,_,_,_,Zan,e=>by simp at e
 | _,_,0,_,ZaB r _,e=>by simp at e;subst e;exact ZZm
 | _,_,i+1,x,Zae_,e=>by
  refine ao (bK.get (i:=i) (x:=x) t (Zrt)) fun u h1 h2=>?_;exact ⟨u,(ZaiA),h2⟩
def bK.append:∀ {xs ys:Zbs}{us ws:Zb4},ZfQ->bK ys ws->bK (xs++ys) (us++ws)
 | _,_,_,_,Zan,s=>s
 | _,_,_,_,ZnY,s=>ZaB r (ZaiB t s)
def bK.take:#[aY8,xs.take,ZBW]
 | _,_,0,_=>Zan
 | _,_,_+1,Zan=>Zan
 | _,_,n+1,ZnY=>ZaB r (bK.take n t)
def bK.drop:#[aY8,ZaiC,ZvL]
 | _,_,0,r=>r
 | _,_,_+1,Zan=>Zan
 | _,_,n+1,Zae_=>bK.drop n t
abbrev pJ:#[cp,Zgj,Zpe]
 | Zny,Zab u=>Zfm
 | none,none=>True
 | _,_=>False
abbrev KV {κ:Zj0}:#[cp,Zll,ZaJI]:=Za0 fun (p:κ×V)(q:κ×Zb3)=>p.1=q.1/\bJ p.2 q.2
abbrev kV:df->V
 | Zal i=>ZdN
 | ZIs=>ZH1
inductive HO where
 | lst [44]
 | tup [44]
 | dK [184] | dT (kvs:ZuR)
 | set [361]
 | ins (C dx:Addr)[242]
 | own (x:Addr)
 | xd [242]
 | met (f x:Addr)
 | rng (lo hi:Int)
 | frz (o:Obj)(u:HO)
 | tbl (ps:ZiB)
 | ext (φ:ZaBB)
noncomputable abbrev Hp:=Zeh->Zay7
abbrev upd [391](o:HO):Hp:=#[iC,#[b5,b=a,Zhd,H b]]
def ac [38][353]:#[dR,a,o,a,o]:=by unfold upd;rw[Zaz]
def ai [208]{o:HO}(h:Zz4):upd H a o b=H b:=by unfold upd;rw[Zcx]
def mZ [38][41]{o u:HO}:upd Zql a u=upd H a u:=by
 funext b;unfold upd;split<;>rfl
def dU [208]{o u:HO}(h:Ziq)(h':#[cf,u])(d:o≠u):ZI_:=by
 intro e;subst e;rw[h]at h';exact d (aQp h')
def aq [208]{o:HO}(h:Ziq)(h':Zbb):ZI_:=by
 intro e;subst e;rw[h]at h';cases h'
abbrev qf [139][86](items:ZiB):Zaa:=∃ o,ZG5/\ZyW/\∃ n,(Zhi,o.dict)=(Data.seq Zn9 n,ZaL6)
def qf.old [153][41]{items:ZiB}(x:qf h a Zn9):ZBY h a Zn9:=let ⟨o,e,c,n,d⟩:=x;(lG o e c n (#[a't,d]))
def qf.new [139](items:ZiB):qf (h.push #[Q1,Zf4,Zn9]) Zj2 Zn9:=lG _ ZeJ rfl _ rfl
section
variable (P:Program)(w:World)
abbrev bW [32][139][86]:HO->Zaa
 | Za6 xs=>#[aGK,Zzr/\#[m1,Zavz]]
 | ZcJ xs=>#[U2,∃ d_:Zb4,Zzr/\qf h a ZbM]
 | .dK kvs=>ZbdM
 | .dT kvs=>Ztr/\Zais/\∃ xs:ZapK,
   Za0 (fun (p:ZhX×V)(q:ZhX×ZapJ)=>ZaZC) kvs xs /\
   ∃ o es ep,ZG5/\o.ExactDict/\ZaeG/\Zalv/\(xs.map (·.1)).Nodup
 | Zafv=>h.SetOf ZamC a S n
 | Zfr C dx fs=>ZaNr/\Zek<=ZbE/\dx≠a/\#[m1,Zasu] /\
   ∃ mA,ZagI/\ZaJd/\PySem.Within mA (fs.map (·.1))
 | ZiD _=>Zaxf
 | .xd fs=>∃ mA,h.Ns1 a mA/\∀ f,Zawv
 | .rng lo hi=>∃ t u v,Zef a=some { cls:=ZvG,data:=Za1 #[Zix,Ziw,Zva] }
 | ZiE o u=>ZG5/\bW H h a u
 | ZeS ps=>ZaDc
 | ZlC f x=>#[m1,#[acP,Zjn]]
 | ZvO φ=>φ h/\(Zaxf)/\∀ h1 h2:ZvP,φ h1->(∀ o,#[hY,ZMV]->#[hY,ZvQ])->φ h2
abbrev qe [32][139]:Zaa:=#[vR,Ziq->ZJ0]
#where
section
variable {P:Program}{w:World}{H H':Hp}{h h':Heap}{a:Addr}{o:HO}
def bW.lt (x:ZJ0):ZaC7:=by
 cases o with
 | lst xs=>obtain⟨_,_,_,_,e⟩:=x;exact ZcG
 | tup xs=>obtain⟨_,_,_,p⟩:=x;exact p.old.lt
 | dK kvs=>obtain⟨_,_,_,_,o,_,_,e,_⟩:=x;exact ZcG
 | dT kvs=>obtain⟨_,_,_,_,o,_,_,e,_⟩:=x;exact ZcG
 | set S n=>obtain⟨o,_,_,_,e,_⟩:=x;exact ZcG
 | ins C dx fs=>obtain⟨_,_,_,e,_⟩:=x;exact ZcG
 | own y=>obtain⟨_,e⟩:=x;exact ZcG
 | xd fs=>obtain⟨_,⟨_,_,_,e,_⟩,_⟩:=x;exact ZcG
 | rng lo hi=>obtain⟨_,_,_,e⟩:=x;exact ZcG
 | frz ob u=>obtain⟨e,_⟩:=x;exact ZcG
 | tbl ps=>exact ZaNb
 | met f y=>exact ZaNb
 | ext φ=>obtain⟨_,⟨_,e⟩,_⟩:=x;exact ZcG
def Paired.mapP [440]:#[a1o,F a b->G a b]
 | _,_,Zan,_=>Zan
 | _,_,ZnY,f=>ZaB (f _ _ r) (Zj4 t f)
def bW.stay (x:ZJ0)(k:#[lD,(b=a\/#[cf,ZGX])->ZauL->ZyT])
  (ho:∀ b,#[xV,ZGX,ZGX]) (ht:ZL5):bW P w H' h' a o:=by
 induction o with
 | lst xs=>obtain⟨z,d_,n,r,e⟩:=x;exact js z d_ n r Zaf_
 | tup xs=>obtain⟨z,d_,r,ob,e,c⟩:=x;exact ⟨z,d_,r,⟨ob,ZqG,c⟩⟩
 | dK kvs=>obtain⟨z,y,vs,r,ob,es,ep,e,c⟩:=x;exact #[a3j,vs,r]
 | dT kvs =>
  obtain⟨z,y,xs,r,ob,es,ep,e,c⟩:=x;exact #[a3j,xs,#[j5,r,fun p q z=>ZaY6]]
 | set S n=>obtain⟨ob,es,ep,t,e,c⟩:=x;exact ⟨ob,es,ep,t,ZqG,c⟩
 | ins C dx fs =>
  obtain⟨d,z,ne,e,mA,⟨od,es,ep,e2,c⟩,r⟩:=x;exact pq (ho _ d) z ne Zaf_ #[a1n,(k _ _ (Zap d) e2)]
 | own y=>obtain⟨ob,e⟩:=x;exact⟨ob,ZqG⟩
 | xd fs=>obtain⟨mA,⟨od,es,ep,e,c⟩,r⟩:=x;exact #[a1n,Zaf_]
 | rng lo hi=>obtain⟨t,u,v,e⟩:=x;exact ⟨t,u,v,ZqG⟩
 | frz ob u ih=>obtain⟨e,q⟩:=x;exact⟨ZqG,ih q⟩
 | tbl ps =>
  have e:ZaDc:=x
  show #[Tu,Zavy]
  exact ZaXQ
 | met f y =>
  have e:#[m1,#[acP,#[aj,y]]]:=x
  show #[Tu,#[acP,#[aj,y]]]
  exact ZaXQ
 | ext φ=>obtain⟨p,⟨o,e⟩,st⟩:=x;exact ⟨(st _ _ p fun o q=>k _ _ Zgt q),#[h2,ZqG],st⟩
def qe.lt [252](e:Ziq):ZaC7:=#[acA,0].lt
def qe.fresh [252](e:ZaEU):Znl:=by
 cases q:H a with
 | none=>rfl
 | some u=>exact #[By,(x.lt q),e]
def qe.kept [252][62]:#[tz,h']:=fun a o e =>
 #[acA,0].stay (fun b u _ q=>ZFa) (ZyJ) ZM8
def qe.laid [252][441](new:bW P w Zql h' a o):qe P w Zql h':=fun b u e=>by
 have hn:=x.fresh hp
 by_cases hb:b=a
 ·subst hb;rw[ac]at e;cases e;exact new
 ·rw[Zfk]at e
  exact #[a0p,x]
#where
abbrev Rd [391](u:HO):Zaa:=#[d6,u]\/∃ o,#[d6,Zyt]
def Rd.of [38][41]{u:HO}(h:#[d6,u]):Zagy:=Zuv
def Rd.ok [319][41]{u:HO}(r:Zagy)[252]:#[qd,u]:=by
 rcases r with r | ⟨o,r⟩
 ·exact x a u r
 ·obtain⟨_,q⟩:=x a _ r
  exact q
abbrev WI:Zay7->Zaa
 | #[ul,Za6]=>True
 | #[ul,.dK]=>True
 | #[ul,.dT]=>True
 | Zab (Zhj _ _)=>True
 | Zab (Zfr _ _ _)=>True
 | #[ul,ZvO]=>True
 | _=>False
section
variable {P:Program}{w:World}{H:Hp}{h h':Heap}{x e:Addr}{o':HO}
def qe.write (ok:ZJ5)(mu:Zaf8)(he:Zag2)(k:ZaLv)(heo:ZagL)
  (new:bW P w ZaGm h' x o'):qe P w ZaGm h':=fun b u q=>by
 have bz6:∀ c y,#[aP,c,(ZiD y)]->c≠x:=fun c y r z=>by subst z;rw[r]at mu;exact mu
 have cq7:∀ c xs,#[aP,c,ZdJ]->c≠x:=fun c xs r z=>by subst z;rw[r]at mu;exact mu
 by_cases hb:b=x
 ·subst hb;rw[ac]at q;cases q;exact new
 ·rw[Zfk]at q
  by_cases hbe:b=e
  ·have q':#[cf,ZtN]:=by
    rcases he with z | z
    ·exact #[oT,hbe.trans,z,hb]
    ·rw[hbe];exact z
   rw[q]at q';cases q';obtain⟨v,hv⟩:=heo;exact#[ug,v,hbe,hv]
  ·refine #[t4,ok].stay (ZaL_) (fun c r=>#[ch,(bz6 c b r),r]) fun c xs r=>#[ch,(cq7 c xs r),r]
   rcases hc with rfl | hc
   ·exact hbe
   ·rintro rfl
    rcases he with z | z
    ·exact bz6 c b hc z
    ·rw[hc]at z;cases z;exact hb rfl
#where
structure Un (fs ex:Zei)[320](h h':Heap):Zaa where
 keep:#[aW_,b∉fs,Zfa]
 slot:#[aW_,ZAk,ZaEE]
 free:#[o6,ZeK,Zbb,ZVX,Zpm]
 there:#[o8,ZeK,ex,ZaCF]
 tups:ZL5
 frzs:ZaUE
 tbls:Za1q
section
variable {fs fs' ex ex':Zei}{H H1 H2:Hp}{h h1 h2 h':Heap}{a x e:Addr}{o:HO}
def Un.any (u:#[Bb,H1,h1])[46]{ob:Obj}(q:Zef b=Zab ob)(n:Zbb)(hx:ZVX):∃ sl,ZMV b=Zab { ob with slots:=sl }:=by
 by_cases hb:ZAk
 ·exact u.slot b ob q n hb hx
 ·exact⟨Za4w,ZMW b ob q n hb hx⟩
def Un.kept [62]:#[Bb,H,h'] :=
 ⟨#[a4x,Zabp],#[a4x,⟨Za4w,Zabp⟩],fun _ _ _ n _=>n,fun b ob q _=>⟨ob,Zabp⟩,ZM8,fun _ _ _ q=>q,fun _ ps q=>⟨#[],#[fs,q]⟩⟩
def Un.refl:#[Bb,H,h]:=ZaiD ZM8
def Un.laid [441](hn:Znl):#[Bb,Zql,h'] where
 keep:=Zbdt
 slot:=Zbdu
 free:=#[BZ,#[aqB,(aQD (aQo q) hp),n]]
 there:=ZaiG
 tups:=Zaxh
 frzs:=Zaxi
 tbls:=fun b ps q=>⟨#[],ZaJs⟩
def Un.write (mu:Zaf8)(he:Zag2)(k:ZaLv)(heo:ZagL):#[Bb,Zado,h']:=by
 have hx:∀ b,Zbb->Zqu:=fun b n z=>by subst z;rw[n]at mu;exact mu
 have hb:∀ b,Zbb->Zk8:=fun b n z=>by
  subst z;rcases he with r | r
  ·exact hx b n r
  ·rw[n]at r;cases r
 have hm:#[lD,#[cf,u]->¬ WI (Zab u)->Zqu]:=fun b u q nm z=>by subst z;rw[q]at mu;exact nm mu
 refine⟨#[a4y,ZaSo],#[a4y,⟨u.slots,ZaSo⟩],#[BZ,#[aL,ai (hx b n),n]],#[aiF,?_],
  #[MX,ZaC'],#[aiH,ZaC'],fun b ps q=>⟨#[],by rw[ZawF,q];simp⟩⟩
 by_cases hbe:b=e
 ·subst hbe;exact heo
 ·exact⟨u,k b u hbe q⟩
#where
abbrev Yl [139][32]:Zei:=ZaRc fun a=>#[fY,(H a)]
abbrev Fy [139][32]:Heap:=ZaiI h (Yl h H)
def Nm [139][32]:#[n_,ZWA]=Zj2:=Za4z _ _
def BH [153][38][362][321](n:Zbb):ZaFq :=
 PySem.W.hideAll_get _ e fun hm=>by
  have q:#[jA,(H b)]:=(ZaiJ hm).2;rw[n]at q;simp at q
def SA [153][38][362](e:ZaFq):ZeK/\Zbb:=by
 have e':ZeK:=Za4A (Yl h H) e;refine#[cu,e']
 cases q:H b with
 | none=>rfl
 | some x =>
  have hm:b∈Yl h H:=ZaiK ⟨Zn' (aQo e'),by simp[q]⟩;have z:#[WA,0].get? b=Zac:=ZaiL (Yl h H) hm;rw[z]at e;cases e
structure Mod [410](base:Heap):Zaa where
 kin:Zoa ZaS
 glob:ZaqY
 blt:∃ mb,base.Ns ZB0 mb/\Zbc3
 nolimit:base.NoLimit
structure Cx where
 prog:Program
 w:World
 K:PySem.W.Frag
 mg:Zpf
 base:Heap
 A:Around
 N:Zbp
 s₀:Shared
 H₀:Hp
 env:Env
 outer:ZcU
 stack:ZcU
 ex:Zei
 fn:Str->ZbQ
 calm:Bool
 pn:Zej
 xe:ZfG
abbrev mw (l:ZcU):Zei:=l.filterMap (·.frame)
noncomputable abbrev Cx.fs [230]:Zei:=mw Zru
abbrev WO [411][191]:Zaa:=#[OY,ZlE]\/#[OY,ZeT]\/Zabj
abbrev UG [411][191]:Zaa:=Zavr
abbrev Yw (env:Env)[139](m:Zpf)[191](u:Value):Zaa :=
 (#[Tr,ZMY]/\#[bB,m,u])\/((#[aeN,ZMY,ZMY])/\∃ c,ZV7/\h.IsCell c (Zab u))
structure Cx.Ok [230]:Zaa where
 mod:ZaKz
 kind:ZaiM=ZB1
 glob:Za4C=ZlF
 blt:X.env.builtins=ZB0
 above:#[a4I,ZdT]
 inj:∀ x y c,Zaac->#[U5,c]->x=y
 has:∀ x,(#[aeN,ZaiN,ZaiN])->#[HA,ZB3]
 cab:∀ x c,ZUX->Zaac->#[a4I,c]
 hd:ZfT->Za4D=Zac
 frames:Za4F=Zab Zdv
 stk:Zdv=Zru\/(Zdv=ZaQ::Zru/\ZaNk)
 exf:∀ b∈X.ex,Zp2/\ZVc
 bs:#[aiQ,ZayH/\ZaAs]
 bsz:X.base.objs.size<=Za4H
 noex:#[aiQ,ZarV]
 exfs:∀ b∈X.ex,ZZk
 funs:#[aF7,Zru]
 frf:∀ b∈X.fs,ZaAs
structure aT [230][17](σ:ZabP)[32][154]:Zaa where
 ok:X.Ok
 os:s.os=X.s₀.os
 bare:ZaDA
 base:Un Zj7 Zrv ZMZ H X.s₀.heap ZaD
 loc:∃ m,ZaiO ZdT m/\∀ [221][191](v:V),ZnN->ZaJE->ZanZ->∃ u,Zfm/\Yw ZaQ ZaD m x u
 cell:#[B4,∃ v,ZaJW]
 free:#[a_,ZdT]
 freeC:#[B4,#[a_,c]]
 pin:∀ p∈ZTa,Za3x
 hok:#[aPH,ZaD]
 len:Za8y
section
variable {X:Cx}{pins:Zej}{σ:ZabP}{H H':Hp}{s:Shared}{h':Heap}
def Cx.Ok.nofr (ok:X.Ok)[362](e:#[bt,ZaiP]):ZZk:=fun hb=>by
 have:=(ok.funs.mem hb).1;rw[e]at this;cases this
def aT.bs [3]:#[aiQ,ZaJo]:=fun b o e =>
 ⟨ZM0 b o ZaFk #[aAz,0].2 (I.ok.nofr e) ZaAA,ZB5 b o ZaFk #[aAz,0].2 ZaAA⟩
def aT.bk [3]:#[aiQ,ZdW]:=#[arC,I.bs]
def aT.mod [3]:ZaKz:=I.ok.mod
def aT.kIn [3]:ZaiR ZaD:=I.ok.mod.kin.keeps I.bk
def aT.lt [3]:#[dL,ZdT]:=let ⟨_,hn,_⟩:=I.loc;hn.lt
def aT.sz [3]:#[a4I,Zaw]:=aQZ Zoc (ZB6 I.lt)
def aT.nofs [3][41](h:ZaEV):a∉Zj7:=fun hb=>by
 refine ZaKN;exact #[aVG,(aQo ho),I.sz,h]
def aT.cne [3]:#[B4,c≠ZdT]:=fun x c e z=>by
 refine ZaW4;refine ZaqG;obtain⟨o',es,ep,ho',hd',_⟩:eZ:=a_;rw[z,ho']at ho;cases ho;rw[hd']at hd;cases hd
def aT.funs [3]:#[add,Zru]:=by
 have all:∀ (l:ZcU),(#[gH,mw l,ZazT])->#[aF7,l]->#[add,l]:=by
  intro l
  induction l with
  | nil=>intro _ _;trivial
  | cons env r ih =>
   intro hs hl;obtain⟨hk,a_,hr⟩:eJ:=hl;obtain⟨L,o,hf,hn,ho,hd⟩:bB:=a_;have hL:L∈Zj7:=hs L (by unfold mw;rw[List.filterMap_cons,hf];exact aQi);obtain⟨sl,e⟩:=ZM1 L o ho (ZB7 L hL) hL #[aH,ZM2 L z hL];exact ⟨hk,bS L _ hf hn e hd,(ih (fun b hb=>hs b (by unfold mw;rw[List.filterMap_cons,hf];exact ZaB5)) hr)⟩
 exact all Zru (fun _ hb=>hb) ZaiS
def aT.stack [3]:#[add,Zdv]:=by
 rcases I.ok.stk with e | ⟨e,hf⟩
 ·rw[e];exact I.funs
 ·rw[e]
  refine ao Zrx ZaqH;refine ZaB (#[B8,Zj8]) hf hn ?_ I.funs;exact ZaiT (aQZ ZB9 Zoc)
def aT.stkSub [3]:#[XA,b∈ZdT::Zj7]:=fun b hb=>by
 rcases I.ok.stk with e | ⟨e,hf⟩
 ·rw[e]at hb;exact ZaB5
 ·rw[e]at hb
  unfold mw at hb;rw[List.filterMap_cons,hf]at hb;exact hb
def aT.stkFree [3]:#[XA,Zbb]:=fun b hb=>by
 rcases ZaPv with e | hb
 ·rw[e];exact I.free
 ·refine ZaKN
  exact ZB5 b o ho #[c1,ZB7] #[aH,ZM2 b z hb]
def aT.step {g':ZY7}{t':Nat}{d':Drawn}{ch:Zei}(I:Zjf)
  (hch:Za4K)
  (keep:#[o8,Zp2,Zj7,ZAg->ZdW->Zbb->Zfa])
  (slot:#[o5,Zp2,ZazT,ZAg->ZdW->Zbb->ZaEE]) (free:#[o6,ZAg,ZdW,Zbb,Zpm])
  (there:#[o5,ZAg,ZdW,ZaCF])
  (tups:ZL5) (frzs:ZaUE) (tbls:Za1q)
  (ns:∀ m,ZaiO ZdT m->h'.Ns ZdT m) (hok:Zarg) (hg:ZaDB) :
  Za11:=by
 have neL:#[pq,ZB_,Zp2]:=ZL6
 have neC:#[o8,ZayH,Zrv,ZAg]:=fun b o e hx hb=>by
  rcases #[kI,hch] with z | z
  ·exact hx z
  ·exact #[By,ZxK,z]
 have cellK:#[B4,∀ v,ZaJW->h'.IsCell c v]:=fun x c e v ⟨o,ho,hd⟩=>by
  have nch:c∉ch:=#[aH,Za1S]
  by_cases hc:c∈Zj7
  ·obtain⟨sl,q⟩:=#[a2u,slot]
   exact #[bJ,q,hd]
  ·exact ⟨o,#[a2u,ZdU],hd⟩
 refine⟨I.ok,ZvT,hg,#[Gv,ZbcH,ZbcH,Zat9,#[aiU,tups b xs (ZaiV b xs e)],fun b o xs e=>frzs b o xs (ZaiW b o xs e),fun b ps e=>?_],?_,Zald,?_,Zald,Zp4,hok,ZB'⟩
 ·exact ZdU b o ZaAB hb ZLP (ZM0 b o e n hb hx) Zacd
 ·obtain⟨sl,e1⟩:=ZabQ
  obtain⟨sl',e2⟩:=slot b _ ZaAB hb ZLP e1 Zacd;exact⟨sl',e2⟩
 ·obtain⟨o',e1⟩:=ZOp
  exact Zry b o' ZLP e1 Zacd
 ·obtain⟨o',e1⟩:=ZOp
  exact there b o' ZLP e1
 ·obtain⟨m1,e1⟩:=Zbd9
  obtain⟨m2,e2⟩:=tbls b _ e1;exact ZahK
 ·refine ZTM
  refine #[aY,m,ns m hn,fun i x v e1 e2 e3=>?_];refine #[agE,e1,e2,e3];refine #[cg,u,r];rcases l with l | ⟨k,c,e,z⟩
  ·exact Zal l
  ·exact #[q5,k,c,e,cellK x c e _ z]
 ·obtain⟨v,z⟩:=ZlG x c e
  exact⟨v,cellK x c e v z⟩
 ·refine ZaqG;obtain⟨o,_,_,ho,_⟩:ko:=a_
  exact Zry _ o #[bC,ZaNA rfl] ho ZvU
 ·refine ZaW4
  exact Zry c o #[bC,Za1S] ho ZWa
 ·refine ZahN
  have nch:p.1∉ch:=#[aH,(hch p.1 z).2.2.2 p hp rfl];exact pq (ZdU p.1 p.2 ne nf nch e n) (Zry p.1 p.2 nch e n) ne nf d
def aT.un {t':Nat}[3](u:#[aYp,H',h'])(hok:Zarg):ZaCY:=by
 refine ZaJ7;obtain⟨o,es,ep,ho,r⟩:ko:=a_;obtain⟨sl,hL⟩:=#[aUn,ZaV]
 exact I.step (g':=s.gens) (d':=s.drawn) (ch:=[]) (fun _ z=>nomatch z) #[aL',ZMW] #[aL',u.slot] (fun b o _ e n=>ZaiX b o e n ZaV) (fun b o _ e=>ZaiY b o e ZaV) u.tups u.frzs u.tbls (fun m' hm=>by
  obtain⟨o',es',ep',ho',r'⟩:ko:=hm;rw[ho]at ho';cases ho'
  exact Za2a) hok I.bare
def aT.call {g':ZY7}{t':Nat}{d':Drawn}{ch:Zei}(I:Zjf)(u:Un (mw Zdv) ch H H' ZaD h')(hok:Zarg)(hg:ZaDB)
  (hch:Za4K) :
  Za11:=by
 refine ZaJ7;obtain⟨o,es,ep,ho,r⟩:ko:=a_;obtain⟨sl,hL⟩:=#[aUn,#[aH,ZaNA rfl]]
 exact I.step (ch:=ch) hch (fun b o hL hb hc e n=>ZMW b o e n #[bC,(ZfZ (ZaiZ b z)).elim hL hb] hc) (fun b o _ _ hc e n=>u.any e n hc) (fun b o hc e n=>ZaiX b o e n hc) (fun b o hc e=>ZaiY b o e hc) u.tups u.frzs u.tbls (fun m' hm=>by
  obtain⟨o',es',ep',ho',r'⟩:ko:=hm;rw[ho]at ho';cases ho'
  exact Za2a) hok hg
def aT.turned {t':Nat}{it:Addr}(I:Zjf)(k:#[zp,ZYC])(hn:#[a_,it])(hL:it≠ZdT)
  (h1:it∈Zrv\/#[a4I,it]) (h2:#[B4,c≠it]) (h3:#[Tb,it]):ZZa:=by
 have nit:#[aLY,ZYC]:=fun b u e z=>by rw[z,hn]at e;cases e
 refine I.step (g':=s.gens) (d':=s.drawn) (ch:=[it]) Zxg (#[a4L,Zag7]) (#[a4L,#[akv,Zag7]]) (fun _ _ _ _ n=>n)
  (fun b o hc e=>#[h2,Zag7]) ZTn (fun _ _ _ e=>e) (fun b ps e=>⟨#[],ZHz⟩) (fun m hm=>?_) (ZHD) I.bare
 ·have e:ZjI:=ZcM
  subst e;exact ⟨h1,hL,h2,h3⟩
 ·obtain⟨o,es,ep,ho,r⟩:ko:=hm
  exact vE o es ep (k _ o (aQA hL) ho) r
 ·refine (Zbl b u e).stay (fun c v hc q=>k c v ?_ q) (ZyJ) ZM8
  rcases hc with z | z
  ·rw[z];exact nit b u e
  ·exact nit c _ z
def aT.tok [3](t:Nat):#[je,#[ai0,t]]:=I.un (h':=ZaD) (t':=t) Un.refl Zbl
def aT.kept [70]:ZZa:=I.un (ZaiD k) (Za4M k)
def aT.laid [353][70](hp:ZaEV)[279] :
  ZaJR:=I.un (Un.laid k hp (Zod hp)) (I.hok.laid k hp new)
def aT.write {x e:Addr}{o:HO}{t':Nat}(I:Zjf)(mu:Zaf8)(he:Zag2)(k:#[lD,Zk8->ZaBU->ZyT])(heo:ZagL)
  (new:#[mw,Zado,h',x,o]):#[b0,Zado,ZO5]:=I.un (Un.write mu he k heo) (I.hok.write mu he k heo new)
def aT.pins_of {ak7:Zej}[3](h:∀ p∈ak7,Za3x):#[agZ,ak7] :=
 #[MB,I.ok,#[oe,#[aGg,0].elim (#[aH,ZlH p ZaCx]) (h p)]]
def HZ {N:Zbp}(hN:N.Nodup){i j:Nat}{x:Str}(a:#[di,N[i]?])(b:#[di,N[j]?]):i=j:=by
 obtain⟨h1,e1⟩:=Zrz a;obtain⟨h2,e2⟩:=Zrz b;exact (List.getElem_inj hN).mp (Za4N e2.symm)
def EM {M:Model}{A:Around}{E:ZfG}{i:Nat}{x:Str}{v:V}{u:Value}{Q:ZfU}(I:Zjf)(hN:X.N.Nodup)(hi:ZnN)(hx:Zan1)(r:Zfm)
  (h:∀ s',ZaPS->(∃ a,#[avW,Zc']/\(a=ZdT\/#[bB,ZB3,a]))->Q () s') (hf:Zan4:=by first | exact ZnH | exact ZZB | assumption):Za5h:=by
 refine #[c8,Zrx,ZTL]
 have cx8:#[o9,ZaiM == .class||(ZaiM == .module&&ZdT != Za4C)]:=#[b6,Zj8]
 have hiσ:i<Za4O:=#[aL,ZB',ZZI]
 have cne:=I.cne
 have tracked:∀ [41]{h':Heap},(∃ o,#[hY,ZdV]/\Znl)->ZaLo->#[aPH,h']:=fun {a h'} ha hs b ob e=>by
  obtain⟨_,_,aj9⟩:ao:=ha;refine (Zbl b ob e).stay (fun c w' hc q=>#[atr,hs]) (ZyJ) ZM8;rintro rfl;rcases hc with rfl | hc
  ·rw[aj9]at e;cases e
  ·rw[aj9]at hc;cases hc
 rcases hx with hk | hk
 ·refine wpAny_storeName_local hk hn (fun h' hn' hs=>?_) cx8
  refine ko (id hn) fun oL _ _ hoL _=>?_;refine h _ #[bd_,#[bJ,hn',(#[a4P,?_])],fun y c e=>?_,oL,hoL,ZvU] #[bJ,hs,ZnH]
  ·exact #[aRf,Zoc]
  ·obtain⟨sl,e1⟩:=ZabQ
   exact⟨sl,#[zy,Zoc] e1⟩
  ·obtain⟨o',e1⟩:=ZOp
   exact⟨o',#[zy,Zoc] e1⟩
  ·by_cases hj:j=i
   ·subst hj
    rw[hi]at e1;cases e1;rw[Za4Q hiσ]at e2;cases e2;exact ⟨u,r,(Zal #[zJ,hk])⟩
   ·rw[ZaRg]at e2
    refine Za3H;refine ZaN3;rcases q with ⟨k,e⟩ | ⟨k,c,e,z⟩
    ·refine Zal #[cu,k]
     have:y≠x:=#[cb,hj (HZ hN e1 (e▸hi))];simp[this,e]
    ·exact #[q5,k,c,e,Za4R hs ZaKe]
  ·obtain⟨w',z⟩:=ZlG y c e
   exact⟨w',Za4R hs ZaKe⟩
  ·refine ZahN
   exact #[a0',ne]
 ·have hfn:ZUX:=by
   rcases hf with z | z
   ·exact z
   ·rw[z]at hk;cases hk
  obtain⟨c,hc⟩:=ZM3 x (Zal hk);obtain⟨w',z⟩:=ZlG x c hc;refine wpAny_storeName_cell Zj8 hk hc z (fun h' hc' hs=>?_);refine #[c8,z,fun oc hoc cj8=>?_];refine h ZlR #[bd_,#[aY,m,Za4S hs (aQA (cne x c hc)),#[a4P,?_]],fun y c' e=>?_,oc,hoc,ZvV x c hc] ⟨c,hs,Zap hc⟩
  ·exact #[aRf,ZahM]
  ·obtain⟨sl,e1⟩:=ZabQ
   exact⟨sl,#[zy,ZahM] e1⟩
  ·obtain⟨o',e1⟩:=ZOp
   exact⟨o',#[zy,ZahM] e1⟩
  ·by_cases hj:j=i
   ·subst hj
    rw[hi]at e1;cases e1;rw[Za4Q hiσ]at e2;cases e2;exact ⟨u,r,#[q5,Zal hk,c,hc,hc']⟩
   ·rw[ZaRg]at e2
    refine Za3H;refine ZaN3;rcases q with q | ⟨k,c',e,z'⟩
    ·exact ZIm
    ·refine #[q5,k,c',e,z'.sameBut hs ?_]
     rintro rfl;exact hj (HZ hN e1 (ZM5 _ _ _ e hc▸hi))
  ·by_cases hcc:c'=c
   ·subst hcc;exact#[aR,hc']
   ·obtain⟨w2,z2⟩:=ZlG y c' e
    exact⟨w2,z2.sameBut hs hcc⟩
  ·refine ZahN
   refine #[a0',?_];intro q;rw[q,hoc]at e;have q':oc=p.2:=aQp e;exact d w' #[eW,q',cj8]
def Dc {M:Model}{A:Around}{E:ZfG}{i:Nat}{x:Str}{v:V}{u:Value}{Q:ZfU}(I:Zjf)(hN:X.N.Nodup)(hi:ZnN)(hx:Zan1)(r:Zfm)
  (h:#[KD,ZaPS]) (hf:Zan4:=by first | exact ZnH | exact ZZB | assumption):Za5h :=
 EM I hN hi hx r (fun s' I' _=>h s' I') hf
def aT.call' {s':Shared}{ch:Zei}(I:Zjf)(ho:ZacL)(u:Un (mw Zdv) ch H H' ZaD Zc')(hok:ZaG2)(hg:ZanX)
  (hch:Za4K):Zrb:=by
 obtain⟨h',g',d',t',o'⟩:=s';have e:o'=s.os:=ho;subst e;exact I.call (g':=g') (t':=t') (d':=d') u hok hg hch
#where
noncomputable abbrev XK:=#[c5,Zb3,Zgk,Hp]
noncomputable abbrev St:=ZabP
noncomputable abbrev VK:=#[go,V]
noncomputable abbrev TE:=#[c5,St,Hp,VK]
noncomputable abbrev TT:=#[c5,St,Hp,(#[go,ZbQ])]
noncomputable abbrev TA:=#[c5,St,Hp,(#[go,Zbs])]
structure pG where
 nx:Zgp
 rt:VK
 bk:Zgp:=Zjw
 ct:Zgp:=Zjw
noncomputable abbrev TS:=#[c5,pG,St,Hp]
abbrev EP [199](Q:VK)(u:Value)[155]:Zaa:=∃ v H',Zrb/\Zfm/\ZID
abbrev TP [199][144](b:Bool)[155]:Zaa:=∃ H',Zrb/\Q b H'
abbrev AP [199](Q:Zaz4)[88][155]:Zaa:=∃ vs H',Zrb/\ZnR/\Q vs H'
abbrev SP [230][17](D:pG)(f:Flow)[155]:Zaa :=
 match f with
 | ZrB=>#[ac8,Zog]
 | .brk=>#[ac8,D.bk]
 | .cont=>#[ac8,D.ct]
 | Zf1 u=>∃ v σ' H',ZyF/\Zfm/\D.rt v H'
abbrev PE [230][392](t:TE):Zaa :=
 ∀ [2](Q:VK),Zjf->Zt6->#[RB,#[kN,e]]
abbrev PT [230][392](t:TT):Zaa :=
 ∀ [2][144],#[aYB,#[kN,e]]
abbrev PW [230][392](t:TT):Zaa :=
 ∀ (whole:Zye)[2][144],#[aYB,whole]
def PW.pt [61]{e:Expr}{t:TT}(h:PW X e t):PT X e t:=h _
abbrev PA [412]:Zaa :=
 ∀ (pos:Pos)[2](Q:Zaz4),Zjf->Zt6->#[xa,(Zai2 #[anF,pos,es]),#[Rz,AP]]
abbrev PS [230](st:Stmt)(t:TS):Zaa :=
 #[aY',exec]
abbrev GJ [230](st:Zik)(t:TS):Zaa :=
 #[aY',execs]
def bZ [80]{t:Sem α}{Q Q':#[fF,α]}{M:Model}[53][51][266](h:#[pV,t])(hQ:∀ a s,Q a s->Q' a s):#[fH,M,t,Q']:=aQR h hQ Zng
section
variable {X:Cx}
inductive TV [221](σ:St)[178]:Zaa
 | mk (v:V)(e:ZaJE)(h:ZAE)
abbrev Jd [221]:TE:=#[ai3,TV i σ H Q]
abbrev tC (v:V):TE:=#[ai',ZAE]
def Ql [253][156](hN:ZnN)(hv:ZanZ)[54](Z_:Zaaz:=by decide):ZaGl:=by
 intro pins s σ H Q I h;obtain⟨v,e,h⟩:=h;refine ZTM;refine #[agE,hN,e,hv];have fin:#[nd,u,s]:=az v H I r h;rcases l with ⟨hk,hm⟩ | ⟨hk,c,hc,hcell⟩
 ·exact #[a4W,Za4T,hn,hm]
 ·rcases hk with hk | hk
  ·exact #[a4W,Za4U,hc,hcell]
  ·exact Za4V (wpAny_loadName_free Zj8 hk hc hcell fin Z_) hd
def aj {i j pos}:#[Lr,ZZM,(tC (Zah i))]:=#[aMf,Za4X,ZZM]
def ve {b j pos}:#[Lr,(Zft b),(tC (.bl b))]:=#[aMe,Constant_bool,(.bl b)]
def jY {j pos}:#[Lr,Zax,(tC ZaK)]:=#[aMe,Za4Y,ZaK]
def ak {x j pos}:#[Lr,ZIP,(tC (Zag x))]:=#[aMf,Calls.Constant_str,ZIP]
abbrev Gl [230][191]:Zaa:=#[bB,ZaiN,.globalImplicit]
def kN {E:ZfG}{pins:Zej}{s:Shared}{σ:St}{H:Hp}{x:Str}{u:Value}{pos:Pos}{Q:ZfG}(I:Zjf)(hg:Zee)(hm:ZabL)(h:Q u s)
  (hd:Za71:=by decide):ZaFV :=
 #[aXO,(Calls.loadGlobal_global Za6J hm h)]
def lI {E:ZfG}{pins:Zej}{s:Shared}{σ:St}{H:Hp}{x:Str}{u:Value}{pos:Pos}{Q:ZfG}(I:Zjf)(hg:Zee)(hm:ZBh)(hv:#[bc1,u])(h:Q u s)
  (hn:ZbcK:=by decide) (hd:Za71:=by decide):ZaFV:=by
 refine ao I.mod.blt fun mb h1 h2=>?_;exact #[aXO,(Calls.loadGlobal_builtin Za6J hm #[aM,Zajb,Za40 I.bk] ((h2 x hn).trans hv) h)]
def xO [322](hm:ZabL)(r:Zfm)[54]:Zadn :=
 #[M6,kN I hg hm ZaWP hd]
def SJ [322](hm:ZBh)(hv:#[bc1,u])(r:Zfm)[354][54]:Zadn :=
 #[M6,lI I hg hm hv ZaWP hn hd]
variable {a b:Expr}{ta tb:TE}{pos:Pos}
abbrev PC [230](op:CmpOp)(a b:Expr)(t:TE):Zaa :=
 ∀ [2](Q:VK),Zjf->Zt6 ->
  #[a2n,(Zajc op v u),ZRA]
def HY (b:Expr){op:CmpOp}(h:ZaHg)(h2:ZaHh):ZMj:=by
 have e1:ZaHO:=by cases op<;>first | rfl | exact #[oS,h]
 have e2:ZaHP:=by cases op<;>first | rfl | exact ZaaF
 cases b<;>simp[behindInMarks,e1,e2]
abbrev Zg (ta:TE):TE:=#[ai6,Q (.bl (ZlI (ZZf))) H1]
abbrev XX (ta:TE):TE:=#[ai6,Q (.bl (!#[lJ,ZZf])) H1]
def bJ.none_iff {x:V}[317](r:ZeL):(v == Zj9)=#[lJ,ZZf]:=by
 cases x with
 | non=>cases r;rfl
 | bl _=>cases r;rfl
 | int _=>obtain⟨t,rfl⟩:=r;rfl
 | str _=>obtain⟨t,rfl⟩:=r;rfl
 | byt _=>obtain⟨t,rfl⟩:=r;rfl
 | flt _=>obtain⟨t,rfl⟩:=r;rfl
 | ref _=>cases r;rfl
 | ty _=>cases r;rfl
def zd {j pos'}[148]:#[aYw,.Is,Zg]:=by
 intro pins s σ H Q I h;refine ZacB;obtain ⟨x,H1,I1,r1,q1⟩:=zz;exact #[a4Z,is_none_gen]
def SI {j pos'}[148]:#[aYw,.IsNot,XX]:=by
 intro pins s σ H Q I h;refine ZacB;obtain ⟨x,H1,I1,r1,q1⟩:=zz;exact #[a4Z,isnot_none_gen]
inductive Zr [144][413]:Zaa
 | mk (c:Bool)(e:x=.bl c)(h:Q c H)
abbrev tB (t:TE):TT:=#[ai5,t,Zr Q x H1]
def Kt [74]:PE X Za5t t:=#[a41,Za42 (h Zam s σ H Q I hw) h1]
def gZ [74]:PT X Za5t (tB t):=by
 intro pins s σ H Q I hw;refine wpAny_isTrue_Compare1 (bZ #[dj,h,hw] #[aqg,fun u s2 h2=>bZ h2 fun c s3 zz=>?_]) h1;obtain ⟨x,H1,I1,r1,q1⟩:=zz;obtain⟨d,rfl,q⟩:=q1;cases r1;exact ZaTF
def iG [393](he:∀ whole,ZCa e ZaQ whole=(do let v <-whole;#[sZ,e.pos];ZaYk):=by intro _;rfl):PT X e (tB t):=by
 intro pins s σ H Q I hw;refine isTrue_plain (bZ #[dj,h,hw] Zju) (he _);obtain ⟨x,H1,I1,r1,q1⟩:=zz;obtain⟨d,rfl,q⟩:=q1;cases r1;exact ZaTF
variable {tA tB':TT}{rest:Zbu}
abbrev Y6 (t u:TT):TT:=#[ai9,#[dn,c,u σ H1 Q,Q Zay H1]]
abbrev Z0 (t u:TT):TT:=#[ai9,#[dn,c,Q Zad H1,u σ H1 Q]]
abbrev Zi (t:TT):TT:=#[ai9,ZaS8]
def jm [254]:PW X (ZrC .And [a] pos) tA:=by
 intro wh pins s σ H Q I h;refine #[a0K,Za43]
 cases c with
 | true=>exact isTrue_and_nil e
 | false=>exact e
def CN [254]:PW X (ZrC .Or [a] pos) tA:=by
 intro wh pins s σ H Q I h;refine #[a0K,Za44]
 cases c with
 | false=>exact isTrue_or_nil e
 | true=>exact e
def kA [254](hb:PW X (ZrC .And ZJw pos) tB'):PW X (ZrC .And ZLq pos) (Y6 tA tB'):=by
 intro wh pins s σ H Q I h;refine #[aRu,Za43];obtain ⟨H1,I1,q1⟩:=zz
 cases c with
 | true=>exact ZaYH
 | false=>exact ZaUA
def IB [254](hb:PW X (ZrC .Or ZJw pos) tB'):PW X (ZrC .Or ZLq pos) (Z0 tA tB'):=by
 intro wh pins s σ H Q I h;refine #[aRu,Za44];obtain ⟨H1,I1,q1⟩:=zz
 cases c with
 | true=>exact ZaUA
 | false=>exact ZaYH
def jd [254]:PT X #[aN5,.Not] (Zi tA):=by
 intro pins s σ H Q I h;exact isTrue_not (ha Zam s σ H (fun c H1=>ZaS8) I h)
abbrev XQ (ta tb:TE):TE:=#[a17,ZaGy,Q (.bl Zay) H1]
abbrev Zj (ta tb:TE):TE:=#[a17,Q (.bl Zad) H1,ZaGy]
def Gb {op}{t:TE}(h:PE X a t):#[AO,op,[a],t]:=#[a41,BoolOp_one (h Zam s σ H Q I hw)]
def P9 [148](hb:#[AO,.And,ZJw,tb]):#[AO,.And,ZLq,(XQ ta tb)]:=by
 intro pins s σ H Q I h;refine BoolOp_and (bZ #[dj,ha,h] Zju);obtain ⟨x,H1,I1,r1,q1⟩:=zz;revert q1;intro b_;obtain⟨c,rfl,q1⟩:ao:=b_;cases r1;refine ZZn
 cases c with
 | true=>exact hb Zam s1 σ H1 Q I1 q1
 | false=>exact az (.bl Zay) H1 I1 rfl q1
def TZ [148](hb:#[AO,.Or,ZJw,tb]):#[AO,.Or,ZLq,(Zj ta tb)]:=by
 intro pins s σ H Q I h;refine BoolOp_or (bZ #[dj,ha,h] Zju);obtain ⟨x,H1,I1,r1,q1⟩:=zz;revert q1;intro b_;obtain⟨c,rfl,q1⟩:ao:=b_;cases r1;refine ZZn
 cases c with
 | false=>exact hb Zam s1 σ H1 Q I1 q1
 | true=>exact az (.bl Zad) H1 I1 rfl q1
#where
abbrev bT [1][391][44]:Zaa :=
 Rd H a (Za6 xs) \/
  #[HE,Zaaq/\#[x0,Zdw]/\Zajg=Zac/\Zhi=Zasl/\#[oj,ZCc]/\ZaEr]
abbrev aX [1][391][44]:Zaa :=
 Rd H a (ZcJ xs) \/
  #[HE,Zaaq/\ZyW/\#[asm,ZaEr]]
abbrev YC:Zb3->Zgj
 | Zax=>Zab ZaK
 | ZIy=>#[cZ,.bl,b]
 | Zah i _=>#[c0,i]
 | Zag x _=>#[tW,x]
 | .bytes b _=>#[cZ,.byt,b]
 | .float b _=>#[cZ,.flt,b]
 | Zb1=>ZTY
 | Za2 n=>#[cZ,.ty,n]
 | _=>none
def bJ.abs {x:V}[166](r:Zk'):YC u=Zab x:=by
 cases x with
 | non=>cases r;rfl
 | bl _=>cases r;rfl
 | int _=>obtain⟨t,rfl⟩:=r;rfl
 | str _=>obtain⟨t,rfl⟩:=r;rfl
 | byt _=>obtain⟨t,rfl⟩:=r;rfl
 | flt _=>obtain⟨t,rfl⟩:=r;rfl
 | ref _=>cases r;rfl
 | ty _=>cases r;rfl
def bJ.inj {x y:V}[166](r:Zk')(q:Zha):x=y:=aQp (r.abs.symm.trans q.abs)
def bK.inj:∀ {xs ys:Zbs}[16],ZfQ->bK ys us->xs=ys
 | _,_,_,Zan,Zan=>rfl
 | _,_,_,ZnY,ZaB r' t'=>#[bm,ZaeI,bK.inj t t']
section
variable {X:Cx}{pins:Zej}{σ:St}{H:Hp}{s:Shared}{a:Addr}{xs ys:Zbs}
def bT.of [6](h:ZaAm):Zln:=#[AD,h]
def aX.of [6](h:ZaAl):ZjO:=#[AD,h]
def aT.list [3](h:ZKj):#[aYf,PlainL]:=by
 rcases h with h | ⟨o,d_,n,hk,hc,hd,hs,hz,r⟩
 ·refine JG (h.ok Zbl) #[a45,?_]
  exact ⟨d_,r,bS _ n e rfl rfl rfl,z⟩
 ·refine #[aRR,(bS o n ZaWD hc hd (Za46))]
  have e:=r.length;simp only[aQV]at e
  lia
def aT.tuple [3](h:ZKk):#[aYf,ZBY]:=by
 rcases h with h | ⟨o,d_,n,hk,hc,hs,hz,r⟩
 ·refine nU (h.ok Zbl) fun z d_ r p=>?_
  exact ⟨d_,r,p.old,z⟩
 ·refine #[aRR,(lG o ZaWD hc n (Za46))]
  have e:=r.length;simp only[aQV]at e
  lia
def aT.list_inj [3](h:ZKj)(h':bT X.K H a ys):xs=ys:=by
 refine #[jN,h,fun d_ r a_ _=>?_];obtain⟨o,n,e,_,_,d⟩:bB:=a_;refine #[jN,h',#[a47,?_]];obtain⟨o',n',e',_,_,d'⟩:bB:=a_;rw[e]at e';cases e';rw[d]at d';injection d' with d1 _
 have:d_=its':=Za'4
 subst this;exact ZaeI
def aT.tuple_inj [3](h:ZKk)(h':aX X.K H a ys):xs=ys:=by
 refine #[g',h,fun d_ r a_ _=>?_];obtain⟨o,e,_,n,d⟩:jq:=a_;refine #[g',h',#[a47,?_]];obtain⟨o',e',_,n',d'⟩:jq:=a_;rw[e]at e';cases e';rw[d]at d';injection d' with d1 _
 have:d_=its':=Za'4
 subst this;exact ZaeI
#where
noncomputable abbrev Cx.wish [230][52]:Cx:={ X with xe:=E }
noncomputable abbrev Cx.nox [230]:Cx:=Zajh Zjw
def Cx.Ok.wish [61](ok:X.Ok)[52]:#[aji,0].Ok :=
 ⟨ok.mod,ok.kind,ok.glob,ok.blt,Za48,ok.inj,ok.has,ok.cab,ok.hd,Za49,ok.stk,ok.exf,ok.bs,ok.bsz,ok.noex,ok.exfs,ok.funs,ok.frf⟩
def Cx.Ok.unwish [61][51](ok:#[aji,0].Ok):X.Ok :=
 ⟨ok.mod,ok.kind,ok.glob,ok.blt,Za48,ok.inj,ok.has,ok.cab,ok.hd,Za49,ok.stk,ok.exf,ok.bs,ok.bsz,ok.noex,ok.exfs,ok.funs,ok.frf⟩
section
variable {X:Cx}{pins:Zej}{σ:St}{H:Hp}{s:Shared}{E:ZfG}
def aT.wish [3][52]:ZaIQ:=#[MB,I.ok.wish E,ZlH]
def aT.unwish (I:ZaIQ):Zjf:=#[MB,I.ok.unwish,ZlH]
def SP.unwish [414](h:SP (Zajh E) Zam D f s'):SP X Zam D f s':=by
 cases f with
 | next=>obtain⟨σ',H',I,q⟩:cD:=h;exact Za4'
 | brk=>obtain⟨σ',H',I,q⟩:cD:=h;exact Za4'
 | cont=>obtain⟨σ',H',I,q⟩:cD:=h;exact Za4'
 | ret u=>obtain⟨v,σ',H',I,r,q⟩:eZ:=h;exact #[ah0,Za4_]
def GJ.nox {st:Zik}{t:TS}(h:GJ X.nox st t):GJ X st t:=fun pins s σ H D I hw =>
 aQR (h Zam s σ H D (I.wish _) hw) (#[M7,q.unwish]) #[iF,ZvW z]
#where
section
variable {X:Cx}{st:Stmt}{rest:Zik}{t u:TS}{e:Expr}{te:TE}{pos:Pos}
abbrev XW:TS:=#[vY,ZRS]
abbrev Zk (t u:TS):TS:=#[vY,t ZaMg σ H]
def ax:GJ X [] XW:=#[a5a,#[a5c,σ,H,I,h]]
def ae (h1:Zad7)(h2:GJ X ZdX u):GJ X #[sX,st] (Zk t u):=by
 intro pins s σ H D I h;refine #[a0J,ZaMg]
 cases f with
 | next =>
  revert q;intro a_;obtain⟨σ',H',I',q⟩:cD:=a_;exact h2 Zam s1 σ' H' D I' q
 | ret v=>exact q
 | brk=>exact q
 | cont=>exact q
def af (h1:Zad7):GJ X [st] t:=by
 intro pins s σ H D I h;refine #[a0J,D]
 cases f with
 | next=>exact Za5b q
 | ret v=>exact q
 | brk=>exact q
 | cont=>exact q
def aT.quiet [4][3]:interactive ZaQ=Zay:=by simp[interactive,I.ok.kind]
abbrev XT [343]:TS:=#[vZ,te,fun _ H1=>ZuP]
def bq [108](hs:#[a67,e,Zac]:=by rfl):PS X (.Expr e pos) (XT te):=by
 intro pins s σ H D I h;exact wpAny_Expr_any (bZ ZAq fun v s1 zz=>by obtain ⟨x,H1,I1,r1,q1⟩:=zz;exact ⟨σ,H1,I1,q1⟩) I.quiet hs
abbrev XY [343]:TS:=#[vZ,te,D.rt]
def ar [108]:#[aOI,ZazZ,(XY te)]:=by
 intro pins s σ H D I h;exact wpAny_Return_some (bZ ZAq fun v s1 zz=>by obtain ⟨x,H1,I1,r1,q1⟩:=zz;exact jT x σ H1 I1 r1 q1)
abbrev XZ:TS:=fun D _ H=>D.rt ZaK H
def Mc:#[aOI,Zac,XZ]:=#[a5a,wpAny_Return_none (jT ZaK σ H I rfl h)]
abbrev Zf (c:TT)(t u:TS):TS:=#[vZ,c,#[v0,#[dn,b,t D σ H1,u D σ H1]]]
def aN {c:Expr}{a b:Zik}{tc:TT}(hc:ZaP0)(ha:GJ X a t)(hb:GJ X b u):PS X (.If c a b pos) (Zf tc t u):=by
 intro pins s σ H D I h;refine wpAny_If (bZ #[dj,hc,h] fun d s1 zz=>?_);obtain ⟨H1,I1,q1⟩:=zz
 cases d with
 | true=>exact ha Zam s1 σ H1 D I1 q1
 | false=>exact hb Zam s1 σ H1 D I1 q1
abbrev Wc:TS:=ZqK
def gU {sts:Zik}:GJ X sts Wc:=fun _ _ _ _ _ _ h=>ZM9
#where
noncomputable abbrev TG:=V->St->#[cp,Hp,(Zgp)]
noncomputable abbrev Rn:=Zbs->St->#[cp,Hp,(Zgp)]
abbrev PG [230](target:Expr)(t:TG):Zaa :=
 ∀ [2](v:V)(u:Value)[280],Zjf->Zfm->t v σ H Q ->
  #[xa,(Zoh ZCd ZaQ u),(fun _ s'=>ZaFQ)]
abbrev WK [230](ts:Zbu)(t:Rn):Zaa :=
 ∀ [2][292][88][280],Zjf->ZnR->t vs σ H Q ->
  wpAny Zw_ X.A (assignInOrder (#[Fy,ts].map (·.2)) us) #[Xr,ZaFQ] X.xe s
noncomputable abbrev Yg:=V->V->#[cp,Hp,VK]
abbrev Zp [230](op:Operator)(t:Yg):Zaa :=
 ∀ [212],Zjf->ZeL->Zha->t x y H Q ->
  #[RB,(Za5d op v u)]
section
variable {X:Cx}{pos:Pos}
abbrev va [221]:TG:=fun v σ H Q=>Q ZavR H
def AT [253][81][8]:ZaR0:=by
 intro pins s σ H v u Q I r h;exact Za5e (Dc I hN hi hx r (fun s' I'=>#[fJ,H,I',h]) hf)
abbrev YI:Rn:=fun vs σ H Q=>vs=[]/\Q σ H
inductive GC (t:TG)(u:Rn)[292][293][280]:Zaa
 | mk (v:V)(r:Zbs)(e:vs=v::r)(h:t v σ H #[ajj,u r σ' H' Q])
abbrev WX (t:TG)(u:Rn):Rn:=fun vs σ H Q=>GC t u vs σ H Q
def dX:WK X [] YI:=by
 intro pins s σ H vs us Q I r h;obtain⟨e,h⟩:=h;subst e;cases r;exact assignInOrder_nil ⟨σ,H,I,h⟩
def aW {e:Expr}{es:Zbu}{t:TG}{u:Rn}(h1:PG X e t)(h2:WK X es u)
  (hs:#[Fy,ZdD].map (·.2)=Zoh e ZaQ::#[U9,0].map (·.2):=by rfl):WK X ZdD (WX t u):=by
 intro pins s σ H vs us Q I r h;obtain⟨v,vr,e1,h⟩:=h;subst e1
 cases r with
 | cons r rr =>
  rw[hs];refine assignInOrder_cons (bZ (h1 Zam s σ H _ _ _ I r h) fun _ s1 zz=>?_);obtain ⟨σ1,H1,I1,q1⟩:=zz;exact h2 Zam s1 σ1 H1 _ _ Q I1 rr q1
inductive GT [1][42](t:Rn)(v:V)[293][280]:Zaa
 | mk [86][44](e:v=Zb1)(q:ZjO)(l:ZaJ=n)(h:t xs σ H Q)
abbrev WZ [1][42](t:Rn):TG:=fun v σ H Q=>GT K n t v σ H Q
def gH {es:Zbu}{k:Nat}{t:Rn}{n:Nat}(hc:ZfT)(h:ZaJ4)
  (hn:ZaOy:=by rfl) (hst:Zaxv (·.1)=none:=by rfl):#[a0j,(WZ X.K n t)]:=by
 intro pins s σ H v u Q I r hw;obtain⟨a,xs,e1,hq,hl,hw⟩:=hw;subst e1;cases r;refine #[xR,fun d_ rv ht hz=>?_];refine assign_Tuple_tuple ZOG ht (by simp[hn,<-hl,rv.length]) hst fun h' hx=>?_;have I1:ZAe:=ZrD (t':=ZbX) #[dy,hx b o ZjB e];exact h Zam _ σ H xs _ Q I1 (Za5f) hw
abbrev V2 [343](g:TG):TS:=#[vZ,te,#[M_,g x σ H1 Zog]]
def lJ {tg e:Expr}{te:TE}{g:TG}(he:Zhg)(hg:ZaRZ)(hs:#[Tz,swapsWithSole [tg] e Zajk ZaQ]:=by rfl)(hw:swappedStores [tg] e ZaQ=Zck Zac:=by rfl)
  (h1:#[Fy,[tg]].map (·.2)=[Zoh tg ZaQ]:=by rfl):#[GA,tg,e,(V2 te g)]:=by
 intro pins s σ H D I h;refine wpAny_Assign_stores #[pG,he,Zju] hs hw;obtain ⟨x,H1,I1,r1,q1⟩:=zz;rw[h1];exact bZ (hg Zam s1 σ H1 x v _ I1 r1 q1) fun _ s2 q=>q
def ju [253][192]{pos':Pos}[81][108][127] :
  ZaYy:=by
 intro pins s σ H D I h;refine wpAny_Assign_Name (bZ ZAq Zju) hs;obtain ⟨y,H1,I1,r1,q1⟩:=zz;exact Dc I1 hN hi hx r1 (fun s2 I2=>#[fJ,H1,I2,q1]) hf
abbrev Y7 [221][343](ti:Yg):TS:=#[vY,∃ x,#[av,Zajm,#[fI,x]]/\te σ H fun y H1=>ti x y H1 fun z H2=>Zog (ZCe i (Zab z)) H2]
def VQ [253][192]{op:Operator}{ti:Yg}{pos':Pos}[81][108](ho:Zp X op ti)[8] :
  PS X (.AugAssign #[xj,Zn6] op e pos) (Y7 i te ti):=by
 intro pins s σ H D I h;revert h;intro a_;obtain⟨v,e1,h⟩:ao:=a_;refine ZTM
 have vis:ZanZ:=by rcases hx with k | k;exact ZIl;exact #[m9,k]
 refine #[agE,hi,e1,vis];refine wpAny_AugAssign_Name ?_
 have go:#[xa,#[kN,e],(fun w s₂=>Zb7 Zw_ X.A (Za5d op u w) (fun r s₃=>#[xc,(Za5g ZaQ x r),#[eC,SP X Zam D ZrB],s₃]) ZlO s₂)]:=by
  refine bZ (he Zam s σ H _ I h) fun w s1 zz=>?_;obtain ⟨y,H1,I1,r1,q1⟩:=zz;refine bZ (ho Zam s1 σ H1 v y u w _ I1 r r1 q1) fun z s2 zz=>?_;obtain ⟨zv,H2,I2,r2,q2⟩:=zz;exact Dc I2 hN hi hx r2 (#[ajn,#[fJ,H2,I3,q2]]) hf
 rcases l with ⟨hk,hm⟩ | ⟨hk,c,hc,hcell⟩
 ·exact Za4T Zj8 hk hn hm go
 ·rcases hk with hk | hk
  ·exact Za4U Zj8 hk hc hcell go
  ·rcases hx with k | k
   ·have:ZaEm:=hk
    rw[k]at this;cases this
   ·have:ZaEm:=hk
    rw[k]at this;cases this
abbrev ZO (f:Zacm):Yg:=#[arE,x=ZdN/\y=ZH0/\#[jP,(f i j)]]
def Vg:Zp X .Add (ZO #[lP,i+j]):=by
 intro pins s σ H x y v u Q I r1 r2 h;obtain⟨i,j,e1,e2,q⟩:bM:=h;subst e1;subst e2;obtain⟨t,rfl⟩:=r1;obtain⟨t',rfl⟩:=r2;exact iadd_int (#[zx,ZYf,q])
#where
section
variable {X:Cx}{pos:Pos}
abbrev We (c:TT)(tb:TS):TS:=fun D σ H=>∃ W:Zlr,(∃ m,ZaNZ)/\∀ m σ H,ZaNZ ->
 c σ H #[v0,#[dn,b,#[aoV,W m' σ' H',tb #[aoj,N,N] σ H1],ZuP]]
def xR {c:Expr}{body:Zik}{tc:TT}{tb:TS}(hp:Za1c)(hc:ZaP0)(hb:ZaQn):PS X (.While c Zfu [] pos) (We tc tb):=by
 intro pins s σ H D I h;obtain⟨W,a_,turn⟩:ao:=h;obtain⟨m0,w0⟩:=a_;refine wpAny_While (#[GE,codeAny_whileLoop,#[M',ZyF/\W n σ' H'],⟨σ,H,I,w0⟩]);intro n s1 a_;obtain⟨σ1,H1,I1,w1⟩:cD:=a_;refine #[t9,(hc Zam s1 σ1 H1 _ I1 (turn n σ1 H1 w1)),fun b s2 zz=>?_];obtain ⟨H2,I2,q2⟩:=zz
 cases b with
 | true =>
  revert q2;intro a_;obtain⟨N,hN,q2⟩:ao:=a_;rw[Zaz];refine #[t9,(hb Zam s2 σ1 H2 _ I2 q2),fun f s3 q3=>?_]
  cases f with
  | next =>
   obtain⟨σ3,H3,I3,n3⟩:cD:=q3;refine Za19;exact Za24
  | cont =>
   obtain⟨σ3,H3,I3,n3⟩:cD:=q3;refine Za19;exact Za24
  | brk=>exact q3
  | ret v=>exact q3
 | false =>
  rw[ZdQ];exact #[a5c,σ1,H2,I2,q2]
#where
structure It where
 go:Zaz3
 yld:Nat->Hp->#[go,V]
 stop:Zaz3
abbrev o9 [230][17][32](b:Addr):Zaa :=
 Zbb/\Zp2/\ZZk/\(Za4J)/\(ZVc)/\#[Tb,b]
def aT.fpOk [213]{σ:St}[15][266][46][3](hb:#[aw9,b])(hn:Zpm):o9 X Zam H' b:=by
 refine mx hn (aQ5 (aQD I.lt hb)) (I.nofs hb) (Zap (aQZ I.sz hb)) (fun x c e z=>?_) (fun p hp z=>?_)
 ·obtain⟨v,q⟩:=ZlG x c e
  exact #[By,q.lt,ZaFv]
 ·exact #[By,(aQo (ZlH p hp).1),ZaFv]
structure Dp [58][1](tg:Expr)(J:It)[442](it:Addr)(tn:ZSr):Zaa where
 mem:it∈fp
 obj:∀ i h,tn i h->#[aUK,ZeK]
 keep:∀ i h h',tn i h->(#[j_,∀ o,ZeK->Zfa])->tn i h'
 item:∀ [230],ZaLR->X.w=w->Zvn->ZfT->∀ [221][2][52],Zjf->(ZJR)->ZaaG->J.go i H ->
  wpAny Zwi X.A ZaEq (fun r s1=>∃ u,r=Zab u /\
   Zb7 Zwi X.A ZaZ5 (fun _ s2=>∃ x H',ZaCX/\Zk'/\J.yld i H x H'/\tn (i+1) Zv1/\ZRQ) E s1) E s
 done:∀ [230],ZaLR->X.w=w->Zvn->ZfT->∀ [221][2][52],Zjf->(ZJR)->ZaaG->J.stop i H ->
  Zb7 Zwi X.A ZaEq (fun r s1=>r=Zac/\#[je,s1]) E s
 self:∀ (A:Around)[221][154][443][52],ZaaG->ZaJU->#[fH,Zwi,ZaGr,Q]
noncomputable abbrev TI:=#[c5,St,Hp,(#[go,It])]
abbrev Yy [199](tg:Expr)[377](itv:Value)(s2:Shared):Zaa :=
 ∃ (it:Addr)(fp:Zei)(tn:ZSr)(J:It)(H':Hp),itv=Zai it/\ZaCX/\Dp Zcl X.w X.K tg J fp it tn/\tn 0 Zv1/\(ZaDE)/\R J H'
abbrev PI [230](tg bO:Expr)(wi:TI):Zaa :=
 ∀ [2][377],Zjf->wi σ H R ->
  #[xa,#[kN,bO],(fun v s1=>#[xc,(ZCf v),Zah7,s1])]
def En {M:Model}{A:Around}{E:ZfG}{s:Shared}{tg:Expr}{it:Addr}{u:Value}{o:Obj}{n:String}{vs:ZiB}{Q:ZfU}(ho:#[q0,it])(hc:#[x0,n])(hd:Zaeh)
  (hn:[Zhk,Zel,ZNa,Za5i,Za5j,Za5k,Za5l].contains n=Zay) (hQ:Q () s):#[pV,ZaZ5]:=by
 unfold letOwnedTupleGo
 cases tg<;>first
  | exact ZZ4
  | (cases u<;>first
    | exact ZZ4
    | (refine #[qF,wpAny_load,ho]
       rw[hc,hd]
       show #[pV,#[Qk,#[gq,[Zhk,Zel,ZNa,Za5i,Za5j,Za5k,Za5l].contains n&&vs[0]? == #[ul,ZgI]]]]
       rw[aQc (by intro h;rw[hn,Bool.false_and]at h;cases h)]
       exact ZZ4))
abbrev Tz [1][86]:It :=
 #[ar7,Zln,#[Hi,∀ xs,Zln->ZPi],Zln]
abbrev WE [1][86]:It :=
 #[ar7,ZjO,#[Hi,∀ xs,ZjO->ZPi],ZjO]
abbrev Wp [394]:It:=#[aY7,lo+i]
def Oe [193](a it:Addr):#[t_,tg,ZJM,h.IsListIter it a i] where
 mem:=ZaU
 obj:=fun i h st b hb=>by
  have e:ZjI:=ZcM
  subst e;obtain⟨o,e,c,d⟩:aK:=st;exact ⟨o,e,(fun v z=>by rw[d]at z;cases z)⟩
 keep:=ZasK
 item:=by
  intro X hP hw hK hc i pins s σ H E I hf st hg;subst hP hw hK;obtain⟨xs,x,hq,hx⟩:cD:=hg;refine ZaCM;refine Zagl;refine ZgG;refine #[a0U,wpAny_pyNext_list_item,Zv2];have I1:ZAe:=Zbck;refine Zaeg;exact #[aYU,Za5m]
 done:=by
  intro X hP hw hK hc i pins s σ H E I hf st hg;subst hP hw hK;obtain⟨xs,hq,hx⟩:ao:=hg;refine ZaCM;refine ZgG;have hl:=rv.length;exact wpAny_pyNext_list_end ZOG st Zv2 Zalb Zbcj
 self:=#[a_L,wpAny_pyIter_listiter]
def K7 [193](a it:Addr):#[t_,tg,ZJN,Za5n it a i] where
 mem:=ZaU
 obj:=fun i h st b hb=>by
  have e:ZjI:=ZcM
  subst e;obtain⟨o,e,c,d⟩:aK:=st;exact ⟨o,e,(fun v z=>by rw[d]at z;cases z)⟩
 keep:=ZasK
 item:=by
  intro X hP hw hK hc i pins s σ H E I hf st hg;subst hP hw hK;obtain⟨xs,x,hq,hx⟩:cD:=hg;refine ZJz;refine Zagl;refine ZgG;refine #[a0U,wpAny_pyNext_tuple_item,ZaLN];have I1:ZAe:=Zbck;refine Zaeg;exact #[aYU,Zajo]
 done:=by
  intro X hP hw hK hc i pins s σ H E I hf st hg;subst hP hw hK;obtain⟨xs,hq,hx⟩:ao:=hg;refine ZJz;refine ZgG;have hl:=rv.length;exact wpAny_pyNext_tuple_end ZOG st ZaLN Zalb Zbcj
 self:=#[a_L,wpAny_pyIter_tupleiter]
def K6 [193](it:Addr)[394]:#[bd7,ZKf,(lo+Ztl*1),1] where
 mem:=ZaU
 obj:=fun i h st b hb=>by
  have e:ZjI:=ZcM
  subst e
  exact ⟨_,st,(fun v z=>by
   have z':ZaZK:=z
   cases z')⟩
 keep:=ZaUM
 item:=by
  intro X hP hw hK hc i pins s σ H E I hf st hg;subst hP hw hK;refine ZgG;have W:=#[a2v,1];refine Za3U;obtain⟨t,rfl⟩:=hv;have I1:ZY':=Zbcm;refine #[a3M,ZaB3,#[cu,t]];rw[Int.mul_one]
 done:=by
  intro X hP hw hK hc i pins s σ H E I hf st hg;subst hP hw hK;refine ZgG;exact Zbcl
 self:=Za_M
section
variable {X:Cx}{tg:Expr}
inductive ZE [1][377][413]:Zaa
 | mk [86](e:Zlg)(q:∃ xs,Zln)(h:R (Tz K a) H)
abbrev O6 [1](tl:TE):TI:=#[an_,ZE K R x H1]
abbrev W8 [1](tl:TE):TI:=#[an_,∃ a,x=Zb1/\(∃ xs,ZaQw)/\R (WE K a) H1]
def cE {l:Expr}[85]:PI X tg l (O6 X.K tl):=by
 intro pins s σ H R I h;refine ZKy;obtain ⟨x,H1,I1,r1,q1⟩:=zz;obtain⟨a,e,⟨xs,hq⟩,q⟩:=q1;subst e;cases r1;refine aK (I1.list hq) ZFu;refine #[aBf,Zv2];refine #[atf,(Oe a _)]
 have e:ZAf:=ZcM
 subst e;exact ZS4
def sZ {l:Expr}[85]:PI X tg l (W8 X.K tl):=by
 intro pins s σ H R I h;refine ZKy;obtain ⟨x,H1,I1,r1,q1⟩:=zz;obtain⟨a,e,a_,q⟩:aK:=q1;obtain⟨xs,hq⟩:=a_;subst e;cases r1;refine aK (ZNb hq) ZFu;refine aZo (show #[ay5,ZbM] from p) ?_;refine #[atf,(K7 a _)]
 have e:ZAf:=ZcM
 subst e;exact ZS4
def Qw {pins:Zej}{σ:St}{H:Hp}{s:Shared}{R:ZZx}{E:ZfG}{lo hi:Int}{t u v:Tok}{tk:Nat}(I:Zjf)(h1 : -(2 ^ 62)<=lo)(h2:lo<ZZH)(h3 : -(2 ^ 62)<=hi)(h4:hi<ZZH)
  (q:R (Wp lo ZW7) H):wpAny Zw_ X.A ZaGq Zah7 E { s with heap:=s.heap.push { cls:=ZvG,data:=Za1 #[Zix,Ziw,Zva] },toks:=tk }:=by
 refine #[a1O,small_one];have I1:aT X pins σ H { s with heap:=s.heap.push { cls:=ZvG,data:=Za1 #[Zix,Ziw,Zva] },toks:=tk }:=ZaI9
 refine fF ((s.heap.push { cls:=ZvG,data:=Za1 #[Zix,Ziw,Zva] }).objs.size) [(s.heap.push { cls:=ZvG,data:=Za1 #[Zix,Ziw,Zva] }).objs.size] _ _ H rfl
  ZaGZ (K6 _ lo ZW7) ?_ Zxg q
 ·have e1:lo+ZtG*1=lo:=ZaU
  have e2:#[aN9,Zazj,1]:=#[a5p,rangeSize_one]
  show #[bd6,(lo+ZtG*1),Zazj,1]
  rw[e1,e2];exact ZeI
 ·have e:b=(s.heap.push { cls:=ZvG,data:=Za1 #[Zix,Ziw,Zva] }).objs.size:=ZcM
  subst e;exact ZS4
abbrev W6 (ta:TA):TI:=#[aQE,∃ j:Int,vs=[ZH0]/\-(2 ^ 62)<=j/\j<ZZH/\R (Wp 0 j.toNat) H1]
def pU {a:Expr}[179](ha:Zaej)(hs:#[Ef,[a],[ZLi]]:=by rfl):#[aWF,[a],W6]:=by
 intro pins s σ H R I h;refine #[aXs,(aXj Zao0 hs rfl)];obtain ⟨vs,H1,I1,r1,q1⟩:=zz;revert q1;intro a_;obtain⟨j,e,q1,q2,q⟩:jp:=a_;subst e
 cases r1 with
 | cons r rr =>
  cases rr;obtain⟨t,rfl⟩:=r;exact call_range_1 (Qw I1 Zaf Zaf q1 q2 (by simpa using q))
abbrev Zd (wi:TI)(g:TG)(tb:TS):TS:=fun D σ H=>wi σ H fun J H1=>∃ W:ZjX,(∃ m,W 0 m σ H1)/\∀ i m σ H,ZjW ->
 ZaW2
abbrev qD [442][139]:Zej:=fp.filterMap #[iC,(Zef b).map fun o=>ZxH]
def d7 [119][153][362](hb:b∈fp)[321]:ZxH∈qD fp h:=Za5q #[aY,b,hb,ZVC]
def NN [119][153]{p:Zeh×Obj}(hp:p∈qD fp h):p.1∈fp/\#[p1,p.1,p.2]:=by
 refine ao (List.mem_filterMap.mp hp) fun b hb e=>?_
 cases q:Zef b with
 | none=>rw[q]at e;cases e
 | some o =>
  rw[q]at e;have e':ZxH=p:=aQp e;subst e';exact⟨hb,q⟩
def aT.pinned [4][119][3](hf:ZJR)(ho:#[aUK,ZdW]):#[agZ,(Zam++qD fp ZaD)] :=
 I.pins_of fun p hp=>#[aGg,0].elim #[bC,ZlH p (aQF _ z)] fun z=>by
  obtain⟨hb,e⟩:=NN z;refine iu (hf p.1 hb) fun f0 f1 f2 _=>?_;refine ao (ho p.1 hb) fun o e' d=>?_;rw[e]at e';cases e';exact pq e f0 f1 f2 d
def aT.unpinned {pins pl:Zej}[444][266](I:#[agZ,(Zam++pl)]):Zjf:=I.pins_of #[axn,(aQF _ (aZa _ hp))]
def eO {bO:Expr}{body:Zik}{wi:TI}{g:TG}{tb:TS}{pos:Pos}(hp:Za1c)(hc:ZfT)(hi:ZBq)(hg:ZaRZ)(hb:ZaQn)
  (hs:ZFE:=by intro _;rfl):PS X (.For tg bO Zfu [] pos) (Zd wi g tb):=by
 intro pins s σ H D I h;refine wpAny_For (bZ #[dj,hi,h] Zaq') hs;obtain⟨it,fp,tn,J,H2,e,I2,T,st2,f2,a_⟩:iT:=h2;obtain⟨W,b_,turn⟩:ao:=a_;obtain⟨m0,w0⟩:=b_;subst e;have y_:#[aqh,ZaDE]:=fun hn b hb=>#[fc,hn b hb,#[c1,f2]];refine #[GE,codeAny_forLoop_any,#[RR,ZyF,Zc',ZUm],(dE 0 σ H2 I2 st2 #[Sf,f2] w0)];intro n s3 a_;obtain⟨i,σ3,H3,I3,st3,fr3,w3⟩:eX:=a_;rcases turn i n σ3 H3 w3 with ⟨stop,qn⟩ | ⟨go,N,hN,step⟩
 ·refine #[a4i,Zajp,stop]
  obtain ⟨hr,I4⟩:=zz;subst hr;exact #[a5c,σ3,H3,I4,qn]
 ·refine #[a4i,Zajr,go]
  obtain ⟨u,hr,h4⟩:=zz;subst hr;refine #[t9,h4,fun _ s5 zz=>?_];obtain ⟨x,H5,I5,r5,y5,st5,fr5⟩:=zz;have I5':=I5.pinned (y_ fr5) (T.obj _ _ st5);refine #[t9,(hg _ s5 σ3 H5 x u _ I5' r5 (step x H5 y5)),fun _ s6 zz=>?_];obtain ⟨σ6,H6,I6,q6⟩:=zz;refine #[t9,(hb _ s6 σ6 H6 _ I6 q6),fun f s7 q7=>?_]
  have again:∀ {σ7:St}{H7:Hp},aT X (Zam++qD fp s5.heap) σ7 H7 s7->N σ7 H7->#[sQ,#[RR,aT X Zam σ' H' s7,s7.heap,ZF3]]:=fun {σ7 H7} I7 n7=>by
   refine ZvB;refine #[aqz,st5];refine #[aqc,st5];exact ZaoR
  cases f with
  | next=>obtain⟨σ7,H7,I7,n7⟩:cD:=q7;exact ZafG
  | cont=>obtain⟨σ7,H7,I7,n7⟩:cD:=q7;exact ZafG
  | brk=>revert q7;intro a_;obtain⟨σ7,H7,I7,q7⟩:cD:=a_;exact ⟨σ7,H7,Zajt,q7⟩
  | ret v=>revert q7;intro a_;obtain⟨x7,σ7,H7,I7,r7,q7⟩:eZ:=a_;exact jT x7 σ7 H7 Zajt r7 q7
#where
def cZ {K:PySem.W.Frag}{a:Addr}{xs:Zbs}{g:TG}{tb:TS}{D:pG}{σ:St}{H:Hp}(Pv:Zlr)(h0:ZnP)(hl:#[avj,Zln])
  (hs:ZaZa) (hd:Zaco) :
  ∃ W:ZjX,Zlp/\∀ i m σ H,ZjW ->
   #[ao7,ZJM,ZJM,ZJM]:=by
 refine Zahd;intro i m σ H a_;obtain⟨rfl,hi,p⟩:eJ:=a_;have q:=ZBD
 by_cases v_:ZAd
 ·refine ZaQ1
  obtain⟨e,y⟩:=y;subst e;exact ZaSD
 ·have e:ZaaQ:=Zae
  subst e;exact Zahb
def oS {K:PySem.W.Frag}{a:Addr}{xs:Zbs}{g:TG}{tb:TS}{D:pG}{σ:St}{H:Hp}(Pv:Zlr)(h0:ZnP)(hl:ZaK2)
  (hs:ZaZa) (hd:Zaco) :
  ∃ W:ZjX,Zlp/\∀ i m σ H,ZjW ->
   #[ao7,ZJN,ZJN,ZJN]:=by
 refine Zahd;intro i m σ H a_;obtain⟨rfl,hi,p⟩:eJ:=a_;have q:=ZBD
 by_cases v_:ZAd
 ·refine ZaQ1
  obtain⟨e,y⟩:=y;subst e;exact ZaSD
 ·have e:ZaaQ:=Zae
  subst e;exact Zahb
def pM {lo:Int}{n:Nat}{g:TG}{tb:TS}{D:pG}{σ:St}{H:Hp}(Pv:Zlr)(h0:ZnP)
  (hs:#[aQj,ZaB3]) (hd:#[RT,n]) :
  ∃ W:ZjX,Zlp/\∀ i m σ H,ZjW ->
   #[ao7,ZKf,ZKf,ZKf]:=by
 refine Zahc;intro i m σ H a_;obtain⟨rfl,hi,p⟩:eJ:=a_
 by_cases v_:i<n
 ·refine ZaQ0
  obtain⟨e,y⟩:=y;subst e y;exact ZaXi
 ·have e:i=n:=Zae
  subst e;exact ZaEJ
noncomputable abbrev R2:=V->V->#[cp,Hp,VK]
abbrev uZ [230](f:ZBt)(r:R2):Zaa :=
 ∀ [212],Zjf->ZeL->Zha->r x y H Q ->
  #[RB,Zaf7]
abbrev YB [230](f:ZaG')(r:ZJX):Zaa :=
 ∀ [2](x:V)[255](Q:VK),Zjf->ZeL->r x H Q ->
  #[RB,(f v)]
abbrev iY [230](f:Value)[434]:Zaa :=
 ∀ [2][44][88](Q:VK),Zjf->ZfQ->r xs H Q ->
  #[RB,(Zfv f us)]
abbrev YA [230](r:#[c5,V,Hp,(#[go,ZbQ])]):Zaa :=
 ∀ [2](x:V)[255][144],Zjf->ZeL->r x H Q ->
  #[xa,(truthy v),ZV9]
abbrev Yk (r:R2)(ta tb:TE):TE:=#[ai6,#[m_,tb,r x y H2 Q]]
abbrev Z1 (r:ZJX)(ta:TE):TE:=#[ai6,r x H1 Q]
inductive RI [446][323]:Zaa
 | mk [295](c:C i j)(h:Q Zy1 H)
abbrev rI [446]:R2:=#[rE,RI C g x y H Q]
inductive ZH [294][323]:Zaa
 | mk [295](h:Q Zy1 H)
abbrev T4 [294]:R2:=#[rE,ZH g x y H Q]
abbrev rU (g:Int->V):ZJX:=fun x H Q=>∃ i,x=ZdN/\Q (g i) H
section
variable {X:Cx}{a b c:Expr}{ta tb tc:TE}{pos:Pos}
def UM (ha:ZKU)(hb:ZBi){pins:Zej}{s:Shared}{σ:St}{H:Hp}{R:#[c5,V,V,Hp]}(I:Zjf)
  (h:ta σ H #[M_,#[m_,tb,ZaWa]]) {Q:ZfG} {f:ZBt}
  (hf:∀ v u s2 x y H2,#[b0,H2,s2]->ZeL->Zha->ZaWa->#[xc,Zaf7,Q,s2]) :
  #[a2n,Zaf7,Q]:=by
 refine ZacB;obtain ⟨x,H1,I1,r1,q1⟩:=zz;refine #[yI,hb,q1,ZUD];obtain ⟨y,H2,I2,r2,q2⟩:=zz;exact hf v u s2 x y H2 I2 r1 r2 q2
def aL {op:Operator}{r:R2}(ho:#[a6e,op,r])[148](hb:ZBi):PE X (.BinOp a op b pos) ZahA:=by
 intro pins s σ H Q I h;exact wpAny_BinOp (UM ha hb I h Za6s)
def Xq {op:UnaryOp}{r:ZJX}(ho:YB X (unaryOp op) r)[148]:PE X #[aN5,op] (Z1 r ta):=by
 intro pins s σ H Q I h;exact UnaryOp_ (bZ ZIH fun v s1 zz=>by obtain ⟨x,H1,I1,r1,q1⟩:=zz;exact #[Xl,ho,x,v])
def Xl {f:ZBt}{C:ZaNm}{g:Zacm}
  (rule:#[aeZ,C i j->Q ZaVe Zai1->Zb7 Zw_ X.A ZahX Q E s]) :
  uZ X f (rI C #[lP,ZayE]):=by
 intro pins s σ H x y v u Q I rx ry h;obtain⟨i,j,rfl,rfl,hc,q⟩:=h;obtain⟨t,rfl⟩:=rx;obtain⟨t',rfl⟩:=ry;exact rule i j t t' s _ _ hc ZaQX
def Xm {f:ZBt}{g:Zacm}
  (rule:#[aeZ,Q ZaVe Zai1->Zb7 Zw_ X.A ZahX Q E s]) :
  uZ X f (T4 #[lP,ZayE]):=by
 intro pins s σ H x y v u Q I rx ry h;obtain⟨i,j,rfl,rfl,q⟩:=h;obtain⟨t,rfl⟩:=rx;obtain⟨t',rfl⟩:=ry;exact #[a3F,ZaQX]
def SE {f:ZBt}{g:ZKl}
  (rule:#[aeZ,Q (Zft Zy1) s->Zb7 Zw_ X.A ZahX Q E s]) :
  uZ X f (T4 #[lP,.bl (g i j)]):=by
 intro pins s σ H x y v u Q I rx ry h;obtain⟨i,j,rfl,rfl,q⟩:=h;obtain⟨t,rfl⟩:=rx;obtain⟨t',rfl⟩:=ry;exact #[a3F,#[qo,(.bl (g i j)),q]]
abbrev Yp (i j:Int):Zaa:=0<j/\j<ZNc
abbrev Yq (i j:Int):Zaa:=0<=j/\j<=Zv3/\Zaju<ZAr
abbrev Uz (i j:Int):Zaa:=(Zabq<i/\i<ZAr)\/(Zabq<j/\j<ZAr)
def Uz.ok {i j:Int}(h:Uz i j):IntMulOk i j:=by
 rcases h with ⟨h1,h2⟩ | ⟨h1,h2⟩
 ·exact #[aVx,.of_left]
 ·exact #[aVx,.of_right]
def d8:#[a6f,(T4 #[lP,Zah (i+j)])]:=#[vm,Xm,add_int]
def vU:#[a6e,.Sub,(T4 #[lP,Zah (i-j)])]:=#[vm,Xm,sub_int]
def sW:#[a6g,.Mult,Uz,i*j]:=Xl #[a5r,mul_int q hc.ok]
def dL:#[a6h,Yp]:=Xl fun i j _ _ _ _ _ hc q=>by
 have h1:ZdF<j:=hc.1;have h2:j<ZNc:=hc.2;exact #[aZD,PyProof.noPylong_small,Zaf]
def da:#[a6e,.Mod,(rI (fun _ j=>0<j) #[lP,Zah (i%j)])]:=Xl fun i j _ _ _ _ _ hc q=>by
 have h1:ZdF<j:=hc;exact #[nj,mod_int',#[aM,Int.fmod_eq_emod_of_nonneg i Zaf,q]]
def PX:#[a6g,.Pow,Yq,i ^ j.toNat]:=Xl #[a5r,pow_int_small hc.1 hc.2.1 hc.2.2 q]
def Z3 {f:ZaG'}{g:ZadO}
  (rule:∀ (i:Int)(t:Tok)(s:Shared)(Q:ZfG)(E:ZfG),Q (Zah (g i) ZbX) Zai1->Zb7 Zw_ X.A (f (Zah i t)) Q E s) :
  YB X f (rU #[iH,Zah (g i)]):=by
 intro pins s σ H x v Q I rx h;obtain⟨i,rfl,q⟩:ao:=h;obtain⟨t,rfl⟩:=rx;exact rule i t s _ _ #[SX,(Zah (g i))]
def Wi:YB X (unaryOp .USub) (rU #[iH,Zah (-i)]):=Z3 fun _ _ _ _ _ q=>neg_int q
#where
abbrev XB:ZaPi
 | ZaK,ZaK=>true | ZaK,ZjQ=>true | ZjQ,ZaK=>true | ZaK,ZqU=>true | ZqU,ZaK=>true | ZaK,Zhe=>true | Zhe,ZaK=>true
 | ZjQ,ZjQ=>true | ZqU,ZqU=>true | Zhe,Zhe=>true | .byt _,.byt _=>true
 | ZjQ,Zhe=>true | Zhe,ZjQ=>true | ZqU,Zhe=>true | Zhe,ZqU=>true
 | _,_=>false
abbrev ZU:R2:=#[rE,ZaLm/\Q (.bl (ZlI (x=y))) H]
abbrev ZW:R2:=#[rE,ZaLm/\Q (.bl (!#[lJ,x=y])) H]
def Lp {i j:Int}:#[lK,Zau i=Zau j,(i == j)]:=by
 rw[Bool.eq_iff_iff];simp
def OI {i j:Bool}:#[lK,ZeU i=ZeU j,(i == j)]:=by
 rw[Bool.eq_iff_iff];simp
def Lq {i j:Str}:#[lK,#[dE,i,j],(i == j)]:=by
 rw[Bool.eq_iff_iff];simp
def Lo {i j:Zazu}:#[lK,V.byt i=V.byt j,(i.toList == j.toList)]:=by
 rw[Bool.eq_iff_iff];cases i;cases j;simp
section
variable {X:Cx}{a b c:Expr}{ta tb tc:TE}{pos:Pos}
def c8 [4]{Q:VK}{k k':Bool}[3](q:Q (.bl k) H)(e:k=k'):#[nd,(Zft k'),s]:=by
 subst e;exact az (.bl k) H I rfl q
def bF:#[ajd,.Eq,ZU]:=by
 intro pins s σ H x y v u Q I rx ry h;obtain⟨hs,q⟩:=h
 cases x with
 | non =>
  cases rx
  cases y with
  | non=>cases ry;exact #[cI,PySem.EqNone.eq_none_none]
  | bl j=>cases ry;exact #[cI,PySem.EqNone.eq_none_bool]
  | int j=>obtain⟨t',rfl⟩:=ry;exact #[cI,PySem.EqNone.eq_none_int]
  | str j=>obtain⟨t',rfl⟩:=ry;exact #[cI,PySem.EqNone.eq_none_str]
  | _=>exact Zxv
 | bl i =>
  cases rx
  cases y with
  | non=>cases ry;exact #[cI,PySem.EqNone.eq_bool_none]
  | bl j=>cases ry;exact #[qe,eq_bool,OI]
  | str j=>obtain⟨t',rfl⟩:=ry;exact #[cI,PySem.EqMixed.eq_bool_str]
  | _=>exact Zxv
 | int i =>
  obtain⟨t,rfl⟩:=rx
  cases y with
  | non=>cases ry;exact #[cI,PySem.EqNone.eq_int_none]
  | int j=>obtain⟨t',rfl⟩:=ry;exact #[qe,eq_int,Lp]
  | str j=>obtain⟨t',rfl⟩:=ry;exact #[cI,PySem.EqMixed.eq_int_str]
  | _=>exact Zxv
 | str i =>
  obtain⟨t,rfl⟩:=rx
  cases y with
  | non=>cases ry;exact #[cI,PySem.EqNone.eq_str_none]
  | bl j=>cases ry;exact #[cI,PySem.EqMixed.eq_str_bool]
  | int j=>obtain⟨t',rfl⟩:=ry;exact #[cI,PySem.EqMixed.eq_str_int]
  | str j=>obtain⟨t',rfl⟩:=ry;exact #[qe,eq_str,Lq]
  | _=>exact Zxv
 | byt i =>
  obtain⟨t,rfl⟩:=rx
  cases y with
  | byt j=>obtain⟨t',rfl⟩:=ry;exact #[qe,PySem.W.eq_bytes,Lo]
  | _=>exact Zxv
 | _=>cases y<;>exact Zxv
def l9:#[ajd,.NotEq,ZW]:=by
 intro pins s σ H x y v u Q I rx ry h;obtain⟨hs,q⟩:=h
 cases x with
 | non =>
  cases rx
  cases y with
  | non=>cases ry;exact #[cI,PySem.EqNone.ne_none_none]
  | bl j=>cases ry;exact #[cI,PySem.EqNone.ne_none_bool]
  | int j=>obtain⟨t',rfl⟩:=ry;exact #[cI,PySem.EqNone.ne_none_int]
  | str j=>obtain⟨t',rfl⟩:=ry;exact #[cI,PySem.EqNone.ne_none_str]
  | _=>exact Zxv
 | bl i =>
  cases rx
  cases y with
  | non=>cases ry;exact #[cI,PySem.EqNone.ne_bool_none]
  | bl j=>cases ry;exact #[LF,ne_bool,OI]
  | str j=>obtain⟨t',rfl⟩:=ry;exact #[cI,PySem.EqMixed.ne_bool_str]
  | _=>exact Zxv
 | int i =>
  obtain⟨t,rfl⟩:=rx
  cases y with
  | non=>cases ry;exact #[cI,PySem.EqNone.ne_int_none]
  | int j=>obtain⟨t',rfl⟩:=ry;exact #[LF,ne_int,Lp]
  | str j=>obtain⟨t',rfl⟩:=ry;exact #[cI,PySem.EqMixed.ne_int_str]
  | _=>exact Zxv
 | str i =>
  obtain⟨t,rfl⟩:=rx
  cases y with
  | non=>cases ry;exact #[cI,PySem.EqNone.ne_str_none]
  | bl j=>cases ry;exact #[cI,PySem.EqMixed.ne_str_bool]
  | int j=>obtain⟨t',rfl⟩:=ry;exact #[cI,PySem.EqMixed.ne_str_int]
  | str j=>obtain⟨t',rfl⟩:=ry;exact #[LF,ne_str,Lq]
  | _=>exact Zxv
 | byt i =>
  obtain⟨t,rfl⟩:=rx
  cases y with
  | byt j=>obtain⟨t',rfl⟩:=ry;exact #[LF,PySem.W.ne_bytes,Lo]
  | _=>exact Zxv
 | _=>cases y<;>exact Zxv
def CF:#[aje,.Lt,i<j]:=#[vm,SE,lt_int]
def zZ:#[aje,.LtE,i<=j]:=#[vm,SE,le_int]
def L5:#[aje,.Gt,j<i]:=#[vm,SE,gt_int]
def Xn:#[aje,.GtE,j<=i]:=#[vm,SE,ge_int]
def y9:#[ajd,.In,#[arF,Q (.bl (Zbdj)) H]]:=by
 intro pins s σ H x y v u Q I rx ry h;obtain⟨i,j,rfl,rfl,q⟩:bM:=h;obtain⟨t,rfl⟩:=rx;obtain⟨t',rfl⟩:=ry;exact #[qe,in_str,rfl]
def F9:#[ajf,#[arF,Q (.bl (!(Zbdj))) H]]:=by
 intro pins s σ H x y v u Q I rx ry h;obtain⟨i,j,rfl,rfl,q⟩:bM:=h;obtain⟨t,rfl⟩:=rx;obtain⟨t',rfl⟩:=ry;exact #[qe,notIn_str,rfl]
def aJ (b:Expr){op:CmpOp}(h:ZaHg:=by decide)(h2:ZaHh:=by decide):ZMj:=by
 have e1:ZaHO:=by cases op<;>first | rfl | exact #[oS,h]
 have e2:ZaHP:=by cases op<;>first | rfl | exact ZaaF
 cases b<;>simp[behindInMarks,e1,e2]
def mz [97]:PE X Za5t ZahA:=by
 intro pins s σ H Q I h;exact Za42 (UM ha hb I h Za6s) hm
abbrev Uj (t:TE):TT:=#[ai4,t,fun x H'=>Zr Q x H']
def ay [97]:PT X Za5t (Uj (Yk r ta tb)):=by
 intro pins s σ H Q I h
 refine wpAny_isTrue_Compare1 (bZ ZIH fun v s1 ZaXH=>bZ ZaFd fun u s2 ZaIN =>
  #[a1Q,fun c s3 ZaYR=>?_]) hm
 subst e;cases r3;exact aXA ⟨H3,I3,q3⟩
abbrev V3 (r r':R2)(ta tb tc:TE):TE:=fun σ H Q=>ta σ H fun x H1=>tb σ H1 fun y H2=>r x y H2 fun z H3=>∃ k,z=.bl k /\
 (#[dn,k,tc σ H3 fun w' H4=>r' y w' H4 Q,Q (.bl Zay) H3])
def CL {op op':CmpOp}{r r':R2}(ho:ZaO0)(ho':#[ajd,op',r'])(ha:ZKU)(hb:ZBi)(hc:PE X c tc)
  (hm:lastMarks [op,op'] [b,c]=Zay:=by with_unfolding_all rfl):PT X (Za5s a [op,op'] [b,c] pos) (Uj (V3 r r' ta tb tc)):=by
 intro pins s σ H Q I h
 refine isTrue_chain (bZ ZIH fun v s1 ZaXH=>test_link (bZ ZaFd fun u s2 ZaIN =>
  #[a1Q,fun d s3 ZaYR=>?_])) hm
 subst e;cases r3;refine ZZn
 cases k with
 | false =>
  obtain⟨k',e',q'⟩:=q3;cases e';exact ite_ff ⟨H3,I3,q'⟩
 | true =>
  refine ite_tt (test_last (bZ (hc Zam s3 σ H3 _ I3 q3) fun w' s4 zz=>?_));obtain ⟨z',H4,I4,r4,q4⟩:=zz;refine bZ (ho' Zam s4 σ H4 y z' u w' _ I4 r2 r4 q4) fun d' s5 zz=>?_;obtain ⟨z2,H5,I5,r5,k2,e2,q5⟩:=zz;subst e2;cases r5;exact aXA ⟨H5,I5,q5⟩
abbrev WN [1][413](k:Bool):Zaa :=
 match x with
 | ZaK=>Zaal
 | ZIx=>k=b
 | ZdN=>k=(i != 0)
 | Zy7=>ZaSv
 | .byt y=>ZaSw
 | ZcF=>#[a5y,ZKu,Zacu]
 | _=>False
def JW {κ:Zj0}[10]:(!vs.isEmpty) = Za5u:=by
 cases r<;>rfl
def BL [31][296](r:Zzr):(Za5v) = Za5w:=by
 cases r<;>simp
def yL:(Zoi:Nat)<Zqj:=#[B8,aQU]
def Wg:YA X (fun x H Q=>∃ k,WN X.K x H k/\Q k H):=by
 intro pins s σ H x v Q I rx h;obtain⟨k,e,q⟩:ao:=h;have hl:=yL;have hs:Za9b:=aQU
 cases x with
 | non =>
  cases rx;have e':Zaal:=e;subst e';exact truthy_none ⟨H,I,q⟩
 | bl b =>
  cases rx;have e':k=b:=e;subst e';exact aXA ⟨H,I,q⟩
 | int i =>
  obtain⟨t,rfl⟩:=rx;have e':k=(i != 0):=e;subst e';exact PySem.P.truthy_int ⟨H,I,q⟩
 | str y =>
  obtain⟨t,rfl⟩:=rx;obtain⟨hy,e'⟩:ZaSv:=e;subst e';exact #[nj,PySem.P.truthy_str,⟨H,ZtV,q⟩]
 | byt y =>
  obtain⟨t,rfl⟩:=rx;obtain⟨hy,e'⟩:ZaSw:=e;subst e';exact #[nj,PySem.W.truthy_bytes,⟨H,ZtV,q⟩]
 | ref p =>
  cases rx;have e':#[a5y,bT X.K H p xs,aX X.K H p xs]:=e;rcases e' with ⟨xs,hx,e'⟩ | ⟨xs,hx,e'⟩ | ⟨kvs,hx,e'⟩
  ·subst e'
   refine #[jN,hx,Zx5];have hlen:=r.length;exact wpAny_truthy_list Zhl (Za5z) ZaK5
  ·subst e'
   refine #[g',hx,Zx5];have hlen:=r.length;exact truthy_tuple pl (Za5z) ZaK5
  ·subst e'
   obtain⟨hz,hS,vs,r,m⟩:Za0B:=Zbl p _ hx;have hlen:ZiL:=ZuE;exact wpAny_truthy_dict hS m Zaf ⟨H,ZtV,#[aM,JW r,q]⟩
 | _=>exact (show False from e).elim
def CM [148](he:∀ whole,ZCa a ZaQ whole=(do let v <-whole;#[sZ,a.pos];ZaYk)) :
  PT X a (#[ai4,ta,fun x H'=>∃ k,WN X.K x H' k/\Q k H']):=by
 intro pins s σ H Q I h;exact isTrue_plain (bZ ZIH fun v s1 zz=>by obtain ⟨x,H1,I1,r1,q1⟩:=zz;exact #[Xl,Wg,x,v]) (he _)
def bE:#[a6f,#[arF,#[oj,i.length+Za5A]/\#[hR,(i++j),H]]]:=by
 intro pins s σ H x y v u Q I rx ry h;obtain⟨i,j,rfl,rfl,hz,q⟩:bB:=h;obtain⟨t,rfl⟩:=rx;obtain⟨t',rfl⟩:=ry;exact add_str (fun t' tk=>#[zx,(Zag (i++j)),q]) hz
def i8 {x:V}[16](r:ZaBa):ZaY4:=by
 cases r with
 | cons r1 r2=>cases r2;exact #[bK,r1]
def Uk {x y:V}[16](r:ZaBb):∃ u w',us=[u,w']/\Zk'/\bJ y w':=by
 cases r with
 | cons r1 r2 =>
  cases r2 with
  | cons r3 r4=>cases r4;exact az _ _ rfl r1 r3
inductive S0 [11]:Zaa
 | mk [338](_:#[aPJ,j>i])
def MU [113]:#[p',Zj',S0]:=by
 intro pins s σ H xs us Q I r h;obtain⟨i,j,rfl,q⟩:=h;obtain⟨u,w',rfl,b_,c_⟩:bM:=Uk r;obtain⟨t,rfl⟩:=b_;obtain⟨t',rfl⟩:=c_;refine #[a1F,max_two_ints]
 by_cases hj:j>i
 ·rw[Zc9,Zc9];exact Za'
 ·rw[ZgB,ZgB];exact Za'
inductive S7 [11]:Zaa
 | mk [338](_:#[aPJ,j<i])
def Ec [113]:#[p',"min",S7]:=by
 intro pins s σ H xs us Q I r h;obtain⟨i,j,rfl,q⟩:=h;obtain⟨u,w',rfl,b_,c_⟩:bM:=Uk r;obtain⟨t,rfl⟩:=b_;obtain⟨t',rfl⟩:=c_;refine #[a1F,min_two_ints]
 by_cases hj:j<i
 ·rw[Zc9,Zc9];exact Za'
 ·rw[ZgB,ZgB];exact Za'
#where
structure Jt [139](x dx C:Addr)(mA:Zpf):Zaa where
 obj:#[bB,Zef,Zasu]
 ns:ZagI
 ne:Zacg
set_option tactic.hygienic true
def Ny [153]{dx:Addr}[465](n:ZagI):#[a5F,#[p1,dx,od]]:=by
 obtain⟨o,es,ep,ho,hd,hk,_,hm⟩:gi:=n;refine #[aY,o,ho,fun name=>?_];have e:=hm Zda;unfold nsFind findBy at e;rw[<-Array.find?_toList]at e;unfold PySem.W.lookIn;rw[hd];dsimp only;split
 ·rename_i y q
  rw[q]at e;exact ZaKk
 ·rename_i q
  rw[q]at e
  have a:es.toList.any (·.refKey)=false:=by
   rw[List.any_eq_false];intro y hy;refine RK (hk y (Array.mem_toList_iff.mp hy)) fun z t cx4=>?_;simp[DictEntry.refKey,cx4]
  have a':¬ es.toList.any (·.refKey)=true:=#[aqD,a]
  rw[aQc a'];exact ZaKk
set_option tactic.hygienic false
def Jt.look [153]{x dx C:Addr}[465](I:Jt h x dx C mA):#[a5F,Za5B h x Zasu C #[fI,od]] :=
 let ⟨od,ho,hl⟩:=Ny I.ns
 ⟨od,#[cC,I.obj,rfl,ho],hl⟩
section
variable {prog:Program}{w:World}{A:Around}{E:ZfG}{s:Shared}{K:PySem.W.Frag}{x dx C f:Addr}{mA:Zpf}{name:Str}{v:Value}
def RT {expr:Bool}{Q:ZfG}(X:Zob)(I:Zahu)(hg:ZaGS)(hh:Zbc5)
  (ha:#[bb7,Zda,Zac]) (hv:mA Zda=Zab v) (hv':#[azp,v]) (h:Q v Zai1) :
  #[wh,(Zajx Zjn Zda expr)]:=by
 refine Zafj;exact PySem.W.get_value X J Za5D (PySem.W.findObj_own hh ha rfl #[eF,hl,hv]) hv' h
def OZ {pl:Zq8}{Q:ZaNz}(X:Zob)(I:Zahu)(hg:ZaGS)
  (hf:#[bb7,Zda,Zs_]) (ht:ZBk) (hv:mA Zda=Zac) (h:Q (Zai f,[Zai x]) s) :
  #[wh,#[TG,Zjn,Zda]]:=by
 refine Zafj;exact PySem.W.method_fn X J Za5D (Za5C hg).2 hf (ZNd ht) (by show (Za5E Zda od).map (·.isSome)=Zab Zay;rw[hl,hv];rfl) h
def Tf {ns:Zbp}{Q:ZfU}(X:Zob)(I:Zahu)
  (hs:Zbb8) (hp:Zbdx) (ht:#[aW5,Zda]) (hh:Zbc5)
  (hw:PySem.Within mA ns) (hsz:Zaza)
  (h:∀ h',Jt h' x dx C (fun y=>#[h_,y,Zda,v,mA y])->Zv6 dx ZaD h'->Q () #[O3,ZbX+2]) :
  #[aOt,Zda]:=by
 refine Zafj;refine #[aNW,hs,(PySem.W.osa_open (s:=Zai1) (r:=Zac) X J hp ht #[iC,?_])];refine #[Ze,hh,fun cd hc hd'=>?_];have hx:ZdV x=some ⟨ZmZ,Zab dx,.plain,#[]⟩:=I.obj;refine #[aXn,#[avb,hc]];rw[hd'];refine aQk (a:=Zab dx) #[ad8,aQk,aQa];refine Za5G (s:=Zai1) I.ns fun h' hn2 I_=>?_;refine #[a1E,Zda,hw];refine #[aWh,#[jo,aQB]];exact aQk (h _ ⟨(I_.2 _ (aQA I.ne)).trans I.obj,hn2,I.ne⟩ I_)
def Ps {R:ZnG}{vs:Zb4}{kw:Zs5}(X:Zob)(hm:ZbdA)
  (hi:Zbb') (hf:#[akH,K,ZsL])
  (h:codeAny Zwg #[Us,⟨ZmZ::vs,kw⟩] (ZNe #[aj,f] ⟨Zai (Zh6)::vs,kw⟩) (PySem.W.InitBack Zk7 R)
   Za1i) :
  #[wj,(ZNe #[aj,C] ⟨vs,kw⟩)]:=by
 obtain⟨hh,g,d,t,os⟩:=s;exact PySem.W.make_core (PySem.W.makes_of X hm) (Za5H X hi) (fun self=>PySem.W.bind_fn X self hf) Zgt h
#where
abbrev cw [415](v:V):Zpa->Zpa
 | []=>[(f,v)]
 | (g,x)::r=>#[fL,g,f,(g,v)::r,(g,x)::cw f v r]
def aH (f g:Str)(v:V):∀ fs:Zpa,#[fw,ZKB] g=#[h_,g,f,v,ZNf g]
 | []=>by
  show Zajy g [(f,v)]=_
  by_cases h:g=f
  ·have hb:#[g0,g,f]:=ZYP
   simp only[List.lookup,hb,Zcy]
  ·have hb:#[o_,g,f]:=ZYN
   simp only[List.lookup,hb,Zcx]
 | ZZz=>by
  have ih:=aH f g v r;rw[ZahT]
  by_cases hk:k=f
  ·rw[ZH6]
   by_cases h:g=k
   ·have hb:#[g0,g,k]:=ZYP
    simp only[List.lookup,hb,aQd (h.trans hk)]
   ·have hb:#[o_,g,k]:=ZYN
    simp only[List.lookup,hb,#[azo,h (ZajA hk.symm)]]
  ·rw[ZHY]
   by_cases h:g=k
   ·have hb:#[g0,g,k]:=ZYP
    simp only[List.lookup,hb,#[azo,hk (h.symm.trans e)]]
   ·have hb:#[o_,g,k]:=ZYN
    simp only[List.lookup,hb];exact ih
def yJ [415](v:V):∀ fs:Zpa,f∈#[KB,0].map (·.1)/\∀ g,g∈fs.map (·.1)->g∈#[KB,0].map (·.1)
 | []=>⟨Za5I,#[Cg,ZiI]⟩
 | ZZz=>by
  obtain⟨i1,i2⟩:=yJ f v r;rw[ZahT]
  by_cases hk:k=f
  ·rw[ZH6]
   subst hk;exact⟨ZaU,#[Cg,ZCh]⟩
  ·rw[ZHY]
   refine#[ne,#[Cg,?_]]
   ·rw[aQv]
    exact aQh _ i1
   ·rw[aQv]at h ⊢
    rcases Zz7 with e | e
    ·exact ZajB (Zal e)
    ·exact aQh _ (i2 g e)
def zQ [415](v:V):∀ fs:Zpa,#[bf,ZKB,Zek+1]
 | []=>Za5I
 | ZZz=>by
  have ih:=zQ f v r;rw[ZahT]
  by_cases hk:k=f
  ·rw[ZH6,aQB,aQB];lia
  ·rw[ZHY,aQB,aQB];lia
def pJ.some_of {v:V}{o:Zpe}(r:pJ (Zab v) o):∃ u,o=Zab u/\Zfm:=by
 cases o with
 | none=>exact Zvf
 | some u=>exact #[ii,u,r]
def pJ.none_of {o:Zpe}(r:pJ Zac o):o=Zac:=by
 cases o with
 | none=>rfl
 | some u=>exact Zvf
def Nk {v:V}[166](r:Zfm):#[azp,u]:=by
 cases v with
 | non=>cases #[yb,ZaeO];rfl
 | bl b=>cases #[yb,#[IR,b]];rfl
 | int i=>obtain⟨t,e⟩:=ZaFG;cases e;rfl
 | str x=>obtain⟨t,e⟩:=Za5V;cases e;rfl
 | byt b=>obtain⟨t,e⟩:=#[Gm,Za4v b t];cases e;rfl
 | flt b=>obtain⟨t,e⟩:=#[Gm,Zaiy b t];cases e;rfl
 | ref a=>cases #[yb,ZRv];rfl
 | ty n=>cases #[yb,Zbcs];rfl
section
variable {P:Program}{w:World}{H H':Hp}{h h':Heap}{a C dx:Addr}{fs fs':Zpa}
def AM (hok:ZJ5)(e:ZuL):∃ mA,Jt h a dx C mA/\ZaJd/\PySem.Within mA (fs.map (·.1))/\Zek<=ZbE/\ZaNr:=by
 refine sy (#[fK,#[qd,ZpZ],hok a _ e]) fun d z ne ob a_=>?_;obtain⟨mA,n,r,q⟩:aK:=a_;exact ⟨mA,⟨ob,n,ne⟩,r,q,z,d⟩
#where
structure Jn [1][55]:Zaa where
 pg:ZaGT
 hd:Zbc5
 po:Zbdx
 sa:Zbb8
def Jn.get [6]{C:Addr}(c:ZKc)[415]:#[FB,C,f]:=c.pg
abbrev gf [1][55][415]:Zaa:=Zbb9
def gf.taker [6]{C:Addr}{f:Str}(n:ZafA):#[aW5,f]:=by
 unfold PySem.W.takerIn;rw[show Zbb9 from n];rfl
structure Rs [1][447](f:Addr):Zaa where
 at_:Zbb_
 fn:ZBk
 kp:Zbcc
section
variable {X:Cx}{pins:Zej}{σ:St}{H:Hp}{s:Shared}{a C dx:Addr}{fs:Zpa}{f:Str}{v:V}{A:Around}{E:ZfG}
def JO {b:Bool}{Q:ZfG}(I:Zjf)(e:ZuL)(c:Zrf)(n:ZaFN)(l:ZaPQ)
  (h:∀ u s',ZGT->Zfm->Q u s'):#[w',(Zajx ZbV f b)]:=by
 refine ZaT4;refine #[avP,mA f,#[eW,l,r f],ZF8];exact RT Zhm O (c.get f) c.hd n hu (Nk ru) (h u _ ZkH ru)
def BD {m:Str}{g:Addr}{pl:Zq8}{Q:ZaNz}(I:Zjf)(e:ZuL)(c:Zrf)(k:Rs X.K C m g)(l:ZaHp)
  (h:Q (Zai g,Zh') s):#[w',#[TG,ZbV,m]]:=by
 refine ZaT4;have hn:mA m=Zac:=#[fP,pJ.none_of,l,r m];exact OZ Zhm O (c.get m) k.at_ k.fn hn h
def KN {y:V}{u:Value}{Q:ZfU}(I:Zjf)(e:ZuL)(c:Zrf)(n:ZaFN)(hl:ZaBT)(ry:Zha)
  (h:#[KD,#[b0,#[bA,a,ZaBH],s']]):#[w',(setAttr ZbV f u)]:=by
 refine #[avU,fun mA O r wi _ ho=>?_]
 have hz:(fs.map (·.1)).length<=sizeLine:=#[te,aQU]
 refine Tf Zhm O c.sa c.po n.taker c.hd wi hz fun h' O' sb=>h _ ?_;have hd:∃ o,Zem dx=Zab o:=let ⟨o,_,_,e',_⟩:=O'.ns;#[h2,e'];refine I.write (x:=a) (e:=dx) (by rw[e];exact True.intro) (Zap ho) #[aMk,sb] hd ?_;refine pq #[gA,O.ne,ho] ?_ O.ne O'.obj #[fJ,O'.ns,fun g=>?_,ZXJ]
 ·have:=zQ f y fs;lia
 ·show pJ (#[fw,(cw f y fs)] g) (ZaT_)
  rw[aH]
  by_cases q:g=f
  ·rw[ZzY,ZzY];exact ry
  ·rw[ZzV,ZzV];exact r g
 ·by_cases q:g=f
  ·rw[q];exact (yJ f y fs).1
  ·refine (yJ f y fs).2 g (wi g #[aH,hg ?_])
   show (ZaT_)=Zac
   rw[ZzV];exact z
def aT.made [3]:aT X pins σ #[ia,Zaw,(ZiD (Zh6)),Zk7,(Zfr C Zaw [])]
  Za1i:=by
 have e1:#[anS,0].get? Zaw=Zab ZajC:=aQq ZaD rfl
 have e2:(Zaud (ZNg C Zaw)).get? Zk7=Zab #[ast,Zaw]:=by
  have:=aQq ZanS (o:=ZNg C Zaw) rfl
  rwa [aQ6]at this
 have e3:#[ud,#[anS,0].Ns,Zs3]:=dE PySem.W.emptyDict (#[]) _ e1 rfl ZaSL ZjS;have I1:=ZrF (a:=Zaw) (o:=ZiD (Zh6)) (h':=#[anR,ZajC]) (t':=ZbX) (ZTO) Za8 ZayS;refine ZCj (a:=Zh6) (o:=Zfr C Zaw []) (t':=ZbX) (ZTO) (ZNh (aQ6 _ _)) ?_;have ne:Zaw≠Zh6:=aQu (aZh _);refine pq #[qn,ne] Zm7 ne e2 ⟨ZVE,(Za5J e3).at fun o q=>ZmM,#[bF,Za5K],#[ka,#[oS,hy]]⟩
def Rz {prog:Program}{w:World}{env:Env}{e:Expr}{f:Str}{pos:Pos}{s:Shared}{Q:ZfG}(hb:Za5L e f env ZaOC=Zhn e env)
  (h:#[fH,Zwg,ZaOC,(fun o s₁=>#[BH,(Zajx o f Zad),ZiJ])]):#[wh,#[nv,(ZBL e f pos)]] :=
 Attribute_any_ h #[eF,arm_eval_Attribute,hb]
#where
inductive ZM [1][415](Q:VK)[413]:Zaa
 | mk (a C dx:Addr)[242](v:V)[272](c:ZKc)(n:ZafA)(l:ZaPQ)(h:ZAE)
abbrev Zc [1](ta:TE)[415]:TE:=#[ai6,ZM K f Q x H1]
abbrev Y5 [1](ta tv:TE)[415]:TS:=fun D σ H=>tv σ H fun y H1=>ta σ H1 fun x H2=>∃ a C dx fs,Zlg/\H2 a=Zab ZpZ/\ZKc/\ZafA/\ZaBT /\
 #[pl,#[gW,a,ZaBH]]
section
variable {X:Cx}{o e value:Expr}{f:Str}{pos pos' ax5:Pos}{ta tv:TE}
def cG (he:PE X e ta)(hb:#[a5M,e,f,e,#[hH,e]]):#[sN,ZBL,e,f,(Zc X.K ta f)]:=by
 intro pins s σ H Q I h;refine Rz hb (bZ ZAq Zg3);obtain ⟨x,H1,I1,rx,a,C,dx,fs,v,ex,ea,c,n,l,q⟩:=zz;subst ex;obtain rfl:ZRv:=rx;exact JO I1 ea c n l fun u' s2 I2 ru=>az v H1 I2 ru q
def gW [84]:#[a05,(Y5 X.K ta tv f)]:=by
 intro pins s σ H D I h;refine ZaTR;obtain ⟨y,H1,I1,ry,q⟩:=zz;refine Za0m;obtain ⟨x,H2,I2,rx,a,C,dx,fs,ex,ea,c,n,l,q2⟩:=zz;subst ex;obtain rfl:ov=Zho a:=rx;exact KN I2 ea c n l ry #[ajn,#[fR,σ,I3,q2]]
#where
section
variable {X:Cx}{pins:Zej}{σ:St}{H:Hp}{s:Shared}{A:Around}{E:ZfG}{Q:ZfG}{c:Value}{b:Bool}
inductive wH [1][32]:#[cp,V,Zb3] where
 | non:#[nb,ZaK,"NoneType"]
 | bl (x:Bool):#[nb,(.bl x),ZajD]
 | int (i:Int):#[nb,ZZM,ZrG]
 | str [191]:#[nb,ZIP,Zf2]
 | flt (x:UInt64):#[nb,(.flt x),"float"]
 | lst [41][31](e:ZaAm):ZaGO
 | frz [41]{o:Obj}[31](e:#[d6,(ZiE o ZkR)]):ZaGO
 | tup [41][31](e:ZaAl):#[nb,ZbV,Zf3]
 | dK [41][89][135]:ZaGP
 | dT [41][120][188]:ZaGP
 | ins {a C dx:Addr} {fs:Zpa} (e:ZuL) (cl:ZKc) (ha:#[bb5,C,"__class__",Za5P])
   (hn:#[av,ZajE K Za5Q "__get__",#[R0,"getset_descriptor.__get__"]]) (htk:PySem.W.takesIn K Za5Q=Zab Zad)
   (hm:ZaK6):wH K H ZbV Zjr
def No {x:V}{u t:Value}[3](rx:Zk')(ty:wH X.K H x t)(e:Za5R X.K t c=Zab b)(h:∀ tk,Q (Zft b) #[ai0,tk]) :
  #[w',#[tw,ZNi,[u,c]]]:=by
 cases ty with
 | non=>cases #[x4,ZaeO];exact aXD PySem.W.kitx_none I.kIn True.intro e (fun z=>nomatch z) h
 | bl y=>cases #[x4,#[IR,y]];exact aXD PySem.W.kitx_bool I.kIn True.intro e (fun z=>nomatch z) h
 | int i=>obtain⟨t,q⟩:=#[x4,Zaa_];cases q;exact aXD PySem.W.kitx_int I.kIn True.intro e (fun z=>nomatch z) h
 | str y=>obtain⟨t,q⟩:=#[aDh,Za5S];cases q;exact aXD PySem.W.kitx_str I.kIn True.intro e (fun z=>nomatch z) h
 | flt y=>obtain⟨t,q⟩:=#[aDh,Zaiy];cases q;exact aXD PySem.W.kitx_float I.kIn True.intro e (fun z=>nomatch z) h
 | @lst a xs ea =>
  cases ZRw;refine #[Bv,JG,ZkR,fun _ _ n _ h1=>?_];exact aXD PySem.W.kitx_list I.kIn ZaAM e (fun z=>nomatch z) h
 | @frz a ob xs ea =>
  cases ZRw;refine #[Bv,eJ,(ZiE ob ZkR),fun _ _ a_=>?_];obtain⟨_,n,_,h1⟩:cD:=a_;exact aXD PySem.W.kitx_list I.kIn ZaAM e (fun z=>nomatch z) h
 | @tup a xs ea =>
  cases ZRw;refine #[Bv,nU,ZdJ,fun _ _ _ p=>?_];obtain⟨o,h1,h2,_⟩:aK:=p;exact aXD PySem.W.kitx_tuple I.kIn ⟨o,h1,h2⟩ e (fun z=>nomatch z) h
 | @dK a kvs ea =>
  cases ZRw;refine #[Bv,eW,Ze8,fun _ _ vs _ p=>?_];obtain⟨o,es,ep,h1,h2,_⟩:eZ:=p;exact aXD PySem.W.kitx_dict I.kIn ZaKa e (fun z=>nomatch z) h
 | @dT a kvs ea =>
  cases ZRw;refine #[Bv,sD,ZqE,fun _ _ xs _ o es ep h1 h2 _=>?_];exact aXD PySem.W.kitx_dict I.kIn ZaKa e (fun z=>nomatch z) h
 | @ins a C dx fs ea cl ha hn htk hm =>
  cases ZRw;refine ao (AM Zbl ea) fun mA O _=>?_;refine ao O.look fun od J _=>?_;exact aXD (PySem.W.kitx_own (cl.get _) cl.hd ha hn htk hm) I.kIn J e (fun z=>nomatch z) h
#where
structure fj [285](A:Around):Zaa where
 hd:Zfl
 dp:ZNj+3*k+5<Za5W
 un:Zom+16*k+200<Zj1
def fj.mono {j k:Nat}[339](h:j<=k):fj j A:=⟨r.hd,Za5X,Za5Y⟩
def fj.deeper [416](env:Env):fj k (ZCk env) :=
 ⟨r.hd,by have:=r.dp;show ZNj+1+3*k+5<_;lia,by have:=r.un;show Zom+3+16*k+200<_;lia⟩
def J2 [281]:#[Ut,0].depth=ZNj+1:=by
 first | rfl | simp[Around.under,Code.weight,Code.isCreation,Code.isGuard,Code.isCaller,Code.frames,Code.isFrame,guardIds]
def J3 [281]:#[Ut,0].units=Zom+1:=by
 first | rfl | simp[Around.under,Code.cUnits,Code.frames,Code.isFrame]
def fj.make [416][355]:fj k ZUt :=
 ⟨r.hd,by have:=r.dp;rw[J2];lia,by have:=r.un;rw[J3];lia⟩
def fj.depth {k:Nat}[339]:ZNj<Za5W:=Za5X
def fj.units {k:Nat}[339]:Zom+64<Zj1:=Za5Y
abbrev rD:TA:=#[aja,[]]
abbrev oE (ta:TE)(tr:TA):TA:=#[ai6,tr σ H1 fun xs H2=>Q (Zcz) H2]
section
variable {X:Cx}{e:Expr}{es:Zbu}{te:TE}{t:TA}{pos:Pos}
def bz:PA X [] rD:=fun _ _ _ _ H Q I h=>aXW (az [] H I Zan h)
def aB (ha:Zhg)(hr:ZJj)(hs:ZEh:=by rfl):PA X ZdD (oE te t):=by
 intro pos pins s σ H Q I h;rw[hs]
 show #[kP,(Zai2 (Zmz::#[aZN,es]))]
 refine aXk (bZ #[dj,ha,h] Zg3);obtain ⟨x,H1,I1,r1,q1⟩:=zz
 exact bZ #[aWI,hr,q1] fun us s2 zz=>by obtain ⟨xs,H2,I2,r2,q2⟩:=zz;exact az (x::xs) H2 I2 (ZaB r1 r2) q2
abbrev X0 (t:TA):TE:=#[a0c,ZdJ]
abbrev Zh (t:TA):TE:=#[a0c,ZkR]
def bg {x1}(h:ZJj):#[sN,ZNk,es,x1,(X0 t)]:=by
 intro pins s σ H Q I hq;refine #[a3O,wpAny_Tuple_spliced];have hf:ZaCJ:=ZaDy;refine #[a2s,ZdJ];exact ⟨z,us,r,lG _ ZeJ rfl _ rfl⟩
def dw (h:ZJj):PE X (.List es pos) (Zh t):=by
 intro pins s σ H Q I hq;refine #[a3O,wpAny_List_spliced];have hf:ZaCJ:=ZaDy;refine #[a2s,ZkR];exact js z us 0 r ZeJ
#where
noncomputable abbrev Sp:=Zbs->Hp->#[cp,VK,XK]
noncomputable abbrev Di:=ZcU->Hp->Shared->XK->ZfG
structure Fa [5][76]:Zaa where
 frames:Za5Z=Zab Zcm
 mod:ZaFC
 bs:#[aak,ZaJo]
 bsz:base.objs.size<=Zaw
 funs:ZCl ZaS Zcm
 frf:#[gH,Zx8,Zbb]
 hok:#[tz,ZaD]
 bare:ZaDA
abbrev CE [297](u:Value)[155]:Zaa :=
 ∃ v H',s'.os=s.os/\ZanX/\Za0u/\ZaXd/\Zfm/\ZID
abbrev CR (CX:Di)[297](E:XK)(r:Result)[155]:Zaa :=
 match r with
 | .ok (Zf1 u)=>ZaYT
 | .ok _=>False
 | ZNl e=>CX Zcm H s E e s'
structure aY [5](CX:Di)[285](f:Addr)(fd:FuncData)[167](sp:Sp):Zaa where
 len:ZO1
 run:∀ [76](args:Args)[88][292](Q:VK)(E:XK),ZI8->Zarq->#[aT9,Zhp]->ZnR->Zjz ->
  ZrH Zwi A (ZNe #[aj,f] Zhp) (CR CX Zcm P w H s Q E) s
def Fa.make [9][6][77]{base:Heap}[53]{outer:ZcU}[266][38](e:Zarq)[355] :
  #[arp,ZUt]:=⟨by first | exact e.frames | (simpa [Around.under,Code.envs,Code.isFrame,pushEnvs] using e.frames),e.mod,e.bs,e.bsz,e.funs,e.frf,e.hok,e.bare⟩
section
variable {X:Cx}{pins:Zej}{σ:St}{H:Hp}{s s':Shared}
def aT.env0 [3]:#[WL,Fa,X.A,Zdv,s,H] :=
 ⟨ZNm,ZajF,I.bs,ZaQ9,I.stack,ZajG,Zbl,ZCm⟩
def aT.after {Q:VK}[166][3](h:CE Zdv Zcl X.w H s Q u s'):#[nd,u,s']:=by
 obtain⟨v,H',os,bare,un,hok,r,q⟩:ug:=h;obtain⟨hh,g,d,t,os'⟩:=s';obtain rfl:ZaFj:=os;exact az v H' (I.call (h':=hh) (g':=g) (d':=d) (t':=t) (ch:=[]) un hok bare (ZaMm)) r q
#where
abbrev Q3 [164](t:TA):TE:=#[ai_,sp Zzq H1 Q E]
inductive ZN [447][164](t:TA)(σ:St)(Q:VK)[413]:Zaa
 | mk (a dx:Addr)[242][272](l:ZaHp)(h:t σ H fun vs H2=>sp (x::Zzq) H2 Q E)
abbrev MB [447][164](ta:TE)(t:TA):TE:=#[ai6,ZN C m sp X_ E t σ Q x H1]
abbrev EO [55][164](t:TA):TE:=fun σ H Q=>t σ H fun vs H1=>∀ x dx,#[pR,x]->Zabd->Zacg ->
 #[aZY,(upd #[d',dx,ZtN] x ZAJ)]
abbrev je [1](fd:FuncData)[167](ds:Zb4):Zaa :=
 ∀ [154][88],Zob->ZaHX->ZCn s fd ZpW (Zv7 (us++ds))
def je.all [6]{fd:FuncData}{ps:Zbp}(h:∀ us:Zb4,#[SV,Za51 fd ZpW=Zapv]):ZWm:=fun s us _ hl=>by
 rw[aXl]at hl ⊢;exact ZajH (h us hl)
abbrev ir (CX:Di)[230](E:XK):Zaa:=∀ [17][293][154](e:Value)[155],Zjf->CX Zdv H s E e s'->ZlO e s'
section
variable {X:Cx}{CX:Di}{k:Nat}{f C:Addr}{fd:FuncData}{ps:Zbp}{sp:Sp}{X_:Zbs}{ds:Zb4}{E:XK}{x m:Str}{p pos apos:Pos}{e o:Expr}{es:Zbu}{ta:TE}{t:TA}
def KG {pins:Zej}{σ:St}{H:Hp}{s:Shared}{Q:VK}{us:Zb4}{vs:Zbs}(F:Zao3)(hr:ZjV)(hb:Zrk)(hd:Zrj)(hx:Ziy)
  (I:Zjf) (r:ZnR) (h:sp Zzq H Q E):#[RB,(Zfv #[aj,f] us)]:=by
 have r2:bK (vs++X_) ZGo:=ZNn hd
 have hl:ZaHX:=#[XB,Za55,h]
 refine #[L',aZP,ZNo X.A Zdv s H ZpW ZGo Zzq Q E hr I.env0 (hb s us Zhm hl) r2 h]
 cases r with
 | error e=>exact #[ah6,H,s,I]
 | ok fl =>
  cases fl with
  | ret u=>exact I.after hq
  | next=>exact ZvX
  | brk=>exact ZvX
  | cont=>exact ZvX
def L8 (F:Zao3)(hr:ZjV)(hg:Zee)(hm:#[s8,ZsL])(hk:#[bcf,ZsL])(hb:Zrk)(hd:Zrj)(hx:Ziy)
  (ha:Zhh) (S_:Za71:=by decide) (he:ZEh:=by rfl) (J_:ZanI (·.1)=false:=by rfl) :
  #[xl,(Q3 sp X_ E t)]:=by
 intro pins s σ H Q I h;refine ZMs;refine #[a3k,hk];exact KG F hr hb hd hx I1 r q
def SO {pl:Zq8}(he:ZAU)(c:Zrf)(hm:Rs X.K C m f)(F:Zao3)(hr:ZjV)(hb:Zrk)(hd:Zrj)(hx:Ziy)(ha:Zhh)
  (hst:ZEh:=by rfl) (J_:ZanI (·.1)=false:=by rfl)
  (ht:ZaIH=(do
   let ov <-ZxT
   ZAV
   let (f,first) <-Zarl
   Zaru):=by rfl) :
  PE X (ZcN ZBN ZdD [] pos) (MB C m sp X_ E ta t):=by
 intro pins s σ H Q I h;refine ZaLz;obtain ⟨x,H1,I1,rx,a,dx,fs,ex,ea,l,q⟩:=zz;subst ex;obtain rfl:ZRv:=rx;refine Za22;refine ZajJ (first:=Zh') (h₀:=Zhq) ZCo hm.kp (bZ #[aWI,ha,q] fun us s2 ⟨vs,H2,I2,r,q2⟩=>#[cu,ZNp]) hst J_;exact KG (us:=Zb1::us) (vs:=Zb1::vs) F hr hb hd hx I2 (ZaB rfl r) q2
def Qj {pl:Zq8}(he:ZAU)(c:Zrf)(hm:Rs X.K C m f)(F:Zao3)(hr:ZjV)(hb:Zrk)(hd:Zrj)(hx:Ziy)
  (ht:ZaIG=(do
   let ov <-ZxT
   ZAV
   let (f,first) <-Zarl
   ZaG4):=by rfl) :
  PE X (ZcN ZBN [] [] pos) (MB C m sp X_ E ta rD):=by
 intro pins s σ H Q I h;refine ZaLz;obtain ⟨x,H1,I1,rx,a,dx,fs,ex,ea,l,q⟩:=zz;subst ex;obtain rfl:ZRv:=rx;refine Za22;exact Za56 (first:=Zh') ZNq hm.kp (KG (us:=Zh') (vs:=Zh') F hr hb hd hx I1 ZaCC q)
structure Mk [1](C f:Addr):Zaa where
 makes:ZbdA
 init:Zbb'
 fn:ZBk
 kp:Zbce
def IJ {pins:Zej}{σ:St}{H:Hp}{s:Shared}{Q:VK}{us:Zb4}{vs:Zbs}(M:Zac1)(F:Zao3)(hr:ZLa)(hb:Zrk)(hd:Zrj)
  (hx:Ziy) (I:Zjf) (r:ZnR)
  (h:∀ x dx,#[a_,x]->Zay8->Zacg->#[aZY,#[ia,dx,ZtN,x,ZAJ]]) :
  #[RB,(Zfv #[aj,C] us)]:=by
 have hq:=h Zk7 Zaw (Zod (aZI _)) ZsU ZaOq;have I2:=aT.made (C:=C) I;have r2:bK (ZaN (Zh6)::(vs++X_)) ZaNj:=ZaB rfl (ZNn hd)
 have hl:#[V8,(ZHb::us++ds)]:=by
  have e:=r2.length;rw[F.len _ _ _ _ hq]at e;exact e.symm
 refine aZP (Ps (f:=f) I.kIn M.makes M.init (ZNd M.fn) (aX2 (F.run _ X.stack _ _ #[d7,ZHb::us] ZaNj _ _ E (hr.make C us [])
  #[aH_,us] (hb _ (ZHb::us) ZNp hl) r2 hq) fun r s' hq'=>?_))
 cases r with
 | error e=>exact hx Zam σ _ _ e s' I2 hq'
 | ok fl =>
  cases fl with
  | ret u =>
   refine #[a98,fun v H' I3 rv ev q3=>?_];subst ev;exact⟨rv,az (ZaN (Zh6)) H' I3 rfl q3⟩
  | next=>exact ZadK
  | brk=>exact ZadK
  | cont=>exact ZadK
def SM (M:Zac1)(F:Zao3)(hr:ZLa)(hg:Zee)(hm:ZJL)(hb:Zrk)(hd:Zrj)(hx:Ziy)
  (ha:Zhh) (S_:Za71:=by decide) (he:ZEh:=by rfl) (J_:ZanI (·.1)=false:=by rfl) :
  #[xl,(EO C sp X_ E t)]:=by
 intro pins s σ H Q I h;refine ZMs;refine #[a3k,M.kp];exact IJ M F hr hb hd hx I1 r q
def CI (M:Zac1)(F:Zao3)(hr:ZLa)(hg:Zee)(hm:ZJL)(hb:Zrk)(hd:Zrj)(hx:Ziy)
  (S_:Za71:=by decide):PE X (ZcN Zxk [] [] pos) (EO C sp X_ E rD):=by
 intro pins s σ H Q I h;refine ZMs;exact Za56 Zhm M.kp (IJ (us:=[]) M F hr hb hd hx I Zan h)
#where
structure aD (N P:Zbp)[411]:Zaa where
 kind:ZB2
 co:ZaaY
 gen:ZaaZ
 nd:N.Nodup
 pre:ZaVn
 par:ZaxC
 nofree:Zbcy
def Ea [92]:#[a3l,#[ac3,binds]]
 | [],_,_=>rfl
 | (n,v)::r,m,h=>by
  unfold bindL;rw[#[aUf,Ea]];split
  ·have:x≠n:=by rintro rfl;exact h v aQi
   simp[this]
  ·rfl
def D8 [92]:#[a3l,#[ac4,binds]]
 | [],_,_=>rfl
 | (n,v)::r,m,h=>by
  unfold bindC;rw[#[aUf,D8]];split
  ·rfl
  ·have:x≠n:=by rintro rfl;exact h v aQi
   simp[this]
def D9 [92][317]:∀ [273],P.Nodup->ZaAa->ZNu->#[Tr,Zoo] ->
  #[ac3,ZaM4]=Zab v
 | [],_,_,_,_,h,_,_=>ZiI
 | ZdO,[],_,_,_,_,h,_=>ZiI
 | p::P,ZJ9,0,m,nd,h1,h2,hk=>by
  simp at h1 h2;subst h1;subst h2
  show #[aV6,bindL]
  unfold bindL;rw[#[aLM,Ea],ZH6];simp
 | p::P,ZJ9,i+1,m,nd,h1,h2,hk=>by
  show #[ac3,ZWY]=_
  unfold bindL;exact #[bec,D9]
def D7 [92][317]:∀ [273],P.Nodup->ZaAa->ZNu->Zoo x≠Zab ZlE ->
  #[ac4,ZaM4]=Zab v
 | [],_,_,_,_,h,_,_=>ZiI
 | ZdO,[],_,_,_,_,h,_=>ZiI
 | p::P,ZJ9,0,m,nd,h1,h2,hk=>by
  simp at h1 h2;subst h1;subst h2
  show #[aV6,bindC]
  unfold bindC;rw[#[aLM,D8],ZHY];simp
 | p::P,ZJ9,i+1,m,nd,h1,h2,hk=>by
  show #[ac4,ZWY]=_
  unfold bindC;exact #[bec,D7]
abbrev vi (N:Zbp)[292]:St:=ZapL++Zv8 (ZajK-ZiK) Zac
abbrev Aj [231](f:Addr)(cd:Value)[76](E:XK):Cx where
 prog:=P
 w:=w
 K:=K
 mg:=mg
 base:=base
 A:=ZCk (ZNr Zbx ZbY Zaw f cd)
 N:=N
 s₀:=s
 H₀:=H
 env:=Za2q
 outer:=outer
 stack:=Za2q::Zcm
 ex:=[]
 calm:=true
 fn:=#[bF,Zad]
 pn:=[]
 xe:=#[a1s,#[Ns,ZbY,cd],ZawX]
def G8 {sc:Scope}[71]{x:Str}(h:Zasf):#[HA,#[fw,(Za57 n ZCp [])]]:=by
 have q:=Za59 ZCp n [] (Zal h);exact Zop q
def Nn {CX:Di}{P:Program}{w:World}{K:PySem.W.Frag}{mg:Zpf}{base:Heap}{N ps:Zbp}{qual:Str}{scope:Scope}{f:Addr}{cd:Value}{A:Around}{outer:ZcU}{s s1:Shared}{H:Hp}{E:XK}{us:Zb4}{vs:Zbs}
  (S:ZaXM) (hd:Zfl) (e0:Zarq) (hl:ZaLQ) (r:ZnR)
  (x:InCallC s Zaw #[aVk,bindL] Za58 #[aVk,bindC] s1) :
  #[aXq,cd]:=by
 have J_:Zen<=ZajK:=by have:=#[t5,S.pre];rw[aQQ]at this;lia
 obtain⟨h1,tk,rfl,hk⟩:cD:=x.done;have noA:#[aUO,#[W9,cd]]:=ZSu
 refine⟨#[a96,fun y z c h1 h2=>?_,Zqs,fun y c _ h=>?_],
  rfl,e0.bare,ZaiE,#[bJ,x.toInCall.ns,(fun i y v h1 h2 h3=>?_)],fun y c h=>#[aR,x.cell y c h],Za6a,fun y c h=>?_,Zapa,ZaC6,?_⟩
 ·exact name_of_addr x.apart (aXJ h1) (aXJ h2)
 ·have hy:#[aDp,ZeT]\/#[aDp,Zf5]:=hy
  rcases hy with hy | hy
  ·exact G8 hy
  ·exact #[oS,(S.nofree _ (aXJ hy))]
 ·exact ZB6 (x.above y c (aXJ h))
 ·have hi:ZY_:=by
   unfold vi at h2
   by_cases hi:ZY_
   ·exact hi
   ·rw[aX4 (Za5_)]at h2
    rw[List.getElem?_replicate]at h2;split at h2<;>cases h2
  have ha:ZNu:=by
   unfold vi at h2;rw[aZE (Za5_),aQI]at h2
   cases e:ZNt with
   | none=>rw[e]at h2;cases h2
   | some a=>rw[e]at h2;cases h2;rfl
  refine ZaXw
  have hp:#[kT,ZNv]:=by
   rw[<-S.pre,ZZb];exact h1
  have ndP:ps.Nodup:=#[eV,S.pre,S.nd.sublist (List.take_sublist _ _)]
  refine #[cg,u,rv];rcases ZNw y (aQC hp) with k | k
  ·exact #[mG,k,D9 ndP hp hu k]
  ·obtain⟨c,e⟩:=G8 (n:=Zh6) k
   refine #[q5,ZIl,c,e,?_];have q:=x.cell y c e;rw[D7 ndP hp hu (by show Zv9 y≠_;rw[k];decide)]at q;exact q
 ·exact Za5' (ZB6 (x.above y c (aXJ h)))
 ·unfold vi
  show _=ZajK
  rw[aQl,Z9,List.length_replicate]
  lia
def OV {CX:Di}{P:Program}{w:World}{K:PySem.W.Frag}{mg:Zpf}{base:Heap}{k:Nat}{f:Addr}{name qual:Str}{params:Arguments}{body:Zik}{scope:Scope}{dV kV doc pm i_ ct oc:Value}{an od:Zgk}
  {osl:Zvw} {N ps:Zbp} {sp:Sp} (lk:#[aqa,Za2V]) (Z_:ZadH) (S:ZaXM)
  (len:ZO1)
  (P_:∀ (A:Around)(outer:ZcU)(s:Shared)(H:Hp)(vs:Zbs)(Q:VK)(E:XK),fj k #[Ns,ZbY,i_]->Zjz ->
   #[awy,CX,ZbY,i_,Zfu]) :
  #[a1M,(Za2V)]:=by
 refine⟨len,#[a6b,?_]⟩;have hl:=ZaPI;have KX:Zob:=e0.mod.kin.keeps ZarD;have lim:s.heap.NoLimit:=Za6c ZarD
 have bk9:#[kb,Zv7 us,Zv9 y.1=Zab ZlE\/(Zv9 y.1=Zab ZeT/\#[jA,(#[fw,Za58] y.1)])]:=fun ⟨n,v⟩ hy=>by
  rcases ZNw n (aZQ hy).1 with q | q
  ·exact ZIm
  ·exact Zap ⟨q,Za59 _ _ _ (Zal q)⟩
 refine #[a3f,codeAny_call_function,KX,lk,(PySem.W.codeRec_of KX Z_)];refine wpAny_newFunctionEnv_cells ZCq bk9 fun env he s1 x=>?_;subst he;refine⟨lim.keeps x.toInCall.keep,codeAny_func ?_⟩;refine ZaZT;have I:#[aXq,i_]:=Nn S ZCr e0 hl r x;refine aQR (ht [] s1 ZTI H _ I hq) (fun fl s' hs=>?_) fun e s' hs=>hs
 have fin:∀ {σ':St}[445]{v:V}[166],aT #[W9,i_] [] σ' H' s'->Zfm->ZID->ZaYT :=
  fun {σ' H' v u} J rv q=>Za3Q
 cases fl with
 | ret u =>
  obtain⟨v,σ',H',J,rv,q⟩:eZ:=hs;exact fin J rv q
 | next =>
  obtain⟨σ',H',J,q⟩:cD:=hs;exact fin (v:=ZNx) (u:=Zj9) J rfl q
 | brk =>
  obtain⟨_,_,_,q⟩:cD:=hs;exact ZaAk
 | cont =>
  obtain⟨_,_,_,q⟩:cD:=hs;exact ZaAk
section
variable {X:Cx}{x:Str}{p pos:Pos}{e:Expr}{es:Zbu}{t:TA}{id T:String}{r:ZaDK}
abbrev Yj [434](t:TA):TE:=#[ai_,r vs H1 Q]
def bC (hc:#[p',id,r])(hg:Zee)(hm:ZBh)(hv:#[bc1,Zau2])(ha:Zhh)(hn:ZbcK:=by decide)(S_:Za71:=by decide)
  (he:ZEh:=by rfl) (J_:ZanI (·.1)=false:=by rfl):ZaQv:=by
 intro pins s σ H Q I h;refine Zahg;exact PyProof.Rows.callWith_builtin1 (bZ ZaoZ fun us s1 zz=>by obtain ⟨vs,H1,I1,r1,q1⟩:=zz;exact ZaX7) he J_
def bR (hc:ZaPu)(hg:Zee)(hm:ZBh)(hv:Zbc2)(ha:Zhh)(hn:ZbcK:=by decide)(S_:Za71:=by decide)
  (he:ZEh:=by rfl) (J_:ZanI (·.1)=false:=by rfl):ZaQv:=by
 intro pins s σ H Q I h;refine Zahg;exact aXj (bZ ZaoZ fun us s1 zz=>by obtain ⟨vs,H1,I1,r1,q1⟩:=zz;exact ZaX7) he J_
def Ks (hc:ZaPu)(hg:Zee)(hm:ZBh)(hv:Zbc2)[354](S_:Za71:=by decide) :
  PE X (ZcN Zxk [] [] pos) (Yj r rD):=by
 intro pins s σ H Q I h;refine Zahg;exact PyProof.Rows.callWith_type0 (hc Zam s σ H [] [] Q I Zan h)
#where
#print L2
namespace HT
open PySem PyProof.Rows
section
variable {prog:Program}{w:World}{A:Around}{E:ZfG}{s:Shared}
def cat_tup {t b:Addr}{vs ws:Zb4}{Q:ZfG}(ht:ZBY ZaD t Zv_)(hb:ZBY ZaD b ZNy)(hv:vs≠[])
  (h1:ws=[]->#[b9,t,s]) (h2:#[aBe,ws≠[],#[axa,ZaEk]])
  (hsz:#[oj,ZiK+Zkc]):#[wh,(Za6d .Add #[aj,t] #[aj,b])]:=by
 refine jq (id ht) fun a_ ho hc n hd=>?_;obtain⟨cls,dd,data,sl⟩:=a_;refine jq (id hb) fun a_ ho2 hc2 n2 hd2=>?_;obtain⟨cls2,dd2,data2,sl2⟩:=a_;simp only at hc hd hc2 hd2;subst hc hd hc2 hd2
 have e:Zv_++ZNy=#[f6,ZaEk]:=ZaU
 by_cases hw:ws=[]
 ·exact concat_meets ZaAN ZaAO noFill_tuple_add seq_tuple_add PySem.F.slot_tuple_add PySem.F.entry_tuple_add ZazP
   (tuple_addW1 t b Zv_ ZNy n n2 dd dd2 sl sl2 (ZNz) (by simp[hw])) ⟨ho,ho2,h1 hw⟩
 ·refine concat_meets ZaAN ZaAO noFill_tuple_add seq_tuple_add PySem.F.slot_tuple_add PySem.F.entry_tuple_add ZazP
   (tuple_addW2 t b Zv_ ZNy n n2 dd dd2 sl sl2 (ZNz) ZbcC #[ih,aQz,aQz,hsz]) #[cg,ho,ho2]
  rw[e];exact h2 hw
abbrev sIx (n d:Nat):Zgl->Nat
 | none=>d
 | Zny=>#[b5,v<0,(v+Zbj).toNat,Zadx]
def sIx_none (n d:Nat):sIx n d Zac=d:=rfl
def sIx_nat (n d k:Nat):sIx n d (Zab Zui)=min k n:=by
 show (#[b5,Zui<0,(Zui+Zbj).toNat,min #[ui,0].toNat n])=min k n
 rw[ZnI,aZC]
def sIx_le (n d:Nat)(hd:d<=n)(o:Zgl):sIx n d o<=n:=by
 cases o with
 | none=>exact hd
 | some v =>
  show #[tj,v<0,(v+Zbj).toNat,Zadx]<=n
  by_cases hv:v<0
  ·rw[aQd hv];lia
  ·rw[aQc hv];exact Nat.min_le_right _ _
def Li (v:Int)(n d:Nat):#[a0o,#[a4,sIx n d (Zab v)]]:=by
 show #[a0o,#[a4,#[tj,v<0,(v+Zbj).toNat,Zadx]]]
 by_cases hv:v<0
 ·simp only[aQd hv];lia
 ·simp only[aQc hv];lia
def Jv [72][42]:Za6i lo hi 1 Zbj=(ZLS,ZaQM):=by
 have h1:¬ (ZmT<0):=Zae
 unfold Builtin.Slice.sliceAdjust;simp only[h1,aZ3];refine Za6j ?_ ?_
 ·cases lo with
  | none=>rfl
  | some v=>exact Li v n 0
 ·cases hi with
  | none=>rfl
  | some v=>exact Li v n n
def Kv (i j:Nat):ZajL ZkQ ZkX 1=j-i:=by
 unfold Builtin.Slice.slicePlaces
 have h1:ZmT>0:=Zae
 simp only[h1,aXT,Int.ediv_one];split<;>lia
def C5 [317]{o:Zgl}{Q:#[fF,Zgl]}(p:ZNA v o)(h:Q o s):#[wh,(Builtin.Slice.slicePartIndex v)]:=by
 cases p with
 | none=>exact Za6k h
 | int i t=>exact slicePart_int h
def zg {sl:Addr}{vl vu:Value}{lo hi:Zgl}{n:Nat}{Q:#[fF,Int×Int×Nat]}(hs:ZahS)(pl:Zaf5)(pu:Zaf6)
  (h:Q (ZLS,1,sIx n n hi-sIx n 0 lo) s):#[wh,(Builtin.Slice.sliceApplied #[aj,sl] (Zck Zbj))]:=by
 refine ZaWw;unfold Builtin.Slice.sliceApplied Builtin.Slice.sliceFields;refine #[Gf,(#[pC,hos,hds,vl,(aQa (#[pC,hos,hds,vu,(aQa (#[pC,hos,hds,Zax,Zns]))]))])];refine #[mW,Za6k]
 show #[kP,#[Qk,#[g0,ZmT,0]]]
 rw[Zz'];refine aQa (C5 pl (aQa (C5 pu ZaGX)))
 show wpAny _ _ (match Za6i lo hi 1 Zbj with | (lo,hi)=>Zck (lo,ZmT,ZajL lo hi 1)) _ _ s
 rw[Jv lo hi n]
 show #[kP,(Zck (ZLS,ZmT,ZajL ZLS ZaQM 1))]
 rw[Kv];exact ZFS
def Qo [378](i k:Nat):#[f6,(#[NB,(ZiM k)] ZaRT)]=#[f6,((xs.toList.drop i).take k)]:=by
 have e:#[aND,ZaRT]:=by
  funext m
  have:Zawj=i+m:=Zae
  rw[this]
 rw[e];have:=Za6l xs i k;rw[List.filterMap_map]at this;have e2:#[aND,(#[cV,xs[x]?]) ∘ #[cV,i+x]]:=rfl;rw[e2]at this;rw[this]
def getItem_tuple_cut {t sl:Addr}{items:ZiB}{vl vu:Value}{lo hi:Zgl}{Q:ZfG}(ht:ZBY ZaD t Zn9)(hs:ZahS)(pl:Zaf5)(pu:Zaf6)
  (hw:¬ (Zyg=0/\sIx Zf7 Zf7 hi=Zf7))
  (h:#[T0,#[axa,Zah2]])
  (hsz:ZYJ):#[wh,(ZCs #[aj,t] #[aj,sl])]:=by
 have aj8:sizeOk (Za3 #[f6,Zah2]):=by
  show #[oj,#[ah2,0].toArray.size]
  rw[aQz,aQQ,aQN,aQV]
  lia
 have hj:ZF1<=Zf7:=sIx_le _ _ Za8 hi;refine ZaWw;have hTs:#[anU,sl,"slice"]:=⟨os,hos,hcs⟩;unfold getItem
 try with_reducible refine aXo ?_
 first | refine Zabk | skip
 refine aQa (wpAny_sequenceKey ZajM ZaG ?_)
 refine aQa (aXF (name:=#[eD,Za6m]) ht.typeIs PyProof.Rows.slot_tuple_getitem
  (aXO PyProof.Rows.slot_tuple_getitem ZajM entry_tuple_getitem ?_ (args_tuple_getitem _ _)))
 show #[nr,Builtin.Tuple.tupleItemsOf #[aj,t]]
 refine #[qF,tupleItemsOf_,ht];refine #[bdH,hTs];rw[ZAH];refine aQa (zg hs pl pu ?_)
 have hno:¬ (Za3u):=by
  intro q;rw[aXb,aXb]at q;have q1:Zaut=0:=Zoq ZpN;have q2:ZF1-Zyg=Zf7:=Zoq q.2;exact hw ⟨Zae,Zae⟩
 show #[kP,#[Qk,Za3u]]
 rw[aQc hno,Qo]
 first
  | exact #[KE,ZaZP]
  | exact #[KE,(aXi (aQa (aQk (aQk ZVY))) aj8)]
  | exact aQa (#[KE,(aXi (aQk (aQk ZVY)) aj8)])
  | exact aQa (#[KE,ZaZP])
#where
#print HT
namespace L2
open PySem PySem.Spec PyProof.Rows
noncomputable abbrev TO:=#[c5,St,Hp,(#[go,Zgl])]
abbrev PO [230](e:Zay6)(t:TO):Zaa :=
 ∀ [2](Q:Zaz5),Zjf->Zt6 ->
  #[xa,(evalPart e ZaQ),(fun u s'=>∃ o H',Zrb/\ZNA u o/\Q o H')]
abbrev MC:TO:=#[aja,Zac]
abbrev Q7 (t:TE):TO:=#[ai5,t,∃ i,x=ZdN/\Q (Zab i) H1]
section
variable {X:Cx}{e:Expr}{te:TE}{lo hi:Zay6}{tl th:TO}{pos p2:Pos}
def qE:PO X Zac MC:=by
 intro pins s σ H Q I h;rw[evalPart_none];exact aQk (az Zac H I Zax h)
def gI (h:Zhg):PO X ZazZ (Q7 te):=by
 intro pins s σ H Q I hw;rw[evalPart_some];refine bZ (h Zam s σ H _ I hw) Zg3;obtain ⟨x,H1,I1,r1,q1⟩:=zz;obtain⟨i,rfl,q⟩:ao:=q1;obtain⟨t,rfl⟩:=r1;exact az #[fI,i] H1 I1 ZyD q
abbrev WL [230][245]:Zaa :=
 ∀ [2](x:V)(v vl vu:Value)[72](sl:Addr)(Q:VK),Zjf->ZeL->ZahS->Zaf5->Zaf6->r x lo hi H Q ->
  ∃ T id,Za6n/\ZaO2/\#[RB,(ZCs v #[aj,sl])]
abbrev ZB [245][343](tl th:TO):TE:=#[ai7,tl σ H1 fun l H2=>th σ H2 fun u H3=>r x l u H3 Q]
def iF {r:ZafF}(hr:WL X r)[108](hl:PO X lo tl)(hu:PO X hi th):#[NN,e,ZaRI,(ZB r te tl th)]:=by
 intro pins s σ H Q I h;refine ZajN (bZ #[dj,he,h] Zju);obtain ⟨x,H1,I1,r1,q1⟩:=zz;refine wpAny_Slice (bZ #[yH,hl,q1] fun vl s2 zz=>?_);obtain ⟨l,H2,I2,pl,q2⟩:=zz;refine bZ (hu Zam s2 σ H2 _ I2 q2) fun vu s3 zz=>?_;obtain ⟨u,H3,I3,pu,q3⟩:=zz;rw[evalPart_none];refine ZuD;have I4:aT X pins σ H3 { s3 with heap:=s3.heap.push { cls:=ZYZ,data:=Za1 #[vl,vu,Zax] } }:=I3.kept (t':=ZajO) ZarG;refine bM (hr pins { s3 with heap:=s3.heap.push { cls:=ZYZ,data:=Za1 #[vl,vu,Zax] } } σ H3 x v vl vu l u s3.heap.objs.size Q I4 r1 (Heap.IsSliceOf.new ..) pl pu q3) fun T id hT ht hg=>?_
 show wpAny Zw_ X.A (Za6o e ZaRI v #[aj,ZNC]) ZRA X.xe { s3 with heap:=s3.heap.push { cls:=ZYZ,data:=Za1 #[vl,vu,Zax] } }
 exact tail_any (ops:=[Zai ZNC,v]) ht hT hg (by with_unfolding_all rfl)
abbrev wM [44][72]:Zbs:=#[a0r,ZaiC]
def zL [44][72]:#[bf,Zaew,ZaJ]:=by
 unfold wM;rw[aQQ,aQN]
 lia
abbrev Xy [1]:ZafF:=fun x lo hi H Q=>∃ a xs,Zlg/\ZjO /\
 ¬ (ZWo=0/\ZiN ZaJ ZaJ hi=ZaJ)/\#[Sz,#[cK,Zaew]]
def C4:WL X (Xy X.K):=by
 intro pins s σ H x v vl vu lo hi sl Q I rx hs pl pu h;obtain⟨a,xs,rfl,hx,hw,q⟩:bB:=h;cases rx;refine #[g',hx,#[a6p,?_]]
 have hlen:ZiO=ZaJ:=#[aL,aQz,r.length.symm]
 refine az Zf3 _ PyProof.Rows.slot_tuple_getitem.lookup ZajM ?_;refine HT.getItem_tuple_cut ht hs pl pu #[aM,ZiP,hw] ?_ #[aM,ZiP,hz];rw[hlen];refine #[a2x,ZcJ];exact #[fR,aQZ (zL xs lo hi) hz,#[a0r,r.drop],ZIM]
abbrev Xu [1]:R2:=fun x y H Q=>∃ a b xs ys,Zlg/\ZE'/\ZjO/\aX K H b ys/\xs≠[]/\#[aCW,Zos] /\
 (ys=[]->#[b9,a,H])/\(ys≠[]->#[Sz,(ZcJ (xs++ys))])
def bK.nil_iff [337](r:ZfQ):us=[]↔xs=[]:=by
 cases r with
 | nil=>simp
 | cons _ _=>simp
def SG:#[a6f,(Xu X.K)]:=by
 intro pins s σ H x y v u Q I rx ry h;obtain⟨a,b,xs,ys,a_,b_,ha,hb,hx,hz,q1,q2⟩:=h;subst a_;subst b_;cases rx;cases ry;refine #[g',ha,fun d_ r1 p1 _=>?_];refine #[g',hb,fun aq8 r2 p2 _=>?_];refine HT.cat_tup p1 p2 #[bC,hx (r1.nil_iff.mp z)] #[bC,az ZbV H I rfl (q1 (r2.nil_iff.mp z))] Zg8 (by rw[<-r1.length,<-Za55];exact hz);refine #[awx,ZcJ (xs++ys),(q2 (fun w=>z (r2.nil_iff.mpr w)) _ ZsU)];exact #[fR,#[aM,aQl,hz],r1.append r2,ZIM]
#where
abbrev Wu [42](i:Int):#[gi,Nat]:=#[b5,0<=i,(#[amu,i<n,ZCt]),#[amu,-Zbj<=i,(i+n).toNat]]
abbrev GM [80][395](i:Int):#[gi,α]:=(Wu ZaJ i).bind fun j=>ZNF
def R4 [71]{i:Int}{j:Nat}(h:Wu n i=Zab j):#[aR7,n]/\j<n/\-Zbj<=i/\i<n:=by
 unfold Wu at h
 by_cases h0:0<=i
 ·rw[aQd h0]at h
  by_cases h1:i<n
  ·rw[ZzZ]at h
   have e:ZaF6:=ZIb;exact ⟨#[eF,Za6q h0 h1,e],Zaf,Zaf,h1⟩
  ·rw[Zun]at h;cases h
 ·rw[aQc h0]at h
  by_cases h1 : -Zbj<=i
  ·rw[ZzZ]at h
   have e:(i+n).toNat=j:=ZIb;exact ⟨#[eF,#[aDU,h1],e],Zaf,h1,Zaf⟩
  ·rw[Zun]at h;cases h
def Fj [80]{xs:ZdP}{i:Int}{v:α}(h:GM xs i=Zab v):∃ j,#[aR7,ZaJ]/\ZaCf/\ZaAX/\-(ZaJ:Int)<=i/\ZAd:=by
 unfold GM at h
 cases e:Wu ZaJ i with
 | none=>rw[e]at h;cases h
 | some j =>
  rw[e]at h;refine iu (R4 e) fun h1 h2 h3 h4=>?_;exact ⟨j,h1,h,h2,h3,h4⟩
def aR [80]{xs:ZdP}{j:Nat}{v:α}(h:ZaCf):GM xs ZkX=Zab v:=by
 have hj:ZaAX:=#[rA,h]
 have e:Wu ZaJ ZkX=Zab j:=by
  unfold Wu;rw[ZIp,ZIp];simp
 unfold GM;rw[e];exact h
abbrev Rt (b:Expr):Zaa:=∀ o i,ZNG b Zay o i=#[afi,[o,i],o,i]
abbrev WF [230](r:R2):Zaa :=
 ∀ (value slice:Expr)[212],Zjf->ZeL->Zha->r x y H Q ->
  ZNG Zv' Zay v u=#[afi,[v,u],v,u]->#[RB,(Za6o Zot Zv' v u)]
abbrev WH [230](id:String)[140]:Zaa :=
 ∀ [379],Zjf->ZeL->ZfQ->ZaIt ->
  ZaWK
section
variable {X:Cx}{a b:Expr}{ta tb:TE}{pos:Pos}
def aM {r:R2}(hr:WF X r)[148](hb:ZBi)(hs:Rt b):#[NN,a,b,ZahA]:=by
 intro pins s σ H Q I h;exact ZajN (UM ha hb I h #[a6r,hr a b Zam s2 σ H2 x y v u Q I2 rx ry q (hs _ _)])
inductive ZI [1][323]:Zaa
 | mk [222](q:ZKu)[380]
abbrev YY [1]:R2:=#[a1r,ZI]
inductive ZJ [1][323]:Zaa
 | mk [222](q:Zacu)[380]
abbrev Xw [1]:R2:=#[a1r,ZJ]
abbrev YZ:R2:=fun x y H Q=>∃ z i c,x=ZeG/\y=ZdN/\Zol/\GM Zeo i=Zab c/\Q (Zag ⟨#[c]⟩) H
def kM:WF X (YY X.K):=by
 intro value slice pins s σ H x y v u Q I rx ry h hs;obtain⟨p,xs,i,z,rfl,rfl,hq,he,q⟩:=h;cases rx;obtain⟨t,rfl⟩:=ry;refine ZJs;refine ZahB;refine ZaXv;have hl:=r.length;have hn:=yL;have fin:#[nd,w,s]:=ZaSe
 by_cases h0:0<=i
 ·have hj:ZaF6:=by
   rw[Za6q h0 h5]at h1;exact aQp h1
  exact item_listR Zhl h0 Zaf (#[a6t,hj]) fin hs
 ·have hj:(i+(ZiO:Int)).toNat=j:=by
   rw[#[aDU,h4]]at h1;rw[aQz,<-hl];exact aQp h1
  exact subscriptTail_builtinR (x:=w) pl.isList.typeIs slot_list_getitem.lookup
   (wpAny_getItem_list_neg (Q:=ZaRU) Zhl Zaf (by rw[aQz]<;>lia) Zaf (#[a6t,hj]) ZazU) hs
def aE:WF X (Xw X.K):=by
 intro value slice pins s σ H x y v u Q I rx ry h hs;obtain⟨p,xs,i,z,rfl,rfl,hq,he,q⟩:=h;cases rx;obtain⟨t,rfl⟩:=ry;refine ZJy;refine ZahB;refine ZaXv;have hl:=r.length;have hn:=yL;have fin:#[nd,w,s]:=ZaSe
 exact subscriptTail_builtinR (x:=w) pl.typeIs slot_tuple_getitem.lookup
  (getItem_tuple (j:=j) (Q:=ZaRU) pl Zaf Zaf (#[wa,aQz,hl,h1]) (by simpa using ew) ZazU) hs
def JX:WF X YZ:=by
 intro value slice pins s σ H x y v u Q I rx ry h hs;obtain⟨z,i,c,rfl,rfl,hz,he,q⟩:gi:=h;obtain⟨t,rfl⟩:=rx;obtain⟨t',rfl⟩:=ry;refine ZahB
 have hl:ZalO:=by simp[Str.length]
 rw[hl]at h1 h4 h5;have hn:=yL
 exact tail_any (ZajR s z t) slot_str_getitem.lookup (getItem_str (c:=c) (by
  have e1:#[lM,i < ZaHj]:=ZqZ;have e2:#[lM,i>=Zqj]:=ZqZ
  rw[e1,e2,Bool.or_false]) (by rw[h1];simpa using h2) (az (Zag ⟨#[c]⟩) H ZkH Za' q)) hs
def Go [72][42]:#[agq,0].1=Zazh/\#[agq,0].2.1=Zazi/\#[agq,0].2.2=1:=by
 refine #[eE,?_,?_]
 ·cases lo with
  | none=>simp[sliceBounds,HT.sIx]
  | some i =>
   simp only[sliceBounds,HT.sIx,Option.getD_none,ZapS,aXT]
   by_cases h:i<0
   ·simp only[h,aXT]<;>lia
   ·simp only[h,aZ3]<;>lia
 ·cases hi with
  | none=>simp[sliceBounds,HT.sIx]
  | some i =>
   simp only[sliceBounds,HT.sIx,Option.getD_none,ZapS,aXT]
   by_cases h:i<0
   ·simp only[h,aXT]<;>lia
   ·simp only[h,aZ3]<;>lia
def DV [417][72]:slicePick ZbM lo hi Zac=#[f6,#[aTB,d_.drop,Zkd,Zkd,Zkd,Zkd]]:=by
 refine eJ (Go lo hi ZiO) fun h1 h2 h3=>?_;unfold slicePick;rw[h1,h2,h3];simp only[sliceRange_one,pick_run,aQz]<;>rfl
inductive Y4 [1][267]:Zaa
 | mk [86][44](_:Zlg)(_:Zln)(_:#[Sz,#[eB,Zaew]])
def Mm:WL X (Y4 X.K):=by
 intro pins s σ H x v vl vu lo hi sl Q I rx hs pl pu h;obtain⟨a,xs,rfl,hx,q⟩:=h;cases rx;refine #[jN,hx,#[a6p,?_]];have hlen:=r.length;refine az Zdw _ slot_list_getitem.lookup ht.isList.typeIs ?_;refine wpAny_getItem_list_slice ht.isList hs pl pu Zax ZaV ?_ (by rw[aQz]<;>lia);rw[DV,<-hlen];refine #[a2x,Za6];exact js (aQZ (zL xs lo hi) hz) _ 0 (#[FM,r.drop,ZiN,ZaJ] (Zav1-ZWo)) ZeJ
abbrev sG:V->ZbQ
 | ZaK=>true
 | ZqU=>true
 | ZjQ=>true
 | Zhe=>true
 | _=>false
abbrev JH:ZaPi
 | ZaK,ZaK=>true
 | .bl a,ZIx=>ZadQ
 | .bl a,Zup=>(if a then 1 else 0) == b
 | ZzX,ZIx=>a == (if b then 1 else 0)
 | ZzX,Zup=>ZadQ
 | Zag a,Zag b=>ZadQ
 | _,_=>false
def OP [53][266][243][256](rx:ZeL)(fy:ZaHE)(fx:Zaa7):#[bcW,(JH y x)]:=by
 cases y with
 | non =>
  cases ry
  cases x with
  | non=>cases rx;exact ZayR
  | bl b=>cases rx;exact SeqAt.EqAt.none_bool b
  | int b=>obtain⟨t,rfl⟩:=rx;exact SeqAt.EqAt.none_int b t
  | str b=>obtain⟨t,rfl⟩:=rx;exact SeqAt.EqAt.none_str b t
  | _=>exact ZJd
 | bl a =>
  cases ry
  cases x with
  | non=>cases rx;exact SeqAt.EqAt.bool_none a
  | bl b=>cases rx;exact SeqAt.EqAt.bool_bool a b
  | int b=>obtain⟨t,rfl⟩:=rx;exact SeqAt.EqAt.bool_int a b t
  | str b=>obtain⟨t,rfl⟩:=rx;exact SeqAt.EqAt.bool_str a b t
  | _=>exact ZJd
 | int a =>
  obtain⟨t',rfl⟩:=ry
  cases x with
  | non=>cases rx;exact SeqAt.EqAt.int_none a t'
  | bl b=>cases rx;exact SeqAt.EqAt.int_bool a t' b
  | int b=>obtain⟨t,rfl⟩:=rx;exact SeqAt.EqAt.int_int a t' b t
  | str b=>obtain⟨t,rfl⟩:=rx;exact Za4t a t' b t
  | _=>exact ZJd
 | str a =>
  obtain⟨t',rfl⟩:=ry
  cases x with
  | non=>cases rx;exact SeqAt.EqAt.str_none a t'
  | bl b=>cases rx;exact SeqAt.EqAt.str_bool a t' b
  | int b=>obtain⟨t,rfl⟩:=rx;exact Za4u a t' b t
  | str b=>obtain⟨t,rfl⟩:=rx;exact SeqAt.EqAt.str_str a t' b t
  | _=>exact ZJd
 | _=>exact #[xu,show ZkJ from fy]
abbrev RN (x:V)(u:Value):Bool:=match u with
 | Zax=>JH ZaK x
 | ZIy=>JH (.bl b) x
 | Zah i _=>JH (Zah i) x
 | Zag z _=>JH (Zag z) x
 | _=>false
def OQ {x y:V}[166](r:Zha)(f:ZaHE):RN x u=ZW0:=by
 cases y with
 | non=>cases r;rfl
 | bl b=>cases r;rfl
 | int i=>obtain⟨t,rfl⟩:=r;rfl
 | str z=>obtain⟨t,rfl⟩:=r;rfl
 | _=>exact #[xu,show ZkJ from f]
def Fg {x:V}:#[aMq,us.any ZUN=xs.any ZaxB]
 | _,_,Zan,_=>rfl
 | y::xs,Zq_,ZnY,f=>by
  rw[List.all_cons,aXb]at f;rw[aXS,aXS,ZaO_,Fg t f.2]
def B7 [53][266]{x:V}[317](rx:ZeL)(fx:Zaa7):#[aMq,#[bcX,(RN x u)]]
 | _,_,Zan,_=>fun u hu=>by cases hu
 | y::xs,Zq_,ZnY,f=>fun u' hu=>by
  rw[List.all_cons,aXb]at f;rcases #[hU,hu] with rfl | hu
  ·rw[ZaO_];exact OP r rx f.1 fx
  ·exact B7 rx fx t f.2 u' hu
abbrev JU (x:V)[44]:Bool:=xs.any ZaxB
inductive ZV [1][232]:Zaa
 | mk [157][44](_:y=ZcF)(_:(ZKu\/Zacu))(_:Zaa7)(_:Zavd)(_:#[aE_,! JU x xs,JU x xs])
def ng:#[ajd,.In,(ZV X.K Zay)]:=by
 intro pins s σ H x y v u Q I rx ry h;obtain⟨p,xs,rfl,hq,fx,fs,q⟩:=h;cases ry;rcases hq with hq | hq
 ·refine ZJs
  refine #[bcF,Za6u,Zhl];rw[ZaZb,Fg r fs];exact q
 ·refine ZJy
  refine #[bcF,Za6v,pl];rw[ZaZb,Fg r fs];exact q
inductive Kx [1][11]:Zaa
 | mk [233](_:#[jP,Zos])
def bU:#[JW,ZCu,Kx]:=by
 intro pins s σ H xs us Q I r h;obtain⟨p,ys,rfl,hq,q⟩:=h;obtain⟨u,rfl,rx⟩:ao:=ZeP;cases rx;have hn:=yL;rcases hq with hq | hq
 ·refine ZapU
  have hlen:=r'.length;exact Calls.call_len_list Zhl (ZNH) Za0g
 ·refine ZapV
  have hlen:=r'.length;exact len_tuple pl (ZNH) Za0g
inductive Ky [11]:Zaa
 | mk (z:_)(_:xs=[ZeG])[466](_:#[jP,ZbN])
def mj:#[p',ZCu,Ky]:=by
 intro pins s σ H xs us Q I r h;obtain⟨z,rfl,hz,q⟩:=h;obtain⟨u,rfl,t,rfl⟩:OM:=ZeP;have hn:=yL;exact #[nj,len_str,#[SX,(Zah ZbN)]]
inductive Kz [1][11]:Zaa
 | mk [233](_:#[jZ,ZyP])
def mq:#[ie,Zdw,(Kz X.K)]:=by
 intro pins s σ H xs us Q I r h;obtain⟨p,ys,rfl,hq,q⟩:=h;obtain⟨u,rfl,rx⟩:ao:=ZeP;cases rx
 have fin:∀ [417],ZaHQ->ZYK->∀ (h':Heap)(c':Nat),(ZaUQ) ->
   ZadJ=some { cls:=Zdx,dict:=none,data:=Za3 ZbM c',slots:=#[] }->#[nd,Zdl,ZlR]:=fun d_ r' hz h' c' kp e =>
  (az Zdl _ (#[Ly,ZbX,kp,ZyP,js hz d_ c' r' e]) rfl Zt3)
 rcases hq with hq | hq
 ·refine ZapU
  have hlen:=r'.length;refine jq Zhl fun o ho hc n hd=>?_;exact #[a37,Zgt]
 ·refine ZapV
  have hlen:=r'.length;obtain⟨o,ho,hc,n,hd⟩:jq:=pl;exact #[a37,(Zap rfl)]
inductive ID [1][11]:Zaa
 | mk (p:_)(ys:_)[63](_:((bT K H p ys/\#[jZ,ZpU])\/(ZaIf/\#[b9,p,H])))
def gS:#[ie,Zf3,(ID X.K)]:=by
 intro pins s σ H xs us Q I r h;obtain⟨p,ys,rfl,h⟩:=h;obtain⟨u,rfl,rx⟩:ao:=ZeP;cases rx;rcases h with ⟨hq,q⟩ | ⟨hq,q⟩
 ·refine ZapU
  have hlen:=r'.length;refine call_tuple_list Zhl (fun h' kp=>?_) (ZNH);have I1:ZAe:=ZrD (t':=ZbX) kp
  have I2:#[b0,#[bA,Zke,ZpU],#[lQ,ZNI #[Q1,Zf4,ZbM]]] :=
   ZCj (t':=ZbX) (ZmY) Za8 #[mx,_,_,_,ZpU,⟨hz,d_,r',ZIM⟩]
  exact az #[aj,Zke] _ I2 rfl (q _ ZS3)
 ·refine ZapV
  exact call_tuple_same pl #[qo,ZqN,q]
abbrev Zm [1](T:String)[413]:Zaa:=match x with
 | Zhe=>T=Zf2
 | ZjQ=>T=ZrG
 | ZcF=>(T=Zdw/\∃ xs,ZKu)\/(T=Zf3/\∃ o,#[adj,p,Zajg=Zac]) \/
   (T=ZiQ/\((∃ kvs,#[fd,Ze8])\/∃ kvs,#[fd,ZqE]))\/(T=ZiS/\∃ S n,ZaBE)
 | _=>False
def Rf [4]{T:String}{x:V}[317][3](r:ZeL)(ty:Zm X.K T x H) :
  ZaO2/\∀ a,v=Zb1->#[aMr,ZdV a=Zab ob]:=by
 cases x with
 | str z =>
  obtain⟨t,rfl⟩:=r;cases #[axF,Zf2];exact⟨ZajR s z t,fun _ e=>nomatch e⟩
 | int i =>
  obtain⟨t,rfl⟩:=r;cases #[axF,ZrG];exact⟨ZajT s i t,fun _ e=>nomatch e⟩
 | ref p =>
  cases r;rcases ty with ⟨rfl,xs,hq⟩ | ⟨rfl,o,hk,hc,hd⟩ | ⟨rfl,hk⟩ | ⟨rfl,S,n,hk⟩
  ·refine #[pT,fun d_ _ pl _=>?_]
   refine⟨pl.isList.typeIs,fun a e=>?_⟩;cases e;obtain⟨o,n,e,c,hd,_⟩:bB:=pl;exact ⟨o,e,hd⟩
  ·refine⟨⟨o,Zhm p o hk,hc⟩,fun a e=>?_⟩
   cases e;exact ⟨o,Zhm _ o hk,hd⟩
  ·have z:∃ o,#[q0,p]/\Za6w:=by
    rcases hk with ⟨kvs,hk⟩ | ⟨kvs,hk⟩
    ·refine Za1b
     exact ZaEA
    ·refine Za1b
     exact ZaEA
   obtain⟨o,e,ex⟩:ao:=z;refine Za1p;cases e2;exact ZaEB
  ·obtain⟨o,_,_,_,e,a_⟩:=Zbl p _ hk;obtain⟨ex,_⟩:=a_
   refine Za1p;cases e2;exact ZaEB
 | _=>exact ZvW ty
abbrev Y8 [418]:TE:=#[aYn,r x [] H1 Q]
abbrev XR [418](t:TA):TE:=#[aYn,t σ H1 fun xs H2=>r x xs H2 Q]
variable {o e:Expr}{es:Zbu}{to:TE}{t:TA}{name:Str}{apos h_:Pos}{T id:String}{r:ZBa}
def VJ (pa:ZaFh)(slot:ZaYX)(hty:ZaVo)(hm:ZaRi)(ho:Zu8)
  (u_:Za5O:=by rfl) (D_:Zlt:=by rfl):#[EO,Zda,[],(Y8 X.K T r to)]:=by
 intro pins s σ H Q I h;refine Za6x u_ D_ Zau4;obtain ⟨x,H1,I1,r1,ty,q1⟩:=zz;obtain⟨h1,h2⟩:=ZaYY;exact #[a3E,(aXy rfl (Za6y (hm Zam s1 σ H1 x [] v [] Q I1 r1 Zan q1)))]
def iZ (pa:ZaFh)(slot:ZaYX)(hty:ZaVo)(hm:ZaRi)(ho:Zu8)(ha:Zhh)
  (u_:Za5O:=by rfl)
  (aq7:(#[anJ,ZdD]&&ZR9
   && #[aoJ,ZdD])=true:=by rfl)
  (D_:Zlt:=by rfl) (hs:ZEh:=by rfl) (z_:ZaE5 (·.1)=false:=by rfl) :
  #[EO,Zda,ZdD,(XR X.K T r to t)]:=by
 intro pins s σ H Q I h;refine Za2z;obtain ⟨x,H1,I1,r1,ty,q1⟩:=zz;obtain⟨h1,h2⟩:=ZaYY;refine #[a3E,?_];have hA:=#[Xm,ha,h_,_,q1];rw[hs]at hA ⊢;refine aXy (by show (false||ZaE5 (·.1))=false;rw[z_]<;>rfl) Zabc
 exact bZ hA fun us s2 zz=>by obtain ⟨vs,H2,I2,r2,q2⟩:=zz;exact hm Zam s2 σ H2 x vs v us Q I2 r1 r2 q2
#where
abbrev Yc [230](id:String)[140]:Zaa :=
 ∀ [379],Zjf->ZeL->ZfQ->ZaIt ->
  ZaWK
def bK.one {x:V}[16](h:ZaBa):ZaY4:=by
 cases h with
 | cons r t=>cases t;exact ZZm
def bK.two {x y:V}[16](h:ZaBb):∃ u v,us=[u,v]/\Zk'/\bJ y v:=by
 cases h with
 | cons r t=>
  cases t with
  | cons q t=>cases t;exact⟨_,_,rfl,r,q⟩
def bK.zero:∀ [16],bK [] us->us=[]
 | _,Zan=>rfl
def bK.dropLast [337](h:ZfQ):bK Za6z us.dropLast:=by
 induction h with
 | nil=>exact Zan
 | cons r t ih =>
  cases t with
  | nil=>exact Zan
  | cons q t'=>exact ZaB r ih
def bK.rep [337](h:ZfQ):#[zN,bK #[R7,xs] #[R7,us]]
 | 0=>Zan
 | k+1=>by
  rw[aXn,aXn,aXp,aXp];exact ZaiB h (bK.rep h k)
def JI [80][448]:l.eraseIdx (Zb8-1)=l.dropLast:=by
 induction l with
 | nil=>rfl
 | cons a r ih =>
  cases r with
  | nil=>rfl
  | cons b r =>
   have e:#[bc,ZaBy]-1=(ZaMh-1)+1:=by
    have h1:#[dM,ZaBy,ZeX+2]:=rfl;have h2:ZaMh=ZeX+1:=rfl
    lia
   rw[e,List.eraseIdx_cons_succ,ih]
   all_goals rfl
def El [417]:∀ [285](acc:Zb4),
  List.foldl ZagH Za6A #[R6,ZbM]=#[GJ,acc,ZaDm]
 | 0,acc=>ZaU
 | k+1,acc=>by
  have e:Za6A++ZbM=#[GJ,acc,d_]:=ZaU
  have e2:ZaJK++ZaDm=acc++#[kf,#[GP,Zdp,d_]]:=by
   rw[aXn,aXp,aXf]
  rw[<-e2,<-El d_ k ZaJK,<-e,aXn,aXY]
section
variable {X:Cx}{pins:Zej}{σ:St}{H:Hp}{s:Shared}{l b:Addr}{xs ys zs:Zbs}
def aT.lset {d_ its':Zb4}{n:Nat}{f:ZaLP}{t':Nat}(I:Zjf)(hH:Zra)
  (e:ZaPb) (hf:f ZbM=its'.toArray) (hv:bK ys its') (hz:ZYK) :
  #[YW,#[gY,ZyP],s.heap.update l (Za6B f),t']:=by
 have q:=PySem.IsL.update e f;rw[hf]at q;refine ZajU (x:=l) (e:=l) #[aM,hH,ZCv] Zgt (fun b' u hb hu=>(aQX ZaD (Za6B f) (aQA hb)).trans hu) Zld ?_;exact js hz its' _ hv q
def aT.lnew [296]{t':Nat}[3](hv:ZaHQ)(hz:ZYK) :
  #[YW,#[FT,ZyP],#[anR,#[Q1,Zdx,ZbM]],t'] :=
 ZrF (Zat6) Za8 (js hz d_ 0 hv ZeJ)
def aT.fresh [3]:ZYG:=ZJQ
def aT.lstM [396]:#[aGK,Zzr/\ZaJ=Zkd/\ZaPb]:=by
 refine JG (Zbl l _ hH) #[a45,?_];exact ⟨z,d_,n,r,ZeX,e⟩
def Ib [71](h:#[oj,n]):ZajV n=Zay:=by
 unfold Builtin.List.listTooLong;exact ZqZ
#where
section
variable {X:Cx}
inductive SV (x:V)[0]:Zaa
 | mk [397](_:vs=[y])[467](_:ZaCe)(_:Q ZaK ZaOm)
def dq:Yc X ZajW SV:=by
 intro pins s σ H x vs v us Q I rx rv h;obtain⟨l,xs,y,rfl,rfl,hH,hz,q⟩:=h;cases rx;obtain⟨u,rfl,ru⟩:ao:=rv.one;refine Zvu;refine Za3a;refine #[afz,Za08];rw[aQl,aQW]
 lia
inductive SW (x:V)[0]:Zaa
 | mk [288](_:#[nL,b])[121](_:Q ZaK #[gY,(Za6 (xs++zs))])
def NC:Yc X "list.extend" SW:=by
 intro pins s σ H x vs v us Q I rx rv h;obtain⟨l,b,xs,zs,rfl,rfl,hH,hB,hz,q⟩:=h;cases rx;obtain⟨u,rfl,ru⟩:ao:=rv.one;cases ru;refine Zvu;refine ZaW7
 have hsz:#[oj,ZiO+Za6C]:=#[f8,aQz,aQz]
 have az3:¬ #[gq,Za5v&&ZajV (ZiO+Za6C)]:=by
  rw[Ib hsz,Bool.and_false];exact aQs
 refine aZm F.slot_list_extend ZqB F.entry_list_extend (F.args_list_extend_2 _ _)
  (AutoSeq1.list_extend_list_list_0 l ZbM n b Za6D n2 az3 ZG4 Zaf) #[cg,e,e2]
 refine #[afz,#[Xi,d_++aq8,ZaV,ZaM3]];rw[aQl]
 lia
inductive Y0 (x:V)[0]:Zaa
 | mk [397](_:vs=[])[467](_:#[kT,xs[ZaJ-1]?])(_:Q y #[gY,#[eB,Za6z]])
def Vo:Yc X "list.pop" Y0:=by
 intro pins s σ H x vs v us Q I rx rv h;obtain⟨l,xs,y,rfl,rfl,hH,hy,q⟩:=h;cases rx;have hus:=rv.zero;subst hus;refine Zvu;refine ao (ZNJ hy) ZF8
 have hy':#[aJD,ZiO]:=by
  show #[aJD,Zkd]
  rw[<-aZr,<-hl];exact hu
 refine aZm F.slot_list_pop ZqB F.entry_list_pop (F.args_list_pop_1 _) (MeetsSeq.list_pop_last l ZbM n u hy' ZG4) ZV2;refine az y _ (#[Xi,d_.dropLast,?_,r.dropLast]) ru q
 ·show d_.toArray.eraseIdxIfInBounds (ZiO-1)=d_.dropLast.toArray
  rw[aQz,List.eraseIdxIfInBounds_toArray,JI]
 ·rw[List.length_dropLast]
  lia
inductive YV (x:V)(y:V)[178]:Zaa
 | mk [288](_:ZE')[121](_:#[Sz,(Za6 (xs++zs))])
def Kq:#[a6f,YV]:=by
 intro pins s σ H x y v u Q I rx ry h;obtain⟨l,b,xs,zs,rfl,rfl,hH,hB,hz,q⟩:=h;cases rx;cases ry;refine Zvu;refine ZaW7;refine PySem.P.add_list e e2 ?_ (#[f8,aQz,aQz])
 have ea:ZbM++Za6D=#[GJ,d_,aq8]:=ZaU
 rw[ea];exact #[aTT,ZaM3,#[jo,aQl]]
abbrev Y3:R2:=fun x y H Q=>∃ l k xs,x=Zlb/\y=Zah k/\Zra/\-(2 ^ 63)<=k/\k<Zqj/\#[oj,ZaJ*ZrI] /\
 #[Sz,#[eB,#[kf,#[GP,ZrI,xs]]]]
def Sa [80][395][285]:#[aKA,xs,ZaJ]:=by
 induction k with
 | zero=>simp
 | succ k ih=>rw[aXn,aXp,aQl,ih,Nat.succ_mul,aZ0]
def VH:#[a6e,.Mult,Y3]:=by
 intro pins s σ H x y v u Q I rx ry h;obtain⟨l,k,xs,rfl,rfl,hH,h1,h2,hz,q⟩:kX:=h;cases rx;obtain⟨t,rfl⟩:=ry;refine Zvu
 have hlen:#[oj,ZadR]:=#[wa,aQz,hl,hz]
 have cx9:¬ ZadR>ZaSW:=by
  have:(Zoi:Nat)<=ZaSW:=ZaF
  lia
 have cx7:¬ #[gq,! Builtin.List.listFitsIndex k]:=by
  rw[fitsIndex_both h1 h2];exact aQs
 have az3:¬ ZajV (ZadR)=Zad:=by
  rw[Ib ZiP];exact aQs
 have cx1:List.foldl ZagH #[] (Zv8 (if d_.toArray.isEmpty=Zad then 0 else k.toNat) ZbM)=#[axG,ZrI]:=by
  have f0:∀ m:Nat,List.foldl ZagH #[] #[GP,m,ZbM]=#[axG,m]:=fun m=>by
   have:=El d_ m [];rw[aZR]at this;exact this
  rw[f0]
  cases d_ with
  | nil=>simp
  | cons a r'=>rw[ZAa]
 refine wpAny_binaryOp_repeat_ref (T:="list") (U:="int") ZaG ZqB (fun s'=>ZajT s' k t) noFill_list_mul F.fills_int_mul F.slot_int_rmul repeat_list F.slot_int_index.lookup
  (aZm F.slot_int_rmul (ZajT s k t) F.entry_int_rmul (F.args_int_rmul_2 _ _) (int___rmul___int_list k t l ZbM n)
   #[cC,e,ZqB,aZm F.slot_list_mul ZqB F.entry_list_mul (F.args_list_mul_2 _ _) (AutoListH.list___mul___list_int_3 l ZbM n k t cx7 cx9 az3) ZV2])
 rw[cx1];exact #[aTT,(r.rep ZrI),#[ih,Sa,ZNK,hz]]
#where
section
variable {κ:Zj0} [Zbai]
abbrev gQ [116]:Zgj:=(kvs.find? Zab0).map (·.2)
abbrev k7 [116](v:V):Zll :=
 #[dn,ZLM,ZajX (#[WS,(ZsI,v)]),ZaNB]
abbrev Bq [116]:Zll:=kvs.filter fun kv=>#[lJ,ZsI≠k]
def j7 [344](e:Zlo):gQ ZJI k=Zab p.2:=Za6E
def jh [344](e:ZaGu):gQ ZJI k=gQ r k:=Za6E
def tZ (k:κ):∀ kvs:Zll,ZLM=#[fY,ZKK]
 | []=>rfl
 | p::r=>by
  rw[aXS]
  by_cases e:Zlo
  ·simp only[j7 e,aQe e,Bool.true_or,Option.isSome_some]
  ·rw[jh e,aQg e,Bool.false_or];exact tZ k r
def ES (k j:κ)(y:V):∀ kvs:Zll,Zaf'->gQ (kvs++[(k,y)]) j=#[h_,j,k,y,gQ kvs j]
 | [],_=>by
  by_cases e:k=j
  ·rw[aQd ZCw];exact j7 (p:=(k,y)) e
  ·rw[aQc (#[aH,e ZajY])];exact jh (p:=(k,y)) e
 | p::r,hn=>by
  rw[aZi]
  have hk:ZaGu:=fun z=>by rw[j7 z]at hn;cases hn
  rw[jh hk]at hn;have ih:=ES k j y r hn
  by_cases e:p.1=j
  ·rw[j7 e,j7 e,aQc (#[jx,hk,ZajA])]
  ·rw[jh e,jh e,ih]
def oV [116](v:V):#[bf,ZEU,Zep+1]:=by
 unfold k7;split
 ·rw[Z9];lia
 ·rw[aQl,aQB,List.length_nil];lia
def pV {kvs:Zll}{k:κ}(v:V)(h:Zaf'):k7 kvs k v=ZaNB:=by
 unfold k7;rw[tZ,h];exact Zz'
def pJ.isSome_eq [374](r:pJ o u):ZajZ=u.isSome:=by
 cases o with
 | none=>cases u with
  | none=>rfl
  | some _=>exact Zvf
 | some _=>cases u with
  | none=>exact Zvf
  | some _=>rfl
def pJ.getD [374]{d:V}{d':Value}(r:pJ o u)(rd:bJ d d'):bJ (Zaj0 d) (u.getD d'):=by
 cases o with
 | none=>cases u with
  | none=>exact rd
  | some _=>exact Zvf
 | some _=>cases u with
  | none=>exact Zvf
  | some _=>exact r
def KV.val [419]:pJ (gQ kvs k) (ZrJ vs k):=by
 unfold KV at r
 induction r with
 | nil=>exact True.intro
 | @cons p q ps qs h t ih =>
  obtain⟨h1,h2⟩:=h
  by_cases e:Zlo
  ·have e':q.1=k:=ZamO
   have b:ZrJ (q::qs) k=Zab q.2:=Za6F
   rw[j7 e,b];exact h2
  ·have e':Zads:=Za9E
   have b:ZrJ (q::qs) k=ZrJ qs k:=Za6F
   rw[jh e,b];exact ih
def KV.any [419]:ZLM=vs.any Zab0:=by
 unfold KV at r
 induction r with
 | nil=>rfl
 | cons h t ih=>rw[aXS,aXS,ih,h.1]
def KV.repl [419][420][256] :
  KV (ZajX ZaIT) (Zaj1 #[WS,(ZsI,u)]):=by
 unfold KV at r ⊢
 induction r with
 | nil=>exact Zan
 | @cons p q ps qs h t ih =>
  rw[aQv,aQv];refine ZaGv;obtain⟨h1,h2⟩:=h
  by_cases e:Zlo
  ·rw[Zim,ZaJ_];exact⟨h1,ry⟩
  ·rw[Zil,Za9F];exact Zvc
def KV.put [419][420][256]:KV #[ET,y] (stored vs k u):=by
 unfold k7 stored;rw[r.any k]
 by_cases e:(vs.any Zab0)=Zad
 ·rw[Zim,Zim];exact ZaOj
 ·rw[Zil,Zil];exact Za6G r #[d5,ry]
def KV.drop [419]:KV (Bq kvs k) (without vs k):=by
 unfold KV at r ⊢;unfold Bq without
 induction r with
 | nil=>exact Zan
 | @cons p q ps qs h t ih =>
  obtain⟨h1,h2⟩:=h;rw[aXG,aXG]
  by_cases e:Zlo
  ·have a:¬ #[lL,p.1≠k]:=ZNL
   have b:¬ #[lL,q.1≠k]:=by simp[ZamO]
   rw[aQc a,aQc b];exact ih
  ·have e':Zads:=Za9E
   have a:#[lL,p.1≠k]:=ZNL
   have b:#[lL,q.1≠k]:=by simp[e']
   rw[aQd a,aQd b];exact ZaB Zvc ih
def KV.keys [10]:kvs.map (·.1)=vs.map (·.1):=by
 unfold KV at r
 induction r with
 | nil=>rfl
 | cons h t ih=>rw[aQv,aQv,ih,h.1]
def KV.length [10]:ZiL:=ZuE
def OK [116]:#[bf,(Bq kvs k),Zep]:=aXM _ _
#where
def w9 [9]{k:df}[166](r:ZafI):#[d_,0].is k u=Zad:=by
 cases k with
 | inl i=>obtain⟨t,e⟩:=ZaFG;subst e;exact Hx P w i t
 | inr x=>obtain⟨t,e⟩:=Za5V;subst e;exact gA P w x t
def Es [9]:∀ {ks:ZhX}[16],bK (Zwb kV) us->ItemsAre Zd_ ks us
 | [],_,r=>by rw[List.map_nil]at r;cases r;exact Zan
 | k::ks,_,r=>by
  rw[aQv]at r
  cases r with
  | cons h t=>exact ZaB (w9 h) (Es t)
noncomputable abbrev KT [32]:#[cp,ZuR,ZapK]:=Za0 fun p q=>ZaZC
def KT.val [324]:pJ ZKK (ZaV_ (·.2)):=by
 induction r with
 | nil=>exact True.intro
 | @cons p q ps qs h t ih =>
  obtain⟨h1,_,h2⟩:eJ:=h
  by_cases e:Zlo
  ·have e':q.1=k:=ZamO
   have b:ZCx (q::qs) k=Zab q.2:=Za6H
   rw[j7 e,b];exact h2
  ·have e':Zads:=Za9E
   have b:ZCx (q::qs) k=ZCx qs k:=Za6H
   rw[jh e,b];exact ih
def KT.repl [324][420][256] :
  KT H (ZajX ZaIT) (ZrK (putAt k u)):=by
 induction r with
 | nil=>exact Zan
 | @cons p q ps qs h t ih =>
  rw[aQv,aQv];refine ZaGv;obtain⟨h1,h2,h3⟩:eJ:=h;unfold putAt
  by_cases e:Zlo
  ·rw[Zim,ZaJ_];exact ⟨h1,h2,ry⟩
  ·rw[Zil,Za9F];exact ⟨h1,h2,h3⟩
def KT.put [324][46][420](hb:ZLj)[256] :
  KT H #[ET,y] (storedH xs k b u):=by
 have e:ZLM=#[fY,ZaPh]:=by
  rw[tZ,(r.val k).isSome_eq,Option.isSome_map]
 unfold k7 storedH;rw[e]
 by_cases q:#[jA,ZaPh]
 ·rw[ZzY,ZzY];exact ZaOj
 ·rw[ZzV,ZzV];exact Za6G r #[pn,hb,ry]
def KT.keeps [15][27](ht:ZL4):KT H' kvs xs :=
 Zj4 r #[iF,ZaY6]
section
variable {P:Program}{w:World}{H:Hp}{h:Heap}{a:Addr}
def T8 {u:HO}[158](e:Zagy):#[qd,u]:=e.ok ok
def Bp [89][158](e:Zac5):ZbdM :=
 #[bn,#[qd,Ze8],T8 ok e]
def Lr [89][158][135]:ZbdM:=Bp ok (Zal e)
def yI {ks:ZhX}[158](e:#[d6,ZaEt]):ZTF h ks a:=by
 obtain⟨_,d_,r,o,h1,h2,n,h3⟩:=#[fK,#[qd,ZaEt],ok a _ e];exact dE o ZbM n h1 h2 (#[a't,h3]) #[FP,Es r]
def Br [120][158](e:Zac6):Ztr/\Zais /\
  ZaWV:=by
 obtain⟨z,y,xs,r,o,es,ep,h1,h2,h3,h4,h5⟩:=#[fK,#[qd,ZqE],T8 ok e];refine ⟨z,y,xs,r,o,es,ep,h1,h2,h3,h4,⟨Zuj,h5⟩⟩
 have all:∀ {l:ZuR}{m:ZapK},KT H l m->∀ x∈m,ZTF h x.1 ZIj:=by
  intro l m q
  induction q with
  | nil=>intro x hx;exact nomatch hx
  | @cons p q ps qs hq t ih =>
   intro x hx;rcases ZuU with e | hx
   ·subst e
    exact yI ok #[eW,hq.1,hq.2.1]
   ·exact ih x hx
 exact all r x hx
def TD [120][158][188]:Ztr/\Zais /\
  ZaWV:=Br ok (Zal e)
#where
abbrev fD [391](y:V)(r:Zgj):Zaa :=
 (∃ kvs k,Zac5/\ZGz/\ZaZ4)\/∃ kvs k b,Zac6/\ZE'/\ZLj/\ZaZ4
abbrev nu [391](y v:V)(H':Hp):Zaa :=
 (#[avC,ZZE,H'=upd H a (.dK ZEU)]) \/
 ∃ kvs k b,ZaAn/\ZE'/\ZLj/\ZyU/\H'=upd H a (.dT ZEU)
def fD.k [38][41][89]{k:df}[135]:fD H a Zaai ZKK:=Zal (az kvs k Zaz0 rfl rfl)
def fD.t [208][120]{k:ZhX}[289]:fD H a ZqO ZKK:=Zap (dE kvs k b Zaz0 rfl eb rfl)
def nu.k [38][41][89]{k:df}{v:V}[135][435]:nu H a Zaai v #[bA,a,Zazw]:=Zal (bS kvs k e rfl hl rfl)
def nu.t [208][120]{k:ZhX}{v:V}[289][435] :
  nu H a ZqO v #[bA,a,(.dT (k7 kvs k v))]:=Zap (fC kvs k b e rfl eb hl rfl)
section
variable {X:Cx}{pins:Zej}{σ:St}{H:Hp}{s:Shared}{a:Addr}{y v:V}{u r:Value}{o:Zgj}{A:Around}{E:ZfG}
def aT.big [3]:#[dL,Zaiq]:=by
 have h:#[dL,ZlF]:=(Za6I I.bk).lt;exact #[qQ,Zaj2,h]
def Na [449][450](g:ZaIz)[256](h:#[ae1,ZGT,bJ v w']) :
  #[w',(ZCs ZbV u)]:=by
 rcases g with ⟨kvs,k,e,ey,l⟩ | ⟨kvs,k,b,e,ey,eb,l⟩
 ·subst ey
  refine ZapE;refine #[aYM,ZaNJ];exact Za6K ZtQ ZCy hw (h w' _ ZkH rw')
 ·subst ey
  cases ZTk;refine ZaqM;refine ao (pJ.some_of (v:=v) (o:=ZaV_ (·.2)) ZaNJ) Zaue;refine #[FU,hw,fun p hp hp2=>?_];refine #[atp,wpAny_getItem_heap,dd,hp];rw[hp2];exact h w' _ ZkH rw'
def YF [50](h:#[aQD,ZajZ]) :
  #[aSd,.In]:=by
 rcases g with ⟨kvs,k,e,ey,l⟩ | ⟨kvs,k,b,e,ey,eb,l⟩
 ·subst ey
  refine ZapE;refine #[aTw,wpAny_in_of];rw[<-Zap8,<-l];exact ZJG
 ·subst ey
  cases ZTk;refine ZaqM;refine #[atp,wpAny_in_heap,hd,dd];have q:=Zap8;rw[Option.isSome_map]at q;rw[<-q,<-l];exact ZJG
def RG [50](h:#[aQD,(Za6L)]) :
  #[aSd,ZCz]:=by
 rcases g with ⟨kvs,k,e,ey,l⟩ | ⟨kvs,k,b,e,ey,eb,l⟩
 ·subst ey
  refine ZapE;refine #[aTw,Za6M];rw[<-Zap8,<-l];exact ZJG
 ·subst ey
  cases ZTk;refine ZaqM;refine #[atp,wpAny_notIn_heap,hd,dd];have q:=Zap8;rw[Option.isSome_map]at q;rw[<-q,<-l];exact ZJG
def wN {h':Heap}{t':Nat}{ob:HO}[3](mu:WI (H a))(hs:ZaLo)(he:ZTv)(new:#[mw,#[bA,a,ob],h',a,ob]) :
  #[b0,#[bA,a,ob],ZO5] :=
 ZajU (x:=a) (e:=a) mu Zgt #[aMk,hs] he new
def Fp [9][445]{h':Heap}[89]{vs:#[d3,df,Zb3]}(z:Ztr)(hd:Zais)(rel:ZyE)(dd:h'.DictOf Zd_ a vs) :
  bW P w H' h' a Ze8:=⟨z,hd,vs,rel,dd⟩
def Nb [445][189][450](g:nu H a y v H')[256](rv:bJ v r)(h:#[KD,Zrb]) :
  #[w',(setItem ZbV u r)]:=by
 rcases g with ⟨kvs,k,e,ey,l,eH⟩ | ⟨kvs,k,b,e,ey,eb,l,eH⟩
 ·subst ey eH
  refine ZapF
  have hz:ZYI:=ZaGd
  have hl:Zad2:=Zatk
  refine #[aZc,wpAny_setItem_pairs];have he:ZTv:=let ⟨q,_,_,hq,_⟩:=dd';ZAY;exact wN I (by rw[e];exact True.intro) hs he ZaTV
 ·subst ey eH
  cases ZTk;refine #[pJ,TD,ZaqL]
  have hz:ZVS:=#[UB,Zlh]
  have hl:Zad2:=Zatk
  refine wpAny_setItem_heap (hsz:=hz) (Zaj3 hu) Zato dd Zauf;obtain⟨q,es,ep,hq,h2,h3,h4,_,h5⟩:iz:=dd';refine wN I (by rw[e];exact True.intro) hs ZAY ⟨hl,hd,_,((Zaj4 k eb rv).keeps fun c ys ec=>?_),q,es,ep,hq,h2,h3,h4,h5⟩;rw[ai (dU ec e (fun z=>nomatch z))];exact ec
#where
section
variable {X:Cx}{pins:Zej}{σ:St}{H:Hp}{s:Shared}{a:Addr}{kvs:Ziu}{k:df}{u:Value}{A:Around}{E:ZfG}
def WR {v:V}{more:Zb4}{Q:ZfG}(I:Zjf)(e:ZZE)(ry:ZafI)(l:ZagD)(hm:Zwc=[]\/∃ x,Zwc=[x])
  (h:#[ae1,#[b0,#[bA,a,ZaWO],s'],bJ v w']):#[w',#[tw,Za6N,(Zb1::u::Zwc)]]:=by
 refine ZapF;refine #[aYM,#[eW,l,Zzl]]
 have hp:#[jA,(keyPart u)]:=by
  cases k with
  | inl i=>obtain⟨t,q⟩:=#[Tj,Zaa_];subst q;rfl
  | inr x=>obtain⟨t,q⟩:=#[Tj,Za5U];subst q;rfl
 have ha:argsOk Za6N #[d7,Zb1::u::Zwc]:=by
  rcases hm with q | ⟨x,q⟩
  ·subst q;exact PySem.F.args_dict_pop_2 _ _
  ·subst q;exact PySem.F.args_dict_pop_3 _ _ _
 refine call_meetsIn PySem.F.slot_dict_pop dd.typeIs PySem.F.entry_dict_pop ha (meets_dict_pop_there Zxb a ZtQ Zwc hm hp)
  (bS vs w' dd #[eW,Zaj5,z] hw (fun h' dd' hs=>h w' _ ?_ rw'))
 have he:ZTv:=let ⟨q,_,_,hq,_⟩:=dd';ZAY;exact wN I (by rw[e];exact True.intro) hs he (Fp (aQZ (OK kvs k) z) hd (rel.drop k) dd')
#where
abbrev UH (i:Expr):Zaa:=∀ ov iv,ZNG i Zay ov iv=#[afi,[ov,iv],ov,iv]
def Mz {prog:Program}{w:World}{A:Around}{E:ZfG}{s:Shared}{env:Env}{value slice:Expr}{pos:Pos}{T id:String}{Q:ZfG}
  (hl:Za6n) (hs:UH Zv')
  (h:#[fH,Zwg,#[nv,Zot],(fun o s₁=>Zb7 Zwg A #[nv,Zv'] (fun i s₂=>s₂.TypeIs o T/\#[BH,(ZCs o i),s₂]) E ZiJ)]) :
  #[wh,#[nv,(ZNM Zot Zv' pos)]]:=by
 refine ZajN (aQR h (fun o s₁ h₁=>aQR h₁ (fun i s₂ h₂=>?_) Zng) Zng);obtain⟨hT,h₂⟩:=h₂;unfold subscriptTail;refine ZgD;rw[getitemInPython_of_ne hT.not_modules];refine #[Bo,hl]
 have fin:Zb7 Zwg A (ZNG Zv' Zay o i) (fun r s₃=>#[BH,(letTemporaryGo Zot o r >>= #[bF,Zck r]),s₃]) E s₂:=by
  rw[hs o i];exact wpAny_operating (aQR h₂ (fun r s₃ h₃=>#[li,wpAny_letTemporaryGo,h₃]) Zng)
 first
  | exact aQk (aQa fin)
  | exact #[zj,fin]
  | exact aQa fin
def Hb [299]{y:V}{o:Zgj}[3](g:fD H a y o):ZaUl:=by
 rcases g with ⟨kvs,k,e,_,_⟩ | ⟨kvs,k,b,e,_,_,_⟩
 ·refine #[pJ,Bp,fun _ _ vs _ dd=>?_]
  exact dd.typeIs
 ·refine #[pJ,Br,fun _ _ xs _ dd=>?_]
  exact dd.typeIs
inductive ZL (x y:V)(Q:VK)[32]:Zaa
 | mk [86](v:V)(e:Zlg)(g:ZaIz)(h:ZAE)
abbrev XS (td ty:TE):TE:=#[ai5,td,#[m_,ty,ZL x y Q H2]]
abbrev Za (ty td:TE):TE:=#[aXJ,ZajZ]
abbrev Tl (ty td:TE):TE:=#[aXJ,(Za6L)]
abbrev XA (td ty tv:TE):TS:=#[vZ,tv,#[NO,td σ H1 fun x H2=>ty σ H2 fun y H3=>∃ a H4,x=Zb1/\nu H3 a y v H4/\#[pl,H4]]]
section
variable {X:Cx}{o i e value:Expr}{pos pos' ax5:Pos}{td ty tv:TE}
def jW [136][180][209](hs:UH i):#[NN,o,i,(XS td ty)]:=by
 intro pins s σ H Q I h;refine #[aSN,ZKw];obtain ⟨x,H1,I1,rx,q1⟩:=zz;refine #[yI,hi,q1,ZHH];obtain ⟨y,H2,I2,ry,a,v,ex,g,q2⟩:=zz;subst ex;obtain rfl:ZRv:=rx;exact⟨Hb I2 g,Na hu I2 g ry #[a6O,az v H2 I3 rw' q2]⟩
def sY [136][209][180]:PC X .In i o (Za ty td):=by
 intro pins s σ H Q I h;refine ZafJ;obtain ⟨y,H1,I1,ry,q1⟩:=zz;refine Zaey;obtain ⟨x,H2,I2,rx,a,ov,ex,g,q2⟩:=zz;subst ex;obtain rfl:ZRv:=rx;exact #[aYP,YF,(.bl ov.isSome)]
def pT [136][209][180]:PC X ZCz i o (Tl ty td):=by
 intro pins s σ H Q I h;refine ZafJ;obtain ⟨y,H1,I1,ry,q1⟩:=zz;refine Zaey;obtain ⟨x,H2,I2,rx,a,ov,ex,g,q2⟩:=zz;subst ex;obtain rfl:ZRv:=rx;exact #[aYP,RG,(.bl (!ov.isSome))]
def jk [136][180][209](hv:ZaNv)(hs:#[a68,(ZNM o i Zn6)]) :
  #[GA,ZNM o i Zn6,Zot,(XA td ty tv)]:=by
 intro pins s σ H D I h;refine wpAny_Assign_Subscript (bZ #[dj,hv,h] fun r s1 zz=>?_) hs;obtain ⟨v,H1,I1,rv,q1⟩:=zz;refine Zaey;obtain ⟨x,H2,I2,rx,q2⟩:=zz;refine bZ (hi Zam s2 σ H2 _ I2 q2) fun iv s3 zz=>?_;obtain ⟨y,H3,I3,ry,a,H4,ex,g,q3⟩:=zz;subst ex;obtain rfl:ZRv:=rx;exact Nb hu I3 g ry rv fun s4 I4=>⟨σ,H4,I4,q3⟩
#where
def wP [274]:bW P w H (h.push { cls:=ZiR,data:=Zdb #[] }) h.objs.size ZcS :=
 ⟨Zcr,ZaZH,[],Zan,Heap.DictOf.new h⟩
def OL [274]:bW P w H (h.push { cls:=ZiR,data:=Zdb #[] }) h.objs.size Zyw :=
 ⟨Zcr,ZaZH,[],Zan,_,#[],0,ZeI,ZEQ,rfl,rfl,aXs⟩
abbrev V8:TE:=#[axr,ZcS]
abbrev V9:TE:=#[axr,Zyw]
section
variable {X:Cx}{pos:Pos}
def iE:#[aWn,V8]:=fun pins s σ H Q I h =>
 #[a3r,.dK [],(wP ZaD I.big)]
def Qg:#[aWn,V9]:=fun pins s σ H Q I h =>
 #[a3r,.dT [],(OL ZaD I.big)]
#where
structure M1 [357][392](h_:Pos):Zaa where
 base:#[a5N,m]
 few:(Zaq8&&ZR9
  && #[aoJ,([e]:Zbu)])=true
 line:Zlt
 trees:#[anK,h_,[e],[Zmz]]
structure M2 [357](e f:Expr)(h_:Pos):Zaa where
 base:#[a5N,m]
 few:(#[anJ,ZG9]&&ZR9
  && #[aoJ,(ZG9:Zbu)])=true
 line:Zlt
 trees:#[anK,h_,ZG9,[Zmz,#[hI,f]]]
abbrev Yb [391]:Zaa:=(∃ kvs,Zac5)\/∃ kvs,Zac6
def FC [299][3](d:Yb H a) :
  ZaUl/\(∀ b,ZaVm->#[aMr,ZdV b=Zab ob])/\Zais:=by
 rcases d with ⟨kvs,e⟩ | ⟨kvs,e⟩
 ·refine #[pJ,Bp,fun _ hd vs _ dd=>?_]
  refine ZaWR;cases q;obtain⟨ob,_,_,h1,h2,_⟩:eZ:=dd;exact ZafS
 ·refine #[pJ,Br,fun _ hd xs _ dd=>?_]
  refine ZaWR;cases q;obtain⟨ob,_,_,h1,h2,_⟩:eZ:=dd;exact ZafS
section
variable {X:Cx}{pins:Zej}{σ:St}{H:Hp}{s:Shared}{a:Addr}{y d:V}{u r:Value}{o:Zgj}{A:Around}{E:ZfG}
def UR [50](rd:bJ d r)(h:#[ae1,ZGT,bJ (Zaj0 d) w']) :
  #[w',#[tw,"dict.get",[Zb1,u,r]]]:=by
 rcases g with ⟨kvs,k,e,ey,l⟩ | ⟨kvs,k,b,e,ey,eb,l⟩
 ·subst ey
  refine ZapE;refine #[a80,(meets_dict_get_default Zxb a ZtQ hd r),#[bJ,ZCy,ZaTa]];rw[l];exact ZaUe
 ·subst ey
  cases ZTk;refine ZaqM;refine #[a80,(meetsH_dict_get_default (Zwd (aV Zcl X.w)) a b hd r),⟨Zaj3 hu,k,xs,yI Zbl eb,dd,ZaTa⟩];rw[l];exact ZaUe
#where
abbrev V7 (td ty tx:TE):TE:=#[aTm,tx σ H2 fun z H3=>∃ o,fD H3 a y o/\Q (Zaj0 z) H3]
abbrev Wa (td ty:TE):TE:=#[aTm,∃ kvs k v,H2 a=Zab Ze8/\ZGz/\ZagD/\Q v #[gW,a,ZaWO]]
section
variable {X:Cx}{o e f:Expr}{apos h_:Pos}{td ty tx:TE}
def Qe [136][325](hf:ZaNw)(m:#[a14,ZNP]):#[aP6,ZNP,V7]:=by
 intro pins s σ H Q I h;refine #[Mt,aZt,Za6P,ZKw];obtain ⟨x,H1,I1,rx,a,ex,d,q1⟩:=zz;subst ex;obtain rfl:ZRv:=rx;refine Zatu;refine Zafn;rw[m.trees]
 refine aXy rfl (aXx (aXk (bZ ZacH fun iv s2 ZaIO =>
  #[a2',⟨z,H3,I3,rz,ov,g,q3⟩])))
 exact UR hu I3 g ry rz fun w' s4 I4 rw'=>az _ H3 I4 rw' q3
def Qh [325](m:M1 X o "pop" apos e h_):#[EO,"pop",[e],(Wa td ty)]:=by
 intro pins s σ H Q I h;refine #[Mt,PySem.F.slot_dict_pop,PySem.F.type_dict_pop,ZKw];obtain ⟨x,H1,I1,rx,a,ex,d,q1⟩:=zz;subst ex;obtain rfl:ZRv:=rx;refine Zatu;refine Zafn;rw[m.trees];refine #[aPV,(bZ ZacH ZHH)];obtain ⟨y,H2,I2,ry,kvs,k,v,ea,ey,l,q2⟩:=zz;refine ZGW;subst ey;exact WR I2 ea ry l Zgt #[a6O,az v _ I3 rw' q2]
#where
#print L2
namespace Att
open PySem PySem.W PySem.Calls PyProof.Rows
def Am {P:Params}[153]:∀ [168][421],WellAll P h vs (Zhr Za6Q)->ZS9:=by
 intro ns
 induction ns with
 | nil =>
  intro vs w;rw[List.map_nil]at w;cases w;exact Zan
 | cons n ns ih =>
  intro vs w;rw[aQv]at w
  cases w with
  | cons a b =>
   cases a;exact ZaB _ _ (ih _ b)
def N5 {l:OpenLaw}{n:Nat}(hn:Zad0){P:Params}{h:Heap}{args:Zayy}{vals:Zb4}
  (ak3:l.row.toRowW.claim.pre Zhp=Zad) (hwl:WellAll P h vals Zhp) :
  ∃ a vs ns,vals=[Zho a]/\Zhp=[WData.list (Zhr Za6Q)]/\#[m1,ZU_]/\ZS9/\ZJu:=by
 have hsh:WShape.hasAll [] Zhp [.list Zah]=Zad:=(Za6R ak3).1;have hc:l.pre.holds [] { args:=Zhp }=Zad:=(Za6R ak3).2;obtain⟨d,r,rfl,h1,h2⟩:bM:=hasAllW_cons hsh;obtain rfl:=hasAllW_nil h2;obtain⟨xs,rfl,h3⟩:ao:=hasW_list h1;obtain⟨ns,rfl⟩:=items_int h3
 have hlen:ZJu:=by
  unfold OpenLaw.pre at hc
  have h4:(WTm.not (.lt (.lit (Zah Zbj)) (.len (.arg 0)))).holds [] { args:=[.list (Zhr Zah)] }=Zad:=by
   have h4:=(holds_andW hc).1;rw[hn]at h4;exact h4
  have h5:=condW_of h4 (w_not (w_lt w_lit (w_len_list (w_arg rfl))));rw[Z9]at h5;refine Nat.le_of_not_lt #[bk,?_]
  have q':Zbj<#[a4,Zfp]:=Zae
  first
   | (rw[aQe q']at h5;exact #[oR,h5,ZaG])
   | (simp at h5;lia)
 cases hwl with
 | cons w1 w2 =>
  cases w2
  cases w1 with
  | list ho hall=>exact fC _ _ ns rfl rfl ho (Am ns _ hall) ZiP
def NW (l:OpenLaw)(args:Zayy):l.row.toRowW.claim.post Zhp ZA_ Zhp=Zad :=
 postW_of (r:=l.row.toRowW) (X:=(Zad == Zad))
  (show WShape.has [] ZA_ Zft=Zad by first | rfl | decide | simp[WShape.has,WShape.arms,WShape.armsAll])
  #[fK,(WTm.eq .res (.lit (Zft Zad))).value [] { args:=Zhp,res:=#[cZ,Zft,Zad],after:=Zhp }=Zab (Zft (Zad == Zad)),w_eq_bool (w_res rfl) w_lit] rfl
def attach_call {l:OpenLaw}{n:Nat}{q:Program}{loose:Zbp}{XP:ZabK}{YP:ZabJ}{d:DefRec}
  (hn:Zad0) (hdf:Zaah)
  (call:∀ (w:World)(s₀ s₁:Shared)(mg mb:Zpf)(fa:Addr)(o:Obj)(pm cd doc:Value)(a:Addr)(vs:Zb4)(ns:Zbq),
   Ground q loose [] XP w s₀ mg mb Zkg->YP w Zkg ->
   ZCA fa=Zab o->Zhi=Zwe (docDef Zaj6 d.params d.body d.scope pm cd doc)->s₁.heap.CodeRec cd Zaj6->Zaj7 ->
   ZaN1->ZS9->ZJu->s₁.gens = #[] ->
   #[a4h,(Zwf Zfx w)]) :
  #[aw2,WalkO]:=by
 intro w s₀ s₁ mg mb G Y fa o pm cd doc dV kV ho hd Z_ hD hmg hg args vals as ak3 hlay hrd hwl hlo;obtain rfl:dV=Zax:=Dflts.none hD hdf;obtain rfl:kV=Zax:=Dflts.noKw hD;obtain⟨a,vs,ns,rfl,rfl,bx6,hints,hlen⟩:gi:=N5 hn ak3 hwl;refine #[L',enter_call,Zfv w s₀ ZiJ mg mb fa o pm cd doc a vs ns G Y ho (fd_plain hd) Z_ hmg bx6 hints ZiP hg];obtain⟨rfl,h2,h3,h4⟩:iu:=hq;exact ⟨(Zal (fC ZA_ ZA_ [] rfl ZjS ZA_ (NW l _) (fun _=>⟨List.Pairwise.nil,fun _ hm=>(nomatch hm)⟩))),h2,h3,h4⟩
section
variable {prog:Program}{w:World}{A:Around}{E:ZfG}{s:Shared}{K:Frag}
abbrev YU [139]:Heap:={ h with objs:=#[] }
abbrev YT [139](L d:Addr):Zej:=#[NB,(ZiM Zj2)] fun a=>#[aj8,a=L\/a=d,(Zef a).map #[xM,a]]
#where
#print Att
namespace L2
open PySem PySem.Spec PyProof.Rows
def ET:∀ {vs:Zb4}{ns:Zbq},ZS9->#[K1,vs]
 | _,_,Zan=>Zan
 | _,_,ZaB n t h=>ZaB ZAA (ET h)
abbrev ca (s:Stmt)(j:Nat):Stmt:=match s with
 | .ClassDef _ _ _ Zfu _ _ _ _ _ _ _=>body.getD j (.Pass Zvx)
 | _=>.Pass Zvx
abbrev jj (s:Stmt):Arguments:=match s with
 | #[a6U,a,_]=>a
 | _=>#[a6S,[],[],Zac,[],[],Zac,[]]
abbrev fZ (s:Stmt):Zik:=match s with
 | #[a6U,_,b]=>b
 | _=>[]
abbrev am (s:Stmt):Scope:=match s with
 | Za6T _ _ _ _ _ _ sc _ _ _=>sc
 | _=>#[a6V,ZB1,[],Zay,Zay]
noncomputable abbrev eR:Di:=fun _ _ _ _ _ _=>ZiT
noncomputable abbrev E0:XK:=ZqK
def fW [61]:ir eR X E0:=fun _ _ _ _ _ _ _ h=>ZM9
structure eE [1](x qual:Str)(st:Stmt)(f:Addr)(fd:FuncData):Zaa where
 ex:∃ (oc:Value)(od:Zgk)(kV doc pm:Value)(an:Zgk)(i_ ct:Value)(osl:Zvw),
  fd=ZaoM/\Za2d/\ZadH
 kp:Zbcc
section
variable {P:Program}{w:World}{K:PySem.W.Frag}{mg:Zpf}{base:Heap}
def eE.ok {x qual:Str}{st:Stmt}{f:Addr}{fd:FuncData}{N ps:Zbp}{k:Nat}{sp:Sp}(F:ZA1)(S:Zag1)(len:ZO1)
  (P_:∀ (i_:Value)(A:Around)(outer:ZcU)(s:Shared)(H:Hp)(vs:Zbs)(Q:VK)(E:XK),ZaK9->Zjz ->
   ∃ t,GJ (#[EZ,eR,Zxy,i_,s,H]).nox ZEH t/\ZatJ):#[bi,Zdp,ps,sp]:=by
 obtain⟨oc,od,kV,doc,pm,an,i_,ct,osl,rfl,lk,Z_⟩:fT:=F.ex;refine #[ah5,?_];refine ao (Za4g) fun t h q=>?_;exact ⟨t,h.nox,q⟩
def eE.binds {x qual:Str}{st:Stmt}{f:Addr}{fd:FuncData}{ps:Zbp}(F:ZA1)
  (h:#[a52,ZaoM]):ZWm:=by
 obtain⟨oc,od,kV,doc,pm,an,i_,ct,osl,rfl,lk,Z_⟩:fT:=F.ex;exact Zwk (h kV doc pm an i_ ct)
def OX {x qual:Str}{st:Stmt}{f:Addr}{oc:Value}{od an:Zgk}{osl:Zvw}{kV doc pm i_ ct:Value}(l:#[aqa,ZaoM])
  (c:ZadH) (k:Zbcc):eE K x Zbx st f (ZaoM):=⟨⟨oc,od,kV,doc,pm,an,i_,ct,osl,rfl,l,c⟩,k⟩
#where
def fm [53]{k:Nat}(hr:ZI8):Zaet:=aXP (Nat.add_le_add_left #[Xy,1<=64] _) hr.units
def b9 [71](h:n<=ZbE):#[ok,n]:=aXP h ZaG
section
variable {X:Cx}
def pv (i:Nat){x:Str}{pos:Pos}(hN:ZnN:=by rfl)(hv:ZanZ:=by first | exact ZaAd | exact ZBO (ZNQ rfl) | exact ZBO (ZBO rfl))(hd:Za71:=by decide)
  (Z_:Zaaz:=by decide):ZaGl:=Ql hN hv hd Z_
#where
def au {A B:Zaa}(h:B):#[a6W,ZkJ]:=by
 rw[ZdQ];exact h
def aQ {A B:Zaa}(h:A):#[a6W,Zad=Zad]:=by
 rw[Zaz];exact h
def YM {c A B:Zaa}[Decidable c](h1:c->A)(h2:¬ c->B):if c then A else B:=by
 by_cases h:c
 ·rw[Zcy]
  exact h1 h
 ·rw[Zcx]
  exact h2 h
abbrev aG [320]:Zaa:=ZaEu
def aG.refl [32]:aG H H:=#[eq,h]
def aG.trans [268](a:ZIf)(b:ZaEy):ZYV:=fun c o h=>b c o (a c o h)
def aG.free [15](e:Zb_)[223](h:H' l=Za6X):H l=Za6X:=by
 cases q:H l with
 | none=>rfl
 | some o =>
  rw[e l o q]at h;cases h
def aG.seq [6][15][41][31](e:Zb_)[422]:ZaKG:=by
 rcases h with (h | ⟨o,h⟩) | h
 ·exact #[AD,(e _ _ h)]
 ·exact #[Z',#[h2,e _ _ h]]
 ·exact ZYM
section
variable {κ:Zj0} [Zbai]
def xz:∀ {l:Zbo κ}{k:κ},l.Nodup->¬ k∈l->(l++[k]).Nodup
 | [],k,_,_=>ZaU
 | a::r,k,h,hk=>by
  obtain⟨h1,h2⟩:=ZYQ
  show (a::(r++[k])).Nodup
  refine aQ0.mpr ⟨fun m=>?_,xz h2 fun m=>hk (ZajB (ZBO m))⟩;rcases #[D_,m] with q | q
  ·exact h1 q
  ·exact hk (ZajB (ZNQ (Zdc q).symm))
#where
#print L2
set_option maxHeartbeats 4000000
namespace L2
open PySem PySem.Spec PyProof.Rows
structure A3 (so sc:Scope)(N N':Zbp)[98]:Zaa where
 kind:ZB2
 nocell:Zbcx
 loc:Zbcv
 fre:ZbcA
 nd:N'.Nodup
 len:Za65
 cap:∀ p∈ZLc,(match p.2 with | none=>true | ZzT=>ZahE)=true
abbrev qp [98](σ:St):St:=src.map fun o=>o.bind ZaxE
abbrev fS [230][411](cl:Zpb)[55](N':Zbp)[154][32](ex:Zei):Cx where
 prog:=X.prog
 w:=X.w
 K:=X.K
 mg:=X.mg
 base:=X.base
 A:=X.A
 N:=N'
 s₀:=s
 H₀:=H
 env:=Za6Y sc cl C ZaQ
 outer:=X.stack
 stack:=X.stack
 ex:=ex
 fn:=ZXE
 calm:=X.calm
 pn:=[]
 xe:=Zjw
set_option tactic.hygienic true
def qk {env:Env}:∀ (names:Za4p)(cs:Zpb),(#[aUS,ZNT]) ->
  (∀ x c,#[bB,Za61,c]->ZV7) ->
  ∃ cl:Zpb,(forIn names cs fun x r=>if #[g0,x.2,Zwl] then (do let a <-cellOf env x.1;#[Sh,((x.1,a)::r)]) else ZSi:Sem (Zbo (Str×Zeh)))=Zck cl /\
   (ZaH0)/\(∀ x,(#[HA,Za61])->#[HA,ZNU])/\#[aUS,ZNU]
 | [],cs,_,h2=>cY cs #[nw,List.forIn_nil] h2 (fun _ h=>h) (fun _ h=>nomatch h)
 | ZZy,cs,h1,h2=>by
  by_cases hk:k=Zf5
  ·subst hk
   obtain⟨c,hc⟩:=h1 (n,Zf5) aQi rfl
   have K_:∀ x d,#[bB,#[fw,ZadZ],d]->#[bB,ZNT,d]:=fun x d e=>by
    rw[aQY]at e;split at e
    ·rename_i hx
     cases e
     have:x=n:=ZCB
     rw[this];exact hc
    ·exact h2 x d e
   refine #[a2A,ZadZ,K_];have has:∃ d,#[fw,ZadZ] n=Zab d:=#[zJ,c];refine cY cl ?_ q1 (fun x ZaL8=>q2 x ?_) (fun y hy hf=>?_)
   ·rw[aZu,<-e]
    simp[cellOf,hc]
   ·rw[aQY]
    split
    ·exact Za'
    ·exact ZaL8
   ·rcases ZI0 with rfl | hy
    ·exact q2 _ has
    ·exact ZaFZ
  ·refine #[a2A,cs,h2]
   have hb:#[o_,k,Zwl]:=Zaj9
   refine cY cl ?_ q1 q2 (fun y hy hf=>?_)
   ·rw[aZu,<-e]
    simp[hb]
   ·rcases ZI0 with rfl | hy
    ·exact #[oR,hf,hk]
    ·exact ZaFZ
set_option tactic.hygienic false
def qo {sc:Scope}{env:Env}(h:#[bcu,Zf5,∃ c,ZNT y.1=Zab c]) :
  ∃ cl:Zpb,Za62 sc env=Zck cl/\(ZaH0)/\Zbcz:=by
 refine jp (qk ZCp [] h (fun x c z=>by simp at z)) fun cl e q1 _ q3=>?_;refine ⟨cl,?_,q1,q3⟩;unfold closureFor
 show (#[aMw,forIn ZCp [] _])=_
 refine Zaj_ (aXa (fun t=>#[aMw,t]) (Zaj_ ?_ e)) ZaV
 congr 1
def xW {env:Env}:∀ [300],(∀ y∈names,y.2≠ZeT) ->
  (ZaGp \/
    ZaEn)->#[avw,ZlS]
 | [],_,_,h=>ZiI
 | ZZy,x,hc,h=>by
  have ih:=@xW env r x (#[RH,hc]);have h:ZaUj:=h
  by_cases hb:ZT3
  ·rw[ZjR]at h
   cases hx:Zadf with
   | true =>
    have e:x=n:=ZCB
    subst e
    have:k=Zwl:=by
     simp only[aXb,aZb]at hb;exact hb.1.1
    subst this;exact aQi
   | false =>
    simp only[aQY,hx]at h;exact ZaOQ
  ·rw[Znz]at h
   cases hx:Zadf with
   | true =>
    have e:x=n:=ZCB
    subst e;have hk:=hc (x,k) aQi;simp only[aQY,beq_self_eq_true,Option.some.injEq]at h;rcases h with h | h
    ·exact #[oR,h,hk]
    ·subst h;exact aQi
   | false =>
    simp only[aQY,hx]at h;exact ZaOQ
def vf {env:Env}:∀ [300],#[Fx,names.lookup] ->
  (ZaGp \/
    ZaEn)
 | [],_,h=>ZiI
 | ZZy,x,h=>by
  have ih:=@vf env r x
  show ZaUj
  cases hx:Zadf with
  | true =>
   simp only[aQY,hx,Option.some.injEq]at h;subst h
   by_cases hb:#[gq,#[SA,Zwl]]
   ·rw[ZjR];left;simp only[aQY,hx]
   ·rw[Znz];right;simp only[aQY,hx]
  | false =>
   simp only[aQY,hx]at h
   by_cases hb:ZT3
   ·rw[ZjR];simp only[aQY,hx];exact ih h
   ·rw[Znz];simp only[aQY,hx];exact ih h
def kU {prog:Program}{w:World}{A:Around}{R:ZnG}{s:Shared}{elt target bO:Expr}{ifs:Zbu}{scope:Scope}{pos:Pos}{it acc:Value}{env:Env}(I:ZIi)
  (turn:∀ n s,Zn1->wpAny Zwg A ZQ3 (fun r s₁=>match r with
   | none=>ZL0
   | Zny=>wpAny Zwg A ZaI0 (fun _ s₁'=>wpAny Zwg A ZaIZ (fun _ s₂ =>
     wpAny Zwg A (forIn ifs true fun c r=>if Zz1 then do let ok <-ZCb;ZSj else ZSi) (fun ok s₃ =>
      if ZH7 then wpAny Zwg A ZaD8 (fun x s₄ =>
       ZaTP) ZEn s₃
      else ZKi) ZEn s₂) ZEn s₁') ZEn s₁) ZEn s)
  (n:Nat) (h:Zn1) :
  #[wj,#[a0f,Zou]]:=by
 refine ZMC
 show wpAny _ A (#[a0f,ZCC].onRaise (fun x=>do Zbc8;ZIt)) _ _ s
 refine ZIw;rw[compTurn_list];refine ZMA
 cases r with
 | none=>exact ZIU
 | some v =>
  refine ZLt;refine ZMh
  cases ok with
  | false=>exact ZKd
  | true =>
   exact Za8B
abbrev TB [230](ifs:Zbu)(t:TT):Zaa :=
 ∀ [2][144],Zjf->Zt6 ->
  wpAny Zw_ X.A (forIn ifs true fun c r=>if Zz1 then do let ok <-ZCa c ZaQ (Zhn c ZaQ);ZSj else ZSi) ZV9 X.xe s
abbrev AF:TT:=#[aja,Zad]
def dv [61]:TB X [] AF:=fun pins s σ H Q I h=>wpAny_tests_nil ⟨H,I,h⟩
def Md [61]{c:Expr}{t:TT}(h:PT X c t):TB X [c] t:=fun pins s σ H Q I hq=>wpAny_tests_one (h Zam s σ H Q I hq)
abbrev Oq (tt:TT)[343][86]:TS:=#[vZ,tt,#[v0,#[dn,b,ZaKu,ZuP]]]
abbrev r9 (J:It)(g:TG)(tb:TS)(D:pG)[293]:Zaa:=∃ W:ZjX,Zlp/\∀ i m σ H,ZjW ->
 ZaW2
abbrev Ui [301][343][98]:TE:=fun σ H Q=>wi σ H fun J H1=>∀ a,ZJr ->
 r9 J g (Oq tt te a) Zack Zrl Zad9
def wY {X:Cx}{pins:Zej}{σ:St}{H:Hp}{s:Shared}{sc so:Scope}{N':Zbp}{src:ZnZ}{cl:Zpb}{fp:Zei}{h':Heap}
  (I:Zjf) (hso:Zan0) (S:#[apP,X.N]) (q1:#[Wb,Zaac]) (q3:Zbcz)
  (hf:ZJR) (v_:#[j_,ZI2]) (hns:#[ud,h'.Ns,ZVE]) (hk:ZaE0) (tk:Nat) :
  aT #[a2_,Zaw,fp] [] Zrl H ZO4:=by
 have hb:#[j_,b≠Zaw/\#[Wb,c≠b]]:=#[CD,⟨aQu (v_ b z),#[apH,#[pk,ZJK]]⟩]
 refine⟨⟨I.ok.mod,?_,I.ok.glob,I.ok.blt,ZaX,fun x y c h1 h2=>ZM5 x y c (q1 _ _ h1) (q1 _ _ h2),Zuj,fun x c hx _=>(by cases hx),I.ok.hd,I.ok.frames,ZnH,hb,I.bs,ZaQ9,fun b o e z=>?_,fun b z hz=>?_,I.stack,I.stkFree⟩,
  rfl,I.bare,ZaiE,ZaTy,Zald,ZJQ,#[apH,ZvV],Zapa,Za4M hk,?_⟩
 ·show (relabel sc ZaQ).kind=_
  exact S.kind
 ·have hx':ZaLf:=xW Zaka hx
  exact q3 _ hx' rfl
 ·rcases #[JK,0].2.2.2.1 with y | y
  ·exact ZNV b o e y
  ·exact #[aVG,ZxK,ZB9,y]
 ·rcases ZfZ (ZaiZ b hz) with y | y
  ·exact #[JK,0].2.1 y
  ·exact #[JK,0].2.2.1 y
 ·-- the captured names
  have h1':#[di,N'[i]?]:=h1;have K_:#[av,Zrl[i]?,ZmV]:=h2;unfold qp at K_;rw[aQI]at K_
  cases hs:src[i]? with
  | none=>rw[hs]at K_;cases K_
  | some o =>
   rw[hs]at K_;have bv5:(o.bind ZaxE)=Zab v:=aQp K_
   cases o with
   | none=>cases bv5
   | some j =>
    have hj:Zauh=Zab v:=bv5
    have hσ:#[av,Zakb,ZmV]:=by
     cases e:Zakb with
     | none=>rw[e]at hj;cases hj
     | some z=>rw[e]at hj;rw[show z=Zab v from hj]
    have cj4:(x,ZzT)∈ZLc:=by
     have:#[av,(N'.zip src)[i]?,(x,ZzT)]:=by
      rw[List.getElem?_zip_eq_some];exact⟨h1',hs⟩
     exact aQC ZbR
    have hc:=aQJ (S.cap _ cj4);obtain⟨hN,hfr⟩:#[di,X.N[j]?]/\Zabj:=hc;have ax1:ZaLf:=aXJ hfr;have bx4:=S.fre _ ax1 rfl;rw[<-hso]at bx4;refine ZTM;refine ao (hl j x v hN hσ (Zap bx4)) fun u ru lk=>?_;refine ⟨u,ru,Zap #[cu,vf hfr]⟩;obtain⟨c,hcl⟩:=q3 _ ax1 rfl;refine #[cg,c,hcl];rcases lk with ⟨k,_⟩ | ⟨_,c',e',z⟩
    ·have k:Zan3:=k
     rcases bx4 with y | y<;>(rw[k]at y;cases y)
    ·have:=q1 x c hcl
     rw[e']at this;cases this;obtain⟨ob,e1,e2⟩:ao:=z;exact ⟨ob,ZaHq,e2⟩
 ·refine cD (ZlG x c ZapG) fun v ob e1 e2=>?_
  exact ⟨v,ob,ZaHq,e2⟩
 ·show #[dM,Zrl,Za64]
  unfold qp;rw[Z9];exact S.len
def sj [61][4][223][31][420][51][396](hz:ZaCe)(ru:Zha) :
  Zb7 Zw_ X.A #[auZ,[Zai l,u]] #[Xr,#[b0,ZaOm,s']] E s:=by
 refine Zvu;refine Za3a;refine Za08;rw[aQl,aQW]
 lia
def dM {X:Cx}{elt tg bO:Expr}{ifs:Zbu}{sc so:Scope}{pos:Pos}{N':Zbp}{src:ZnZ}{wi:TI}{g:TG}{tt:TT}{te:TE}{N:Zbp}(hso:Zan0)(hXN:ZLe)(S:ZapQ)(hc:ZfT)(hi:ZBq)
  (hb:ZaX3)
  (hs:ZFE:=by intro _;rfl):PE X ZRy (Ui wi g tt te src):=by
 subst hXN;intro pins s σ H Q I h
 refine aK (qo (sc:=sc) (env:=X.env) fun y hy hf=>by
  have:=ZKM;rw[<-hso]at this
  exact ZM4) ZHI
 rw[eval_ListComp];refine Za6_;obtain⟨it,fp,tn,J,H2,e,I2,T,st2,f2,hR⟩:iT:=h2;subst e;refine ZIv
 have I3:ZbcU :=
  ZatA
 have hfr:=ZakX;refine ZMe;obtain⟨m0,w0⟩:=a_
 have flt:ZA6:=ZapY
 generalize hs3:ZbcT=s3 at I3 ⊢
 have e3:ZbcR:=ZHJ
 have sz3:ZNE:=ZKS
 have O_:Zaos:=ZaqC
 have aq3:ZND:=ZL7
 have st3:Zan6:=Zapr
 refine aZF S.nocell (by intro y hy;simp at hy) ZLd S.kind;have kp4:Zapj:=ZKL;have I4:=ZajQ;have st4:ZJY:=Zaps;generalize hC:s3.heap.objs.size=C at I4 aq2 aq1 ⊢;refine ZaYI
 let Y:Cx:=Zaot
 have loop:∀ s5:Shared,ZajP->codeAny Zw_ X.A Za60
   ZatW s5:=by
  rintro s5 rfl
  have y_:Zars:=fun {H'} hn b hb=>by
   refine ZMo;refine ZapI
   ·show Zyp
    rw[<-hC];exact ZLA
   ·have z:ZAl:=z
    rcases ZLU with y | y
    ·exact f1 y
    ·exact ZIQ
  refine ZaLF;intro n s6 a_;obtain⟨i,σ6,H6,I6,st6,fr6,w6⟩:eX:=a_;rcases ZBG with ⟨stop,qn⟩ | ⟨go,Nx,hN,step⟩
  ·refine Zajq
   obtain ⟨hr,I7⟩:=zz;subst hr;refine ZaqI;refine Zasx
   have neC:Zapi:=ZaqK
   have freeC:ZLg:=I7.free
   have un:ZaLC :=
    ⟨ZbcI,fun b o e n hb hx=>by
      obtain⟨sl,q⟩:=ZabR
      exact Zac0,I7.base.free,fun b o e hx=>by
      obtain⟨o',q⟩:=Zaby
      exact ZacZ,I7.base.tups,I7.base.frzs,I7.base.tbls⟩
   have hok:ZagF:=fun b ob e=>by
    refine Zats;rintro rfl;rcases hc' with z | z
    ·rw[<-z,freeC]at e;cases e
    ·rw[freeC]at z;cases z
   have J7:Zap0:=ZatR;exact ZahG
  ·refine Zajs
   obtain ⟨u,hr,h7⟩:=zz;subst hr;refine ZBp;obtain ⟨x,H8,I8,r8,y8,st8,fr8⟩:=zz;have I8':=ZBF;refine Zary;obtain ⟨σ9,H9,I9,q9⟩:=zz
   have again:Zarw:=fun [363] I7 n7=>by
    refine ZvB;refine ZaqA;refine Zaqd;exact ZaoR
   refine ZaqP;obtain ⟨H10,I10,Y_⟩:=zz
   cases ok with
   | false =>
    rw[ZdQ]at Y_ ⊢;exact ZBr
   | true =>
    rw[Zaz]at Y_ ⊢;refine ZaSG;obtain ⟨yv,H11,I11,ry,ys,hys,hlen,q11⟩:=zz;exact Zaib
 exact ZatO
abbrev V5 [301][343][98][221]:TS:=fun D σ H=>wi σ H fun J H1=>∀ a,ZJr ->
 r9 J g (Oq tt te a) #[EV,Zog (ZCe i #[pg,a]) H',Zjw] Zrl Zad9
def Mb {X:Cx}{ix:Nat}{x:Str}{px spos:Pos}{elt tg bO:Expr}{ifs:Zbu}{sc so:Scope}{pos:Pos}{N':Zbp}{src:ZnZ}{wi:TI}{g:TG}{tt:TT}{te:TE}{N:Zbp}(hso:Zan0)(hXN:ZLe)(S:ZapQ)(hc:ZfT)(hi:ZBq)
  (hb:ZaX3)
  (hnd:X.N.Nodup) (hix:#[di,X.N[ix]?]) (hx:Zan3)
  (hsw:Za66 ZRy (Zab (Zeg x px)) spos.line ZaQ=Zck Zad:=by rfl)
  (hs:ZFE:=by intro _;rfl):PS X (.Assign [Zeg x px] ZRy spos) (V5 wi g tt te src ix):=by
 subst hXN;intro pins s σ H D I h
 refine aK (qo (sc:=sc) (env:=X.env) fun y hy hf=>by
  have:=ZKM;rw[<-hso]at this
  exact ZM4) ZHI
 rw[exec_Assign_Name_used _ _ _ _ hsw];refine #[FX,?_]
 show wpAny _ X.A (do let _ <-comprehension ZRy sc ZaQ _ (newList []) Zay #[kN,bO] ZaWN) _ _ s
 refine aQa (aQR (Za69 (use:=Zab (Zoh ZauH ZaQ)) (Q:=fun _ s'=>ZaI4) rfl hs hcl ZCq S.loc Zas0) (fun _ s' hq=>#[Gp,hq]) ZTm);obtain⟨it,fp,tn,J,H2,e,I2,T,st2,f2,hR⟩:iT:=h2;subst e;refine ZIv
 have I3:ZbcU :=
  ZatA
 have hfr:=ZakX;refine ZMe;obtain⟨m0,w0⟩:=a_
 have flt:ZA6:=ZapY
 generalize hs3:ZbcT=s3 at I3 ⊢
 have e3:ZbcR:=ZHJ
 have sz3:ZNE:=ZKS
 have O_:Zaos:=ZaqC
 have aq3:ZND:=ZL7
 have st3:Zan6:=Zapr
 refine aZF S.nocell (by intro y hy;simp at hy) ZLd S.kind;have kp4:Zapj:=ZKL;have I4:=ZajQ;have st4:ZJY:=Zaps;generalize hC:s3.heap.objs.size=C at I4 aq2 aq1 ⊢;refine ZaYI
 let Y:Cx:=Zaot
 have loop:∀ s5:Shared,ZajP->codeAny Zw_ X.A Za60
   #[atV,ZaWN,#[Xr,ZaI4]] s5:=by
  rintro s5 rfl
  have y_:Zars:=fun {H'} hn b hb=>by
   refine ZMo;refine ZapI
   ·show Zyp
    rw[<-hC];exact ZLA
   ·have z:ZAl:=z
    rcases ZLU with y | y
    ·exact f1 y
    ·exact ZIQ
  refine ZaLF;intro n s6 a_;obtain⟨i,σ6,H6,I6,st6,fr6,w6⟩:eX:=a_;rcases ZBG with ⟨stop,qn⟩ | ⟨go,Nx,hN,step⟩
  ·refine Zajq
   obtain ⟨hr,I7⟩:=zz;subst hr;refine ZaqI;have freeC:ZLg:=I7.free;have J7:#[b0,H6,s7]:=#[atQ,s7,I7.base,I7.hok]
   have hC3:Zapi:=ZaqK
   have hlC:ZdT≠C:=by refine ao I3.loc fun m3 a_ _=>?_;obtain⟨o3,_,_,e3',_⟩:ko:=a_;exact ZaJH
   have hcC:∀ y c,#[U5,c]->c≠C:=fun y c e=>#[akc,cD (I3.cell y c e) fun v3 o3 e3' _=>?_,ZaJH]
   have hpC:#[Tb,C]:=#[oe,hC3 _ _ (I3.pin p hp).1];refine Za5e (EM (i:=ix) (v:=Zai ZeY) J7 hnd hix (Zal hx) rfl (fun s8 I8 zz=>?_) (Zap hx));obtain ⟨a8,sb8,ha8⟩:=zz
   have cz0:C≠a8:=by
    rcases ha8 with z | z
    ·rw[z];exact aQA hlC
    ·exact aQA #[p8,hcC]
   refine #[asw,Za4S sb8 cz0]
   have I9:aT X Zam (ZCe ix #[pg,ZeY]) H6 { s8 with heap:=h' } :=
    I8.turned (it:=C) (t':=s8.toks) #[pH,ZaFw] freeC (aQA hlC) (Zap (#[aqJ,I3.sz])) hcC hpC
   exact #[fJ,H6,I9,qn]
  ·refine Zajs
   obtain ⟨u,hr,h7⟩:=zz;subst hr;refine ZBp;obtain ⟨x,H8,I8,r8,y8,st8,fr8⟩:=zz;have I8':=ZBF;refine Zary;obtain ⟨σ9,H9,I9,q9⟩:=zz
   have again:Zarw:=fun [363] I7 n7=>by
    refine ZvB;refine ZaqA;refine Zaqd;exact ZaoR
   refine ZaqP;obtain ⟨H10,I10,Y_⟩:=zz
   cases ok with
   | false =>
    rw[ZdQ]at Y_ ⊢;exact ZBr
   | true =>
    rw[Zaz]at Y_ ⊢;refine ZaSG;obtain ⟨yv,H11,I11,ry,ys,hys,hlen,q11⟩:=zz;exact Zaib
 exact ZatO
section
variable {X:Cx}
abbrev Wy (i j:Int):Zaa:=0<j/\j<Za6'
def PV:#[a6h,Wy]:=Xl fun i j _ _ _ _ _ hc q=>by
 have h1:ZdF<j:=hc.1;have h2:j<Za6':=hc.2;refine #[aZD,PyProof.noPylong_of_log2,?_]
 have h0:j.natAbs≠0:=Zae
 have:j.natAbs.log2<60:=#[cD,Za86]
 lia
inductive VV [1][11]:Zaa
 | mk (x:_)(T:_)(t:_)(b:_)(_:xs=[x,.ty T])(_:wH K H x t)(_:Za5R K t #[my,T]=Zab b)(_:Q (.bl b) H)
def OB:#[JW,ZNi,VV]:=by
 intro pins s σ H xs us Q I r h;obtain⟨x,T,t,b,rfl,ty,e,q⟩:=h
 cases r with
 | cons rx r2 =>
  cases r2 with
  | cons rt r3 =>
   cases r3;cases rt;exact No I rx ty e fun tk=>az (.bl b) H (I.tok tk) rfl q
def Je [53]{bs:ZzU}[296](r:bK (Zkh ZeU) d_) :
  TruthOf Zcl X.w A (#[GK,ZNW]) (Zake):=by
 intro i v s Q E hv hq
 have hv':ZaaV:=ZNz
 have hi:i<Zkd:=#[rA,hv'];have hl:=r.length;rw[Z9]at hl;refine ao (ZNJ (i:=i) (x:=ZeU (ZaxK)) #[ey,aQI,ZtX]) ZF8;rw[hv']at hu;cases hu;cases ru
 have e:Zakd i Zay=ZaxK:=by simp[List.getD,#[VK,aQw,i<ZrL]]
 have hq':Q (Zakd i Zay) s:=hq;rw[e]at hq';exact aXA hq'
def NZ (bs:ZzU):#[aJP,bs.all id]:=by
 have h:ZaDs (Zake)=bs:=by
  apply List.ext_getElem
  ·simp
  ·intro i h1 h2;simp[List.getD,aQw h2]
 have e:#[aJP,(ZaDs (Zake)).all id]:=#[b6,Za7a]
 rw[e,h]
def yM {pins:Zej}{σ:St}{H:Hp}{s:Shared}{A:Around}{E:ZfG}{p:Addr}{xs:Zbs}{d_:Zb4}{R:ZfG}(I:Zjf)(hA:Zfl)(pl:PlainL ZaD p ZbM)
  (h:∀ (I':Addr)(St:ZSr)(s2:Shared),#[yk,ZeY]->#[Xt,I']->Walks Zcl X.w A I' [I',p] [I'] Zkd (#[GK,ZNW]) St->ZaKi->(#[yR,Za7V])->(#[NX,(#[o5,b∉[I'],Za7V,Zfa])->#[je,Zae2]])->R #[aj,I'] s2) :
  #[fH,Zw_,#[UH,p],R]:=by
 refine #[aBf,Zhl]
 have v_:#[dL,p]:=by obtain⟨o,n,e,_⟩:cD:=pl;exact ZcG
 have W:=Walks.list (prog:=Zcl) (w:=X.w) hA Zaw p ZaJy ZbM;rw[aQz]at W;refine h _ _ _ #[nw,aQ6] rfl W ⟨ZFc,Za7b Zaxy⟩ (ZmY) fun h' tk kp=>?_;exact ZrD (t':=tk) #[dy,kp b o #[FP,Ztx] Zmt]
inductive SX [1][11]:Zaa
 | mk [157](bs:ZzU)[63](_:bT K H p (Zkh ZeU))(_:Q (.bl (bs.all id)) H)
def pK [113]:#[JW,Zcc,SX]:=by
 intro pins s σ H xs us Q I r h;obtain⟨p,bs,rfl,hq,q⟩:=h;obtain⟨u,rfl,rx⟩:ao:=ZeP;cases rx;refine ZaCN;have hl:=rv.length;rw[Z9]at hl;refine #[agU,call_all_walk,Zkh ZeU,I,ZOG];refine #[ah',_,⟨Je rv,fun h' tk k=>az Zp6 H ZMk rfl ?_⟩];rw[<-hl,NZ];exact q
def my:#[axL,#[K1,us]->ZaED]
 | [],_,r=>by cases r;exact IntsAre.nil
 | n::ns,_,r=>by
  cases r with
  | cons r t=>obtain⟨tk,rfl⟩:=r;exact IntsAre.cons _ _ (my t)
def GG:#[axL,ZaED->#[K1,us]]:=by
 intro ns
 induction ns with
 | nil=>intro us h;cases h;exact Zan
 | cons n ns ih =>
  intro us h
  cases h with
  | cons _ _ t=>exact ZaB Za' (ih t)
abbrev i7:Zbq->Zbq:=fun l=>l.mergeSort (#[CE,#[lJ,a<=b]])
def IT {l m:Zbq}(hp:m.Perm l)(hs:m.Pairwise (·<=·)):m=i7 l:=by
 have h1:#[aaR,0].Pairwise (#[CE,#[lL,a<=b]]):=List.pairwise_mergeSort (by intro a b c;simp;lia) (by intro a b;simp;lia) l;have h2:#[aaR,0].Pairwise (·<=·):=h1.imp (ZaU);have h3:m.Perm (i7 l):=hp.trans #[a8L,0].symm;exact h3.eq_of_pairwise (fun a b _ _ h1 h2=>Int.le_antisymm h1 h2) hs h2
def ye:∀ [337],ZaHc->(∀ [221] x u,ZPi->#[av,Zaiz,u]->Zk')->ZfQ
 | [],[],_,_=>Zan
 | Zcz,Zq_,hl,h=>ZaB (h 0 x u rfl rfl) (ye (ZNY) fun i y v e1 e2=>h Zce y v (Zakf) (Za7c))
 | [],ZdO,hl,_=>Za7d
 | ZdO,[],hl,_=>Za7d
inductive KC [11]:Zaa
 | mk [157][184][168][224](_:kvs.map (·.1)=Zhr Zdu)(_:Zfp<64)(_:#[jZ,#[k4,i7,ns]])
def wK [113]:#[p',ZNZ,KC]:=by
 intro pins s σ H xs us Q I r h;obtain⟨p,kvs,ns,rfl,hH,hk,h64,q⟩:=h;obtain⟨u,rfl,rx⟩:ao:=ZeP;cases rx;refine Za1';obtain⟨ep,hat⟩:=dd.dictAt
 have hlk:ZaCE:=ZbdY
 have hlv:ZiL:=Zlh;refine PySem.Calls.call_function_entry kind_sorted plain_sorted entry_sorted (args_sorted1 _) ?_;unfold Builtin.«sorted»;refine aQa (m:=checkCount ZNZ 1 1 _) Zns;refine aQa (PySem.W.kdu_collect (A:=Zakg) (Za1t) ZOG hat ZaJ' fun h' tk acc kp F_=>?_)
 have hal:ZaLS:=ZaL9
 refine aQa (wpAny_newList ?_ (#[wa,hal,hlv,hz]))
 have rI:#[K1,ZN0]:=ye ZaJf fun i x v e1 e2=>by
  refine Za2Y
  have e3:(vs.map (·.1))[i]? = Zab k:=ZaHk
  rw[<-rel.keys,hk,aQI]at e3;rw[aQI]at e1
  cases en:ns[i]? with
  | none=>rw[en]at e1;cases e1
  | some n =>
   rw[en]at e1 e3;have e1':Zau n=x:=ZJf;subst e1';have e4:#[VA,n]=k:=aQp e3;subst e4;rcases dI (k:=#[kE,n]) (v:=v) hks with ⟨j,t,ej,ev⟩ | ⟨j,t,ej,_⟩
   ·cases ej;exact ZAW
   ·cases ej
 have hoL:(ZNI (seqObj Zdw Za7e 0)).get? Zke=Zab (seqObj Zdw Za7e 0):=ZeI;refine aQa (aXo (aXO slot_list_sort #[dk,hoL] entry_list_sort (list_sort_tree hoL (my rI) (#[gJ,hal]) fun out ns' a1 a2 a3=>Zh7) (args_list_sort _)));refine ZZ5;have en:ns'=i7 ns:=IT a2 a3;subst en;obtain⟨e,he⟩:=sortedHeap_at (vs:=ZN0) (out:=out) hoL;have I1:ZY':=ZrD kp;refine #[W2,Zke,ZCj (t':=tk) (a:=Zke) (o:=Za6 ((i7 ns).map Zau)) (ZHB) Za8 (js ?_ Zakh e (GG a1) (by simpa using he)),ZS3]
 ·rw[sortedHeap_old ZjB #[aM,size_push',aXB (aQo e)]]
  exact Zjm
 ·have:=a2.length_eq
  rw[Z9]
  lia
#where
inductive Dt where
 | at (v:V)
 | sq (tup:Bool)(ds:Zk5)
abbrev sE:V->ZbQ
 | ZaK=>true
 | ZjQ=>true
 | Zhe=>true
 | _=>false
def vD {v:V}(h:ZWy):sG v=Zad:=by cases v<;>first | rfl | cases h
def Ft {x y:V}(hx:ZJo)(hy:sE y=Zad):JH x y=Zad↔x=y:=by
 cases x<;>cases y<;>first | (cases hx;done) | (cases hy;done) | simp[JH]
abbrev Fd [1][32](t:Bool)[86][44]:Zaa:=#[dn,t,ZjO,Zln]
abbrev RD [1][32]:#[c5,Nat,V,Dt]
 | 0,v,d=>ZaUr
 | n+1,v,d=>(ZaUr)\/∃ a t xs ds,v=Zb1/\d=.sq t ds/\Fd K H t a xs/\Za0y
def RD.flat [6][38]{v:V}(h:ZWy):∀ n,RD K H n v (.at v)
 | 0=>#[e_,h]
 | _+1=>#[Y2,h]
def RD.lst [345][422][381]:#[aSa,Zay] :=
 Zap (iU a false xs ds rfl rfl (by unfold Fd;rw[ZdQ];exact h) r)
def RD.tup [345](h:ZjO)[381]:#[aSa,Zad] :=
 Zap (iU a true xs ds rfl rfl (by unfold Fd;rw[Zaz];exact h) r)
section
variable {X:Cx}{pins:Zej}{σ:St}{H:Hp}{s:Shared}
def RD.inj [3]:∀ {n m:Nat}{v:V}{d e:Dt},#[yy,v]->RD X.K H m v e->d=e:=by
 intro n
 induction n with
 | zero =>
  intro m v d e h1 h2;obtain⟨f,rfl⟩:=h1
  cases m with
  | zero=>exact ZKQ
  | succ m =>
   rcases h2 with h2 | ⟨a,t,xs,ds,rfl,_⟩
   ·exact ZKQ
   ·cases f
 | succ n ih =>
  intro m v d e h1 h2;rcases h1 with h1 | ⟨a,t,xs,ds,rfl,rfl,q,r⟩
  ·obtain⟨f,rfl⟩:=h1
   cases m with
   | zero=>exact ZKQ
   | succ m =>
    rcases h2 with h2 | ⟨a,t,xs,ds,rfl,_⟩
    ·exact ZKQ
    ·cases f
  ·cases m with
   | zero=>cases h2.1
   | succ m =>
    rcases h2 with h2 | ⟨a',t',xs',ds',ea,rfl,q',r'⟩
    ·cases h2.1
    ·cases ea
     have pr:∀ {l:Zbs}{l1 l2:Zk5},Za0 (RD X.K H n) l l1->Za0 (RD X.K H m) l l2->l1=l2:=by
      intro l
      induction l with
      | nil=>intro l1 l2 p1 p2;cases p1;cases p2;rfl
      | cons z l ihl =>
       intro l1 l2 p1 p2
       cases p1 with
       | cons r1 t1 =>
        cases p2 with
        | cons r2 t2=>rw[ih r1 r2,ihl t1 t2]
     cases t with
     | false =>
      have q:ZKj:=by unfold Fd at q;rwa [ZdQ]at q
      cases t' with
      | false =>
       have q':ZaH1:=by unfold Fd at q';rwa [ZdQ]at q'
       have:=Za5m q q';subst this;rw[pr r r']
      | true =>
       have q':ZaH2:=by unfold Fd at q';rwa [Zaz]at q'
       refine #[jN,q,fun _ _ p1 _=>?_];refine #[g',q',fun _ _ p2 _=>?_];exact #[aBX,ZN1,p2]
     | true =>
      have q:ZKk:=by unfold Fd at q;rwa [Zaz]at q
      cases t' with
      | false =>
       have q':ZaH1:=by unfold Fd at q';rwa [ZdQ]at q'
       refine #[g',q,fun _ _ p1 _=>?_];refine #[jN,q',fun _ _ p2 _=>?_];exact #[aBX,ZN2,p1]
      | true =>
       have q':ZaH2:=by unfold Fd at q';rwa [Zaz]at q'
       have:=Zajo q q';subst this;rw[pr r r']
def Qx [3]:∀ [42][53]{l b:Addr}{d e:Dt},ZaGB->RD X.K H Zfg Zm3 d->RD X.K H Zfg ZqO e ->
  (∀ [53][243]{d e:Dt},ZbcZ) ->
  #[GN,ZWB,SeqAt.RcAt A s Zm3 ZqO k]:=by
 intro n A l b d e hu h1 h2 ih;rcases h1 with h1 | ⟨a,t,xs,ds,ea,rfl,q,r⟩
 ·cases h1.1
 cases ea;rcases h2 with h2 | ⟨a',t',xs',ds',ea,rfl,q',r'⟩
 ·cases h2.1
 cases ea
 have pw:∀ {us us':Zb4},ZfQ->bK xs' us'->∃ ks:ZAN,(∀ j [326],#[bcY,(ks j)]) /\
   (ZaZd):=by
  intro us us' rv rv'
  have ex:∀ j:Nat,#[GN,∀ [326],#[bcY,k],(∀ d1 d2,#[awL,(k=Zad↔d1=d2)])]:=by
   intro j
   by_cases hj:j<ZdS/\j<Zait
   ·obtain⟨h1,h2⟩:=hj
    have l1:=rv.length;have l2:=rv'.length;have l3:=ZuE;have l4:=ZZp;have gx:#[av,ZNF,xs[j]]:=ZtX;have gx':#[av,xs'[j]?,xs'[j]]:=ZtX;refine ao (ZN3 gx) ZVH;refine ao (rv'.get gx') fun u' eu' ru'=>?_
    have eu2:us[j]=u:=by rw[aQw h1]at eu;exact aQp eu
    have cz5:us'[j]=u':=by rw[aQw h2]at eu';exact aQp eu'
    have bz5:∀ {m:Nat}{zs:Zbs}{es:Zk5}(j:Nat){z:V},Za0 (RD X.K H m) zs es->#[av,zs[j]?,z]->∃ f,#[av,es[j]?,f]/\RD X.K H m z f:=by
     intro m zs
     induction zs with
     | nil=>intro es j z p hz;simp at hz
     | cons z0 zs ihz =>
      intro es j z p hz
      cases p with
      | cons p1 p2 =>
       cases j with
       | zero=>simp at hz;subst hz;exact #[bK,p1]
       | succ j=>refine ao (ihz j p2 (by simpa using hz)) fun f e1 e2=>?_;exact #[aPM,f]
    refine ao (bz5 j r gx) fun f ef rf=>?_;refine ao (bz5 j r' gx') fun f' ef' rf'=>?_;refine ao (ih (A:=ZiU) #[Hq,Zom+1+n<Zj1+1] rf rf' ru ru') fun k hk he=>?_;refine #[aY,k,#[Em,#[dz,eu2,cz5,he]],#[a7f,?_]];rw[ef]at e1;rw[ef']at e2;cases e1;cases e2;exact hk
   ·refine #[aY,Zay,(fun h1 h2=>#[oR,Zvc,hj]),#[a7f,?_]]
    have l1:=rv.length;have l2:=rv'.length;have l3:=ZuE;have l4:=ZZp;have:=#[rA,e1];have:=ZaAu;exact #[oR,ZAS,hj]
  exact #[aY,(fun j=>Classical.choose (ex j)),(fun j h1 h2=>#[aVp,0].1 h1 h2),fun j=>#[aVp,0].2]
 have allEq:∀ (ks:ZAN),(ZaZd)->ZiV=ds'.length->(#[Wp,ZiV] ks=Zad↔ds=ds'):=by
  intro ks hk hl;rw[aQL];constructor
  ·intro h
   apply List.ext_getElem hl
   intro j h1 h2;exact (hk j _ _ Zadi (aQw h2)).mp (h j (Zn' h1))
  ·rintro rfl j hj
   have h1:=ZN4 hj;exact (hk j _ _ Zadi Zadi).mpr rfl
 have l3:=ZuE;have l4:=ZZp
 cases t with
 | false =>
  have q:bT X.K H l xs:=by unfold Fd at q;rwa [ZdQ]at q
  refine #[jN,q,#[a7g,?_]];have l1:=rv.length
  cases t' with
  | true =>
   have q':ZaIy:=by unfold Fd at q';rwa [Zaz]at q'
   refine ZaH3;exact #[aUz,SeqAt.RcAt.list_tuple,ZN1,p2]
  | false =>
   have q':ZaIx:=by unfold Fd at q';rwa [ZdQ]at q'
   refine ZaH';have l2:=rv'.length
   by_cases hl:ZaJh
   ·refine Za1V
    refine #[uf,#[Wp,Za7h] ks,(SeqAt.RcAt.lists ZN1 ZN2 (ZNY) Zaf Zbed)];rw[aQz,ZaPN,ZaXt];constructor
    ·rintro rfl;rfl
    ·intro h;injection h
   ·refine #[uf,Zay,(SeqAt.RcAt.lists_lengths ZN1 ZN2 (ZNY) Zaf)]
    constructor
    ·intro h;cases h
    ·intro h
     injection h with _ h;exact Za3v
 | true =>
  have q:aX X.K H l xs:=by unfold Fd at q;rwa [Zaz]at q
  refine #[g',q,#[a7g,?_]];have l1:=rv.length
  cases t' with
  | false =>
   have q':ZaIx:=by unfold Fd at q';rwa [ZdQ]at q'
   refine ZaH';exact #[aUz,SeqAt.RcAt.tuple_list,p1,ZN2]
  | true =>
   have q':ZaIy:=by unfold Fd at q';rwa [Zaz]at q'
   refine ZaH3;have l2:=rv'.length;refine Za1V;refine #[bJ,?_,(SeqAt.RcAt.tuples (e:=ks) (show #[anM,l,Za7i] from p1) (show #[auB,us'.toArray] from p2) Zaf Zbed)]
   by_cases hl:ZaJh
   ·rw[aQz,aQz,<-hl,Nat.min_self,beq_self_eq_true,Bool.and_true,ZaPN,ZaXt]
    constructor
    ·rintro rfl;rfl
    ·intro h;injection h
   ·have:#[o_,Za7h,us'.toArray.size]:=ZNY
    rw[this,Bool.and_false];constructor
    ·intro h;cases h
    ·intro h
     injection h with _ h;exact Za3v
def OO [3]:∀ [42][53][243]{d e:Dt},ZbcZ:=by
 intro n
 have aj1:∀ [53][243],sE y=Zad->ZJo->Zha->ZeL->#[GN,k=Zad↔Dt.at y=Dt.at x,#[bcW,k]]:=by
  intro A y x u v fy fx ry rx;refine #[uf,ZW0,OP ry rx (vD fy) (vD fx)];rw[Ft fy fx];constructor
  ·rintro rfl;rfl
  ·intro h;injection h
 induction n with
 | zero =>
  intro A y x u v d e hu h1 h2 ry rx;obtain⟨f1,rfl⟩:=h1;obtain⟨f2,rfl⟩:=h2;exact Za0C
 | succ n ih =>
  intro A y x u v d e hu h1 h2 ry rx;rcases id h1 with ⟨f1,rfl⟩ | ⟨a,t,xs,ds,rfl,rfl,q,r⟩
  ·rcases id h2 with ⟨f2,rfl⟩ | ⟨a',t',xs',ds',rfl,rfl,q',r'⟩
   ·exact Za0C
   ·cases rx
    refine ZaN2
    cases t' with
    | false =>
     have q':bT X.K H a' xs':=by unfold Fd at q';rwa [ZdQ]at q'
     refine #[jN,q',ZHK]
     cases y with
     | non=>cases ry;exact SeqAt.EqAt.none_list Zv2 Zaf
     | int _=>obtain⟨tk,rfl⟩:=ry;exact #[J',SeqAt.EqAt.int_list]
     | str _=>obtain⟨tk,rfl⟩:=ry;exact #[J',SeqAt.EqAt.str_list]
     | _=>cases f1
    | true =>
     have q':aX X.K H a' xs':=by unfold Fd at q';rwa [Zaz]at q'
     refine #[g',q',ZHK]
     cases y with
     | non=>cases ry;exact SeqAt.EqAt.none_tuple p Zaf
     | int _=>obtain⟨tk,rfl⟩:=ry;exact #[J_,SeqAt.EqAt.int_tuple]
     | str _=>obtain⟨tk,rfl⟩:=ry;exact #[J_,SeqAt.EqAt.str_tuple]
     | _=>cases f1
  ·cases ry
   rcases id h2 with ⟨f2,rfl⟩ | ⟨a',t',xs',ds',rfl,rfl,q',r'⟩
   ·refine ZaN2
    cases t with
    | false =>
     have q:ZKj:=by unfold Fd at q;rwa [ZdQ]at q
     refine #[jN,q,ZHK]
     cases x with
     | non=>cases rx;exact SeqAt.EqAt.list_none Zv2 Zaf
     | int _=>obtain⟨tk,rfl⟩:=rx;exact #[J',SeqAt.EqAt.list_int]
     | str _=>obtain⟨tk,rfl⟩:=rx;exact #[J',SeqAt.EqAt.list_str]
     | _=>cases f2
    | true =>
     have q:ZKk:=by unfold Fd at q;rwa [Zaz]at q
     refine #[g',q,ZHK]
     cases x with
     | non=>cases rx;exact SeqAt.EqAt.tuple_none p Zaf
     | int _=>obtain⟨tk,rfl⟩:=rx;exact #[J_,SeqAt.EqAt.tuple_int]
     | str _=>obtain⟨tk,rfl⟩:=rx;exact #[J_,SeqAt.EqAt.tuple_str]
     | _=>cases f2
   ·cases rx
    by_cases W_:a=a'
    ·subst W_
     exact ⟨Zad,(#[fs,Zaki I h1 h2]),ZayR⟩
    ·refine #[a4b,A,Zaf,ih hu']
     exact ⟨k,hk,.of_refs W_ hr⟩
#where
inductive ZG [1][42](neg:Bool)[323]:Zaa
 | mk [423](d e:Dt)(e1:Zlg)(e2:ZE')(r1:RD K H Zfg x d)(r2:RD K H Zfg y e)(h:#[aUR,ZWB])
abbrev YW [1][42](neg:Bool):R2:=#[rE,ZG K n neg x y H Q]
section
variable {X:Cx}
def VF [398]:#[ajd,.Eq,(YW X.K n Zay)]:=by
 intro pins s σ H x y v u Q I rx ry h;obtain⟨a,b,d,e,rfl,rfl,h1,h2,q⟩:=h;cases rx;cases ry;refine #[a4b,X.A,hu,OO I n hu'];exact hr _ _ _ _ #[qo,(.bl k),(q k hk)]
#where
open PySem PySem.Spec PyProof.Rows PySem.Calls
def Sc:#[akE,ZrM,Za7k]:=Zrg
def Pr:#[aws,ZrM,Zakj,Za7l]:=Zrg
section
variable {prog:Program}{w:World}{A:Around}{E:ZfG}{s:Shared}{r d:Addr}{items:ZiB}
def O3 {Q:Zazf}(hT:ZaQs)(h:Q Zay s):#[wh,#[jh,Builtin.List.listLengthHint,r]]:=by
 unfold Builtin.List.listLengthHint;refine #[Bo,Sc]
 wp_delta
 refine Zaez;refine Zaez;refine #[Bo,Pr];generalize hid:(Za7l : String)=id0
 wp_delta
 rw[show splitId id0=Zab (ZrM,"__length_hint__") from by subst hid;decide +kernel];subst hid;refine #[a9N,ZrM,hT,(ZXM)];refine #[Vo,ZaG,?_];refine aZT (ZsF) (fun W_=>#[oV,Zao,W_]);refine Zaez;exact ZFS
def JK {R:ZnG}(hh:Zfl)(hit:ZaXj)(hl:ZaPA)(hrd:d≠r)(S:Addr)(hSr:S≠r)(hSd:S≠d)(res:Value)(c0:Nat)(hS:ZA7=some { cls:=Zdx,data:=Za3 #[] c0 })
  (hR:∀ h' tk k_ c',(#[Vr,ZyK,r])->Zace=some { cls:=Zdx,dict:=none,data:=ZaFe,slots:=#[] }->Za1P->R (.ok (Zf1 res)) ZO4) (hn:ZYJ) :
  wpAny Zwg A.in1 (Za7m #[aj,S] #[aj,r] res)
   (fun fin s'=>match fin with | Zbe f=>R (.ok f) s' | .again c'=>c'.quiet=Zad/\#[aC2,c']) (fun e s'=>R (ZNl e) s') s:=by
 have hSf:S∉[r,d]:=by simp only[aQm,aQ1,aXz,not_or];exact⟨hSr,hSd⟩
 have W:=Walks.listRev (prog:=ZlB) (w:=w) (A:=ZiU) hh r d hrd Zn9;have hT:ZaQs:=hit.typeIs;unfold Builtin.List.listExtendWith;refine #[bdG,ZrM,hT]
 have h1:#[aDR,#[aj,S],#[aj,r]]:=by simp[Builtin.List.listSameRef,hSr]
 have h2:#[bcr,Zdw]:=ZaF
 have h3:#[bcr,Zf3]:=ZaF
 simp only[h1,h2,h3,Bool.or_false,aX7,aZ3];refine #[qF,wpAny_pyIter_revIter,hit];refine aQa (aXo (O3 hT ?_));refine #[Vo,ZcE,aQk #[cu,aZy PySem.F.plain_extend_loop _]];refine codeAny_extend_loopS W.toS hn S hSf res items.size 0 _ #[] c0 rfl Zm7 ⟨Zcr,(by simpa using hit),hl⟩ hS (ItemsOf.nil _) fun s' k_ c' hm hS' F_=>?_;rw[Moved.eq_with hm];refine hR Zc' s'.toks k_ c' (fun b o hb hbr e=>hm.heap b o (fun ax1=>?_) e) hS' F_
 ·rcases #[hU,ax1] with e' | ax1
  ·exact hb e'
  ·exact hbr (Zdc ax1)
def Dr {Q:ZfG}(hh:Zfl)(hit:ZaXj)(hl:ZaPA)(hrd:d≠r)(hn:ZYJ)
  (hQ:∀ h' tk k_ c',(#[zp,b≠r])->ZadJ=some { cls:=Zdx,dict:=none,data:=ZaFe,slots:=#[] }->#[aBe,Za1P,ZO4]) :
  #[wh,(Zfv (Za2 Zdw) [Zai r])]:=by
 refine callType_codes (Q₁:=fun obj s1=>ZLu/\s1={ s with heap:=s.heap.push { cls:=Zdx,data:=Za3 #[] } }) PySem.F.called_list ZayC PySem.F.entry_list_init ZaJB fun obj s1 h1=>?_;obtain⟨rfl,rfl⟩:=h1;have hS:(s.heap.push { cls:=Zdx,data:=Za3 #[] }).get? s.heap.objs.size=some { cls:=Zdx,data:=Za3 #[] }:=ZeI
 have hr:#[dL,r]:=by obtain⟨o,e,_⟩:ao:=hit;exact ZcG
 have hd:#[dL,d]:=by obtain⟨o,e,_⟩:ao:=hl;exact ZcG
 refine ZaTg
 show wpAny _ _ (do let old <-ZaG8;Builtin.List.listUpdate Zdl (fun _=>#[]);letGo Za7o;#[a7n,r]) _ _ _
 refine ZgD;unfold Builtin.List.listItems;refine ZaSl
 show wpAny _ _ (updateSeq s.heap.objs.size (fun _=>#[]) >>= fun _=>letGo (#[]:ZiB).toList.reverse >>= #[bF,#[a7n,r]]) _ _ _
 refine ZaIc;have hS2:=aQ7 (Obj.mapSeq (fun _=>(#[]:ZiB))) hS rfl
 have oth:∀ b o,ZdW->((s.heap.push { cls:=Zdx,data:=Za3 #[] }).update s.heap.objs.size (Obj.mapSeq (fun _=>(#[]:ZiB)))).get? b=Zhd :=
  ZaUH
 refine Zabl;refine JK (A:=ZiU) hh #[C9,hit.at,oth _ _ e] #[C9,hl.at,oth _ _ e] hrd Zaw (aQ5 hr) (aQ5 hd) Zax _ hS2 (fun h' tk k_ c' hk hS' F_=>?_) hn;exact#[d5,hQ h' tk k_ c' #[pH,hk b o ZjB hb ZaAC] hS' F_]
#where
abbrev Q6 [1][343]:TE:=#[ai7,∃ a xs,x=Zb1/\bT K H1 a xs/\∀ l,#[pR,l]->#[b9,l,#[d',l,ZazG]]]
def CG {X:Cx}{e:Expr}{te:TE}{p p2 pos pos2:Pos}(hc:ZfT)(he:Zhg)(hg:ZaBc)(hm:ZaE4)(hg2:Gl X Zwm)(hm2:#[tZ,Zwm])
  (hs:ZLL:=by rfl)
  (I_:#[aTv,ZaSJ,Zwm,[e]]:=by rfl) :
  PE X (ZcN (Zeg Zdw p) ZaSJ [] pos) (Q6 X.K te):=by
 intro pins s σ H Q I h;refine ZaI1;refine ZaLt;rw[I_];refine #[a7q,boot_reversed];refine aXj ?_ hs rfl;rw[hs];refine Za7p (bZ #[dj,he,h] Zg3);obtain ⟨x,H1,I1,rx,a,xs,ex,hq,q⟩:=zz;refine Za7s;subst ex;cases rx;refine aK (I1.list hq) ZGM;refine call_reversed_list Zhl (Za7r ?_)
 have v_:ZaC8:=by obtain⟨o,n,e,_⟩:cD:=pl;exact ZcG
 have hl:=rv.length;refine Dr (r:=ZeZ) (d:=a) (items:=ZbM) ZaBi ZFc #[C9,Za7b,Zjm] ZaJy ZG4 fun h' tk k_ c' hk hS F_=>?_
 have sz:Zahx=ZeZ+1:=#[e0,aQ6]
 have hge:ZeZ<=Zahx:=#[aL,sz,aZI _]
 have rr:bK Zakk Za7t:=ye (by have:=F_.1;simp at this;simp;lia) fun i y v e1 e2=>by
  have hv:=F_.2 i v #[eW,aZr,e2]
  have hi:ZAd:=#[bdX,e1]
  rw[List.getElem?_reverse hi]at e1;refine ao (ZN3 e1) ZVH
  have hv':#[sM,d_[Zkd-1-i]?]:=ZNz
  rw[hl]at eu;rw[eu]at hv';cases hv';exact ru
 refine #[W2,_,ZCj (t':=tk) (a:=Zahx) (o:=Za6 Zakk) (#[dy,hk b o ZjB Zmt]) hge (js #[aM,List.length_reverse,hz] Za7t c' rr (by simpa using hS)),(ZCF hge)]
#print L2
namespace Wz
open PySem L2
abbrev fk (c:Int):Int:=if c<0 then -c else c
def Rw (c:Int):0<=ZgX:=by unfold fk;split<;>lia
abbrev nO [168](k:Int):Int:=#[akl,k<(Zfp:Int),ZN5 ZrI 0]
abbrev lC (k c:Int):Int :=
 let left:=ZgX
 let number:=#[nh,(k*(1+#[aoE,left])+left/ZCG)]
 if left%5=4 then number+Zn8 else number
abbrev dk [14]:Ziu:=ZrN fun p=>Zavi
abbrev look:Zd4->Int->Zgl
 | [],_=>none
 | p::r,g=>ZaRF
abbrev put [364]:Zd4:=#[dn,ZaM5,ZrN (ZaMx),l++[(g,m)]]
abbrev wr [424]:Int:=#[yV,0].getD g
abbrev aU [14]:Zbq:=l.map (·.1)
abbrev cC [14]:Zbq:=(i7 (aU l)).filter #[SL,l]
abbrev J8 [14]:Zd4:=(cC l).map fun g=>(g,wr l g)
def m4:∀ [424],#[K6,l]=#[yV,0].map Zau
 | [],_=>rfl
 | p::r,g=>by
  by_cases h:Zt1
  ·have e:#[K6,ZJI]=Zab (Zau p.2):=#[aMy,j7,#[nw,h]]
   rw[e];simp[look,h]
  ·have e:#[K6,ZJI]=gQ (dk r) (Zdu g):=#[aMy,jh,ZaRp]
   rw[e,m4 r g];simp[look,h]
def UL [424]:((dk l).any #[yf,Ztk])=l.any ZXe:=by
 unfold dk;rw[List.any_map]
 congr 1
 funext p
 simp[Function.comp]
def xS [364]:k7 (dk l) Ztk (Zau m)=dk ZBz:=by
 unfold k7 put;rw[UL]
 by_cases h:(l.any ZXe)=Zad
 ·rw[Zcy,Zcy]
  unfold dk;rw[aQP,aQP]
  apply aXv
  intro p _;simp only[Function.comp]
  by_cases e:Zt1
  ·rw[aQd (#[e0,e]),Zim]
  ·rw[aQc (#[jx,e,ZMT]),Zil]
 ·rw[Zcx,Zcx]
  unfold dk;simp
def B0 [424]:ZaM5=#[fY,ZyV]:=by
 induction l with
 | nil=>rfl
 | cons p r ih =>
  rw[aXS,ih]
  show _=#[fY,(ZaRF)]
  by_cases h:Zt1<;>simp[h]
def dO [170][275]:Zabe↔g∈aU l:=by
 rw[<-B0,List.any_eq_true];unfold aU;simp
def Pq [14](g m h:Int):ZaZ (ZrN (ZaMx)) h=#[fL,h,g,#[yV,0].map (#[bF,m]),Zaea]:=by
 induction l with
 | nil=>simp[look]
 | cons p r ih =>
  rw[aQv]
  by_cases hp:Zt1
  ·rw[aQd hp]
   show (#[h_,p.1,h,m,ZauV])=_
   rw[ih]
   by_cases hh:h=g
   ·subst hh;simp[hp,look]
   ·have:ZaJ2:=#[aH,hh (Zakm hp)]
    simp[hh,this,look]
  ·rw[aQc hp]
   show ZaLr
   rw[ih]
   by_cases hh:h=g
   ·subst hh;simp[hp,look]
   ·simp[hh,look]
def Hu (l r:Zd4)(h:Int):ZaZ (l++r) h=(ZaZ l h).orElse #[bF,ZaZ r h]:=by
 induction l with
 | nil=>rfl
 | cons p l ih =>
  show (#[h_,p.1,h,p.2,ZaZ (l++r) h])=_
  rw[ih]
  by_cases e:p.1=h<;>simp[look,e]
def jU [14](g m h:Int):ZaZ ZBz h=#[h_,h,g,m,Zaea]:=by
 unfold put;rw[B0]
 by_cases e:Zabe
 ·rw[Zim,Pq]
  obtain⟨v,hv⟩:=Zop e
  by_cases hh:h=g
  ·simp[hh,hv]
  ·simp[hh]
 ·rw[Zil,Hu]
  have hn:ZaZ l g=Zac:=Zrt
  by_cases hh:h=g
  ·subst hh;simp[hn,look]
  ·have:¬ g=h:=#[aH,hh ZajY]
   simp[hh,look,this]
def Hr [364]:aU ZBz=#[b5,g∈aU l,aU l,aU l++[g]]:=by
 unfold put;rw[B0]
 by_cases e:Zabe
 ·rw[Zim,aQd (ZN7 e)]
  unfold aU;rw[aQP]
  apply aXv
  intro p _;simp only[Function.comp];split<;>rfl
 ·rw[Zil,aQc (#[jx,e,ZCH])]
  simp[aU]
def FH [364]:#[bf,ZBz,Zb8+1]:=by
 unfold put;split<;>simp
def ky:#[aZe,Zbq]
 | [],_,_,_=>Zcr
 | a::r,m,h,hs=>by
  obtain⟨h1,h2⟩:=ZYQ;have ha:a∈m:=hs a aQi;have hl:#[bd,Zakn,a]=ZN8-1:=Za7u ha;have hpos:ZaAg:=Zako ha;have ih:=ky (l:=r) (m:=Zakn a) h2 #[f9,#[aSZ,x≠a,#[cb,#[fP,h1,e,hx]]] (hs x Zapd)];rw[aQB]
  lia
def Ex {l:Zbq}{x:Int}:x∈i7 l↔x∈l:=#[a8L,0].mem_iff
def yK (l:Zbq):#[afk,i7]:=#[a8L,0].length_eq
def R6 [14]:(dk l).map (·.1)=#[aQA,l]:=by
 unfold dk aU;rw[aQP,aQP];rfl
def JZ [14]:#[afk,dk]:=by unfold dk;simp
abbrev aS [5][191][365]:Zaa :=
 #[bcg,#[bi,k,ps,sp]]
def bp {X:Cx}{x:Str}{k:Nat}{ps:Zbp}{sp:Sp}{e:Expr}{es:Zbu}{t:TA}{p pos:Pos}(C:#[a0L,aS])(hr:ZjV)(hg:Zee)(ha:Zhh)
  (S_:Za71:=by decide) (he:ZEh:=by rfl) (J_:ZanI (·.1)=false:=by rfl) :
  #[xl,(Q3 sp [] E0 t)]:=by
 obtain⟨f,fd,G,hm,hk,hb⟩:bB:=C;exact #[a3I,fW]
def uj [61][1][185]:WF X (Xw K):=by subst hK;exact aE
abbrev dh [32][298][59]:Zaa:=∃ as:Zei,Zabi/\Za0 (fun a (p:ZgF)=>#[d6,#[pI,p.1,p.2]]) as ps
def dh.mono [15][223][45](r:Zzo)[111]:dh H' l ps:=by
 obtain⟨as,h,p⟩:=r;exact ZaRH
def ah [38][366](h:Zgr):aG H ZZZ:=#[CI,#[tB,ZWc]]
def cH [15][366][111](h:Zgr):aG H ZaK7:=#[CI,#[axg,s b u e]]
def paired_get [132]:∀ [276]{i:Nat}{a:α},ZLD->#[av,ZN9,a]->∃ b,#[av,m[i]?,b]/\F a b
 | _,_,_,_,Zan,h=>ZiI
 | _,_,0,_,ZaB r _,h=>by simp at h;subst h;exact ZZm
 | _,_,i+1,a,Zae_,h=>by
  refine ao (ZN_ (i:=i) (a:=a) t ZCi) fun b e1 e2=>?_;exact #[aPM,b]
def bN [132]:∀ {l l':ZdP}{m m':ZX'},ZLD->Za0 F l' m'->Za0 F (l++l') (m++m')
 | _,_,_,_,Zan,s=>s
 | _,_,_,_,ZnY,s=>ZaB r (bN t s)
def n6 [132]:∀ [276],ZLD->Za0 F l.reverse m.reverse
 | _,_,Zan=>Zan
 | _,_,ZnY=>by
  rw[List.reverse_cons,List.reverse_cons];exact bN (n6 t) #[h9,r]
def bV [318]{f:Zab3}{l:ZdP}{i:Nat}{y:β}(h:#[kT,ZaBm[i]?]):#[aMi,y=f x]:=by
 rw[aQI]at h
 cases e:ZN9 with
 | none=>rw[e]at h;cases h
 | some x=>rw[e]at h;exact #[ii,x,ZT5]
def ER [80]{l:ZdP}{i:Nat}{x:α}(h:#[di,ZN9]):ZrO Zce=ZaCq++[x]:=by
 rw[aQM,h];rfl
def ii {te:TE}[200](h:te σ H fun y H2=>ZawC):Oq AF te a D σ H:=by
 unfold Oq AF;dsimp only;rw[Zaz];exact h
def Rb {tt:TT}{te:TE}[200](h:tt σ H #[v0,#[dn,b,ZaKu,ZuP]]):Oq tt te a D σ H:=h
inductive KO [1][12]:Zaa
 | mk [86][168](k:Int)(_:vs=[Zb1,Zah k])[382](_:0<=k)(_:#[jP,(nO ns k)])
inductive GA [12]:Zaa
 | mk [468](_:Q ZaRe H)
inductive Gr [12]:Zaa
 | mk (c m b:Int)(_:vs=[ZzW,Zah m,Zup])(_:ZaYJ)(_:(0<b/\b<ZNc))(_:∀ (l:Addr)(ds:Zbq),Zgr->(Zarn)->#[aAV,m]->#[b9,l,ZZ0])
inductive AY [12]:Zaa
 | mk (k c:Int)(_:#[aff,k])(_:(0<=k/\k<=Zv3))(_:#[jP,(lC k c)])
inductive Mx [12]:Zaa
 | mk [399][171](_:#[nL,d])(_:#[s1,#[bT,w]])(_:Zf_<64)(_:∀ (l':Addr)(H':Hp),#[abC,l',#[bO,l',#[k4,cC,w]],l'])
inductive Ja [1][12]:Zaa
 | mk [298][44](_:#[nL,l])(_:bT K H l xs)(_:∀ l',#[Sy,l',l',l',ZazG])
def FR [444]{Q:Zaz5}(h:Q Zac H):MC σ H Q:=h
def NB [171]:#[bd,J8,w]<=Zf_:=by
 unfold J8 cC;rw[Z9];refine aQZ Zauz ?_;rw[yK];unfold aU;rw[Z9];exact ZaX
def Oi [171]:#[bd,cC,w]<=Zf_:=by have:=NB w;unfold J8 at this;rwa [Z9]at this
#print Wz
namespace L2
open PySem PySem.Spec PyProof.Rows
abbrev TC (g B:Heap)(e:Addr)(c:Value)[114](fl:Value):Zaa :=
 ∃ oe us T oT ts,ZOa e=Zab oe/\(Zakp=c/\Zakq=od)/\ZBe/\#[av,us[1]?,#[aj,T]]/\ZOb T=Zac/\T≠e/\ZOa T=Zab oT/\oT.data=Za1 ts/\#[av,ts[3]?,fl]
abbrev wF [249](g:Heap):Zaa:=ZGa/\ZOc/\ZbdC/\ZaID
abbrev Tx [249](L:Addr)(g:Heap):Zaa:=ZGa/\ZOc/\ZbdC/\ZaIE
def RH (f:ZaLP)(o:Obj):(Obj.mapFields f o).dict=Zajg:=by
 unfold Obj.mapFields;split<;>rfl
def wF.obj {B g:Heap}[400]{e:Addr}{c:Value}{od:Zgk}(x:wF B l e c od g):∃ ob us,ZOa e=Zab ob/\ob.cls=c/\Zakr=od/\ZOd=Za1 us:=by
 obtain⟨_,_,_,oe,us,_,_,_,he,hc,hd,_⟩:=x;exact bS oe us he hc.1 hc.2 hd
section
variable {M:Model}{A:Around}{E:ZfG}{s:Shared}{B:Heap}{env:Env}{outer:ZcU}{L e:Addr}{od:Zgk}{c:Value}
abbrev Ye (g g':Heap):Zaa:=#[o5,#[bt,ZOa],(∀ us,#[U',us]),#[yA,g'.get?]]
def ON {oe:Obj}{us:ZiB}{head:Value}{hn:Bool}{Q:ZfU}(fr:Za50)(hl:ZKv)(hf:Zvo)
  (he:Zaef) (hk:ZBV) (hb:ZOc) (hd:ZBe) (h1:1<us.size)
  (h:ZbdE) :
  wpAny M A (do let a <-frameOf env;let pl <-entryPlaceOf L hn;let b <-EntryCells.newEntry head a Zax ZUW Zax pl;setField #[aj,e] 1 b) Q E s:=by
 have T_:e∉#[NB,ZsO] (·.frame):=fun z=>by
  refine #[aWT,hl.mem];rw[he]at ho;cases ho;exact Zagg
 refine aQa (wpAny_frameOf_fun fr hl hf fun g1 sl1=>aQa (wpAny_entryPlaceOf fun pl J_=>?_));unfold EntryCells.newEntry newFields;refine aQa (aXi ?_ (J_.sizeOk5 _ _ _ _ _));have e1:ZOe e=Zab oe:=(sl1.2.1 e T_).trans he;have k1:ZBU g1:=fun b o q=>(sl1.2.1 b fun z=>by rw[(hl.mem z).1]at q;cases q).trans ZacW;generalize hob:(#[So,Za2 "traceback",Za1 Za3G]:Obj)=ob
 have obd:ZOd=Za1 Za3G:=by rw[<-hob]
 have e2:=aQb (h:=g1) ob e1;refine ZOf e2 hd h1 ?_;have ne:Za7v≠e:=aQ5 (aQo e1);have d3:=Obj.data_mapFields hd (·.setIfInBounds 1 Za7w);have e3:=aQ7 (Obj.mapFields (·.setIfInBounds 1 Za7w)) e2 (Za7x d3)
 have keep:∀ b o,Zk8->ZayI->((g1.push ob).update e (Obj.mapFields (·.setIfInBounds 1 Za7w))).get? b=Zhd:=fun b o n q=>by
  rw[ZaGi];exact ZmM
 have nr:#[av5,Zk8]:=fun b o q nf z=>by
  rw[z,he]at q;cases q;exact Zagg
 refine h _ (fun b o q=>keep b o (fun z=>by rw[z,hb]at q;cases q) (k1 b o q)) (Za7z Zakt) ?_ Zakt
 ·obtain⟨sl,z⟩:=ZaOV
  exact #[dk,ZaTr]
 ·refine ⟨_,_,g1.objs.size,ob,_,e3,⟨Za7B _ _,RH _ _⟩,d3,(by simp[h1]),k1.fresh,ne,?_,obd,(by first | (simp;done) | (rcases J_ with rfl | ⟨_,_,_,_,_,_,_,rfl⟩<;>simp))⟩
  rw[aQX _ _ ZauG];exact aQq g1 (by rw[<-hob];rfl)
 ·obtain⟨sl,z⟩:=ZaOV
  exact⟨sl,ZaTr⟩
def Ie {oe:Obj}{us:ZiB}{Q:ZfU}(fr:Za50)(hl:ZKv)(hf:Zvo)
  (he:Zaef) (hk:ZBV) (hb:ZOc) (hd:ZBe) (h1:ZaJC)
  (h:ZbdE):Zbc9:=by
 unfold noteFrame;simp only[hf];refine Zahq;rw[Zz'];exact ON fr hl hf he hk hb hd ZaHG h
def Cp {Q:ZfU}(fr:Za50)(hl:ZKv)(hf:Zvo)(ht:TC ZaD B e c od Zax)(hk:ZBV)(hb:ZOc)
  (h:#[bdD,ZaIE]):Zbc9:=by
 obtain⟨oe,us,T,oT,ts,he,a_,hd,h1,nT,ne,hT,dT,h3⟩:dZ:=ht;obtain⟨rfl,rfl⟩:=a_;unfold noteFrame;simp only[hf];refine Zahq;rw[ZaWc];refine aQa (aXc hT dT h3 ?_);rw[aQc (show ¬(#[g0,Zj9,ZgI L]) by simp[rawInt])];refine aQa (ZOf hT dT ZaHH ?_);have ot:∀ b,b≠T->(s.heap.update T (Obj.mapFields (·.setIfInBounds 3 Value.none))).get? b=ZazS:=ZaMn
 have nr:ZaLu:=fun b o q nf z=>by
  rw[z,hT]at q;cases q;exact ZaQ'
 refine ON fr Za7A hf (#[aOD,0].trans he) (fun b o q=>(ot b fun z=>by rw[z,nT]at q;cases q).trans ZacW) hb hd ZaHG #[Og,h g a1 a2 a3 Zakt];exact a4 b o (Zaqv q) nf
def AK {l:ZcU}{fl:Value}{Q:ZfU}(hk:ZBV)(hl:ZCl B l)(ht:TC ZaD B e c od fl)
  (h:∀ g,ZGa->ZbdC->ZaID->ZaqR->ZS7):Zaga:=by
 obtain⟨oe,us,T,oT,ts,he,hc,hd,h1,nT,ne,hT,dT,h3⟩:dZ:=ht;have z3:3<ts.size:=ZaHH;have ot:∀ b,b≠T->(s.heap.update T (Obj.mapFields (·.setIfInBounds 3 (#[aL6,0].elim Zj9 #[hs,ZgI f])))).get? b=ZazS:=ZaMn
 have nr:ZaLu:=fun b o q nf z=>by
  rw[z,hT]at q;cases q;exact ZaQ'
 unfold setFlight;refine Zahq;rw[ZaWc];refine wpAny_setField hT dT z3 (h _ (fun b o q=>(ot b fun z=>by rw[z,nT]at q;cases q).trans ZacW) Za7A ?_ #[aks,⟨Zaku,Zaqv q⟩]);exact ⟨oe,us,T,_,_,#[aOD,0].trans he,hc,hd,h1,nT,ne,#[a7y,hT,dT],Zakw dT _,(by simp[z3])⟩
def QA {g g' g'':Heap}(a:Ye g g')(b:g'.UpToSlots g''):g.UpToSlots g'':=fun x o q nf=>by
 obtain⟨sl,z⟩:=a x o q nf;obtain⟨sl2,z2⟩:=b x _ z nf;exact⟨sl2,z2⟩
def FF {oe:Obj}{us:ZiB}{Q:ZfU}(fr:Za50)(hf:Zvo)(hk:ZBV)(hl:ZKv)
  (he:Zaef) (hb:ZOc) (hd:ZBe) (h1:ZaJC)
  (hq:#[aqS,wF B Zcm e Zakp Zakq g]):ZaZ9:=by
 unfold leaving;refine aQa (Ie fr hl hf he hk hb hd h1 #[Og,?_]);exact #[a2D,hq g2 ⟨b1,hb,b2.2.2,b3⟩ ZaS5]
def BW {Q:ZfU}(fr:Za50)(hf:Zvo)(fl:ZaQ7)
  (hq:#[aqS,wF B Zcm e c od g]):ZaZ9:=by
 obtain⟨f1,f2,f3,f4⟩:iu:=fl;unfold leaving;refine aQa (Cp fr f3 hf f4 f1 f2 #[Og,?_]);exact #[a2D,hq g2 ⟨b1,f2,b2.2.2,b3⟩ ZaS5]
def Nz {Q:ZfU}(fr:Za50)(hf:Zvo)(fl:ZaQ7)
  (hq:#[aqS,Tx B ZsO e c od L g]):Zbc9:=by
 obtain⟨f1,f2,f3,f4⟩:iu:=fl;exact Cp fr f3 hf f4 f1 f2 ZawV
def Vm [400][189](hh:Tx B l e c od L ZaD)[141]:Zaga:=by
 obtain⟨f1,f2,f3,f4⟩:iu:=hh;exact Za0D
def FE [400][189](hh:wF B l e c od ZaD)[141]:Zaga:=by
 obtain⟨f1,f2,f3,f4⟩:iu:=hh;exact Za0D
#where
noncomputable abbrev Jp:Zb4:=[Za2 "ValueError",Za2 "Exception",Za2 ZOh,Za2 ZCJ]
abbrev exOb (C t:Addr)[114]:Obj:={ cls:=ZmZ,dict:=od,data:=Za1 #[Zea,Zax,Zax,Zax,ZjL,Zax] }
abbrev pS:Zb4->ZbQ
 | Zai _::r=>pS r
 | l=>l == Jp
def Ac (self:Value):∀ {l:Zb4},pS l=Zad->refuseLoop self Zakx l=Zck ()
 | Zai c::r,e=>#[aL,refuseLoop_ref,Ac self (l:=r) e]
 | [],e=>by cases e
 | Zaz',e=>#[aL,#[bn,(Zaz':Zb4)=Jp,ZNd e],PySem.F.store_ValueError.passes self]
 | Zax::_,e=>ZlT
 | Zft _::_,e=>ZlT
 | Zah _ _::_,e=>ZlT
 | Zag _ _::_,e=>ZlT
 | .bytes _ _::_,e=>ZlT
 | .float _ _::_,e=>ZlT
 | Zf' _::_,e=>ZlT
 | Zaky::_,e=>ZlT
 | .notImplemented::_,e=>ZlT
abbrev vB [1](C fI:Addr):Bool:=match ZiW C with
 | Zab #[fR,Za2 ZOi,.cls cd,sl]=>(match cd.mro,sl.toList with
  | Zai D::bm,[_,_,_,_,#[cZ,Zf',n],_]=>D == C&&n == ZCK&&!cd.hasDel&&PySem.W.tailIn K Jp bm&&PySem.W.nsOkIn K cd.ns&&#[Q8,cd.ns,Zfy] == Zab #[pg,fI]
  | _,_=>false)
 | _=>false
set_option tactic.hygienic true
def Kj [6][153]{N:Addr}[77]{n:Str}[317][425](G:h.Ns N mg)(e:#[Q8,N,n]=Zab ZmV):mg n=Zab v:=by
 obtain⟨o,es,ep,ho,hd,hk,hf⟩:eX:=G;unfold PySem.W.nsIn at e;split at e
 ·rename_i oc od es2 n2 sl hl
  have:=X _ _ hl;rw[ho]at this;cases this;cases hd;split at e
  ·rename_i en he
   cases e;rw[<-hf n];unfold nsFind findBy;rw[<-Array.find?_toList,he];rfl
  ·split at e<;>cases e
 ·cases e
def Hg [6][153]{C fI:Addr}[425](q:ZaR') :
  #[a1u,ZarR]:=by
 unfold vB at q;split at q
 ·rename_i dd cd sl ho
  split at q
  ·rename_i D bm k0 k1 k2 k3 n k5 hm hs
   simp only[aXb,aZb,Bool.not_eq_true']at q;obtain⟨⟨⟨⟨⟨rfl,rfl⟩,hdel⟩,ht⟩,hok⟩,hni⟩:=q;obtain⟨nm,bs,mro,ns,qn,hd,sn,sub,ab,col,del⟩:=cd;dsimp only at hm hdel hok hni;subst hm hdel
   have hsl:sl = #[k0,k1,k2,k3,ZaJV,k5]:=by
    obtain⟨l⟩:=sl;simp only at hs;rw[hs]
   subst hsl;have G:h.Ns ns _:=ZaYj;exact #[a4n,G,Kj X G hni]
  ·cases q
 ·cases q
structure Yx [1][55][415]:Zaa where
 ga:#[bb5,C,ZOj,Za7C]
 gh:#[bb4,C,Za7D]
 sa:Zbb8
 na:Zbb9
 hd:Zbc5
 mb:#[Hp,C,ZOh]
 mo:ZaK6
 ov:#[aWM,C]
section
variable {prog:Program}{w:World}{A:Around}{E:ZfG}{s:Shared}{K:PySem.W.Frag}{x dx C:Addr}{mA:Zpf}{f:Str}{v:Value}
def VC {t:Addr}{Q:ZfU}(X:Zob)(c:Yx K C f)(hx:ZaNI)
  (h:#[NX,#[bB,Zem,ZaFU]->#[ud,h'.Ns1,(fun y=>#[amu,y=f,v])]->(ZaFM)->Q () ZO4]) :
  #[aOt,f]:=by
 have J:Za5B ZaD x ZWK C Zac:=#[cC,hx,rfl,ZCv];have SF:=PySem.F.store_ValueError;refine #[Ze,c.ov,fun cd Z_ ho=>?_];refine #[Ze,c.hd,fun cd' bv1 hd'=>?_]
 have e0:cd'=cd:=by rw[Z_]at bv1;exact #[pr,bv1]
 subst e0;have L0:=J.type (M:=ZaPp);have sub:Zakz Zwg ZaD (isInstance #[aj,x] #[my,ZCJ]) Zad:=L0.andThen (PySem.W.looks_mroIn X c.mo);have hm:Zakz Zwg ZaD #[jh,mroOf,C] cd'.mro:=#[aKV,0].andThen .now;refine #[aNW,c.sa,?_];refine ZakA SF.slot.plain SF.entry (@PySem.W.check_slot Zwg _ _ Zai1 Za7E ZCJ Zakx Zjn [#[Wx,f],v] [] _ SF.kind SF.split sub (SF.args Zjn ZaPW v) ?_);rw[PySem.W.osa_eq,refuse_eq];refine #[Gf,#[aX0,hm _ _ _ _ ZTn ?_]];rw[Ac _ ho];refine aQk (aQa #[aX0,Za5H X c.na _ _ _ _ ZTn ZaGX]);refine #[aXn,ZaKV];rw[hd'];rw[Zz'];have hxs:x≠Zaw:=aQu (aQo hx);have hx1:(s.heap.push { cls:=ZiR,data:=Zdb #[] }).get? x=Zab ZWK:=aQb _ hx
 show wpAny Zwg A.in1 (alloc { cls:=ZiR,data:=Zdb #[] } >>= fun dA=>(update x #[aZf,dA]) >>= #[bF,dictMade #[TU,C] x dA]) _ _ _
 refine #[xw,wpAny_alloc',(wpAny_update' hx1 (aQk ?_))];generalize hg:((s.heap.push { cls:=ZiR,data:=Zdb #[] }).update x #[aZf,Zaw])=g1
 have hgd:ZOe Zaw=some { cls:=ZiR,data:=Zdb #[] }:=by
  rw[<-hg,#[aDx,hxs.symm]];exact Za7F rfl rfl
 have hgx:#[bB,ZOe,ZaFU]:=#[eV,hg,ZaIg]
 have hgo:#[o5,Zqu,ZdW,ZayI]:=#[akB,#[Ok,hg,#[aDx,n],ZmM]]
 have hnd:#[ud,g1.Ns,Zs3]:=dE _ (#[]) _ hgd rfl ZaSL ZjS
 show #[hQ,(Builtin.ObjectAttr.storeInDict Zaw ZaPW f v)]
 unfold Builtin.ObjectAttr.storeInDict Builtin.ObjectAttr.newKeyGuard;refine #[zj,(Za5G (Za5J hnd) fun h' hn2 I_=>?_)];refine #[a1E,f,PySem.Within.nil];refine #[aWh,(#[rP,aQB,List.length_nil,aQU])];refine aQk (h h' _ ((I_.2 x hxs).trans hgx) hn2 #[akB,?_]);exact (I_.2 b (aQu (aQo q))).trans (hgo b o n q)
def PH {t fI:Addr}{u:Value}{Q:ZfG}(X:Zob)(c:ZaR')(hx:ZaNI)
  (h:∀ h' t',#[bB,Zem,(exOb C t' Zac)]->(ZaFM)->Q Zax ZlR) :
  #[wh,#[tw,Za7G,[Zai x,u]]]:=by
 have F:=aZA;refine iw (Hg X c) ZXN;obtain⟨qn,bs,hdct,b_⟩:iw:=a_;obtain⟨sn,sub,ab,c_⟩:iw:=b_;obtain⟨col,dd,k0,zx4⟩:iw:=c_;obtain⟨k1,k2,k3,k5,mN,hC,hN,hni,T⟩:jr:=zx4;obtain⟨hp,g,d,tk,os⟩:=s;refine aZP (ZakA F.init.plain F.initEntry (wpAny_check_init_subT F T hC hx rfl ?_));unfold Builtin.«BaseException.__init__»;dsimp only;rw[ZAa];unfold newTuple Builtin.BaseException.bexcPut;have hx1:=aQb (h:=hp) { cls:=Zf4,data:=Za3 #[u] } hx;refine aQa (aXi (aQa (aQa (aXc hx1 rfl rfl (aQa #[aNh,hx1,rfl,#[wn,0<6]])))) ZXs);refine aZJ (aQk (h _ hp.objs.size ?_ #[akB,?_]))
 ·exact ZaIg
 ·rw[ZaGi];exact ZmM
#where
#print L2
namespace PySem
open Sem (wp)
section
variable {prog:Program}{w:World}{A:Around}{E:ZfG}{h:Heap}{g:ZY7}{d:Drawn}{t:Nat}{os:OsState}
variable {nm q:Str}{C N:Addr}{bs bm bmB:Zb4}{hdct:Bool}{sn:Zbp}{sub:Zb4}{ab:Bool}{col:#[gi,ZbQ]}{dd:Zgk}{k0 k1 k2 k3 k5:Zpe}{B newId initId:String}
set_option tactic.hygienic true
def yg (F:Za7I B ZOl initId bmB)(T:ZaIW){mN:Zpf}{rest:Zb4}{fI:Addr}{oI:Obj}{Q:Zazg}
  (hC:ZaSx) (hn:ZWJ) (hi:ZarR) (hfI:ZaPE) (hfc:ZakI)
  (hq:#[a2E,Zb7 Zwg A ZaV7 (#[CL,r=Zax/\Q (Zbe (Zf1 #[aj,e])) s']) E ZaGU]) (az1:Zazb) :
  #[BH,(Builtin.«type.__call__» #[d7,ZaCS]),⟨h,g,d,t,os⟩]:=by
 repeat (first | with_reducible refine Zadw | with_reducible refine wpAny_madeBy_exc hC ?_ | wp_step)
 refine codeAny_call_builtin_code #[baa,F.quiet] (wpAny_check_new_subT F T hC ?_);refine codeAny_exc_new_subT F T hC ?_ az1
 show #[hQ,_]
 have keep:∀ b o,ZeK->(ZaMj { cls:=ZmZ,data:=Za1 #[ZHV,Zax,Zax,Zax,ZjL,Zax] }).get? b=Zhd:=ZarB;have hC1:=ZdU _ _ hC;have hn1:=hn.keeps ZdU
 have bv0:(ZaMj { cls:=ZmZ,data:=Za1 #[ZHV,Zax,Zax,Zax,ZjL,Zax] }).get? ZayK=some { cls:=ZmZ,data:=Za1 #[ZHV,Zax,Zax,Zax,ZjL,Zax] }:=by heap_get
 have hcC:#[aVH,Zjr]:=ZaU
 have T1:=ZakC ZdU;unfold isInstance
 repeat (first | with_reducible refine #[UU,bv0] | (with_reducible refine #[aBg,hC1];rw[hcC]) | wp_step)
 show #[hQ,(ZakD #[aj,C] _)]
 refine wpAny_typeLookup_tail hC1 hn1 T1 F.mroIs F.init.lookup ?_;rw[hi];refine aXo (aQa ?_);unfold bindSpecial;refine #[bdG,ZakG,#[bJ,ZdU _ _ hfI,hfc]];rw[ZAH];refine aQk (aQa (aQR (hq _ ZayK ⟨ZdU,ZaiT (aZI _),Zj2,bv0,#[tc,ZaiT],aQb _ (Za7F rfl rfl)⟩) (fun r s' hr=>?_) Zng));obtain⟨rfl,hQ⟩:=hr
 wp_walk
 exact hQ
def GI (F:Za7I B ZOl initId bmB)(T:ZaIW){mN:Zpf}{rest:Zb4}{fI:Addr}{oI:Obj}{Q:ZfG}
  (hC:ZaSx) (hn:ZWJ) (hi:ZarR) (hfI:ZaPE) (hfc:ZakI)
  (hq:#[a2E,Zb7 Zwg #[Us,#[d7,ZaCS]] ZaV7 (#[CL,r=Zax/\#[b9,e,s']]) E ZaGU]) (az1:Zazb) :
  #[BH,(Zfv #[aj,C] ZdX),⟨h,g,d,t,os⟩]:=by
 have f1:=tc_lookup;have f2:=tc_bind #[aj,C];have hT:(⟨h,g,d,t,os⟩:Shared).TypeIs #[aj,C] ZOi:=#[dk,hC];refine Za8D
 show #[hQ,(callAny #[aj,C] _)]
 repeat (any_goals (first | assumption | with_reducible refine Zadw | wp_step))
 refine Zq1;refine codeAny_call_builtin_at #[baa,ZcE] entry_typeCall (wpAny_check_type_call_sub hC (yg F T hC hn hi hfI hfc (fun h' e hm=>?_) az1));exact hq h' e hm
def Rg {x:Zye}{s:Shared}{env:Env}{Q:#[fF,Flow]}(u_:bm.contains ZaBd=Zad)(hh:Zfl)
  (h:#[fH,Zwg,x,(fun v s1=>∃ e t od,v=Zai e/\ZOm C=Zab #[Vy,q,ZOl]/\ZOm e=Zab (L2.exOb C t od)/\E #[aj,e] s1)]) :
  #[wh,(raiseStmt env #[fI,x] Zac)]:=by
 have hcB:#[aVH,ZaBd]:=by rw[List.contains_cons,u_,Bool.or_true]
 unfold raiseStmt;refine aQa (aQR h (fun v s1 h1=>?_) Zng);obtain⟨e,t,od,rfl,hC,he,hE⟩:eX:=h1;obtain⟨hp,g,d,tk,os⟩:=s1;unfold L2.exOb at he
 repeat (first | with_reducible refine #[UU,he] | with_reducible refine Zadw | (with_reducible refine #[aBg,hC];rw[hcB]) | wp_step)
 exact wpAny_raiseNew_none hh hE
#where
#print PySem
namespace L2
open PySem PySem.Spec PyProof.Rows
noncomputable abbrev fR [1][55]:Zaa:=Za1f
set_option tactic.hygienic true
def RO [6][153]{C:Addr}[425](q:fR K C) :
  #[a1u,mN Zfy = Zac]:=by
 have q:Za1f:=q;unfold PySem.W.excIn at q;split at q
 ·rename_i dd cd sl ho
  split at q
  ·rename_i C' bm k0 k1 k2 k3 n k5 hm hs
   simp only[aXb,aZb,Bool.not_eq_true']at q;obtain⟨⟨⟨⟨⟨rfl,rfl⟩,hdel⟩,ht⟩,hok⟩,hni⟩:=q;obtain⟨nm,bs,mro,ns,qn,hd,sn,sub,ab,col,del⟩:=cd;dsimp only at hm hdel hok hni;subst hm hdel
   have hsl:sl = #[k0,k1,k2,k3,ZaJV,k5]:=by
    obtain⟨l⟩:=sl;simp only at hs;rw[hs]
   subst hsl;exact #[a4n,ZaYj,PySem.W.nsMap_none_of_in X hok hni]
  ·cases q
 ·cases q
abbrev Hf (e C:Addr)[114]:HO:=ZvO #[axP,e,od]
set_option tactic.hygienic false
def JJ [319]{e C t:Addr}{od:Zgk}(q:#[p1,e,#[Gu,od]]):bW P w H h e (Hf e C od):=#[aY,⟨t,q⟩,Zld,fun h1 h2 ⟨t,q⟩ k=>⟨t,k _ q⟩]
abbrev DX [391]:Hp:=#[iC,#[aj8,b=a,H b]]
def uD [208](h:Zz4):DX H a b=H b:=by unfold DX;rw[Zcx]
def Og [38][41]:DX H a a=Zac:=by unfold DX;rw[Zaz]
def aT.untrack [299]{φ:ZaBB}[3](e:#[d6,(ZvO φ)]):#[b0,Zafo,s]:=by
 have ne:#[o5,Zd8,(∀ ψ,o≠ZvO ψ),Zz4]:=fun b o q n z=>by rw[z,e]at q;cases q;exact Zaaa
 have u:#[aYp,Zafo,ZaD] :=
  ⟨#[a7J,q],#[a7J,#[akv,q]],fun b o q n _=>by unfold DX;split<;>first | rfl | exact n,fun b o q _=>#[h2,q],fun b xs q=>by rw[uD (ne b _ q fun ψ z=>nomatch z)];exact q,fun b o u q=>by rw[uD (ne b _ q fun ψ z=>nomatch z)];exact q,fun b ps q=>⟨#[],by rw[uD (ne b _ q fun ψ z=>nomatch z),q];simp⟩⟩
 have hk:qe Zcl X.w Zafo ZaD:=fun b o q=>by
  by_cases hb:b=a
  ·rw[hb,Og]at q;cases q
  ·rw[uD hb]at q
   exact (Zbl b o q).stay (fun c v _ r=>r) (fun c r=>by rw[uD (ne c _ r fun ψ z=>nomatch z)];exact r) fun c xs r=>by rw[uD (ne c _ r fun ψ z=>nomatch z)];exact r
 exact I.un (t':=ZbX) u hk
def bW.has [319][353](x:ZJ0):∃ u,#[m1,u]:=by
 cases o with
 | lst xs=>obtain⟨_,_,_,_,e⟩:=x;exact ZnE
 | tup xs=>obtain⟨_,_,_,u,e,_⟩:=x;exact⟨u,e⟩
 | dK kvs=>obtain⟨_,_,_,_,o,_,_,e,_⟩:=x;exact ZnU
 | dT kvs=>obtain⟨_,_,_,_,o,_,_,e,_⟩:=x;exact ZnU
 | set S n=>obtain⟨o,_,_,_,e,_⟩:=x;exact ZnU
 | ins C dx fs=>obtain⟨_,_,_,e,_⟩:=x;exact ZnE
 | own y=>exact x
 | xd fs=>obtain⟨_,⟨o,_,_,e,_⟩,_⟩:=x;exact ZnU
 | rng lo hi=>obtain⟨_,_,_,e⟩:=x;exact ZnE
 | frz ob u=>obtain⟨e,_⟩:=x;exact⟨ob,e⟩
 | tbl ps=>exact Zay0
 | met f y=>exact Zay0
 | ext φ=>obtain⟨_,e,_⟩:=x;exact e
abbrev iX [58]:Di:=fun outer H s E e s'=>∃ (ea C:Addr)(od:Zgk)(H':Hp)(B:Heap),e=Zai ea/\wF B Zcm ea Zjr od Zc'/\Za0u/\ZaXd/\ZacL/\ZanX /\
 (#[o8,ZdW,Zx8,ZR2])/\(ZaOz)/\E #[aj,C] od H'
def MI {fs:Zei}[15]{h h1 h2 B:Heap}(u:#[aQy,h1])[313](hb:#[o8,ZeK,fs,ZR2])(sl:#[o6,ZAk,ZeK,Zbb,#[yA,ZvQ]])(th:#[o5,ZAk,ZeK,#[R1,ZvQ]]):#[aQy,h2]:=by
 have eq:#[o8,ZeK,fs,ZvQ b=ZMV b]:=fun b o e hf=>by
  obtain⟨o',e'⟩:=hb b o e hf;rw[ZaIU,ZaIV]
 refine#[Gv,#[akJ,(eq b o e hf).trans (ZMW b o e n hf hx)],#[akJ,sl b o hf e n],ZaiX,u.tups,u.frzs,u.tbls]
 by_cases hf:ZAk
 ·exact th b o hf e
 ·rw[eq b o e hf];exact ZaiY b o e hx
def Fz [9][38]{h1 h2 B:Heap}(x:#[tz,h1])[313](hb:ZaEv):#[tz,h2]:=fun a o e =>
 #[acA,0].stay (fun b u hc q=>by
  have:ZR2:=by
   rcases hc with z | z
   ·rw[z];exact hb a o e
   ·exact hb b _ z
  obtain⟨o',e'⟩:=this;rw[ZaIU]at q;rw[<-q]
  exact ZaIV) (ZyJ) ZM8
abbrev Ld [230](E:XK):Zaa:=∀ [17][293][154](ea C t:Addr)[114],Zjf->#[pP,ea,#[Gu,od]]->ZYH->ZB_ ea=Zac->ZaVR->ZlO #[aj,ea] s
section
variable {P:Program}{w:World}{K:PySem.W.Frag}{mg:Zpf}{base:Heap}{N:Zbp}{qual:Str}{sc:Scope}{f:Addr}{cd:Value}{A:Around}{outer:ZcU}{s0:Shared}{H0:Hp}{E:XK}
def dN:Ld (ZMx) E:=by
 intro pins σ H s ea C t od I hx hn hs hE
 let X:Cx:=ZMx
 show Zaod
 have az0:Za4G:=I.ok.frames
 have frS:Zagv:=by unfold mw;rfl
 let B:Heap:=ZaiI ZaD (ea::Zx7)
 have hkb:ZBV:=fun b o q=>#[a4B,q];have inB:#[o6,ZdW,b≠ea,b∉Zx7,#[bt,ZOb]]:=fun b o e ne hf=>#[aOB,#[bC,ZaMa ne hf]];have hl:ZCl B Zar_:=PySem.W.funFrames_hide I.stack fun env he a hf=>aQh _ (Za5q ⟨env,he,hf⟩);refine FF (s:=s) az0 rfl hkb hl hx (ZaiL _ aQi) rfl rfl fun h2 fl ups=>?_;have ltl:Zad':=ZL6
 have h0B:Zap6:=fun b o e hf=>by
  obtain⟨o',e'⟩:=I.base.there b o e (by intro z;exact ZSt);refine⟨o',inB b o' e' Zg8 ?_⟩
  ·have hs':ZOn ea=Zac:=hs
   rw[z,hs']at e;cases e
  ·rw[frS]
   intro z;rcases ZnD with z | z
   ·exact ZA8
   ·exact hf z
 have trB:ZaEv:=fun b o e=>by
  obtain⟨u,q⟩:=#[c4,Zbl].has;exact⟨u,inB b u q (fun z=>by rw[z,hn]at e;cases e) fun z=>by rw[ZajG b z]at e;cases e⟩
 have ax6:ZarW:=ZSu
 have G_:Zar0:=fun b o hf e n=>by
  obtain⟨sl,e1⟩:=ZM1 b o e n hf (ax6 b);refine ZarL
  have e2:o2=o:=by
   have:ZadX:=ho2;rw[e]at this;exact Zs'
  subst e2;obtain⟨sl2,e3⟩:=ZMi;exact ZKr
 refine #[aw4,H,fl,Zbl,hkb,fl.1,ZvT,ZCm];refine #[atl,ZaD,I.base,hkb,fl.1,h0B,?_]
 ·exact G_ b o hf e n
 ·obtain⟨sl,q⟩:=Zaeq
  exact Zld
def cz:ir ZhJ (ZMx) E:=by
 intro pins σ H s e s' I hc;obtain⟨ea,C,od,H',B,rfl,fl,un,hok,os,bare,hsB,trB,hE⟩:dZ:=hc
 let X:Cx:=ZMx
 show Zaod
 have az0:Za4G:=I.ok.frames
 have frS:Zagv:=by unfold mw;rfl
 refine Za1d;have ltl:Zad':=ZL6;have ax6:ZarW:=ZSu
 have h0B:Zap6:=fun b o e hf=>by
  obtain⟨o',e'⟩:=ZaOk;refine ZaSi;rw[frS];intro z;rcases ZnD with z | z
  ·exact ZA8
  ·exact hf z
 have unS:ZaSz:=by
  have u1:ZaSy:=I.base;refine Za3R
  ·refine Za21
   rw[frS];intro z;rcases ZnD with z | z
   ·exact ZA8
   ·exact hf z
  ·obtain⟨sl,e1⟩:=ZaKj
   obtain⟨sl2,e2⟩:=Za2Q;exact ZaEW
  ·obtain⟨o',e'⟩:=ZJD
   exact ZaYD
  ·obtain⟨o',e'⟩:=ZJD
   exact ZaSj
  ·obtain⟨m1,e1⟩:=ZaOU
   obtain⟨m2,e2⟩:=ZaKC;exact ZahK
 have G_:Zar0:=fun b o hf e n=>by
  obtain⟨sl,e1⟩:=ZaKZ;refine ZarL
  have e2:o2=o:=by
   have:ZadX:=ho2;rw[e]at this;exact Zs'
  subst e2;obtain⟨sl2,e3⟩:=ZMi;exact ZKr
 refine Za38;refine ZaUc;obtain⟨sl,q⟩:=Zaeq;exact Zld
#where
def aT.fresh0 [299][3](hx:a∉Zrv)[469]:ZB_ a=Zac:=by
 cases e:ZB_ a with
 | none=>rfl
 | some o =>
  obtain⟨o',q⟩:=ZOo a o e hx;rw[h]at q;cases q
def aT.unheld [299][3][469]:Znl:=by
 cases e:H a with
 | none=>rfl
 | some o =>
  obtain⟨u,q⟩:=(Zbl a o e).has;rw[h]at q;cases q
abbrev Wd [343][55](E:XK):TS:=#[axQ,fun _ H1=>E #[aj,C] Zac H1]
def eC {X:Cx}{C:Addr}{E:XK}{x:Str}{e:Expr}{te:TE}{np h_ pos:Pos}(q:fR X.K C)(hfl:Zafl)(hex:Zaag)(hh:Za4E)(hg:Zee)(hm:ZJL)(he:Zhg)
  (S_:Za71:=by decide) (hs:ZLL:=by rfl) :
  #[aha,ZV5,(Wd te C E)]:=by
 intro pins s σ H D I h;refine iw (RO ZCo q) ZXN;obtain⟨qn,bs,hdct,b_⟩:iw:=a_;obtain⟨sn,sub,ab,c_⟩:iw:=b_;obtain⟨col,dd,k0,zx4⟩:iw:=c_;obtain⟨k1,k2,k3,k5,mN,hC,hN,hni,T⟩:jr:=zx4
 refine wpAny_Raise_call_subT (C:=C) (nm:=nm) (q:=qn) (N:=N) (bs:=bs) (bm:=bm) (hdct:=hdct) (sn:=sn) (sub:=sub) (ab:=ab) (col:=col) (dd:=dd) (k0:=k0) (k1:=k1) (k2:=k2) (k3:=k3) (k5:=k5)
  aZA (mN:=mN) (Za7K aZA.hasBase) hh #[jC,hs] hni (kN I hg hm Zq1 S_)
 rw[hs];refine aXx (aXk Zavf);obtain ⟨v,H1,I1,rv,q1⟩:=zz;refine ZGW;refine mx rfl Zarb (ZrQ _ _ hC) (Za7L ZrQ) (ZakC ZrQ) (fun h' ea hx=>?_);refine aK Za7M fun t hea _ _=>?_;exact hfl Zam σ H1 #[akK,h'] ea C t Zac (ZOq (t':=ZrR) Za7N) hea (Za7O ZCM) (Za7P (#[fs,hex]) ZCM) q1
section
variable {X:Cx}{pins:Zej}{σ:St}{H:Hp}{s:Shared}
def aT.laidN [353]{h':Heap}[70](hp:ZaFp)[279] :
  ZaJR:=by
 have hn:=I.unheld hp
 have ne:#[au_,Zz4]:=fun b u q z=>by rw[z,hp]at q;cases q
 refine I.un ⟨Zbdt,Zbdu,#[BZ,#[ch,#[t4,ne],n]],ZaiG,Zaxh,Zaxi,fun b ps q=>⟨#[],ZaJs⟩⟩ ZHD
 by_cases hb:b=a
 ·subst hb;rw[ac]at e;cases e;exact new
 ·rw[Zfk]at e
  exact #[a0p,Zbl]
#where
inductive V0 [55][415][12]:Zaa
 | mk (ea:Addr)[169](_:vs=[ZYd,Zah g])(_:Zbag)(_:#[aP,ea,Zn2])(_:∀ dx,Zay8->Q ZaK #[ia,ea,ZBf,dx,ZaFW])
set_option tactic.hygienic true
def Qa {X:Cx}{pl:Zq8}{W fI:Addr}{x:Str}{e:Expr}{es:Zbu}{t:TA}{np apos pos:Pos}(hg:Zee)(hm:#[s8,ZX_])(hsp:#[av,ZajE X.K ZX_ ZOj,ZauP])
  (hrd:Za7Q X.K W (Za2 ZOi)=Zad) (hfc:#[a7H,Za7S X.K ZX_ ZUT Zfy]) (ha:Zhh)
  (S_:Za71:=by decide) (he:ZEh:=by rfl) (J_:ZanI (·.1)=false:=by rfl)
  (ht:#[hH,(ZcN ZaOA ZdD [] pos)]=(do
   let ov <-Zhn (Zeg x np) ZaQ
   ZAV
   let (f,first) <-#[ark,Zfy]
   Zaru):=by rfl) :
  PE X (ZcN ZaOA ZdD [] pos) (#[ai_,∃ ea C u,vs=[Zai ea,u]/\H1 ea=Zab Zn2/\ZaVw/\Q ZaK H1]):=by
 intro pins s σ H Q I h;refine #[awk,(kN I hg hm ?_ S_)];refine PySem.W.method_cls Zhm hsp (PySem.W.cls_value Zhm hrd hfc rfl ?_);refine PyProof.Rows.callWith_builtin1 (bZ (ha pos Zam _ σ H _ ZkH h) ZUC) he J_;obtain ⟨vs,H1,I1,r1,ea,C,v,ev,hx,c,q1⟩:=zz;subst ev;obtain⟨u1,u2,rfl,ru1,ru2⟩:bM:=r1.two;cases ru1;refine #[ahI,H1,ZCN,Zn2,ZOr,hx];obtain⟨t0,hx0⟩:=a_;refine PH ZNq c hx0 fun h' t' q k=>?_
 have e:upd H1 ea Zn2=H1:=by funext b;unfold upd;split<;>rename_i z<;>first | (rw[z,hx]) | rfl
 refine az ZaK H1 ?_ rfl q1;have:=I1.write (x:=ea) (e:=ea) (o:=ZaYa) (h':=h') (t':=s1.toks) (by rw[hx];exact True.intro) Zgt (fun b o n z=>k b o n z) Zld (JJ q)
 rwa [e]at this
set_option tactic.hygienic false
def Qp [61]{o value:Expr}{f:Str}{pos pos':Pos}{ta tv:TE}[84] :
  #[a05,(#[vZ,tv,fun y H1=>ta σ H1 fun x H2=>∃ ea C,x=ZYd/\H2 ea=Zab Zn2/\Yx X.K C f/\∀ dx,H2 dx=Zac->#[pl,(upd #[gW,ea,ZBf] dx ZaFX)]])]:=by
 intro pins s σ H D I h;refine ZaTR;obtain ⟨y,H1,I1,ry,q⟩:=zz;refine Za0m;obtain ⟨x,H2,I2,rx,ea,C,ex,hx,c,q2⟩:=zz;subst ex;obtain rfl:ov=Zho ea:=rx;refine #[ahI,H2,Zv1,Zn2,I2.hok,hx];obtain⟨t0,hx0⟩:=a_;refine VC ZNp c hx0 fun h' tk hx1 hns k=>#[fR,σ,?_,q2 ZeY I2.fresh];have hd:=I2.fresh
 have ned:ZeY≠ea:=fun z=>by rw[z,hx]at hd;cases hd
 have ne1:#[lD,ZaBV->(ZaZg)->b≠ea]:=fun b u q n z=>by rw[z,hx]at q;cases q;exact Zaaa
 have cj0:#[Uz,Za7U,b≠ZeY]:=#[Os,aQu (aQo q)]
 have up:#[lD,ZaBV->(ZaZg)->#[a5,#[gW,ea,(Hf ea C #[fI,ZeY])],ZeY,ZaFX,b,u]]:=fun b u q n=>by
  rw[ai (aq q hd),ai (ne1 b u q n)];exact q
 refine I2.un ⟨fun b u q n _ _=>k b u (fun z=>by rw[z,hx]at n;cases n) q,fun b u q n _ _=>⟨u.slots,k b u (fun z=>by rw[z,hx]at n;cases n) q⟩,#[BZ,?_],#[aiF,?_],fun b xs q=>up b _ q (fun ψ z=>nomatch z),fun b u xs q=>up b _ q (fun ψ z=>nomatch z),fun b ps q=>⟨#[],by rw[up b _ q (fun ψ z=>nomatch z)];simp⟩⟩ #[Os,?_]
 ·rw[ai #[t4,cj0],ai (fun z=>by rw[z,hx]at n;cases n)];exact n
 ·by_cases hb:b=ea
  ·exact#[aR,#[aL,hb,hx1]]
  ·exact⟨u,k b u hb q⟩
 ·by_cases hb:b=ZeY
  ·rw[hb,ac]at q
   cases q;rw[hb];refine #[bJ,hns,(fun g=>?_)]
   show pJ (Zajy g [(f,y)]) (#[amu,g=f,_])
   by_cases hgf:g=f
   ·rw[aQd hgf,hgf];simp only[List.lookup,beq_self_eq_true];exact ry
   ·have hb:#[o_,g,f]:=#[vK,hgf]
    rw[aQc hgf];simp only[List.lookup,hb];trivial
  ·rw[Zfk]at q
   by_cases hb2:b=ea
   ·rw[hb2,ac]at q
    cases q;rw[hb2];exact JJ hx1
   ·rw[ai hb2]at q
    refine #[t4,I2.hok].stay (ZaL_) (fun c r=>up c _ r fun ψ z=>nomatch z) fun c xs r=>up c _ r fun ψ z=>nomatch z
    rcases hc with z | z
    ·rw[z];exact hb2
    ·exact ne1 c _ z fun ψ z=>nomatch z
abbrev MD [343][55][415](E:XK):TS:=#[axQ,#[NO,∃ g:Int,v=Ztq/\Zbag/\∀ dx,Zabd->E #[aj,C] ZpY #[d',dx,ZaFW]]]
def NX {X:Cx}{C fI:Addr}{k:Nat}{fd:FuncData}{E:XK}{x f sl gp:Str}{e:Expr}{te:TE}{np h_ pos:Pos}(c:ZaVw)(hfn:#[akH,X.K,ZarQ])
  (G:aY Zcl X.w X.K ZcA Zhq eR k fI fd [sl,gp] (V0 C f)) (hr:ZLa) (hb:je X.K fd [sl,gp] [])
  (hfl:Zafl) (hex:Zaag) (hh:Za4E) (hg:Zee) (hm:ZJL) (he:Zhg)
  (S_:Za71:=by decide) (hs:ZLL:=by rfl) :
  #[aha,ZV5,(MD te C f E)]:=by
 intro pins s σ H D I h;refine iw (Hg ZCo c) ZXN;obtain⟨qn,bs,hdct,b_⟩:iw:=a_;obtain⟨sn,sub,ab,c_⟩:iw:=b_;obtain⟨col,dd,k0,zx4⟩:iw:=c_;obtain⟨k1,k2,k3,k5,mN,hC,hN,hni,T⟩:jr:=zx4;have F:=aZA;have u_:=Za7K F.hasBase;rw[arm_exec_Raise];refine aQa (aXH (Rg (C:=C) (nm:=nm) (q:=qn) (N:=N) (bs:=bs) (bm:=bm) (hdct:=hdct) (sn:=sn) (sub:=sub) (ab:=ab) (col:=col) (dd:=dd) (k0:=k0) (k1:=k1) (k2:=k2) (k3:=k3) (k5:=k5) (newId:=ZCK) u_ hh (aQa (aQR (wpAny_Call_ofName (kN I hg hm ?_ S_)) (fun v s3 h3=>#[li,aXH,h3]) Zng))));rw[hs];unfold callWith;refine aQa (aXo (aXx (aXk (bZ ZAq fun u s1 ⟨v,H1,I1,rv,g,ev,hgb,q1⟩=>aXW (aQa (aXH ?_))))));subst ev;dsimp only;have hC1:=ZrQ _ _ hC;have hN1:=Za7L ZrQ;have T1:=ZakC ZrQ
 have hf1:∃ oI,ZOm fI=Zab oI/\ZakI:=by
  unfold PySem.W.typeIn at hfn;refine #[FU,hfn,fun o ho hc=>?_];exact ⟨o,ZNq _ _ ho,hc⟩
 obtain⟨oI,hfI,hfc⟩:ao:=hf1;obtain⟨hp,gs,d,tk,os⟩:=s1;refine #[qF,wpAny_keeperOf_exc,hC1];refine aQa (GI (rest:=[u]) F T1 hC1 hN1 hni hfI hfc (fun h' ea hx=>?_) Zarb);refine aK Za7M fun t0 hea _ _=>?_;have hfr:=Za7P (#[fs,hex]) ZCM;have Vd:=Za7O ZCM;have I2:#[b0,#[d',ea,Zn2],⟨h',gs,d,tk,os⟩]:=I1.laidN (a:=ea) (o:=ZaYa) (h':=h') (t':=tk) Za7N ZCM (JJ hea);have r2:bK ZaUp ZKO:=#[W4,rfl,rv]
 refine aZP (aX2 (G.run _ X.stack _ _ #[d7,ZKO] ZKO ZaUp (fun v H3=>v=ZaK/\∃ dx,Zabd/\dx≠ea/\H3=#[aVY,(upd #[d',ea,Zn2] ea ZBf)]) E0 (hr.make C [u] [])
  #[aH_,[u]] (hb _ ZKO ZNp rfl) r2 ⟨ea,g,rfl,hgb,ac,fun dx hdx=>⟨rfl,dx,?_,?_,rfl⟩⟩) fun r s' hq'=>?_)
 ·by_cases z:dx=ea
  ·rw[z,ac]at hdx;cases hdx
  ·rwa [Zut]at hdx
 ·intro z;rw[z,ac]at hdx;cases hdx
 cases r with
 | error e=>exact hq'.elim
 | ok fl =>
  cases fl with
  | ret u2 =>
   refine #[a98,fun v H3 I3 rv3 ev a_=>?_];obtain⟨dx,hdx,T_,eH⟩:aK:=a_;subst ev;refine⟨rv3,aQa (aXo (wpAny_point Zns))⟩
   have h3:H3 ea=Zab ZBf:=by rw[eH,#[b',T_],ac]
   refine #[ahI,H3,Zc',ZBf,I3.hok,h3];obtain⟨t3,hx3⟩:=a_;have I4:=I3.untrack (φ:=#[axP,ea,ZpY]) h3
   have e4:DX H3 ea=#[aVY,H1]:=by
    funext b
    unfold DX
    by_cases hb:b=ea
    ·rw[ZjR,hb,#[b',T_],Vd]
    ·rw[Znz,eH]
     by_cases hd:b=dx
     ·rw[hd,ac,ac]
     ·rw[ai hd,Zfk,Zfk,ai hd]
   rw[e4]at I4;exact dE ea t3 ZpY rfl (I4.bk _ _ hC) hx3 (hfl Zam σ _ s' ea C t3 ZpY I4 hx3 #[aM,#[b',T_],Vd] hfr (q1 dx hdx))
  | next=>exact hq'.elim
  | brk=>exact hq'.elim
  | cont=>exact hq'.elim
abbrev UF [199][32][367]:Zaa:=ZYH/\∀ h2,#[WM,h2]->Za7W h2->#[je,#[CO,h2]]
def R9 {X:Cx}{pins:Zej}{σ:St}{H H':Hp}{s s':Shared}{ea C:Addr}{od:Zgk}{B:Heap}(I:Zjf)(fl:ZaIR)(un:Un (mw Zdv) [] H H' ZaD Zc')(hok:ZaG2)(os:ZacL)(bare:ZanX)
  (hsB:#[o8,ZdW,Zx7,ZR2]) (trB:ZaOz):UF X Zam σ H' ea C od B s':=by
 refine#[ne,Zauk]
 ·cases e:H' ea with
  | none=>rfl
  | some o =>
   obtain⟨o',q⟩:=trB ea o e;rw[fl.2.1]at q;cases q
 have G_:#[o6,ZAl,ZdW,Zbb,#[yA,ZvQ]]:=fun b o hf e n=>by
  obtain⟨sl,e1⟩:=un.slot b o e n hf ZaV;refine nU (Za7X hf) ZarK
  have e2:o2=o:=by
   have:ZdV b=Zab o2:=ho2;rw[e]at this;exact Zs'
  subst e2;obtain⟨sl2,e3⟩:=ZMi;exact ZKr
 refine I.call' (ch:=[]) (s':=#[CO,h2]) os ?_ (Fz hok fl.1 fl2.1 trB) bare ZaMm;refine #[awQ,un,hsB];obtain⟨sl,q⟩:=G_ b o hf e (ZajG b hf);exact Zld
abbrev Cx.marked [230](ea:Addr)(oe:Obj):Cx:={ X with A:=X.A.mark (Zab (Zai ea)),calm:=Zay,xe:=Zjw,pn:=(ea,oe)::X.pn }
def aT.marked [61][4][368]{us:ZiB}[3](he:#[pP,ea,oe])(hd:ZBe)(hn:ZYH):Za8i:=by
 refine⟨⟨I.ok.mod,I.ok.kind,I.ok.glob,I.ok.blt,I.ok.above,I.ok.inj,I.ok.has,I.ok.cab,fun z=>(by cases z),I.ok.frames,I.ok.stk,I.ok.exf,I.ok.bs,I.ok.bsz,I.ok.noex,I.ok.exfs,I.ok.funs,I.ok.frf⟩,I.os,I.bare,I.base,I.loc,I.cell,I.free,I.freeC,Zp4,I.hok,I.len⟩;rcases ZfZ (#[ao',ZaWS]) with z | z
 ·subst z
  refine pq he hn Zg8 Zg8 (fun v z=>?_)
  ·refine ZaqG;obtain⟨o,es,ep,ho,hdd,_⟩:eZ:=a_
   have z:ea=ZdT:=z;rw[<-z,he]at ho;cases ho;rw[hd]at hdd;cases hdd
  ·refine #[aWT,I.funs.mem]
   rw[he]at ho;cases ho;exact Zagg
  ·have z:oe.data=ZeT v:=z
   rw[hd]at z;cases z
 ·exact ZlH p z
def aT.unmarked [61][4][368](ok:X.Ok)(I:Za8i):Zjf :=
 #[MB,ok,#[axn,#[fK,p∈ZaWS,aQh _ hp]]]
def SP.unmarked [213][414][368](ok:X.Ok)(h:SP Za8h Zam D f s'):SP X Zam D f s':=by
 cases f with
 | next=>obtain⟨σ',H',I,q⟩:cD:=h;exact Za7Z
 | brk=>obtain⟨σ',H',I,q⟩:cD:=h;exact Za7Z
 | cont=>obtain⟨σ',H',I,q⟩:cD:=h;exact Za7Z
 | ret u=>obtain⟨v,σ',H',I,r,q⟩:eZ:=h;exact #[ah0,(Za7Y ok)]
abbrev Yd [230](hdl:ZYa)(th:ZafT):Zaa:=∀ [17][293](D:pG)[367][139],Za34->#[WM,h]->Za7W h->th Zjr od D σ H ->
 #[xc,(handleBy #[aj,ea] ZaQ hdl),Zav7,#[CO,h]]
def ic {X:Cx}{y:Str}{C1:Addr}{b0:Stmt}{ak6:Zik}{t1:TS}{th:ZafT}{np pos:Pos}{rest:ZYa}(hg:Gl X y)(hm:ZcA y=Zab Zayt)(hs:∀ ea oe,GJ Za8h ZaHt t1)(hr:Yd X ZdX th)
  (S_:#[o_,y,#[er,Za70]]:=by decide):Yd X #[sX,.ExceptHandler (Zab (Zeg y np)) Zac ZaHt pos] (fun cls od D σ H=>∃ b,Za72 X.K cls Zayt=Zab b/\#[dn,b,t1 D σ H,th cls od D σ H]):=by
 intro pins σ H D ea C od B s' h ld fl ups ht;revert ht;intro a_;obtain⟨b,hb,ht⟩:ao:=a_;have I:=ld.2 h fl ups;refine bB fl.obj fun ob us hob cx0 hobd cj9=>?_;have Im:=I.marked (ea:=ea) hob cj9 ld.1
 have LT:#[aTL,typeOf,ea,Zjr]:=by
  rw[<-cx0];exact (Za8f hob).andThen .now
 refine wpAny_handleBy_cons (codeAny_handlers_test (kN (X:=Za8g ea ob) Im hg hm ?_ S_)) (by intro z;cases z);refine (PySem.W.exm_one (K:=X.K) Zhm LT hb).here ?_
 cases b with
 | true =>
  rw[Zaz]at ht;refine codeAny_handlers_suite ?_;refine FE fl fun h6 fl6 bv9=>?_;refine bB fl6.obj fun oe us6 hoe hoec hoed cj7=>?_;have I6:=(ld.2 h6 fl6 (ups.trans bv9)).marked (ea:=ea) hoe cj7 ld.1;exact aQR (hs ea oe Zam _ σ H D I6 ht) (fun f s2 hq=>hq.unmarked I.ok) #[iF,ZakL]
 | false =>
  rw[ZdQ]at ht;exact hr Zam σ H D ea C od B s' h ld fl ups ht
def VP [61]:Yd X [] (fun _ _ _ _ _=>ZiT):=fun _ _ _ _ _ _ _ _ _ _ _ _ _ h=>ZM9
def eE.okX {P:Program}{w:World}{K:PySem.W.Frag}{mg:Zpf}{base:Heap}{x qual:Str}{st:Stmt}{f:Addr}{fd:FuncData}{N ps:Zbp}{k:Nat}{sp:Sp}(F:ZA1)(S:Zag1)(len:ZO1)
  (P_:∀ (i_:Value)(A:Around)(outer:ZcU)(s:Shared)(H:Hp)(vs:Zbs)(Q:VK)(E:XK),ZaK9->Zjz ->
   #[aYQ,i_]):ZaG1:=by
 obtain⟨oc,od,kV,doc,pm,an,i_,ct,osl,rfl,lk,Z_⟩:fT:=F.ex;exact #[ah5,Za4g]
abbrev PJ [412]:Zaa:=∀ (out:Str)(m:Nat)[2](Q:VK),out.length<=ZbE*m->m+Zde<=100->Zjf->t σ H (ZaMp)->#[RB,(ZOt out (Za8j es ZaQ))]
def n8 [61]:PJ X [] rD:=by
 intro out m pins s σ H Q ho hm I h;refine Za8k (#[zx,(Zag out),(h out)]) ?_;exact #[aZM,ho,(#[a8m,m<=100])]
abbrev tJ [343](t:TA):TA:=#[ai7,∃ y:Str,x=Zy7/\ZauN/\t σ H1 Q]
def c6 [61]{e:Expr}[451]{te:TE}{t:TA}[108](h:PJ X es t):PJ X ZdD (tJ te t):=by
 intro out m pins s σ H Q ho hm I hq
 show #[kP,(ZOt out (#[hH,e]::Za8j es ZaQ))]
 refine #[aBn,#[dj,he,hq],Zg3];obtain ⟨x,H1,I1,rx,y,ex,hy,q1⟩:=zz;subst ex;obtain⟨tk,rfl⟩:=rx
 have hl:#[bf,ZaGk,ZbE*ZnB]:=#[gJ,ZakM]
 rw[aQB]at hm;refine#[cu,#[aZM,hl,#[tA,m+1<=100]]];exact h ZaGk ZnB Zam s1 σ H1 Q hl Zaf I1 q1
abbrev ZZ (t:TA):TE:=#[ai4,t,ZaMp]
def jX [61]{e1 e2:Expr}[451]{t:TA}[156](h:PJ X Zahk t)(hn:#[bf,Zahk,100]:=by decide):#[ad3,Zahk,(ZZ t)]:=by
 intro pins s σ H Q I hq;refine ZZo;exact h Zht 0 Zam s σ H Q (#[aul,0<=_]) (by simpa using hn) I hq
abbrev ZY [343]:TE:=#[aQT,ZaUT]
def mD [61][192][156][108]:#[a2M,ZY]:=by
 intro pins s σ H Q I h;refine ZbdQ;obtain ⟨x,H1,I1,rx,i,ex,hi,q⟩:=zz;subst ex;obtain⟨tk,rfl⟩:=rx
 have hd:ZLf:=by
  by_cases h0:Zajw
  ·rw[h0];decide
  ·exact Za87
 refine #[au1,(az (Zag (ZlU i)) H1 ZYg Za' (q _ ?_))];have:=ZahV
 show Zaa5
 rw[PySem.ofString_length]
 lia
#print L2
namespace Wz
open PySem L2
abbrev aZ [5](CX:Di)[447][365]:Zaa :=
 #[Ou,Zaqt/\Rs K C m f/\#[Fd,ps]]
abbrev dQ [5][191][365]:Zaa :=
 #[bcg,#[hK,k,ps,sp]]
section
variable {X:Cx}{CX:Di}{k:Nat}{C:Addr}{ps:Zbp}{sp:Sp}{E:XK}{m x:Str}{p pos apos:Pos}{e o:Expr}{es:Zbu}{ta:TE}{t:TA}
def dJ {pl:Zq8}(M:Za0d)(he:ZAU)(c:Zrf)(hr:ZjV)(hx:Ziy)(ha:Zhh)
  (hst:ZEh:=by rfl) (J_:ZanI (·.1)=false:=by rfl)
  (ht:ZaIH=(do
   let ov <-ZxT
   ZAV
   let (f,first) <-Zarl
   Zaru):=by rfl) :
  PE X (ZcN ZBN ZdD [] pos) (MB C m sp [] E ta t):=by
 obtain⟨f,fd,G,hm,hb⟩:bM:=M;exact SO he c hm G hr hb Zan hx ha hst J_ ht
def tj {pl:Zq8}(M:Za0d)(he:ZAU)(c:Zrf)(hr:ZjV)(hx:Ziy)
  (ht:ZaIG=(do
   let ov <-ZxT
   ZAV
   let (f,first) <-Zarl
   ZaG4):=by rfl) :
  PE X (ZcN ZBN [] [] pos) (MB C m sp [] E ta rD):=by
 obtain⟨f,fd,G,hm,hb⟩:bM:=M;exact Qj he c hm G hr hb Zan hx ht
def lK (M:#[a0L,dQ])(hr:ZjV)(hg:Zee)(hx:ir Zazt X E)(ha:Zhh)
  (S_:Za71:=by decide) (he:ZEh:=by rfl) (J_:ZanI (·.1)=false:=by rfl) :
  #[xl,(Q3 sp [] E t)]:=by
 obtain⟨f,fd,G,hm,hk,hb⟩:bB:=M;exact #[a3I,hx]
#where
inductive bc where
 | come [169] | go [169] | exch [183]
 deriving DecidableEq
abbrev jC:bc->HO
 | Zja=>ZcJ Zve
 | ZnF=>ZcJ [Zag Zhu,Zah g]
 | ZoB=>ZcJ #[xF,Zc_,a,b]
structure eG where
 worn:Zd4
 hold:Zd4
 circ:Zip
 deeds:Zcj
abbrev eQ:Zei->Zip->Ziu
 | a::as,Zcz=>ZaUC::eQ as xs
 | _,_=>[]
abbrev vF [201]:Ziu:=Zwb fun k=>(#[kE,k],ZeU Zad)
structure HA where
 dx:Addr
 w:Addr
 h:Addr
 c:Addr
 d:Addr
 cs:Zei
abbrev HA.fp (A:HA):Zei:=A.w::A.h::A.c::A.d::ZlV
abbrev bQ (A:HA):Zpa:=cw Zki #[aj,A.d] (cw Zkj #[aj,A.c] (cw ZlW #[aj,A.h] #[aaL,Zov,A.w]))
def s1:#[aaM,ZlW]:=Zao
def s2:#[aaM,Zkj]:=Zao
def s3:#[aaM,Zki]:=Zao
def s4:#[aCa,Zkj]:=Zao
def s5:#[aCa,Zki]:=Zao
def s6:#[jt,Zkj,Zki]:=Zao
def Nl (A:HA):#[Tt,Zov,A.w]:=by
 unfold bQ;rw[aH,ZYl,aH,ZYk,aH,ZYj,aH,Zaz]
def W1 (A:HA):#[Tt,ZlW,A.h]:=by
 unfold bQ;rw[aH,ZYn,aH,ZYm,aH,Zaz]
def U9 (A:HA):#[Tt,Zkj,A.c]:=by
 unfold bQ;rw[aH,ZYo,aH,Zaz]
def Va (A:HA):#[Tt,Zki,A.d]:=by
 unfold bQ;rw[aH,Zaz]
def TJ (A:HA){m:Str}(h1:Zaau)(h2:Zaat)(h3:Zaas)(h4:Zaar):ZaE3:=by
 unfold bQ;rw[aH,aQc h4,aH,aQc h3,aH,Zuo,aH,Zun];rfl
def Jr (A:HA){m:Str}(h:Zaau/\Zaat/\Zaas/\Zaar):ZaE3:=TJ A h.1 ZIk h.2.2.1 h.2.2.2
abbrev jL [32][399][172]:Zaa:=∃ as:Zei,#[s1,ZEl]/\ZaE9
structure bA [55][32][26]:Zaa where
 ob:#[fd,(Zfr C ZcW ZTs)]
 nd:A.fp.Nodup
 w:#[aP,A.w,ZtK]
 h:#[aP,A.h,Zaz6]
 c:#[aP,A.c,#[TD,ZlV]]
 cs:Za0 (#[FF,x,ZarX]) ZlV ZdY
 d:jL H A.d ZlA
abbrev Kp [442][320]:Zaa:=#[o8,Zd8,fp,Zg5]
def Kp.of_same [119][15][111]:ZabA:=ZaxR
def Kp.trans {fp fp':Zei}[268](a:ZaEw)(b:Kp fp' H1 H2)(h:∀ x∈fp',x∈fp\/#[a_,x]):ZaHU:=fun x o e n =>
 b x o Zav9 fun z=>(h x z).elim n fun y=>by rw[e]at y;cases y
def Bo [15]{d:Addr}[173](r:jL H d ds)[111]:jL H' d ds:=by
 obtain⟨as,h,p⟩:=r;exact ZaRH
def bA.mono [198][112][257][111]:ZaeD :=
 ⟨ZIS,x.nd,s _ _ x.w,ZaA8,s _ _ x.c,Zj4 x.cs #[akO,ZUQ],Bo x.d s⟩
def bA.kept [198][112][119][257](k:ZabA)(hp:p∉fp)(hd:#[Ov,b∉fp])[269]:ZaeD:=by
 have m:#[Ov,ZaKH]:=#[Ow,k b o e #[c1,hd]];refine⟨k _ _ ZiX hp,x.nd,m _ ZHr _ x.w,m _ ZHr _ x.h,m _ ZHr _ x.c,?_,?_⟩
 ·have:∀ [452][234],(#[Ox,ZZt])->ZarY->ZaRK:=by
   intro cs ci hc hp
   induction hp with
   | nil=>exact Zan
   | cons e _ ih=>exact ZaB (m _ (hc _ aQi) _ e) (ih #[cX,hc b ZAi])
  exact ZbR _ _ #[xf,by simp[HA.fp,hb]] x.cs
 ·refine ao x.d fun as h hp=>?_
  refine ⟨as,(m _ ZHr _ h),#[j5,hp,#[akO,?_]]⟩
  cases q with
  | come g=>exact Zask
  | go g=>exact Zask
  | exch a b=>exact Zask
abbrev kf [424]:Zd4:=l.filter fun p=>#[lJ,p.1≠g]
def OJ [424]:Bq (dk l) Ztk=dk (kf l g):=by
 unfold Bq dk kf;rw[List.filter_map]
 congr 1
 apply List.filter_congr
 intro p _;simp[Function.comp]
def pP [14](g h:Int):ZaZ (kf l g) h=#[aj8,h=g,Zaea]:=by
 induction l with
 | nil=>simp[kf,look]
 | cons p r ih =>
  unfold kf at ih ⊢;rw[aXG]
  by_cases e:Zt1
  ·rw[aQc (ZNL),ih]
   by_cases hh:h=g
   ·simp[hh]
   ·have:ZaJ2:=#[aH,hh (Zakm e)]
    simp[hh,look,this]
  ·rw[aQd (ZNL)]
   show ZaLr
   rw[ih]
   by_cases hh:h=g
   ·subst hh;simp[e]
   ·simp[hh,look]
def yO [170]{g h:Int}:h∈aU (kf l g)↔h∈aU l/\h≠g:=by
 rw[<-dO,pP,<-dO]
 by_cases e:h=g<;>simp[e]
inductive Fc where
 | done | already | masked | same | met | noguest [169]
 deriving DecidableEq
abbrev u9:Zip->Int->Zbq
 | [],_=>[]
 | x::r,g=>#[fL,x.1,g,x.2,u9 r g]
abbrev qw [165][183]:Bool:=#[lJ,b∈u9 c a]
abbrev rn [401]:Zbq:=if ZIz then ks else ks++[b]
abbrev eV:Zip->Int->Int->Zip
 | [],a,b=>[(a,[b])]
 | x::r,a,b=>#[fL,x.1,a,(x.1,rn x.2 b)::r,x::eV r a b]
abbrev bo [181]:bc->Fc
 | Zja=>#[VB,Zaxk,ZlX]
 | ZnF=>match Zq' with | none=>Zz6 | ZVJ=>#[fL,m,g,Zbe,Zwq]
 | ZoB=>match ZSC with
  | none=>ZYT
  | Zuk=>match ZSD with
   | none=>ZZs
   | Zuk=>#[aZU,ZaGH]
abbrev after [181]:bc->eG
 | Zja=>#[Vk,put ZaI g g,put Zdf g g,ZdY,Zja]
 | ZnF=>#[Vk,kf ZaI g,kf Zdf g,ZdY,ZnF]
 | ZoB=>Zasb
abbrev names:bc->Zbq
 | Zja=>[g]
 | ZnF=>[g]
 | ZoB=>ZBg
abbrev bP [169]:Zaa:=Zbag
structure GP [181]:Zaa where
 w:ZlY<ZbE
 h:ZCP<ZbE
 c:ZrS<ZbE
 k:#[Oy,#[bc,x.2]<ZbE]
 d:Zwr<ZbE
structure HX where
 C:Addr
 cW:Addr
 cA:Addr
 cM:Addr
 cS:Addr
 cT:Addr
 cN:Addr
 fN:Addr
abbrev nN [426](E:XK)[32]:Fc->Zaa
 | Zbe=>False
 | ZlX=>#[jl,ZdZ]
 | Zwq=>#[jl,Zfz]
 | Zow=>#[jl,Zd0]
 | ZlC=>#[jl,Zga]
 | Zz6=>ZaZh
abbrev Tr [320]:Zaa:=#[tM,∃ o',#[pu,o']]
def Tr.refl [38]:Tr H H:=fun _ o e=>ZnU
def Tr.trans [268](a:ZJH)(b:Tr H1 H2):Tr H H2:=fun x o e=>let ⟨o',e'⟩:=a x o e;b x o' e'
def Tr.of_same [15][111]:ZuH:=#[dy,#[h2,s b o e]]
def Tr.upd {H H1:Hp}(a:ZJH)(x:Addr)(u:HO):Tr H #[d',x,u]:=fun b o e=>by
 by_cases h:b=x
 ·exact⟨u,#[bm,h,ac]⟩
 ·obtain⟨o',e'⟩:=a b o e
  exact#[ug,o',ai h,e']
def Tr.free [15](a:ZuH)[46](h:Zpm):Zbb:=by
 cases e:H b with
 | none=>rfl
 | some o=>obtain⟨o',e'⟩:=a b o e;rw[h]at e';cases e'
abbrev D6 [55][32][157](A:HA)(w_:eG)(H':Hp):Zaa:=∃ A':HA,bA C H' p A' w_/\Kp ZlZ H H'/\(∀ b∈A'.fp,b∈ZlZ\/Zbb)/\ZuH
abbrev E9 [426][32][26][470](Q:VK)(E:XK):Zaa :=
 #[b5,ZxE,ZaT',#[t',(bo st d)]]
inductive QP [402]:Zaa
 | mk (p dx:Addr)[64](_:#[fd,ZAJ])(_:∀ (A:HA)(H':Hp),bA C H' p A Zls->#[agf,p]->(#[Ov,Zbb])->Zjq)
inductive QH [426][56]:Zaa
 | mk [346][375](_:ZdG)(_:#[aic,Zjb])
inductive KQ [426][56]:Zaa
 | mk [118][375](_:bP a)(_:bP b)(_:#[aic,ZAT])
inductive Gs [402]:Zaa
 | mk [26](g m:Int)(_:vs=[ZcF,Ztq,Zah m])[202](_:ZlY<Zbz)(_:ZCP<Zbz)(_:Q ZaK #[ia,A.w,#[bT,(put ZaI g m)],A.h,#[bT,(put Zdf m g)]])
inductive x9 [426][56]:Zaa
 | mk (p:Addr) (A:HA) (st:eG) (g:Int) (h_0:ZaNN) (h_1:ZaeF) (h_2:ZdG) (h_3:match Zq' with
 | ZVJ=>#[jP,m]
 | none=>#[t',ZazW]):x9 c vs H Q E
inductive IU [402]:Zaa
 | mk [26][64][202](_:ZabT)(_:#[jZ,ZUf])
inductive Uf [402]:Zaa
 | mk [118][202](_:#[jk,Q (.bl (qw ZdY a b)) H'])
inductive T9 [402]:Zaa
 | mk [118][202](_:ZaDD)(_:(#[Oy,ZaFH]))(_:#[gK,D6 C H p A { st with circ:=#[U0,eV] } H'->Zjq])
structure HT [410][426]:Zaa where
 cl:Jn K c.C
 nW:gf K c.C Zov
 nH:gf K c.C ZlW
 nC:gf K c.C Zkj
 nD:gf K c.C Zki
 mC:#[bW,ZOz,c.C]
 eA:fR K ZdZ
 eM:fR K Zfz
 eS:fR K Zd0
 eT:fR K Zga
 mA:#[bW,ZOA,ZdZ]
 mM:#[bW,ZOB,Zfz]
 mS:#[bW,ZCQ,Zd0]
 mT:#[bW,ZOC,Zga]
 mN:#[bW,Zws,Zgb]
 mW:#[bW,Za8n,c.cW]
 eN:vB K Zgb Zwt=Zad
 gN:Yx K Zgb Ze1
 tN:#[akH,K,#[aj,Zwt]]
 wS:#[aV1,c.cW]
 wR:#[a7R,c.cW]
 wI:#[a7T,c.cW]
structure HM [1][426]:Zaa where
 aa:#[a75,ZdZ,ZdZ]
 ma:#[a74,Zfz,ZdZ]
 mm:#[a75,Zfz,Zfz]
 sa:#[a74,Zd0,ZdZ]
 sm:#[a74,Zd0,Zfz]
 ss:#[a75,Zd0,Zd0]
 ta:#[a79,ZdZ]
 tm:#[a79,Zfz]
 ts:#[a79,Zd0]
 tt:#[a75,Zga,Zga]
 na:#[a78,ZdZ]
 nm:#[a78,Zfz]
 ns:#[a78,Zd0]
 nt:#[a78,Zga]
 nn:#[a75,Zgb,Zgb]
abbrev Bb [5][426]:Zaa:=#[a8o,aY P w K mg ZaS eR 1 Zwt fd Zmj ZaVf/\#[Fd,Zmj]]
def P3 {X:Cx}{c:HX}{E:XK}{e:Expr}{te:TE}{np h_ pos:Pos}(N:#[Mu,Bb,c])(U:ZaQd)(hr:ZK5)(hfl:Zafl)(hex:Zaag)(hh:Za4E)(hg:Gl X Zws)(he:Zhg)
  (hs:ZLL:=by rfl):#[aha,(Zeg Zws np),(MD te Zgb Ze1 E)]:=by
 obtain⟨fd,G,hb⟩:ao:=N;exact NX U.eN U.tN G hr hb hfl hex hh hg U.mN he ZaG hs
section
variable {C:Addr}{H:Hp}{p t:Addr}{A:HA}{st:eG}
structure Lc (A:HA):Zaa where
 wh:A.w≠A.h
 wc:A.w≠A.c
 wd:A.w≠A.d
 hc:A.h≠A.c
 hd:A.h≠A.d
 cd:A.c≠A.d
 w:A.w∉ZlV
 h:A.h∉ZlV
 c:A.c∉ZlV
 d:A.d∉ZlV
 cs:A.cs.Nodup
def bA.apart [105]:Lc A:=by
 have:=S.nd;simp only[HA.fp,aQ0,aQm,not_or]at this;obtain⟨a_,b_,c_,d1,e⟩:sy:=this;obtain⟨a1,a2,a3,a4⟩:iu:=a_;obtain⟨b1,b2,b3⟩:eJ:=b_;obtain⟨c1,c2⟩:=c_;exact⟨a1,a2,a3,b1,b2,c1,a4,b3,c2,d1,e⟩
def bA.pne [105]:p∉ZlZ:=by
 have n1:p≠A.w:=dU S.ob S.w (by intro z;cases z);have n2:p≠A.h:=dU S.ob S.h (by intro z;cases z);have n3:p≠A.c:=dU S.ob S.c (by intro z;cases z);obtain⟨as,hd,_⟩:=S.d;have n4:p≠A.d:=dU S.ob hd (by intro z;cases z)
 have n5:p∉ZlV:=fun z=>by
  obtain⟨i,hi,e⟩:=aX1 z;obtain⟨b,_,q⟩:=Zaqr;rw[e,S.ob]at q;cases q
 simp[HA.fp,n1,n2,n3,n4,n5]
def wL [15]:∀ [35],ZarY->(#[Ox,ZaKH])->ZaRK:=by
 intro cs ci hp k
 induction hp with
 | nil=>exact Zan
 | cons e _ ih=>exact ZaB (k _ aQi _ e) (ih #[cX,k b ZAi])
def kW (x:bc):∃ xs,jC x=ZcJ xs:=by cases x<;>exact Za'
def bA.tup [105][46][31][190]:b∉ZlZ:=by
 have n1:b≠A.w:=dU e S.w (by intro z;cases z);have n2:b≠A.h:=dU e S.h (by intro z;cases z);have n3:b≠A.c:=dU e S.c (by intro z;cases z);obtain⟨as,hd,_⟩:=S.d;have n4:b≠A.d:=dU e hd (by intro z;cases z)
 have n5:ZazI:=fun z=>by
  obtain⟨i,hi,e'⟩:=aX1 z;obtain⟨y,_,q⟩:=Zaqr;rw[e',e]at q;cases q
 simp[HA.fp,n1,n2,n3,n4,n5]
def bA.tracked [105][46](h:ZZt):ZzI:=by
 simp only[HA.fp,aQm]at h;rcases h with rfl | rfl | rfl | rfl | h
 ·exact#[aR,S.w]
 ·exact#[aR,S.h]
 ·exact#[aR,S.c]
 ·obtain⟨as,hd,_⟩:=S.d;exact#[aR,hd]
 ·obtain⟨i,hi,rfl⟩:=aX1 h
  obtain⟨y,_,q⟩:=Zaqr;exact Zld
def Lc.fp {A:HA}(a:Lc A):A.fp.Nodup:=by
 simp only[HA.fp,aQ0,aQm,not_or];exact pq ⟨a.wh,a.wc,a.wd,a.w⟩ ⟨a.hc,a.hd,a.h⟩ ⟨a.cd,a.c⟩ a.d a.cs
def sH [119][353](h:a∈fp):ZaHV:=fun b u e n=>by
 rw[ai (fun z:b=a=>#[g4,n,z,h])];exact e
def Pe [119][353](h:Znl):ZaHV:=fun b u e n=>by
 rw[ZWc];exact e
def Kp.on [119]{H1 H2:Hp}(a:ZaEw)(b:Kp fp H1 H2):ZaHU:=ZaZi
def JT [427]:bA C #[bA,A.w,#[bT,w']] p A { st with worn:=w' }:=by
 have a:=S.apart;have np:=S.pne;simp only[HA.fp,aQm,not_or]at np;refine#[a03,np.1,ac,#[at7,a.wh,S.h],a.wc,A.w,a.w];refine Zad6;refine #[aXp,a.wd];obtain⟨xs,ex⟩:=kW x;rw[ZaD4];exact e
def JS [427]:bA C #[bA,A.h,#[bT,w']] p A { st with hold:=w' }:=by
 have a:=S.apart;have np:=S.pne;simp only[HA.fp,aQm,not_or]at np;refine#[a03,np.2.1,#[ch,a.wh,S.w],ac,a.hc,A.h,a.h];refine Zad6;refine #[aXp,a.hd];obtain⟨xs,ex⟩:=kW x;rw[ZaD4];exact e
def Ep [105][340](hd:#[aP,A.d,ZEl])(hp:ZaPl)(x:bc)(ht:#[a_,t]) :
  bA C ZaZ8 p A { st with deeds:=ZlA++[x] }:=by
 have a:=S.apart;have np:=S.pne;simp only[HA.fp,aQm,not_or]at np;have n:#[tM,b≠t]:=#[axm,ht]
 have e1:#[o7,Zd8,A.d,#[bt,ZaZ8]]:=fun b o e h=>#[zM,ai h,#[c4,n],e]
 have td:t≠A.d:=fun z=>by rw[z,hd]at ht;cases ht
 refine⟨e1 _ _ ZcB np.2.2.2.1,S.nd,e1 _ _ S.w a.wd,e1 _ _ S.h a.hd,e1 _ _ S.c a.cd,#[awh,e1 b o e #[bC,#[fP,a.d,z,hb]]],as++[t],ZaGf,?_⟩;refine #[aIF,hp,ZXO,#[qn,td]];obtain⟨xs,ex⟩:=kW y;exact e1 b _ e #[bC,Zawe]
def Px:A.w∈ZlZ:=ZCR
def Pw:A.h∈ZlZ:=ZCR
def TU:A.c∈ZlZ:=ZCR
def TW:A.d∈ZlZ:=ZCR
#where
def Eg [327][453](h:ZxE):ZaT':=by
 unfold E9 at k;rwa [Zcy]at k
def sx [327]{o:Fc}[453](h:bo st d=o)(ho:#[mR,o]):#[t',o]:=by
 unfold E9 at k;rwa [h,aQc ho]at k
def xi:∀ [234][183],#[bf,ZuZ,ZOD+1]
 | [],_,_=>Za8q
 | x::r,a,b=>by
  unfold eV;split
  ·simp
  ·have:=xi r a b;simp;lia
def Pn [401]:#[bf,Zadu,Zwu+1]:=by unfold rn;split<;>simp
def Bh [235]{a b:Int}[71](h:#[akQ,#[bf,x.2,n]])(hn:0<n+1):#[fA,ZaKm,#[bf,x.2,n+1]]:=by
 induction ci with
 | nil=>intro x hx;simp[eV]at hx;subst hx;simp
 | cons y r ih =>
  intro x hx;unfold eV at hx;split at hx
  ·rcases ZuU with z | z
   ·subst z;have:=Pn y.2 b;have:=h y aQi;simp only;lia
   ·have:=h x ZAh;lia
  ·rcases ZuU with z | z
   ·subst z;have:=Zad4;lia
   ·exact ih (Zapf) x z
def Me [401]:k7 (vF ks) ZHw (ZeU Zad)=vF Zadu:=by
 unfold k7 rn vF
 have e:((Zwb fun k=>(#[VA,k],ZeU Zad)).any #[yf,ZHw])=#[lJ,ZIz]:=by
  rw[List.any_map]
  induction ks with
  | nil=>rfl
  | cons x r ih=>rw[aXS,ih];by_cases h:x=b<;>simp[h,eq_comm]
 rw[e]
 by_cases h:ZIz
 ·rw[aQd (aQe h),Zcy,aQP]
  apply aXv
  intro k _;simp only[Function.comp];split<;>rfl
 ·rw[Zazn,Zcx,aQt]
  rfl
def GF [401]:#[fY,(gQ (vF ks) ZHw)]=#[lJ,ZIz]:=by
 rw[<-tZ];unfold vF;rw[List.any_map]
 induction ks with
 | nil=>rfl
 | cons x r ih=>rw[aXS,ih];by_cases h:x=b<;>simp[h,eq_comm]
section
variable {H:Hp}
noncomputable abbrev Yr [32][452][234]:Zaa:=ZarY
def ue:∀ [35](a:Int),Yr H cs ci ->
  (gQ Zvs ZxP=Zac/\u9 ci a=[]/\∀ b,eV ci a b=ci++[(a,[b])]) \/
  ∃ ad,ad∈cs/\gQ Zvs ZxP=#[bv,ad]/\#[aP,ad,#[h0,ZKV]] /\
   ∀ b (H':Hp),Za8r->(∀ x∈cs,x≠ad->∀ o,Zadm->#[bB,H',o])->#[bO,ad,#[h0,(rn ZKV b)]]->Yr H' cs ZuZ/\eQ cs ZuZ=eQ cs ci
 | _,_,a,Zan=>Zal #[aY,rfl,rfl,#[iC,rfl]]
 | ZA5,x::ci,a,ZaOh=>by
  by_cases h:x.1=a
  ·refine #[a0H,c,aQi,(#[aMs,j7,#[nw,h]]),(by simp only[u9,Zcy];exact e)]
   simp only[u9,Zcy]at k';simp only[eV,Zcy];refine#[e_,ZaB k' (wL r fun y hy o z=>k y ZRG (#[bk,#[fP,ZavM,q,hy]]) o z)]
  ·have hk:gQ (eQ (c::cs) (x::ci)) ZxP=gQ (eQ cs ci) ZxP:=#[aMs,jh,ZaRp]
   have hc:u9 (x::ci) a=Zaee:=by simp only[u9,Zcx]
   rcases ue a r with ⟨h1,h2,h3⟩ | ⟨ad,h1,h2,h3,h4⟩
   ·exact Zal #[aY,#[aM,hk,h1],#[aM,hc,h2],#[iC,by simp only[eV,Zcx,h3 b,aZi]]]
   ·refine #[a0H,ad,#[dh,h1],#[aM,hk,h2],#[aM,hc,h3]]
    rw[hc]at k';obtain⟨n1,n2⟩:=Zab2;obtain⟨q1,q2⟩:=h4 b H' n2 (#[RH,k]) k';simp only[eV,Zcx];refine#[cu,ZaB (k c aQi #[bC,#[g4,n1,z,h1]] _ e) q1]
    show _::eQ cs ZuZ=_::Zaem
    rw[q2]
def vz:∀ [35](a:Int)[201][298],#[a82,eQ ZaHM ZaVM=Zaem++[ZavQ]]
 | [],[],_,_,_,_=>rfl
 | ZA5,x::ci,a,ks,l,h=>by
  show _::eQ (cs++[l]) ZaVM=_
  rw[vz a ks l ZCi];rfl
def uq:∀ [35],#[a82,#[dM,Zvs,ZOD]]
 | [],[],_=>rfl
 | ZA5,x::ci,h=>by show #[bc,Zvs]+1=_;rw[uq (ZCh)];rfl
#where
#print Wz
namespace L2
open PySem PySem.Spec PyProof.Rows
abbrev Wb (td ty tx:TE):TE:=fun σ H Q=>td σ H fun x H1=>∃ a,Zlg/\Yb H1 a/\ty σ H1 fun y H2=>tx σ H2 fun z H3=>∃ kvs k,ZavN/\ZGz/\ZyU /\
 (∀ v,ZagD->Q v H3)/\(Zaf'->Q z Zawa)
def Qi [61]{o e f:Expr}{apos h_:Pos}{td ty tx:TE}[325](hf:ZaNw)(m:#[a14,Za8s]):#[aP6,Za8s,Wb]:=by
 intro pins s σ H Q I h;refine #[Mt,PySem.F.slot_dict_setdefault,PySem.F.type_dict_setdefault,ZKw];obtain ⟨x,H1,I1,rx,a,ex,d,q1⟩:=zz;subst ex;obtain rfl:ZRv:=rx;refine Zatu;refine Zafn;rw[m.trees]
 refine aXy rfl (aXx (aXk (bZ ZacH fun iv s2 ZaIO =>
  #[a2',⟨z,H3,I3,rz,kvs,k,ea,ey,v_,q3,q4⟩])))
 subst ey;refine eW (Lr I3.hok ea) fun hz hd vs rel dd=>?_
 refine call_meetsIn PySem.F.slot_dict_setdefault dd.typeIs PySem.F.entry_dict_setdefault (PySem.F.args_dict_setdefault_3 _ _ _) (kt_meets_setdefault Zxb a ZtQ hd fv)
  (cY vs dd #[eW,Zaj5,hz] (fun v' hv'=>?_) (fun hn h' dd' hs=>?_))
 ·cases l:gQ kvs k with
  | none=>have:=Zzl;rw[l,hv']at this;exact this.elim
  | some v =>
   have:=Zzl;rw[l,hv']at this;exact az v H3 (I3.tok _) ZbR (q3 v l)
 ·cases l:gQ kvs k with
  | some v=>have:=Zzl;rw[l,hn]at this;exact this.elim
  | none =>
   have he:ZTv:=let ⟨q,_,_,hq,_⟩:=dd';ZAY;exact az z _ (wN I3 (by rw[ea];exact True.intro) hs he (Fp (#[atj,z]) hd (Zaj4 k rz) dd')) rz (q4 l)
section
variable {X:Cx}
inductive S8 [11]:Zaa
 | mk (_:xs=[])(_:#[Sz,ZLR])
def MW:#[ie,ZiS,S8]:=by
 intro pins s σ H xs us Q I r h;obtain⟨rfl,q⟩:=h;cases r;refine call_set_0 fun led=>?_;refine #[tb,ZrF (t':=ZbX) (Zat') Za8 ?_,Zt3]
 show Heap.SetOf ZarT _ _ _ _
 exact #[w9,(intSetOf_fresh led).kind].setOf ZeJ ZaG
inductive YX [232]:Zaa
 | mk [157][361](i:Int)(_:x=ZdN)(_:y=ZcF)[258](_:#[aE_,! S i,S i])
def NQ:#[ajf,(YX Zad)]:=by
 intro pins s σ H x y v u Q I rx ry h;obtain⟨p,S,n,i,rfl,rfl,hp,q⟩:=h;obtain⟨t,rfl⟩:=rx;cases ry;have hS:ZarU:=ZKh;exact wpAny_notInSet_of (k:=i) Za4r rfl hS #[SW,(.bl (! S i)),rfl]
inductive Xt (x:V)[0]:Zaa
 | mk [157][361](i:Int)(_:x=ZcF)(_:vs=[ZdN])[258](_:n+1<4096)(_:Q ZaK #[bA,p,(Zhj (ZaUU) (ZaMz))])
def Sm:Yc X "set.add" Xt:=by
 intro pins s σ H x vs v us Q I rx rv h;obtain⟨p,S,n,i,rfl,rfl,hp,hn,q⟩:=h;cases rx;obtain⟨u,rfl,ru⟩:ao:=rv.one;obtain⟨t,rfl⟩:=ru;have hS:ZarU:=ZKh;refine call_set_add (k:=i) Za4r rfl hS hn fun h' hsb hS'=>?_;obtain⟨o,_,_,_,ho,_⟩:=id hS';exact #[afz,ZajU (t':=ZpE) (o:=Zhj (ZaUU) (ZaMz)) (by rw[hp];trivial) Zgt (fun b u hb e=>ZaFw) #[h2,ho] hS']
#where
#print L2
namespace Wz
open PySem L2
def Vd [53]{k n:Nat}(hr:ZI8)(h:n<=200):ZaGB:=by have:=hr.un;lia
def cc:#[IO,Zcn,Zcn]:=Zao
def cg:#[s9,Zcn,Zhu]:=Zao
def ce:#[s9,Zcn,Zc_]:=Zao
def gc:#[s9,Zhu,Zcn]:=Zao
def gg:#[IO,Zhu,Zhu]:=Zao
def ge:#[s9,Zhu,Zc_]:=Zao
def ec:#[aDu,Zcn]:=Zao
def eg:#[aDu,Zhu]:=Zao
def ee:#[IO,Zc_,Zc_]:=Zao
abbrev word:bc->Str
 | ZH'=>"come"
 | .go _=>"go"
 | ZaAK=>"exchange"
abbrev l7 [470]:Zbs:=ZaC (Zkk d)::ZaRr
def wO [470]:jC d=ZcJ (l7 d):=by cases d<;>rfl
def OG [470]:wM ZGd ZUK Zac=ZaNn Zau:=by cases d<;>rfl
def RF [470]:¬ (#[af9,ZLh,1]=0/\ZiN ZLh ZLh Zac=ZLh):=by cases d<;>(intro h;have h1:=h.1;simp[l7,names,HT.sIx]at h1)
abbrev d6 [171](m:ZKl):bc->Fc
 | Zja=>#[VB,#[fY,(ZaZ w g)],ZlX]
 | ZnF=>match ZaZ w g with | none=>Zz6 | Zab x=>#[axe,x=g,Zwq]
 | ZoB=>match ZaZ w a with
  | none=>ZYT
  | Zuk=>match ZaZ w b with
   | none=>ZZs
   | Zuk=>#[aZU,m a b]
def LK [259]:bo st d=d6 ZaI (qw ZdY) d:=by cases d<;>rfl
def w8 [328]{m m':ZKl}(h:#[j3,m a b=m' a b])[470]:d6 w m d=d6 w m' d:=by cases d<;>simp only[d6,h]
abbrev lH [183]:ZgF:=#[b5,b<a,(b,a),ZqL]
abbrev vH [33][183]:Bool:=#[lJ,Zz9∈ml]
abbrev B8 [33]:ZuR:=ml.map fun p=>(ZGy,ZeU Zad)
abbrev yq [33][174]:Zd4:=if ZJh then ml else ml++[p]
abbrev PZ:Fc->Zbs
 | Zbe=>#[Ax,ZiY]
 | ZlX=>#[Ax,ZOA]
 | Zwq=>#[Ax,ZOB]
 | Zow=>#[Ax,ZCQ]
 | ZlC=>#[Ax,ZOC]
 | Zz6=>[Zag Zws,Zah g]
abbrev Ff [171]:bc->Zd4
 | Zja=>put w g g
 | ZnF=>kf w g
 | ZoB=>put (put w a (wr w b)) b (wr w a)
abbrev yu [33]:bc->Zd4
 | ZH'=>ml
 | .go _=>ml
 | ZoB=>Za1R
def Bi [259]:#[Wl,0].worn=Ff ZaI d:=by cases d<;>rfl
def LY [33][174]:((B8 ml).any #[yf,ZadS])=#[lJ,ZJh]:=by
 unfold B8;rw[List.any_map]
 induction ml with
 | nil=>rfl
 | cons x r ih =>
  rw[aXS,ih]
  have:(ZlI (((#[Fe,x.1,x.2]:ZhX))=ZGy))=#[lJ,p=x]:=by
   by_cases h:p=x
   ·subst h;simp
   ·rw[aQg h,aQg]
    intro z;simp only[List.cons.injEq,Sum.inl.injEq,and_true]at z;exact h (Za6j z.1.symm z.2.symm)
  simp only[Function.comp];rw[this]
  by_cases h:p=x<;>simp[h]
def Sk [33][174]:#[fY,(gQ (B8 ml) ZadS)]=#[lJ,ZJh]:=by rw[<-tZ,LY]
def Sj [33][174]:k7 (B8 ml) ZadS (ZeU Zad)=B8 (yq ml p):=by
 unfold k7 yq;rw[LY]
 by_cases h:ZJh
 ·rw[aQd (aQe h),Zcy]
  unfold B8;rw[aQP]
  apply aXv
  intro x _;simp only[Function.comp];split<;>rfl
 ·rw[Zazn,Zcx]
  unfold B8;rw[aQt];rfl
def Pc [328]{m:ZKl}{d:bc}{i:Nat}{x:Int}(hc:ZKq)(hp:#[kb,Zar3 i,#[jA,(ZaZ w y)]])(hi:#[di,Zar2[i]?])(hx:ZaZ w x=Zac):d6 w m d=Zox x:=by
 cases d with
 | come g=>exact #[oS,hc]
 | go g =>
  cases i with
  | zero=>simp[names]at hi;subst hi;simp[d6,hx]
  | succ i=>simp[names]at hi
 | exch a b =>
  cases i with
  | zero=>simp[names]at hi;subst hi;simp[d6,hx]
  | succ i =>
   cases i with
   | zero =>
    simp[names]at hi;subst hi;have:=hp a ZjD;obtain⟨v,hv⟩:=Zop ZbR;simp[d6,hv,hx]
   | succ i=>simp[names]at hi
inductive QN [12]:Zaa
 | mk [183](_:vs=Zzw)(_:#[aZj,#[pI,ZXa,ZWR]])
inductive QJ [12]:Zaa
 | mk [49](_:∀ (r:Addr)(H':Hp),#[abC,r,#[bO,r,#[kD,PZ,(d6 wl (vH ml) d)]],r])
inductive Gp [12]:Zaa
 | mk [49](_:wl.length<=ZbE)(_:ZakR<=4000)(_:d6 wl (vH ml) d=Zbe)(_:#[gK,#[bO,w,#[bT,(Ff wl d)]]->#[bO,m,ZaRG]->(#[o6,Zd8,b≠w,b≠m,Zg5])->Zjq])
structure kT [181]:Zaa where
 wn:#[KT,ZaI]
 wh:∀ g m,#[tO,g]↔#[gs,Zdf,m,g]
 ow:#[XP,m∈Zg9]
 sm:#[XP,bP m]
 cy:#[aY2,qw ZdY b a]
abbrev hZ [259]:eG:=if ZxE then ZrT st d else st
abbrev namesL (m c:Int):Zbq:=#[m4,m.toNat] fun (k:Nat)=>lC Zui c
inductive Mp [12]:Zaa
 | mk (m c:Int)(_:#[aff,m])(_:ZaYJ)(_:#[a'M,#[hN,(Zfq m c).map]])
def Nj (k c:Int):bP (lC k c):=by
 unfold bP lC;have h:#[aeY,#[nh,x],#[nh,x],Zes]:=Zae0;dsimp only;generalize hx:ZaTG=x;have:=h (ZaoH);rw[hx]at this
 have e:(10:Nat) ^ 100=ZG1*10 ^ 85:=by rw[<-Nat.pow_add]
 have e2:ZXF<10 ^ 85:=Nat.pow_pos (ZaF)
 have:x.natAbs<ZG1/\(x+Zn8).natAbs<ZG1:=by constructor<;>lia
 split
 ·calc ZaOO:=ZtS
   ZaWC:=ZaNf
   _=ZZX:=e.symm
 ·calc ZaOO:=Zg_
   ZaWC:=ZaNf
   _=ZZX:=e.symm
def Fl (x:Int):∀ [165][183],u9 ZaaE x=#[b5,x=a,rn (u9 c a) b,u9 c x]
 | [],a,b=>by
  by_cases h:x=a
  ·subst h;simp[eV,u9,rn]
  ·simp[eV,u9,h,aQA h]
 | y::r,a,b=>by
  unfold eV
  by_cases h:y.1=a
  ·rw[Zcy]
   by_cases hx:x=a
   ·subst hx;simp[u9,h]
   ·have:¬ y.1=x:=#[aH,hx (Zakm h)]
    simp[u9,hx,this]
  ·rw[Zcx]
   by_cases hx:x=a
   ·subst hx
    simp only[u9,Zcx,aXT];rw[Fl x r x b,Zaz]
   ·simp only[u9,Fl x r a b,ZqR]
set_option tactic.hygienic true
def Hw {ks:Zbq}{b y:Int}:y∈rn ks b↔y∈ks\/y=b:=by
 unfold rn;split
 ·rename_i h
  constructor
  ·exact Zal
  ·rintro (z | z)
   ·exact z
   ·rw[z];exact h
 ·simp
def LW [165](a b x y:Int):qw ZaaE x y=(ZaWB||(#[lJ,x=a]&&Zadt)):=by
 unfold qw;rw[Fl]
 by_cases h:x=a
 ·subst h
  rw[Zaz]
  by_cases hy:y=b
  ·have:ZaOP:=Hw.mpr (Zap hy)
   simp[hy,this];rw[hy]at this;exact this
  ·have:(ZaOP)↔y∈u9 c x:=by rw[Hw];simp[hy]
   simp[hy,this]
 ·rw[Zcx];simp[h]
def FI [165](a b x y:Int):qw (eV ZaaE b a) x y=(ZaWB||(#[lJ,x=a]&&Zadt)||(#[lJ,x=b]&&#[lJ,y=a])):=#[bm,LW,LW]
def yS [170](h:ZaMu)(g m:Int):#[KT,ZBz]:=by
 rw[Hr];split
 ·exact h
 ·rename_i n
  exact xz h n
set_option tactic.hygienic false
def L1 [170](h:ZaMu)[169]:(aU (kf l g)).Nodup:=by
 unfold aU kf at *;exact (List.filter_sublist.map _).nodup h
def BG:kT Zls:=by
 refine⟨aXs,fun g m=>?_,#[akS,?_],#[akS,?_],#[CE,rfl]⟩
 ·simp[look]
 ·simp[look]at h
 ·simp[look]at h
def Eo [78]{d:bc}(G:ZnW)(sm:#[ue,ZEM]):kT (hZ st d):=by
 unfold hZ
 by_cases hd:ZxE
 ·rw[ZH5]
  have kw:#[XP,ZZC]:=#[akS,ZN7 (#[b6,h])]
  cases d with
  | come g =>
   have hn:ZaII:=by
    cases e:Zq' with
    | none=>rfl
    | some m=>simp[bo,e]at hd
   have hh:ZaZ Zdf g=Zac:=by
    cases e:ZaZ Zdf g with
    | none=>rfl
    | some m =>
     have:=Zkl m g ((Zkm m g).mpr e);rw[<-dO,hn]at this;cases this
   refine#[ap2,yS G.wn g g,G.cy]
   ·show Zacb↔#[gs,ZHf,m,x]
    rw[jU,jU]
    by_cases hx:x=g
    ·subst hx
     by_cases hm:m=x
     ·subst hm;simp
     ·rw[Zaz,Zlc]
      constructor
      ·intro z;exact ZaFg
      ·intro z
       have:=ZH9;rw[hn]at this;cases this
    ·rw[ZqR]
     by_cases hm:m=g
     ·subst hm
      rw[Zaz];constructor
      ·intro z
       have:=ZH8;rw[hh]at this;cases this
      ·intro z;exact #[t7,hx]
     ·rw[Zlc];exact Zafe
   ·have h:Zacb:=h
    show m∈aU (put ZaI g g)
    rw[jU]at h;rw[<-dO,jU]
    by_cases hx:x=g
    ·rw[ZH4]at h;cases h;rw[Zaz];rfl
    ·rw[ZqR]at h
     have:=ZaGY;rw[<-dO]at this;split
     ·rfl
     ·exact this
   ·have h:Zacb:=h
    rw[jU]at h
    by_cases hx:x=g
    ·rw[ZH4]at h;cases h;exact sm g ZjD
    ·rw[ZqR]at h;exact ZadF
  | go g =>
   have hg:#[gs,ZaI,g,g]:=by
    cases e:Zq' with
    | none=>simp[bo,e]at hd
    | some m =>
     by_cases z:m=g
     ·rw[z]
     ·simp[bo,e,z]at hd
   have hh:#[gs,Zdf,g,g]:=(Zkm g g).mp hg;refine#[ap2,L1 G.wn g,G.cy]
   ·show ZafN↔#[gs,(kf Zdf g),m,x]
    rw[pP,pP]
    by_cases hx:x=g
    ·subst hx
     rw[Zaz]
     by_cases hm:m=x
     ·rw[Zur];simp
     ·rw[Zlc]
      constructor
      ·intro z;cases z
      ·intro z
       have:=ZH9;rw[hg]at this;exact ZaFt
    ·rw[ZqR]
     by_cases hm:m=g
     ·subst hm
      rw[Zaz];constructor
      ·intro z
       have:=ZH8;rw[hh]at this;exact #[y9,hx]
      ·intro z;cases z
     ·rw[Zlc];exact Zafe
   ·have h:ZafN:=h
    show m∈aU (kf ZaI g)
    rw[pP]at h
    by_cases hx:x=g
    ·rw[ZH4]at h;cases h
    ·rw[ZqR]at h
     refine yO.mpr ⟨ZaGY,ZfO⟩;rw[z]at h;have:=(Zkm x g).mp h;rw[hh]at this;exact hx Zs'
   ·have h:ZafN:=h
    rw[pP]at h
    by_cases hx:x=g
    ·rw[ZH4]at h;cases h
    ·rw[ZqR]at h;exact ZadF
  | exch a b =>
   obtain⟨ma,ea⟩:∃ m,#[tO,a]:=by
    cases e:ZSC with
    | none=>simp[bo,e]at hd
    | some m=>exact ZIX
   obtain⟨mb,eb⟩:∃ m,#[tO,b]:=by
    cases e:ZSD with
    | none=>simp[bo,ea,e]at hd
    | some m=>exact ZIX
   have W_:ZI_:=#[aH,by simp[bo,ea,eb,z]at hd]
   have wa:ZafX:=by unfold wr;rw[ea];rfl
   have wb:ZafY:=by unfold wr;rw[eb];rfl
   have ha:=(Zkm a ma).mp ea;have hb:=(Zkm b mb).mp eb
   have hmm:ma≠mb:=#[aH,by rw[z,hb]at ha;exact W_ #[pr,ha]]
   have lw:∀ x,ZaZ ZFL x=#[Hx,x=b,ma,#[Hx,x=a,mb,#[SB,x]]]:=#[cV,#[bm,jU,jU]]
   have lh:∀ x,ZaZ ZzC x=#[Hx,x=ma,b,#[Hx,x=mb,a,ZaZ Zdf x]]:=#[cV,#[bm,jU,jU]]
   show kT Zasb
   rw[wa,wb];refine#[ap2,yS (yS G.wn a mb) b ma,fun x y=>?_]
   ·show Zaca↔#[gs,ZzC,m,x]
    rw[lw,lh]
    by_cases hxb:x=b
    ·subst hxb
     rw[Zaz]
     by_cases hm:m=ma
     ·rw[Zur,hm];simp
     ·rw[Zlc]
      constructor
      ·intro z;exact ZaFg
      ·intro z
       by_cases hm2:m=mb
       ·rw[ZYy]at z;exact #[oT,aQp,z,W_]
       ·rw[ZYp]at z
        have:=ZH9;rw[eb]at this;exact #[y9,hm2]
    ·rw[aQc hxb]
     by_cases hxa:x=a
     ·subst hxa
      rw[Zaz]
      by_cases hm:m=ma
      ·rw[Zur]
       constructor
       ·intro z;exact #[oR,((aQp z).trans hm).symm,hmm]
       ·intro z;exact #[t7,W_]
      ·rw[Zlc]
       by_cases hm2:m=mb
       ·rw[ZYy,hm2];simp
       ·rw[ZYp]
        constructor
        ·intro z;exact #[t7,hm2]
        ·intro z
         have:=ZH9;rw[ea]at this;exact ZaFt
     ·rw[aQc hxa]
      by_cases hm:m=ma
      ·rw[Zur]
       constructor
       ·intro z
        have:=ZH8;rw[hm,ha]at this;exact #[y9,hxa]
       ·intro z;exact #[t7,hxb]
      ·rw[Zlc]
       by_cases hm2:m=mb
       ·rw[ZYy]
        constructor
        ·intro z
         have:=ZH8;rw[hm2,hb]at this;exact #[y9,hxb]
        ·intro z;exact #[t7,hxa]
       ·rw[ZYp];exact Zafe
   ·have h:Zaca:=h
    show m∈ZaTJ
    have key:∀ y,y∈Zg9->y∈ZaTJ:=fun y hy=>by
     rw[<-dO]at hy ⊢;rw[lw];split
     ·rfl
     ·split
      ·rfl
      ·exact hy
    rw[lw]at h;split at h
    ·cases h;exact key _ (Zkl a _ ea)
    ·split at h
     ·cases h;exact key _ (Zkl b _ eb)
     ·exact key _ (Zkl x m h)
   ·have h:Zaca:=h
    rw[lw]at h;split at h
    ·cases h;exact G.sm a _ ea
    ·split at h
     ·cases h;exact G.sm b _ eb
     ·exact ZadF
   ·show qw ZLb x y=qw ZLb y x
    rw[FI,FI,G.cy x y];cases #[lJ,x=a]<;>cases #[lJ,x=b]<;>cases #[lJ,y=a]<;>cases Zadt<;>simp
 ·rw[ZHX];exact G
abbrev X6 [44]:Dt:=.sq Zad (ZrK fun v=>.at v)
def IE [6][38][223][31](h:#[aP,l,ZdJ])(hf:#[rU,ZJo]):RD K H 2 Zm3 (X6 xs):=by
 refine Zwv (Zbg h) ?_;clear h
 induction xs with
 | nil=>exact Zan
 | cons n r ih=>exact ZaB (ZCS (hf n aQi) 1) (ih #[ape,hf])
abbrev Ya [5][426]:Zaa:=#[atn,c.C,ZfD,ZaCT,ZfD]
def TY [61]{c:HX}{p pos:Pos}(M:#[Mu,Ya,c])(U:ZaQd)(hr:ZK5)(hg:Gl X ZOz):#[aht,ZOz,c.C,ZaCT]:=by
 revert M;intro a_;obtain⟨fI,fd,M,G,hb⟩:bM:=a_;exact #[aif,U.mC]
structure Ev [426](H0 H:Hp)(x:Addr)[369]:Zaa where
 same:aG H0 H
 hall:#[Mn,x]
 good:ZnW
 nfp:#[aiu,ZarZ]
def Ev.moved {c:HX}{H0 H H':Hp}{x:Addr}{B:HA}{st w_:eG}(e:Ev c H0 H x B st)(m:D6 c.C H x B w_ H')(g:kT w_) :
  ∃ B',Ev c H0 H' x B' w_/\(∀ y o,#[aP,y,o]->y∉Zdg->H' y=Zab o/\y∉B'.fp)/\ZuH:=by
 obtain⟨B',S,k,f,t⟩:=m;refine ⟨B',⟨fun b o q=>k b o (e.same b o q) (fun z=>by rw[ZaEZ]at q;cases q),S,g,ZmS⟩,(fun y o q n=>⟨k y o q n,ZfO⟩),t⟩
 ·rcases f b hb with z | z
  ·exact ZaEZ
  ·exact e.same.free z
 ·rcases f y z with z | z
  ·exact n z
  ·rw[q]at z;cases z
def Ev.fits [78](h1:ZlY<=100)(h2:ZCP<=100)(h3:ZaEf)(h4:#[axS,900])(h5:Zwr<=900):Zzk:=⟨Zae,Zae,Zae,#[XK,h4],Zae⟩
abbrev Of [82][181]:Zaa:=(#[aeR,Zg9])/\(#[aeR,aU Zdf])/\#[KT,Zdf]
def of_empty [29]:Of L Zls:=⟨(#[Cg,Za8t]),(#[Cg,Za8t]),aXs⟩
set_option tactic.hygienic true
def pQ [170]{g m x:Int}:x∈aU (put l g m)↔x∈aU l\/x=g:=by
 rw[Hr];split
 ·rename_i h
  constructor
  ·exact Zal
  ·rintro (z | z)
   ·exact z
   ·rw[z];exact h
 ·simp
def SB [29][78]{d:bc}(G:ZnW)(o:ZacU)[403]:Of L (hZ st d):=by
 unfold hZ
 by_cases hd:ZxE
 ·rw[ZH5]
  obtain⟨o1,o2,o3⟩:eJ:=o
  cases d with
  | come g =>
   refine ⟨ZmC,ZmC,yS o3 g g⟩
   ·rcases #[ap4,aU (put ZaI g g)] with z | z
    ·exact o1 x z
    ·rw[z];exact ZaKd
   ·rcases #[ap4,aU (put Zdf g g)] with z | z
    ·exact o2 x z
    ·rw[z];exact ZaKd
  | go g =>
   exact ⟨#[aTl,o1,ZaI],#[aTl,o2,Zdf],L1 o3 g⟩
  | exch a b =>
   obtain⟨ma,ea⟩:∃ m,#[tO,a]:=by
    cases e:ZSC with
    | none=>simp[bo,e]at hd
    | some m=>exact ZIX
   obtain⟨mb,eb⟩:∃ m,#[tO,b]:=by
    cases e:ZSD with
    | none=>simp[bo,ea,e]at hd
    | some m=>exact ZIX
   have wa:ZafX:=by unfold wr;rw[ea];rfl
   have wb:ZafY:=by unfold wr;rw[eb];rfl
   refine ⟨ZmC,ZmC,yS (yS o3 _ _) _ _⟩
   ·rcases #[ap4,aU (put Zar' b ZFI)] with z | z
    ·rcases pQ.mp z with z | z
     ·exact o1 x z
     ·rw[z];exact ZaJO
    ·rw[z];exact ZaNU
   ·rcases #[ap4,aU (put Zasa ZFI b)] with z | z
    ·rcases pQ.mp z with z | z
     ·exact o2 x z
     ·rw[z,wb];exact o1 _ (Zkl b mb eb)
    ·rw[z,wa];exact o1 _ (Zkl a ma ea)
 ·rw[ZHX];exact o
def sL [29][78](G:ZnW)(o:ZacU):ZlY<=Zhv/\ZCP<=Zhv:=by
 have e1:ZlY=#[bd,aU,ZaI]:=Za8u
 have e2:ZCP=#[bd,aU,Zdf]:=Za8u
 exact#[ug,#[aL,e1,ky G.wn o.1],e2,ky o.2.2 o.2.1]
def Ki [259]:#[A0,0].deeds.length<=Zwr+1:=by
 unfold hZ;split
 ·cases d<;>simp[after]
 ·lia
def NM [259]:#[A0,0].worn=if ZxE then Ff ZaI d else st.worn:=by
 unfold hZ;split
 ·exact Bi st d
 ·rfl
abbrev Ga:Fc->Str
 | Zbe=>"done"
 | ZlX=>"AlreadyIn"
 | Zwq=>"Masked"
 | Zow=>"Same"
 | ZlC=>"Met"
 | Zox _=>"NoGuest"
def Xo (o:Fc):#[av,(PZ o)[0]?,(ZaC (Ga o))]:=by cases o<;>rfl
def EE (o:Fc):#[ux,#[dE,(Ga o),ZiY],o,Zbe]:=by
 cases o with
 | done=>exact #[xd,#[IO,ZiY,ZiY]]
 | already=>exact #[Bl,ZOA]
 | masked=>exact #[Bl,ZOB]
 | same=>exact #[Bl,ZCQ]
 | met=>exact #[Bl,ZOC]
 | noguest g =>
  rw[aQg (#[akT,¬ Fc.noguest g=Zbe])];exact #[Bl,Zws]
def R5 {a b x y:Int}:lH x y=Zz9↔Za0k:=by
 unfold lH
 by_cases h1:y<x<;>by_cases h2:b<a
 ·rw[ZzZ,ZH2,Prod.mk.injEq];lia
 ·rw[ZzZ,Zuo,Prod.mk.injEq];lia
 ·rw[Zun,ZH2,Prod.mk.injEq];lia
 ·rw[Zun,Zuo,Prod.mk.injEq];lia
def Pu [18]{p q:ZgF}:q∈yq ml p↔q∈ml\/q=p:=by
 unfold yq;split
 ·rename_i h
  constructor
  ·exact Zal
  ·rintro (z | z)
   ·exact z
   ·rw[z];exact h
 ·simp
abbrev DY [181][33]:Zaa:=#[aY2,vH ml a b]
set_option tactic.hygienic false
def GY:DY Zls []:=fun a b=>by unfold qw vH;simp[u9]
abbrev vd [181][33][470]:Zd4:=if ZxE then yu ml d else ml
def Jw [78][18]{d:bc}(h:Zagh):DY (hZ st d) Zag':=by
 unfold hZ vd
 by_cases hd:ZxE
 ·rw[ZH5,ZH5]
  cases d with
  | come g=>exact h
  | go g=>exact h
  | exch a b =>
   intro x y
   show qw ZLb x y=vH ZaX4 x y
   rw[FI,h x y];unfold vH
   have e:#[lK,lH x y∈Za1R,(#[lJ,lH x y∈ml]||#[lJ,Za0k])]:=by
    rw[<-Bool.decide_or]
    congr 1
    rw[Pu,R5]
   rw[e,Bool.decide_or,Bool.decide_and,Bool.decide_and,Bool.or_assoc]
 ·rw[ZHX,ZHX];exact h
def Hq [78][18](h:Zagh)[470]:d6 ZaI (vH ml) d=bo st d:=#[aL,LK,w8 (#[CE,(h a b).symm]) d]
structure Sz [42][181]:Zaa where
 c:ZrS<=2*n
 k:#[axS,2*n]
 d:Zwr<=n
def ZX:Sz 0 Zls:=⟨ZaX,(fun x hx=>nomatch hx),ZaX⟩
def Tk [71][78](h:Sz n st)[470]:Sz (n+1) ZA0:=by
 have keep:Sz (n+1) st:=⟨by have:=h.c;lia,#[XK,h.k],by have:=h.d;lia⟩;refine#[uf,?_,by have:=Ki st d;have:=h.d;lia]
 ·unfold hZ
  split
  ·cases d with
   | come g=>exact keep.c
   | go g=>exact keep.c
   | exch a b =>
    show #[bf,ZLb,_]
    have:=xi Zta b a;have:=ZaGI;have:=h.c
    lia
  ·exact keep.c
 ·unfold hZ
  split
  ·cases d with
   | come g=>exact keep.k
   | go g=>exact keep.k
   | exch a b =>
    intro x hx;have:=Bh (n:=2*n+1) (Bh (n:=2*n) (a:=a) (b:=b) h.k Zaf) Zaf x hx
    lia
  ·exact keep.k
def Ly [175](hn:n<=400):Zzk:=by
 have:=sL G o;exact Za3y
def Nc [38]{l t:Addr}[340][370](hl:Zabi)(hp:ZaE9)(ht:Zabh):jL #[gY,ZU6] l ZKb:=by
 have nt:#[aUW,b≠l]:=fun b y e z=>by obtain⟨xs,ex⟩:=kW y;rw[z,hl,ex]at e;cases e
 refine ⟨as++[t],Zvk,(bN #[j5,hp,ZXO] (ZaB #[gA,(nt t d ht),ht] Zan))⟩;rw[ai (nt b y e)];exact e
def Ss [259]:#[A0,0].deeds=if ZxE then ZaDW else st.deeds:=by
 unfold hZ;split
 ·cases d<;>rfl
 ·rfl
def zX [203]:ZdG:=by
 unfold namesL at h;obtain⟨k,_,rfl⟩:ao:=ZYR;exact Nj _ _
#print Wz
namespace L2
open PySem PySem.Spec PyProof.Rows
def L7 [61][9]:ir ZhJ X (ZqK):=by
 intro pins σ H s e s' I hc;obtain⟨ea,C,od,H',B,rfl,fl,un,hok,os,bare,hsB,trB,hE⟩:dZ:=hc;exact hE.elim
abbrev Cx.tried [230][17][52]:Cx:={ X with xe:=E,pn:=ZTa }
def aT.tried [61][4][51][3]:aT (ZakU Zam E) [] σ H s :=
 ⟨⟨ZajF,Zj8,ZCT,Zajb,Zoc,ZM5,ZM3,ZOE,ZOF,ZNm,Za8v,Za8w,ZOH,ZB9,ZNV,ZM2,ZaiS,ZB7⟩,I.os,I.bare,I.base,I.loc,I.cell,I.free,I.freeC,fun p hp=>I.pin p (by
  have hp:p∈(X.pn++Zam)++[]:=hp
  rwa [aXl]at hp),I.hok,I.len⟩
def aT.untried [61]{pins bq9:Zej}[444][266][51](I:aT (ZakU Zam E) bq9 σ H s):Zjf :=
 ⟨⟨ZajF,Zj8,ZCT,Zajb,Zoc,ZM5,ZM3,ZOE,ZOF,ZNm,Za8v,Za8w,ZOH,ZB9,ZNV,ZM2,ZaiS,ZB7⟩,I.os,I.bare,I.base,I.loc,I.cell,I.free,I.freeC,fun p hp=>I.pin p (by
  show p∈(X.pn++Zam)++bq9
  exact aZa _ hp),I.hok,I.len⟩
abbrev Xe [230][17](E:XK)(e:Value)[155]:Zaa:=∃ (σ:St)(H:Hp)(ea C:Addr)(od:Zgk)(B:Heap),e=ZYd/\Za34/\ZaIR/\Za8y/\ZaVR
def Xp [213]{E:XK}:ir Zazt ZaSr E:=by
 intro bq9 σ H s e s' I hc;obtain⟨ea,C,od,H',B,rfl,fl,un,hok,os,bare,hsB,trB,hE⟩:dZ:=hc;exact ⟨σ,H',ea,⟨C,od,B,rfl,R9 I.untried fl un hok os bare hsB trB,fl,ZB',hE⟩⟩
def SU {X:Cx}{b0:Stmt}{bs:Zik}{hd0:ExceptHandler}{hdl:ZYa}{tb:XK->TS}{th:ZafT}{pos:Pos}
  (hst:Zdv=ZaQ::Zru) (hfr:ZaNk) (hb:∀ pins E,GJ ZaSr ZaHs (tb E)) (hh:Yd X ZaNi th) :
  PS X (.Try ZaHs ZaNi [] [] pos) (#[vY,tb (fun cls od H2=>∀ σ':St,σ'.length=Za8x->th cls od D σ' H2) D σ H]):=by
 intro pins s σ H D I h;refine wpAny_Try_except ?_;refine aQR (hb Zam _ [] s σ H D I.tried h) (fun f s1 hq=>?_) fun e s' hx=>?_
 ·cases f with
  | next=>obtain⟨σ',H',I1,q⟩:cD:=hq;exact #[a5c,σ',H',ZakV,q]
  | brk=>obtain⟨σ',H',I1,q⟩:cD:=hq;exact ZaG3
  | cont=>obtain⟨σ',H',I1,q⟩:cD:=hq;exact ZaG3
  | ret u=>obtain⟨v,σ',H',I1,r,q⟩:eZ:=hq;exact #[ah0,ZakV]
 ·obtain⟨σ',H',ea,a_⟩:iw:=hx;obtain⟨C,od,B,rfl,ld,fl,hl,hE⟩:gi:=a_
  have fl':=fl;rw[hst]at fl';refine Nz #[eF,ZNm,hst] hfr fl' fun h4 held cq1=>?_;refine Vm held fun h5 fl5 cq0=>?_;rw[<-hst]at fl5;exact hh Zam σ' H' D ea C od B s' h5 ld fl5 (cq1.trans cq0) (hE σ' hl)
abbrev WC [399](o:Obj)[184]:It :=
 #[aXI,#[Hi,∃ p,#[av,kvs[i]?,p]/\x=kV p.1]]
def AI [319]{d:Addr}{o:Obj}[89]{ep:Nat}(hep:Za1g)(x:bW P w H h d ZSv):#[air,d]/\∃ vs,ZyE/\h.DictAt Zd_ d vs ep:=by
 obtain⟨hg,hz,lo,vs,rel,dd⟩:=x;obtain⟨ep',hat⟩:=dd.dictAt;refine ⟨lo,vs,rel,?_⟩;refine bB (id hat) fun od es hod Z_ hdd r=>?_;rw[hg]at hod;cases hod;rw[<-hep _ _ hdd];exact hat
def Od [193][107]:#[t_,tg,ZA2,h.IsKeyIter it d i Zep ep] where
 mem:=ZaU
 obj:=fun i h st b hb=>by
  have e:ZjI:=ZcM
  subst e;obtain⟨o,e,c,d⟩:aK:=st;exact ⟨o,e,(fun v z=>by rw[d]at z;cases z)⟩
 keep:=ZasK
 item:=by
  intro X hP hw hK hc i pins s σ H E I hf st hg;subst hP hw hK;obtain⟨hH,hi⟩:=hg;refine Za2L;refine ZgG;have hl:ZiL:=Zlh;obtain⟨p,hp⟩:ZaxX:=⟨kvs[i],ZOI⟩;obtain⟨q,hq⟩:∃ q,#[av,ZNt,q]:=⟨vs[i]' Zaf,by simp[#[e2,ZY_]]⟩;obtain⟨k,v⟩:=q
  have ek:Zlo:=by
   have e1:(kvs.map (·.1))[i]? = Zab p.1:=#[VG,hp]
   rw[rel.keys,aQI,hq]at e1;exact #[pr,e1]
  rw[hl]at st;refine #[aZk,wpAny_pyNext_dict_item,fun key h' hk w_ sb=>?_];have I1:ZAe:=Zbck;refine aK (id w_) fun o2 e c d2=>?_;refine #[awT,key,d2,(iB Zaai H I1 ?_ ⟨rfl,p,hp,(#[e0,ek])⟩ #[aM,hl,w_] ZSg)];rcases ZaYd with ⟨j,t,ej,ev⟩ | ⟨j,t,ej,ev⟩
  ·subst ej;exact ZAW
  ·subst ej;exact ZAW
 done:=by
  intro X hP hw hK hc i pins s σ H E I hf st hg;subst hP hw hK;obtain⟨hH,hi⟩:=hg;refine Za2L;have hl:ZiL:=Zlh;refine ZgG;rw[hl]at st;exact #[bcn,wpAny_pyNext_dict_end]
 self:=#[a_L,wpAny_pyIter_keyiter]
abbrev W5 (tl:TE):TI:=#[a0M,ZA2]
def SQ [61]{tg l:Expr}[85]:PI X tg l (W5 tl):=by
 intro pins s σ H R I h;refine ZKy;obtain ⟨x,H1,I1,r1,q1⟩:=zz;obtain⟨d,kvs,e,hH,q⟩:bM:=q1;subst e;cases r1;refine Za3B;obtain⟨ep,hat⟩:=dd.dictAt;refine ZaT5;have j_:ZiL:=Zlh;refine wpAny_pyIter_dict (knd:=ZyG) lo hat ?_;have I2:ZaNy:=Za33;refine #[ate,_,#[aP8,ZmY],#[a3D,Od],#[fJ,ZeI,rfl,#[jC,j_]],(q o)]
 ·rw[bx7]at e;cases e;rfl
 ·have e:ZAf:=ZcM
  subst e;exact I2.fpOk (aQf _) (ZakW (aQf _))
def OW {d:Addr}{o:Obj}{kvs:Ziu}{g:TG}{tb:TS}{D:pG}{σ:St}{H:Hp}(Pv:Zlr)(h0:ZnP)(hl:ZaRz)
  (hs:∀ i p σ H,ZG'->ZmI->g (kV p.1) σ H Zaol) (hd:ZaEG) :
  ∃ W:ZjX,Zlp/\∀ i m σ H,ZjW ->
   #[ao7,ZA2,ZA2,ZA2]:=by
 refine ZaW8;intro i m σ H a_;obtain⟨rfl,hi,p⟩:eJ:=a_;have q:=ZBD
 by_cases v_:ZVW
 ·refine ZaQ2
  obtain⟨e,p2,hp,ex⟩:nU:=y;subst e ex;exact hs i p2 σ _ hp p
 ·have e:ZaCd:=Zae
  subst e;exact ZaEK
#print L2
namespace Wz
open PySem L2
abbrev bd [172]:eG:=ZOJ ZrT Zls
def uB [172][470]:bd ZKb=ZrT (bd ds) d:=by unfold bd;rw[aZY];rfl
abbrev cJ [172]:Zaa:=∀ i d,#[av,ds[i]?,d]->bo (bd (ZCU i)) d=Zbe
def Hc:cJ []:=fun i d h=>ZiI
def iS [370](h:cJ ds)(hd:ZaKE):cJ (Zab9):=by
 intro i e he
 by_cases hi:Zazy
 ·rw[aZE hi]at he
  rw[#[cD,List.take_append_of_le_length]];exact h i e he
 ·have hl:=ZZK
  rw[aQl,aQW]at hl
  have e1:i=ZiV:=Zae
  subst e1;simp at he;subst he;simpa using hd
def GX [259]:#[Wl,0].deeds=ZaDW:=by cases d<;>rfl
structure uE (H0 H:Hp)(w m ls:Addr)[181][33]:Zaa where
 hw:#[aP,w,ZtK]
 hm:ZaNq
 hs:jL H ls ZlA
 w0:H0 w=Zac
 m0:H0 m=Zac
 s0:H0 ls=Zac
def uE.on {H0 H H':Hp}[109][111]:Zacp:=⟨s _ _ e.hw,s _ _ e.hm,Bo e.hs s,e.w0,e.m0,e.s0⟩
def uE.ws {H0 H:Hp}[109]:w≠ls:=by refine ZaVT;exact dU e.hw h (by intro z;cases z)
def uE.ms {H0 H:Hp}[109]:m≠ls:=by refine ZaVT;exact dU e.hm h (by intro z;cases z)
def uE.done {H0 H H1:Hp}{w m ls:Addr}{st:eG}{ml:Zd4}{d:bc}(e:ZTf)(hj:ZxE)
  (h1:H1 w=Zab #[bT,(Ff ZaI d)]) (h2:H1 m=Zab ZaRG) (k:#[Gr,Zd8,w,m,H1])
  {as:Zei} (hl:#[aP,ls,ZEl]) (hp:ZaPl) {t:Addr} (ht:Zabh) :
  #[xS,ZaOr,ZA0,Zag']/\H1 ls=Zab ZEl:=by
 have nt:#[aUW,b≠w/\b≠m]:=fun b y q=>by
  obtain⟨xs,ex⟩:=kW y;rw[ex]at q;exact⟨dU q e.hw (by intro z;cases z),dU q e.hm (by intro z;cases z)⟩
 have q_:=k _ _ hl (aQA e.ws) (aQA e.ms);have d1:jL ZaOr ls (ZlA++[d]):=Nc q_ #[j5,hp,fun b y q=>k _ _ q #[aOW,0].1 #[aOW,0].2] (k _ _ ht (nt t d ht).1 (nt t d ht).2);refine⟨⟨?_,?_,?_,e.w0,e.m0,e.s0⟩,q_⟩
 ·rw[ai e.ws,NM,Zc9];exact h1
 ·rw[ai e.ms];unfold vd;rw[Zc9];exact h2
 ·rw[Ss,Zc9];exact d1
#print Wz
namespace L2
open PySem PySem.Spec PyProof.Rows
def aT.turned2 [61][4]{h':Heap}{t':Nat}{e it:Addr}[3](k:#[Vr,Zk8,it])(fe:o9 X Zam H e)(fi:o9 X Zam H it):ZZa:=by
 obtain⟨e0,e1,e2,e3,e4,e5⟩:dR:=fe;obtain⟨i0,i1,i2,i3,i4,i5⟩:dR:=fi;have nit:#[aLY,Zk8/\b≠it]:=fun b u q=>⟨(fun z=>by rw[z,e0]at q;cases q),(fun z=>by rw[z,i0]at q;cases q)⟩
 have nn:∀ b,b∉ZabU->Zk8/\ZYC:=#[cX,ZcM]
 refine I.step (g':=s.gens) (d':=s.drawn) (ch:=ZabU) Zxg (#[a8z,Zaqj]) (#[a8z,#[akv,Zaqj]]) (fun _ _ _ _ n=>n)
  (fun b o hc q=>#[h2,Zaqj]) (ZM8) (fun _ _ _ q=>q) (fun b ps q=>⟨#[],#[fs,q]⟩) (fun m hm=>?_) (#[Os,?_]) I.bare
 ·have hb:Zaf4:=ZcM
  rcases hb with rfl | rfl
  ·exact ⟨e3,e1,e4,e5⟩
  ·exact ⟨i3,i1,i4,i5⟩
 ·obtain⟨o,es,ep,ho,r⟩:ko:=hm
  exact vE o es ep (k _ o (aQA e1) (aQA i1) ho) r
 ·refine #[t4,Zbl].stay (fun c v hc z=>k c v ?_ ?_ z) (fun _ z=>z) ZXC
  ·rcases hc with z | z
   ·rw[z];exact #[aE6,0].1
   ·exact (nit c _ z).1
  ·rcases hc with z | z
   ·rw[z];exact #[aE6,0].2
   ·exact (nit c _ z).2
inductive SZ [11]:Zaa
 | mk (p:_)(S:_)(n:_)[63][258](_:#[jP,n])
def Eb [61]:#[p',ZCu,SZ]:=by
 intro pins s σ H xs us Q I r h;obtain⟨p,S,n,rfl,hp,q⟩:=h;obtain⟨u,rfl,rx⟩:ao:=ZeP;cases rx;obtain⟨o,es,ep,t,ho,hex,hd,_,_,hb,hf,hn⟩:=#[fK,ZarU,ZKh];subst hn;refine call_len_set ho hex hd hf ?_ #[SX,(Zah ZOK)];have:ZOK<4096:=hb
 lia
def Ds [101](env:Env) :
  #[a0R,0]=(do
   #[sZ,i0.pos]
   match <-ZaLK with
   | none=>ZaOx
   | Zny =>
    #[aRa,t0]
    Zoh t0 env v
    let mut ok:=true
    for c in c0 do
     if ok then ok <-ZCb
    if ok then
     let x <-Zhn i1 env
     Zabt
     let x <-#[FD,i1,env]
     let it1 <-ZOL [x] (ZCf x)
     let _ <-runOwn (ZakY ZRV 1 it1 acc env) env
     #[ah9,0]
    else
     #[ah9,0]):=ZakZ
def Du [101](env:Env) :
  #[a0R,1]=(do
   Zabt
   match <-ZaLK with
   | none=>ZaOx
   | Zny =>
    #[aRa,t1]
    Zoh t1 env v
    let mut ok:=true
    for c in c1 do
     if ok then ok <-ZCb
    if ok then
     (do let _ <-Zfv (Zf' ZajW) [acc,<-Zhn elt env])
    #[ah9,1]):=ZakZ
section
variable {prog:Program}{w:World}{A:Around}{R:ZnG}{s:Shared}{elt t0 i0 t1 i1:Expr}{c0 c1:Zbu}{scope:Scope}{pos:Pos}{it acc:Value}{env:Env}
def uF (I:ZIi)
  (turn:∀ n s,Zn1->wpAny Zwg A ZQ3 (fun r s₁=>match r with
   | none=>ZL0
   | Zny=>wpAny Zwg A #[an8,t1] (fun _ s₁'=>wpAny Zwg A #[W3,t1] (fun _ s₂ =>
     wpAny Zwg A (forIn c1 true fun c r=>if Zz1 then do let ok <-ZCb;ZSj else ZSi) (fun ok s₃ =>
      if ZH7 then wpAny Zwg A ZaD8 (fun x s₄ =>
       ZaTP) ZEn s₃
      else ZKi) ZEn s₂) ZEn s₁') ZEn s₁) ZEn s)
  (n:Nat) (h:Zn1) :
  ZaKq:=by
 refine ZMC
 show wpAny _ A ((ZCC ZRV 1 it acc env).onRaise (fun x=>do Zbc8;ZIt)) _ _ s
 refine ZIw;rw[Du];refine ZMA
 cases r with
 | none=>exact ZIU
 | some v =>
  refine ZLt;refine ZMh
  cases ok with
  | false=>exact ZKd
  | true =>
   exact Za8B
def sr (hs:∀ x,#[FD,i1,env]=Zck x)(I:ZIi)
  (turn:∀ n s,Zn1->wpAny Zwg A ZQ3 (fun r s₁=>match r with
   | none=>ZL0
   | Zny=>wpAny Zwg A #[an8,t0] (fun _ s₁'=>wpAny Zwg A #[W3,t0] (fun _ s₂ =>
     wpAny Zwg A (forIn c0 true fun c r=>if Zz1 then do let ok <-ZCb;ZSj else ZSi) (fun ok s₃ =>
      if ZH7 then wpAny Zwg A #[nv,i1] (fun x s₄ =>
       #[avq,ZaAT,fun it1 s₅=>ZrH Zwg A (ZakY ZRV 1 it1 acc env) (#[axY,ZaEC]) s₅]) ZEn s₃
      else ZKi) ZEn s₂) ZEn s₁') ZEn s₁) ZEn s)
  (n:Nat) (h:Zn1) :
  #[wj,(Zou ZRV 0 it acc env)]:=by
 refine ZMC
 show wpAny _ A ((ZCC ZRV 0 it acc env).onRaise (fun x=>do Zbc8;ZIt)) _ _ s
 refine ZIw;rw[Ds];refine ZMA
 cases r with
 | none=>exact ZIU
 | some v =>
  refine ZLt;refine ZMh
  cases ok with
  | false=>exact ZKd
  | true =>
   refine #[xJ,h₃,#[a8A,?_]];refine #[FX,(ZOM (hs x) ?_)];refine #[aHT,fun it1 s₅ h₅=>?_];refine aQa (wpAny_runOwn (aX2 h₅ fun r s₆ h₆=>?_));obtain⟨rfl,h₆⟩:=h₆;exact ZaEx
def sv
  (h0:ZaKq)
  (h:wpAny Zwg A (ZCf it) (fun it' s'=>#[aC2,(Zou ZRV 1 it' acc env)])
   (notedBy Zwg A env fun x s'=>R (ZNl x) s') s) :
  #[wj,(ZakY ZRV 1 it acc env)]:=by
 refine Za8C ?_
 show wpAny _ _ ((compStart ZRV 1 it acc env).onRaise (fun x=>do Zbc8;#[sZ,theWindowsPlace])) _ _ s
 refine wpAny_notedAt ?_;unfold compStart
 show #[nr,ask]
 refine aQa (wpAny_askSetting (wpAny_ite ?_));split
 ·first
   | exact #[li,aQk,(Za8E rfl h0)]
   | exact #[a8F,h0]
 ·first
   | exact #[al',(aXH (aQa Za8G))]
   | (refine ZaCZ;show #[nr,Zabt];exact #[FX,Za8G])
#where
def JE {Y:Cx}{P:Zej}{σ:St}{H:Hp}{s:Shared}{elt t0 i0 t1 i1:Expr}{c0 c1:Zbu}{sc:Scope}{pos:Pos}{it a:Addr}{fp:Zei}{tn:ZSr}{J:It}{g:TG}{tt:TT}{te:TE}{nx:Zgp}{rt:VK}{bk ct:Zgp}
  (hc:Y.calm=Zad) (hxe:Y.xe=Zjw) (I:aT Y P σ H s) (T:Dp Y.prog Y.w Y.K t1 J fp it tn) (st:tn 0 ZaD) (f:#[j_,o9 Y P H b]) (hL:r9 J g (Oq tt te a) ⟨nx,rt,bk,ct⟩ σ H) (hg:PG Y t1 g) (ht:TB Y c1 tt) (he:PE Y elt te) :
  ZrH (Zwf Y.prog Y.w) Y.A (Zou #[RU,t0,i0,c0,sc] 1 #[aj,it] ZbV Y.env) (#[CL,r=.ok ZrB/\#[M',aT Y P σ' H' s'/\nx σ' H']]) s:=by
 obtain⟨W,a_,turn⟩:ao:=hL;obtain⟨m0,w0⟩:=a_;have y_:#[arr,P]:=fun {H'} hn b hb=>#[fc,hn b hb,#[c1,f]];refine #[GE,uF,#[RR,aT Y P σ' H' s',Zc',ZUm],#[Vx,I,st,f]];intro n s6 a_;obtain⟨i,σ6,H6,I6,st6,fr6,w6⟩:eX:=a_;rcases ZBG with ⟨stop,qn⟩ | ⟨go,Nx,hN,step⟩
 ·refine #[Fj,Zajp,P,stop]
  obtain ⟨hr,I7⟩:=zz;subst hr;exact js rfl σ6 H6 I7 qn
 ·refine #[Fj,Zajr,P,go]
  obtain ⟨u,hr,h7⟩:=zz;subst hr;refine ZBp;obtain ⟨x,H8,I8,r8,y8,st8,fr8⟩:=zz;have I8':=ZBF;have hgx:=Zarx;rw[hxe]at hgx;refine bZ hgx ZaqN;obtain ⟨σ9,H9,I9,q9⟩:=zz
  have again:#[arv,P,#[RR,aT Y P σ' H' s',Zc',ZF3]]:=fun [363] I7 n7=>by
   refine ZvB;refine ZaqA;refine Zaqd;exact ZaoR
  have htx:=ht _ s9 σ9 H9 _ I9 q9;rw[hxe]at htx;refine bZ htx ZaqO;obtain ⟨H10,I10,Y_⟩:=zz
  cases ok with
  | false =>
   rw[ZdQ]at Y_ ⊢;exact ZBr
  | true =>
   rw[Zaz]at Y_ ⊢;have hex:=he _ s10 σ9 H10 _ I10 Y_;rw[hxe]at hex;refine bZ hex Zaui;obtain ⟨yv,H11,I11,ry,ys,hys,hlen,q11⟩:=zz;exact Zaib
abbrev Wf [282][86]:TS:=#[vZ,tt0,#[v0,#[dn,b,wi1 σ H1 Za3m,ZuP]]]
abbrev V4 (wi:TI)(g0:TG)[282][98]:TE:=fun σ H Q=>wi σ H fun J H1=>∀ a,ZJr ->
 r9 J g0 (Wf tt0 wi1 g1 tt1 te a) Zack Zrl Zad9
def Qc {X:Cx}{elt tg bO t1 i1:Expr}{ifs c1:Zbu}{sc so:Scope}{pos:Pos}{N':Zbp}{src:ZnZ}{wi wi1:TI}{g g1:TG}{tt tt1:TT}{te:TE}{N:Zbp}(hso:Zan0)(hXN:ZLe)(S:ZapQ)(hc:ZfT)(hi:ZBq)
  (hb:#[WT,ZXb/\ZXc/\PI #[a2_,C,ex] t1 i1 wi1/\#[pM,PG,t1,g1]/\#[pM,TB,c1,tt1]/\Zav6])
  (hs:ZFE:=by intro _;rfl) (hs1:∀ env x,#[FD,i1,env]=Zck x:=by intro _ _;rfl):PE X ZaZ1 (V4 wi g tt wi1 g1 tt1 te src):=by
 subst hXN;intro pins s σ H Q I h
 refine aK (qo (sc:=sc) (env:=X.env) fun y hy hf=>by
  have:=ZKM;rw[<-hso]at this
  exact ZM4) ZHI
 rw[eval_ListComp];refine Za6_;obtain⟨it,fp,tn,J,H2,e,I2,T,st2,f2,hR⟩:iT:=h2;subst e;refine ZIv
 have I3:ZbcU :=
  ZatA
 have hfr:=ZakX;refine ZMe;obtain⟨m0,w0⟩:=a_
 have flt:ZA6:=ZapY
 generalize hs3:ZbcT=s3 at I3 ⊢
 have e3:ZbcR:=ZHJ
 have sz3:ZNE:=ZKS
 have O_:Zaos:=ZaqC
 have aq3:ZND:=ZL7
 have st3:Zan6:=Zapr
 refine aZF S.nocell (by intro y hy;simp at hy) ZLd S.kind;have kp4:Zapj:=ZKL;have I4:=ZajQ;have st4:ZJY:=Zaps;generalize hC:s3.heap.objs.size=C at I4 aq2 aq1 ⊢;refine dR (hb cl C s3 Zaoq fp) fun hg ht hi1 hg1 ht1 he=>?_
 let Y:Cx:=Zaot
 have loop:∀ s5:Shared,ZajP->codeAny Zw_ X.A #[a6Z,ZaZ1]
   ZatW s5:=by
  rintro s5 rfl
  have y_:Zars:=fun {H'} hn b hb=>by
   refine ZMo;refine ZapI
   ·show Zyp
    rw[<-hC];exact ZLA
   ·have z:ZAl:=z
    rcases ZLU with y | y
    ·exact f1 y
    ·exact ZIQ
  refine sr (#[cV,hs1 _ x]) (fun n s'=>Zaso) ?_ m0 #[Vx,I4,st4,O_];intro n s6 a_;obtain⟨i,σ6,H6,I6,st6,fr6,w6⟩:eX:=a_;rcases ZBG with ⟨stop,qn⟩ | ⟨go,Nx,hN,step⟩
  ·refine Zajq
   obtain ⟨hr,I7⟩:=zz;subst hr;refine ZaqI;refine Zasx
   have neC:Zapi:=ZaqK
   have freeC:ZLg:=I7.free
   have un:ZaLC :=
    ⟨ZbcI,fun b o e n hb hx=>by
      obtain⟨sl,q⟩:=ZabR
      exact Zac0,I7.base.free,fun b o e hx=>by
      obtain⟨o',q⟩:=Zaby
      exact ZacZ,I7.base.tups,I7.base.frzs,I7.base.tbls⟩
   have hok:ZagF:=fun b ob e=>by
    refine Zats;rintro rfl;rcases hc' with z | z
    ·rw[<-z,freeC]at e;cases e
    ·rw[freeC]at z;cases z
   have J7:Zap0:=ZatR;exact ZahG
  ·refine Zajs
   obtain ⟨u,hr,h7⟩:=zz;subst hr;refine ZBp;obtain ⟨x,H8,I8,r8,y8,st8,fr8⟩:=zz;have I8':=ZBF;refine Zary;obtain ⟨σ9,H9,I9,q9⟩:=zz
   have again:Zarw:=fun [363] I7 n7=>by
    refine ZvB;refine ZaqA;refine Zaqd;exact ZaoR
   refine ZaqP;obtain ⟨H10,I10,Y_⟩:=zz
   cases ok with
   | false =>
    rw[ZdQ]at Y_ ⊢;exact ZBr
   | true =>
    rw[Zaz]at Y_ ⊢;refine #[Xk,hi1,fun x1 s11 h11=>bZ h11 fun it1 A_ h12=>?_];obtain⟨ia,fp1,tn1,J1,H12,e1,I12,T1,bz0,f12,hR1⟩:iT:=h12;subst e1;have inner:=JE (Y:=Y) (t0:=tg) (i0:=bO) (c0:=ifs) (i1:=i1) (sc:=sc) (pos:=pos) hc rfl I12 T1 bz0 f12 hR1 hg1 ht1 he;have ax9:=aX2 inner (R':=#[axY,#[sQ,#[RR,aT Y [] σ' H' s₆,s₆.heap,ZF3]]]) fun r s6 ⟨er,σ7,H7,I7,n7⟩=>⟨er,ZafG⟩;exact sv ax9 (T1.self _ 0 _ _ _ bz0 ax9)
 exact ZatO
#print L2
namespace Qs
open PySem PySem.W PyProof.Rows
structure Z4 [42][128]:Zaa where
 irr:∀ i,lt i i=Zay
 tot:∀ i j,i<n->j<n->i≠j->lt i j=Zad\/lt j i=Zad
 tr:∀ i j k,lt i j=Zad->lt j k=Zad->lt i k=Zad
abbrev ask [80][128]:ZadM->α
 | Zf1 a=>a
 | ZaXL=>ask lt (k (lt i j))
abbrev Zo [80][42][128]:ZadM->Zaa
 | Zf1 _=>True
 | ZaXL=>i<n/\j<n/\Zo n lt (k (lt i j))
abbrev Z7 [80][42][128](t:ZadM)(R:α->Zaa):Zaa:=Zo n lt t/\R (ask lt t)
section
variable {n:Nat}{lt:ZJp}{p:Zm0}
abbrev Pm [42](p:Zm0):Zaa:=p.Perm (List.toArray (ZiM n))
abbrev Up [454]:Zaa:=∀ i j,i<j->j<k->lt ZaOw ZaQJ=Zad
abbrev Dn [454]:Zaa:=∀ i j,i<j->j<k->lt ZaQJ ZaOw=Zad
#where
abbrev ZA (p q:ZgF):Bool:=#[aVA,p.2<q.2]
abbrev ZQ [59](i j:Nat):Bool:=ZA (Zak' i ZHL) (Zak' j ZHL)
abbrev UI [139][255][174]:Zaa:=∃ (b:Addr)(o:Obj)(n:Nat)(t u:Tok),ZaO9/\ZeK/\ZyW/\o.data=Za3 #[Zah p.1 t,Zah p.2 u] n
section
variable {prog:Program}{w:World}{A:Around}{E:ZfG}{s:Shared}
abbrev Yz [421][59](out:Zb4):Zaa:=#[a2F,ZHL,ZA]
#where
abbrev Zq [139][399](es:ZY8)(ep:Nat):Zaa:=∃ o,Zef d=Zab o/\Za6w/\ZaeG
#print Qs
namespace Wz
open PySem PySem.Spec PyProof.Rows L2
def BC [80](d:α)[448]:#[m4,Zb8] (#[iH,l.getD i d])=l:=by
 apply List.ext_getElem?
 intro i;rw[aQI]
 by_cases hi:i<Zb8
 ·rw[aXK hi];simp[hi]
 ·rw[Za8H (Zala),#[cD,Za8H]];rfl
#print Wz
namespace L2
open PySem PySem.Spec PyProof.Rows
def aT.thaw [61][4]{d:Addr}{o:Obj}{u:HO}[3](hd:ZaDa)(h0:#[agQ,ZMZ d]):#[b0,Zad5,s]:=by
 have up:∀ b,ZaTz=Zac->Zbb:=fun b e=>by
  by_cases hb:b=d
  ·rw[hb,ac]at e;cases e
  ·rw[Zfk]at e;exact e
 have dn:∀ b,Zbb->ZaTz=Zac:=fun b e=>by rw[ai (fun z=>by rw[z,hd]at e;cases e)];exact e
 have ne:∀ b v,#[cf,v]->(∀ o' u',v≠ZiE o' u')->b≠d:=fun b v e n z=>#[VI,hd,n _ _ ZHd]
 refine⟨I.ok,ZvT,ZCm,⟨ZM0,ZM1,fun b ob e n hx=>dn _ (ZB5 b ob e n hx),ZOo,#[aiU,?_],fun b ob v e=>?_,fun b ps e=>?_⟩,Zrx,ZlG,dn _ ZvU,#[alc,dn _ ZWa],Zp4,fun b ob e=>?_,ZB'⟩
 ·have e1:=ZaiV b xs e
  rw[ai (ne b _ e1 (fun _ _ z=>by cases z))];exact e1
 ·have nb:b≠d:=#[aH,h0 ob v #[eW,z,e]]
  rw[ai nb];exact ZaiW b ob v e
 ·obtain⟨more,e1⟩:=Zbd9
  exact⟨more,by rw[ai (ne b _ e1 (fun _ _ z=>by cases z))];exact e1⟩
 ·refine eJ (ZlH p hp) fun a1 a2 a3=>?_
  exact ⟨a1,dn _ a2,a3⟩
 ·have tr:∀ v,#[aV3,H]->#[aV3,Zad5]:=fun v x=>x.stay (fun c w' hc q=>q) (fun c q=>(by rw[ai (ne c _ q (fun _ _ z=>by cases z))];exact q)) (fun c y q=>(by rw[ai (ne c _ q (fun _ _ z=>by cases z))];exact q))
  by_cases hb:b=d
  ·rw[hb,ac]at e
   cases e;obtain⟨_,x⟩:=#[mx,H,ZaD,d,Zyt,Zbl d _ hd];rw[hb];rw[hb]at tr;exact tr u x
  ·rw[Zfk]at e
   exact tr ob (Zbl b ob e)
abbrev X5 (H0:Hp)(nx:Zgp):Zgp:=fun σ H=>∃ d o u,ZaDa/\(#[agQ,H0 d])/\nx σ Zad5
def SS [61]{st:Stmt}{t:TS}(h:Zad7):PS X st (#[vY,t { D with nx:=X5 ZMZ Zog } σ H]):=by
 intro pins s σ H D I ht;refine bZ (h Zam s σ H _ I ht) fun f s' hq=>?_
 cases f with
 | next=>obtain⟨σ',H',I',a_⟩:cD:=hq;obtain⟨d,o,u,hd,h0,q⟩:eZ:=a_;exact #[fR,σ',I'.thaw hd h0,q]
 | brk=>exact hq
 | cont=>exact hq
 | ret v=>exact hq
#print L2
namespace Wz
open PySem L2
structure UA [82][181]:Zaa where
 kn:(st.circ.map (·.1)).Nodup
 kl:#[Oy,#[atq,#[gH,x.2,b∈L]]]
def YE [29]:UA L Zls:=⟨aXs,fun x h=>by cases h⟩
set_option tactic.hygienic true
def Rx {L ks:Zbq}{b:Int}(h:Za8I/\#[ale,x∈L])(hb:b∈L):#[adu,0].Nodup/\#[fA,rn ks b,x∈L]:=by
 unfold rn;split
 ·exact h
 ·rename_i n
  refine⟨xz h.1 n,Zuj⟩;rcases ZEa with z | z
  ·exact h.2 x z
  ·rw[Zdd];exact hb
def Fe [29]{a b:Int}(ha:a∈L)(hb:b∈L):∀ [235],(ci.map (·.1)).Nodup->ZaLO ->
  (#[uZ,0].map (·.1)).Nodup/\(#[fA,ZaKm,Zavu])/\∀ k,k∈#[uZ,0].map (·.1)->k∈ci.map (·.1)\/k=a
 | [],_,_=>by
  refine #[aY,(Za8q),ZmC,fun k hk=>?_]
  ·simp[eV]at hx
   subst hx;exact #[aY,ha,ZaV,#[ka,by simp at hy;rw[hy];exact hb]]
  ·simp[eV]at hk
   exact Zap hk
 | x::r,hn,hl=>by
  rw[aQv,aQ0]at hn;unfold eV
  by_cases h:x.1=a
  ·rw[Zcy]
   refine #[aP2,#[ih,aQv,aQ0,hn],Zal (Zaj9)];rcases ZI0 with z | z
   ·subst z
    refine eJ (hl x aQi) fun h1 h2 h3=>?_;exact⟨h1,Rx ⟨h2,h3⟩ hb⟩
   ·exact hl y ZAh
  ·rw[Zcx]
   refine eJ (Fe ha hb (ci:=r) hn.2 (#[RH,hl])) ZHM;refine #[aP2,?_,?_]
   ·rw[aQv,aQ0]
    refine⟨ZfO,i1⟩;rcases i3 _ z with z | z
    ·exact hn.1 z
    ·exact h z
   ·rcases ZI0 with z | z
    ·subst z;exact hl _ aQi
    ·exact i2 y z
   ·rw[aQv]at hk
    rcases #[hU,hk] with z | z
    ·exact Zal (Zapy)
    ·rcases i3 k z with z | z
     ·exact Zal ZAh
     ·exact Zap z
def OD [29][78]{d:bc}(h:ZacV)[403]:UA L (hZ st d):=by
 unfold hZ;split
 ·cases d with
  | come g=>exact⟨h.kn,ZrV⟩
  | go g=>exact⟨h.kn,ZrV⟩
  | exch a b =>
   have ha:=ZaJO;have hb:=ZaNU;refine eJ (Fe ha hb h.kn ZrV) fun j1 j2 _=>?_;refine eJ (Fe hb ha j1 j2) fun k1 k2 _=>?_;exact⟨k1,k2⟩
 ·exact h
def JA [29]{a:Int}:∀ [235],ZaLO->#[KV,0].Nodup/\(#[kb,Zaee,y∈L])/\∀ y,y∈Zaee->a∈ci.map (·.1)
 | [],_=>⟨aXs,(fun y h=>by cases h),(fun y h=>by cases h)⟩
 | x::r,hl=>by
  unfold u9
  by_cases h:x.1=a
  ·rw[Zcy]
   refine eJ (hl x aQi) fun _ h2 h3=>?_;exact #[aY,h2,h3,fun y _=>by rw[<-h];simp]
  ·rw[Zcx]
   refine eJ (JA (ci:=r) (a:=a) #[RH,hl]) ZHM;exact #[aY,i1,i2,#[ka,aQh _ (i3 y hy)]]
def UA.kk [29][78](h:ZacV):ZrS<=Zhv:=by
 have:=ky h.kn (m:=L) #[f9,by refine ao (ZrW hx) fun y hy e=>?_;rw[<-e];exact (ZrV y hy).1]
 rwa [Z9]at this
structure MO [33]:Zaa where
 nd:ml.Nodup
 lo:#[alf,p.1<p.2]
def ZS:MO []:=⟨aXs,fun p h=>by cases h⟩
def Se [78][18](h:MO ml)[470]:MO (vd st ml d):=by
 unfold vd;split
 ·rename_i hj
  cases d with
  | come g=>exact h
  | go g=>exact h
  | exch a b =>
   have W_:ZI_:=fun e=>by
    subst e
    cases e:ZSC with
    | none=>simp[bo,e]at hj
    | some m=>simp[bo,e]at hj
   show MO ZaX4
   unfold yq;split
   ·exact h
   ·rename_i n
    refine#[ne,Zp4]
    ·rw[aXX]
     exact #[aY,h.nd,ZaV,#[a8J,n (by rw[ZaBr]at e;rw[<-e];exact hx)]]
    ·rcases ZZG with z | z
     ·exact h.lo p z
     ·rw[Zdd]
      unfold lH;split
      ·assumption
      ·show a<b
       lia
 ·exact h
#print Wz
namespace L2
open PySem PySem.Spec PyProof.Rows
def IA [329]:PI X tg l (O6 K tl):=by subst hK;exact cE hl
def Ra {wi1:TI}{g1:TG}{tt1:TT}{te:TE}[200](h:wi1 σ H Za3m):Wf AF wi1 g1 tt1 te a D σ H:=by
 unfold Wf AF;dsimp only;rw[Zaz];exact h
#print L2
namespace Wz
open PySem L2
abbrev yH:bc->ZbQ
 | ZaAK=>true
 | _=>false
def J0 [181][33][470]:#[bf,Zag',ZakR+#[a'w,yH d]]:=by
 unfold vd;split
 ·cases d with
  | come g=>exact ZaX
  | go g=>exact ZaX
  | exch a b=>show #[bf,(yq ml _),_];unfold yq;split<;>simp[yH]
 ·lia
abbrev gR [172]:Zd4:=ZOJ yu []
def yP [172][470]:gR ZKb=yu (gR ds) d:=by unfold gR;rw[aZY];rfl
def BB:∀ [172][181],(ZOJ ZrT st).deeds=ZlA++ds
 | [],st=>ZaU
 | d::ds,st=>by rw[aXY,BB ds,GX,aXf];rfl
def Db [172]:#[ZN,0].deeds=ds:=by unfold bd;rw[BB];rfl
structure Ru [82][172]:Zaa where
 good:kT (bd ds)
 of:Of L (bd ds)
 sz:Sz ZiV (bd ds)
 al:DY (bd ds) Zab4
 ci:UA L (bd ds)
 mo:MO (gR ds)
 ml:#[bd,gR,ds]<=#[bd,ds.filter,yH]
def Xs [29]:Ru L []:=⟨BG,of_empty,ZX,GY,YE,ZS,ZaX⟩
def jt [370][260]:hZ (bd ds) d=bd (Zab9):=by unfold hZ;rw[Zc9,uB]
def Cn [370][260]:vd ZZN Zab4 d=gR (Zab9):=by unfold vd;rw[Zc9,yP]
def Ru.next [29][370](h:Ru L ds)[260][341]:Ru L ZKb:=by
 have e1:=ZuW;have e2:=Cn hj;refine#[aYr,?_,?_]
 ·rw[<-e1];exact Eo h.good #[gc,(hn g hg).2]
 ·rw[<-e1];exact SB h.good h.of #[gc,ZaK8]
 ·rw[<-e1,aQl];exact Tk h.sz d
 ·rw[<-e1,<-e2];exact Jw h.al
 ·rw[<-e1];exact OD h.ci #[gc,ZaK8]
 ·rw[<-e2];exact Se h.mo d
 ·rw[<-e2,aXQ,aQl]
  have h1:=J0 ZZN Zab4 d;have h2:=h.ml;cases e:yH d<;>simp[e]at h1 ⊢<;>lia
def qF [29][173](hd:cJ ds)(hn:#[alg,ZE4]):∀ i,Ru L (ZCU i)
 | 0=>Xs
 | i+1=>by
  have ih:=qF hd hn i;rw[aQM]
  cases e:ds[i]? with
  | none=>simpa using ih
  | some d=>rw[aQK];exact ih.next (hd i d e) (hn d (aQC e))
def RV {i j c:Int}(hi:0<=i/\i<100)(hj:0<=j/\j<100)(h:lC i c=lC j c):i=j:=by
 have ht0:0<=ZaoF:=ZUY;have ht1:ZaoF<ZCG:=ZUZ;unfold lC at h;dsimp only at h;generalize ZaoF=t0 at *;generalize ZE5=q at *
 have h2:#[nh,(i*ZqC+q)]=#[nh,(j*ZqC+q)]:=by
  by_cases e:ZgX%5=4
  ·rw[Zim,Zim]at h;lia
  ·rw[Zil,Zil]at h;exact h
 have h3:Zaub ∣ (i-j)*ZqC:=by
  have h5:=Int.dvd_of_emod_eq_zero (Int.emod_eq_emod_iff_emod_sub_eq_zero.mp h2)
  have e:i*ZqC+q-(j*ZqC+q)=(i-j)*ZqC:=#[gJ,Zalh]
  rw[e]at h5;exact h5
 have key:∀ d:Nat,d<100->d≠0->Nat.gcd Zes d=1:=Zao
 by_cases hij:i=j
 ·exact hij
 exfalso
 have h6:Zes ∣ (i-j).natAbs*ZaxU:=by
  have:=Int.natAbs_dvd_natAbs.mpr h3;rw[Int.natAbs_mul]at this;exact this
 have h7:Zes ∣ ZaxU:=Nat.Coprime.dvd_of_dvd_mul_left (key _ Zaf (Zae)) h6;have:=#[nj,Nat.le_of_dvd,h7]
 lia
inductive KU [12]:Zaa
 | mk (t ld w m ls:Addr)(H0:Hp)(es ds:Zcj)[82](_:vs=[Zai t,Zai ld])[122](_:jL H ld ds)(_:ld≠ls)(_:cJ (es++ds))(_:Zabv)(_:(#[UE,es++ds]))(_:#[bf,ZaDF,300])(_:#[aUv,(bd (es++ds)),(gR (es++ds)),#[d9,t]])
def RU {k c m:Int}(h:ZaR9):ZZ9∈Zfq m c:=by
 unfold namesL;rw[aQy];exact #[aY,ZrI,ZazL,#[e0,Zali h.1]]
def vJ [203]:∃ k:Int,(ZaR9)/\g=ZZ9:=by
 unfold namesL at h;obtain⟨k,hk,rfl⟩:ao:=ZYR;have:=Zabu;exact #[eE,k,Zaf]
def vK {m n c g:Int}(h:g∈Zfq m c)(hmn:m<=n):g∈Zfq n c:=by
 obtain⟨k,hk,rfl⟩:ao:=vJ h;exact RU ⟨hk.1,Zae⟩
abbrev Wo [115]:Zaa:=#[j3,f a=f b->a=b]
def Df [328][275](h:g∉aU w):wr w g=g:=by
 unfold wr
 cases e:ZaZ w g with
 | none=>rfl
 | some m=>exact #[aOc,h]
abbrev bO [115]:Nat->Int->Int
 | 0,g=>g
 | n+1,g=>f (bO f n g)
def wZ [115](m:Nat):∀ [42][169],bO f (n+m) g=bO f n (bO f m g)
 | 0,_=>#[b6,Nat.zero_add]
 | n+1,g=>by
  rw[Nat.add_right_comm]
  show f (bO f (n+m) g)=f (bO f n (bO f m g))
  rw[wZ f m n g]
def BN [93](h:Wo f):∀ [42]{a b:Int},bO f n a=bO f n b->a=b
 | 0,_,_,e=>e
 | n+1,_,_,e=>BN h n #[ff,h]
def ui [93][194]:∀ n,bO f n g∈ks
 | 0=>hg
 | n+1=>hk _ (ui hk hg n)
def yU:∀ {l:Zbq},¬ l.Nodup->∃ i j:Nat,i<j/\#[aMi,#[di,l[j]?]]
 | [],h=>#[oR,aXs,h]
 | a::r,h=>by
  by_cases ha:a∈r
  ·obtain⟨n,hn,e⟩:=aX1 ha
   exact ⟨0,n+1,Zbdd,#[ii,a,by rw[List.getElem?_cons_succ,aQw hn,e]]⟩
  ·have hr:¬ r.Nodup:=#[aH,h (aQ0.mpr ⟨ha,z⟩)]
   obtain⟨i,j,hij,x,e1,e2⟩:=yU hr;exact ⟨i+1,j+1,Nat.succ_lt_succ hij,⟨x,Zakf,Za7c⟩⟩
def JD [93](hf:Wo f)[194]:∃ n,0<n/\n<=Zwu/\bO f n g=g:=by
 have h:¬ (ZaST Zax1).Nodup:=fun nd=>by
  have:=ky nd (m:=ks) fun x hx=>by
   obtain⟨n,_,rfl⟩:ao:=ZrY;exact ui hk hg n
  rw[Z9,aXq]at this
  lia
 refine Za0E;obtain⟨x,e1,e2⟩:ao:=a_;rw[aQI]at e1 e2
 have hj:j<ZVN:=by
  have:=(Zrz (#[ON,#[di,(ZaST Zax1)[j]?],aQI,e2])).1;simpa using this
 have hi:i<ZVN:=Zae
 rw[aXK hi]at e1;rw[aXK hj]at e2;have e1':bO f i g=x:=ZJf;have e2':bO f j g=x:=aQp e2;refine ⟨j-i,Zaf,Zaf,?_⟩
 have e3:ZaWH:=Za1v
 rw[wZ]at e3;exact BN hf i e3
def JL [93][275]:∀ [42],0<n->bO f n g=g->∃ m,0<m/\m<=n/\bO f m g=g/\Zaho:=by
 intro n
 induction n using Nat.strongRecOn with
 | _ n ih =>
  intro hn he
  by_cases h:∃ k,0<k/\k<n/\bO f k g=g
  ·obtain⟨k,k0,kn,ke⟩:aK:=h
   refine jp (ih k kn k0 ke) fun m m0 mk me mf=>?_;exact cY m m0 Zaf me mf
  ·exact cY n hn Za8 he (fun k k0 kn ke=>h ⟨k,k0,kn,ke⟩)
abbrev db [115][169](m:Nat):Zbq:=#[m4,m] #[iH,ZG7]
def vX [93](hf:Wo f)[275]{m:Nat}(hm:Zaho):ZaMv:=by
 cases Classical.em ZaMv with
 | inl h=>exact h
 | inr h =>
  refine Za0E;obtain⟨x,e1,e2⟩:ao:=a_;unfold db at e1 e2
  have hj:j<m:=by
   have:=ZaAu;simpa using this
  rw[aQI,ZZd]at e1;rw[aQI,aXK hj]at e2;have e1':bO f i g=x:=ZJf;have e2':bO f j g=x:=aQp e2
  have e3:ZaWH:=Za1v
  rw[wZ]at e3;exact #[oR,(BN hf i e3),(hm (j-i) Zaf (Zae))]
def Ad [93][275]{m:Nat}(hm:0<m)(he:bO f m g=g){x:Int}(hx:x∈ZKx):f x∈ZKx:=by
 unfold db at hx ⊢;obtain⟨i,hi,rfl⟩:ao:=ZrY;have hi:=ZaAo
 by_cases h:i+1<m
 ·exact Zl0 #[eE,i+1,Zn' h]
 ·refine Zl0 #[cg,0,Zn' hm]
  have:i+1=m:=Zae
  rw[<-this]at he;exact he.symm
def C6 (l:Zbq):#[aaR,0].Perm l:=Za8K l _
abbrev yp [115][169](m:Nat):Zaa:=0<m/\bO f m g=g/\Zaho
abbrev DN [330][169]:Nat:=(ZaMA #[iH,#[lJ,bO f Zce g=g]]).getD 0+1
abbrev ie [330][169]:Zbq:=db f g (DN f N g)
def Bz (p:ZAN):∀ (N m:Nat),m<N->p m=Zad->(∀ k,k<m->p k=Zay)->ZaMA p=Zab m
 | 0,m,h,_,_=>Zae
 | N+1,m,h,hm,hk=>by
  rw[List.range_succ,List.find?_append]
  by_cases e:m<N
  ·rw[Bz p N m e hm hk];rfl
  ·have e:m=N:=Zae
   subst e;rw[List.find?_eq_none.mpr #[f9,#[fs,hk x (ZN4 hx)]]];simp[hm]
def PY [93][275]{m N:Nat}(h:Zacz)(hN:m<=N):DN f N g=m:=by
 obtain⟨h0,h1,h2⟩:eJ:=h;unfold DN;rw[Bz _ N (m-1) Zaf #[aM,#[p5,m-1+1,m],aQe h1] fun k hk=>aQg (h2 Zdp Zaf (Zae))];simp;lia
def Er [225][275](hg:g∈K)[455]:ZaLq:=by
 refine aK (JD hf hk hg) fun n n0 n1 n2=>?_;refine jp (JL n n0 n2) fun m m0 m1 m2 m3=>?_;have R:Zacz:=⟨m0,m2,m3⟩;rw[PY R Zaf];exact R
def n9 [93]{g x:Int}{m:Nat}:x∈ZKx↔∃ i,i<m/\x=ZG7:=by
 unfold db;rw[aQy];constructor
 ·intro a_;obtain⟨i,hi,rfl⟩:ao:=a_;exact #[eE,i,ZaAo]
 ·intro a_;obtain⟨i,hi,rfl⟩:ao:=a_;exact #[eE,i,Zn' hi]
def zK [93]{S:Zbq}(h:Zae3):∀ [42]{x:Int},x∈S->bO f n x∈S
 | 0,_,hx=>hx
 | n+1,_,hx=>h _ (zK h n hx)
def CS [93][275]{m:Nat}(R:Zacz){S:Zbq}(hS:Zae3)(hg:g∉S):#[fA,ZKx,x∉S]:=fun x hx z=>by
 obtain⟨i,hi,rfl⟩:ao:=ZabG;have:=zK hS (m-i) z;rw[<-wZ,#[p5,m-i+i,m],Zz_]at this;exact hg ZbR
abbrev hG [330]:Zbq->Zbq->ZSl
 | [],_=>[]
 | g::ks,S=>#[b5,g∈S,ZaeH,ZjM::hG f N ks Zafc]
def tq [225][455]:∀ [428],(ZaxZ)->(Zae3) ->
  #[atg,0].flatten.Nodup/\(#[fA,Zath,x∉S/\x∈K])/\(#[ale,x∈S\/x∈Zath])/\∀ r∈ZaeH,∃ g∈ks,r=ZjM/\ZaLq
 | [],S,_,_=>Za8M
 | g::ks,S,h1,h2=>by
  have hgK:=h1 g aQi;have h1':ZaxZ:=#[ape,h1];unfold hG
  by_cases hg:g∈S
  ·rw[aQd hg]
   refine iu (tq hf hk hN ks S h1' h2) ZHN;refine ⟨a,b,ZmC,(ZtE)⟩
   ·rcases ZuU with rfl | z
    ·exact Zal hg
    ·exact c x z
   ·refine #[aZV,hr]
    exact ZaQi
  ·rw[aQc hg]
   have R:=Er hf hk hgK hN;have ap:=CS R h2 hg;have cl:#[fA,ZjM,f x∈ZjM]:=#[f9,Ad R.1 Zz_ hx]
   have inK:#[fA,ZjM,x∈K]:=fun x hx=>by
    obtain⟨i,hi,rfl⟩:ao:=ZabG;exact ui hk hgK i
   have g0:g∈ZjM:=Zalj ZaOe
   refine iu (tq hf hk hN ks Zafc h1' fun x hx=>by
    rcases ZEa with z | z
    ·exact Zoy (Zal (h2 x z))
    ·exact Zoy (Zap (cl x z))) ZHN
   rw[aXp];refine ⟨?_,ZmC,ZmC,(ZtE)⟩
   ·rw[aXX]
    exact #[aY,vX hf R.2.2,a,#[a8J,(b y hy).1 (Zoy (Zap #[eW,e,hx]))]]
   ·rcases ZEa with z | z
    ·exact⟨ap x z,inK x z⟩
    ·exact#[fc,#[bk,(b x z).1 (Zoy (Zal q))],(b x z)]
   ·rcases ZuU with rfl | z
    ·exact Zap (Zoy (Zal g0))
    ·rcases c x z with q | q
     ·rcases ZaAj with q | q
      ·exact ZIm
      ·exact Zap (Zoy (Zal q))
     ·exact Zap (Zoy (Zap q))
   ·rcases ZfZ hr with rfl | z
    ·exact ⟨g,aQi,rfl,R⟩
    ·refine #[aZV,z]
     exact ZaQi
def Eu [93]{N:Nat}[275]:#[dM,(ie f N g),DN f N g]:=by unfold ie db;rw[Z9,aXq]
def Paired.mapP' [440]:#[a1o,a∈l₁->F a b->G a b]
 | _,_,Zan,_=>Zan
 | _,_,ZaOh,h=>ZaB (h _ _ aQi e) (Paired.mapP' r fun a b ha=>h a b ZazO)
structure Ju [176]:Zaa where
 inj:Wo (wr W)
 cl:#[iZ,Zir,wr W g∈Zir]
 nd:#[KT,W]
def oW [65][275](h:g∈Zir):#[gs,W,g,(wr W g)]:=by
 obtain⟨m,e⟩:=Zop (ZCH h);unfold wr;rw[e];rfl
def xQ [78](G:ZnW):ZaI':=by
 refine⟨fun a b e=>?_,#[gc,Zkl g _ (oW hg)],G.wn⟩
 by_cases ha:a∈Zg9
 ·have ea:=oW ha
  by_cases hb:b∈Zg9
  ·have eb:=oW hb
   have h1:=(Zkm a _).mp ea;have h2:=(Zkm b _).mp eb;rw[e,h2]at h1;exact #[pr,h1]
  ·have:=Zkl a _ ea
   rw[e,Df hb]at this;exact #[oR,ZbR,hb]
 ·by_cases hb:b∈Zg9
  ·have:=Zkl b _ (oW hb)
   rw[<-e,Df ha]at this;exact #[oR,ZbR,ha]
  ·rw[Df ha,Df hb]at e
   exact e
def BZ [176]:#[bd,aU,W]=Ze3:=by unfold aU;rw[Z9]
def Ju.ring [456]:yp Zca g (DN Zca Ze3 g):=Er ZOO P.cl hg #[aM,BZ,ZaX]
def Ju.ord_le [456]:ZaGR<=Ze3:=by
 have h:=ky (vX ZOO (Zalk hg).2.2) (m:=Zir) fun x hx=>by
  obtain⟨i,_,rfl⟩:ao:=ZabG;exact ZaTD
 rw[BZ]at h;unfold db at h
 rwa [Z9,aXq]at h
abbrev gJ [176]:ZSl:=hG Zca Ze3 Zx' []
def Ju.wrong [270]:(#[iZ,Zrc,g∈Zir/\wr W g≠g])/\#[x',0].Nodup/\(#[iZ,Zrc,wr W g∈Zrc])/\#[bd,cC,W]<=Ze3:=by
 have m:∀ g,g∈Zrc↔g∈Zir/\wr W g≠g:=fun g=>by
  unfold cC;rw[aZp,#[Yh,0].mem_iff];simp
 refine ⟨#[zF,ZadU hg],(#[Yh,0].nodup_iff.mpr P.nd).filter _,#[zF,(m _).mpr ⟨P.cl g (ZadU hg).1,#[aH,(ZadU hg).2 #[p8,ZOO]]⟩],Oi W⟩
def vW [115][169][221]:db f g Zce=db f g i++[ZG7]:=by unfold db;rw[List.range_succ,aQt];rfl
def uv [115][169][221]:#[dM,(db f g i),i]:=by unfold db;rw[Z9,aXq]
abbrev ya [330](q:ZaeM)[169]:ZaeM:=if g∈q.1 then q else (q.1++ZjM,q.2++[ZjM])
def qt [330]:∀ [428][302],ks.foldl (ya f N) (S,rs)=(S++Zath,rs++ZaeH)
 | [],S,rs=>Za8M
 | g::ks,S,rs=>by
  rw[aXY];unfold ya hG
  by_cases h:g∈S
  ·rw[Zcy,Zcy];exact qt f N ks S rs
  ·rw[Zcx,Zcx]
   have:=qt f N ks Zafc (rs++[ZjM]);unfold ya at this;rw[this,aXp];simp
abbrev qR [176][221]:ZaeM:=#[Tp,0].foldl (ya Zca Ze3) ([],[])
def Kw [176][71](h:#[bd,cC,W]<=n):(qR W n).2=gJ W:=by unfold qR;rw[aXr h,qt];rfl
def Mf [65]{i:Nat}[275](h:#[av,Zx'[i]?,g]):qR W Zce=ya Zca Ze3 (qR W i) g:=by unfold qR;rw[aQM,h,aQK,aZY];rfl
def Qr [270][221]:#[nV,0].Nodup/\(#[fA,ZnV,x∈Zrc])/\(#[fA,ZnV,wr W x∈ZnV])/\#[bf,ZnV,Ze3]/\#[bf,Zadg,i]:=by
 refine ZBw;have sub:#[fA,ZTo i,x∈Zrc]:=#[f9,aZH hx];refine iu (tq P.inj w3 w4 ZTp [] sub (fun x h=>by cases h)) ZHN
 have e:qR W i=(#[kf,Za0n],hG Zca Ze3 ZTp []):=by unfold qR;rw[qt];rfl
 rw[e];refine pq a #[mB,ZaeV] ZmC (aQZ (ky a #[f9,ZaeV]) w4) ?_
 ·refine #[azB,hx,fun r hr hxr=>?_]
  obtain⟨g,_,rfl,R⟩:aK:=d r hr;exact Za8N #[bJ,hr,Ad R.1 Zz_ hxr]
 ·have:∀ [428],#[bf,(hG Zca Ze3 ks S),Zwu]:=by
   intro ks
   induction ks with
   | nil=>intro S;exact ZaX
   | cons g ks ih =>
    intro S;unfold hG;split
    ·exact Za8O (ih S)
    ·rw[aQB,aQB]
     have:=ih (S++ZadC)
     lia
  have h1:=ZbR (ZTo i) [];rw[aQQ]at h1
  show #[bf,Za0n,i]
  lia
abbrev WG [32][298][302]:Zaa:=∃ as:Zei,Zabi/\Za0 (fun a (r:Zbq)=>#[d6,ZV1]) as rs
inductive I0 [426][12]:Zaa
 | mk [26][64][20](_:#[a'M,ZaIa])
inductive Mt [426][56]:Zaa
 | mk [346][20](_:ZdG)(_:(#[dn,Zaxk,#[a'M,#[hO,ZaV8]],ZaZh]))
inductive Mv [426][12]:Zaa
 | mk [26][64][20](_:#[ax2,#[uX,Zgr,Zb_,ZaDZ,#[k6,(fun a (r:Zbq)=>H' a=Zab ZV1),as,gJ,ZaI],(Zax3),l]])
inductive IW [12]:Zaa
 | mk [103](_:#[a'L,WG H' l (gJ W)])
def IF [270]:ZaHA<=Ze3/\∀ r∈gJ W,ZeX<=Ze3:=by
 refine ZBw;have h:=Qr P ZaHz;rw[Kw W Za8]at h;refine#[mO,ZtE];obtain⟨g,hg,rfl,R⟩:aK:=((tq P.inj w3 w4 Zx' [] (fun x h=>h) (fun x h=>by cases h)).2.2.2 r hr);rw[Eu];exact Zall (w1 g hg).1
#print Wz
namespace L2
open PySem PySem.Spec PyProof.Rows
inductive Qy [11]:Zaa
 | mk (p:_)(kvs:_)[224](_:#[jZ,Ze8])
def qj [61]:#[ie,ZiQ,Qy]:=by
 intro pins s σ H xs us Q I r h;obtain⟨p,kvs,rfl,hp,q⟩:=h;obtain⟨u,rfl,rx⟩:ao:=ZeP;cases rx;obtain⟨hz,hS,vs,rv,m⟩:Za0B:=ZKh;have hlen:ZiL:=aQx rv;refine kt_call_dict hS m Zaf fun h' hm hs=>?_;have kp:ZaUQ:=fun b o' e=>hs.extBut b o' ZjB Zmt;have e0:ZaXU:=ZaRN;have e1:ZaB6:=e0.2.1;exact #[tb,#[Ly,ZbX,kp,Ze8,⟨hz,e1,vs,rv,hm⟩],Zt3]
def Ll [44]:#[aZz,ZUK,1]:=by
 unfold wM;rw[#[bn,#[af9,ZaJ,1]=min 1 ZaJ,HT.sIx_nat _ _ 1],HT.sIx_none]
 by_cases h:xs=[]
 ·subst h;rfl
 ·have:0<ZaJ:=Za8Q h
  rw[#[e2,min 1 ZaJ=1],aXr (ZXI)]
open PySem PySem.Spec PyProof.Rows PySem.Calls
section
variable {X:Cx}{pins:Zej}{σ:St}{H H':Hp}{s:Shared}
def aT.grown {h':Heap}{t':Nat}(I:Zjf)(k:ZaKT)(old:#[lD,ZaBU->Zbb->Zpm])(sm:ZaEu)
  (new:#[o5,Zg5,Zbb,#[mw,H',h',b,o]]):ZaCY:=by
 refine I.un ⟨Zbdt,Zbdu,#[BZ,old b u q n],ZaiG,#[MX,ZBc],#[aiH,ZBc],fun b ps q=>⟨#[],#[fs,ZBc]⟩⟩ ZHD
 cases hb:H b with
 | none=>exact new b u e hb
 | some v =>
  have:=sm _ _ hb;rw[this]at e;cases e;exact (Zbl b _ hb).stay (ZawB) (fun c q=>ZBc) fun c xs q=>ZBc
#where
def Tv:#[akE,Zel,Za7k]:=Zrg
def Rk:#[akE,Zel,Zakj]:=Zrg
noncomputable abbrev Rq [139](z TI TO:Addr)(f0:Value)(b:Bool):Zaa :=
 Zef z=some { cls:=ZYY,dict:=none,data:=Za1 #[f0,ZIy,ZjL,ZVO,Zai TO],slots:=#[] }
section
variable {prog:Program}{w:World}{A:Around}{E:ZfG}{s:Shared}
def GH [41]{Q:#[fF,#[gi,Obj]]}(h:Q (ZdV a) s):#[wh,(Za8R a)]:=fun Γ p _=>by
 unfold loadIfAlive;rw[Sem.wp_loadIfAlive];exact aQk (M:=ZaPp) (A:=A) (E:=E) h Γ p (Za8S)
def Ic {z TI TO T:Addr}{b:Bool}{o:Obj}{Q:Zazf}(hz:Zao9)(hT:#[q0,T])
  (hQ:∀ h',Zao_->Zv6 z ZaD h'->Q Zay ZlR):#[wh,#[jh,Za8T,z]]:=by
 unfold Builtin.SmallTypes.ownedTupleIsFree;refine #[yz,hz,ZgI T]
 show #[hZ,Za8R T]
 refine #[mW,GH];rw[hT]
 show #[hZ,Zoz #[aj,z] 1]
 refine #[yz,hz,ZIy]
 cases b with
 | true=>exact #[li,aQk,(hQ _ hz (by exact#[d5,fun _ _=>rfl]))]
 | false=>exact aQa (ZOP hz ZaV fun h1 hz1 hs1=>aQk (hQ _ hz1 hs1))
#where
abbrev vG [32]:Zei->ZZ2->Hp
 | [],_=>H
 | _,[]=>H
 | Ziz,Ziv=>#[cL,Zvt,t,ZKP]
def BS [38]:∀ [286][46],b∉ts->vG H ts ps b=H b
 | [],_,_,_=>rfl
 | ZdO,[],_,_=>rfl
 | Ziz,Ziv,b,h=>by
  show upd Zvt t _ b=_
  rw[ai (ZaY_)];exact BS fun m=>h #[dh,m]
def LP [38]:∀ [286][429],Za8V->b∈ts->vG H ts ps b=Zab o->Zbb->∃ j:Nat,∃ p,#[av,ts[j]?,b]/\#[av,ps[j]?,p]/\o=ZcJ ZKP
 | [],_,_,_,_,h,_,_=>nomatch h
 | ZdO,[],_,_,_,_,e,n=>by rw[#[et,vG H (_::_) []=H],n]at e;cases e
 | Ziz,Ziv,b,o,nd,h,e,n=>by
  by_cases hb:b=t
  ·subst hb
   rw[#[aLx,(b::ts),#[cL,Zvt,b,ZKP]],ac]at e;exact az 0 p rfl rfl (ZHd)
  ·rw[#[aLx,ZadY,#[cL,Zvt,t,ZKP]],Zfk]at e
   refine bM (LP ZavS ((ZfZ h).resolve_left hb) e n) fun j q e1 e2 e3=>?_;exact az Zeb q e1 e2 e3
def BU [38]:∀ [286],Za8V->Zkn=Zen->Za0 (ZaTY) ts ps
 | [],[],_,_=>Zan
 | [],ZdO,_,h=>ZiI
 | ZdO,[],_,h=>ZiI
 | Ziz,Ziv,nd,h=>by
  refine ZaB (show upd Zvt t ZVa t=_ from ac) ?_;have hn:=Zab2
  have key:Za3n:=fun {us qs R S} hRS pr=>by
   induction pr with
   | nil=>exact Zan
   | cons r _ ih=>exact ZaYE
  refine key (R:=ZaTY) (fun u hu q e=>?_) (BU (H:=H) hn.2 ZCi)
  show upd Zvt t _ u=_
  rw[#[tv,#[fP,hn.1,z,hu]]];exact e
#print L2
namespace Wz
open PySem L2
def Oj [65]{x:Int}(h:x∉Zrc):ZaWs:=by
 by_cases hx:x∈Zir
 ·by_cases e:ZaWs
  ·exact e
  ·exact #[oT,ZaiK,⟨#[Yh,0].mem_iff.mpr hx,aQe e⟩,h]
 ·exact Df hx
#print Wz
namespace L2
open PySem PySem.Spec PyProof.Rows
def M9 [299]{v:V}{u r:Value}[53][51][89]{k:df}[189][3][135](l:ZyU)(ry:ZafI)(rv:bJ v r)(h:#[KD,#[b0,#[bA,a,Zazw],s']]) :
  #[w',(dictSet a u r)]:=by
 refine ZapF
 have hz:ZYI:=ZaGd
 have hl:Zad2:=Zatk
 refine #[aZc,wpAny_dictSet_pairs];have he:ZTv:=let ⟨q,_,_,hq,_⟩:=dd';ZAY;exact wN I (by rw[e];exact True.intro) hs he ZaTV
def rq {prog:Program}{w:World}{A:Around}{R:ZnG}{s:Shared}{kx vx target bO:Expr}{ifs:Zbu}{scope:Scope}{pos:Pos}{it:Value}{acc:Addr}{env:Env}(I:ZIi)
  (turn:∀ n s,Zn1->wpAny Zwg A ZQ3 (fun r s₁=>match r with
   | none=>ZL0
   | Zny=>wpAny Zwg A ZaI0 (fun _ s₁'=>wpAny Zwg A ZaIZ (fun _ s₂ =>
     wpAny Zwg A (forIn ifs true fun c r=>if Zz1 then do let ok <-ZCb;ZSj else ZSi) (fun ok s₃ =>
      if ZH7 then wpAny Zwg A #[nv,kx] (fun kv s₄=>wpAny Zwg A #[nv,vx] (fun vv s₅ =>
       Zb7 Zwg A (dictSet acc kv vv) (fun _ s₆=>ZaEC) ZEn s₅) ZEn s₄) ZEn s₃
      else ZKi) ZEn s₂) ZEn s₁') ZEn s₁) ZEn s)
  (n:Nat) (h:Zn1) :
  #[wj,#[a13,Zou]]:=by
 refine ZMC
 show wpAny _ A (#[a13,ZCC].onRaise (fun x=>do Zbc8;ZIt)) _ _ s
 refine ZIw;rw[compTurn_dict];refine ZMA
 cases r with
 | none=>exact ZIU
 | some v =>
  refine ZLt;refine ZMh
  cases ok with
  | false=>exact ZKd
  | true =>
   exact #[au7,fun kv s₄ h₄=>#[aHT,fun vv s₅ h₅=>aQa (aXH (aXo (aQR h₅ (fun _ s₆ h₆=>ZaEx) Zxp)))]]
abbrev Zl (tt:TT)(tk tv:TE)[86]:TS:=#[vZ,tt,#[v0,#[dn,b,#[m_,tk,ZaYz],ZuP]]]
abbrev V6 [301](tk tv:TE)[98]:TE:=fun σ H Q=>wi σ H fun J H1=>∀ a,ZJr ->
 r9 J g (Zl tt tk tv a) Zack Zrl #[d',a,ZcS]
def Qd {X:Cx}{kx vx tg bO:Expr}{ifs:Zbu}{sc so:Scope}{pos:Pos}{N':Zbp}{src:ZnZ}{wi:TI}{g:TG}{tt:TT}{tk tv:TE}{N:Zbp}(hso:Zan0)(hXN:ZLe)(S:ZapQ)(hc:ZfT)(hi:ZBq)
  (hb:#[WT,ZXb/\ZXc/\#[pM,PE,kx,tk]/\#[pM,PE,vx,tv]])
  (hs:ZFE:=by intro _;rfl):PE X ZaSH (V6 wi g tt tk tv src):=by
 subst hXN;intro pins s σ H Q I h
 refine aK (qo (sc:=sc) (env:=X.env) fun y hy hf=>by
  have:=ZKM;rw[<-hso]at this
  exact ZM4) ZHI
 rw[arm_eval_DictComp];refine Za6_;obtain⟨it,fp,tn,J,H2,e,I2,T,st2,f2,hR⟩:iT:=h2;subst e;refine ZIv
 have I3:aT X pins σ Zaor { s2 with heap:=s2.heap.push { cls:=ZiR,dict:=none,data:=Zdb #[] } } :=
  #[atz,(wP Zv1 I2.big)]
 have hfr:=ZakX;refine ZMe;obtain⟨m0,w0⟩:=a_
 have flt:ZA6:=ZapY
 generalize hs3:({ s2 with heap:=s2.heap.push { cls:=ZiR,dict:=none,data:=Zdb #[] } }:Shared)=s3 at I3 ⊢
 have e3:s3.heap=s2.heap.push { cls:=ZiR,dict:=none,data:=Zdb #[] }:=ZHJ
 have sz3:ZNE:=ZKS
 have O_:#[E7,Zaor]:=ZaqC
 have aq3:ZND:=ZL7
 have st3:Zan6:=Zapr
 refine aZF S.nocell (by intro y hy;simp at hy) ZLd S.kind;have kp4:Zapj:=ZKL;have I4:=ZajQ;have st4:ZJY:=Zaps;generalize hC:s3.heap.objs.size=C at I4 aq2 aq1 ⊢;refine iu (hb cl C s3 Zaor fp) fun hg ht hek hev=>?_
 let Y:Cx:=fS X sc cl C N' s3 Zaor fp
 have loop:∀ s5:Shared,ZajP->codeAny Zw_ X.A #[a6Z,ZaSH]
   ZatW s5:=by
  rintro s5 rfl
  have y_:Zars:=fun {H'} hn b hb=>by
   refine ZMo;refine ZapI
   ·show Zyp
    rw[<-hC];exact ZLA
   ·have z:ZAl:=z
    rcases ZLU with y | y
    ·exact f1 y
    ·exact ZIQ
  refine #[awO,rq];intro n s6 a_;obtain⟨i,σ6,H6,I6,st6,fr6,w6⟩:eX:=a_;rcases ZBG with ⟨stop,qn⟩ | ⟨go,Nx,hN,step⟩
  ·refine Zajq
   obtain ⟨hr,I7⟩:=zz;subst hr;refine ZaqI;refine Zasx
   have neC:Zapi:=ZaqK
   have freeC:ZLg:=I7.free
   have un:#[awz,Zaor] :=
    ⟨ZbcI,fun b o e n hb hx=>by
      obtain⟨sl,q⟩:=ZabR
      exact Zac0,I7.base.free,fun b o e hx=>by
      obtain⟨o',q⟩:=Zaby
      exact ZacZ,I7.base.tups,I7.base.frzs,I7.base.tbls⟩
   have hok:ZagF:=fun b ob e=>by
    refine Zats;rintro rfl;rcases hc' with z | z
    ·rw[<-z,freeC]at e;cases e
    ·rw[freeC]at z;cases z
   have J7:Zap0:=ZatR;exact ZahG
  ·refine Zajs
   obtain ⟨u,hr,h7⟩:=zz;subst hr;refine ZBp;obtain ⟨x,H8,I8,r8,y8,st8,fr8⟩:=zz;have I8':=ZBF;refine Zary;obtain ⟨σ9,H9,I9,q9⟩:=zz
   have again:Zarw:=fun [363] I7 n7=>by
    refine ZvB;refine ZaqA;refine Zaqd;exact ZaoR
   refine ZaqP;obtain ⟨H10,I10,Y_⟩:=zz
   cases ok with
   | false =>
    rw[ZdQ]at Y_ ⊢;exact ZBr
   | true =>
    rw[Zaz]at Y_ ⊢;refine #[Xk,hek,fun kv s11 zz=>?_];obtain ⟨y,H11,I11,ry,q11⟩:=zz;refine bZ (hev _ s11 σ9 H11 _ I11 q11) fun vv A_ zz=>?_;obtain ⟨z,H12,I12,rz,kvs,kk,hkv,ey,hlen,q12⟩:=zz;subst ey;exact M9 (X:=Y) I12 hkv ZiP ry rz fun s13 I13=>Zww I13 q12
 exact #[atN,codeAny_compStart_dict]
open PySem
def To {tk tv:TE}[200](h:tk σ H fun y H2=>ZaYz):Zl AF tk tv a D σ H:=by
 unfold Zl AF;dsimp only;rw[Zaz];exact h
#print L2
namespace Wz
open PySem L2
def Ha [44][42]:#[aZz,#[fI,Zbj],n]:=by
 unfold wM;rw[HT.sIx_nat,HT.sIx_none]
 by_cases h:n<=ZaJ
 ·rw[aX0 h,#[g4,aXr,aQN,ZaX]]
 ·rw[Za'2,aZj,#[cD,List.drop_of_length_le]];simp
#print Wz
namespace L2
open PySem PySem.Spec PyProof.Rows
inductive Tb [1][11]:Zaa
 | mk [261](_:#[jP,ns.sum])
def MZ [61][113]:#[JW,"sum",Tb]:=by
 intro pins s σ H xs us Q I r h;obtain⟨p,ns,rfl,hq,q⟩:=h;obtain⟨u,rfl,rx⟩:ao:=ZeP;cases rx;refine ZaCN;have hl:=rv.length;rw[Z9]at hl;refine #[agU,call_sum_walkG,Zhr Zau,I,ZOG]
 have val:Za2G:=fun i v e=>by
  have e:ZaaV:=Zrt
  have hi:Zazx:=ZaxH
  refine Za09;rw[e]at eu;cases eu;obtain⟨t,rfl⟩:=ru;exact ZaPB
 have v_:#[dL,p]:=by obtain⟨o,n,e,_⟩:cD:=pl;exact ZcG
 refine #[ah',(ZN6),⟨ZmS,val,fun h' tk t' k=>az ZYf H ZMk #[e_,t'] ?_⟩]
 ·rcases ZaBp with z | z
  ·rw[z,hI,I_];exact ZH_
  ·rw[Zdd,I_];exact aXB v_
 ·rw[preSum_getD,<-hl,aQH];exact q
def Bu:#[av,entryFor table "dict_itemiterator.__iter__",Builtin.«dict_keyiterator.__iter__»]:=entryFor_alias (id':="dict_keyiterator.__iter__") Zak0 rfl ZcE Zak0
def AA [383][51][266]{it:Addr}[449](hT:#[anU,it,ZNa])(h:ZaJU):#[wh,ZaGr]:=by
 refine wpAny_pyIter_slot hT Za8W (aXO Za8W hT Bu ?go (PySem.F.args_dict_itemiterator_iter_1 _))
 case go =>
  unfold Builtin.«dict_keyiterator.__iter__»;exact aQk #[c3,ZNa,#[fJ,hT,PySem.F.slot_dict_itemiterator_next.lookup,h]]
abbrev WD [399](o:Obj)[184]:It :=
 #[aXI,fun i H y H'=>∃ T p,ZG'/\ZVR/\y=Zai T/\H'=#[cL,H,T,[kV p.1,p.2]]]
def K5 [9][6][303][156][107] :
  #[t_,ZaVZ,ZA3,∃ ok ov,IsItemIter h it d i Zep ep ok ov] where
 mem:=ZaU
 obj:=fun i h st b hb=>by
  have e:ZjI:=ZcM
  subst e;obtain⟨ok,ov,e⟩:=st;exact ⟨_,e,(fun v z=>by cases z)⟩
 keep:=fun i h h' st k=>by
  obtain⟨ok,ov,e⟩:=st;exact ⟨ok,ov,(k it ZaV _ e)⟩
 item:=by
  intro X hP hw hK hc i pins s σ H E I hf st hg;subst hP hw hK;obtain⟨hH,hi⟩:=hg;obtain⟨lo,vs,rel,hat⟩:=ZaUm;obtain⟨f0,f1,f2,f3,f4,f5⟩:=Zagt;have hl:ZiL:=Zlh;obtain⟨p,hp⟩:ZaxX:=⟨kvs[i],ZOI⟩;obtain⟨q,hq,ek,rv⟩:=Wz.paired_get rel hp;obtain⟨k,v⟩:=q;have ek:Zlo:=ek;have rv:bJ p.2 v:=rv;obtain⟨ok,ov,st⟩:=st;rw[hl]at st;have lti:ZaBs:=aQo st;refine #[aZk,wpAny_pyNext_items_item,fun key h' hk out hT hsz keep=>ZaN4];refine wpAny_letOwnedTupleGo_items (s:=ZlR) out fun h2 st2 sb2=>?_
  have rk:bJ (kV p.1) key:=by
   rw[ek];rcases ZaYd with ⟨j,t,ej,ev⟩ | ⟨j,t,ej,ev⟩
   ·subst ej;exact ZAW
   ·subst ej;exact ZAW
  have hfr:ZYG:=ZJQ
  have IL:aT X pins σ #[FT,ZaE8] { s with heap:=s.heap.push { cls:=Zf4,data:=Za3 #[key,v] },toks:=s.toks } :=
   #[aT1,[key,v],rk,rv]
  have I2:=IL.turned (t':=s.toks) (h':=h2) (it:=it) (fun b o n1 q=>by
   refine ZaVN
   show Zfa
   by_cases hb:ZazC
   ·subst hb
    have q:(s.heap.push { cls:=Zf4,data:=Za3 #[key,v] }).get? s.heap.objs.size=Zhd:=q;rw[ZeI]at q;cases q;exact hT
   ·have q:(s.heap.push { cls:=Zf4,data:=Za3 #[key,v] }).get? b=Zhd:=q
    refine ZdU b o n1 ?_;rw[ZaP1]at q
    exact q) #[aM,ai (aQu lti),f0] f1 f3 f4 f5
  refine #[a18,(bS Zaw p hp hfr rfl rfl),#[bJ,_,#[aM,hl,st2]]]
  have hb':ZjI:=ZcM
  subst hb';rw[ai (aQu lti)];exact f0
 done:=by
  intro X hP hw hK hc i pins s σ H E I hf st hg;subst hP hw hK;obtain⟨hH,hi⟩:=hg;obtain⟨lo,vs,rel,hat⟩:=ZaUm;have hl:ZiL:=Zlh;obtain⟨f0,f1,f2,f3,f4,f5⟩:=Zagt;obtain⟨ok,ov,st⟩:=st;rw[hl]at st;exact #[bcn,wpAny_pyNext_items_end]
 self:=fun _ _ _ _ _ st h=>by
  obtain⟨ok,ov,e⟩:=st;exact AA ZqB h
abbrev Vf (tl:TE):TI:=#[a0M,ZA3]
def Qm [61][303]{ax5:Pos}{l:Expr}{apos h_:Pos}[85](u_:#[a5M,l,"items",l,#[hH,l]]:=by rfl)(D_:Zlt:=by rfl) :
  #[aZ6,#[EN,#[BM,l,"items"],[]],(Vf tl)]:=by
 intro pins s σ H R I h;refine Za6x u_ D_ #[pG,hl,Zju];obtain ⟨x,H1,I1,r1,q1⟩:=zz;obtain⟨d,kvs,e,hH,q⟩:bM:=q1;subst e;cases r1;refine Za3B;obtain⟨ep,hat⟩:=dd.dictAt;refine ZaT5;have j_:ZiL:=Zlh;refine #[att,(Zal ⟨kvs,Rd.of hH⟩)];refine gT ZiQ "dict.items" aZf Za8X PySem.F.type_dict_items t1 t2 (aXy rfl (Za6y ?_));refine Za8Y Za8X t1 PySem.F.entry_dict_items (PySem.F.args_dict_items_1 _) (meets_dict_items Zxb d lo) #[cu,⟨vs,dd⟩];have I2:ZaNy:=Za33;have hV:(s1.heap.push { cls:=ZIg,data:=Za1 #[Zni] }).IsItemsView s1.heap.objs.size d:=ZFc;refine wpAny_pyIter_items (s:={ s1 with heap:=s1.heap.push { cls:=ZIg,data:=Za1 #[Zni] } }) (knd:=ZyG) hV #[C9,hat.at,Zjm] ?_;have sz:(s1.heap.push { cls:=ZIg,data:=Za1 #[Zni] }).objs.size=ZYc:=ZXH;refine fF _ [_] _ _ _ rfl #[aP8,ZarB] #[a3D,K5] #[bJ,_,#[aM,j_,ZeI]] Zxg (q o)
 ·rw[bx7]at e;cases e;rfl
 ·have e:b=(s1.heap.push { cls:=ZIg,data:=Za1 #[Zni] }).objs.size:=ZcM
  rw[e,sz];exact I2.fpOk (aZI _) (ZakW (aZI _))
def Nh {d:Addr}{o:Obj}{kvs:Ziu}{g:TG}{tb:TS}{D:pG}{σ:St}{H:Hp}(Pv:Zlr)(h0:ZnP)(hl:ZaRz)
  (hs:∀ i p σ H T,#[a1J,ZG',ZaE8]) (hd:ZaEG) :
  ∃ W:ZjX,Zlp/\∀ i m σ H,ZjW ->
   #[ao7,ZA3,ZA3,ZA3]:=by
 refine ZaW8;intro i m σ H a_;obtain⟨rfl,hi,p⟩:eJ:=a_;have q:=ZBD
 by_cases v_:ZVW
 ·refine ZaQ2
  obtain⟨T,p2,hp,hT,ex,e⟩:bB:=y;subst e ex;exact hs i p2 σ _ T hp p hT
 ·have e:ZaCd:=Zae
  subst e;exact ZaEK
def Ma {X:Cx}{pos:Pos}(K:PySem.W.Frag){es:Zbu}{k:Nat}{t:Rn}{n:Nat}(hc:ZfT)(h:ZaJ4)(hK:Zvn:=by rfl)
  (hn:ZaOy:=by rfl) (hst:Zaxv (·.1)=none:=by rfl):#[a0j,(WZ K n t)]:=by
 subst hK;exact gH hc h hn hst
#print L2
namespace Wz
open PySem L2
def jS (A:HA):bQ A=[#[IV,Zov,A.w],#[IV,ZlW,A.h],#[IV,Zkj,A.c],#[IV,Zki,A.d]]:=by
 unfold bQ;simp only[cw,ZYj,ZYk,ZYl,ZYm,ZYn,ZYo]
def VU [457]:#[My,Zov,{ A with w:=l }]:=by
 rw[jS,jS];simp only[cw,aXT]
def VT [457]:#[My,ZlW,{ A with h:=l }]:=by
 rw[jS,jS];simp only[cw,ZYj,aXT]
def VR [457]:#[My,Zkj,{ A with c:=l }]:=by
 rw[jS,jS];simp only[cw,ZYk,ZYm,aXT]
def VS [457]:#[My,Zki,{ A with d:=l }]:=by
 rw[jS,jS];simp only[cw,ZYl,ZYn,ZYo,aXT]
def FG (A:HA):#[bd,bQ,A]<ZbE:=#[zP,jS,4]
def W0 (A:HA)[452]:bQ { A with cs:=cs }=bQ A:=#[bm,jS,jS]
def M8:∀ [35]{i:Nat}{p:df×V},Za81=ZOD->#[av,Zvs[i]?,p]->∃ a x,#[av,cs[i]?,a]/\#[di,ci[i]?]/\p=ZaUC:=by
 intro cs
 induction cs with
 | nil=>
  intro ci i p e h
  cases ci with
  | nil=>simp[eQ]at h
  | cons y ci=>cases e
 | cons c cs ih=>
  intro ci i p e h
  cases ci with
  | nil=>cases e
  | cons y ci=>
   cases i with
   | zero=>exact⟨c,y,rfl,rfl,ZT5⟩
   | succ i=>
    obtain⟨a,x,h1,h2,h3⟩:=ih (Za83 e) h;exact⟨a,x,h1,h2,h3⟩
def G9:∀ [35][275],g∉ci.map (·.1)->gQ Zvs Ztk=Zac
 | [],_,g,_=>by cases ‹Zip›<;>rfl
 | ZA5,[],g,_=>rfl
 | ZA5,y::ci,g,h=>by
  rw[aQv,aQm]at h
  show gQ ((#[kE,y.1],ZaN c)::Zaem) Ztk=Zac
  rw[jh (#[aH,h (Zal (ZMT z).symm)])];exact G9 #[jx,h,Zap]
inductive QW [402]:Zaa
 | mk [26][64][202](_:(st.circ.map (·.1)).Nodup)(_:ZaEf)(_:#[a84,Zuu->bA C H' q B st->Zaxd->Zb_->#[d9,q]])
abbrev fb [174]:bc:=ZoA p.1 p.2
def CT {HH:Hp}{q t:Addr}{ds:Zei}[45]{a b:Int}(h1:#[fj,q,#[mE,ZoC]])(h2:Za0 (fun b (e:ZgF)=>ZaJz) ds ps)(ht:HH t=Zac) :
  dh #[kO,HH,t,ZafB,q,#[hV,ZoC ZaN,ZaN t]] q (ps++[ZqL]):=by
 refine #[cg,ds++[t],Zvk];exact bN (Paired.mapP h2 fun b e y=>by rw[ai (dU y h1 (by intro u;cases u))];exact (ah ht) _ _ y) #[h9,#[eF,ai ((aq h1 ht).symm),ac]]
section
variable {st:eG}
def Ju.flat (P:ZaI'):(gJ ZaI).flatten.Nodup/\(∀ x,x∈ZaQk->x∈Zg9/\wr ZaI x≠x)/\∀ x,x∉ZaQk->#[FC,x,x]:=by
 refine ZBw;refine iu (tq P.inj w3 w4 (cC ZaI) [] (fun x h=>h) (fun x h=>by cases h)) ZHN;exact ⟨a,#[mB,w1 x ZaeV],(fun x hx=>Oj fun z=>hx ((c x z).elim (fun q=>by cases q) id))⟩
#where
#print Wz
namespace L2
open PySem
def fj.m {j k:Nat}[339](h:j<=k:=by decide):fj j A:=r.mono h
def c5 [61][393](hs:ZEi:=by rfl):PA X [e] (oE t rD):=aB h bz hs
def fG [61]{e e2:Expr}{t t2:TE}[384](hs:#[Eg,[e,e2],Zmz,[e2]]:=by rfl)(I_:#[Eg,[e2],#[hI,e2],[]]:=by rfl):#[a0b,[e,e2],rD]:=aB h (aB h2 bz I_) hs
def wu [61]{e e2 e3:Expr}{t t2 t3:TE}[384](h3:PE X e3 t3)(hs:#[Eg,ZaRP,Zmz,[e2,e3]]:=by rfl)(I_:#[Eg,[e2,e3],#[hI,e2],[e3]]:=by rfl)(hs3:#[Eg,[e3],#[hI,e3],[]]:=by rfl):#[a0b,ZaRP,(oE t3 rD)]:=aB h (aB h2 (aB h3 bz hs3) I_) hs
def bh [61][156][221]{x:Str}[192]{pos':Pos}(hN:X.N.Nodup)[108][99][127] :
  ZaYy:=ju hN hi hx he hs hf
def gv [61][156][221]{x:Str}(hN:X.N.Nodup)[99][8]:ZaR0:=AT hN hi hx hf
def Dk {so sc:Scope}{N N':Zbp}{src:ZnZ}(a:ZB2:=by rfl)(b:Zbcx:=by decide +kernel)(c:Zbcv:=by decide +kernel)(d:ZbcA:=by decide +kernel)(e:N'.Nodup:=by decide +kernel)(f:Za65:=by rfl)
  (g:∀ p∈ZLc,(match p.2 with | none=>true | ZzT=>ZahE)=true:=by decide +kernel):ZapQ:=#[ahs,d]
def gu {N P:Zbp}{sc:Scope}(a:ZB2:=by rfl)(b:ZaaY:=by rfl)(c:ZaaZ:=by rfl)(d:N.Nodup:=by decide +kernel)(e:ZaVn:=by rfl)(f:ZaxC:=by decide +kernel)(g:Zbcy:=by decide +kernel):aD N P sc:=#[ahs,d]
#print L2
namespace Wz
open PySem L2
abbrev bw [1][191](st:Stmt):Zaa:=#[Ou,#[Q9,x]=Zab Zs_/\#[ar,x,x,st]]
def fact_mk {K:PySem.W.Frag}{x:Str}{st:Stmt}{f:Addr}{oc:Value}{od an:Zgk}{osl:Zvw}{kV doc pm i_ ct:Value}(a:Zafb)(l:#[aqa,#[aoL,x,x]])
  (c:#[Vp,x]) (k:Zbcc):ZBj:=#[fR,f,a,OX l c k]
abbrev cR [1][55](m q:Str)(st:Stmt):Zaa:=#[Ou,Zbb_/\ZBk/\ZavX]
def mfact_mk {K:PySem.W.Frag}{C:Addr}{m q:Str}{st:Stmt}{f:Addr}{oc:Value}{od an:Zgk}{osl:Zvw}{kV doc pm i_ ct:Value}(a:Zbb_)(i:ZBk)(l:#[aqa,ZavY])
  (c:#[Vp,q]) (k:Zbcc):Zag_:=az f _ a i (OX l c k)
section
variable {P:Program}{w:World}{K:PySem.W.Frag}{h base:Heap}{mg:Zpf}{x m q:Str}{st:Stmt}{k:Nat}{ps:Zbp}{sp:Sp}{C:Addr}{CX:Di}
def LU [71]{P:ZaBC}(h:∀ (a:Value)(vs:Zb4),ZiK=n->P (a::vs)):#[aSX,n+1]
 | a::vs,e=>h a vs (Za83 e)
def LS {P:ZaBC}(h:P []):#[aSX,0]
 | [],_=>h
def Py (X:ZqW)(G:Zu')(F:ZBj)(ok:ZaIv)
  (hb:Za53:=by intro _ _ _ _ _ _;(repeat refine ZsG);exact ZfV):ZaZO:=by
 obtain⟨f,fd,a,g⟩:cD:=F;exact ZaI6
def Yi (X:ZqW)(G:Zu')(F:ZBj)(ok:ZaIu)
  (hb:Za53:=by intro _ _ _ _ _ _;(repeat refine ZsG);exact ZfV):ZaZ_:=by
 obtain⟨f,fd,a,g⟩:cD:=F;exact ZaI6
def Wv (F:Zag_)(ok:ZaQG)
  (hb:Za54:=by intro _ _ _ _ _ _;(repeat refine ZsG);exact ZfV):Za2P:=by
 obtain⟨f,fd,a,i,g⟩:bM:=F;exact Za1T
#where
structure Bs [58][410](base h:Heap):Zaa where
 X:ZqW
 G:Zu'
section
variable {P:Program}{w:World}{K:PySem.W.Frag}{h base:Heap}{mg:Zpf}{x m q:Str}{st:Stmt}{k:Nat}{ps:Zbp}{sp:Sp}{C:Addr}{CX:Di}(z:Bs P w K mg ZaS h)
include z
def im (F:ZBj)(ok:ZaIv)
  (hb:Za53:=by intro _ _ _ _ _ _;(repeat refine ZsG);exact ZfV):ZaZO:=by
 obtain⟨f,fd,a,g⟩:cD:=F;exact Za0P
def Pz (F:ZBj)(ok:ZaIu)
  (hb:Za53:=by intro _ _ _ _ _ _;(repeat refine ZsG);exact ZfV):ZaZ_:=by
 obtain⟨f,fd,a,g⟩:cD:=F;exact Za0P
def nY (F:Zag_)(ok:ZaQG)
  (hb:Za54:=by intro _ _ _ _ _ _;(repeat refine ZsG);exact ZfV):Za2P:=by
 obtain⟨f,fd,a,i,g⟩:bM:=F;exact Za1T
#where
#print Wz
namespace L2
open PySem PySem.Spec PyProof.Rows
def Ew {i:Int}(h:Zajv):ZLf:=by
 by_cases h0:Zajw
 ·rw[h0];decide
 ·rw[Za85 h0]
  exact Zaj2 h ZcE
def sk [61]:#[ie,Zf2,#[aZl,[Zag s],#[hR,s,H],ZdN,(Zag (Za9 ZaAI))]]:=by
 intro pins s σ H xs us Q I r h;rcases h with ⟨z,rfl,q⟩ | ⟨i,rfl,hi,q⟩
 ·obtain⟨u,rfl,rx⟩:ao:=ZeP
  obtain⟨t,rfl⟩:=rx;exact P.str_of_str (az ZyL H I ZAA q)
 ·obtain⟨u,rfl,rx⟩:ao:=ZeP
  obtain⟨t,rfl⟩:=rx;exact P.str_of_int (Ew hi) #[SX,ZVP]
def EU:∀ {ts:Zbp}[296],bK (Zwx ZaC) d_->∃ l:ZZv,d_=Za88 l/\l.map (·.1)=ts
 | [],d_,r=>by
  have:=r.length;refine #[eE,[],?_];exact Za8' this.symm
 | Ziz,d_,r=>by
  cases r with
  | cons rx rt =>
   refine #[aNL,EU,rt];obtain⟨k,rfl⟩:=rx;exact #[aY,((t,k)::l),#[jC,e1],#[bm,aQv,e2]]
abbrev Qu [1]:ZBa:=fun x vs H Q=>∃ sep l ts,x=Zag sep/\#[nL,l]/\bT K H l (Zwx ZaC)/\ZaVJ/\#[hR,ZaKW,H]
def Sn [61][1][185]:WH X "str.join" Zaa0:=by
 subst hK;intro pins s σ H x xs v us Q I rx rv h;obtain⟨sep,l,ts,rfl,rfl,hq,ok,q⟩:gi:=h;obtain⟨t,rfl⟩:=rx;obtain⟨u,rfl,ru⟩:ao:=i8 rv;cases ru;refine #[pT,fun d_ rl pl hz=>?_];obtain⟨ls,rfl,e⟩:ao:=EU rl;exact SC.join Zhl e ok fun t' k=>#[zx,ZVP,q]
def ux {X:Cx}(K:PySem.W.Frag){o e:Expr}{to te:TE}{apos h_:Pos}(ho:Zu8)(he:Zhg)(hK:Zvn:=by rfl)(u_:#[a5N,"join"]:=by rfl)
  (aq7:Zaq9:=by rfl)
  (D_:Zlt:=by rfl) (hs:ZEi:=by rfl) (z_:ZanG (·.1)=false:=by rfl) :
  #[EO,"join",[e],(XR K Zf2 Zaa0 to (oE te rD))]:=by
 subst hK;exact #[aih,PySem.F.slot_str_join,PySem.F.type_str_join,(Sn X.K)]
def SR [329]:PI X tg l (W8 K tl):=by subst hK;exact sZ hl
def WQ {so sc:Scope}{N N':Zbp}{src:ZnZ}(a:ZB2:=by rfl)(b:Zbcx:=by decide +kernel)(c:Zbcv:=by decide +kernel)(d:Zbcy:=by decide +kernel)(e:N'.Nodup:=by decide +kernel)(f:Za65:=by rfl)
  (g:∀ p∈ZLc,(match p.2 with | none=>true | ZzT=>ZahE)=true:=by decide +kernel):ZapQ:=#[ahs,fun y hy z=>#[oU,(d y hy)]]
#print L2
namespace Wz
open PySem L2
abbrev gV [169]:Str:=Za9 (ZlU g)
def L4 [275](h:ZdG):#[bd,gV,g]<=Zwy:=PyProof.Rows.int_text_len_1921 (Ew h)
def AN {sep:Str}{ts:Zbp}{B:Nat}(h:Zax4)(hl:Zkn*B+Zkn*ZOQ<=Za9a):ZaVJ:=by
 unfold JoinOk;rw[StrLaws.joinFits h hl];rfl
def Pb {sep:Str}:∀ {ts:Zbp}{B:Nat},(Zax4)->#[bf,ZaKW,Zkn*(B+ZOQ)]
 | [],B,_=>by
  show #[aHS,[]]
  rw[StrLaws.glued_eq_join]
  have:#[bd,sep.join,[]]=0:=by first | rfl | simp
  lia
 | Ziz,B,h=>by
  show #[aHS,ZadY]
  rw[StrLaws.glued_eq_join,PyProof.Rows.len_join_cons]
  have sm:∀ (l:Zbp),(∀ y∈l,Zgd<=B)->#[abw,#[cV,Ze4]]<=Zb8*B:=fun l=>by
   induction l with
   | nil=>intro _;simp
   | cons a r ih =>
    intro hh;have i:=ih #[RH,hh];have j:=hh a aQi;rw[aQv,aXC,aQB,Nat.add_mul]
    lia
  have s:=sm (Ziz) h;rw[Nat.mul_add];have:Zkn*ZOQ<=#[bc,ZadY]*ZOQ:=#[auq,ZaV]
  lia
#print Wz
namespace PySem
open Sem (wp)
section
variable {M:Model}{A:Around}{E:ZfG}{s:Shared}{env:Env}
abbrev Wr (M:Model)(A:Around)[52](use:ZfW (Zb3->Sem Unit))[443](acc:Value)[55](fr:Zgk)(r:Result)[155]:Zaa :=
 match r,use with
 | .ok _,none=>#[aSV,Za9d,Zc',acc,#[CO,h']]
 | .ok _,Zab u=>Zb7 M A (u acc) (fun _ s''=>#[aSV,s''.heap.Ns,s''.heap,Zax,{ s'' with heap:=h' }]) E s'
 | ZNl x,_=>∃ m,Za9d C m/\∀ h',Zv6 C Zc' h'->∀ cenv:Env,cenv.frame=fr->wpAny M A (passOn "comprehension.variables-let-go" x cenv:Zye) ZEn E #[CO,h']
#where
#print PySem
namespace Wz
open PySem L2
def FA {u v D e s t:Int}(h1:#[SK,D,s])(h2:#[alo,t]) :
  ∃ k0 k1 k2 k3:Int,u=#[Mq,Za9e,Za9f,Za9g,2123783508]/\v=#[Mq,Za9h,Za9i,Za9j,-13313502988]/\D=#[Mq,Za9k,Za9l,Za9m,-659352884]/\e=#[Mq,Za9n,Za9o,Za9p,-604195060] :=
  (iU #[Mz,-5916852691,-3986570727,4759283498,-6872842267] #[Mz,289801547,-127279498,4798753234,-565338757] #[Mz,-1578328259,-620054596,-5647371940,-593478036] #[Mz,149822886,172386789,-1235055683,373812579] Zaf Zaf Zaf Zaf)
abbrev Zx:Int->Int->Int->ZbQ:=fun k0 k1 k2 =>
 let u:=Za9e*k0+Za9f*k1+Za9g*k2
 let v:=Za9h*k0+Za9i*k1+Za9j*k2
 let D:=Za9k*k0+Za9l*k1+Za9m*k2
 let e:=Za9n*k0+Za9o*k1+Za9p*k2
 !(#[lJ,ZaPw]&&#[lJ,ZaT3]&&#[lJ,#[m2,D,D]]&&#[lJ,#[m2,e,e]])||#[lJ,Za91]
def RX:#[aeA,0].all (fun a=>#[aeA,0].all #[iC,#[aeA,0].all fun c=>Zx a b c])=Zad:=Zao
def YL {k:Int}(h : -1<=k/\k<=1):k∈[(-1:Int),0,1]:=by
 simp only[aQm,aQ1,aXz];lia
def Vc {u v D e s t:Int}(h1:#[SK,D,s])(h2:#[alo,t])
  (bu : ZaPw) (bv : ZaT3) (bD : #[m2,D,D]) (be : #[m2,e,e]) :
  Za91:=by
 refine ZahY;clear h1 h2
 have b0 : -1<=k0/\k0<=1:=Zae
 have b1 : -1<=k1/\k1<=1:=Zae
 have b2 : -1<=k2/\k2<=1:=Zae
 have b3:k3=0:=Zae
 subst b3;rw[Int.mul_zero,Int.add_zero]at eu ev eD ee;have a:=Zko (Zko (Zko RX _ (YL b0)) _ (YL b1)) _ (YL b2);unfold Zx at a;dsimp only at a;rw[<-eu,<-ev,<-eD,<-ee,aQe bu,aQe bv,aQe bD,aQe be]at a;exact aQJ a
abbrev uM (x:Nat):Nat:=#[pj,x*Zi0]+x/Zhw
abbrev Da (acc h:Nat):Nat:=#[RE,uM (#[aon,acc,h])]
def Xf {X:Nat}[385]:#[pj,#[RE,X]*ZCV]=X:=by
 have h:=Nat.mul_mod (#[RC,X]) ZCV Zeu;rw[#[bn,#[pj,ZCV]=ZCV,ZaF]]at h;rw[<-h,Nat.mul_assoc,#[bn,ZOR*ZCV=1+Zeu*379806830464837242,ZaF],Nat.mul_add,Nat.mul_one,<-Nat.mul_assoc,ZNK X Zeu,Nat.mul_assoc,Nat.add_mul_mod_self_left,Nat.mod_eq_of_lt hX]
def Xg {X Y:Nat}[385](hY:#[ev,Y])(h:#[RE,X]=#[RE,Y]):X=Y:=by
 rw[<-Xf hX,<-Xf hY,h]
def Gc [331]:#[ev,uM x]:=by unfold uM;lia
def pW [331]:∃ xh xl:Nat,xh<Zi0/\xl<Zhw/\x=ZaTi/\uM x=xl*Zi0+xh:=by
 refine bS (x/Zhw) (x%Zhw) Zaf Zaf Zaf ?_;unfold uM;lia
def Mj {x y:Nat}(hx:ZI9)(hy:#[ev,y])(h:uM x=uM y):x=y:=by
 refine bB (pW hx) fun xh xl a1 a2 a3 a4=>?_;refine bB (pW hy) fun yh yl b1 b2 b3 b4=>?_;rw[a4,b4]at h
 lia
def Ti {a b h k:Nat}(e:Da a h=Da b k):#[aon,a,h]=ZaPs:=by
 unfold Da at e;have l1:#[ev,#[aon,a,h]]:=Za9t;have l2:#[ev,ZaPs]:=Za9t;exact Mj l1 l2 (Xg (Gc l1) (Gc l2) e)
def TK {D u v z:Int}(h:#[ags,u,v,D,z]):#[SK,D,(#[avB,-(ZOS)*z,D]+(391061744)*u)]:=Zae
def TL {e u v z:Int}(h:#[a9r,#[RD,v,u],e,z]):#[alo,Za3P]:=by
 have key:e-#[aAc,Zalm*u+Zaln*v,Za3P]=#[aw',(#[RD,v,u])]-#[aw',#[aAc,Za9q*e,z]]:=Zae
 rw[h,Int.sub_self]at key;exact Int.sub_eq_zero.mp key
def R0 {a c x y zx zy xh xl yh yl:Nat}[137](h2:ZaXC)[458](h4:y=yh*Zhw+yl) :
  #[ags,ZaPF,ZaPG,#[k3,c,a],#[k3,zx,zy]]:=Zae
def RZ {gX gY X1 Y1 V b d z1 z2 z3 z4:Int}[314](h2:gY=#[xQ,z2,Y1])[79] :
  #[a9r,gY-gX,(d-b),((z4-z3)+(z2-z1))]:=Zae
def R1 {b d X1 Y1 V xh xl yh yl z1 z2 z3 z4:Nat}[142](h2:#[RD,yl,yh]=#[xQ,z2,Y1])[79] :
  #[a9r,#[RD,ZaPG,ZaPF],#[k3,d,b],(#[k3,z4,z3]+#[k3,z2,z1])]:=by
 have i1:=ZaFS;have i2:=#[apO,h2];have i3:=ZaFT;have i4:=#[apO,h4];simp only[aZV,Int.natCast_mul,Int.cast_ofNat_Int]at i1 i2 i3 i4;rw[<-RZ i1 i2 i3 i4];clear h1 h2 h3 h4 i1 i2 i3 i4
 lia
def Vb {m n:Nat}(h1:m<Zi0)(h2:ZaF8) : ZaPz:=Zae
def RY {m n:Nat}(h1:m<Zhw)(h2:ZaF9) : #[avT,ZGw,ZGw]:=Zae
def kL (x:Nat):∃ r z:Nat,#[pj,x]=r/\x=#[xQ,z,r]/\#[ev,r]:=az _ (x/Zeu) rfl ((Nat.div_add_mod x Zeu).symm) (Za9s _ ZaG)
def NR {a b c d x y zx zy:Nat}(lx:ZI9)(ly:#[ev,y])(hzx:Zaq5)(hzy:ZaXC)
  (e:#[aon,ZRF,b]=#[aon,Zabx,d]) (b1 : ZaPx) (b2 : ZaPy) :
  Za90:=by
 refine ZaXA;refine bB (pW ly) fun yh yl hy1 hy2 hy3 hy4=>?_;rw[hx4,hy4]at e;refine Za01;refine bM (kL (#[RD,yl,yh])) fun Y1 z2 r2 hz2 _=>?_;rw[r1,r2]at e;refine #[aoo,X1,b,fun V z3 r3 hz3 _=>?_];refine #[aoo,Y1,d,fun V' z4 r4 hz4 _=>?_];rw[r3,r4]at e;subst e;have i1:=R0 hzx hzy hx3 hy3;have i2:=R1 hz1 hz2 hz3 hz4;have r:=Vc (u:=(yh:Int)-xh) (v:=(yl:Int)-xl) (D:=Zya) (e:=ZFJ) (TK i1) (TL i2) (Vb hx1 hy1) (RY hx2 hy2) b1 b2;clear hzx hzy hx4 hy4 hz1 hz2 hz3 hz4 i1 i2 hx3 hy3 r1 r2 r3 r4;rcases r with ⟨h1,h2⟩ | h | h
 ·exact ZBn
 ·exact ZabX
 ·exact #[nO,h]
def P4 {a b c d:Nat}(e:Da ZaN6 b=Da (Da Zkp c) d)(b1 : ZaPx)(b2 : ZaPy) :
  Za90:=by
 have e:=Ti e;refine ZaYu;refine #[au5,c,#[a9u,?_]]
 have ex:#[aGh,a,ZRF]:=by unfold Da;rw[rx]
 have ey:#[aGh,c,Zabx]:=by unfold Da;rw[ry]
 rw[ex,ey]at e;exact NR lx ly hzx hzy e b1 b2
def O4 {u v a b s t:Int}(h1:Za9A)(h2:ZaZS)
  (bu:ZaRq) (bv:ZaTk) (ba:#[G0,a,a]) (bb:#[G0,b,b]):False:=by
 refine ZahY;clear h1 h2
 have c3 : Zalp<=k3/\k3<=Zalp:=ZoD
 have c2 : Zalq<=k2/\k2<=Zalq:=ZoD
 have c1:Za9v<=k1/\k1<=Za9w:=ZoD
 have c0:Za9x<=k0/\k0<=Za9y:=ZoD
 obtain rfl:k3 = Zalp:=ZoD
 obtain rfl:k2 = Zalq:=ZoD
 rcases (show k1=Za9v\/k1=Za9w by omega) with z | z<;>subst z <;>
 rcases (show k0=Za9x\/k0=Za9y by omega) with z | z<;>subst z<;>omega
def O5 {u v a b s t:Int}(h1:Za9A)(h2:ZaZS)
  (bu:ZaRq) (bv:ZaTk) (ba:#[alt,a,a]) (bb:Zata):False:=by
 refine ZahY;clear h1 h2;omega
def W3 {a x zx xh xl:Nat}[137][458] :
  #[ags,(xh:Int),(xl:Int),(Zg7+Za9z),(-(zx:Int)-1833181252879301869574179742171100259)]:=Zae
def W2 {gX X1 b z1 z3:Int}[314][133]:#[a9r,gX,(b-Zalr),#[aNH,z1]]:=Zae
def W4 {b X1 xh xl z1 z3:Nat}[142][133] :
  #[a9r,#[RD,(xl:Int),(xh:Int)],#[k3,b,Zalr],#[aNH,(z1:Int)]]:=by
 have i1:=ZaFS;have i3:=ZaFT;simp only[aZV,Int.natCast_mul,Int.cast_ofNat_Int]at i1 i3;exact W2 i1 i3
def LH [71](h:ZaF8):#[G0,Zbj,Zbj]:=Zae
def TM [71](h:ZaF9):0<=Zbj/\Zbj<Zhw:=Zae
def TN [71](h:Zn8<=n)(h2:n<Zals):#[alt,Zbj,Zbj]:=Zae
def Sv {a b x zx:Nat}(lx:ZI9)(hzx:Zaq5)(e:#[aon,ZRF,b]=ZMK)
  (bl:Zatb):False:=by
 refine ZaXA;rw[hx4]at e;refine Za01;rw[r1]at e;refine #[aoo,X1,b,fun V' z3 r3 hz3 _=>?_];rw[r3]at e;subst e;have i1:=TK (W3 hzx hx3);have i2:=TL (W4 hz1 hz3);clear hzx hx3 hx4 hz1 hz3 r1 r3 lx;rcases bl with ⟨b1,b2⟩ | ⟨b1,b2,b3,b4⟩
 ·exact #[a1h,O4,(LH b1),(LH b2)]
 ·exact #[a1h,O5,(TN b1 b2),(TN b3 b4)]
def XE:Za9B=#[RE,uM ZMK]:=Zao
def QZ {X b y:Nat}(r:#[aon,X,b]=y):Da X b=Zabx:=by unfold Da;rw[r]
def L3 {a b:Nat}(bl:Zatb):#[a9C,Da (Da Zkp a) b]:=by
 intro e;refine ZaYu;have ex:=QZ rx;refine #[aoo,ZaO',b,#[a9u,?_]];have e':=(QZ ry).symm.trans (ZajA XE)
 have lV:#[ev,ZMK]:=ZaF
 have hy:=Mj ly lV (Xg (Gc ly) (Gc lV) e');have h1:#[aon,ZRF,b]=#[aon,ZaO',b]:=aXa (fun n=>#[aon,n,b]) ex.symm;exact Sv lx hzx (Za9D (ry.trans hy)) bl
abbrev yE (r:Nat):Int:=#[aMB,#[a9S,Za9J],Za9J<Za9G,Za9J,Za9J,(Zeu:Nat)]
def Z2 {a:Nat}[404]:(Zg7%#[a4,Zeu]).toNat=a:=Zae
def RP {r r':Nat}(h1:#[ev,r])(h2:#[ev,r'])(n1:#[a9C,r])(n2:#[a9C,r'])(e:yE r=yE r'):r=r':=by
 unfold yE at e
 have z1:¬ #[a9S,Za9J]:=by
  intro z;have z:=ZayN
  lia
 have z2:¬ #[a9S,#[a9I,r']]:=by
  intro z;have z:=ZayN
  lia
 rw[aQc z1,aQc z2]at e;clear z1 z2;split at e<;>split at e<;>lia
abbrev N6 (m p1 p2 acc:Nat)(h:Int):Nat :=
 ((Za12*2 ^ 31)%m+Za12/2 ^ 33)*p1%m
abbrev OT (m n acc:Nat)(p5:Nat):Int :=
 #[aMB,#[g0,ZLH,m-1],ZLH<Zqj,ZLH,ZLH,Ztm]
abbrev Tp (m p1 p2 p5:Nat)(hs:Zbq):Int:=OT m hs.length (hs.foldl (N6 m p1 p2) p5) p5
def Rc (m p1 p2 p5:Nat)(x y:Int):Tp m p1 p2 p5 ZGs=OT m 2 (N6 m p1 p2 (N6 m p1 p2 p5 x) y) p5:=by
 unfold Tp;rw[aXY,aXY,List.foldl_nil,aQB,aQB,List.length_nil]
def Tq (hs:Zbq):#[ayr,hs,Tp (ZAr) ZOR ZCW Zkp hs]:=by
 delta Builtin.Tuple.tupleHashOf Tp OT N6
 rfl
def QE {acc a:Nat}[404]:N6 Zeu ZOR ZCW acc Zg7=Da acc a:=by
 unfold N6 Da uM;rw[Z2 h]
def U4 (r:Nat):OT Zeu 2 r Zkp=yE r:=by
 have h1:2 ^^^ (Zkp ^^^ 3527539)=Za9H:=ZaF
 unfold OT yE;rw[h1]
def O2 {a b:Nat}(ha:#[ev,a])(hb:#[ev,b]):#[ayr,ZaRO,yE (Da ZaN6 b)]:=by
 have hm:ZFv ^ 64=Zeu:=ZaF
 rw[Tq,hm,Rc,QE ha,QE hb,U4]
def QY {x y:Nat}:#[ev,Da x y]:=by unfold Da;exact Za9t
abbrev Js (N0 n:Nat):Zaa:=N0<=n/\n<N0+Zi0
def Js.dif {N0 m n:Nat}(h1:Js N0 m)(h2:Js N0 n) : ZaPz:=by
 obtain⟨a,b⟩:=h1;obtain⟨c,d⟩:=h2
 lia
def Js.lt {N0 n:Nat}[226](h:Js N0 n):#[ev,n]:=by
 obtain⟨a,b⟩:=h
 lia
def Js.two {N0 a b:Nat}[226](h1:Js N0 a)(h2:Js N0 b):Zatb:=by
 obtain⟨a1,b1⟩:=h1;obtain⟨c1,d1⟩:=h2
 lia
def NS {N0 a b c d:Nat}[226](ha:Js N0 a)(hb:Js N0 b)(hc:Js N0 c)(hd:Js N0 d)(e:ZCX ZaRO=ZCX [(c:Int),(d:Int)]) :
  Za90:=by
 rw[O2 (ha.lt hN) (hb.lt hN),O2 (hc.lt hN) (hd.lt hN)]at e;exact P4 (RP QY QY (L3 (ha.two hN hb)) (L3 (hc.two hN hd)) e) (ha.dif hc) (hb.dif hd)
def N2:∀ i:Nat,i<123->∀ j:Nat,j<123->(i=61/\j=61)\/#[aPD,(ZkQ-61)*Zwz,(ZkX-61)]≠0:=Zao
def Xz {i j:Nat}(hi:i<123)(hj:j<123){e k:Int}(ee:e=(i:Int)-61)(ek:k=(j:Int)-61)(h:#[aPD,e*Zwz,k]=0):i=61/\j=61:=by
 subst ee ek;exact (N2 i hi j hj).resolve_right #[aH,z h]
#print Wz
namespace L2
open PySem PySem.Spec PyProof.Rows
abbrev r6 (ks:#[Sk,df]):Zaa:=∀ [58],#[ax5,#[aZ',a,b]]
set_option tactic.hygienic true
def Ir [80]{f:α->Int}:∀ {ks:ZdP},Za8I->(#[ax5,f a=f b])->∀ n,#[bd,Za9K,ZaL7]<=1
 | [],_,_,n=>ZaU
 | k::ks,nd,hf,n=>by
  rw[aQ0]at nd;have ih:=Ir nd.2 (fun a ha b hb=>hf a ZazO b ZAi) n;rw[aXG];split
  ·rename_i z
   have e:(Za9K ZaL7)=[]:=List.filter_eq_nil_iff.mpr fun b hb q=>by
    have:=hf k aQi b ZAi #[eF,Zoq z,Zoq q];exact nd.1 (this▸hb)
   rw[e];exact ZaX
  ·exact ih
section
variable {P:Program}{w:World}{A:Around}{E:ZfG}{s:Shared}
set_option tactic.hygienic false
def Fq {id:String}{d:Addr}{o:Obj}{es:ZY8}{ep:Nat}{xs:ZapK}{Q:#[fF,ZY8]}
  (ho:#[q0,d]) (hd:ZaeG) (he:Zalv) (hk:#[rU,ZTF ZaD x.1 ZIj]) (nd:(xs.map (·.1)).Nodup)
  (hf:r6 (xs.map (·.1))) (h:Q es s):#[fH,Zwi,(Builtin.Dict.entriesForEmpty id d),Q]:=by
 unfold Builtin.Dict.entriesForEmpty;refine aQa (ZOT ho hd ZaCG);rw[<-Array.forIn_toList];refine wpAny_forIn_list _ (fun rest _ s'=>s'=s/\∀ e∈rest,e∈Zalu) _ ?_ ?_ _ _ #[d5,fun e h=>h]
 ·rintro e rest b s' ⟨rfl,hr⟩
  have he1:e∈ZawE:=he▸hr e aQi;obtain⟨x,hx,rfl⟩:ao:=#[rX,he1];refine ZgD
  show #[hZ,Za9L #[aj,ZIj] "__eq__"]
  refine aQa (aZs (IsTupleKey.typeIs (hk x hx)) F.slot_tuple_eq.lookup Zns)
  have z:((#[azs,"tuple.__eq__"] == #[azs,"object.__eq__"]):Bool)=Zay:=ZaF
  rw[z]
  have one:¬ (es.filter (·.hash == (ZOU (Zwd Zd_) x).hash)).size>1:=by
   have:=Ir (f:=ZCY Zd_) nd (hf P w) (ZCY Zd_ x.1);rw[<-aQV,Array.toList_filter,he,List.filter_map,Z9];rw[List.filter_map,Z9]at this;exact Nat.not_lt.mpr ZbR
  simp only[Bool.not_false,aXT];rw[aQc one];exact #[Fz,#[rZ,hr e #[dh,he]]]
 ·rintro b s' ⟨rfl,_⟩
  exact ZFS
def Nd {o:Addr}{xs:ZapK}{Q:ZfG}(hoS:#[air,o])(ho:s.heap.DictOfH ZTE o xs)(hsz:ZVS)(hf:r6 (xs.map (·.1)))
  (h:∀ h' ob es ep,Zem Zaw=Zab ob->ob.ExactDict->ZOd=Zdb es ep->Zalv->(∀ b x,ZdV b=Zab x->Zem b=Zab x)->ZT1) :
  #[fH,Zwi,(Zfv (Za2 ZiQ) [Zai o]),Q]:=by
 refine callType_codes (Q₁:=fun obj s₁=>ZLu/\s₁={ s with heap:=s.heap.push { cls:=ZiR,data:=Zdb #[] } }) F.kt_called_dict (F.kt_typeCall_dict_1 _) F.entry_dict_init (kt_code_dict_new _ Zgz) ?_;rintro obj s₁ ⟨rfl,rfl⟩;refine iz (id ho) fun oo es ep e1 e2 e3 e4 e5 e6=>?_;have lt:=aQo e1;have ne:Zaw≠o:=aQ5 lt;have p1:=aQb { cls:=ZiR,data:=Zdb #[] } e1;have new:(s.heap.push { cls:=ZiR,data:=Zdb #[] }).get? s.heap.objs.size=some { cls:=ZiR,data:=Zdb #[] }:=ZeI;have tD:Shared.TypeIs { s with heap:=s.heap.push { cls:=ZiR,data:=Zdb #[] } } Zdl "dict":=#[dk,new];have tO:Shared.TypeIs { s with heap:=s.heap.push { cls:=ZiR,data:=Zdb #[] } } #[aj,o] "dict":=#[bJ,p1,e2.1]
 have pk:∀ x∈xs,ZTF (s.heap.push { cls:=ZiR,data:=Zdb #[] }) x.1 ZIj:=fun x hx=>by
  refine eX (e5 x hx) fun q it n q1 q2 q3 q4=>?_;exact dE q it n #[ms,q1] q2 q3 q4
 have len:ZOK=ZaJ:=by rw[<-aQV,e4,Z9]
 refine #[cg,tD,F.args_dict_init_2 _ _];unfold Builtin.«dict.__init__» Builtin.Dict.selfAndRest;refine #[Gf,(wpAny_notOrdered_dict tD ?_)]
 show #[hQ,(Zck (Zaw,[#[x3,o]]))]
 refine ZuD
 show #[hQ,(Builtin.Dict.updateFrom "dict.__init__" Zaw #[aj,o] [] Zax)]
 unfold Builtin.Dict.updateFrom Builtin.Dict.merge Builtin.Dict.readDirectly;refine #[bdH,tO];rw[Zz'];refine #[xw,aQa,(Za9M tO isSubtype_dict_dict ?_)];simp only[Bool.not_true,aX7,aZ3];refine aQa (aZs tO F.slot_dict_iter.lookup Zns);simp only[beq_self_eq_true,aXT];refine Zabk;unfold Builtin.Dict.mergeDict Builtin.Dict.showsAll;rw[aQc (by simpa using ne),#[aqE,hoS]];refine #[zj,(ZOT p1 e3 ?_)];dsimp only
 have ex:es = #[]\/(#[o9,#[lJ,ZOK<=8]&&es.all #[cb,#[fY,(keyPart e.key)]]]/\es.isEmpty=Zay):=by
  cases xs with
  | nil=>exact Zal (Array.toList_inj.mp #[jC,e4])
  | cons x xs =>
   right
   have h0:#[a2f,Zalu]:=#[b6,e4]
   obtain⟨l⟩:=es;have h1:#[a2f,l]:=h0;subst h1;refine#[e_,?_];rw[List.all_toArray,List.all_cons]
   show #[o9,_&&(Zay&&_)]
   rw[Bool.false_and,Bool.and_false]
 rcases ex with ex | ⟨ex,ex2⟩
 ·subst ex
  rw[ZAa];refine aQa (wpAny_dictEpoch p1 e3 (aQa (ZOT p1 e3 ZaCG)));rw[Std.Legacy.Range.forIn_eq_forIn_range'];refine aQk (aQk (aQa (aQk (aQk ⟨rfl,h _ _ #[] 0 new ZEQ rfl e4 fun b x e=>Zjm⟩))))
 ·rw[ex,ZAH]
  refine aQa (ZOT new rfl ?_);rw[ZAH];refine aQa (Fq p1 e3 e4 pk e6 hf ?_);rw[aQd (#[B8,ex2])];refine aQa (wpAny_updateDictKeysTo new rfl Zns Zaf);refine #[li,aQk,#[d5,h _ _ es 1 (aQ7 _ new (Obj.isFreed_of_dict (Za9P rfl _))) (Obj.ExactDict.mapDictKeys ZEQ _) (Za9P rfl _) e4 Zaum]];exact (Zalw _ _ _).2 b ZjB |>.trans Zmt
#where
inductive Qz [11]:Zaa
 | mk (p:_)(kvs:_)[63](_:#[fd,ZqE])(_:r6 (kvs.map (·.1)))(_:#[jZ,ZqE])
set_option tactic.hygienic false
def JB [61]:#[ie,ZiQ,Qz]:=by
 intro pins s σ H xs us Q I r h;obtain⟨p,kvs,rfl,hp,hf,q⟩:=h;obtain⟨u,rfl,rx⟩:ao:=ZeP;cases rx;refine eW (TD Zbl hp) fun hz hS vs rv m=>?_;have hlen:ZiL:=aQx rv
 have hk:kvs.map (·.1)=vs.map (·.1):=by
  clear hz hp hf q m hlen
  induction rv with
  | nil=>rfl
  | cons h t ih=>rw[aQv,aQv,ih,h.1]
 have nd:(vs.map (·.1)).Nodup:=let ⟨_,_,_,_,_,_,_,_,n⟩:=m;n;rw[hk]at hf;refine Nd hS m Zaf hf fun h' ob es ep a1 a2 a3 a4 a5=>?_;have e0:ZaXU:=ZaRN;have e1:ZaB6:=e0.2.1;have fr:=Zod (aQf Zaw);refine #[tb,#[Ly,ZbX,a5,ZqE,⟨hz,e1,vs,#[j5,rv,fun x y z=>#[uf,z.1,z.2.2]],ob,es,ep,a1,a2,a3,a4,nd⟩],(q _ fr)];rw[ai (aq z.2.1 fr)];exact z.2.1
#print L2
namespace Wz
open PySem L2
def RQ (r:Nat):Za9Q (yE r)=yE r:=by
 have b : -9223372036854775808<=yE r/\yE r<Za9G/\yE r≠-1:=by
  unfold yE;have lt:#[ev,Za9J]:=Za9t;generalize Za9J=x at lt
  by_cases e:#[a9S,x]
  ·rw[Zim];decide
  ·rw[Zil]
   have ne:x≠Za9R:=#[aH,e (ZzK)];split<;>lia
 generalize yE r=x at b;obtain⟨b1,b2,b3⟩:eJ:=b
 have q:#[gq,#[lJ,ZaHj<=x]&&#[lJ,x<Zqj]]:=by
  rw[aXb,aZD,aZD];lia
 have q2:¬ #[g0,x,-1]:=#[jx,b3,Zoq];unfold reduceHash;rw[ZzY,aQc q2]
def Hn {a:Nat}(h:a<Za9T):ZMS Zg7=a:=by
 have r:rawHash Zg7=a:=by
  unfold rawHash;dsimp only;rw[Int.natAbs_natCast];have e:Zg7%#[a4,2 ^ 61-1]=a:=#[nj,Int.emod_eq_of_lt,Zaf]
  have n:¬ (Zg7<0):=Zae
  rw[e,aQc n]
  exact ZaNg
 unfold hashInt;rw[r]
 exact ZaNg
abbrev n0 (c:Int):Nat:=if ZgX%5=4 then 997852516353 else 0
def Xh (c:Int):n0 c=0\/n0 c=Zn8:=by unfold n0;split<;>simp
def AL (k c:Int):∃ n:Nat,lC k c=Zbj/\Js (n0 c) n/\∃ x:Int,Zbj=(n0 c:Int)+(k*ZaoG+ZE5)+Zes*x:=by
 have h0:=ZaSm;have h1:=ZaSn;have h2:=Int.mul_ediv_add_emod (ZaoH) Zes;unfold lC n0 Js;dsimp only;generalize ZaoH=y at *;refine (lG ((#[fL,ZgX%5,4,#[nh,y]+Zn8,#[nh,y]]).toNat) ?_ ?_ (-(y/Zes)) ?_)<;>split<;>lia
def WP {d1 d2 e f t x y:Int}(h1:d1=#[Ll,e,x])(h2:d2=#[Ll,f,y]):f*d1-e*d2=Zes*(f*x-e*y):=by
 rw[h1,h2,Int.mul_add,Int.mul_add,Int.mul_sub,#[a9W,e,t],#[a9W,Zes,x],Za9V e Zes y]
 lia
def IC {i j k l s:Int}(hi:ZaeE)(hj:Zaf3)(hk:ZaQq)(hl:ZaQr)(hs:#[avO,(k-i),(l-j)]=Zes*s):k=i/\l=j:=by
 have b1:(k-i+61).toNat<123:=ZOV
 have b2:(l-j+61).toNat<123:=ZOV
 have b3:k-i=((k-i+61).toNat:Int)-61:=ZOV
 have b4:l-j=((l-j+61).toNat:Int)-61:=ZOV
 obtain⟨z1,z2⟩:=Xz b1 b2 b3 b4 #[aM,hs,Int.mul_emod_right _ _];clear hs
 lia
def YH (e f:Int):ZaT2=f*ZOW-e * Za9X:=Zae
def WU (e f:Int):ZaT2 = -(f * Za9Y-e*Zwz):=Zae
def O1 {i j k l c:Int}(hi:ZaeE)(hj:Zaf3)(hk:ZaQq)(hl:ZaQr)(P:Program)(w:World)
  (h:#[aZ',ZaTW,[Zdu (lC k c),Zdu (lC l c)]]):lC i c=ZZ9/\lC j c=lC l c:=by
 refine jq (AL i c) fun a ea ba xa qa=>?_;refine jq (AL j c) fun b eb bb xb qb=>?_;refine jq (AL k c) fun m em bm xm qm=>?_;refine jq (AL l c) fun n en bn xn qn=>?_;have hN:=Xh c
 have sm:∀ z:Nat,Js (n0 c) z->#[a9U,z]:=fun z hz=>by obtain⟨z1,z2⟩:=hz;lia
 rw[ea,eb,em,en]at h ⊢
 have hh:∀ u v:Nat,#[a9U,u]->#[a9U,v]->ZCY Zd_ #[Fe,ZXG,(v:Int)]=ZCX [ZXG,(v:Int)]:=fun u v hu hv=>by
  unfold tupleKeyHash
  show Za9Q (ZCX [ZMS ZXG,ZMS (v:Int)])=_
  rw[Hn hu,Hn hv,#[nj,O2,Zaf],RQ]
 rw[#[aVE,ba,bb],#[aVE,bm,bn]]at h;generalize 1+ZaoF=t at *
 have d1:Ztm-a=#[Ll,(k-i),(xm-xa)]:=#[rP,qm,qa,Zalh]
 have d2:Zbj-b=#[Ll,(l-j),(xn-xb)]:=#[rP,qn,qb,Zalh]
 have cr:=WP d1 d2;clear qa qb qm qn;rcases NS hN ba bb bm bn h with ⟨z1,z2⟩ | ⟨z1,z2⟩ | ⟨z1,z2⟩
 ·rw[z1,z2];exact Zgz
 ·exfalso
  rw[z1,z2]at cr;rw[z1]at d1;have:=IC hi hj hk hl ((YH _ _).trans cr);rw[Zg_,Int.sub_self,Int.zero_mul,Int.zero_add]at d1;clear cr d2 h z1 z2
  lia
 ·exfalso
  rw[z1,z2]at cr;rw[z1]at d1;have:=IC hi hj hk hl ((WU _ _).trans (by rw[cr,<-Int.mul_neg]));rw[Zg_,Int.sub_self,Int.zero_mul,Int.zero_add]at d1;clear cr d2 h z1 z2
  lia
def RS {c:Int}[18](h:#[alf,p.1∈Zfq 62 c/\p.2∈Zfq 62 c]):r6 (ZaNo (·.1)):=by
 intro P w a ha b hb e
 have g:∀ a∈ZaNo (·.1),∃ i j:Int,(ZaeE)/\(Zaf3)/\a=ZaTW:=fun a ha=>by
  unfold B8 at ha;rw[aQP]at ha;obtain⟨p,hp,rfl⟩:ao:=ZaAD;obtain⟨q1,q2⟩:=h p hp;refine ao (vJ q1) fun i hi e1=>?_;refine ao (vJ q2) fun j hj e2=>?_;exact az i j hi hj (by show ZGy=_;rw[e1,e2])
 obtain⟨i,j,hi,hj,rfl⟩:bM:=g a ha;obtain⟨k,l,hk,hl,rfl⟩:bM:=g b hb;obtain⟨z1,z2⟩:=O1 hi hj hk hl P w e;rw[z1,z2]
def PB [29][78][18](h:ZacV)(al:Zagh)(ok:MO ml):Zax0:=by
 intro p hp;obtain⟨a,b⟩:=p;have lt:a<b:=ok.lo _ hp
 have hb:b∈u9 ZdY a:=by
  have:=al a b;unfold qw vH lH at this;rw[ZnI,aQe hp]at this;exact Zu9
 have ha:a∈st.circ.map (·.1):=(JA ZrV).2.2 b hb;obtain⟨x,hx,rfl⟩:ao:=ZaAD;exact⟨(ZrV x hx).1,(JA ZrV).2.1 b hb⟩
abbrev Mu [32](b:Addr):Zaa:=(∃ k,#[cf,(.dK k)])\/(∃ k,#[cf,(.dT k)])\/∃ l,#[cf,#[eB,l]]
def Mu.ins [38]{b C dx:Addr}[347](h:ZA')(e:#[cf,ZpZ]):False:=by
 rcases h with ⟨k,h⟩ | ⟨k,h⟩ | ⟨k,h⟩<;>rw[e]at h<;>cases h
def Mu.tup [38][46][31](h:ZA')[190]:False:=by
 rcases h with ⟨k,h⟩ | ⟨k,h⟩ | ⟨k,h⟩<;>rw[e]at h<;>cases h
def Mu.some [38][46](h:ZA'):ZzI:=by
 rcases h with ⟨k,h⟩ | ⟨k,h⟩ | ⟨k,h⟩<;>exact ZYD
def bA.mu {C:Addr}[38][112][257]:#[Ov,ZA']:=by
 intro b hb;simp only[HA.fp,aQm]at hb;rcases hb with rfl | rfl | rfl | rfl | hb
 ·exact #[ib,x.w]
 ·exact #[ib,x.h]
 ·exact #[ib,x.c]
 ·obtain⟨as,h,_⟩:=x.d
  exact #[nO,ZYD]
 ·obtain⟨i,hi,rfl⟩:=aX1 hb
  obtain⟨y,_,q⟩:=#[aqq,x.cs];exact #[ib,q]
#print Wz
namespace L2
open PySem PySem.Spec PyProof.Rows
noncomputable abbrev JY (qual:Str)(scope:Scope)[154][386]:Env:=PySem.W.envX Zbx ZbY Zaw f Zays Ztd
abbrev Ef [231][386][76](E:XK):Cx where
 prog:=P
 w:=w
 K:=K
 mg:=mg
 base:=base
 A:=ZCk (JY Zbx ZbY s f c' y cy)
 N:=N
 s₀:=s
 H₀:=H
 env:=ZXp
 outer:=outer
 stack:=ZXp::Zcm
 ex:=[]
 calm:=true
 fn:=ZXE
 pn:=[]
 xe:=#[a1s,ZaNd,Za3L]
structure GS [167](y:Str)[411]:Zaa where
 kind:ZB2
 co:ZaaY
 gen:ZaaZ
 nd:#[yB,0].Nodup
 par:∀ x∈ps,#[OY,ZlE]
 nocell:∀ z∈sc.names,z.2≠ZeT
 fr:∀ x,Zabj->x=y
 fry:ZOX y=Zab Zf5
structure D5 (base:Heap)(qual:Str)(params:Arguments)(body:Expr)(scope:Scope)(y:Str)(vy:V)(f c' cy:Addr)(pm ct:Value):Zaa where
 ob:#[bdV,Zr0]
 cell:∃ u,bJ vy u/\base.IsCell cy (Zab u)
abbrev rM [32](c':Addr)(qual:Str):Zaa:=∃ oc vs t,#[aP,c',ZLm]/\oc.data=Za1 vs/\#[av,vs[1]?,(Zag Zbx t)]
def rM.rec [319]{c':Addr}{qual:Str}(x:Zaeu)[158]:h.CodeRec #[aj,c'] Zbx:=by
 obtain⟨oc,vs,t,e,d,v⟩:=x;exact iU c' oc vs t rfl ((ok c' _ e).1) d v
def LV [80]{x:Str}{u:α}:∀ {l:#[o',α]},(l.map (·.1)).Nodup->(x,u)∈l->#[bB,l.lookup,u]
 | p::l,nd,h=>by
  rw[aQv,aQ0]at nd;rw[aQY];rcases Zz7 with e | e
  ·rw[<-e];simp
  ·have ne:#[o_,x,p.1]:=by
    rw[aQ8];exact fun z=>nd.1 (by rw[<-z];exact aXe (f:=(·.1)) e)
   rw[ne];exact LV nd.2 e
def Rm {ps:Zbp}[16][253][166](nd:ps.Nodup)(hl:Zen=ZdS)(h1:ZaAb)(h2:#[av,Zaiz,u]):#[bB,Zax6,u]:=by
 refine LV ?_ ?_
 ·rw[List.map_reverse,#[cD,List.map_fst_zip]]
  exact (List.reverse_perm ps).nodup_iff.mpr nd
 ·rw[List.mem_reverse]
  exact aQC (i:=i) (List.getElem?_zip_eq_some.mpr Zvc)
def Nr {CX:Di}{P:Program}{w:World}{K:PySem.W.Frag}{mg:Zpf}{base:Heap}{ps:Zbp}{y:Str}{qual:Str}{params:Arguments}{body:Expr}{scope:Scope}{vy:V}{f c' cy:Addr}{pm ct:Value}{A:Around}{outer:ZcU}{s:Shared}{h1:Heap}{tk:Nat}{H:Hp}{E:XK}{us:Zb4}{vs:Zbs}
  (S:ZaXN) (Lm:Za3S) (hd:Zfl) (e0:Zarq) (hl:ZaLQ) (r:ZnR)
  (hns:#[ud,h1.Ns,(#[cV,Zax6 x])]) (hk:ZaE1) :
  aT Zail [] ZapM H #[axo,h1]:=by
 have noA:#[aUO,Zail]:=ZSu;refine OM Lm.cell fun uy ry oc a_=>?_;obtain⟨hoc,hdc⟩:=a_
 have lk:∀ x c,#[ajz,x,Ztd,c]->x=y/\c=cy:=fun x c h=>by
  rw[aQY]at h
  cases e:x == y with
  | true=>rw[e]at h;cases h;exact#[e_,Zoq e]
  | false=>rw[e]at h;cases h
 have lky:#[ajz,y,Ztd,cy]:=#[bm,aQY,beq_self_eq_true]
 refine⟨#[a96,fun x z c h1 h2=>?_,Zuj,ZXR],
  rfl,e0.bare,ZaiE,ZaTy,ZXR,Za6a,ZXR,Zapa,ZaC6,?_⟩
 ·rw[(lk x c h1).1,(lk z c h2).1]
 ·have hx:#[aeN,Zv9,Zv9]:=hx
  rcases hx with q | q
  ·exact #[oS,(Zaka _ (aXJ q))]
  ·exact#[ug,cy,S.fr x q,lky]
 ·cases h
 ·by_cases hi:i<Zen
  ·have hp:ZaAb:=by
    have h1:ZaJ0:=h1;rw[aZE hi]at h1;exact h1
   have ha:ZNu:=by
    have h2:ZaKJ:=h2;rw[aZE (by simpa [hl] using hi),aQI]at h2
    cases e:ZNt with
    | none=>rw[e]at h2;cases h2
    | some a=>rw[e]at h2;cases h2;rfl
   refine ZaXw;refine ⟨u,rv,Zal #[cu,ZNw x (aQC hp)]⟩;exact Rm (aXX.mp S.nd).1 (by rw[<-ZeX,hl]) hp hu
  ·have h1:ZaJ0:=h1
   have hi2:i=Zen:=by have:=#[rA,h1];simp at this;lia
   have h2:ZaKJ:=h2;rw[hi2,#[tc,aX4],Nat.sub_self]at h1;rw[hi2,aX4 (by simp[hl]),show Zen-#[bd,Zaj1,Zab]=0 by simp[hl]]at h2;cases h1;cases h2;exact ⟨uy,ry,#[q5,Zap S.fry,cy,lky,⟨oc,ZaXP,hdc⟩]⟩
 ·obtain⟨rfl,rfl⟩:=ZaO5
  exact #[fJ,oc,ZaXP,hdc]
 ·obtain⟨rfl,rfl⟩:=ZaO5
  exact (ZOZ _ _ hoc).2
 ·show #[dM,ZapM,#[bc,ZyB]]
  simp[hl]
def Vl {CX:Di}{P:Program}{w:World}{K:PySem.W.Frag}{mg:Zpf}{base:Heap}{k:Nat}{ps:Zbp}{y:Str}{qual:Str}{params:Arguments}{body:Expr}{scope:Scope}{vy:V}{f c' cy:Addr}{pm ct:Value}{sp:Sp}
  (S:ZaXN) (Lm:Za3S)
  (len:ZO1) (Z_:#[O0,Zjz->Zaeu])
  (P_:∀ (A:Around)(outer:ZcU)(s:Shared)(H:Hp)(vs:Zbs)(Q:VK)(E:XK),fj k ZaNd->Zjz ->
   ∃ t,PE (#[aw6,CX,ZyB,ZbY,s,H]) Zfu t/\t ZapM H Q) :
  #[a1M,#[awU,Za92,Zays]]:=by
 refine⟨len,#[a6b,?_]⟩;have hl:=ZaPI;have hkp:#[aak,ZdW]:=ZarD;have lim:s.heap.NoLimit:=Za6c hkp;refine #[a3f,PySem.W.kla_callFunE,hkp,Lm.ob,((Z_ _ _ _ _ hsp).rec e0.hok)];refine aZF Zaka (fun z hz=>ZNw z.1 (aZQ hz).1) (fun h1 hns hsb=>#[cu,lim.fresh _ hsb]) ZCq;have hk1:ZaE1:=#[dy,hsb.extBut b o ZjB Zmt]
 show ZrH _ _ (.expr Zfu Za3L) _ _
 refine ZaZT;have I:aT Zail [] ZapM H #[O2,h1,ZbX+#[bd,Zv7,us]]:=Nr S Lm ZCr e0 hl r hns hk1;refine PySem.W.kla_codeExpr (aQR (ht [] _ _ H Q I hq) (fun u s' zz=>?_) fun e s' hs=>hs);obtain ⟨v,H',J,rv,q⟩:=zz;exact Za3Q
abbrev wv [1](c P:Addr):Zaa:=∃ (o:Obj)(vs:ZiB)(file:Str)(tf:Tok)(flags:Int)(tg:Tok)(inF:Bool)(text:Int)(tt:Tok),ZaBz/\#[x0,"code"]/\Zaeh/\ZaNe/\#[aly,11,Zai P]/\Zalx 18 Zax=Zag file tf /\
  #[aly,7,Zah flags tg]/\#[aly,9,Zft inF]/\#[aly,10,Zah text tt]/\c≠P
def wv.hd [6]{c P:Addr}[153](x:ZaR1)(k:ZqW):Za9_:=by
 obtain⟨o,vs,file,tf,flags,tg,inF,text,tt,e,r⟩:=x;exact #[a3_,vs,k _ _ e]
abbrev yj [24](base:Heap):Zaa:=∃ bm ob,#[bW,"__builtins__",bm]/\bm≠ZB0/\Zr0 bm=Zab ob/\ob.cls=Za2 "module"/\Zakr=Zab ZB0/\ZOd=.plain
abbrev TabI [32](P:Addr)(pos:Pos)(qual:Str):Zaa:=H P=some (ZeS #[])\/∃ c',H P=some (ZeS #[Zajl,ZAP,ZqP])/\Zaeu
def TabI.tbl [38][244]:∃ ps,#[aP,P,Zava]:=x.elim (#[cb,ZnE]) fun #[bJ,e,_]=>ZnE
def TabI.same [15][244][111]:ZaE':=by
 rcases x with e | ⟨c',e,oc,vs,t,e2,r⟩
 ·exact Zal ZaaC
 ·exact Zap (iA c' ZaaC oc vs t (s _ _ e2) r)
section
variable {X:Cx}{pins:Zej}{σ:St}{H:Hp}{s:Shared}
def Pj {A:Around}{E:ZfG}{params:Arguments}{body:Expr}{scope:Scope}{pos:Pos}{y:Str}{c0 P cy:Addr}{qual:Str}{Q:ZfG}(I:Zjf)(hc:ZaGF)(C:ZaWe)(B:ZaKn)(hq:ZaUx)
  (hT:ZKz) (hdf:ZaVW) (hcl:Za63) (hcy:ZadA)
  (h:∀ (f c':Addr)(pm ct:Value)(H':Hp)(s':Shared),Zrb->#[bdV,ZO6]->#[aw9,f]->H' f=Zac->rM H' c' Zbx->ZaE'->#[agf,P] ->
   (#[o7,ZdW,P,#[bt,ZO6]])->#[b9,f,s']) :
  #[w',#[kN,(Zr1 Zl1 Zfu ZbY pos)]]:=by
 refine PySem.W.kla_eval hdf ?_;rw[hq];have kb:=I.bk;have CH:=C.hd Zhm;obtain⟨bm,ob,b1,b2,b3,b4,b5,b6⟩:ug:=B;have gN:ZaiO ZlF ZcA:=I.ok.mod.glob.keeps kb;obtain⟨ps,hps⟩:=hT.tbl;have hPo:#[pP,P,(PySem.W.tabObj ps)]:=Zbl P _ hps
 have nP:#[aiQ,b≠P]:=fun b o e z=>by rw[z]at e;rw[#[ff,I.bs].2]at hps;cases hps
 have gP:ZlF≠P:=fun z=>by
  refine ZaYW;exact nP _ _ e z
 have bG:bm≠ZlF:=fun z=>by
  refine ZaYW;rw[z,e]at b3;cases b3;rw[hd]at b6;cases b6
 have hb:s.heap.BuiltinsAt ZcA P:=⟨bm,ob,b1,b2,bG,nP _ _ b3,kb _ _ b3,b4,b5,b6⟩;rcases hT with hT | ⟨c',hT,hcf⟩
 ·rw[hps]at hT
  cases hT;refine PySem.W.kla_makeFunction (mg:=ZcA) hcl ZCT gN hc CH hPo (by trivial) rfl gP hb fun c' ctv h' tk hx hge v_ cj6 htb=>?_;obtain⟨c1,oc,vs,t,e1,hoc,hdc,hvc⟩:jD:=cj6;cases e1;have hcH:#[a_,c']:=Zod hge
  have cP:c'≠P:=fun z=>by rw[z,hps]at hcH;cases hcH
  have fH:Zay9:=Zod (aQZ hge (ZB6 v_))
  have fP:Zke≠P:=fun z=>by rw[z,hps]at fH;cases fH
  have fc:Zke≠c':=aQ5 v_;have kk:#[o7,ZdW,P,ZbdU]:=#[CZ,aQb _ (hx b o n e)];have lt0:#[yR,b≠c']:=fun b o e z=>#[By,(aQo (z▸e)),hge]
  have ltH:#[tM,b≠c']:=fun b o e z=>by rw[z,hcH]at e;cases e
  have I1:aT X pins σ (upd (upd H P (ZeS (#[]++#[Zajl,ZAP,ZqP]))) c' ZLm) #[axo,ZNI (ZbdT)]:=by
   have T_:∀ b o,Zd8->b≠P->upd (upd H P (ZeS (#[]++#[Zajl,ZAP,ZqP]))) c' ZLm b=Zhd:=#[CZ,#[dz,ZaJQ,Zqv,e]]
   refine I.un ⟨fun b o e n _ _=>kk b o e (fun z=>by rw[z,hps]at n;cases n),fun b o e n _ _=>⟨o.slots,kk b o e (fun z=>by rw[z,hps]at n;cases n)⟩,#[alz,?_],#[O7,?_],fun b xs e=>T_ b _ e (fun z=>by rw[z,hps]at e;cases e),fun b o u e=>T_ b _ e (fun z=>by rw[z,hps]at e;cases e),fun b qs e=>?_⟩ ZHD
   ·rw[ai #[c4,lt0],ai (fun z=>by rw[z,hps]at n;cases n)];exact n
   ·by_cases z:b=P
    ·exact#[aR,#[Hy,ZazK]]
    ·exact#[h2,kk b o e z]
   ·by_cases z:b=P
    ·rw[z,hps]at e;cases e
     exact⟨#[Zajl,ZAP,ZqP],by rw[z,#[b',cP],ac]⟩
    ·exact⟨#[],#[fs,T_ b _ e z]⟩
   ·by_cases z:b=c'
    ·rw[z,ac]at e
     cases e;rw[z];exact⟨ZazJ,_,ZazJ⟩
    ·rw[Zut]at e
     by_cases z2:b=P
     ·rw[z2,ac]at e
      cases e;rw[z2];exact ZazK
     ·rw[ai z2]at e
      refine (Zbl b u e).stay (fun d v hd q=>kk d v q ?_) (fun d q=>T_ d _ q (fun z=>by rw[z,hps]at q;cases q)) fun d xs q=>T_ d _ q (fun z=>by rw[z,hps]at q;cases q);rcases hd with r | r
      ·rw[r];exact z2
      ·exact fun z=>by rw[z,hps]at r;cases r
  have cf:rM (upd (upd H P (ZeS (#[]++#[Zajl,ZAP,ZqP]))) c' ZLm) c' qual:=jT oc vs t ac hdc hvc;refine h _ c' _ ctv _ _ I1 ZeJ (aQZ hge (ZB6 v_)) ?_ cf (Zap #[uf,c',cf]) ZaFi kk
  ·rw[ai fc,ai fP];exact fH
  ·rw[#[b',cP],ac];rfl
  ·rw[ZaJQ,Zqv];exact e
 ·rw[hps]at hT
  cases hT;refine PySem.W.kla_makeFunctionHit (cv:=ZqP) (mg:=ZcA) hcl ZCT gN hc CH hPo ?_ ?_ hb fun ctv h' tk hk hsz=>?_
  ·exact True.intro
  ·exact codeAmong_snoc (pos:=pos) (c:=ZqP) [] Za5K rfl
  have fH:Zay9:=Zod hsz;have kk:#[yR,ZbdU]:=#[arA,#[c4,hk]];exact h _ c' _ ctv H _ (ZrD kk) ZeJ hsz fH hcf (Zap ⟨c',hps,hcf⟩) ZadN (#[O7,kk b o e])
def zO {h base base':Heap}:∀ [400],Za93 ZaS l->(#[gH,mw l,Za94 b=Zac])->Za93 base' l
 | [],_,_=>trivial
 | env::r,hl,hn=>by
  obtain⟨hk,a_,hr⟩:eJ:=hl;obtain⟨L,o,hf,hb,ho,hd⟩:bB:=a_
  have e:mw (env::r)=L::mw r:=by unfold mw;rw[List.filterMap_cons,hf]
  rw[e]at hn;exact ⟨hk,bS L o hf (hn L aQi) ho hd,(zO hr #[cX,hn b ZAi])⟩
abbrev Bk (base h:Heap)(f cy:Addr):Heap:=ZaiI h (ZaRc #[iC,#[lJ,ZaZu]])
def qi [332][321](hb:(ZaJr)\/ZaQB):ZaFr:=by
 refine #[aOB,ZfO];refine eJ (aQJ (ZaiJ z).2) ZarM;rcases hb with ⟨o,q⟩ | q | q
 ·rw[n1]at q;cases q
 ·exact n2 q
 ·exact n3 q
def ED [332](e:ZaFr):ZeK/\((ZaJr)\/ZaQB):=by
 have e1:=#[a4B,e];refine ZaAQ
 by_cases z:ZaZu
 ·have:#[av',0].get? b=Zac:=ZaiL _ (ZaiK ⟨Zn' (aQo e1),Zz3⟩)
  rw[this]at e;cases e
 ·by_cases z1:b=f
  ·exact #[m9,z1]
  by_cases z2:b=cy
  ·exact #[nO,z2]
  cases q:Zr0 b with
  | none=>exact #[oR,⟨q,z1,z2⟩,z]
  | some o=>exact #[Y2,o]
def Mod.keeps [6][77]{base base':Heap}(m:ZaFC)(k:#[aak,#[bt,Za94]]):Mod K mg base' :=
 ⟨m.kin.keeps k,m.glob.keeps k,let ⟨mb,h1,h2⟩:=m.blt;⟨mb,Za40 k,h2⟩,m.nolimit.keeps k⟩
def Ph {f cy:Addr}{y:Str}[3](hf:#[a_,f])(hfo:∃ o,#[q0,f])(hs0:ZdT<f)(hcy:ZadA)(hfn:ZaHD):Fa Zcl X.w X.K ZcA ZaRJ X.A Zdv s H:=by
 have e0:=I.env0
 have nf:#[XA,b≠f/\b≠cy]:=fun b hb=>by
  rcases ZaPv with z | z
  ·exact#[ug,#[Hy,aQu hs0],z,(I.cne y cy hcy).symm]
  ·refine #[au8,z]
   have l1:=aQo ho;have l2:=ZOE y cy hfn hcy;have l3:=I.ok.above;exact⟨aQu (Zaj2 (aQD l1 l3) hs0),aQu (aQD l1 l2)⟩
 refine⟨Za95,I.ok.mod.keeps #[dy,qi #[c4,I.bk] (Zal ZnU)],ZHB,ZNh (Za4z _ _),zO e0.funs ZmS,e0.frf,e0.hok,e0.bare⟩
 ·obtain⟨e1,z⟩:=ED e
  refine ZaAQ;rcases z with ⟨o',z⟩ | z | z
  ·exact (I.bs b o' z).2
  ·rw[z];exact hf
  ·rw[z];exact ZvV y cy hcy
 ·cases q:#[aRJ,0].get? b with
  | none=>rfl
  | some o =>
   obtain⟨_,z⟩:=ED q;rcases z with ⟨o',z⟩ | z | z
   ·have:=(Za7X hb).1
    rw[this]at z;cases z
   ·exact #[oU,#[kI,nf]]
   ·exact #[oU,#[c1,nf].2]
#where
section
variable {X:Cx}{CX:Di}{k:Nat}{E:XK}{x y:Str}{p pos:Pos}{e e1 e2:Expr}{es:Zbu}{te t1 t2:TE}{t:TA}
def Qb {i:Nat}{f:Addr}{fd:FuncData}{ps:Zbp}{sp:Sp}{o:Obj}(F:Zao3)(hr:ZjV)(hN:ZnN)(hv:ZanZ)(ho:ZaiP f=Zab o)(hd:Zhi=Zwe fd)
  (hb:#[ax7,#[SV,#[aT9,ZpW]]]) (hx:Ziy) (ha:Zhh)
  (S_:Za71:=by decide) (Z_:Zaaz:=by decide) (he:ZEh:=by rfl) (J_:ZanI (·.1)=false:=by rfl) :
  #[xl,(#[ai3,#[av,Zajm,Zs_]/\t σ H #[C1,sp vs H1 Q E]])]:=by
 intro pins s σ H Q I h;obtain⟨hσ,h⟩:=h;refine aXd (bZ (Ql hN hv S_ Z_ Zam s σ H (#[C2,v=Zai f/\H'=H]) I #[Fb,hσ]) Zg3);obtain ⟨v,H1,I1,rv,ev,eh⟩:=zz;subst ev eh;obtain rfl:#[Ru,f]:=rv
 have kp:∀ h:ZvP,Zef f=Zab o->∃ k,(k=Keeper.frame\/k=Keeper.machine\/k=Keeper.boundFrame)/\#[aTL,keeperOf,f,k]:=fun h q=>by
  obtain⟨oc,od,dt,sl⟩:=o;have hd:dt=Zwe fd:=hd;subst hd;exact ⟨.frame,ZnH,(Za8f (part:=Zac) q).andThen .now⟩
 rw[he];refine PySem.W.callWith_of (P:=#[ge,Zef f=Zab o]) (by show ((false||ZanI (·.1))||false)=false;rw[J_];rfl) kp Zabc;have hA:=#[Xm,ha,pos,_,h];rw[he]at hA;refine bZ hA fun us s2 ⟨vs,H2,I2,r,q⟩=>#[cu,(I2.bs _ _ ho).1]
 have hl:ZdS=Zen:=#[XB,ZeX,q]
 refine #[L',aZP,ZNo X.A Zdv s2 H2 ZpW us vs Q E hr I2.env0 (hb s2 us hl) r q]
 cases r with
 | error e=>exact #[ah6,H2,s2,I2]
 | ok fl =>
  cases fl with
  | ret u=>exact Za97 hq
  | next=>exact ZvX
  | brk=>exact ZvX
  | cont=>exact ZvX
#where
def eE.okXC {P:Program}{w:World}{K:PySem.W.Frag}{mg:Zpf}{base:Heap}{x qual:Str}{st:Stmt}{f c0:Addr}{fd:FuncData}{N ps:Zbp}{k:Nat}{sp:Sp}(F:ZA1)(S:Zag1)(hco:ZaGG)(len:ZO1)
  (P_:∀ (A:Around)(outer:ZcU)(s:Shared)(H:Hp)(vs:Zbs)(Q:VK)(E:XK),fj k #[Ns,Zxy,Zayu]->Zjz ->
   #[aYQ,Zayu]):ZaG1:=by
 obtain⟨oc,od,kV,doc,pm,an,i_,ct,osl,rfl,lk,Z_⟩:fT:=F.ex;have e:i_=Zai c0:=hco;subst e;exact #[ah5,#[aw3,hr]]
abbrev R7 [392]:Arguments:=match e with | Zr1 a _ _ _=>a | _=>#[a6S,[],[],Zac,[],[],Zac,[]]
abbrev R8 [392]:Expr:=match e with | Zr1 _ b _ _=>b | _=>e
abbrev Pg [392]:Scope:=match e with | Zr1 _ _ s _=>s | _=>#[a6V,ZB1,[],Zay,Zay]
abbrev YS [392]:Pos:=match e with | Zr1 _ _ _ p=>p | _=>Zvx
#print L2
namespace Wz
open PySem L2
inductive Gx [1](P0:Addr)[12]:Zaa
 | mk [86][168](_:vs=Zh')[382](_:Zfp<=63)(_:H P0=some (ZeS #[]))(_:#[gK,Zy0])
def TabI.put [38]{P l:Addr}[156]{qual:Str}[31]{o:HO}(x:ZKz)(e:Zra):ZoE ZZZ P pos Zbx:=by
 rcases x with q | ⟨c',q,oc,vs,t,e2,r⟩
 ·exact Zal (by rw[ai (dU q e (by intro z;cases z))];exact q)
 ·exact Zap (iA c' (by rw[ai (dU q e (by intro z;cases z))];exact q) oc vs t (by rw[ai (dU e2 e (by intro z;cases z))];exact e2) r)
#print Wz
namespace L2
open PySem PySem.Spec PyProof.Rows
set_option tactic.hygienic true
def EQ [6]{x:Str}{c P:Addr}[342]:∃ (f:Addr)(oc:Value)(od:Zgk)(fd:FuncData)(osl:Zvw)(o:Obj)(vs:ZiB),Zafb/\Za2d/\ZalA=Zai c/\ZaBz/\Zaeh/\ZaNe:=by
 unfold PySem.W.tabIn at h;split at h
 ·rename_i f hf
  split at h
  ·rename_i oc od fd osl hfo
   split at h
   ·rename_i c₂ hc
    split at h
    ·rename_i a1 a2 vs a3 hco
     split at h
     ·rename_i P₂ hv
      cases h;exact ⟨f,oc,od,fd,osl,_,vs,hf,hfo,hc,#[ii,hco,hv]⟩
     ·cases h
    ·cases h
   ·cases h
  ·cases h
 ·cases h
set_option tactic.hygienic false
def Q9 [6]{x qual:Str}{st:Stmt}{c P f:Addr}{fd:FuncData}[342](hf:Zafb)(F:ZA1):ZalA=Zai c:=by
 refine qr (EQ h) fun f' oc od fd' osl o vs e1 e2 e3 _=>?_;rw[hf]at e1;cases e1;refine fT F.ex fun oc2 od2 kV doc pm an i_ ct osl2 e4 lk _=>?_;rw[e2]at lk;cases lk;exact e3
def OE [6]{x:Str}{c P:Addr}[153](ht:Za0Z)[425](C:Za9_):ZaR1:=by
 refine qr (EQ ht) fun f' oc od fd' osl o vs e1 e2 e3 a_=>?_;obtain⟨e4,e5,e6⟩:eJ:=a_;obtain⟨o',vs',file,a_⟩:iw:=C;obtain⟨tf,flags,tg,b_⟩:iw:=a_;obtain⟨inF,text,tt,g,r⟩:ko:=b_;have:=X _ _ e4;rw[g]at this;cases this;exact #[a3_,vs',e4]
def Nt {P:Program}{w:World}{K:PySem.W.Frag}{mg mb:Zpf}{CX:Di}{k:Nat}{fa a c0 P0:Addr}{fd:FuncData}{x:Str}{sp:Sp}{s₁:Shared}{vs:Zb4}{ns:Zbq}
  (KX:Zoa Zkg) (hns:ZalB ZlF mg) (hb:ZalB ZB0 mb) (hbb:Zbc3) (cx3:s₁.heap.NoLimit) (hg:s₁.gens = #[])
  (ha:ZaN1) (hi:ZS9) (hl:Zaza) (hr:ZaBI)
  (hK:#[auw,K]) (C:Za99 Zkg c0 P0) (hP:ZCA P0=some (PySem.W.tabObj #[])) (BM:yj mg Zkg)
  (F:#[aq1,Zoa,aY P w K mg ZaS CX k fa fd [x] sp]) (bv2:ZaLg)
  (hsp:∀ H:Hp,H P0=some (ZeS #[])->ZLC->sp Zh' H Zax8 ZqK)
  (hCX:∀ H e s',CX [] H ZiJ (ZqK) e s'->ZiT) :
  #[a4h,Zwi]:=by
 have rv:=ET hi;have cj1:=hi.length
 have aP:a≠P0:=fun z=>by rw[z,hP]at ha;cases ha
 have Kno:#[pq,ZiW,b≠P0]:=fun b o e z=>by
  have e2:=KX b o e;rw[z,hP]at e2;cases e2;have h2:=aQL.mp hK (b,PySem.W.tabObj #[]) (PySem.W.mem_of_lookupK e);exact #[xu,show ZkJ from h2]
 obtain⟨H,HP,HA,ax0⟩:∃ H:Hp,H P0=some (ZeS #[])/\((ZiW a=Zac/\#[d6,ZaN8])\/(∃ o,Zaaq)/\Znl)/\∀ b,b≠P0->Zz4->Zbb:=by
  cases hk:ZiW a with
  | some o=>exact ⟨(fun b=>if ZuB then some (ZeS #[]) else none),Zaz,Zap ⟨#[e_,o],aQc aP⟩,(fun b n _=>aQc n)⟩
  | none=>exact ⟨(fun b=>if ZuB then some (ZeS #[]) else #[amu,b=a,ZaN8]),Zaz,(Zal #[d5,by show #[abW,a=P0];rw[aQc aP,Zaz]]),(fun b n1 n2=>by show #[abW,ZuB];rw[aQc n1,aQc n2])⟩
 have hok:#[tz,Zkg]:=fun b u e=>by
  by_cases z:ZuB
  ·rw[z,HP]at e;cases e;rw[z];exact hP
  ·by_cases z2:b=a
   ·rw[z2]at e ⊢
    rcases HA with ⟨_,q⟩ | ⟨_,q⟩
    ·rw[q]at e;cases e
     exact ⟨ha,#[tH,hl],#[fR,vs,rv,ha]⟩
    ·rw[q]at e;cases e
   ·rw[ax0 b z z2]at e;cases e
 have hS:ZLC:=by
  rcases HA with ⟨_,q⟩ | ⟨⟨o,q1⟩,q⟩
  ·exact #[Z',Zld]
  ·have e:=KX a o q1
   rw[ha]at e;cases e;exact Zap (iC _ Zv_ _ q1 rfl rfl rfl #[ih,aQz,cj1,hl] (Za5f))
 have free:∀ [362],#[bt,ZCA]->(∀ qs,#[U',qs])->(∀ qs n,Zhi≠Za3 qs n)->Zbb:=fun {b o} e n1 n2=>ax0 b (fun z=>by rw[z,hP]at e;cases e;exact n1 _ rfl) (fun z=>by rw[z,ha]at e;cases e;exact n2 _ _ rfl);have nsK:∀ [46][146],ZalB b m->#[acx,0].Ns b m:=fun {b m} ⟨o,es,ep,e,d,r⟩=>jT o es ep (BH e (free e (fun qs z=>by rw[d]at z;cases z) (fun qs n z=>by rw[d]at z;cases z))) d r
 have hKb:Zoa (Fy Zkg H):=fun b o e=>BH #[c4,KX] (by
  by_cases z:b=a
  ·rcases HA with ⟨q0,_⟩ | ⟨_,q⟩
   ·rw[z,q0]at e;cases e
   ·rw[z];exact q
  ·exact ax0 b #[c4,Kno] z)
 have hM:Mod K mg Zacx:=⟨hKb,nsK hns,⟨mb,nsK hb,hbb⟩,let ⟨mc,h1,h2⟩:=cx3;⟨mc,nsK h1,h2⟩⟩;have e0:Fa P w K mg Zacx ZO8 [] ZiJ H:=⟨rfl,hM,#[dy,SA e],ZNh (Nm _ _),ZCv,#[cX,#[oV,show b∈ZSs from hb,ZaV]],hok,ZajH hg⟩
 have BM2:yj mg (Fy Zkg H):=by
  obtain⟨bm,ob,b1,b2,b3,b4,b5,b6⟩:ug:=BM;exact gT bm ob b1 b2 (BH b3 (free b3 (fun qs z=>by rw[b6]at z;cases z) (fun qs n z=>by rw[b6]at z;cases z))) b4 b5 b6
 refine aX2 ((F _ hKb (nsK hns) BM2).run ZO8 [] ZiJ H ZauE Zh' Zh' _ _ hr e0 (bv2 ZiJ ZbV) ZaCC (hsp H HP hS)) fun r s' h=>?_
 cases r with
 | error e=>exact (hCX H e s' h).elim
 | ok fl =>
  cases fl with
  | next=>exact ZYO
  | brk=>exact ZYO
  | cont=>exact ZYO
  | ret u =>
   obtain⟨v,H',os,bare,un,bk6,r',q⟩:ug:=h;have q':Zawb:=q;subst q';obtain rfl:#[IR,Zad]:=r'
   have kp:#[J2,ZCA,P0,ZO6]:=fun b o e n=>by
    by_cases z:b=a
    ·rcases HA with ⟨_,q1⟩ | ⟨_,q1⟩
     ·have z2:=un.frzs b _ _ ZaFu
      obtain⟨e2,_⟩:=bk6 b _ z2;rw[z,ha]at e;cases e;exact e2
     ·exact un.keep b o e ZaFu (by intro z;exact ZSt) ZaV
    ·exact un.keep b o e (ax0 b n z) (by intro z;exact ZSt) ZaV
   obtain⟨more,hm⟩:=un.tbls P0 _ HP;have hP':ZO6 P0=some (PySem.W.tabObj (#[]++more)):=bk6 P0 _ hm;refine ⟨rfl,⟨ZHB,ZHB⟩,os,bare⟩
   ·by_cases z:ZuB
    ·rw[z]at e ⊢
     have e':=e;rw[hP]at e';cases e';exact Zap (Zal ⟨(C.tab hP).isCodeTable,rfl,⟨#[],more,rfl,hP'⟩⟩)
    ·exact Zal (kp b o e z)
   ·by_cases z:ZuB
    ·exact#[aR,#[Hy,hP']]
    ·exact#[h2,kp b o e z]
def walk_ofT {l:PySem.W.OpenLaw}{n k:Nat}{q:Program}{loose:Zbp}{XP:ZabK}{YP:ZabJ}{d:DefRec}{K:Params->Za9'}{CX:ZO9->Di}{sp:ZO9->Sp}{x nm:Str}{c0 P0:Addr}
  (hn:Zad0) (hn2:#[oj,n]) (hdf:Zaah) (hr:ZaBI)
  (hY:ZaMC)
  (hTY:∀ (w:World)(h:Heap),ZWF->ZaG5=some (PySem.W.tabObj #[])) (hch:ZaQI) (aq9:#[O_,ZaVu]) (hnt:ZaQH)
  (F:∀ (w:World)(mg:Zpf)(fa:Addr)(h:Heap),#[kW,0].In h->Zu'->Zaj7->ZaIP->ZaVu ->
   ∃ fd:FuncData,(ZaLg) /\
    #[a27,(CX w),k,[x],(sp w)])
  (hsp:∀ (w:World)(H:Hp)(a:Addr)(ns:Zbq),ZJu->H P0=some (ZeS #[])->bT ZkW H a Zyx->sp w Zh' H Zax8 ZqK)
  (hCX:∀ (w:World)(H:Hp)(s:Shared)(e:Value)(s':Shared),CX w [] H s (ZqK) e s'->ZiT) :
  ZaLJ:=by
 refine Att.attach_call hn hdf fun w s₀ s₁ mg mb fa o pm cd doc a vs ns G Y ho hd Z_ hmg bx6 hints hlen hg=>?_;have KX:=hY w _ Y;have CH:=PySem.W.codeHd_of_K KX (hch w);have hP:=hTY w _ Y;refine ao (F w mg fa _ KX G.T.g hmg (OE (aq9 w) KX CH) (aq9 w)) fun fd hb hF=>?_;exact Nt KX G.T.g G.T.b G.T.builtins G.T.nolimit hg bx6 hints (aQZ ZiP hn2) hr (hnt w) CH hP G.T.bmain hF hb (fun H hO hS=>hsp w H a ns ZiP hO hS) fun H e s'=>hCX w H ZiJ e s'
#print L2
namespace Wz
open PySem L2
abbrev ZT (o:Zgl):V:=match o with | none=>ZaK | Zab p=>Zah p
open PySem PySem.Spec PyProof.Rows L2 PySem.SetTable
noncomputable abbrev IK (es:ZiA (Int×Zb3))(ep:Nat)(t:SetTable):Obj:=#[So,Za2 ZiS,Zhj es ep t]
#print Wz
set_option maxRecDepth 1000000
set_option maxHeartbeats 8000000
namespace Wz
open PySem L2
def tH {P:Zgp}{G:Zaa}(C:Zgp)(main:(ZaUX)->G)(key:ZaUX):G:=main key
#print Wz
set_option maxRecDepth 1000000
set_option maxHeartbeats 8000000
namespace Wz
open PySem PySem.Spec PyProof.Rows L2 PySem.SetTable
section
variable {X:Cx}
def uf:∀ (l acc:Zbq),Za_a->#[aq_,l.foldl,acc]<=#[Xu,Zb8]/\(#[dM,(l.foldl ZO' acc),ZC3+Zb8]↔(acc++l).Nodup)
 | [],acc,nd=>by simp[nd]
 | x::l,acc,nd=>by
  rw[aXY]
  by_cases hx:x∈acc
  ·have e:#[aVs,acc]:=by unfold step_dedup;rw[aQd (ZCB)]
   rw[e];obtain⟨h1,h2⟩:=uf l acc nd;rw[aQB];refine#[mO,#[adh,ZfO]];rw[aXX]at z;exact #[oS,(z.2.2 x hx x aQi)]
  ·have e:#[aVs,acc++[x]]:=by unfold step_dedup;rw[aQc (ZCB)]
   rw[e];obtain⟨h1,h2⟩:=uf l (acc++[x]) (ZPa #[aY,nd,ZaV,fun a ha b hb z=>hx (by rw[<-ZI1,<-z];exact ha)]);rw[aQl,aQW]at h1 h2;rw[aQB,#[e2,#[Xu,Zz2]=ZC3+1+Zb8],h2,aXf];exact⟨h1,Iff.rfl⟩
inductive S9 [1][11]:Zaa
 | mk [261][68]
def MX [113]:#[ie,ZiS,(S9 X.K)]:=by
 intro pins s σ H xs us Q I r h;obtain⟨p,ns,rfl,hq,hz,q⟩:=h;obtain⟨u,rfl,rx⟩:ao:=ZeP;cases rx;refine #[pT,#[a_b,?_]];have hl:=rv.length;rw[Z9]at hl;refine #[a_B,call_set_list,Zhl]
 have en:Zbdm:=by
  unfold firstMet;rw[aQz,<-hl,BC]
 rw[en]at hS;obtain⟨d1,d2⟩:=ZaX_;refine Zbdn
#where
open PySem L2
structure ZD [410](o:Addr):Zaa where
 e:fR K o
 m:#[bW,ZCQ,o]
 x:#[a75,o,o]
abbrev Qt (a b c d:Int):Zd4:=[ZqL,(c,d),(a,c),(b,d),(a,d),(b,c)]
inductive Gz (co:Addr)[56]:Zaa
 | mk (a b c d:Int)(_:vs=[ZzX,Zup,ZzW,ZYw])(_:(ZFp->#[a'N,#[GC,Qt]]))(_:(¬ ZFp->#[jl,co]))
#print Wz
namespace Tm
open PySem PyProof.Rows
abbrev el [214][221]:Keyed:=xs.getD i (Zax,Zax)
structure Z6 [58](A:Around)[154][371][37]:Zaa where
 cmp:∀ {x y:Keyed}[51]{Q:ZbQ->Zaa},x∈a0->y∈a0->Q (lt x y)->#[fH,Zwi,(keyLt' κ x.1 y.1),(fun b s'=>s'=s/\Q b)]
 irr:∀ x,lt x x=Zay
 tr:∀ x y z,ZVf->lt y z=Zad->lt x z=Zad
 tot:∀ x y,x∈a0->y∈a0->x≠y->ZVf\/lt y x=Zad
 nd:a0.toList.Nodup
structure ZC [371](st:SortSt):Zaa where
 pm:(arrOf st).Perm a0
 fl:ZalC st=Zac
 kd:Zoo st=κ
section
variable {P:Program}{w:World}{A:Around}{E:ZfG}{s:Shared}{κ:SortKind}{a0:Zlz}{lt:ZaS7}{st:SortSt}
abbrev Up [37][214](lo hi:Nat):Zaa:=#[a0W,i,j]
abbrev Dn [37][214](lo hi:Nat):Zaa:=#[a0W,j,i]
abbrev Z5 (xs ys:Zlz)(lo hi:Nat):Zaa:=∀ i,i<lo\/hi<=i->el ys i=el xs i
abbrev ZK (st w_:SortSt):Zaa:=Zbea/\Za_c w_=Za_c st
#where
abbrev Yh:ZbQ->Zly->Zlz->Nat->Nat->Nat->#[awn,ZfW,Nat]:=sortPriv% PySem.Builtin.gallop
abbrev Bf [37](left:Bool)(key:Keyed)[214](b i:Nat):Bool:=#[dn,left,lt (el xs (b+i)) key,! lt key (el xs (b+i))]
abbrev Fn [471](T r:Zayw):Zaa:=r.Perm T/\r.Pairwise R
structure J [471](T out ra rb:Zayw):Zaa where
 pm:(out++(ra++rb)).Perm T
 so:out.Pairwise R
 oa:#[aTx,ra]
 ob:#[aTx,rb]
 sa:ra.Pairwise R
 sb:rb.Pairwise R
 la:∀ x,x∈rb->∀ z,#[av,ra.getLast?,z]->R x z
abbrev Xd:ZaVq:=sortPriv% PySem.Builtin.mergeLo
abbrev Rp:Nat->StateT SortSt Sem Unit:=sortPriv% PySem.Builtin.setMinGallop
structure Z8 (a0:Zlz)[147]:Zaa where
 ma:∀ i,Zazz->el a i∈a0
 mb:∀ i,i<Zr2->el b i∈a0
 ne:∀ i j,Zazz->j<Zr2->el a i≠el b j
 ua:Up lt a 0 ZwA
 ub:Up lt b 0 Zr2
 za:0<ZwA
 zb:0<Zr2
 h0:#[aOF,0,0]
 hl:#[aOF,(Zr2-1),(ZwA-1)]
abbrev aG (st w_:SortSt):Zaa:=arrOf w_=arrOf st/\ZalC w_=ZalC st/\Zoo w_=Zoo st/\Zbea
abbrev Jl [472](ia ib:Nat):Zaa:=J (Zaun) Za_G Zakh (a.toList.drop ia) (b.toList.drop ib)
abbrev Sl [210](ia ib:Nat):Zaa :=
 #[a_H,r=Zac/\Jl lt a b out ia ib/\ia+1<ZwA/\ib<Zr2/\ZaA7]
abbrev Xb:ZaVq:=sortPriv% PySem.Builtin.mergeHi
abbrev Jh [472](na nb:Nat):Zaa:=J (fun x y=>lt y x=Zad) Za_G Zakh (b.toList.take nb).reverse (a.toList.take na).reverse
abbrev Sh [210](na nb:Nat):Zaa :=
 #[a_H,r=Zac/\Jh lt a b out na nb/\0<na/\na<ZwA/\1<nb/\nb<=Zr2/\ZaA7]
abbrev back (q:Nat)(m arr:Zlz):Zlz:=m.toList.zipIdx.foldl (fun a (p,j)=>a.setIfInBounds (q+j) p) arr
abbrev Ch [37][214]:#[c5,Nat,#[d3,Nat,Zadc],Nat]
 | f,[],u=>f=u
 | f,t::r,u=>t.1=f/\1<=t.2.1/\Up lt xs f (f+t.2.1)/\Ch lt xs (f+t.2.1) r u
#print Tm
namespace Qs
open PySem PySem.W PyProof.Rows
open Classical in
noncomputable def dec (h:Heap) (v:Value):ZgF:=if z:∃ p,UI h v p then ZayO else ZHL
#print Qs
namespace Wz
open PySem L2
abbrev gz:eG->Zd4->Fc
 | _,[]=>Zbe
 | st,Ziv=>#[a0T,ps]
def yx {i:Nat}[78][45]{p:ZgF}(h:ZaDT):gz st Zar1=#[a0T,#[ps,ZalD]]:=by
 obtain⟨hl,e⟩:=Zrz h;rw[aXL hl,e];rfl
def Lg:∀ [59][73],ZnX->ZxZ->Zab5
 | [],es,h,_=>ZCh
 | Ziv,es,h,hb=>by
  unfold gz at hb
  by_cases d:#[AG,ZGt]
  ·rw[aQd d,jt d]at hb
   have:=Lg ps (es++[fb p]) (iS h d) hb;rw[aXf]at this;exact this
  ·rw[aQc d]at hb
   exact #[oR,hb,d]
def NY {c:HX}{E:XK}{H H1:Hp}{o:Fc}(r:#[t',o])[227]:nN c E H1 o:=by
 cases o with
 | done=>exact r
 | already=>exact ZPc
 | masked=>exact ZPc
 | same=>exact ZPc
 | met=>exact ZPc
 | noguest g=>exact fun dx H' s' h=>r dx H' (ZPb s') h
def tX [94][45]{i:Nat}{e:ZgF}(he:#[av,ZNv,e]):ZBm=ZRn++[fb e]:=by rw[aQM,he,aQK,aQt,aXf];rfl
abbrev JF [73][59]:Zcj:=#[alE,ZxZ,ZFW]
def Hk [175](hn:n<=450):Zzk:=by
 have:=sL G o;exact Za3y
#print Wz
namespace L2
open PySem PySem.Spec PyProof.Rows
inductive Xv [1][42][232]:Zaa
 | mk [157](as:Zei)(d:Dt)(ds:Zk5)(_:y=ZcF)(_:(bT K H p Zae6\/aX K H p Zae6))(_:RD K H n x d)(_:#[Vb,RD K H n ZbV e])(_:#[aUR,k=Zad↔d∈ds])
section
variable {X:Cx}
set_option tactic.hygienic true
open Classical in
theorem yG {pins:Zej}{σ:St}{H:Hp}{s:Shared}{n:Nat}{A:Around}{x:V}{v:Value}{d:Dt}(I:Zjf)(hu:ZauX)(rx:ZeL)(hx:#[yy,x]) :
  ∀ {as:Zei}{ds:Zk5}{us:Zb4},ZaRB->ZaTq ->
  (#[bcX,(ZlI (∃ a,u=Zb1/\Zacl))])/\(us.any (#[asR,Zacl])=Zad↔d∈ds)
 | _,_,us,Zan,r=>by
  cases r;exact⟨(fun u hu=>(by cases hu)),ZaV⟩
 | a::as,e::ds,us,ZaB he hp,r=>by
  cases r with
  | cons r1 r2 =>
   rename_i u us
   cases r1;obtain⟨ih1,ih2⟩:=yG I hu rx hx hp r2;refine ao (OO I n hu he hx (#[et,bJ ZbV ZbV]) rx) fun k hk ek=>?_
   have kk:#[lK,∃ b,ZaVm/\#[yy,ZqO],k]:=by
    by_cases z:e=d
    ·rw[hk.mpr z]
     exact aQe ⟨a,rfl,z▸he⟩
    ·have:Zaal:=by cases k with
      | false=>rfl
      | true=>exact #[oT,hk.mp,rfl,z]
     rw[this];refine aQg fun zz=>?_;obtain ⟨b,eb,hb⟩:=zz;refine z ?_;cases eb;exact Zaki I he hb
   refine#[cu,#[C4,?_]]
   ·rcases #[hU,hw] with rfl | hw
    ·rw[kk];exact ek
    ·exact ih1 w hw
   ·rw[aXS,kk,Bool.or_eq_true,ih2,aQm,hk]
    exact#[UA,ZaZw,#[aH,ZaZw]]
set_option tactic.hygienic false
def VG [398]:#[ajd,.In,(Xv X.K n Zay)]:=by
 intro pins s σ H x y v u Q I rx ry h;obtain⟨p,as,d,ds,rfl,hq,hx,hp,q⟩:=h;cases ry
 have hu':ZabZ:=Zaip
 rcases hq with hq | hq
 ·refine ZJs
  obtain⟨h1,h2⟩:=ZL2;refine #[bcE,Za6u];rw[List.any_toArray];exact ZKt
 ·refine ZJy
  obtain⟨h1,h2⟩:=ZL2;refine Za6v _ pl (ZbcD) #[qo,Zp6,?_];rw[List.any_toArray];exact ZKt
#where
#print L2
namespace Wz
open PySem L2
structure KA where
 dx:Addr
 p:Addr
 pl:Addr
structure wq where
 plan:ZfW (Zbo (ZgF))
 dn:Nat
 brk:Zgl
abbrev wq.planV (A:KA)(s:wq):V:=match s.plan with | none=>ZaK | Zuk=>Zai A.pl
abbrev Ro (h p d b:V):Zpa:=[ZzQ,ZXS,(Zkq,d),(ZoF,b)]
abbrev TQ (A:KA)(s:wq):Zpa:=Ro #[aj,A.p] (s.planV A) (Zah s.dn) (ZT s.brk)
def YO:#[AM,Zhx]:=Zao
def YQ:#[AM,Zkq]:=Zao
def Zy:#[AM,ZoF]:=Zao
def YR:#[jt,Zhx,Zkq]:=Zao
def Zz:#[jt,Zhx,ZoF]:=Zao
def ZP:#[jt,Zkq,ZoF]:=Zao
section
variable {h p d b v:V}
def LL:cw ZoF b (cw Zkq d ZaTh)=Ro h p d b:=by
 unfold Ro;simp only[cw];rw[ZYq];simp only[cw];rw[ZYr,ZYs];simp only[cw];rw[aQc Zy,aQc Zz,aQc ZP]
def TR:cw Zhx p (cw ZbG h [])=([ZzQ,ZXS]:Zpa):=by
 simp only[cw];rw[ZYq]
def W9:cw Zkq d ZaTh=([ZzQ,ZXS,(Zkq,d)]:Zpa):=by
 rw[TR];simp only[cw];rw[ZYr,ZYs]
def FD:#[h1,ZahJ,ZbG,h]:=by
 rw[<-LL,aH,aQc Zy,aH,ZYr,aH,ZYq,aH,Zaz]
def LM:#[h1,ZahJ,Zhx,p]:=by
 rw[<-LL,aH,aQc Zz,aH,ZYs,aH,Zaz]
def xc {m:Str}(q:¬ m=ZbG/\¬ m=Zhx/\¬ m=Zkq/\¬ m=ZoF):#[fw,ZahJ] m=Zac:=by
 rw[<-LL,aH,aQc q.2.2.2,aH,aQc ZZi,aH,ZYv,aH,ZYu];rfl
#where
structure jP [55][32][262](s:wq):Zaa where
 ob:#[aP,k,(Zfr C ZcW (TQ A s))]
 pl:#[L8,dh H A.pl ps]
 le:#[L8,s.dn<=Zen/\Zen<=400]
def jP.mono [198][149]{s:wq}(x:ZaWk)(m:Zb_):ZaWL:=⟨m _ _ ZiX,fun ps e=>(x.pl ps e).mono m,x.le⟩
abbrev wq.rest (s:wq):Zd4:=match s.plan,s.brk with | Zab ps,none=>ZalD s.dn | _,_=>[]
abbrev wq.due (s:wq):ZfW (Int×Int):=s.rest.head?
abbrev VX [174][183]:Bool:=#[lJ,p=ZqL\/p=(b,a)]
abbrev wq.next (s:wq)[183](m:Int):wq:=match s.due with | none=>s | Zab p=>#[dn,VX p a b,{ s with dn:=s.dn+1 },Zax9]
inductive KS [402]:Zaa
 | mk (k dx p:Addr)(_:vs=[Zai k,ZcF])(_:#[aP,k,ZAJ])(_:Q ZaK #[bA,k,#[hP,C,#[atB,ZqN]]])
abbrev qh [304][32][262](B:HA)(w_:eG)(s':wq)(H':Hp):Zaa:=∃ B':HA,bA c.C H' A.p B' w_/\jP ck H' k A s'/\(#[agz,Zg5])/\(Zax_)/\ZuH
structure On [304][32][262](s:wq)[369]:Zaa where
 kp:jP ck H k A s
 hall:#[Mn,A.p]
 kB:k∉Zdg
 pB:#[L8,A.pl∉Zdg]
structure HK [410][186]:Zaa where
 cl:Jn K ck
 nH:#[q9,ZbG]
 nP:#[q9,Zhx]
 nD:#[q9,Zkq]
 nB:#[q9,ZoF]
 mK:#[bW,ZPd,ck]
abbrev Yv [5][186]:Zaa:=#[atn,ck,ZuC,Zabf,ZuC]
def SH {X:Cx}{ck:Addr}{p pos:Pos}{e:Expr}{t:TA}(M:#[Mu,Yv,ck])(U:HK X.K ZcA ck)(hr:ZK5)(hg:Gl X ZPd)(ha:PA X [e] t)
  (he:ZEi:=by rfl) (J_:ZaCA (·.1)=false:=by rfl):PE X (ZcN (Zeg ZPd p) [e] [] pos) (EO ck Zabf [] E0 t):=by
 revert M;intro a_;obtain⟨fI,fd,M,G,hb⟩:bM:=a_;exact SM M G hr hg U.mK hb Zan fW ha ZaG he J_
def Ei [183]:#[fA,[Zy8,Zzc],ZJo]:=fun x hx=>by
 rcases ZuU with z | z
 ·rw[z];rfl
 ·rw[Zdd];rfl
def jP.kept [198][149]{s:wq}[119](x:ZaWk)(m:ZabA)(kB:k∉fp)(pB:#[L8,A.pl∉fp])[269]:ZaWL:=by
 refine⟨m _ _ ZiX kB,fun ps e=>?_,x.le⟩;refine ao (x.pl ps e) fun as h1 h2=>?_;exact ⟨as,m _ _ h1 (pB ps e),#[j5,h2,fun b q z=>m _ _ z Zasj]⟩
def Ey [195]{H H1 H4:Hp}[149]{s:wq}{B B1:HA}{st w_:eG}(I:#[WI,s])(S1:bA c.C H1 A.p B1 w_)(k1:#[qD,Zdg])[215](s4:aG H1 H4):#[Km,w_,H4]:=by
 have K1:jP ck H1 k A s:=I.kp.kept k1 I.kB I.pB #[aiU,I.hall.tup e];exact ⟨B1,S1.mono s4,K1.mono s4,(#[alz,s4 _ _ (k1 b o e n)]),f1,(fun b o e=>by obtain⟨o',e'⟩:=t1 b o e;exact⟨o',s4 _ _ e'⟩)⟩
def WY [71]{v:V}[444]{Q:Zgp}(h:Q (ZCe n ZmV) H):va n v σ H Q:=h
abbrev YJ [169][174]:Bool:=JU (Zah g) #[cd,p.1,p.2]
abbrev wq.nextD (s:wq)[470](m:Int):wq:=match d with | ZH'=>s | ZnF=>if s.rest.any (YJ g)=Zad then Zax9 else s | ZoB=>s.next a b m
def wq.idle {s:wq}(h:s.rest=[]){d:bc}{m:Int}:s.nextD d m=s:=by
 cases d with
 | come g=>rfl
 | go g=>unfold wq.nextD;dsimp only;rw[h];rfl
 | exch a b=>show s.next a b m=s;unfold wq.next wq.due;rw[h];rfl
def qh.pre [195][268][149]{B:HA}[78]{s:wq}(m:ZIf)(x:qh c ck H1 k A B st s H2):#[Km,st,H2]:=by
 obtain⟨B',h1,h2,h3,h4,h5⟩:=x;exact #[aYc,B',h3 b o #[ff,m] n n',#[xf,#[c1,h4].imp id m.free],#[cq,ZPe,m] h5]
def On.mono [195][15][236](m:Zb_):On c ck H' k A s B st:=⟨x.kp.mono m,x.hall.mono m,x.kB,x.pB⟩
open PySem PySem.Spec
def Oa:#[akF,"__int__"]:=Zrg
def N9:#[akF,"__index__"]:=Zrg
def Jb:#[akF,"__trunc__"]:=Zrg
def Ek {f:ZaRX}(hf:Za1w):∀ [34](p:ZWP),(Zax')->(l.map (·+48)).foldlM f p=Zab (p.1++ZalF,if l=[] then p.2 else true)
 | [],p,_=>ZaU
 | d::l,p,h=>by
  rw[aQv,List.foldlM_cons,hf p d (h d aQi)]
  show (l.map (·+48)).foldlM f ZavF=_
  rw[Ek hf l _ Zapf];simp
def yA {d:Nat}(h:d<10):Za2e:=#[Xy,∀ d,d<10->Za2e] d h
def Hd {p:ZAN}(hp:∀ d,d<10->p (d+48)=Zay){q:Zbr}(h:∀ c∈q,∃ d,d<10/\c=d+48):q.dropWhile p=q:=by
 cases q with
 | nil=>rfl
 | cons c q =>
  obtain⟨d,hd,rfl⟩:ao:=h c aQi;rw[List.dropWhile_cons_of_neg];rw[hp d hd];exact aQs
def VB {q:Zbr}{y:ZaKI}{l:Zbr}{f:ZaRX}{g:ZWP->ZaKI}(h:y=(q.foldlM f (#[],false)).bind g)(hq:q=l.map (·+48))(hl:l≠[])(hd:Zax')
  (hf:Za1w) (hg:∀ ds,g (ds,true)=Zab ds):y=Zab ZalF:=by
 rw[h,hq,Ek hf l _ hd,aQc hl]
 show g (#[]++l.toArray,true)=_
 rw[hg];simp
def meets_int_new_str [390][459](hx:x.cps.toList=ZafC (·+48))(h0:d=0->l=[])(hd:∀ e∈d::l,e<10)(hl:#[bf,(d::l),640]):Meets (Builtin.«int.__new__» #[d7,[Za2 ZrG,ZJU]]) (Made.int (#[aRj,(d::l).foldl]:Nat)).spec :=
 Meets.of_wp fun prog w A R s hs=>by
  obtain⟨hp,g,dr,tk,os⟩:=s;have f1:=F.conv_sub_int;have f2:=F.madeHere_int;have f3:=Oa;have f4:=N9;have f5:=Jb;have hT:(⟨hp,g,dr,tk,os⟩:Shared).TypeIs (Zag x t) Zf2:=rfl
  have g1:(x.cps.all #[cV,#[lJ,x<128]])=Zad:=by
   rw[<-Array.all_toList,hx,aQL];intro c hc;obtain⟨e,he,rfl⟩:ao:=ZAu;have:=hd e he;exact ZZc
  have g2:x.cps.toList.takeWhile (#[cV,x != 0])=Zl2:=by
   have tw:∀ q:Zbr,(∀ c∈q,c≠0)->q.takeWhile (#[cV,x != 0])=q:=fun q=>by
    induction q with
    | nil=>intro _;rfl
    | cons c q ih=>intro h;rw[List.takeWhile_cons_of_pos (#[C5,h c aQi]),ih #[gL,h c #[dh,hc]]]
   refine tw _ Zij;rw[hx]at hc;obtain⟨e,he,rfl⟩:ao:=ZAu
   lia
  have g3:ZC6<=640:=#[dz,hx,Z9,hl]
  repeat (any_goals (first | assumption | wp_step))
  rw[g1];simp only[aXT,g2,g3];refine Zabk
  have hq:∀ c∈ZafC (·+48),ZaUZ:=fun c hc=>by
   obtain⟨e,he,rfl⟩:ao:=ZAu;exact #[eE,e,hd e he]
  have x_:∀ c∈(ZafC (·+48)).reverse,ZaUZ:=#[gL,hq c (Za_d hc)]
  have sz:Zb8<=639:=by have:ZaJm:=hl;lia
  rw[hx];rcases yA (hd d aQi) with rfl | z
  ·have e0:=h0 rfl
   subst e0
   conv=>arg 3;arg 2;whnf
   show Zbd3
   rw[ZaBD]
   repeat (any_goals (first | assumption | wp_step))
   exact #[bK,hs]
  ·rcases z with rfl | rfl | rfl | rfl | rfl | rfl | rfl | rfl | rfl
   all_goals
    conv=>arg 3;arg 2;whnf
    rw[#[qQ,Hd,hq],#[qQ,Hd,x_],List.reverse_reverse]
    conv =>
     arg 3;arg 2;arg 2
     tactic=>exact VB rfl rfl (List.cons_ne_nil _ _) hd (by rintro⟨ds,b⟩ d h;rcases yA h with rfl | rfl | rfl | rfl | rfl | rfl | rfl | rfl | rfl | rfl<;>rfl) ZGI
    dsimp only;rw[ZAa,aQc (Zala),ZAa]
    show Zbd3
    rw[ZaBD]
    repeat (any_goals (first | assumption | wp_step))
    refine Zh7;rw[ZdQ,List.foldl_toArray];exact hs
structure Num [191](ds:Zbr):Zaa where
 eq:x.cps.toList=ds.map (·+48)
 ne:ZZU
 nz:#[av,Za_e,0]->ds=[0]
 dg:Zaya
 ln:ZiV<=12
abbrev numV (ds:Zbr):Nat:=#[aRj,ZOJ]
#print Wz
namespace L2
open PySem PySem.Spec PyProof.Rows
inductive SY [11]:Zaa
 | mk (x:_)(ds:_)(_:xs=[ZH1])(_:Wz.Num x ds)(_:Q (Zah (Wz.numV ds)) H)
def MT [61]:#[ie,ZrG,SY]:=by
 intro pins s σ H xs us Q I r h;obtain⟨x,ds,rfl,N,q⟩:=h;obtain⟨u,rfl,rx⟩:ao:=ZeP;obtain⟨t,rfl⟩:=rx
 cases ds with
 | nil=>exact #[oS,N.ne]
 | cons d l =>
  have ln:ZVM<=12:=N.ln
  exact call_int_1 (Wz.meets_int_new_str x t d l N.eq (fun z=>by
   have:=N.nz (ZzK)
   exact (Za_f ZbR).2) N.dg #[Hq,ZaJm]) ⟨rfl,ZjQ,H,ZtV,Za',q⟩
abbrev p8 [191]:Zaa:=x.cps.all (· < 128)=true
abbrev Wq [191]:It :=
 ⟨fun i _=>ZIo,fun i H v H'=>H'=H/\∃ c,ZaCH/\v=Zag ⟨#[c]⟩,fun i _=>Zaaf⟩
def Re [193][390](it:Addr):#[t_,tg,ZAv,h.IsStrIter it "str_ascii_iterator" x t i] where
 mem:=ZaU
 obj:=fun i h st b hb=>by
  have e:ZjI:=ZcM
  subst e;obtain⟨o,e,c,d⟩:aK:=st;exact ⟨o,e,(fun v z=>by rw[d]at z;cases z)⟩
 keep:=fun i h h' ⟨o,e,r⟩ k=>⟨o,(k it ZaV o e),r⟩
 item:=by
  intro X hP hw hK hc i pins s σ H E I hf st hg;subst hP hw hK;have hg:ZIo:=hg;refine ZgG
  have hx:#[av,x.cps[i]?,Za_g]:=ZaU
  refine wpAny_pyNext_ascii_item st hx Zaua;have I1:#[je,ZaBh]:=#[bci,ZpE,#[pH,Zasv]];refine Zaeg;exact ⟨_,rfl,(En (s:=ZaBh) e c d ZaG (iB (Zag ⟨#[Za_g]⟩) H I1 Za' #[fR,rfl,aQw hg,rfl] w_ ZSg))⟩
 done:=by
  intro X hP hw hK hc i pins s σ H E I hf st hg;subst hP hw hK;have hg:Zaaf:=hg;refine ZgG;refine wpAny_pyNext_ascii_end ZOG st (by rw[Za_h];simpa using hg) Zbcj
 self:=#[a_L,wpAny_pyIter_striter_ascii]
abbrev YK (t:TE):TI:=#[axA,#[NO,∃ x,v=ZH1/\p8 x/\R (Wq x) H1]]
def Qn [61]{tg l:Expr}[85]:PI X tg l (YK tl):=by
 intro pins s σ H R I h;refine ZKy;obtain ⟨y,H1,I1,r1,x,e,ha,q⟩:=zz;subst e;obtain⟨t,rfl⟩:=r1;refine wpAny_pyIter_ascii ha ?_;refine #[atf,(Re x t _)]
 have e:ZAf:=ZcM
 subst e;exact ZS4
def RR {x:Str}{g:TG}{tb:TS}{D:pG}{σ:St}{H:Hp}(Pv:Zlr)(h0:ZnP)
  (hs:∀ i c σ H,ZaCH->ZmI->g (Zag ⟨#[c]⟩) σ H Zaol) (hd:#[RT,ZC6]) :
  ∃ W:ZjX,Zlp/\∀ i m σ H,ZjW ->
   #[ao4,#[Av,0].stop,#[Av,0].go,∀ v H',#[Av,0].yld i H v H'->g v σ H' #[aok,N,N]]:=by
 generalize hl:x.cps.toList.length=n at hd;refine Zahc;intro i m σ H a_;obtain⟨rfl,hi,p⟩:eJ:=a_
 by_cases v_:i<n
 ·refine #[Ti,#[tA,ZIo],n,fun v H' y=>?_]
  obtain⟨e,c,hc,e2⟩:nU:=y;subst e e2;exact hs i c σ _ hc p
 ·have e:i=n:=Zae
  subst e;exact #[FK,#[e2,Zaaf]]
def yc:∀ l:ZZv,bK ((l.map (·.1)).map V.str) Za89
 | []=>Zan
 | p::l=>ZaB #[e_,p.2] (yc l)
abbrev Qv:ZBa:=fun x xs H Q=>∃ z y,x=ZeG/\xs=[Zy7]/\(Zgd == 0)=Zay/\Zv4/\#[jZ,#[hT,ZaV']]
def PD [61]:WH X "str.split" Qv:=by
 intro pins s σ H x xs v us Q I rx rv h;obtain⟨z,y,rfl,rfl,hy,hz,q⟩:Bt:=h;obtain⟨t,rfl⟩:=rx;obtain⟨u,rfl,ru⟩:ao:=i8 rv;obtain⟨t2,rfl⟩:=ru;have sl:Za9b:=aQU
 have fin:∀ (l:ZZv)[285],#[oj,Zb8]->l.map (·.1)=ZalG z y->#[bd1,Za8_]:=fun l k hl e=>by
  have IL:=I.laid (t':=k) (a:=s.heap.objs.size) (o:=Za6 (ZaV' ZaC)) (h':=Za8_) (ZmY) Za8
   #[mx,_,_,_,(Za6 _),js (by rw[<-e,Z9,Z9];exact hl) Za89 _ #[eW,e,yc l] ZeJ]
  exact az Zdl _ IL rfl Zt3
 have nl:∀ k ps,#[V8,(Za_i k ps)]:=fun k ps=>by rw[<-Z9 (f:=(·.1)),numbered_texts]
 have pl:#[oj,#[bc,(Za_j z Zbdi Zgd)]]:=by
  rw[length_partsBetween];have:=StrLaws.occ_length_le z y 0 ZbN Zaur
  lia
 cases h1:(#[lJ,ZbN<Zgd]||#[aFs,ZalH z]) with
 | true=>exact #[a3c,(meets_str_split_cannot_occur z y t t2 h1),(aQd h1).symm]
 | false =>
  cases hf:#[bdi,0].isEmpty with
  | true=>exact #[a3c,(meets_str_split_not_found z y t t2 h1 hy hf),(Za_l (aQd hf)).symm]
  | false =>
   refine #[awK,(meets_str_split_sep z y t t2 h1 hy hf Zaf pl),?_];rw[strsFrom_eq];exact fin (Za_i ZbX _) _ #[aM,nl,pl] ((numbered_texts _ _).trans (Za_l (aQc (Za_k hf))).symm)
def Qk {X:Cx}{o e:Expr}{to te:TE}{apos h_:Pos}(ho:Zu8)(he:Zhg)(u_:#[a5N,"split"]:=by rfl)
  (aq7:Zaq9:=by rfl)
  (D_:Zlt:=by rfl) (hs:ZEi:=by rfl) (z_:ZanG (·.1)=false:=by rfl) :
  #[EO,"split",[e],(XR X.K Zf2 Qv to (oE te rD))] :=
 #[aih,PySem.F.slot_str_split,PySem.F.type_str_split,PD]
#print L2
namespace Wz
open PySem L2
abbrev uN [216]:Zbr->ZabB
 | []=>[[]]
 | Zlm=>if a=c then []::ZfS else match ZfS with | []=>[[a]] | Ziv=>ZaUF
abbrev j9 [216]:Zbr->Zbr
 | []=>[]
 | Zlm=>Za0e++Zapl (·+1)
def kz (c a:Nat)[34]:j9 c ZjK=Za0e++Zapl (·+1):=rfl
def gn (c a:Nat)[34]:uN c ZjK=if a=c then []::ZfS else match ZfS with | []=>[[a]] | Ziv=>ZaUF:=rfl
def vV [216]:∀ [34](k m:Nat),m=Zb8+1->Zbda (#[zs,l[i-k]?])=Zapl (·+k)
 | [],k,m,h=>by
  subst h;simp[j9]
 | Zlm,k,m,h=>by
  subst h;have ih:=vV c l Zdp Zz2 rfl;rw[#[et,ZXD+1=Zz2+1],List.range'_succ,aXG]
  have e1:#[av,ZjK[k-k]?,a]:=ZaU
  have e2:#[bdb,Zdp,Zz2] (#[zs,ZjK[i-k]?])=#[bdb,Zdp,Zz2] (#[zs,l[i-Zdp]?]):=List.filter_congr fun i hi=>by
   have:=(List.mem_range'_1.mp hi).1;rw[#[fN,i,k,(i-Zdp)+1]];rfl
  rw[e1,e2,ih,kz]
  by_cases z:a=c
  ·rw[aQd (#[Hy,Zts]),ZeM]
   simp[Function.comp_def,Nat.add_assoc,aZ0 1 k]
  ·rw[aQc (Za_m),Zec]
   simp[Function.comp_def,Nat.add_assoc,aZ0 1 k]
def Cr [191][216]:∀ [315],ZaV5->Zry<=k->ZoG<=k ->
  (forIn Zbc' (arr,free) (StrLaws.occBody x ⟨#[c]⟩ x.length ZayM)).run.fst.toList=Za_n++Zbda (#[zs,ZalJ])
 | 0,k,arr,free,_,_,_=>ZaU
 | m+1,k,arr,free,h,hf,ha=>by
  rw[List.range'_succ,aZu,aXG];have so:=ZaO6;unfold StrLaws.occBody
  by_cases z:ZaCI
  ·have s2:=ZayP
   rw[#[a1G,#[hy,ZoG<ZF']],ZKG];have ih:=Cr x c m Zdp ZaBx (k+(⟨#[c]⟩:Str).length) Zaf Za8 Za_8;refine Zaj';simp
  ·rw[ZaZI,ZaHB]
   exact #[aw1,Cr,Zaf]
def Sy [191][216]:Builtin.Str.occurrences x ⟨#[c]⟩ 0 x.length ZayM=ZaGs:=by
 rw[StrLaws.occ_eq,Cr x c _ 0 #[] 0 Zaf Za8 Za8];have:=Za2R;simpa using this
abbrev uO [34](p:Zadc):Zbr:=(ZcO p.1).take (p.2-p.1)
abbrev Ee [34](cs:Zbr):ZabB:=((0::cs.map (·+1)).zip #[Iu,cs]).map (uO l)
def Q2 (a:Nat)[34](p:Zadc):uO ZjK (p.1+1,p.2+1)=uO l p:=by
 unfold uO;rw[aZO,Nat.add_sub_add_right]
def Dh (a:Nat)[34]:∀ (us vs:Zbr),((us.map (·+1)).zip (vs.map (·+1))).map (uO (Zlm))=(us.zip vs).map (uO l)
 | [],_=>ZaU
 | ZdO,[]=>ZaU
 | Zq_,v::vs=>by
  rw[aQv,aQv,aXE,aQv,aXE,aQv,Dh a l us vs];rw[#[bn,uO ZjK (u+1,v+1)=uO l (u,v),Q2 a l (u,v)]]
def Bn [216]:#[zR,Ee l Zapk=ZfS]
 | []=>rfl
 | Zlm=>by
  have ih:=Bn c l;unfold Ee;rw[kz]
  by_cases z:a=c
  ·rw[ZeM]
   have e1:(ZXF::(([0]++Zapl (·+1)).map (·+1)))=0::((0::Zapl (·+1)).map (·+1)):=ZaU
   have e2:([0]++Zapl (·+1))++[ZXD]=0::(#[Iu,ZAF].map (·+1)):=ZaU
   rw[e1,e2,aXE,aQv,Dh,show (((0::Zapl (·+1)).zip #[Iu,ZAF]).map (uO l))=ZfS from ih,gn,ZeM];rfl
  ·rw[Zec,gn,Zec,<-ih]
   unfold Ee
   cases hp:ZAF with
   | nil=>simp[uO]
   | cons q qs =>
    have e1:(ZXF::(([]++ZafD (·+1)).map (·+1)))=0::((ZafD (·+1)).map (·+1)):=ZaU
    have e2:([]++ZafD (·+1))++[ZXD]=(q+1)::(#[Iu,qs].map (·+1)):=ZaU
    rw[e1,e2,aXE,aQv,Dh]
    show _=(a::ZaX9)::_
    rw[show uO ZjK (0,q+1)=a::ZaX9 by simp[uO]];rfl
def P6 [191](cs:Zbr):(Za_j x cs 1).map (·.cps.toList)=Ee Zl2 cs:=by
 unfold Builtin.Str.partsBetween Ee;rw[aQP,aQV];refine aXv fun p _=>?_;obtain⟨i,j⟩:=p
 show #[Z8,i,j].cps.toList=_
 unfold Builtin.Str.strSub uO;simp
def N8 [191][263]:(Txt.split x ⟨#[c]⟩).map (·.cps.toList)=uN c Zl2:=by
 have e0:∀ y:Str,#[gq,#[lJ,Ze4<Zgd]||#[aFs,ZalI]]->y=⟨#[c]⟩->Zl2=[]:=fun y h e=>by
  subst e
  have k1:Builtin.Str.strKind ⟨#[c]⟩=1:=by unfold Builtin.Str.strKind;rw[aQd (by simpa using hc)]
  have k2:1<=ZalI:=by
   unfold Builtin.Str.strKind;split
   ·decide
   ·split<;>decide
  rw[k1]at h
  have:Ze4<1:=by
   rw[Bool.or_eq_true]at h;rcases h with z | z
   ·exact aQJ z
   ·have:=aQJ z;lia
  have:Za_o=0:=by have t:Za_o<1:=this;lia
  simpa using this
 unfold Txt.split
 by_cases h1:(decide (x.length<(⟨#[c]⟩:Str).length)||decide (ZalI<Builtin.Str.strKind ⟨#[c]⟩))=true
 ·rw[ZzZ]
  have:=e0 _ h1 rfl
  show [Zl2]=_
  rw[this];rfl
 ·rw[Zun,Sy]
  by_cases h2:#[aNR,0].isEmpty=Zad
  ·rw[ZH2,<-Bn,List.isEmpty_iff.mp h2]
   simp only[Ee,uO,List.map_nil,aZR,aXE,List.zip_nil_left,aQv,aZk,Nat.sub_zero];rw[#[tc,aXr]]
  ·rw[Zuo]
   exact (P6 x _).trans (Bn c _)
def My {c:Nat}:∀ {p:Zbr},c∉p->uN c p=[p]
 | [],_=>rfl
 | a::p,h=>by
  rw[gn,#[Y4,ZaPT],My #[aH,h ZAh]]
#print Wz
namespace L2
open PySem PySem.Spec PyProof.Rows
abbrev U5 [358][436]:DictEntry:=#[aY5,Zp9,ZaOa]
abbrev gObj [358][237][42]:Obj:=#[aY9,U5]
structure GD [1][358][86][117]:Zaa where
 nd:(xs.map (·.1)).Nodup
 ns:Zais
 at':#[aZm,gObj]
abbrev JN [117][160]:V:=match ZayQ with | Zab i=>ZdN | none=>ZaK
abbrev Ws [436]:ZaJg:=(ZV3,ZaOa)
def Hl [58]:#[a1x,#[d3,ZaGW,ZaG9],U5,Ws]
 | []=>Zan
 | q::l=>#[a2r,Zp9,Hl]
def LB:∀ [237],ZaHd->(ZDd Ws).map (·.1)=(xs.map (·.1)).map Sum.inr
 | [],_,_=>rfl
 | Zcz,[],h=>by cases h
 | Zcz,Ziz,h=>by
  rw[aXE,aQv,aQv,LB xs ts ZCi];rfl
def OY:∀ [237][160],#[aNV,bJ (JN xs z) ((ZrJ (ZDd Ws) Zay').getD Zax)]
 | [],_,_,_=>rfl
 | Zcz,[],_,h=>by cases h
 | Zcz,Ziz,z,h=>by
  have ih:=#[a0h,OY];unfold JN valueAt at *;rw[aXE,aQv,aQY,aXt]
  show bJ (match (match z == x.1 with | true=>Zab x.2 | false=>ZayQ) with | Zab i=>Zau i | none=>V.non) _
  by_cases e:z=x.1
  ·have e1:ZaOv:=ZHz
   have e2:#[lL,#[LB,Ws]]:=ZazY;rw[e1,e2];exact#[e_,t.2]
  ·have e1:ZaNQ:=Zrt
   have e2:#[lM,#[LB,Ws]]:=ZaTe;rw[e1,e2];exact ih
def Lz [6][9][41]{xs:ZIA}[153](g:#[aFb,GD])(k:ZqW):#[bdN,ZaJJ,Ws]:=by
 refine ZaW3;refine Za3w
 ·have hen:#[aYZ,U5]:=Za_p
  obtain⟨q,_,rfl⟩:ao:=ZaAH;exact #[aOf,Zp9]
 ·have:=#[aZA,Hl]
  simpa using this
 ·rw[LB xs ts hl]
  exact ZaZE
abbrev XU [117](ty:TE):TE:=#[aXK,Q (JN xs z) H1]
def SL {X:Cx}{x:Str}{a:Addr}{xs:ZIA}{e:Expr}{p apos h_:Pos}{ty:TE}(g:#[aWl,GD])(hg:Zee)(hm:#[s8,ZbV])(he:ZaCl)(m:M1 X Zxk ZNP apos e h_)
  (hd:Za71:=by decide):PE X #[EN,#[BM,Zxk,ZNP],[e]] (XU xs ty):=by
 intro pins s σ H Q I h;refine #[Mt,aZt,Za6P,(kN I hg hm ?_ hd)];have kin:∀ {s1:Shared}{H1:Hp},#[b0,H1,s1]->ZaiR ZCN:=fun I1 a o e=>ZrQ a o (I1.mod.kin a o e);refine #[avt,Lz,(kin I)];refine #[cg,ZPf,(Zaug)]
 ·cases q
  obtain⟨ob,_,_,h1,h2,_⟩:eZ:=dd;exact ZafS
 rw[m.trees];refine #[aPV,#[pG,he,ZHH]];obtain ⟨y,H2,I2,ry,z,e1,q2⟩:=zz;refine ZGW;subst e1;obtain⟨t,rfl⟩:=ry;refine ao (Lz (P:=Zcl) g (kin I2)) fun ts2 j_ dd2=>?_;exact #[a8Z,dd2.typeIs,(PySem.F.args_dict_get_2 _ _),(meets_dict_get Zxb a ZahL g.ns),#[fJ,dd2.mapOf,_,⟨H2,I2.tok _,OY xs ts2 z j_,q2⟩]]
#print L2
namespace Wz
open PySem L2
def PP (ds:Zbr)(e:Nat):ZoH (ds++[e])=ZoH ds*10+e:=by unfold numV;rw[aZY];rfl
def YG [42]:∃ ds:Zbr,(ZalK 10 n).map Za_q=ds.map (·+48)/\ZZU/\(#[av,Za_e,0]->n=0)/\(Zaya)/\ZoH ds=n/\(n=0->ds=[0])/\∀ k,1<=k->n<10 ^ k->ZiV<=k:=by
 induction n using Nat.strongRecOn with
 | _ n ih =>
  have dc:∀ d,d<10->(ZalL d).toNat=d+48:=fun d h=>by
   rcases yA h with rfl | rfl | rfl | rfl | rfl | rfl | rfl | rfl | rfl | rfl<;>rfl
  by_cases h:n<10
  ·rw[Nat.toDigits_of_lt_base h]
   refine ⟨[n],(by show [(ZalL n).toNat]=[n+48];rw[dc n h]),ZaV,#[bC,Za_m],(#[rZ,#[nf,he,h]]),#[Hq,0*10+n=n],#[UA,#[e0,z],fun k hk _=>Zaj9]⟩
  ·rw[#[qQ,Nat.toDigits_of_base_le,Zaf]]
   refine pL (ih (n/10) Zaf) #[a_r,?_];obtain⟨_,h6⟩:=a_;refine ⟨ds++[n%10],?_,ZaV,Zg8,(ZtT),?_,#[adh,fun k hk hn=>?_]⟩
   ·rw[aQt,h1,aQt]
    show _++[(ZalL (n%10)).toNat]=_++[n%10+48]
    rw[dc _ Zaf]
   ·cases ds with
    | nil=>exact ZaaF
    | cons d ds=>have:=h3 z;lia
   ·rcases ZEb with y | y
    ·exact h4 e y
    ·rw[ZaAU];lia
   ·rw[PP,h5];lia
   ·rw[aQl,aQW]
    cases k with
    | zero=>lia
    | succ k =>
     by_cases k0:k=0
     ·subst k0;lia
     ·have:=h6 k Zaf (by rw[Nat.pow_succ]at hn;lia)
      lia
def Sx [275](h0:0<=g)(h:g<10 ^ 12):Za2H:=by
 obtain⟨n,rfl⟩:=aXU h0;refine pL (YG n) #[a_r,?_];obtain⟨h7,h6⟩:=a_;refine #[aY,ds,⟨?_,h2,ZfO,h4,h6 12 ZaG Zaf⟩,#[e0,h5]]
 ·unfold gV
  rw[#[et,ZlU Zbj=Za_s (ZalK 10 n)],Str.ofString_eq_toList]
  show ((Za_s (ZalK 10 n)).toList.map Za_q)=_
  rw[String.toList_ofList,h1]
 ·have hn:=h3 z
  exact h7 hn
def PQ [228]:ds=es:=by
 have:=Za_t b.eq;exact #[aPn,fun x y e=>Zae]
#print Wz
namespace L2
open PySem PySem.Spec PyProof.Rows
def kZ [61]{x:Str}{v:V}[156](hg:Zee)(hm:∃ u,ZabL/\Zfm)[54]:Zadn:=by
 revert hm;intro a_;obtain⟨u,hm,r⟩:ao:=a_;exact xO hg hm r hd
#print L2
namespace Wz
open PySem L2
def EN {te:TE}{Qf:ZjU}{x:Str}{q:Addr}{f:ZAN}{rest:L2.St}{H:Hp}(hq:Zuu)(hlen:ZC6<=ZbE)
  (ht:∀ (c:Nat)(HK:Hp)(Q':VK),Zfi->(∀ H5,aG HK H5->Q' (.bl (f c)) H5)->te (some (Zag ⟨#[c]⟩)::rest) HK Q') (k:#[XU,HK q=Zab #[gS,(x.cps.toList.map f).map,ZeU]]) :
  #[awY,ZAv]:=by
 refine RR #[dq,#[hc,v::ZdX,Zfi,HK q=Zab #[gS,(#[mr,x.cps.toList.take] f).map,ZeU]]] Zvd ?_ ?_
 ·intro i c σ HK hi a_;obtain⟨v,rfl,t1,x_⟩:aK:=a_
  have hil:ZIo:=ZZI;refine ii (ht c HK _ t1 #[aMD,ZasA]);rw[ac,aQM,hi,aQK,aQt,aQt];rfl
 ·intro σ HK a_;obtain⟨v,rfl,t1,x_⟩:aK:=a_
  rw[aQH]at x_;exact Zahf
abbrev vb [216]:Bool:=#[lJ,ZL1]
def UT [216]:(!(Builtin.Str.occurrences #[c2,ZC7] ⟨#[c]⟩ 0 #[E1,ZC7] 1).isEmpty)=vb c:=by
 rw[StrLaws.found_one]
 have e:#[HO,ZC7]=#[m4,10] (·+48):=Zao
 rw[e];unfold vb;rw[aXR,aQy];constructor
 ·intro a_;obtain⟨k,hk,rfl⟩:ao:=a_
  have:=Zabu;omega
 ·intro h
  exact #[aY,c-48,(Zn' (ZoD)),ZoD]
def qA [160]:(Zx2)↔ZGg/\Zyd/\(Za_w)/\#[Vu,Za_u,Zeo]:=by
 have hz:ZalN:=Zuh
 rw[hz];constructor
 ·rintro⟨ds,N⟩
  have h1:=N.ne;have h2:=N.ln;have h3:=N.nz;rw[N.eq,Z9];refine ⟨?_,h2,(Zij),(fun ⟨a,b⟩=>?_)⟩
  ·cases ds with
   | nil=>exact ZaBW
   | cons _ _=>simp
  ·obtain⟨e,he,rfl⟩:ao:=ZAu
   have:=N.dg e he;exact aQe ZAS
  ·cases ds with
   | nil=>exact ZaBW
   | cons d ds =>
    have d0:d=0:=by simpa using a
    have:=h3 (#[b6,d0]);rw[this]at b;exact b rfl
 ·intro a_;obtain⟨h1,h2,h3,h4⟩:iu:=a_
  have hd:#[a_v,ZL1]:=#[gL,aQJ (h3 c hc)];refine⟨z.cps.toList.map (· - 48),⟨?_,?_,#[bk,?_],ZtT,#[s0,h2]⟩⟩
  ·rw[aQP]
   refine Eq.symm ((aXv (g:=id) Zij).trans (Za_x _));have:=hd c hc
   show c-48+48=c
   lia
  ·intro q
   have:=#[t5,q];rw[Z9]at this;have this:ZalM=0:=this
   lia
  ·rw[List.head?_map]at q
   cases hc:z.cps.toList.head? with
   | none=>rw[hc]at q;cases q
   | some c =>
    rw[hc]at q;have q:c-48=0:=aQp q;have cm:c∈Zeo:=List.mem_of_mem_head? hc;have:=hd c cm
    have c48:c=48:=Zae
    have l48:ZaH5:=Classical.byContradiction fun n=>h4 ⟨#[bm,hc,c48],n⟩;rw[l48];rfl
  ·obtain⟨c,hc,rfl⟩:ao:=#[rX,he]
   have:=hd c hc
   lia
def Q1 {z y:Str}:#[ux,#[dE,z,y],Zeo,Za_y]:=by
 rw[aXR];constructor
 ·intro e;rw[Zr3 e]
 ·intro e
  obtain⟨⟨l⟩⟩:=z;obtain⟨⟨m⟩⟩:=y;have e:l=m:=e;rw[e]
open Classical in
noncomputable def numW (z:Str):V:=if h:Zx2 then Zah (ZoH Za_z) else ZaK
def Cq [359]:Zhz z=ZaRY:=by
 have e:Zx2:=⟨ds,h⟩;unfold numW;rw[dif_pos e,PQ e.choose_spec h]
def Ig [387]:Zhz z=ZaK:=by
 unfold numW;rw[dif_neg fun ⟨ds,e⟩=>h ds e]
def yX [160]:sE (Zhz z)=Zad:=by
 unfold numW;split<;>rfl
def AS {c:Nat}:∀ {l p:Zbr},p∈ZfS->(∀ a∈p,a∈l)/\#[Hu,p.length]
 | [],p,h=>by
  rw[#[et,uN c []=[[]]],aQj]at h;subst h;exact⟨fun a ha=>(by cases ha),ZaX⟩
 | b::l,p,h=>by
  rw[gn]at h
  by_cases z:b=c
  ·rw[ZeM]at h
   rcases Zz7 with e | e
   ·subst e;exact⟨fun a ha=>(by cases ha),Zcr⟩
   ·have:=AS e
    exact Za8P
  ·rw[Zec]at h
   cases hs:ZfS with
   | nil =>
    rw[hs]at h;have e:=Zdc h;subst e;exact#[zJ,#[Pg,#[nf,ha,aQi]]]
   | cons q qs =>
    rw[hs]at h;rcases Zz7 with e | e
    ·subst e
     have:=#[aZn,q,aQi]
     exact⟨fun a ha=>by
      rcases #[hU,ha] with y | y
      ·rw[y];exact aQi
      ·exact aQh _ (Zg_ a y),Za_A ZtS⟩
    ·have:=#[aZn,p,aQh _ e]
     exact Za8P
def LR [216]:#[zR,#[bc,ZaB7]<=ZVM/\ZaAR]
 | []=>⟨ZaX,Za_C⟩
 | b::l=>by
  have ih:=LR c l;rw[gn]
  by_cases z:b=c
  ·rw[ZeM];exact#[zJ,#[f8,aQB,aQB]]
  ·rw[Zec]
   cases hs:ZfS with
   | nil=>exact #[oR,hs,ih.2]
   | cons q qs=>rw[hs]at ih;exact#[zJ,by have:=ih.1;rw[aQB]at *;rw[aQB];lia]
abbrev uc [216][160]:Zbp:=Txt.split z ⟨#[c]⟩
def wo [263][160]:#[aHR,0].map (·.cps.toList)=Zadr:=N8 z hc
def E7 [263][305]{ws:Zbp}(h:ws.map (·.cps.toList)=Zadr):uc c z=ws:=by
 have:=(wo hc z).trans h.symm
 exact (List.map_inj_right (fun x y e=>by
  obtain⟨⟨l⟩⟩:=x;obtain⟨⟨m⟩⟩:=y;have e:l=m:=e
  rw[e])).mp this
def Oh [263][305](a:Zio):#[bc,ZaHR]<=ZbN+1/\∀ w∈uc c z,Zuy/\#[sR,Zf_]:=by
 have hz:ZalN:=Zuh
 have e:=wo hc z;refine#[ne,#[C4,?_]]
 ·rw[<-Z9 (f:=(·.cps.toList)),e,hz]
  exact (LR c _).1
 ·have hm:Za_D∈Zadr:=by rw[<-e];exact aXe (f:=(·.cps.toList)) hw
  have:=AS hm;refine#[ne,by rw[hz];show w.cps.size<=_;rw[<-aQV];exact ZtS];unfold p8 at a ⊢;rw[<-Array.all_toList,aQL]at a ⊢;exact #[E9,a,(Zg_ x hx)]
def m8 {K:PySem.W.Frag}{te:TE}{Qf:ZjU}{lr q:Addr}{α:Zj0}(g:α->V){rs:ZdP}{f:α->V}{rest:L2.St}{H:Hp}(hq:Zuu)(h1:ZaVy)(hlen:ZaCu)
  (ht:#[a2I,∀ H5,aG HK H5->Q' (f r) H5]) (k:#[XU,HK q=Zab #[gS,ZgM,f]]) :
  ZaLH:=by
 refine #[a3o,#[dq,#[hc,v::ZdX,Zfi,HK q=Zab #[gS,#[mr,ZalP],f]]],Zvd,#[js,Zqm,#[nm,h1]]]
 ·intro i y σ HK hi a_;obtain⟨v,rfl,t1,x_⟩:aK:=a_
  obtain⟨r,hr0,rfl⟩:ao:=ZbL;have hil:ZazA:=ZaAy;refine #[a3s,#[alQ,#[zz,ZWu,#[ih,Z9,aQQ,ZmJ],ZasA]]];rw[ac,aQM,hr0,aQK,aQt];rfl
 ·intro σ HK a_;obtain⟨v,rfl,t1,x_⟩:aK:=a_
  rw[Z9,aQH]at x_;exact Zahf
inductive XD [56]:Zaa
 | mk (z w0:Str)(ws:Zbp)(_:Zab_)(_:Zio)(_:ZaBw)(_:ZaTU)(_:(Zayc)->∀ (t:Addr)(H':Hp),#[abC,t,#[bO,t,#[W_,w0,Zi1 Zhz]],t])(_:(ZaME)->ZAw)
abbrev bf [191]:Zbr:=x.cps.toList
def eI [191]:Ze4=#[bd,bf,x]:=by unfold bf;rw[aQV];rfl
def fE (x y:Str):bf (x++y)=bf x++bf y:=by
 show (x.cps++y.cps).toList=_
 rw[Array.toList_append];rfl
def Em (g:Zm0):∀ [167](a:Zm0),(Za_E (#[aMF,g]) a).toList=Za_F++#[kf,(Zkr fun p=>g.toList++bf p)]
 | [],a=>ZaU
 | Ziv,a=>by
  rw[aXY,Em g ps];simp[bf]
def LJ (sep p:Str)[167]:bf (Zr4 sep ZWX)=bf p++#[af0,Zkr,bf sep]:=by
 unfold Txt.join Builtin.Str.glued
 show ((Za_E (#[aMF,sep.cps]) p.cps)).toList=_
 rw[Em];rfl
abbrev Dm [169]:Zaa:=0<=g/\g<10 ^ 12
def xA [129]:Za2H:=Sx h.1 h.2
def VD [129]:Zhz (gV g)=Ztq:=by
 refine Zagx;rw[Cq N,e]
def nc [129]:(#[oI,ZLK,ZL1])/\ZaVP<=12:=by
 refine Zagx;unfold bf;rw[N.eq];refine⟨Zij,#[s0,N.ln]⟩;obtain⟨d,hd,rfl⟩:ao:=ZAu;have:=N.dg d hd;exact ZAS
def Bj {x:Str}(h:#[XV,bf x]):p8 x:=by
 unfold p8;rw[<-Array.all_toList,aQL];exact #[gL,aQe (h c hc)]
def qu (k c:Int):Dm (lC k c):=by
 unfold Dm lC;have h:=ZaSm;have h2:=ZaSn;dsimp only;generalize ZaTG=y at h h2;split<;>lia
def NJ [203]:Zm5:=by
 unfold namesL at h;obtain⟨k,_,rfl⟩:ao:=ZYR;exact Zq3
#print Wz
namespace L2
open PySem PySem.Spec PyProof.Rows
section
variable {prog:Program}{w:World}{A:Around}{E:ZfG}{s:Shared}
def kr {it t:Addr}{i:Nat}{xs:ZiB}{x:Value}{Q:ZfG}(hI:ZaWf)(hT:ZanP)(hx:ZPi)
  (k:∀ h',#[alZ,it,t,Zce]->Zv6 it ZaD h'->Q x ZlR):ZbcP:=by
 obtain⟨ot,et,_,m,dt⟩:jq:=hT;refine ZaWx;unfold Builtin.SmallTypes.nextOf;refine Zbef
 show #[nr,Zoz #[aj,it] 0]
 refine ZaIX
 show ZaTN
 rw[ZaNE]
 show #[nr,Zoz #[aj,it] 1]
 refine ZaIY
 show ZbdK
 refine ZaWi;simp only[aZC,hx];refine aQa (ZOf ei di ZaV (aQk #[ii,x,aQk (k _ #[fJ,#[a7y,ei,di],(Za7B ..).trans ci,?_] (Zalw ..))]));rw[Zakw di];simp[rawInt]
def yT {it t:Addr}{i:Nat}{xs:ZiB}{Q:ZfG}(hh:Zfl)(hI:ZaWf)(hT:ZanP)(hx:ZPh = Zac)
  (k:∀ h' e,Heap.ExtBut it ZaD h'->(ZaW9)->ZaLn):ZbcP:=by
 obtain⟨ot,et,_,m,dt⟩:jq:=hT;refine ZaWx;unfold Builtin.SmallTypes.nextOf;refine Zbef
 show #[nr,Zoz #[aj,it] 0]
 refine ZaIX
 show ZaTN
 rw[ZaNE]
 show #[nr,Zoz #[aj,it] 1]
 refine ZaIY
 show ZbdK
 refine ZaWi;simp only[aZC,hx];refine #[al',#[aNh,ei,di,ZaU]]
 show #[hZ,newExc (Za2 ZalR) []]
 refine ZgD;simp only[newExc,newTuple];refine aQa (aXi ?_ ZXs);refine aQa (m:=firstArgMember _ _) (ZOM (a:=Zj9) (by first | rfl | (simp only[firstArgMember];rfl)) ?_);refine aXi ?_ ZXs;simp only[raiseNew];refine #[mW,wpAny_handled]
 first | rw[show A.in1.handled=Zac from hh] | rw[hh]
 exact aQa (aQk (wpAny_throw (k _ _ (((Zalw ..).extBut.push _).push _) #[dk,ZeI])))
#where
def WT [383](hh:Zfl)(it t:Addr)(T_:Zabb)[378] :
  Draws ZlB w A it [it,t] xs.size (#[GK,ZPh]) (fun i h=>Za5o/\h.IsTuple t xs) where
 live:=fun _ _ st=>by obtain⟨⟨o,e,_⟩,_⟩:=st;exact ZnU
 frame:=fun _ _ _ st k=>⟨#[asJ,st.1.at],st.2.at #[C8,k t ZaV o e]⟩
 item:=fun i s Q E hi st k=>kr st.1 st.2 (x:=xs[i]) (ZOI) fun h' w_ sb=>k _ h' ZbX (ZOI) ⟨w_,st.2.extBut sb.extBut T_⟩ sb
 done:=fun s Q E st k=>yT hh st.1 st.2 ZaV k
set_option tactic.hygienic true
def Hv (t:Addr)[378]:Meets (Builtin.«enumerate.__new__» #[d7,[ZYX,Zea]]) (fun _ R s=>ZanP /\
   R (.ok (Zf1 (Zai (s.heap.push { cls:=ZIh,data:=Za1 #[Zea,ZLn] }).objs.size)))
    { s with heap:=(s.heap.push { cls:=ZIh,data:=Za1 #[Zea,ZLn] }).push { cls:=ZYX,data:=Za1 #[Zax,ZjL,ZGQ,ZgI 0,Zax,Zax] } }) :=
 ZalS fun prog w A R s h=>by
  obtain⟨hp,g,d,tk,os⟩:=s;obtain⟨hT,h⟩:=h;have su:=sub_enumerate;have hT2:ZalT ZaLj t xs:=hT;refine jq (id hT) fun ot et ct m dt=>?_
  wp_walk using ZaeJ
  refine wpAny_stack_any fun st=>ZuD;split
  ·rename_i c _ _ _ _ _
   cases (c == #[bcp,Zhk])<;>(wp_walk using ZaeJ,aZo hT2;exact ZGV)
  ·wp_walk using ZaeJ,aZo hT2
   exact ZGV
section
variable {prog:Program}{w:World}{A:Around}{E:ZfG}{s:Shared}
set_option tactic.hygienic false
def JC {t:Addr}{xs:ZiB}{Q:ZfG}(hT:ZanP)
  (k:∀ h',IsEnum h' Zk7 Zaw 0 Zax->#[alZ,Zaw,t,0]->(ZaE0)->#[b9,Zk7,ZlR]) :
  #[wh,(Zfv (Za2 Zhk) [Zea])]:=by
 refine Za_I F.called_enumerate ZaG (F.typeCall_enumerate_1 _) (F.newCall_enumerate_1 _) (fun obj=>F.args_object_init_2 obj _) F.entry_enumerate_new (Hv t xs) #[cu,hT];obtain⟨oi,eoi⟩:∃ oi:Obj,oi={ cls:=ZIh,data:=Za1 #[Zea,ZLn] }:=Za'
 show _/\_
 rw[<-eoi];have sz:#[yk,#[n_,ZaEj]]:=ZXH;have he:=aQq ZaEj (o:={ cls:=ZYX,data:=Za1 #[Zax,ZjL,ZGQ,ZgI 0,Zax,Zax] }) rfl;rw[sz]at he ⊢;refine⟨ZZP,k _ he ⟨oi,#[ms,(aQq _ #[jC,eoi])],(#[e0,eoi]),(#[b6,eoi])⟩ ZarB⟩
#where
abbrev Ou [1](t:Addr):It :=
 #[ar7,Zafs,fun i H y H'=>∃ T x,ZVR/\y=Zai T/\H'=#[cL,H,T,[ZdN,x]]/\∀ xs,Zafs->ZPi,Zafs]
set_option tactic.hygienic false
def K4 [9][6][303][156](e it t:Addr)(T_:e≠it):Dp P w K ZaVZ (Ou K t) ZabU e (fun i h=>(∃ old,IsEnum h e it Ztl old)/\Za5o) where
 mem:=ZaU
 obj:=fun i h st b hb=>by
  obtain⟨⟨old,he⟩,⟨o,eo,c,d⟩⟩:=st
  have hb:Zaf4:=ZcM
  rcases hb with rfl | rfl
  ·exact ⟨_,he,(fun v z=>by cases z)⟩
  ·exact ⟨o,eo,(fun v z=>by rw[d]at z;cases z)⟩
 keep:=#[alU,⟨#[aMb,⟨old,k e ZaV _ he⟩],st.2.at fun o x=>k it ZaV o x⟩]
 item:=by
  intro X hP hw hK hc i pins s σ H E I hf st hg;subst hP hw hK;obtain⟨xs,x,hq,hx⟩:cD:=hg;refine ZJz;have p:ZaOu:=p;refine Zagl;obtain⟨⟨old,he⟩,hit⟩:=st;have fe:=hf e ZaV;have fi:=Zagt;have lte:#[dL,e]:=aQo he
  have lti:ZaBs:=#[akc,#[c8,hit,fun _ q _=>?_],aQo q]
  have net:e≠t:=fun z=>by
   refine ZafE;rw[<-z,he]at eo;cases eo;simp at c
  have nit:Zabb:=fun z=>by
   refine ZafE;refine ZaWy;rw[z,eo2]at eo;cases eo;rw[c2]at c;simp at c
  have hil:i<ZiO:=#[bdX,hu]
  refine wpAny_pyNext_enum_itemD (WT (A:=Zakg) ZOG it t nit ZbM) he ⟨hit,p⟩ hil T_ (by simp[T_,net]) fun y h' tk hy ho cx6 hT hsz hk=>ZaN4
  have ey:y=u:=by
   have hy:#[kT,ZNW]:=hy
   have hy:#[kT,d_[i]?]:=by simpa using hy
   rw[hu]at hy;exact #[pr,hy]
  subst ey;refine wpAny_letOwnedTupleGo_enum (s:=#[O3,tk+1]) ho fun h2 he2 sb2=>?_;have hfr:ZYG:=ZJQ
  have IL:aT X pins σ Zas3 { s with heap:=s.heap.push { cls:=Zf4,data:=Za3 #[ZKa,y] },toks:=s.toks } :=
   #[aT1,[ZKa,y],Za',ru]
  have fp':∀ b,ZI2->o9 X Zam H b->o9 X Zam Zas3 b:=fun b hb ⟨f0,f1,f2,f3,f4,f5⟩=>mx #[aM,ai (aQu hb),f0] f1 f2 f3 f4 f5
  have I2:#[YW,Zas3,h2,tk+1]:=IL.turned2 (t':=tk+1) (h':=h2) (fun b o n1 n2 q=>by
   refine ZaVN
   show Zfa
   by_cases hb:ZazC
   ·subst hb
    have q:(s.heap.push { cls:=Zf4,data:=Za3 #[ZKa,y] }).get? s.heap.objs.size=Zhd:=q;rw[ZeI]at q;cases q;exact hT
   ·have q:(s.heap.push { cls:=Zf4,data:=Za3 #[ZKa,y] }).get? b=Zhd:=q
    refine hk b o n1 n2 ?_;rw[ZaP1]at q
    exact q) (fp' e lte fe) (fp' it lti fi)
  refine #[a18,(bS Zaw x hfr rfl rfl (#[awi,Zajo])),⟨#[aR,by simpa using he2],cx6.1.at fun o q=>(sb2.2 it (aQA T_)).trans q⟩]
  have hb':Zaf4:=ZcM
  rcases hb' with rfl | rfl
  ·exact (fp' _ lte fe).1
  ·exact (fp' _ lti fi).1
 done:=by
  intro X hP hw hK hc i pins s σ H E I hf st hg;subst hP hw hK;obtain⟨xs,hq,hx⟩:ao:=hg;refine ZJz;have p:ZaOu:=p;obtain⟨⟨old,he⟩,hit⟩:=st;refine ZgG
  have nit:Zabb:=fun z=>by
   refine ZafE;refine ZaWy;rw[z,eo2]at eo;cases eo;rw[c2]at c;simp at c
  have hl:=rv.length;unfold pyNext;refine #[aJ3,aXF (name:=Zzg) (T:=Zhk) ZZP Za_J (aXO Za_J (T:=Zhk) ZZP F.entry_enumerate_next ?_ (F.args_enumerate_next_1 _))]
  show #[hZ,Zoz #[aj,e] 2]
  refine #[yz,he,Zai it];refine aQa (yT (A:=Zakg) ZOG hit p Zalb fun h' x eb hx=>?_);obtain⟨o,ho,co⟩:ao:=hx;refine #[a9O,co];exact #[Fz,#[bci,ZbX,(fun b o hb q=>eb b o hb q)]]
 self:=#[a_K,#[aMb,Za_N he h]]
abbrev Ve [1](t:TA):TI:=#[axA,#[C1,∃ l,vs=ZAK/\(∃ xs,aX K H1 l xs)/\R (Ou K l) H1]]
def CJ {X:Cx}{elts:Zbu} {kk}{ax5:Pos}{a:Expr}{ta:TA}{p pos:Pos}(hg:Gl X Zhk)(hm:#[tZ,Zhk])(ha:Zaej)
  (he:#[Eg,[a],ZLi,[]]:=by rfl) (J_:ZaCA (·.1)=false:=by rfl):#[aZ6,(ZcN (Zeg Zhk p) [a] [] pos),(Ve X.K ta)]:=by
 intro pins s σ H R I h;refine #[W6,boot_enumerate];refine aXj Zao0 he J_;obtain ⟨vs,H1,I1,r1,l,e1,⟨xs,hq⟩,q⟩:=zz;subst e1;obtain⟨u,rfl,rx⟩:ao:=i8 r1;cases rx;refine aK (ZNb hq) ZGM;refine JC (show ZalV l ZbM from pl) fun h' hE hI hk=>?_;have I2:#[b0,H1,#[auo,h']]:=ZOq hk;refine Za_N (s:=#[akK,h']) hE ?_;refine fF (ZeZ+1) [ZYc,ZeZ] _ _ H1 rfl I2 (K4 _ _ l (Nat.succ_ne_self _)) ⟨#[aR,hE],hI⟩ Zxg q
 have hb:b=ZYc\/ZAf:=ZcM
 rcases hb with rfl | rfl
 ·exact I1.fpOk (aZI _) (ZCF (aZI _))
 ·exact ZS4
def yF {K:PySem.W.Frag}{a:Addr}{xs:Zbs}{g:TG}{tb:TS}{D:pG}{σ:St}{H:Hp}(Pv:Zlr)(h0:ZnP)(hl:ZaK2)
  (hs:∀ i x σ H T,#[a1J,ZPi,Zas2]) (hd:Zaco) :
  ∃ W:ZjX,Zlp/\∀ i m σ H,ZjW ->
   #[ao7,ZabM,ZabM,ZabM]:=by
 refine Zahd;intro i m σ H a_;obtain⟨rfl,hi,p⟩:eJ:=a_;have q:=ZBD
 by_cases v_:ZAd
 ·refine #[Ti,ZawG,ZaJ,fun y H' z=>?_]
  obtain⟨T,x,hT,e1,e2,hx⟩:bB:=z;subst e1 e2;exact hs i x σ _ T (hx xs q) p hT
 ·have e:ZaaQ:=Zae
  subst e;exact Zahb
open PySem PySem.Spec PyProof.Rows PySem.Calls
section
variable {prog:Program}{w:World}{A:Around}{E:ZfG}{s:Shared}
def Jm {z TI TO i1 i2 l1 l2:Addr}{k1 k2:Nat}{xs ys:ZiB}{x y a b:Value}{Q:ZfG}(D:Zlw)
  (hz:ZLG) (hTI:ZR4) (hTO:ZR5)
  (h1:ZRN) (h2:ZRP) (q_:ZanN) (j_:ZanO) (hx:ZuG) (hy:ZJn)
  (k:∀ h',ZaSf->ZaD5->Zal0->Zal1->ZJ4->ZJ1 ->
   #[a20,ZT1]) :
  Za0A:=by
 show ZacE
 refine ZacF
 show ZacD
 refine #[aPc,ZVO,(aQa (aXw hTI rfl ?_))]
 show Za8U
 refine ZgD;unfold Builtin.SmallTypes.ownedTupleIsFree;refine #[aPc,Zax,Zns];simp only[aXT];refine #[al',(#[pC,hz,rfl,Zai TO,(aQa (ZOP hz ZaV fun g1 z1 b1=>?_))])]
 replace z1:#[aDM,g1]:=z1
 refine ZgD;simp only[List.zipIdx_cons,List.zipIdx_nil,aZu,List.forIn_nil];refine aQa (aQa (Za_O ?_))
 show ZbcN
 refine aQa (kr (Za_P ZC_ D.i1z) (Za_Q ZC_ ZPj) hx fun g2 t2 b2=>ZuD);have o2:Zi2 g2 TO a b:=ZPk _ _ D.TOi1 (ZC_ _ _ D.TOz hTO);refine #[aIw,o2,o2,fun g3 o3 b3=>?_]
 replace o3:Zi2 g3 TO x b:=o3
 refine #[li,aZJ,#[ad8,aQa,Za_O]]
 show ZbcO
 refine aQa (kr #[aXl,Za_S,D.i2z,Za_T,Za_V] #[aXl,Za_W,ZPl,ZPm,D.l2TO] hy fun g4 t4 b4=>ZuD);have o4:Zi2 g4 TO x b:=ZPn _ _ D.TOi2 o3;refine #[aIw,o4,o4,fun g5 o5 b5=>?_]
 replace o5:Zi2 g5 TO x y:=o5
 refine #[li,aZJ,(aQk (aQa (aXw o5 rfl #[He,ZalW])))]
 have sz:#[Xt,Zr5]:=by rw[b5.1,b4.1,b3.1,b2.1,b1.1]
 have z5:#[aDM,g5]:=ZPo _ _ Za_Y (ZPn _ _ Za_Z (ZPp _ _ Za_Y (ZPk _ _ Za_0 z1)));have p1:Za_1 i1 l1 (k1+1):=((t2.extBut ZPp Za_2).extBut ZPn D.i12).extBut ZPo Za_2;have p2:Za_1 i2 l2 (k2+1):=t4.extBut ZPo Za_V;have lz:z<Zr5:=aQo z5
 show #[hZ,Builtin.SmallTypes.ownedTupleHandOut #[aj,z] #[aj,Zr5]]
 refine ZgD;unfold Builtin.SmallTypes.ownedTupleHandOut;have z6:IsZip (g5.push { cls:=Zf4,data:=Za3 #[x,y] }) z TI TO Zaky:=aQb _ z5;refine aQa (ZOP z6 ZaV fun g7 z7 b7=>?_)
 replace z7:#[aId,g7]:=z7
 refine ZOP z7 ZaV fun g8 z8 b8=>?_
 replace z8:#[aId,g8]:=z8
 have up:#[l3,c≠z->#[kK,g5.get?]->#[kK,g8.get?]]:=fun c o c1 e=>#[aTb,c1,c1,Zmt];have t8:Zi2 g8 Zr5 x y:=#[aTb,ZaEX,ZaEX,ZeJ]
 have e8:g8.objs.size=Zr5+1:=by rw[b8.1,b7.1,aQ6]
 rw[sz]at z8 t8 e8;refine ZZ5
 show #[b9,Zr5,_]
 rw[sz];exact k g8 z8 (up _ _ D.TOz o5) #[C9,p1.at,up _ o D.i1z e] #[C9,p2.at,up _ o D.i2z e] t8 e8 fun c o c1 c2 c3 c4 e=>up c o c1 (ZPo _ _ c2 (ZPn _ _ c4 (ZPp _ _ c2 (ZPk _ _ c3 (ZC_ _ _ c1 e)))))
def La {z TI TO i1 i2 l1 l2:Addr}{k1 k2:Nat}{xs ys:ZiB}{x y a b:Value}{Q:ZY0}(D:Zlw)
  (hz:ZLG) (hTI:ZR4) (hTO:ZR5)
  (h1:ZRN) (h2:ZRP) (q_:ZanN) (j_:ZanO) (hx:ZuG) (hy:ZJn)
  (k:∀ h',ZaSf->ZaD5->Zal0->Zal1->ZJ4->ZJ1 ->
   #[a20,ZaHr]) :
  Zafu:=by
 have ty:ZanV:=ZZQ;unfold pyNext;exact #[aJ3,aXF (name:=Zzg) ty aZW (aXO aZW ty Za_3 #[a3W,Jm,hTI,hTO,fun h' a1 a2 a3 a4 a5 a6 a7=>aQk (k h' a1 a2 a3 a4 a5 a6 a7)] (ZalX _))]
noncomputable abbrev Os [139][86]:Heap:=h.push { cls:=ZIh,data:=Za1 #[Zb1,ZLn] }
noncomputable abbrev Ym [139][423]:Heap:=(Os Zact b).push { cls:=Zf4,data:=Za3 #[ZHV,Zai #[n_,Zact]] }
noncomputable abbrev Yn [139][423]:Heap:=(Ym h a b).push { cls:=Zf4,data:=Za3 #[Zax,Zax] }
noncomputable abbrev Wm [139][423]:Heap:=(Yn h a b).push { cls:=ZYY,data:=Za1 #[Zax,ZjL,ZjL,Zai #[at8,Zact],Zai #[n_,(Ym h a b)]] }
def J6 [423](xs ys:ZiB):Meets (Builtin.«zip.__new__» #[d7,[ZYY,Zb1,Zai b]]) (fun _ R s=>ZaHy/\ZaJZ/\R (.ok (Zf1 #[aj,ZacN])) #[lQ,Wm ZaD a b]) :=
 ZalS fun prog w A R s h=>by
  obtain⟨hp,g,d,tk,os⟩:=s;revert h;intro a_;obtain⟨ha,hb,h⟩:eJ:=a_;have su:=sub_zip;have ta:ZalT ZaLj a xs:=ha;have tb:ZalT #[avI,Os hp a] b ys:=Za_4 hb Zaxy
  wp_walk using aZo ta,aZo tb
  exact ZGV
def M0 {a b:Addr}{xs ys:ZiB}{Q:ZfG}(ha:ZaHy)(hb:ZaJZ)
  (k:∀ h',IsZip h' #[us,4] #[us,2] #[us,3] Zax->Zi2 h' #[us,2] Zdl #[aj,Zk7] ->
   Zi2 h' #[us,3] Zax Zax->ZalY Zaw a 0->ZalY Zk7 b 0->#[AR,Zke,5] ->
   (#[l3,ZTw->ZFA])->#[b9,#[us,4],ZlR]) :
  #[wh,(Zfv (Za2 Zel) ZaLX)]:=by
 refine Za_I F.called_zip ZaG (F.typeCall_zip_2 _ _) (F.newCall_zip_2 _ _) (fun obj=>F.args_object_init_3 obj _ _) F.entry_zip_new (J6 a b xs ys) #[cg,ha,hb];have e1:#[yk,Zaxl]:=ZXH
 have e2:#[AR,ZaJt,2]:=#[HC,e1]
 have e3:#[AR,ZaFl,3]:=#[HC,e2]
 have e4:#[AR,ZacN,4]:=#[HC,e3]
 have e5:#[AR,#[TK,Wm],5]:=#[HC,e4]
 have g5:#[Bu,ZacN]:=ZeI;have g4:#[Bu,ZaFl]:=aQb _ ZeJ;have g3:#[Bu,ZaJt]:=aQb _ ZaAZ;have g2:#[Bu,Zaxl]:=#[Zl,ZeJ];have g1:#[Bu,Zaw]:=#[Zl,ZaAZ]
 show _/\_
 rw[e2,e3,e4]at g5;rw[e1,e2]at g3;rw[e3]at g4;rw[e1]at g2;rw[e4];exact⟨#[dk,g5],k _ g5 g3 g4 #[Fb,g1] #[Fb,g2] e5 fun c o e=>#[Zl,ZaA0]⟩
def K9 {z TI TO i1 i2 l1 l2 T:Addr}{k1 k2:Nat}{b:Bool}{oT:Obj}{xs ys:ZiB}{x y:Value}{Q:ZfG}(D:Zlw)
  (hz:Zao9) (hT:ZLv) (hTI:ZR4)
  (h1:ZRN) (h2:ZRP) (q_:ZanN) (j_:ZanO) (hx:ZuG) (hy:ZJn)
  (hQ:∀ h',Zao_->Zal0->Zal1->ZJ4->ZJ1 ->
   (#[l3,ZTx])->ZT1) :
  Za0A:=by
 show ZacE
 refine ZacF
 show ZacD
 refine ZaFc;refine ZaGN
 show Za8U
 refine Za00;simp only[aX7,aZ3];refine ZgD;simp only[List.forIn_toArray,aZu,List.forIn_nil];refine ZK7
 show ZbcN
 refine Za_R;refine ZK7
 show ZbcO
 refine aQa (kr Za_U Za_X hy fun h₄ h2₄ hs₄=>aQk (aQk (aQk ?_)));refine aQa (ZalW ?_ #[wo,#[oj,2]])
 have hsz:#[Xt,Za_6]:=by rw[hs₄.1,hs₂.1,hs₁.1]
 refine ZZ5
 show #[b9,Za_6,_]
 rw[hsz];have up:∀ {c:Addr}{o:Obj},#[kK,h₄.get?]->(h₄.push { cls:=Zf4,data:=Za3 #[x,y] }).get? c=Zhd:=#[cb,Zjm];refine hQ _ (up (Zal2 _ _ Za_Z (Zal3 _ _ Za_0 hz₁))) #[C9,(h1₂.extBut Zal2 D.i12).at,up e] #[C9,h2₄.at,up e] ?_ #[eF,aQ6,hsz] fun c o c1 c2 c3 e=>up (#[aZG,Zal2,e]);rw[<-hsz];exact ZeI
def Ol {z TI TO i1 i2 l1 l2 T:Addr}{k1 k2:Nat}{b:Bool}{oT:Obj}{xs ys:ZiB}{x:Value}{Q:Zazg}(hh:Zfl)(D:Zlw)
  (hz:Zao9) (hT:ZLv) (hTI:ZR4)
  (h1:ZRN) (h2:ZRP) (q_:ZanN) (j_:ZanO) (hx:ZuG) (hy:ZaJq)
  (hE:∀ h' e,(#[l3,ZTx])->(ZaW9)->ZaLn) :
  #[wh,Zav4]:=by
 show ZacE
 refine ZacF
 show ZacD
 refine ZaFc;refine ZaGN
 show Za8U
 refine Za00;simp only[aX7,aZ3];refine ZgD;simp only[List.forIn_toArray,aZu,List.forIn_nil];refine ZK7
 show ZbcN
 refine Za_R;refine ZK7
 show ZbcO
 refine aQa (yT hh Za_U Za_X hy fun h₄ e hs₄ he=>?_);exact hE h₄ e (fun c o c1 c2 c3 x=>#[aZG,hs₄,x]) he
def HW {z TI TO i1 i2 l1 l2 T:Addr}{k1 k2:Nat}{b:Bool}{oT:Obj}{xs ys:ZiB}{x y:Value}{Q:ZY0}(D:Zlw)
  (hz:Zao9) (hT:ZLv) (hTI:ZR4)
  (h1:ZRN) (h2:ZRP) (q_:ZanN) (j_:ZanO) (hx:ZuG) (hy:ZJn)
  (hQ:∀ h',Zao_->Zal0->Zal1->ZJ4->ZJ1 ->
   (#[l3,ZTx])->ZaHr) :
  Zafu:=by
 have hTy:ZanV:=ZZQ;unfold pyNext
 exact aQa (wpAny_attempt (aXF (name:=Zzg) hTy aZW
  (aXO aZW hTy F.entry_zip_next
   #[a3W,K9,hT,hTI,fun h' a1 a3 a4 a5 a6 a7=>aQk (hQ h' a1 a3 a4 a5 a6 a7)] (ZalX _))))
def Kh {z TI TO i1 i2 l1 l2 T:Addr}{k1 k2:Nat}{b:Bool}{oT:Obj}{xs ys:ZiB}{x:Value}{Q:ZY0}(hh:Zfl)(D:Zlw)
  (hz:Zao9) (hT:ZLv) (hTI:ZR4)
  (h1:ZRN) (h2:ZRP) (q_:ZanN) (j_:ZanO) (hx:ZuG) (hy:ZaJq)
  (hQ:∀ h',(#[l3,ZTx])->Q Zac ZlR):Zafu:=by
 have hTy:ZanV:=ZZQ;unfold pyNext
 refine aQa (wpAny_attempt (aXF (name:=Zzg) hTy aZW
  (aXO aZW hTy Za_3 (Ol hh D hz hT hTI h1 h2 q_ j_ hx hy fun h' e hk he=>?_) (ZalX _))))
 obtain⟨o,ho,hc⟩:ao:=he;refine #[a9O,hc];exact aQk (hQ _ hk)
set_option tactic.hygienic true
def Om {R:ZnG}{z TI TO i1 i2 l1 l2 S:Addr}{xs ys:ZiB}(hh:Zfl)(D:Zlw)(hxy:ZaeQ)(hn:ZYL)(res:Value)
  (hS1:S≠z) (hS2:S≠i1) (hS3:S≠i2) (hS4:S≠l1) (hS5:S≠l2) (hS6:S≠TI) :
  ∀ (k i:Nat)[154](acc:Zei)(arr:ZiB)[216](T:Addr)(b:Bool),arr=#[Ve,acc.map]->ZoJ-i=k->i<=ZoJ->Zao9->T∈acc->ZR4 ->
  #[RM,i]->#[RO,i]->ZanN->ZanO->ZA7=some { cls:=Zdx,dict:=none,data:=Za3 arr c,slots:=#[] }->ZC3=i ->
  (#[atG,acc[j]?,#[R3,t,x,y]])->(∀ t∈acc,t≠z/\t≠i1/\t≠i2/\t≠S)->acc.Nodup->(∀ t∈acc,#[dL,t]) ->
  (∀ (h':Heap)(k_:Zei)(c':Nat),(#[o7,ZyK,z,b≠i1->b≠i2->ZdW->Zfa])->Zace=some { cls:=Zdx,dict:=none,data:=Zaer,slots:=#[] }->ZaeP->k_.Nodup ->
   (#[al4,t∈acc\/ZaF'])->(Zawg)->(#[al4,t≠S])->ZaQu) ->
  Za'e:=by
 intro k
 induction k with
 | zero =>
  intro i s acc arr c T b ak4 hk hi hz hT hTI h1 h2 q_ j_ hS hlen F_ hap nd v_ hR
  have hin:i=ZoJ:=Zae
  obtain⟨oT,hoT⟩:∃ o,#[q0,T]:=by
   obtain⟨j,hj⟩:=aZc hT;refine Za2w;exact#[aR,p]
  refine Zacv;rw[ZacQ]
  show Zagb
  refine aQa (Kh (A:=ZiU) hh D hz hoT hTI h1 h2 q_ j_ #[ml,aX9] #[ml,Za_h] fun h' hk'=>?_);refine aQk (hR h' acc c (fun b o _ b1 b2 b3 e=>hk' b o b1 b2 b3 e) #[eW,ak4,#[a0l,hk']] Zaf nd (#[C',Zal ht]) ZaeL #[C',(hap t ht).2.2.2]);refine Za2B;have ha:=ZaWu;exact az x y e1 e2 (hk' _ _ ha.1 ha.2.1 ZazE p)
 | succ k ih =>
  intro i s acc arr c T b ak4 hk hi hz hT hTI h1 h2 q_ j_ hS hlen F_ hap nd v_ hR
  obtain⟨oT,hoT⟩:∃ o,#[q0,T]:=by
   obtain⟨j,hj⟩:=aZc hT;refine Za2w;exact#[aR,p]
  refine Zacv;rw[ZacQ]
  show Zagb
  have ex:#[av,ZPh,xs[i]]:=ZIr;have ey:#[av,ys[i]?,ys[i]]:=ZIr;refine #[a4a,HW,hoT,hTI,fun h' z' i1' i2' pn sz keep=>?_];have hS':=#[a0l,ZdU]
  show wpAny _ A.in1 (updateSeq S (·.push Zdl) >>= _) _ _ _
  refine ZgD
  have hsa:ZoG=i:=by rw[ak4];simp[hlen]
  obtain⟨K_,eh2⟩:∃ K_,K_=h'.update S (Obj.mapSeq (·.push ZaFn)):=Za'
  have up:ZaVO:=ZaUN
  have hSn:#[dL,S]:=aQo hS;have bx2:#[dL,z]:=aQo hz
  have az5:ZaBt:=by obtain⟨_,e,_⟩:ao:=h1;exact ZcG
  have az4:ZaBu:=by obtain⟨_,e,_⟩:ao:=h2;exact ZcG
  have sz2:ZaD0:=ZaS0
  refine #[aZW,#[jo,hsa],by show (Zal5 _).size<=Zoi+1;rw[Za_7,hsa];lia];rw[<-eh2];have kp:#[o7,ZyK,z,b≠i1->b≠i2->ZdW->ZVQ]:=#[a_9,up b o b0 (ZdU b o b1 b2 b3 e)]
  refine ih Zce #[lQ,K_] (acc++[Zaw]) #[jh,Zal5,Zaw] _ T true (#[fs,ak4]) Zaf Zaf ZaQp (aZa _ hT) (kp _ _ Za__ D.TIz D.TIi1 D.TIi2 hTI) ZaSt ZaSu
   #[C9,q_.at,kp _ _ Za_' ZPj D.l1i1 D.l1i2 e] #[C9,j_.at,kp _ _ Za'a ZPl ZPm D.l2i2 e] Za1y (by simp[hlen]) ZaeL ZDb ?_ ZDb #[a'b,?_]
  ·rw[List.getElem?_append]at e
   split at e
   ·refine Za2B
    have ha:=ZaWu;exact az x y e1 e2 (kp _ _ ha.2.2.2 ha.1 ha.2.1 ZazE p)
   ·rename_i hj
    have hj0:j=i:=by
     have:=#[rA,e];simp at this;lia
    subst hj0;rw[hlen,Nat.sub_self]at e;cases e;exact ZaYm
  ·rcases ZaAq with q | q
   ·exact hap t q
   ·rw[ZIG];exact Za2W
  ·refine ZPa #[aY,nd,ZaV,fun a ha b hb=>?_]
   rw[ZI1];exact aQu (v_ a ha)
  ·show ZaLU
   rw[sz2];rcases ZaAq with q | q
   ·exact aXB (v_ t q)
   ·rw[ZIG];exact ZH_
  ·refine hR h3 k_ c' (#[a_9,k3 b o b0 b1 b2 b3 (kp b o b0 b1 b2 b3 e)]) s3 l3 n3 ZDb p3 f3
   rcases Zaen with q | q
   ·rcases ZaAj with q | q
    ·exact ZIm
    ·rw[ZIG];exact Zap (aQf _)
   ·right;have q:ZaGa:=q;lia
set_option tactic.hygienic false
def Lb {R:ZnG}{z TI TO i1 i2 l1 l2 S:Addr}{xs ys:ZiB}(hh:Zfl)(D:Zlw)(hxy:ZaeQ)(h0:ZaAh)(hn:ZYL)(res:Value)
  (hS1:S≠z) (hS2:S≠i1) (hS3:S≠i2) (hS4:S≠l1) (hS5:S≠l2) (hS6:S≠TI) (hS7:S≠TO) {a b:Value} {c:Nat} (hz:ZLG) (hTI:ZR4) (hTO:ZR5)
  (h1:#[RM,0]) (h2:#[RO,0]) (q_:ZanN) (j_:ZanO) (hS:ZA7=some { cls:=Zdx,dict:=none,data:=Za3 #[] c,slots:=#[] })
  (hR:∀ (h':Heap)(k_:Zei)(c':Nat),(#[a2j,Zfa])->Zace=some { cls:=Zdx,dict:=none,data:=Zaer,slots:=#[] }->ZaeP->k_.Nodup ->
   #[aR8,ZaF',ZaQu]) :
  Za'e:=by
 refine Zacv;rw[ZacQ]
 show Zagb
 have ex:#[av,xs[0]?,xs[0]]:=ZIr;have ey:#[av,ys[0]?,ys[0]]:=ZIr;refine #[a4a,La,hTI,hTO,fun h' z' _ i1' i2' pn sz keep=>?_];have hS':=ZdU _ _ hS1 hS7 hS2 hS3 hS
 show wpAny _ A.in1 (updateSeq S (·.push Zdl) >>= _) _ _ _
 refine ZgD;obtain⟨K_,eh2⟩:∃ K_,K_=h'.update S (Obj.mapSeq (·.push ZaFn)):=Za'
 have up:ZaVO:=ZaUN
 have hSn:#[dL,S]:=aQo hS;have bx2:#[dL,z]:=aQo hz
 have az5:ZaBt:=by obtain⟨_,e,_⟩:ao:=h1;exact ZcG
 have az4:ZaBu:=by obtain⟨_,e,_⟩:ao:=h2;exact ZcG
 have sz2:ZaD0:=ZaS0
 refine #[aZW,Zm7,#[hy,(1:Nat)<=Zoi+1]];rw[<-eh2];have kp:#[a2j,ZVQ]:=#[a'c,up b o b0 (ZdU b o b1 b2 b3 b4 e)]
 refine Om hh D hxy hn res hS1 hS2 hS3 hS4 hS5 hS6 (ZoJ-1) 1 #[lQ,K_] [Zaw] #[ZGQ] _ s.heap.objs.size false rfl Zaf Zaf ZaQp aQi (kp _ _ Za__ D.TIz D.TITO D.TIi1 D.TIi2 hTI) ZaSt ZaSu
  #[C9,q_.at,kp _ _ Za_' ZPj D.l1TO D.l1i1 D.l1i2 e] #[C9,j_.at,kp _ _ Za'a ZPl D.l2TO ZPm D.l2i2 e] Za1y rfl ZaeL ZDb ZaV ZDb #[a'b,?_]
 ·cases j with
  | zero=>cases e;exact ZaYm
  | succ j=>simp at e
 ·rw[ZaBq];exact Za2W
 ·show ZaLU
  rw[sz2,ZaBq];exact ZH_
 ·refine #[a3J,hR,h3,#[a'c,k3 b o b0 b1 b3 b4 (kp b o b0 b1 b2 b3 b4 e)]]
  rcases Zaen with q | q
  ·rw[ZIG];exact ZaX
  ·have q:ZaGa:=q;lia
def Bm {Q:ZfG}{z TI TO i1 i2 l1 l2:Addr}{xs ys:ZiB}(hh:Zfl)(D:Zlw)(hxy:ZaeQ)(h0:ZaAh)(hn:ZYL){a b:Value}
  (hz:ZLG) (hTI:ZR4) (hTO:ZR5)
  (h1:#[RM,0]) (h2:#[RO,0]) (q_:ZanN) (j_:ZanO)
  (hQ:∀ (h':Heap)(k_:Zei)(c':Nat),(#[o7,b≠z,TO,b≠i1->b≠i2->ZdW->Zfa])->ZadJ=some { cls:=Zdx,dict:=none,data:=Zaer,slots:=#[] }->ZaeP->k_.Nodup ->
   #[aR8,Zaw<t,ZT1]) :
  #[wh,(Zfv (Za2 Zdw) [Zai z])]:=by
 refine callType_codes (Q₁:=fun obj s1=>ZLu/\s1={ s with heap:=s.heap.push { cls:=Zdx,data:=Za3 #[] } }) PySem.F.called_list ZayC PySem.F.entry_list_init ZaJB fun obj s1 he=>?_;obtain⟨rfl,rfl⟩:=he;have hS:(s.heap.push { cls:=Zdx,data:=Za3 #[] }).get? s.heap.objs.size=some { cls:=Zdx,data:=Za3 #[] }:=ZeI;refine ZaTg
 show wpAny _ _ (do let old <-ZaG8;Builtin.List.listUpdate Zdl (fun _=>#[]);letGo Za7o;#[a7n,z]) _ _ _
 refine ZgD;unfold Builtin.List.listItems;refine ZaSl
 show wpAny _ _ (updateSeq s.heap.objs.size (fun _=>#[]) >>= fun _=>letGo (#[]:ZiB).toList.reverse >>= #[bF,#[a7n,z]]) _ _ _
 refine ZaIc;have hS2:=aQ7 (Obj.mapSeq (fun _=>(#[]:ZiB))) hS rfl
 have oth:∀ b o,ZdW->((s.heap.push { cls:=Zdx,data:=Za3 #[] }).update s.heap.objs.size (Obj.mapSeq (fun _=>(#[]:ZiB)))).get? b=Zhd :=
  ZaUH
 have szz:((s.heap.push { cls:=Zdx,data:=Za3 #[] }).update s.heap.objs.size (Obj.mapSeq (fun _=>(#[]:ZiB)))).objs.size=Zh6:=#[bm,Zal6,aQ6]
 refine Zabl;generalize (s.heap.push { cls:=Zdx,data:=Za3 #[] }).update s.heap.objs.size (Obj.mapSeq (fun _=>(#[]:ZiB)))=g at hS2 oth szz ⊢;have zlt:#[zH,z]:=aQu (aQo hz);have hT:Shared.TypeIs ZSn #[aj,z] Zel:=#[dk,oth _ _ hz];unfold Builtin.List.listExtendWith;refine #[bdG,Zel,hT]
 have q1:#[aDR,Zdl,#[aj,z]]:=by simp[Builtin.List.listSameRef,zlt.symm]
 have q2:#[bcq,Zel,Zdw]:=ZaF
 have q3:#[bcq,Zel,Zf3]:=ZaF
 simp only[q1,q2,q3,Bool.or_false,aX7,aZ3];refine #[qF,wpAny_pyIter_zip,(oth _ _ hz)];refine #[mW,aXo];unfold Builtin.List.listLengthHint;refine #[Bo,Tv]
 show #[hZ,Za9L (Zho z) #[c2,Zakj]]
 refine #[Bo,Rk];refine ZuD
 show wpAny _ _ (rule "list.extend.makes-room" >>= fun _=>Builtin.List.listTouch Zdl >>= fun _ =>
  Zww (Zf' Za'd #[d7,#[kS,Zaw,z,Zax]])) _ _ _
 refine ZaCZ;refine ZgD
 show wpAny _ _ (updateSeq s.heap.objs.size (·.push Zax) >>= fun _=>updateSeq s.heap.objs.size (·.pop)) _ _ _
 refine aQa (aXZ hS2 rfl ?_);have hS₂:=aQ7 (Obj.mapSeq (·.push Value.none)) hS2 rfl;refine aXZ hS₂ rfl ?_;have hS₃:=aQ7 (Obj.mapSeq (·.pop)) hS₂ rfl
 have aq6:∀ b o,ZdW->((g.update s.heap.objs.size (Obj.mapSeq (·.push Value.none))).update s.heap.objs.size (Obj.mapSeq (·.pop))).get? b=Zhd :=
  #[dy,Zaxq (Zaxq ZaAC)]
 have cq2:((g.update s.heap.objs.size (Obj.mapSeq (·.push Value.none))).update s.heap.objs.size (Obj.mapSeq (·.pop))).objs.size=Zh6:=#[auj,Zal6,szz]
 generalize (g.update s.heap.objs.size (Obj.mapSeq (·.push Value.none))).update s.heap.objs.size (Obj.mapSeq (·.pop))=g2 at hS₃ aq6 cq2 ⊢
 have li1:#[zH,i1]:=by obtain⟨_,e,_⟩:ao:=h1;exact Ztx
 have li2:#[zH,i2]:=by obtain⟨_,e,_⟩:ao:=h2;exact Ztx
 have ll1:#[zH,l1]:=by obtain⟨_,e,_⟩:ao:=q_;exact Ztx
 have ll2:#[zH,l2]:=by obtain⟨_,e,_⟩:ao:=j_;exact Ztx
 refine aQk Zavo;refine Lb (A:=ZiU) (s:=#[lQ,g2]) (S:=Zaw) hh D hxy h0 hn Zax zlt.symm li1.symm li2.symm ll1.symm ll2.symm (aQ5 (aQo hTI)) (aQ5 (aQo hTO)) (aq6 _ _ hz) (aq6 _ _ hTI) (aq6 _ _ hTO) #[KH,h1.at] #[KH,h2.at] #[KH,q_.at] #[KH,j_.at] hS₃ fun h' k_ c' k3 s3 l3 n3 m3 p3=>?_;refine#[d5,#[a3J,hQ,h',fun b o b1 b2 b3 b4 e=>k3 b o ZjB b1 b2 b3 b4 #[c4,aq6]]];have:=Zaen;have this:g2.objs.size<=t:=this
 lia
#where
abbrev Ob [1](t:TA):TE:=fun σ H Q=>t σ H fun vs H1=>∃ (a b:Addr)(xs ys:Zbs),vs=ZaLX/\ZaQw/\aX K H1 b ys/\Zos<ZaJ/\0<Zos /\
 ∀ [298](ts:Zei)(H':Hp),#[pR,l]->(#[l3,#[kK,H1]->#[kK,H']])->#[bO,l,ZI6]->#[k6,(fun t (p:V×V)=>ZaFy),ts,ZDc,ys]->#[d9,l]
def Iz {X:Cx}{e:Expr}{es:Zbu}{t:TA}{p p2 pos pos2:Pos}(hc:ZfT)(ha:Zhh)(hg:ZaBc)(hm:ZaE4)(hg2:Gl X Zel)(hm2:#[tZ,Zel])
  (he:ZEh:=by rfl) (J_:#[anF,pos2,es].any (·.1)=false:=by rfl)
  (I_:#[aTv,ZaSI,Zel,ZdD]:=by rfl) :
  PE X (ZcN (Zeg Zdw p) ZaSI [] pos) (Ob X.K t):=by
 intro pins s σ H Q I h;refine ZaI1;refine ZaLt;rw[I_];refine #[a7q,boot_zip];refine aXj (bZ (ha pos2 Zam s σ H _ I h) ZUC) he J_;obtain ⟨vs,H1,I1,r1,a,b,xs,ys,ev,hqa,hqb,v_,h0,q⟩:=zz;subst ev;obtain⟨u1,u2,rfl,ru1,ru2⟩:bM:=r1.two;cases ru1;cases ru2;refine aK (ZNb hqa) fun ita rva pla hza=>?_;refine aK (ZNb hqb) fun itb rvb plb hzb=>?_;have la:=rva.length;have lb:=rvb.length;have pla:#[ay5,ita.toArray]:=pla;have plb:ZalV b itb.toArray:=plb
 have lta:ZaC8:=#[aFm,pla]
 have ltb:b<ZeZ:=#[aFm,plb]
 refine M0 pla plb fun h1 z1 t1 t2 i1 i2 sz k1=>Za7s;refine Bm (s:=#[akK,h1]) ZaBi (zipApart_new lta ltb) #[acq,ZPq<ita.length] #[acq,0<ZPq] #[acq,#[oj,ZPq]] z1 t1 t2 i1 i2 #[a_5,pla] #[a_5,plb] fun h' ts c' k2 s2 l2 n2 m2 p2=>?_
 have l2:Zkn=ZPq:=by simpa using l2
 have m2:∀ t∈ts,ZoK<t:=m2;have s2:Zem ZoK=some { cls:=Zdx,dict:=none,data:=Za3 #[Ve,Zwx] c',slots:=#[] }:=s2
 have kk:#[l3,#[kK,ZOm]->ZFA]:=fun c o e=>by
  have hc:ZaET:=ZcG;exact k2 c o ZafP ZafP (aQu hc) ZafP (k1 c o e)
 have ln:ZoK∉ts:=fun hm=>aZe _ (m2 _ hm)
 have lz:#[bd,ZDc,ys]=Zkn:=#[gJ,List.length_zip]
 have out:∀ c,ZaET->upd ZaQf ZoK ZI6 c=H1 c:=fun c hc=>by
  have T_:c≠ZoK:=Zae
  have hnm:c∉ts:=fun hm=>#[ew,m2 c hm]
  rw[ai T_,BS hnm]
 refine az #[aj,ZoK] (upd ZaQf ZoK ZI6) ?_ rfl ?_
 ·refine I1.grown kk (fun c u e n=>#[aL,out c (aQo e),n]) (ZaU2) fun c o e n=>?_
  by_cases hb:c=ZoK
  ·subst hb
   rw[ac]at e;cases e;refine js Zyu (Zwx Zho) c' ?_ s2
   exact ye ZaV fun i y v e1 e2=>by
    rw[aQI]at e1 e2
    cases hts:ts[i]? with
    | none=>rw[hts]at e1;cases e1
    | some t=>rw[hts]at e1 e2;cases e1;cases e2;exact rfl
  ·rw[Zfk]at e
   by_cases hm:c∈ts
   ·obtain⟨j,pp,e1,e2,rfl⟩:bM:=LP n2 hm e n
    refine bM (p2 j c e1) fun x y ex ey ip=>?_;obtain⟨f1,f2⟩:=List.getElem?_zip_eq_some.mp e2;refine ao (rva.get f1) fun v1 g1 w1=>?_;refine ao (rvb.get f2) fun v2 g2 w2=>?_
    have ex:#[di,ita[j]?]:=by simpa using ex
    have ey:#[kT,itb[j]?]:=by simpa using ey
    rw[ex]at g1;cases g1;rw[ey]at g2;cases g2;exact ⟨#[ara,2],ZGs,#[W4,w1,w2],lG _ ip rfl _ rfl⟩
   ·rw[BS hm,n]at e;cases e
 ·refine q _ ts _ #[ml,ZCF] (ZaU2) ac ?_
  have pr:=BU (H:=H1) n2 lz.symm
  have key:Za3n:=fun {us qs R S} hRS pr=>by
   induction pr with
   | nil=>exact Zan
   | cons r _ ih=>exact ZaYE
  exact key (fun u hu q e=>#[tB,#[tv,#[fP,ln,z,hu]]]) pr
def Tg [61][1][185]:WL X (Xy K):=by subst hK;exact C4
#print L2
namespace Wz
open PySem L2
inductive bH where
 | pair [183]
 | line [238]
 | star [238]
 | all [238]
 | quad (a b c d:Int)
abbrev bH.word:bH->Str
 | ZaAL=>"pair"
 | Zr6 _=>"line"
 | ZDe _=>"star"
 | Zwk _=>"all"
 | ZDf _ _ _ _=>"quad"
abbrev bH.gs:bH->Zbq
 | ZD6=>ZBg
 | Zr6 g=>g
 | ZDe g=>g
 | Zwk g=>g
 | ZDg=>ZFo
abbrev bH.isP:bH->ZbQ
 | ZaAL=>true
 | _=>false
abbrev si:Zbq->Zd4
 | []=>[]
 | g::gs=>ZoL (#[xM,g])++si gs
abbrev bH.row:bH->Zd4
 | ZD6=>[ZqL]
 | Zr6 g=>g.zip (ZdA 1)
 | ZDe g=>Zqb ZLx
 | Zwk g=>si g
 | ZDg=>#[sC,Qt]
abbrev bH.Ok (f:bH):Zaa:=2<=Zal7/\Zal7<=60/\#[aiv,f=ZDg->ZFp]
abbrev rh [32][157]:bH->Zaa
 | ZD6=>ZMf
 | f=>ZaSY
def rh.gr [196](n:ZAQ):ZaSY:=by
 cases f<;>first | exact h | cases n
def rh.of [38]{p q:Addr}{f:bH}(n:ZAQ)(h1:#[fd,ZWH])(h2:Zau0):ZMd:=by
 cases f<;>first | exact⟨q,h1,h2⟩ | cases n
def rh.hd [196]:ZaUL:=by
 cases f with
 | pair a b=>exact ZYD
 | _=>obtain⟨q,e,_⟩:ao:=h;exact ZnE
def bH.nw (f:bH):#[zG,ZaT]/\#[zG,ZaE]/\#[zG,ZbH]:=by
 cases f<;>(dsimp only[bH.word];refine #[cg,?_,?_]<;>decide +kernel)
def BX:∀ g:Zbq,2*ZWZ=ZfB*(ZfB-1)
 | []=>rfl
 | a::g=>by
  have ih:=BX g
  show 2*#[bc,(ZPr (#[xM,a])++si g)]=_
  rw[aQl,Z9,Nat.mul_add,ih,aQB]
  cases hn:g.length with
  | zero=>rfl
  | succ m =>
   show 2*ZnB+ZnB*m=(m+1+1)*ZnB
   rw[ZNK 2,<-Nat.mul_add,aZ0 2,Nat.mul_comm]
def bH.rl [430]:Za'f<=Zbz:=by
 have ok:=Zqh
 cases f with
 | pair a b=>show (1:Nat)<=Zbz;decide
 | line g=>show ZaVQ<=Zbz;rw[List.length_zip];have:Zq4:=ok;lia
 | star g=>show #[bc,(Zqb _)]<=Zbz;rw[Z9,aQN];have:Zq4:=ok;lia
 | all g =>
  have h:=BX g;have:Zq4:=ok;have:=aZK ZbR #[tA,ZfB-1<=59]
  show ZazN
  lia
 | quad a b c d=>show (6:Nat)<=Zbz;decide
def RD.succ [6][38]:∀ [71]{v:V}{d:Dt},RD K H n v d->RD K H Zfg v d
 | 0,_,_,h=>Zuv
 | _+1,_,_,Zuv=>Zuv
 | _+1,_,_,Zap ⟨a,t,xs,ds,e1,e2,q,p⟩=>Zap (iU a t xs ds e1 e2 q #[j6,p,ZPt z])
def yV {g:Zbs}[42](hn:0<n)(hg:0<ZfB):¬ (#[af9,ZfB,Zbj]=0/\ZiN ZfB ZfB Zac=ZfB):=by
 rw[HT.sIx_nat]
 lia
def xK [318]{R:#[YA,β]}{f:Zab3}:∀ [182]{ps:ZdP},#[k6,R,ts,Zkr,f]->Za0 (fun t p=>R t (f p)) ts ps
 | [],[],_=>Zan
 | [],ZdO,h=>nomatch h
 | ZdO,[],h=>nomatch h
 | ZdO,ZdO,ZaB a b=>ZaB a (xK b)
def Rl (a b:Zbq):(a.map Zau).zip (b.map Zau)=(a.zip b).map fun p=>ZaGQ:=by
 rw[List.zip_map];rfl
structure BA where
 dx:Addr
 d1:Addr
 d2:Addr
 d3:Addr
abbrev Dj (a b c:V):Zpa:=[(Zks,a),(Zi3,b),(ZoM,c)]
def YD:#[aCb,Zi3]:=Zao
def Zs:#[aCb,ZoM]:=Zao
def Zt:#[jt,Zi3,ZoM]:=Zao
def G7 {a b c:V}:cw ZoM c (cw Zi3 b ZaVX)=Dj a b c:=by
 unfold Dj;simp only[cw];rw[ZYt];simp only[cw];rw[aQc Zs,aQc Zt]
def UN {a b:V}:cw Zi3 b ZaVX=([(Zks,a),(Zi3,b)]:Zpa):=by
 simp only[cw];rw[ZYt]
def Fk {a b c:V}:#[h1,ZLZ,Zks,a]:=by
 rw[<-G7,aH,aQc Zs,aH,ZYt,aH,Zaz]
def ri {a b c:V}{m:Str}(q:¬ m=Zks/\¬ m=Zi3/\¬ m=ZoM):#[fw,ZLZ] m=Zac:=by
 rw[<-G7,aH,aQc q.2.2,aH,ZYv,aH,ZYu];rfl
inductive QK [12]:Zaa
 | mk [306](_:#[jP,Za'f])
inductive Gv [12]:Zaa
 | mk [306](_:#[a'N,Zr7])
inductive Mr [12]:Zaa
 | mk (d:Int)(_:vs=[ZYw])(_:0<=d)(_:∀ (l:Addr)(rs:Zbq),Zgr->2<=ZDh->ZDh<=60->(∀ r∈rs,ZaV2)->#[b9,l,#[gY,ZIB]])
abbrev tY [246](k j:Nat):Bool:=if j<=k then false else #[fL,w,ZbS,#[lJ,k=0],if ZJm then true else #[lJ,j=k+1]]
abbrev FB [246][285](x:Int):ZaRW
 | [],_=>[]
 | ZKR,j=>Zare
abbrev xI [246][405]:ZaRW
 | [],_=>[]
 | Zcz,k=>FB w k x g 0++xI w g xs Zdp
def JV [333](h:#[aMG,k<j]):#[al8,ZacG=#[aWX,0].map ZxN]
 | [],_=>Za'g
 | ZKR,j=>by
  show Zare=_
  rw[JV h os Zeb]
  by_cases z:k<j
  ·rw[ZaQQ,#[fN,k+1,Zeb,0],#[fN,k+1,j,0]]
   rfl
  ·rw[ZaR5,Za06]
   rfl
def O8 [333](h:∀ j,tY w k j=Zay):#[al8,ZacG=[]]
 | [],_=>rfl
 | ZKR,j=>by
  show Zare=_
  rw[O8 h os Zeb,#[aqE,h j]];rfl
def LI [333](h:#[aMG,j=k+1]):#[al8,ZacG=#[b5,j<=k+1,(#[aWX,0].take 1).map (ZxN),[]]]
 | [],_=>Za'g
 | ZKR,j=>by
  show Zare=_
  rw[LI h os Zeb]
  by_cases z:j=k+1
  ·rw[ZaQQ,ZnI,ZIp,#[fN,k+1,j,0]]
   rfl
  ·rw[ZaR5]
   by_cases y:j<=k+1
   ·rw[ZIp,aQd y,Za06]
    rfl
   ·rw[ZnI,aQc y]
    rfl
def Ls {g os:Zbq}{x:Int}{k:Nat}(e:ZdA k=ZAp):ZdA Zdp=os:=by
 rw[<-aXm,e];rfl
def L6 [405]:∀ [239][285],ZaKB->xI Zcc g os k=si os
 | [],_,_=>rfl
 | ZAp,k,e=>by
  have e1:=Ls e
  show FB Zcc k x g 0++#[acX,Zcc]=os.map (ZxN)++si os
  rw[L6 g os Zdp e1,ZaHl,Nat.sub_zero,e1];unfold tY;rw[ZaKP,Zaz]
  by_cases z:j<=k
  ·rw[ZeM];exact⟨fun q=>(by cases q),ZXx⟩
  ·rw[Zec];exact ZaSU
def Iv [405]:#[aMH,ZaKB,Za7,os.zip (os.drop 1)]
 | [],_,_=>rfl
 | ZAp,k,e=>by
  have e1:=Ls e
  show FB Za7 k x g 0++#[acX,Za7]=#[ab7,0].zip os
  rw[Iv g os Zdp e1,#[VL,LI],aQd (aQE _),Nat.sub_zero,e1]
  ·cases os<;>rfl
  ·unfold tY
   rw[#[zv,Za7,ZbS],#[zv,Za7,Zcc]]
   by_cases z:j<=k
   ·rw[ZeM];exact⟨fun q=>(by cases q),ZXx⟩
   ·rw[Zec];exact decide_eq_true_iff
def EF [405]:#[aMH,0<k,ZbS,[]]
 | [],_,_=>rfl
 | ZAp,k,h=>by
  show FB ZbS k x g 0++#[acX,ZbS]=[]
  rw[EF g os Zdp Zbde,#[VL,O8]]
  ·rfl
  ·unfold tY
   rw[Zaz,ZqZ];split<;>rfl
def P2:∀ g:Zbq,xI ZbS g g 0=Zqb ZLx
 | []=>rfl
 | ZAp=>by
  show FB ZbS 0 x Zab7 0++xI ZbS Zab7 os 1=os.map ZxN
  rw[EF _ os 1 ZaG,ZaHl,aXl]
  ·rfl
  ·unfold tY
   rw[Zaz]
   by_cases z:j<=0
   ·rw[ZeM];exact⟨fun q=>(by cases q),ZXx⟩
   ·rw[Zec];exact ZaSU
inductive Ug [12]:Zaa
 | mk [246](k j:Nat)(_:vs=#[xF,w,k,j])(_:Q (.bl (tY w k j)) H)
structure Zn [410][186]:Zaa where
 cl:Jn K ck
 nF:#[q9,Zks]
 nL:#[q9,Zi3]
 nR:#[q9,ZoM]
 mF:#[bW,ZPu,ck]
#print Wz
namespace Qs
open PySem PySem.W PyProof.Rows
noncomputable abbrev Q4:=Int×Int×ZgF
abbrev q0:Q4:=(0,0,0,0)
abbrev ZR (p q:Q4):Bool:=#[aVA,(p.2.1<Zp9\/(p.2.1=Zp9/\(ZZh<ZZi\/(ZZh=ZZi/\p.2.2.2<q.2.2.2))))]
abbrev ZF [139][255](p:Q4):Zaa:=∃ (b:Addr)(o:Obj)(n:Nat)(t1 t2 t3 t4:Tok),ZaO9/\ZeK/\ZyW/\o.data=Za3 #[Zah p.1 t1,Zah p.2.1 t2,Zah ZZh t3,Zah p.2.2.2 t4] n
open Classical in
noncomputable def decQ (h:Heap) (v:Value):Q4:=if z:∃ p,ZF h v p then ZayO else q0
abbrev Yf [421](ps:Zbo Q4)(out:Zb4):Zaa:=#[a2F,q0,ZR]
#print Qs
namespace L2
open PySem PySem.Spec PyProof.Rows
abbrev MN [394]:It:=#[aY7,Zavs]
def Jf [193](it:Addr)[394]:#[bd7,ZKg,(lo+Ztl*2),2] where
 mem:=ZaU
 obj:=fun i h st b hb=>by
  have e:ZjI:=ZcM
  subst e
  exact ⟨_,st,(fun v z=>by
   have z':ZaZK:=z
   cases z')⟩
 keep:=ZaUM
 item:=by
  intro X hP hw hK hc i pins s σ H E I hf st hg;subst hP hw hK;refine ZgG;have W:=#[a2v,2];refine Za3U;obtain⟨t,rfl⟩:=hv;have I1:ZY':=Zbcm;exact #[a3M,ZaB4,ZAA]
 done:=by
  intro X hP hw hK hc i pins s σ H E I hf st hg;subst hP hw hK;refine ZgG;exact Zbcl
 self:=Za_M
section
variable {X:Cx}{tg:Expr}
abbrev W7 (ta:TA):TI:=#[aQE,∃ i j:Int,vs=[ZdN,ZH0,Zah 2]/\(ZaC0<=i/\i<ZuM/\ZaC0<=j/\j<ZuM)/\R (MN i (ZDi i j 2).toNat) H1]
def pz [183]:ZDi a b 2=#[akl,a<b,(b-a-1)/2+1]:=by
 unfold Builtin.Range.rangeSize;rw[ZAH]
def N7 {a b:Int}(h1 : #[J6,a])(h2:a<ZuM)(h3 : #[J6,b])(h4:b<ZuM):Builtin.Range.small a b 2=Zad:=by
 unfold Builtin.Range.small;rw[pz];simp only[Builtin.Range.rangeFitsLong,aXb,Bool.or_eq_true,aZD,aZb,#[apR,(2:Int)],aXT];split<;>lia
def N1 {pins:Zej}{σ:St}{H:Hp}{s:Shared}{R:ZZx}{E:ZfG}{lo hi:Int}{t u v:Tok}{tk:Nat}(I:Zjf)(h1 : #[J6,lo])(h2:lo<ZuM)(h3 : #[J6,hi])(h4:hi<ZuM)
  (q:R (MN lo ZXn) H):wpAny Zw_ X.A ZaGq Zah7 E { s with heap:=s.heap.push { cls:=ZvG,data:=Za1 #[Zix,Ziw,ZAX] },toks:=tk }:=by
 refine #[a1O,N7];have I1:aT X pins σ H { s with heap:=s.heap.push { cls:=ZvG,data:=Za1 #[Zix,Ziw,ZAX] },toks:=tk }:=ZaI9
 refine fF ((s.heap.push { cls:=ZvG,data:=Za1 #[Zix,Ziw,ZAX] }).objs.size) [(s.heap.push { cls:=ZvG,data:=Za1 #[Zix,Ziw,ZAX] }).objs.size] _ _ H rfl
  ZaGZ (Jf _ lo ZXn) ?_ Zxg q
 ·have e1:lo+ZtG*2=lo:=ZaU
  have e2:#[aN9,Zazk,2]:=#[a5p,pz]
  show #[bd6,(lo+ZtG*2),Zazk,2]
  rw[e1,e2];exact ZeI
 ·have e:b=(s.heap.push { cls:=ZvG,data:=Za1 #[Zix,Ziw,ZAX] }).objs.size:=ZcM
  subst e;exact ZS4
def NV {a b c:Expr}[179](ha:PA X ZagJ ta)(hs:#[Ef,ZagJ,[ZLi,#[hI,b],#[hI,c]]]:=by rfl)(I_:#[Ef,[b,c],[#[hI,b],#[hI,c]]]:=by rfl) :
  #[aWF,ZagJ,W7]:=by
 intro pins s σ H R I h;refine #[aXs,(aXj (bZ ZaoZ fun us s1 ⟨vs,H1,I1,r1,q1⟩=>?_) #[eF,hs,I_] (#[b6,I_]))];obtain⟨i,j,e,a_,q⟩:bM:=q1;obtain⟨q1,q2,q3,q4⟩:iu:=a_;subst e
 cases r1 with
 | cons r rr =>
  cases rr with
  | cons r' rr =>
   cases rr with
   | cons r'' rr =>
    cases rr;obtain⟨t,rfl⟩:=r;obtain⟨t',rfl⟩:=r';obtain⟨t'',rfl⟩:=r'';exact #[qQ,call_range_3,(N1 I1 q1 q2 q3 q4 q)]
#where
def JM {lo:Int}{n:Nat}{g:TG}{tb:TS}{D:pG}{σ:St}{H:Hp}(Pv:Zlr)(h0:ZnP)
  (hs:#[aQj,ZaB4]) (hd:#[RT,n]) :
  ∃ W:ZjX,Zlp/\∀ i m σ H,ZjW ->
   #[ao7,ZKg,ZKg,ZKg]:=by
 refine Zahc;intro i m σ H a_;obtain⟨rfl,hi,p⟩:eJ:=a_
 by_cases v_:i<n
 ·refine ZaQ0
  obtain⟨e,y⟩:=y;subst e y;exact ZaXi
 ·have e:i=n:=Zae
  subst e;exact ZaEJ
section
variable {prog:Program}{w:World}{A:Around}{R:ZnG}{I:Addr}{fp wr:Zei}{n:Nat}{P:#[cp,Nat,Zb3]}{St:ZSr}
noncomputable abbrev Xa (I S:Addr)(d:Value):Code:=Zf' Za'h ⟨[Zai I,Zax,Zai S],ZPx⟩
def NA (W:Zaii)(bt:ZJp)(cmp:Zah_)(d:Value)(S:Addr)(nS:S∉fp) :
  ∀ (m j:Nat)[154][255][216],m+Zeb=n->St (j+1) ZaD->P (ZPv bt j) v ->
  ZA7=some { cls:=Zdx,dict:=none,data:=Za3 #[v,v] c,slots:=#[] } ->
  (ZaZo)->Za0a:=by
 have nW:S∉wr:=ZaOH
 have nm:Za'i:=ZaF
 intro m
 induction m with
 | zero =>
  intro j s v c e st pv hS k
  have e:j+1=n:=Zae
  refine Zacw;rw[ZacR]
  show ZbdJ
  refine ZadB
  show Za'k
  refine #[a'n,(e▸st)];have hS1:=ZahD
  show wpAny _ A.in1 (updateSeq S (fun _=>#[]) >>= _) _ _ _
  refine #[aQP,#[ad8,aZJ,aQk]];exact k v _ t1 #[eW,e,pv] #[al9,#[au3,0].trans (ZaTc)]
 | succ m ih =>
  intro j s v c e st pv hS k;refine Zacw;rw[ZacR]
  show ZbdJ
  refine ZadB
  show Za'k
  refine #[a'o,Zeb];have hS1:=ZahD
  show Zb7 _ ZiU (Za'j (ZOL [u,u] (richCompare .Gt u v >>= _)) _ >>= _) _ _ _
  refine aQa (Za'l (aXo (aQa (cmp Zeb ZaVi u v _ _ _ pu pv ?_))));refine aQa (aXo (aXA ?_));refine #[li,aZJ,?_]
  cases q:bt (j+1) ZaVi with
  | true =>
   simp only[aXT];refine #[aQP,#[He,aZJ]];rw[nm];refine #[KX,ih Zeb _ u _ Zaf Za04 (by simp only[argBest,q,aXT];exact pu) ZaWE ZXW];exact k u2 h2 t2 p2 ZaT8
  | false =>
   simp only[aX7,aZ3];refine Zabl;rw[nm];refine #[KX,ih Zeb _ v c Zaf st1 (by simp only[argBest,q,aX7,aZ3];exact pv) hS1 ZXW];exact k u2 h2 t2 p2 #[awm,Zawq]
def J4 (W:Zaii)(bt:ZJp)(cmp:Zah_)(d:Value)(S:Addr)(nS:S∉fp){s:Shared}{c:Nat}(st:St 0 ZaD)
  (hS:ZA7=some { cls:=Zdx,dict:=none,data:=Za3 #[] c,slots:=#[] })
  (k0:n=0->#[NX,(Zav_)->R (.ok (Zf1 d)) ZO4])
  (k:0<n->ZaZo):Za0a:=by
 have nW:S∉wr:=ZaOH
 have nm:Za'i:=ZaF
 refine Zacw;rw[ZacR]
 show ZbdJ
 refine ZadB
 show Za'k
 by_cases n0:n=0
 ·refine #[a'n,(n0▸st)]
  exact #[li,Zal_,(k0 n0 _ t1 #[al9,ZaTc])]
 ·refine #[a'o,0]
  have hS1:=ZahD
  show wpAny _ A.in1 (updateSeq S (fun _=>#[u,u]) >>= _) _ _ _
  refine aQa (aXZ hS1 rfl ?_);rw[nm];refine #[KX,NA W bt cmp d S nS (n-1) 0 _ u _ Zaf Za04 pu ZaWE ZXW];exact k Zaf u2 h2 t2 p2 ZaT8
#where
def OC (a d:Value):checkBuiltinCall Zj' ⟨[a],ZPx⟩=Zck ():=by kernel_rfl
section
variable {prog:Program}{w:World}{A:Around}{E:ZfG}{s:Shared}
def MV {x d:Value}{Q:ZfG}
  (h:wpAny Zwg A.in1 ZaAT (fun it s2=>∃ I fp wr n P St bt,it=Zai I/\Zaii/\ZaKi/\(ZA6)/\Zah_ /\
   (n=0->#[NX,(#[o5,ZUG,Za7V,Zfa])->Q d Zae2]) /\
   (0<n->∀ v h' tk,P (ZPv bt (n-1)) v->(#[o5,ZUG,Za7V,Zfa])->Q v Zae2)) E s) :
  #[wh,#[aM',[x],ZPx]]:=by
 have nm:Za'i:=ZaF
 refine aZP (ZakA F.plain_max F.entry_max (ZOM (OC x d) ?_))
 show #[Ff,Za23]
 refine #[qF,ZOM,(#[et,Za23=Zck #[S_,d]])];refine #[zj,(aQR h (fun it s2 h2=>?_) ZTm)];obtain⟨I,fp,wr,n,P,St,bt,rfl,W,st,b_⟩:qr:=h2;obtain⟨lt,cmp,k0,k⟩:iu:=b_;refine #[mW,aXi];have nS:ZeY∉fp:=#[aH,aZe _ (lt _ z)];rw[nm];refine #[KX,J4 W bt cmp d ZeY nS (W.frame _ _ _ st fun b _ o e=>Zjm) ZeJ (fun n0 h' tk hk=>?_) fun n0 v h' tk pv hk=>?_]
 ·exact k0 n0 h' tk ZaZp
 ·exact k n0 v h' tk pv ZaZp
#where
abbrev XV [1](ta:TA)(d:Int):TE:=#[ai4,ta,#[C1,∃ (l:Addr)(ns:Zbq),vs=ZAK/\bT K H1 l Zyx/\(ns=[]->Q (Zah d) H1)/\∀ M,M∈ns->(∀ a∈ns,a<=M)->Q (Zah M) H1]]
def SN {X:Cx}{a:Expr}{ta:TA}{d:Int}{p pos cp kp:Pos}{cj:Nat}(hc:ZfT)(hg:Gl X Zj')(hm:#[tZ,Zj'])(ha:Zaej)
  (he:#[anK,pos,[a],ZLi::#[aZN,[]]]:=by rfl) (z_:#[anH,[a]] (·.1)=false:=by rfl)
  (hall:#[aPe,0].all (·.1.isSome)=true:=by rfl) (hkw:#[aPe,0].any (·.1.isNone)=false:=by rfl) :
  PE X (ZcN (Zeg Zj' p) [a] ZawA pos) (XV X.K ta d):=by
 intro pins s σ H Q I h;refine #[W6,boot_max];refine callWith_kw Zao0 he z_ hall hkw;obtain ⟨vs,H1,I1,r1,l,ns,e1,hq,q0,q⟩:=zz;subst e1;obtain⟨u,rfl,rx⟩:ao:=i8 r1;cases rx;refine kws_cons (Za4X (kws_nil ?_));have I2:#[b0,H1,{ s1 with toks:=ZrR+1 }]:=I1.tok _;refine aK (I2.list hq) ZGM;have hl:=rv.length;rw[Z9]at hl
 show #[hQ,#[aM',ZAK,[(ZPw,Zah d ZrR)]]]
 refine #[agU,MV,Zhr Zau,I2,(I2.ok.hd hc)]
 have val:Za2G:=fun i v e=>by
  have e:ZaaV:=Zrt
  have hi:Zazx:=ZaxH
  refine Za09;rw[e]at eu;cases eu;obtain⟨t,rfl⟩:=ru;exact ZaPB
 have v_:l<ZeZ:=by obtain⟨o,n,e,_⟩:cD:=pl;exact ZcG
 refine #[ah',_,⟨ZmS,CmpOf.ints_gt (ZN6) val,fun n0 h' tk k=>?_,fun n0 v h' tk hv k=>?_⟩]
 ·rcases ZaBp with z | z
  ·rw[z,hI,I_];exact ZH_
  ·rw[Zdd,I_];exact aXB v_
 ·exact az Zar4 H1 ZMk Za' (q0 (Za8' Zaf))
 ·obtain⟨t,rfl⟩:=val _ _ hv
  obtain⟨h1,h2⟩:=argBest_gt (ZN6) (Zkd-1);refine az ZYf H1 ZMk ZAA (q _ ?_ #[Pg,?_])
  ·rw[aX5,ZtX];exact ZPy _
  ·obtain⟨j,hj⟩:=aZc ha
   have hjl:j<Zfp:=ZaAx;have:=h2 j Zaf;rw[show ZN5 j 0=a by rw[aX5,hj];rfl]at this;exact this
def oR [9][6][161]{sp:Sp}(no:#[O0,¬ Zjz]):Zaqt :=
 ⟨#[ama,ZaMc],#[a'p,ZaMc]⟩
abbrev Zb [343]:TE:=#[ai7,#[aMI,ZaUT]]
def Ku [61][192][156][108]:#[a2M,Zb]:=by
 intro pins s σ H Q I h;refine ZbdQ;obtain ⟨x,H1,I1,rx,z,ex,hz,q⟩:=zz;subst ex;obtain⟨tk,rfl⟩:=rx;have sl:Za9b:=aQU;exact #[aF_,(az ZyL H1 I1 Za' ZaS3),(az ZyL H1 ZYg Za' ZaS3)]
inductive N3 [11]:Zaa
 | mk [157][184](ns:Zbp)[224](_:kvs.map (·.1)=Zhr ZfX)(_:#[jZ,ZaBo])
def zJ [61][113]:#[ie,Zdw,N3]:=by
 intro pins s σ H xs us Q I r h;obtain⟨p,kvs,ns,rfl,hH,hk,q⟩:=h;obtain⟨u,rfl,rx⟩:ao:=ZeP;cases rx;refine Za1';obtain⟨ep,hat⟩:=dd.dictAt
 have hlk:ZaCE:=ZbdY
 have hlv:ZiL:=Zlh;refine PySem.W.kdl_call (Za1t) ZOG hat ZaJ' fun h' tk acc c' kp e F_=>?_
 have hal:ZaLS:=ZaL9
 have rI:bK (Zhr ZaC) ZN0:=ye ZaJf fun i x v e1 e2=>by
  refine Za2Y
  have e3:(vs.map (·.1))[i]? = Zab k:=ZaHk
  rw[<-rel.keys,hk,aQI]at e3;rw[aQI]at e1
  cases en:ns[i]? with
  | none=>rw[en]at e1;cases e1
  | some n =>
   rw[en]at e1 e3;have e1':ZaC n=x:=ZJf;subst e1';have e4:(ZfX n:df)=k:=aQp e3;subst e4;have hks:Za4s n v=Zad:=hks
   cases v<;>first
    | (have hks:=Zoq hks;subst hks;exact Za')
    | (cases hks;done)
 refine #[tb,#[Ly,tk,kp,ZaBo,js (#[wa,Z9,hlk,hz]) ZN0 c' rI (Zrt)],Zt3]
section
variable {X:Cx}
open Classical in
theorem NP (n:Nat)(hu:Zaio):#[ajf,(Xv X.K n Zad)]:=by
 intro pins s σ H x y v u Q I rx ry h;obtain⟨p,as,d,ds,rfl,hq,hx,hp,q⟩:=h;cases ry
 have hu':ZabZ:=Zaip
 rcases hq with hq | hq
 ·refine ZJs
  obtain⟨h1,h2⟩:=ZL2;refine #[bcE,SeqAt.notIn_listAt];rw[List.any_toArray];exact ZKt
 ·refine ZJy
  obtain⟨h1,h2⟩:=ZL2;refine SeqAt.notIn_tupleAt _ pl (ZbcD) #[qo,Zp6,?_];rw[List.any_toArray];exact ZKt
open Classical in
theorem Lj {pins:Zej}{σ:St}{H:Hp}{s:Shared}{n:Nat}(I:Zjf){d:Dt}(e:Zb3->ZbQ)(he:∀ a:Zeh,e ZbV=Zad↔Zacl) :
  ∀ {as:Zei}{ds:Zk5}{us:Zb4},ZaRB->ZaTq->us.countP e=Za'q (#[cV,#[lJ,x=d]])
 | _,_,us,Zan,r=>by cases r;rfl
 | a::as,c::ds,us,ZaB hc hp,r=>by
  cases r with
  | cons r1 r2 =>
   cases r1;rw[List.countP_cons,List.countP_cons,Lj I e he hp r2]
   congr 1
   by_cases z:c=d
   ·rw[aQd ((he a).mpr (z▸hc)),ZKG]
   ·rw[aQc (#[bk,z (Zaki I hc ((he a).mp q))]),ZaHC]
abbrev Y9 [1][42](to te:TE):TE:=#[ai5,to,∃ p:Addr,x=ZcF/\(∃ xs,H1 p=Zab ZdJ)/\#[m_,te,#[a'r,RD K H2 n y d,RD K H2 n ZbV e]]]
open Classical in
theorem VL (K:PySem.W.Frag)(n:Nat){o e:Expr}{to te:TE}{apos h_:Pos}(hu:Zaio)(ho:Zu8)(he:Zhg)(hK:Zvn:=by rfl)(u_:#[a5N,"count"]:=by rfl)
  (aq7:Zaq9:=by rfl)
  (D_:Zlt:=by rfl) (hs:ZEi:=by rfl) (z_:ZanG (·.1)=false:=by rfl) :
  #[EO,"count",[e],(Y9 K n to te)]:=by
 subst hK;intro pins s σ H Q I h;refine Za2z;obtain ⟨x,H1,I1,r1,p,ex,⟨xs,hp⟩,q1⟩:=zz;subst ex;cases r1;obtain⟨_,_,_,ob,e1,c1,m1,d1⟩:=#[mx,H1,ZCN,p,ZdJ,ZOr p _ hp];refine gT Zf3 "tuple.count" PySem.F.plainAttrs_tuple PySem.F.slot_tuple_count PySem.F.type_tuple_count ⟨ob,e1,c1⟩ (fun a z=>?_) ?_
 ·cases z;exact ⟨ob,e1,(Za's d1).2⟩
 rw[hs];refine aXy (by show (false||ZanG (·.1))=false;rw[z_]<;>rfl) Zabc;have hA:=aB he bz hs h_ pins s1 σ H1 (fun vs H2=>match vs with | [y]=>(#[a'r,RD X.K H2 n y d,RD X.K H2 n ZbV e]) | _=>False) I1 ?_
 ·rw[hs]at hA
  refine bZ hA fun us s2 zz=>?_;obtain ⟨vs,H2,I2,r2,q0⟩:=zz
  obtain⟨y,rfl⟩:∃ y,vs=[y]:=by
   match vs,q0 with
   | [y],_=>exact#[e_,y]
   | [],q=>exact q.elim
   | ZJF,q=>exact q.elim
  obtain⟨as,d,ds,hp2,hy,hpr,q⟩:=q0;obtain⟨u,rfl,ru⟩:ao:=i8 r2;refine aK (I2.tuple (Zbg hp2)) Zx5
  have hu':ZabZ:=Zaip
  obtain⟨h1,h2⟩:=yG I2 hu' ru hy hpr r;have pl:s2.heap.IsTuple p ZbM:=pl;refine jq (id pl) fun a_ hoo hcc m hdd=>?_;obtain⟨cls,dd,data,sl⟩:=a_;simp only at hcc hdd;subst hcc hdd;have e2:=Lj I2 (ZasS) (fun a=>by rw[aZD];exact⟨fun ⟨b,eb,hb⟩=>by cases eb;exact hb,#[ge,#[ii,a,h]]⟩) hpr r;refine aZm F.slot_tuple_count #[dk,hoo] F.entry_tuple_count (F.args_tuple_count_2 _ _) (SeqAt.tuple_countAt p ZbM m dd sl u (ZasS)) #[cg,hoo,(ZbcD)];refine az (Zah (d_.toArray.toList.countP (ZasS):Nat)) H2 ZYi Za' (q _ ZXX)
  show d_.countP _=_
  rw[e2]
  exact Za'u fun x _=>#[bm,aZD,hf]
 ·show te σ H1 _
  exact q1
#where
#print L2
namespace Wz
open PySem L2
inductive aA where
 | pl (f:bH)
 | row [83]
 | back (f:aA)
 | name [246]
abbrev aA.word:aA->Str
 | Zed=>f.word
 | Zkt _=>"row"
 | Zr8 _=>"back"
 | Zd1 _=>"name"
abbrev bH.dt:bH->Dt
 | ZD6=>.sq Zad [#[ym,ZbZ],#[Wf,a],#[Wf,b]]
 | f=>#[KA,ZdB,.sq Zad (ZwB ZaMl)]
mutual
noncomputable def aA.dt:aA->Dt
 | Zed=>f.dt
 | Zku=>#[KA,ZaE,.sq Zad (Zi4 fs)]
 | Zr9=>#[KA,ZaT,ZoN]
 | ZeN=>#[KA,ZbH,#[ym,w]]
noncomputable def aA.dtL:Zb2->Zk5
 | []=>[]
 | Zfo=>ZoN::Zi4 fs
end
mutual
noncomputable def aA.names:aA->Zbp
 | .pl _=>[]
 | Zku=>ZcP fs
 | Zr9=>f.names
 | ZeN=>[w]
noncomputable def aA.namesL:Zb2->Zbp
 | []=>[]
 | Zfo=>f.names++ZcP fs
end
mutual
noncomputable def aA.len (e:ZAm):Zu_
 | Zed=>f.row.length
 | Zku=>ZKe
 | Zr9=>ZY5
 | ZeN=>e w
noncomputable def aA.lenL (e:ZAm):Zb2->Nat
 | []=>0
 | Zfo=>ZY5+ZKe
end
mutual
noncomputable def aA.rowF (e:ZZu):aA->Zd4
 | Zed=>f.row
 | Zku=>ZaEz
 | Zr9=>(ZDj e).reverse
 | ZeN=>e w
noncomputable def aA.rowL (e:ZZu):Zb2->Zd4
 | []=>[]
 | Zfo=>ZDj e++ZaEz
end
abbrev bX:Nat->Hp->#[YA,aA]
 | 0,_,_,_=>False
 | _+1,H,p,Zed=>ZMd/\f.Ok
 | _+1,H,p,ZeN=>#[fd,#[kZ,ZbH,Zag w]]/\Zf_<=100
 | n+1,H,p,Zr9=>∃ q,#[fd,#[kZ,ZaT,Ztp]]/\bX n H q f
 | n+1,H,p,Zku=>∃ t as,#[fd,#[kZ,ZaE,Zea]]/\#[mU,Zave]/\Zek<=100/\Zagp
def bX.mono [15](s:ZL5):#[XY,ZJ3]
 | 0,_,_,h=>h
 | n+1,p,Zed,h=>by
  refine#[fc,?_,h];have h:=h.1
  cases f with
  | pair a b=>exact s _ _ h
  | _=>obtain⟨q,e1,e2⟩:ao:=h;exact ⟨q,ZZY,s _ _ e2⟩
 | n+1,p,ZeN,h=>#[fc,ZaA',h]
 | n+1,p,Zr9,h=>by
  obtain⟨q,e1,e2⟩:ao:=h;exact ⟨q,ZZY,Zamc s e2⟩
 | n+1,p,Zku,h=>by
  obtain⟨t,as,e1,e2,hl,e3⟩:bB:=h;exact bS t as (s _ _ e1) (s _ _ e2) hl #[j6,e3,Zamc s z]
def bX.hd [71][38][95]:ZaUL:=by
 cases n with
 | zero=>exact h.elim
 | succ n =>
  cases f with
  | pl f=>exact h.1.hd
  | name w=>exact#[aR,h.1]
  | back f=>obtain⟨q,e,_⟩:ao:=h;exact ZnE
  | row fs=>obtain⟨t,as,e,_⟩:cD:=h;exact ZnE
def RD.up [6][38]{n m:Nat}{v:V}{d:Dt}(h:RD K H n v d)(e:n<=m):RD K H m v d:=by
 induction e with
 | refl=>exact h
 | step _ ih=>exact ZPt ih
def OU [6][196]:RD K H 2 ZqN ZoN:=by
 have bk3:∀ [238],#[k6,(RD K H 0),(ZoL Zau),ZoL,ZaMl]:=fun gs=>by
  induction gs with
  | nil=>exact Zan
  | cons g gs ih=>exact ZaGw
 cases f with
 | pair a b=>exact Zwv (Zbg h) #[m',ZKJ,ZKJ,#[h9,ZKJ]]
 | _ =>
  obtain⟨q,e1,e2⟩:ao:=h;exact Zwv (Zbg e1) #[m',ZKJ,#[aVU,(bk3 _)],Zan]
def bX.rd [6][38]:#[XY,RD K H (2*n) ZqN ZoN]
 | 0,_,_,h=>h.elim
 | n+1,p,Zed,h=>Zr_ (#[ON,RD K H 2 ZqN #[q7,0].dt,ZoO,OU h.1]) Zaf
 | n+1,p,ZeN,h=>Zr_ (n:=1) #[aM,ZoO,Zwv (Zbg h.1) #[m',(ZCS rfl 0),(ZCS rfl 0),Zan]] Zaf
 | n+1,p,Zr9,h=>by
  obtain⟨q,e1,e2⟩:ao:=h;refine Zr_ (n:=2*n+1) ?_ Zaf;rw[aA.dt];exact #[aLa,(bX.rd e2)]
 | n+1,p,Zku,h=>by
  obtain⟨t,as,e1,e2,_,e3⟩:bB:=h;refine Zr_ (n:=2*n+2) ?_ Zaf;rw[aA.dt];refine #[aLa,#[aVU,?_]]
  have key:∀ [340][177],Zagp->#[k6,(RD K H (2*n)),Zae6,Zi4,fs]:=fun {as fs} pr=>by
   induction pr with
   | nil=>rw[aA.dtL];exact Zan
   | cons a _ ih=>rw[aA.dtL];exact ZaB (bX.rd a) ih
  exact key e3
def Lu:#[qr,Zi4 fs=Zi5 ZoO]
 | []=>#[b6,Zi4]
 | Zfo=>#[XL,Zi4,Lu]
def xg (e:ZAm):#[qr,Zl4 e fs=(Zi5 (aA.len e)).sum]
 | []=>#[b6,Zl4]
 | Zfo=>#[ex,Zl4,xg e fs]
def Cj:#[aKy,ZcP,ZPz]
 | []=>#[b6,ZcP]
 | Zfo=>#[XL,ZcP,Cj]
def pX (e:ZZu):#[qr,ZwC e fs=ZPA (Zamd e)]
 | []=>#[b6,ZwC]
 | Zfo=>#[ex,ZwC,pX e fs]
def bH.dt_hd (f:bH):ZaZZ:=by cases f<;>exact Za'
def aA.dt_hd (f:aA):ZaZZ:=by
 cases f with
 | pl f=>obtain⟨t,e⟩:=f.dt_hd;exact⟨t,#[tB,ZoO]⟩
 | row fs=>exact ZYE
 | back f=>exact ZYE
 | name w=>exact ZYE
def aA.dt_word {f g:aA}(h:ZaJi):ZdB=g.word:=by
 obtain⟨t,e⟩:=f.dt_hd;obtain⟨u,e2⟩:=g.dt_hd;rw[e,e2]at h;injection h with _ h;injection h with h _;injection h with h;exact ZIc
def BJ:∀ {a b:Zbq},#[aVd,a.map]=#[aVd,b.map]->a=b
 | [],[],_=>rfl
 | [],ZdO,h=>by cases h
 | ZdO,[],h=>by cases h
 | x::a,y::b,h=>by
  rw[aQv,aQv]at h;injection h with h1 h2;injection h1 with h1;rw[ZoP h1,BJ h2]
def bH.dt_inj {f g:bH}(h:ZaJi):f=g:=by
 obtain⟨t,e⟩:=f.dt_hd;obtain⟨u,e2⟩:=g.dt_hd
 have hw:ZdB=g.word:=by
  have h2:=h;rw[e,e2]at h2;injection h2 with _ h2;injection h2 with h2 _;injection h2 with h2;exact Zr3 h2
 have ne:∀ {a b:Str},a=b->a≠b->ZiT:=fun h n=>n h
 cases f<;>cases g<;>first
  | (dsimp only[bH.word]at hw;exact (ne hw ZcE).elim)
  | (simp only[bH.dt,bH.gs]at h
     injection h with _ h;injection h with _ h;injection h with h h2
     first
    | (injection h with h;injection h2 with h2 _;injection h2 with h2;rw[ZoP h,ZoP h2];done)
    | (injection h with _ h;rw[BJ h];done)
    | (injection h with _ h;have h:=BJ h;injection h with h1 h;injection h with h2 h;injection h with h3 h;injection h with h4 h;subst h1 h2 h3 h4;rfl))
mutual
theorem aA.dt_inj:∀ (f g:aA),ZoN=g.dt->f=g
 | Zed,g,h=>by
  have w:=ZId
  cases g with
  | pl g=>rw[aA.dt,aA.dt]at h;rw[bH.dt_inj h]
  | row _=>exact #[oR,w,ZY1]
  | back _=>exact #[oR,w,ZXz]
  | name _=>exact #[oR,w,ZayB]
 | Zku,g,h=>by
  have w:=ZId
  cases g with
  | pl g=>exact #[Y3,g.nw.2.1]
  | row gs =>
   rw[aA.dt,aA.dt]at h;injection h with _ h;injection h with _ h;injection h with h _;injection h with _ h;rw[#[aSM,h]]
  | back _=>exact #[vp,ZaE,ZaT]
  | name _=>exact #[vp,ZaE,ZbH]
 | Zr9,g,h=>by
  have w:=ZId
  cases g with
  | pl g=>exact #[Y3,g.nw.1]
  | row gs=>exact #[vp,ZaT,ZaE]
  | back g =>
   rw[aA.dt,aA.dt]at h;injection h with _ h;injection h with _ h;injection h with h _;rw[Zame f g h]
  | name _=>exact #[vp,ZaT,ZbH]
 | Zd1 z,g,h=>by
  have w:=ZId
  cases g with
  | pl g=>exact #[Y3,g.nw.2.2]
  | row gs=>exact #[vp,ZbH,ZaE]
  | back g=>exact #[vp,ZbH,ZaT]
  | name y =>
   rw[aA.dt,aA.dt]at h;injection h with _ h;injection h with _ h;injection h with h _;injection h with h;rw[ZIc]
theorem aA.dtL_inj:∀ (fs gs:Zb2),Zi4 fs=Zi4 gs->fs=gs
 | [],[],_=>rfl
 | [],ZdO,h=>by rw[aA.dtL,aA.dtL]at h;cases h
 | ZdO,[],h=>by rw[aA.dtL,aA.dtL]at h;cases h
 | Zfo,g::gs,h=>by
  rw[aA.dtL,aA.dtL]at h;injection h with h1 h2;rw[Zame f g h1,#[aSM,h2]]
end
open Classical in
noncomputable def likeStep (acc:Zb2) (f:aA):Zb2:=if f∈acc then acc else acc++[f]
open Classical in
noncomputable def once (fs:Zb2):Zb2:=Zamf Zkv []
set_option tactic.hygienic true
open Classical in
theorem CD:#[aye,Za_a->#[aS4,0].Nodup/\(∀ f,f∈Zamf Zkv acc↔f∈acc\/ZJq)]
 | [],acc,h=>⟨h,#[hs,ZaU]⟩
 | g::fs,acc,h=>by
  rw[aXY]
  have st:#[aOp,0].Nodup/\∀ f,f∈Zkv acc g↔f∈acc\/f=g:=by
   unfold likeStep;split
   ·rename_i m
    exact⟨h,#[hs,⟨Zal,#[aH,ZakL id fun e=>e▸m]⟩]⟩
   ·rename_i m
    refine⟨ZPa #[aFx,h,m (by rw[ZI1]at e;exact e▸ha)],#[hs,ZaU]⟩
  obtain⟨i1,i2⟩:=CD fs ZaOp st.1;refine⟨i1,#[hs,?_]⟩;rw[i2,st.2,aQm];constructor
  ·rintro ((a | a) | a)
   ·exact Zal a
   ·exact #[m9,a]
   ·exact #[nO,a]
  ·rintro (a | a | a)
   ·exact #[AD,a]
   ·exact #[Z',a]
   ·exact Zap a
set_option tactic.hygienic false
def SD [83]:#[aCV,0].Nodup:=(CD fs [] aXs).1
def xH [177][473]:f∈Zr' fs↔ZJq:=by
 have:=(CD fs [] aXs).2 f;unfold once;simpa using this
open Classical in
theorem LG (len:Zu_)(f:aA):∀ us:Zb2,us.Nodup->#[KY,(#[a'v,f=u])*Zrd]=#[akl,Zaba,len f]
 | [],_=>rfl
 | Zq_,h=>by
  have nd:=ZYQ;rw[aQv,aXC,LG len f us nd.2]
  by_cases e:f=u
  ·subst e
   rw[Zaz,aQc nd.1,aQd aQi]
   lia
  ·rw[Zil]
   by_cases m:Zaba
   ·rw[aQd m,aQd #[dh,m]];lia
   ·rw[aQc m,#[Y4,ZaMa e m]];lia
open Classical in
theorem Ed (len:Zu_){us:Zb2}(nd:us.Nodup):#[qr,(#[PB,Zaba])->#[KY,Zamg (ZBx)*Zrd]=(Zi5 len).sum]
 | [],_=>by
  have:∀ us:Zb2,#[KY,#[az2,0].countP (ZBx)*Zrd]=0:=fun us=>by
   induction us with
   | nil=>rfl
   | cons u us ih=>rw[aQv,aXC,ih];simp
  rw[this];rfl
 | Zfo,h=>by
  have ih:=Ed len nd fs #[gc,h g #[dh,hg]];have hs:=LG len f us nd;rw[aQd (h f aQi)]at hs
  have e:(Zkw fun u=>(f::fs).countP (ZBx)*Zrd)=Zkw fun u=>Zamg (ZBx)*Zrd+#[a'w,f=u]*Zrd:=by
   refine aXv fun u _=>?_;rw[List.countP_cons,Nat.add_mul]
   by_cases z:f=u
   ·rw[ZeM,ZKG]
   ·rw[Zec,ZaHC]
  have add:∀ (us:Zb2)(a b:Zu_),#[KY,a u+b u]=(Zkw a).sum+(Zkw b).sum:=fun us a b=>by
   induction us with
   | nil=>rfl
   | cons u us i2=>rw[aQv,aQv,aQv,aXC,aXC,aXC,i2];lia
  rw[e,add,ih,hs,aQv,aXC]
  lia
abbrev fV [216]:Bool:=#[lJ,97<=c/\c<123]
def Vn [216]:(!(Builtin.Str.occurrences #[c2,Zsa] ⟨#[c]⟩ 0 #[E1,Zsa] 1).isEmpty)=fV c:=by
 rw[StrLaws.found_one]
 have e:#[HO,Zsa]=ZaDt (·+97):=Zao
 rw[e];unfold fV;rw[aXR,aQy];constructor
 ·intro a_;obtain⟨k,hk,rfl⟩:ao:=a_
  have:=Zabu
  lia
 ·intro h
  exact ⟨c-97,ZazL,Zaf⟩
abbrev kindsL:Zbp:=[ZbZ,Za7,ZbS,Zcc,ZcQ,ZaE,ZaT,ZbH]
abbrev iD [160]:Bool:=!#[lJ,ZadP]&&#[lJ,ZW8]&&Za'x fV
def wX [160]:∀ xs:Zbp,#[GD,z,ZrK]=#[lJ,z∈xs]
 | []=>rfl
 | Zcz=>by
  have ih:=wX z xs;unfold JU at ih ⊢;rw[aQv,aXS,ih]
  by_cases e:z=x
  ·subst e
   rw[show #[aRh,z]=Zad by simp[JH],aQe aQi];rfl
  ·rw[show #[aRh,x]=Zay by simp[JH];exact #[bk,e q.symm]]
   rw[Bool.false_or];exact ZPC ⟨#[bk,aQh _ q],#[bk,(ZfZ q).resolve_left e]⟩
def Ej (xs:Zbp):(ZrK ZaC).all sG=Zad:=aQL.mpr fun v hv=>by obtain⟨x,_,rfl⟩:ao:=ZZL;rfl
structure BE where
 w:Str
 f:aA
 n:Nat
 r:Zd4
 p:Addr
 l:Addr
abbrev yz [30][246]:#[gi,BE]:=bs.find? #[cb,ZaN_]
abbrev iP [30][246]:Nat:=match Zlv with | Zab e=>e.n | none=>0
abbrev lA [30][246]:Zd4:=match Zlv with | Zab e=>e.r | none=>[]
abbrev lM (e:BE):Bool:=#[lJ,Zs4]
def j8 (g:BE->V)[246]:∀ bs:Zci,#[aQm,Zkh,(Zxi,g e)]=(yz bs w).map g
 | []=>rfl
 | e::bs=>by
  have ih:=j8 g w bs;unfold gQ yz at ih ⊢;rw[aQv,aXt,aXt]
  by_cases z:e.w=w
  ·rw[#[bn,#[lL,ZaPR],#[uF,z]],Zz3]
   rfl
  ·rw[#[bn,#[lM,ZaPR],aQg (#[bk,z (ZMU q)])],ZGR]
   exact ih
def jf [19][277]{e:BE}(h:ZahF):e∈bs/\e.w=w:=by
 unfold yz at h;have:=List.find?_some (p:=fun e:BE=>ZaN_) h;exact⟨List.mem_of_find?_eq_some h,aQJ ZbR⟩
def jR [19][277]:ZaWd↔w∉bs.map (·.w):=by
 unfold yz;rw[List.find?_eq_none];constructor
 ·intro h m
  obtain⟨e,he,rfl⟩:ao:=#[rX,m];exact h e he (aQe rfl)
 ·intro h e he q
  exact h (Zl0 ⟨e,he,aQJ q⟩)
def MS [19][277]{e:BE}(nd:(bs.map (·.w)).Nodup)(h:ZahF)(s:Zs4):yz (ZPD lM) w=Zab e:=by
 induction bs with
 | nil=>cases h
 | cons x bs ih =>
  have nd2:=aQ0.mp (show (x.w::bs.map (·.w)).Nodup from nd);unfold yz at h ih ⊢;rw[aXt]at h
  by_cases z:x.w=w
  ·rw[Zz3]at h
   cases h;rw[List.filter_cons_of_pos (by unfold lM;exact aQe s),aXt,Zz3]
  ·rw[ZGR]at h
   rw[aXG];split
   ·rw[aXt,ZGR];exact ZaWp
   ·exact ZaWp
structure iQ [150]:Zaa where
 ob:Zah8
 f1:#[aP,Zez,#[FH,(Zxh,ZaN e.p)]]
 f2:ZaS'
 f3:ZaVz
 fg:#[sb,bX 9 H e.p e.f]
 rw:Zbdr
 nd:(bs.map (·.w)).Nodup
 ln:#[R_,100]
 d12:Zez≠ZeA
 d13:Zez≠ZhA
 d23:ZeA≠ZhA
def iQ.mono [334](x:ZSb)[111]:#[WD,bs] :=
 #[aia,ZIS,s _ _ x.f1,ZaA9,ZaA_,(x.fg e he).mono Zaxs,ZaPL]
def Jz {a b c:V}:#[h1,ZLZ,Zi3,b]:=by
 rw[<-G7,aH,aQc Zt,aH,Zaz]
def OA {a b c:V}:#[h1,ZLZ,ZoM,c]:=by
 rw[<-G7,aH,Zaz]
abbrev bL [30](f:aA):Zaa:=∀ w∈f.names,w∈bs.map (·.w)
def bX.rds [6][38][71][340][177](hn:n<=9)(h:Zagp):#[k6,(#[Tg,RD K H 18 ZbV e]),as,Zi4,fs]:=by
 induction h with
 | nil=>rw[aA.dtL];exact Zan
 | cons a _ ih=>rw[aA.dtL];exact Za0X
def bX.up [38]:#[XY,ZaCR]
 | 0,_,_,h=>h.elim
 | n+1,p,Zed,h=>h
 | n+1,p,ZeN,h=>h
 | n+1,p,Zr9,h=>by
  obtain⟨q,e1,e2⟩:ao:=h;exact ⟨q,e1,bX.up e2⟩
 | n+1,p,Zku,h=>by
  obtain⟨t,as,e1,e2,fl,pr⟩:bB:=h;exact bS t as e1 e2 fl #[j6,pr,bX.up z]
def bX.le [38]{n m:Nat}[95](hl:n<=m):#[xL,m]:=by
 induction hl with
 | refl=>exact h
 | step _ ih=>exact ih.up
def X7 [246]:#[nT,ZIT,ZaT]:=#[EB,ZbH,ZaT]
def X8 [246]:#[nT,ZIT,ZaE]:=#[EB,ZbH,ZaE]
def EX [246]:#[lL,#[dE,#[IT,0].word,ZbH]]:=#[XZ,ZbH,ZbH]
def EV (f:aA):#[lL,#[dE,#[AC,0].word,ZaT]]:=#[XZ,ZaT,ZaT]
def EW (f:aA):#[nT,ZAC,ZbH]:=#[EB,ZaT,ZbH]
def E4 [83]:#[nT,Zamm,ZaT]:=#[EB,ZaE,ZaT]
def Ji [83]:#[lL,#[dE,#[amm,0].word,ZaE]]:=#[XZ,ZaE,ZaE]
def E5 [83]:#[nT,Zamm,ZbH]:=#[EB,ZaE,ZbH]
def EY (f:bH):#[nT,Zq7,ZaT]:=#[Ez,ZXz]
def E3 (f:bH):#[nT,Zq7,ZaE]:=#[Ez,ZY1]
def EZ (f:bH):#[nT,Zq7,ZbH]:=#[Ez,ZayB]
abbrev aA.inner:aA->Zb2
 | Zr9=>[f]
 | Zku=>Zr' fs
 | _=>[]
def pO [19][177]:bL bs (Zkt fs)↔Zayf:=by
 unfold bL;rw[aA.names,Cj];constructor
 ·exact fun h f hf w hw=>h w (aZM.mpr ⟨f,hf,hw⟩)
 ·intro h w hw
  refine ao (Zamh hw) fun f hf hw=>?_;exact h f hf w hw
def nV [19][473]:bL bs (Zr8 f)↔Zcv:=by
 unfold bL;rw[aA.names]
def kq [19][277]:bL bs (Zd1 w)↔w∈bs.map (·.w):=by
 unfold bL;rw[aA.names];exact⟨#[ge,h w aQi],fun h v hv=>#[nf,hv,h]⟩
def Pd [19]{f:bH}:bL bs (.pl f):=by
 unfold bL;rw[aA.names]
 exact fun w hw=>by cases hw
def zP [19][473](n:∀ w,f≠ZeN):Zcv↔∀ u∈f.inner,Zafh:=by
 cases f with
 | pl f=>exact⟨fun _ u hu=>(by cases hu),#[bF,Pd]⟩
 | name w=>exact ZoQ rfl (n w)
 | back f=>rw[nV];exact⟨fun h u hu=>#[nf,hu,h],#[ge,h f aQi]⟩
 | row fs=>rw[pO];exact⟨#[aU3,xH.mp],#[aU3,xH.mpr]⟩
mutual
theorem aA.row_len {bs:Zci}(ok:Zbdp):∀ f:aA,Zcv->ZDN->ZFN=ZDM
 | Zed,_,_=>#[bm,Zamd,aA.len]
 | ZeN,k,h=>by
  rw[aA.rowF,aA.len];rw[aA.len]at h;unfold lA iP at *
  cases e:Zlv with
  | none=>exact #[asW,k]
  | some x =>
   rw[e]at h;exact ok x Zvi h
 | Zr9,k,h=>by
  rw[aA.rowF,aA.len,List.length_reverse];rw[aA.len]at h;exact ZwD ok f (nV.mp k) h
 | Zku,k,h=>by
  rw[aA.rowF,aA.len];rw[aA.len]at h;exact Zami ok fs (pO.mp k) h
theorem aA.row_lenL {bs:Zci}(ok:Zbdp):#[qr,(Zayf)->ZaF0<=Zbz->#[dM,(ZwC (lA bs) fs),ZaF0]]
 | [],_,_=>#[ex,ZwC,Zl4]
 | Zfo,k,h=>by
  rw[aA.lenL]at h ⊢;rw[aA.rowL,aQl,ZwD ok f (k f aQi) Zaf,Zami ok fs (#[gc,k g #[dh,hg]]) Zaf]
end
def LQ {e:ZAm}:∀ [177][473],ZJq->ZY5<=ZKe
 | g::fs,f,h=>by
  rw[aA.lenL];rcases Zz7 with rfl | h
  ·lia
  ·have:=LQ (e:=e) h;lia
def uo {e:ZAm}:∀ [221][83],Zl4 e (Zsc i)<=ZKe
 | 0,fs=>#[dz,aZL,Zl4,Zcr]
 | _+1,[]=>ZaX
 | i+1,Zfo=>by
  rw[List.take_succ_cons,aA.lenL,aA.lenL];have:=uo (e:=e) i fs
  lia
open Classical in
noncomputable def cntF (fs:Zb2) (u:aA):Nat:=Zamg ZBx
def RC (len:Zu_)[83]:((Zr' fs).map fun u=>ZBd*Zrd).sum=(Zi5 len).sum:=Ed len (SD fs) fs fun f hf=>xH.mpr hf
open Classical in
theorem UQ {fs:Zb2}{u:aA}{c:Nat}(h:∀ g:ZauM,(∀ x,g x=Zad↔x=u.dt)->c=(Zi4 fs).countP g):c=ZBd:=by
 rw[h (#[cV,#[lJ,x=u.dt]]) (#[cV,decide_eq_true_iff]),Lu,List.countP_map];unfold cntF;refine Za'u fun f _=>?_
 show #[lL,ZoN=u.dt]↔#[lL,f=u]
 rw[decide_eq_true_iff,decide_eq_true_iff];exact⟨#[cb,ZaCK],#[cb,#[e0,e]]⟩
def UP [83](u:aA):ZBd<=Zek:=by unfold cntF;exact List.countP_le_length
open Classical in
theorem PU (fs:Zb2):#[bd,Zr',fs]<=Zek:=by
 have key:#[aye,#[bf,ZaS4,#[Xu,Zek]]]:=fun fs=>by
  induction fs with
  | nil=>exact fun acc=>ZaX
  | cons f fs ih =>
   intro acc;rw[aXY];have:=ih (Zkv acc f)
   have:#[bf,(Zkv acc f),ZC3+1]:=by unfold likeStep;split<;>simp
   rw[aQB]
   lia
 have:=key fs [];unfold once;simpa using this
def Jc:#[zR,#[abw,ZapN]=#[a4,l.sum]]
 | []=>rfl
 | Zlm=>by rw[aQv,aXC,aXC,Jc l];lia
inductive QL [12]:Zaa
 | mk [157][42](f:aA)[64](_:n<=9)(_:ZaCR)(_:#[ax2,Zgr->Zb_->ZaDZ->Za0 (bX n H') as f.inner->#[d9,l]])
inductive Mn (C cU:Addr)[56]:Zaa
 | mk (b:Addr)(A:BA)[30][246](_:vs=[Zai b,Zag w])(_:ZSb)(_:ZJ7)(_:∀ e,ZahF->#[b9,e.p,H])(_:ZaWd->#[jl,cU])
inductive EL (C cU:Addr)[42][56]:Zaa
 | mk [102](_:ZSb)[211](_:Zcv->ZAw)(_:ZaIe)
abbrev ND [320]:Zaa:=#[vR,Ziq->(∀ kv,o≠Zsd kv)->ZAI]
def TX [15][111]:ZuI:=#[ayg,s]
def FP [38]{d:Addr}[372]{o:HO}(h:#[s1,ZY9]):ND H #[bA,d,o]:=fun a u e n=>by
 rw[ai (fun z=>by rw[z,h]at e;cases e;exact Zaaa)];exact e
def ND.trans {H H' H2:Hp}(s:ZuI)(t:ND H' H2):ND H H2:=#[aTZ,s]
def bX.nd [15][71][95](s:ZuI):ZJ3:=h.mono fun _ _ z=>s _ _ z fun _ q=>nomatch q
def dh.nd [406](s:ZuI):ZabY:=by
 obtain⟨as,h1,p⟩:ao:=h;exact ⟨as,(s _ _ h1 (fun _ q=>nomatch q)),(Paired.mapP p fun a q z=>s _ _ z fun _ q=>nomatch q)⟩
structure Wx [150]:Zaa where
 ob:Zah8
 f2:ZaS'
def Wx.mono [334](x:Zabr)[111]:Wx C H' b A bs:=⟨ZIS,ZaA9⟩
structure Wn [150]:Zaa where
 ob:Zah8
 f3:ZaVz
 rw:Zbdr
 nd:(bs.map (·.w)).Nodup
def Wn.mono [334](x:Zabs)[111]:Wn C H' b A bs :=
 ⟨ZIS,ZaA_,#[PF,#[fc,ZaPL,ZST]],x.nd⟩
def Lh {C:Addr}{H H':Hp}{b:Addr}{A:BA}{bs:Zci}{x:BE}(B:ZSb)(nd:ZuI)(hw:x.w∉bs.map (·.w))(f1:#[bO,Zez,#[as7,(ZA9,ZaN x.p)]])
  (f2:#[bO,ZeA,#[asg,(ZA9,Zau x.n)]]) (f3:#[bO,ZhA,(.dK ((ZPE #[cb,ZWv])++#[tj,Zm8,[(ZA9,ZaN x.l)],[]]))])
  (fg:bX 9 H' x.p x.f) (rw':Zm8->dh H' x.l x.r/\ZaJj) (ln:ZR'):ZaIA:=by
 refine⟨nd _ _ B.ob (fun _ q=>nomatch q),#[GL,f1],#[GL,f2],?_,?_,?_,?_,Zvg,B.d12,B.d13,B.d23⟩
 ·rw[f3,aXQ,aQt]
  by_cases c:Zm8
  ·rw[Zuq,List.filter_cons_of_pos (by unfold lM;exact aQe c)];rfl
  ·rw[Zum,List.filter_cons_of_neg (by unfold lM;rw[aQg c];decide)];rfl
 ·intro e he
  rcases ZEb with z | z
  ·exact (B.fg e z).nd nd
  ·rw[Zdd];exact fg
 ·intro e he h
  rcases ZEb with z | z
  ·exact#[fc,#[aO1,0].1.nd nd,ZaO1]
  ·rw[Zdd]at h ⊢;exact rw' h
 ·rw[aQt]
  refine ZPa #[aFx,B.nd,?_];rw[List.map_singleton,aQj]at hb;subst hb e;exact hw ha
inductive zi [55][42][12]:Zaa
 | mk [102](_:Zabr)[211](_:Zcv)(_:#[UO,ZaXV])
inductive uA [55][42][12]:Zaa
 | mk [102](_:Zabs)[211](_:Zcv)(_:ZDN)(_:Za'O)
inductive Gq [402]:Zaa
 | mk (b dx:Addr)(_:#[nL,b])(_:#[cf,ZAJ])(_:∀ (A:BA)(H':Hp),(#[vS,Ziq,b,ZAI])->#[WD,[]]->#[a_,Zez]->#[a_,ZeA]->#[a_,ZhA]->Zjq)
inductive DO where
 | done | bad | taken | unknown
open Classical in
noncomputable def defO (bs:Zci) (w:Str) (f:aA):DO:=if ZaPq then .bad else if w∈bs.map (·.w) then ZPG else #[axe,Zcv,ZPH]
abbrev UB [150][246](f:aA)[157](R:ZjU):Zaa:=∀ (x:BE)(H':Hp),x.w=w->x.f=f->x.p=p->ZacM->ZagC->ZaIA->(#[vR,Ziq->ZaBK->ZaBL->a≠ZhA->ZAI])->R H'
inductive C7 (C cU cB cT:Addr)[56]:Zaa
 | mk (b p:Addr) (A:BA) (bs:Zci) (w:Str) (f:aA) (h_0:#[aVL,b]) (h_1:ZSb) (h_2:ZJt) (h_3:Zuy) (h_4:ZJ7) (h_5:ZR')
  (h_6:Zzm->UB C H b A bs w f p (Q ZaK)) (h_7:ZgN bs w f=.bad->#[jl,cB]) (h_8:ZgN bs w f=ZPG->#[jl,cT]) (h_9:ZgN bs w f=ZPH->#[jl,cU]):C7 C cU cB cT vs H Q E
structure Ys [410](cS cU ck cB cT kd:Addr):Zaa extends ZD K mg cS where
 f:Zn K mg ck
 mp:∃ u,#[av,mg Za'y,u]/\bJ (Zah Zbz) u
 ml:ZbbZ
 mt:Zbb1
 mkd:ZaOs
 kd:#[HE,#[adj,kd,#[asm,bK (ZPI ZaC) ZDm]]]
 eU:fR K cU
 mU:#[bW,Za'z,cU]
 eB:fR K cB
 mB:#[bW,Za'A,cB]
 eT:fR K cT
 mT:#[bW,"Taken",cT]
 bb:Za8c
 tb:#[a74,cT,cB]
 tt:Za8d
 ub:Za7_
 ut:#[a74,cU,cT]
 uu:Za8a
abbrev UD [5][186]:Zaa:=#[atn,ck,ZfD,(Gq ck),ZfD]
def VI [61]{ck:Addr}{p pos:Pos}(M:#[Mu,UD,ck])(U:Zn X.K ZcA ck)(hr:ZK5)(hg:Gl X ZPu):#[aht,ZPu,ck,(Gq ck)]:=by
 revert M;intro a_;obtain⟨fI,fd,M,G,hb⟩:bM:=a_;exact #[aif,U.mF]
#print Wz
namespace L2
open PySem PySem.Spec PyProof.Rows
def qC [61]{x j p}[451]{t:TA}(hr:ZJj):PA X (ZwE ZIP j p::es) (oE (tC (Zag x)) t):=aB ak hr rfl
#print L2
namespace Wz
open PySem L2
def Po [277]{c:Nat}:(w++⟨#[c]⟩:Str).length=Zayz:=by
 rw[eI,fE,aQl,<-eI];rfl
def qv {b:Bool}{p q:Zaa}(h1:b=Zad->p)(h2:b=Zay->q):if b=Zad then p else q:=by
 cases b
 ·exact au (h2 rfl)
 ·exact aQ (h1 rfl)
def qy:∀ a b:Zb2,ZcP (a++b)=ZcP a++ZcP b
 | [],b=>#[b6,ZcP]
 | f::a,b=>by rw[aZi,ZcP,ZcP,qy a b,aXf]
def HV [221][83]:#[hM,ZcP,Zsc,i]<=ZaNu:=by
 conv=>rhs;rw[<-Zamj i fs,qy,aQl]
 lia
inductive IZ [12]:Zaa
 | mk [157][42][431](_:(∃ g,f=.pl g)\/ZadV)(_:∀ H' k,Zb_->Q (.bl k) H')
inductive uz [42][12]:Zaa
 | mk [157][431](_:Za'B<=ZbE)(_:#[a'M,#[hT,f.names.map]])
abbrev Fb [32](t:Addr)[460]:Zaa:=∃ p,#[mU,#[z8,x.2]]/\bX x.2 H p x.1
abbrev rm [460]:Zaa:=1<=x.2/\x.2<=7/\(x.2=1->(∃ g,x.1=.pl g)\/∃ w,x.1=Zd1 w)
abbrev Tu [460]:Nat:=if Zqa then 20 else Zayh
abbrev Dl:ZaHb
 | []=>0
 | Zcz=>Tu x+Zu4
abbrev Rv [32](s:Addr)(xs:Zla):Zaa:=∃ ts:Zei,#[aP,s,ZI6]/\Zahm
def Fb.mono [15]{t:Addr}[264](h:Fb H t x)[207]:ZaSb:=by
 obtain⟨p,e1,e2⟩:ao:=h;exact ⟨p,ZZY,Zamk s⟩
def yf:∀ a b:Zla,Dl (a++b)=Dl a+Dl b
 | [],b=>#[f8,aZR,Dl]
 | x::a,b=>by rw[aZi,Dl,Dl,yf a b];lia
set_option tactic.hygienic true
def rm.few [264](h:ZpX):Zayh<=Tu x:=by
 unfold Tu;split
 ·rename_i e
  rcases ZtU e with ⟨g,z⟩ | ⟨w,z⟩
  ·rw[z,aA.names];simp
  ·rw[z,aA.names];simp
 ·exact ZaX
set_option tactic.hygienic false
def zm:∀ xs:Zla,ZS0->(aA.namesL (xs.map (·.1))).length<=Zu4
 | [],_=>#[dz,Za'D,ZcP,Zcr]
 | Zcz,h=>by
  have ih:=zm xs ZRI;have:=#[JV,0].few;rw[aQv,aA.namesL,aQl,Dl]
  lia
def Pa [290][307]:∃ ps:Zei,Za0 (fun t p=>∃ n:Int,#[mU,#[z8,n]]) ts ps/\Paired (bX 7 H) ps (xs.map (·.1)):=by
 induction h with
 | nil=>exact ⟨[],Zan,Zan⟩
 | cons a _ ih =>
  refine ao (ih #[ape,ok]) fun ps p1 p2=>?_;obtain⟨p,e1,e2⟩:ao:=a;exact ⟨ZWX,ZaB ZayS p1,ZaB (e2.le (ok _ aQi).2.1) p2⟩
abbrev Ov (s:Addr)[320]:Zaa:=#[vS,Ziq,s,ZAI]
def BQ {s:Addr}[15](h:Zb_):Zada:=#[ayg,h]
def Ov.trans {s:Addr}{H H' H2:Hp}(h:Zada)(t:Ov s H' H2):Ov s H H2:=#[aTZ,h]
def AO {s:Addr}[38]{o:HO}:Ov s H #[bA,s,o]:=fun a u e n=>#[ch,n,e]
def Ov.tup {s:Addr}[15][461](h:Zada)(e:#[aP,s,ZazF]):ZL4:=fun b ys z=>h b _ z fun q=>by rw[q,e]at z;cases z
def QF [15]{s t:Addr}[182][39][264](pr:Zahm)(up:ZL4)(hs:#[bO,s,ZaDI])(it:ZaSb):Rv H' s (xs++[x]) :=
 ⟨ts++[t],#[ey,hs,aQt],(bN #[j6,pr,ZwF up] (ZaB it Zan))⟩
def PR [39][264](h:∀ y∈xs,rm y)(hx:ZpX):#[kb,xs++[x],rm y]:=fun y hy=>by
 rcases ZIJ with z | z
 ·exact h y z
 ·rw[Zdd];exact hx
def zW [83]:#[zN,#[bd,ZcP,ZabI]=k*ZaNu]
 | 0=>by rw[Za'E,Za'F,ZcP,Za'G];rfl
 | k+1=>by rw[aXn,aXp,qy,aQl,zW fs k,Za'H,aZ0]
def Aa [132][276](p:ZLD):#[zN,Za0 F #[R7,l] #[R7,m]]
 | 0=>Zan
 | k+1=>by rw[aXn,aXn,aXp,aXp];exact bN p (Aa p k)
def yN [318](f:Zab3)[448]:#[zN,#[R7,ZaBm]=(#[R7,l]).map f]
 | 0=>rfl
 | k+1=>by rw[aXn,aXn,aXp,aXp,aQt,yN f l k]
def Jj:#[aU4,Dl,20]
 | [],_=>rfl
 | Zcz,h=>by
  rw[Dl,Jj ZRI,aQB];unfold Tu;rw[aQd ZJV]
  lia
def Ck:∀ [39],ZS0->ZaEb->(aA.namesL (xs.map (·.1))).length<=xs.length
 | [],_,_=>#[dz,Za'D,ZcP,ZaX]
 | Zcz,ok,h=>by
  have ih:=Ck (#[RH,ok]) ZRI;rw[aQv,aA.namesL,aQl,aQB];rcases (ok x aQi).2.2 (h x aQi) with ⟨g,z⟩ | ⟨w,z⟩
  ·rw[z,aA.names];simp only[List.length_nil];lia
  ·rw[z,aA.names];simp only[aQW];lia
def Wl [39]{k d:Nat}[307](hd:2<=d)[308]:Tu (Zkt (List.replicate k (xs.map (·.1))).flatten,d)<=Zu4:=by
 unfold Tu;rw[#[auv,¬ d=1]]
 show #[aC9,Zaml]
 rw[aA.names,zW];rcases hk with rfl | ⟨hk,h1⟩
 ·rw[Nat.one_mul];exact ZaLe
 ·rw[Jj h1]
  exact aZK hk (Ck ok h1)
def BY [80][448][285]:#[aKA,l,Zb8]:=by
 rw[List.length_flatten,List.map_replicate,List.sum_replicate_nat]
noncomputable abbrev GQ:=Zeh×Zeh×(aA×Nat)
abbrev UE [32](u:GQ):Zaa:=#[aP,u.1,#[cK,[ZYe,Zah Zt2]]]/\bX Zt2 H ZyN ZUF
def UE.mono [15]{u:GQ}(h:ZWW)[207]:UE H' u:=⟨ZaA',h.2.mono s⟩
def R3 [290]:∃ us:ZYb,ts=us.map (·.1)/\xs=us.map (·.2.2)/\#[se,ZWW]:=by
 induction h with
 | nil=>exact ⟨[],rfl,rfl,(fun u hu=>nomatch hu)⟩
 | cons a _ ih =>
  obtain⟨us,rfl,rfl,h⟩:aK:=ih;obtain⟨p,e1,e2⟩:ao:=a;exact #[cC,((_,p,_)::us),rfl,(#[i6,(ZfZ hu).elim (#[cb,by rw[e];exact⟨e1,e2⟩]) (h u)])]
def AR [38]:∀ {us:ZYb},ZaJe->Paired (Fb H) (us.map (·.1)) (us.map (·.2.2))
 | [],_=>Zan
 | Zq_,h=>ZaB #[bJ,(h u aQi).1,ZaL3] (AR ZaMo)
def Lx [38]{M:Nat}:∀ {us:ZYb},ZaJe->(#[se,Zt2<=M])->Paired (bX M H) (us.map (·.2.1)) (us.map (·.2.2.1))
 | [],_,_=>Zan
 | Zq_,h,k=>ZaB (#[aL3,0].le (k u aQi)) (Lx (ZaMo) #[PJ,k v Zauy])
def MQ {K:PySem.W.Frag}{te:TE}{Qf:ZjU}{lr q:Addr}{α:Zj0}(g:α->V){rs:ZdP}{rest:L2.St}{H:Hp}(hq:Zuu)(h1:ZaVy)(hlen:ZaCu)
  (ht:#[a2I,∀ H5 b,aG HK H5->Q' (.bl b) H5]) (k:∀ (HK:Hp)(bs:ZzU),Zfi->ZaIB->Qf HK) :
  ZaLH:=by
 refine #[a3o,#[dq,∃ (v:Zgj)(bs:ZzU),σ=v::ZdX/\Zfi/\ZaIB/\ZrL=i],(bS Zac [] rfl (ah hq) ac rfl),#[js,ZLO,#[nm,h1]]]
 ·intro i y σ HK hi a_;obtain⟨v,bs,rfl,t1,x_,bl⟩:bB:=a_
  obtain⟨r,hr0,rfl⟩:ao:=ZbL;have hil:ZazA:=ZaAy;refine #[a3s,fun H5 b s5=>lG _ ZWu ZaEo _ ⟨bs++[b],rfl,ZasA,?_,#[ex,aQl,bl]⟩];rw[ac,aQt];rfl
 ·intro σ HK a_;obtain⟨v,bs,rfl,t1,x_,_⟩:bB:=a_
  exact k HK bs t1 x_
def uk [19][473]:(f.names.map fun z=>decide (z∈bs.map (·.w))).all id=true↔Zcv:=by
 unfold bL;rw[List.all_map,aQL];exact⟨#[aU5,aQJ],#[aU5,aQe]⟩
def Jy [19][305]{g:BE->V}:#[fY,((yz bs z).map g)]=decide (z∈bs.map (·.w)):=by
 cases e:yz bs z with
 | none=>rw[aQg (ZPK e)];rfl
 | some x=>rw[aQe (Zl0 ⟨x,Zvi,ZaL1⟩)];rfl
def Mh [6][38][223]{ws:Zbp}(h:#[aP,l,Zt0]):RD K H 1 Zm3 (.sq Zay (Zi1 fun w=>#[ym,w])):=by
 refine RD.lst (Zbh h) ?_;clear h
 induction ws with
 | nil=>exact Zan
 | cons w ws ih=>exact ZaGw
structure Yt [410](cS cU ck cB cT kd cL:Addr):Zaa extends Ys K mg cS cU ck cB cT kd where
 eL:fR K cL
 mL:#[bW,Za'I,cL]
 lu:Za7'
 ll:Za8e
def vL [349]:ZaYo:=by
 unfold iD at h;rw[aXb,aXb]at h;exact aQJ h.1.2
def PK [349]:Zuy:=by
 unfold iD at h;rw[aXb]at h;refine Bj Zij;have:=#[Vn,h.2];unfold fV at this;have:=Zu9
 lia
def Sb {d:Int}(h0:0<=d)(h:d<26):∃ c,Zaa1/\GM ZaU1 d=Zab c:=by
 have e:ZaU1=ZaDt (·+97):=Zao
 obtain⟨n,rfl⟩:=aXU h0;refine ⟨n+97,(by unfold fV;exact ZZc),?_⟩;rw[e];refine aR (j:=n) ?_;rw[aQI,ZZd];rfl
def Nu [277]{c:Nat}[376](h:Zaa1):(w++⟨#[c]⟩:Str).cps.toList.all fV=true:=by
 have e:(w++⟨#[c]⟩:Str).cps.toList=Za_D++[c]:=fE w ⟨#[c]⟩;rw[e,List.all_append,a];simp[h]
def Xj [277][376](l:Zf_<=12)(h:w∉(#[er,""]::ZwG)):Zhb:=by
 have h0:w≠"":=ZaY_;have h1:w∉ZwG:=#[cb,h #[dh,e]];unfold iD;rw[aQg h1,a,aQe (#[bn,ZaYo,#[ne,l]])]
 ·rfl
 ·by_cases z:Zf_=0
  ·refine #[oR,?_,h0]
   have e:w.cps = #[]:=Za'J z
   cases w with
   | mk cps=>exact aXa Str.mk e
  ·lia
inductive Uh [12]:Zaa
 | mk [468](_:#[aMK,Zhb])
def iQ.l [247]:Zabr:=⟨Zkx,B.f2⟩
def iQ.r [247]:Zabs:=⟨Zkx,B.f3,B.rw,B.nd⟩
inductive QU (C cU cL:Addr)[56]:Zaa
 | mk (b p:Addr) (A:BA) (bs:Zci) (f:aA) (h_0:ZaKg) (h_1:ZSb) (h_2:ZJt) (h_3:ZaIe) (h_4:Zcv->ZDO->#[jl,cL])
  (h_5:Zcv->ZDN->Za'O):QU C cU cL vs H Q E
structure jG [32][399][30](tv:ZeO):Zaa where
 h:#[s1,#[FH,(Zxh,ZsT)]]
 r:#[sb,#[aTE,tv e.w=Zlb/\dh H l e.r/\Zbdq,tv e.w=ZaK]]
def jG.mono [15][47][111]:Zagc :=
 ⟨ZaA8,fun e he=>⟨fun h=>(let ⟨l,e1,e2,e3⟩:=ZLY h;⟨l,e1,Zamk s,e3⟩),ZaeW⟩⟩
def jG.get [38][47][246]:fD H d ZjT ((yz bs w).map #[cb,ZsT]):=by
 rw[<-j8];exact #[pD,ZmH,x.h]
def jG.okr [38][47]:Zbdp:=fun e he h=>(let ⟨_,_,_,e3⟩:=ZLY h;e3)
inductive wf [42][12]:Zaa
 | mk (p d:Addr) (bs:Zci) (tv:ZeO) (f:aA) (h_0:vs=[ZcF,Zni]) (h_1:ZFh) (h_2:ZGi) (h_3:Zcv) (h_4:ZDN->#[a'K,Zb_->dh H' l ZDk->#[d9,l]])
  (h_5:ZDO->ZAw):wf n vs H Q E_
def jG.snoc {H H':Hp}{d:Addr}{bs:Zci}{tv:ZeO}{x:BE}{v:V}(td:ZFh)(nd:ZuI)(hw:x.w∉bs.map (·.w))(h:#[bO,d,#[EY,ZFn,(ZA9,v)]])
  (r:(Zm8->∃ l,v=Zlb/\dh H' l x.r/\ZaJj)/\(ZaDi->v=ZaK)):jG H' d ZGl #[bC,if z=x.w then v else tv z]:=by
 have ne:#[sb,(#[zS,e.w,ZsT])=tv e.w]:=#[rZ,aQc #[bk,hw (Zl0 ⟨e,he,q⟩)]];refine ZaDQ
 ·rw[h,aQt]
  congr 3
  ·exact aXv #[rZ,#[e0,ne e he]]
  ·rw[List.map_singleton,Zaz]
 ·rcases ZEb with z | z
  ·show #[aTE,(#[zS,e.w,ZsT])=Zlb/\_,(#[zS,e.w,ZsT])=ZaK]
   rw[ne e z];exact⟨fun h=>(let ⟨l,e1,e2,e3⟩:=(td.r e z).1 h;⟨l,e1,e2.nd nd,e3⟩),(td.r e z).2⟩
  ·rw[Zdd]
   show (Zm8->∃ l,(#[zS,x.w,tv x.w])=Zlb/\_)/\(Zbz<x.n->(#[zS,x.w,tv x.w])=ZaK)
   rw[Zaz];exact r
def uw [191][216]:∀ [315],ZaV5->Zry<=k->ZoG<=1 ->
  (forIn Zbc' (arr,free) (StrLaws.occBody x ⟨#[c]⟩ x.length 1)).run.fst.toList=Za_n++(Zbda (ZaFR)).take (1-ZoG)
 | 0,k,arr,free,_,_,_=>ZaU
 | m+1,k,arr,free,h,hf,ha=>by
  rw[List.range'_succ,aZu,aXG];have so:=ZaO6;unfold StrLaws.occBody
  by_cases z:ZaCI
  ·have s2:=ZayP
   rw[ZKG]
   by_cases a1:ZoG<1
   ·rw[#[a1G,a1]]
    have ih:=uw x c m Zdp ZaBx (k+(⟨#[c]⟩:Str).length) Zaf Za8 Za_8;refine Zaj'
    have e0:ZoG=0:=Zae
    have e1:arr = #[]:=Za'J e0;rw[e1];simp
   ·rw[aQc (#[bk,a1 #[pN,0].1])]
    have e0:ZoG=1:=Zae
    have ih:=ZaUd;refine Zaj';rw[e0];simp
  ·rw[ZaZI,ZaHB]
   exact ZaUd
def EC [191][216]:Builtin.Str.occurrences x ⟨#[c]⟩ 0 x.length 1=#[aNR,0].take 1:=by
 rw[StrLaws.occ_eq,uw x c _ 0 #[] 0 Zaf Za8 ZaG];have:=Za2R;rw[show #[bdb,0,(ZF'-0)] (ZaFR)=ZaGs by simpa using this];simp
abbrev cu [216][34]:Zbr×Zbr×Zbr:=match ZAF with | []=>(l,[],[]) | i::_=>(ZaCq,[c],ZcO (i+1))
abbrev T6:ZBa:=fun x xs H Q=>∃ (z:Str)(c:Nat),x=ZeG/\xs=[Zag ⟨#[c]⟩]/\ZbN<=Zv3/\#[jZ,#[cK,ZaWz]]
def J5 (x y:Str)(t u:Tok)(hy:#[o_,Zgd,0])(hsz:#[oj,Ze4]) :
  Meets (Builtin.«str.partition» #[d7,[ZJU,Zafg]]) (fun _ R s =>
   R (.ok (Zf1 Zdl))
    (match Zbdg with
      | i::_=>#[bd0,ZpE+1,[#[Wx,#[Z8,0,i]],Zafg,Zag #[Z8,ZaHx,Ze4] (ZbX+1)]]
      | []=>#[bd0,ZpE,[ZJU,ZaIo,ZaIo]])):=by
 obtain⟨bv8,bk4⟩:=partition_tree x y t u;refine ZalS fun prog w A R s h=>?_;rw[bk4,hy]
 show wpAny _ _ (match Zbdg with
    | i::_=>(do ret (<-Za'P [<-#[aVB,0,i],Zafg,<-#[aVB,ZaHx,Ze4]]))
    | []=>(do rule "str.partition.not-found";let empty <-mkStr Zht;ret (<-Za'P [ZJU,empty,empty]))) _ _ s
 revert h
 cases Zbdg with
 | nil =>
  intro h;exact #[al',(Zamn ZaW' ZaG)]
 | cons i r =>
  intro h;exact aQa (Zamn (aQa (Zamn ZaW' (aQZ ZaF5 hsz))) (aQZ ZaF5 hsz))
def So [61]:WH X "str.partition" T6:=by
 intro pins s σ H x xs v us Q I rx rv h;obtain⟨z,c,rfl,rfl,hz,q⟩:bB:=h;obtain⟨t,rfl⟩:=rx;obtain⟨u,rfl,ru⟩:ao:=i8 rv;obtain⟨t2,rfl⟩:=ru;have sl:Za9b:=aQU;have q:=#[ud,q,ZsU];refine aZm F.slot_str_partition ZajS F.entry_str_partition (F.args_str_partition_2 _ _) (J5 z ⟨#[c]⟩ t t2 Zak0 Zaf) ?_;rw[EC]
 have fin:∀ [292][88][285],ZnR->ZYI->vs=ZaWz->#[bd1,Za7j]:=fun vs us k r hl e=>by
  have IL:=I.laid (t':=k) (a:=s.heap.objs.size) (o:=ZcJ vs) (h':=Za7j) (ZmY) Za8
   #[mx,_,_,_,(ZcJ _),⟨hl,us,r,ZIM⟩]
  exact az Zdl _ IL rfl #[aM,e,q]
 cases hp:j9 c Zeo with
 | nil =>
  exact fin #[Tc,z,Zht,Zht] _ _ ZaXY ZWz (by
   have e:cu c Zeo=(Zeo,[],[]):=by unfold cu;rw[hp]
   rw[e]
   rfl)
 | cons i r =>
  exact fin [Zag (ZPL z 0 i),Zag ⟨#[c]⟩,Zag (Builtin.Str.strSub z (i+(⟨#[c]⟩:Str).length) z.length)] _ _ ZaXY ZWz (by
   have e:cu c Zeo=(Za'Q i,[c],Zamo (i+1)):=by unfold cu;rw[hp]
   rw[e]
   have e1:ZPL z 0 i=#[ji,(Za'Q i)]:=by unfold Builtin.Str.strSub;congr 1;apply Array.ext';simp
   have e2:Builtin.Str.strSub z (i+(⟨#[c]⟩:Str).length) z.length=#[ji,#[ps,Zamo]]:=by
    unfold Builtin.Str.strSub
    congr 1
    apply Array.ext'
    show (z.cps.extract Zce Za'R).toList=_
    simp;exact aXr (ZaU)
   rw[e1,e2])
def L9 {X:Cx}{o e:Expr}{to te:TE}{apos h_:Pos}(ho:Zu8)(he:Zhg)(u_:#[a5N,Za'S]:=by rfl)
  (aq7:Zaq9:=by rfl)
  (D_:Zlt:=by rfl) (hs:ZEi:=by rfl) (z_:ZanG (·.1)=false:=by rfl) :
  #[EO,Za'S,[e],(XR X.K Zf2 T6 to (oE te rD))] :=
 #[aih,PySem.F.slot_str_partition,PySem.F.type_str_partition,So]
def KY [216]:#[zR,ZaAR]
 | []=>Za_C
 | Zlm=>by
  rw[gn]
  by_cases z:a=c
  ·rw[ZeM];simp
  ·rw[Zec];cases ZfS<;>simp
def xP [216]:#[zR,j9 c l=[]↔#[bf,ZaB7,1]]
 | []=>by simp[j9,uN]
 | Zlm=>by
  have ih:=xP c l;have ne:=KY c l;rw[kz,gn]
  by_cases z:a=c
  ·rw[ZeM,ZeM]
   cases h:ZfS with
   | nil=>exact ZaGn
   | cons p ps=>simp
  ·rw[Zec,Zec]
   cases h:ZfS with
   | nil=>exact ZaGn
   | cons p ps=>rw[h]at ih;simpa using ih
def Iw [216]:∀ {l p:Zbr}{ps:ZabB},uN c l=Ziv->#[u1,0].1=p/\#[u1,0].2.1=(#[fL,ps,[],[],[c]])/\(ps≠[]->uN c #[u1,0].2.2=ps)
 | [],p,ps,h=>by
  cases h;exact #[pn,rfl,ZazX]
 | Zlm,p,ps,h=>by
  rw[gn]at h
  by_cases z:a=c
  ·rw[ZeM]at h
   cases h
   have e:cu c ZjK=([],[c],l):=by unfold cu;rw[kz,ZeM];rfl
   rw[e,aQc ZaB8];exact #[pn,rfl,ZjS]
  ·rw[Zec]at h
   cases hs:ZfS with
   | nil=>exact #[oR,hs,ZaB8]
   | cons q qs =>
    rw[hs]at h;cases h;refine eJ (Iw c hs) ZHM
    have e:cu c ZjK=(a::#[u1,0].1,#[u1,0].2.1,#[u1,0].2.2):=by
     unfold cu;rw[kz,Zec];cases ZAF<;>rfl
    rw[e];exact ⟨#[nw,i1],i2,i3⟩
def Tj {x y:Str}(h:Zl2=Za_y):x=y:=by
 obtain⟨⟨l⟩⟩:=x;obtain⟨⟨m⟩⟩:=y;have h:l=m:=h;rw[h]
def Kr {z w0:Str}{ws:Zbp}(h:ZaTU):#[k2,(cu 32 Zeo).1]=w0/\#[k2,(cu 32 Zeo).2.1]=(if ws=[] then Str.empty else ⟨#[32]⟩)/\((Builtin.Str.occurrences ZaDn ⟨#[32]⟩ 0 #[bc,ZaDn] 1).isEmpty=true↔Zkc<=1):=by
 have e:=wo (c:=32) ZaG z;rw[h,aQv]at e;refine eJ (Iw 32 ZCw) ZHM;refine #[cg,(Tj (by rw[<-i1])),?_]
 ·rw[i2]
  cases ws with
  | nil=>rfl
  | cons a l=>rfl
 ·rw[EC,List.isEmpty_iff]
  show #[a1e,_]
  rw[show #[a1e,j9 32 Zy4=[]] by cases j9 32 Zy4<;>simp,xP]
  cases ws with
  | nil =>
   have e0:Zy4=[]:=by
    unfold cu at i2 ⊢
    cases hp:j9 32 Zeo with
    | nil=>rfl
    | cons i r=>rw[hp]at i2;cases i2
   rw[e0];simp[uN]
  | cons a l =>
   rw[i3 (ZaU)];simp
def bA.noins {C:Addr}[38][112][105]{b C' dx:Addr}[347](h:ZZt)(e:#[cf,#[hP,C',fs]]):False:=by
 have n1:b≠A.w:=dU e S.w (by intro z;cases z);have n2:b≠A.h:=dU e S.h (by intro z;cases z);have n3:b≠A.c:=dU e S.c (by intro z;cases z);obtain⟨as,hd,_⟩:=S.d;have n4:b≠A.d:=dU e hd (by intro z;cases z)
 have n5:ZazI:=fun z=>by
  obtain⟨i,hi,e'⟩:=aX1 z;obtain⟨y,_,q⟩:=Zaqr;rw[e',e]at q;cases q
 simp[HA.fp,n1,n2,n3,n4,n5]at h
structure EA where
 dx:Addr
 x:Addr
 kp:Addr
 bk:Addr
abbrev Jq (h k b:V):Zpa:=[ZzQ,(ZhB,k),(ZoW,b)]
def Zu:#[AM,ZhB]:=Zao
def Zv:#[AM,ZoW]:=Zao
def Zw:#[jt,ZhB,ZoW]:=Zao
section
variable {h k b:V}
def TF:cw ZhB k (cw ZbG h [])=([ZzQ,(ZhB,k)]:Zpa):=by
 simp only[cw];rw[aQc Zu]
def He:cw ZoW b (cw ZhB k (cw ZbG h []))=Jq h k b:=by
 rw[TF];unfold Jq;simp only[cw];rw[aQc Zv,aQc Zw]
def RM:#[h1,ZMg,ZbG,h]:=by
 rw[<-He,aH,aQc Zv,aH,aQc Zu,aH,Zaz]
def uh:#[h1,ZMg,ZhB,k]:=by
 rw[<-He,aH,aQc Zw,aH,Zaz]
def Eh {m:Str}(q:¬ m=ZbG/\¬ m=ZhB/\¬ m=ZoW):#[fw,ZMg] m=Zac:=by
 rw[<-He,aH,aQc q.2.2,aH,ZYv,aH,ZYu];rfl
#where
abbrev oH:wq:=⟨Zac,0,Zac⟩
def EB [470](m:Int):Za'T d m=oH:=wq.idle rfl
structure f8 [151][181]:Zaa where
 ob:ZMD
 ki:On c ck H Zsf D oH B st
 px:D.p=A.x
def f8.mono [407][78][40](m:Zb_):ZK2:=⟨m _ _ ZiX,x.ki.mono m,x.px⟩
def f8.hall [388][40]:#[Mn,A.x]:=x.px▸x.ki.hall
abbrev Do [151](w_:eG)(H':Hp):Zaa:=∃ B',f8 c ck ze H' e A D B' w_/\Kp Zdg H H'/\(Zax_)/\ZuH
def U2 [388][40]:e≠Zsf/\e∉Zdg:=by
 refine⟨ZfO,ZfO⟩
 ·have q:=x.ob
  rw[z,x.ki.kp.ob]at q;injection q with q;injection q with _ _ q;have r:#[h1,(TQ D oH),Zhx,_]:=LM;rw[q,ZuN]at r;cases r
 ·exact x.ki.hall.noins z ZiX
def Si [407]{st w_:eG}{d:bc}{m:Int}[40](mv:#[a2U,(Za'T d m)]):Zaes:=by
 rw[EB]at mv;obtain⟨B',h1,h2,h3,h4,h5⟩:qq:=mv;obtain⟨n1,n2⟩:=U2 x;refine cY B' ⟨h3 _ _ ZiX n2 n1,⟨h2,h1,ZfO,fun ps e=>by cases e⟩,x.px⟩ (fun b o eb n=>?_) h4 h5
 ·rcases h4 _ z with y | y
  ·exact x.ki.kB y
  ·rw[x.ki.kp.ob]at y;cases y
 ·by_cases z:b=Zsf
  ·rw[z]at eb ⊢
   rw[x.ki.kp.ob]at eb;rw[h2.ob];exact eb
  ·exact h3 b o eb n z
structure WB [410](ze:Addr):Zaa where
 cl:Jn K ze
 nH:gf K ze ZbG
 nK:gf K ze ZhB
 nB:gf K ze ZoW
 mE:#[bW,ZPM,ze]
abbrev linesD:ZIA:=[(Zcn,2),(Zhu,2),(Zc_,3),(Zhx,3),("step",1),(Zlx,1),(Zrq,2),(Zl5,1)]
abbrev xX (r:Zbq):Str:=Zr4 (Za9 " ") (ZoX gV)
abbrev tp [302]:Str:=if rs=[] then "none" else Zr4 (Za9 ", ") (ZgM xX)
abbrev Su (o:Fc):Str:=#[eD,Zamp]++Ga o
inductive IY [426][12]:Zaa
 | mk [26][64][20](_:ZaLB)
inductive Ag [12]:Zaa
 | mk [103](_:(#[ue,Zir]))(_:#[aww,W])
structure vp [151][181]:Zaa where
 ev:ZaFF
 ft:Zzk
 hg:ZnW
 wl:ZabT
 sm:#[ue,Zg9]
#print Wz
namespace L2
open PySem PySem.Spec PyProof.Rows
def VN [61]{b:Str}{j:Nat}{e1 e2:Expr}{t1 t2:TE}{p1 p2 p3 pos:Pos}(h1:ZaNx)(h2:Zafd)(hb:Za'U<=10) :
  #[ad3,[#[aob,e1,p1],ZwE ZV' j p2,#[aob,e2,p3]],(#[ai5,t1,#[aMI,#[m_,t2,∃ i:Int,y=ZdN/\Zajv/\#[hR,ZaVv,H2]]]])]:=by
 intro pins s σ H Q I hq;have sl:Za9b:=aQU;have hsb:PE X #[y2,ZV',p2] (tC (Zag b)):=ak;refine ZZo
 show #[aKc,(#[aoa,e1,p1]::ZaTd::ZaSA::[])]
 refine #[bdP,#[dj,h1,hq],fun u1 s1 zz=>?_];obtain ⟨x1,H1,I1,rx1,z,ez,hz,q⟩:=zz;subst ez;obtain⟨tk,rfl⟩:=rx1
 have e0:Zht++z=z:=by cases z with | mk c=>show (⟨#[]++c⟩:Str)=⟨c⟩;rw[Array.empty_append]
 have fin:∀ (s3:Shared),#[b0,H1,s3]->#[oj,#[bc,(Zht++z)]]/\#[xc,(ZOt (Zht++z) [ZaTd,ZaSA]),ZRA,s3]:=fun s3 I3=>by
  rw[e0];refine #[mO,#[aBn,(hsb Zam s3 σ H1 (#[C2,v=Zag b/\H'=H1]) I3 Zgz),fun u4 s4 zz=>?_]];obtain ⟨x4,H4,I4,rx4,ex4,eh4⟩:=zz;subst ex4 eh4;obtain⟨tk4,rfl⟩:=rx4;have l2:#[dM,(z++b),ZbN+Za'U]:=ZakN;refine #[bdR,(h2 Zam s4 σ H4 _ I4 q)];obtain ⟨x5,H5,I5,rx5,i,ei,hi,q5⟩:=zz;subst ei;obtain⟨tk5,rfl⟩:=rx5
  have hd:ZLf:=by
   by_cases h0:Zajw
   ·rw[h0];decide
   ·exact Za87
  have li:Zaa5:=by
   have:=ZahV;rw[PySem.ofString_length]
   lia
  have l3:#[dM,ZaVv,#[bc,(z++b)]+#[qc,i]]:=ZakN;exact Za8l
 exact #[aF_,(fin _ I1),(fin _ ZYg)]
#print L2
namespace Wz
open PySem L2
def IG [270](wl:ZaDC)(sm:#[ue,Zir]):ZaHA<=64/\∀ r∈gJ W,ZW':=by
 obtain⟨h1,h2⟩:=IF P;have fl:=(Ju.flat (st:=⟨W,[],[],[]⟩) P).2.1;exact#[mO,fun r hr=>⟨#[ew,h2 r hr],#[gc,sm g (fl g (Za8N ⟨r,hr,hg⟩)).1]⟩]
def Mi {r:Zbq}(h:ZW'):Zamq (Za9 " ") (ZoX gV)=Zad/\#[bd,xX,r]<=130000:=by
 have e:ZacS:=Zao
 have hb:#[kb,ZoX gV,Zgd<=Zwy]:=fun y hy=>by
  obtain⟨g,hg,rfl⟩:ao:=ZIL;exact L4 (h.2 g hg)
 have l1:#[aYA,Zwy,Zwy]:=ZaJG;have l2:#[aYA,ZayL,ZayL]:=ZaJG
 have l3:#[bd,ZoX,gV]<=64:=#[s0,h.1]
 refine#[cu,AN hb ?_]
 ·rw[e];lia
 ·have:=Pb (sep:=ZaAP) hb
  rw[e]at this;unfold xX
  lia
def EI {rs:ZSl}(hl:ZaLW)(h:Zayd):Zamq (Za9 ", ") (ZgM xX)=Zad:=by
 have e:#[hW,", ",2]:=Zao
 have l3:#[bd,ZgM,xX]<=64:=#[s0,hl]
 obtain⟨B,hB⟩:∃ B,B=130000:=Za';refine AN (B:=B) (Zqs) ?_
 ·obtain⟨r,hr,rfl⟩:ao:=ZIL
  rw[hB];exact (Mi (h r hr)).2
 ·rw[e]
  have:=aZK l3 (ZNh hB)
  lia
def CQ {K:PySem.W.Frag}{Qf:ZjU}{l q:Addr}{rs:ZSl}{H:Hp}(hq:Zuu)(h1:WG H l rs)(hl:ZaLW)(hr:Zayd)
  (k:#[XU,HK q=Zab #[hT,(ZgM xX).map]]) :
  r9 (Tz K l) ZU8 (Oq AF (XR K Zf2 Zaa0 (tC (ZaC Zzb)) (oE (Ui (O6 K (Jd 0)) ZU8 AF (Yj #[aZl,[ZaC s],Q (ZaC s) H,Zau i,(ZaC (Za9 ZaAI))] (oE (Jd 0) rD)) Zh5) rD)) q) Zasn Zh5 ZasF:=by
 obtain⟨as,h3,pa⟩:ao:=h1;have J_:=aQx pa
 refine cZ (K:=K) (a:=l) (xs:=ZEk) #[aRv,ZalP,xX]
  Zvd #[js,Zqm,#[nm,h3]] ?_ ?_
 ·intro i y σ HK hi a_;obtain⟨v,rfl,t1,x_⟩:aK:=a_
  obtain⟨a,ha,rfl⟩:ao:=ZbL;have hil:i<Zamr:=#[rA,ha];refine #[N',pa,ha,fun r hr0 hA=>?_];have rok:=hr r (aQC hr0);have hT:=t1 _ _ hA;refine ii #[aTQ,a,hT,fun q2 bk5=>?_]
  refine cZ (K:=K) (a:=a) (xs:=ZaA6) (fun j σ HJ=>#[hc,[v],aG HK HJ,HJ q2=Zab #[hT,((r.take j).map gV).map]])
   #[cC,Zac,ah bk5,ac] (fun j σ HJ _ Zqm=>#[nm,hT]) ?_ ?_
  ·intro j y σ HJ hj a_;obtain⟨v,rfl,u1,hu⟩:aK:=a_
   obtain⟨g,hg,rfl⟩:ao:=ZI5;refine ii #[bK,Zap (gG g rfl (rok.2 g (aQC hg)) _ hu #[cu,Zaqp])];refine #[uJ,cH u1 bk5];rw[ac,aQM,hg,aQK,aQt,aQt];rfl
  ·intro σ HJ a_;obtain⟨v,rfl,u1,hu⟩:aK:=a_
   rw[Z9,aQH]at hu;refine fC _ q2 (ZoX gV) rfl rfl (Zbh hu) ((Mi rok).1) ?_;refine #[zz,(u1 _ _ x_),(Zaqp),#[asz,u1]];rw[ac,aQM,hr0,aQK,aQt,aQt];rfl
 ·intro σ HK a_;obtain⟨v,rfl,t1,x_⟩:aK:=a_
  rw[Z9,J_,aQH]at x_;exact Zahf
def dS {s t:Str}(h:¬ s=t):#[lN,s,t]:=aQg #[jx,h,Zr3]
section
variable {c:HX}{ck ze cq:Addr}{H H1:Hp}{e:Addr}{A:EA}{D:KA}{B:HA}{st w_:eG}{Q:VK}{E:XK}
def Do.back [445][227](m:#[F4,H1,w_]):Zaes:=by
 obtain⟨B',i,k,f,t⟩:=m;exact cY B' i #[C0,k b o #[c4,s] n] (fun b h=>(f b h).imp id s.free) (#[cq,ZPe,s] t)
def vp.mono (x:ZaeB)[227]:vp c ck ze H1 e A D B st:=⟨x.ev.mono s,x.ft,x.hg,x.wl,x.sm⟩
#where
abbrev X9 [160]:Zbp:=(uN 32 ZgT).map fun p=>⟨p.toArray⟩
def Um [160]:uc 32 z=X9 z:=E7 ZaG (by
 unfold X9;rw[aQP]
 exact #[cq,aXv,fun p _=>ZaU] (Za_x _))
abbrev Ow (o:Fc):Str:=if o=Zbe then "done" else Su o
abbrev jE [73][470]:Zcj:=#[alE,#[AG,d],Zab8]
inductive XC [12]:Zaa
 | mk (t td w m ls:Addr)(H0:Hp)[73][470][82](_:vs=[Zai t,Zai td])[122](_:#[aP,td,ZUM])(_:ZnX)(_:Zabv)(_:#[fA,Zab8,#[iZ,ZlS x,g∈L/\ZdG]])(_:Zde<300)(_:#[aUv,(bd (jE es d)),(gR (jE es d)),#[q2,Ow,(bo (bd es) d)]])
abbrev WM [32](F:Zei):Zaa:=∀ b∈F,(∀ C dx fs,H b≠Zab ZpZ)/\∀ xs,H b≠Zab ZdJ
def f8.kept [407][78]{F:Zei}[40](k:Zabz)(so:WM H F)[462]:ZK2:=by
 have io:∀ {b C dx:Addr}[347],#[xV,ZpZ,ZpZ]:=fun {b C dx fs} h=>k _ _ h #[aH,(so b z).1 _ _ _ h];refine⟨io ZiX,⟨⟨io Za'V,fun ps e=>(by cases e),fun ps e=>(by cases e)⟩,x.ki.hall.kept k #[bC,(so _ z).1 _ _ _ x.ki.hall.ob] dj (fun b xs h z=>(so b z).2 _ h),x.ki.kB,fun ps e=>(by cases e)⟩,x.px⟩
structure DU where
 e:Addr
 t:Addr
 A:EA
 D:KA
 w:Addr
 m:Addr
 ls:Addr
section
variable {c:HX}{ck ze:Addr}{L:Zbq}{H H1 H2:Hp}{u:DU}{B:HA}{es:Zcj}
def Sd {w m ls:Addr}[78][18]{H0:Hp}{F:Zei}[248](k:#[qD,F])(tu:#[aLZ,ZGU])(dj:ZaJu):#[Te,H1]:=by
 refine ao M.hs fun as h3 hp=>?_;refine⟨k _ _ M.hw ZaaS,k _ _ M.hm ZaaS,⟨as,(k _ _ h3 ZaaS),#[j5,hp,ZXO]⟩,M.w0,M.m0,M.s0⟩;rw[wO]at e ⊢;exact k _ _ e #[ff,tu]
#where
def NL [73][470]:#[bf,(jE es d),Zde+1]:=by
 unfold jE;split
 ·rw[aQl];exact ZaX
 ·exact aZI _
section
variable {c:HX}{ck ze:Addr}{L:Zbq}{H H1 H2:Hp}{u v:DU}{B B':HA}{es es':Zcj}{lq:Addr}{as:Zei}{ds:Zcj}{Q:VK}{E:XK}
def Oc {x y:Str}(h:x=y)(q:Q (.bl Zad) H):∃ z,ZaC x=ZeG/\Q (.bl (ZlI (z=y))) H:=#[ii,x,#[aM,aQe h,q]]
#where
section
variable {c:HX}{ck ze:Addr}{L:Zbq}{G G1 G2 G3:Hp}{u v:DU}{B B':HA}
def NK {w m ls t:Addr}(hw:G w=Zac)(hm:upd G w ZcS m=Zac)(hl:upd (upd G w ZcS) m Zyw ls=Zac)(ht:upd ZawS ls ZkF t=Zac) :
  aG G Za1Y/\#[Gh,Za1Y,ZZO,(gR [])]/\#[gH,Znc,G b=Zac]:=by
 have s1:=#[vj,hw];have s2:=#[gm,.dT [],hm];have s3:=ZxX;have s4:=#[h8,#[kS,w,m,Zai ls]];refine #[aY,#[cq,ZLk,s3] s4,⟨#[aNa,ZgO] _ _ ac,ZadW _ _ ac,⟨[],ZaDq,Zan⟩,rfl,rfl,rfl⟩,ZmS];simp only[aQm,aQ1,aXz]at hb;rcases hb with rfl | rfl | rfl
 ·exact hw
 ·exact Zsg hm
 ·exact ZX0 hl
#where
def JQ [129]:ZdG:=by
 unfold Dm at h
 show Zbag
 have:(10:Nat) ^ 12<=ZZX:=#[qQ,Nat.pow_le_pow_right,ZaG]
 lia
def RW [129]:#[E2,Zams,#[qc,g]]:=by
 have e:#[hW,Zams,6]:=Zao
 have l:=(nc h).2;rw[<-eI]at l;have l:#[qc,g]<=12:=l;have sl:Za9b:=aQU
 lia
#print Wz
namespace L2
open PySem PySem.Spec PyProof.Rows
abbrev Fm [191][72]:Str:=#[ji,#[aTB,x.cps.toList.drop,Ze4,Ze4,Ze4,Ze4]]
def Gn [72][42]:Za'W lo hi 1 n=(ZiM (ZW5-ZWn)).map (ZWn+·):=by
 have c:∀ i:Int,max 0 (min (if i<0 then i+Zbj else i) Zbj)=#[a4,#[tj,i<0,(i+Zbj).toNat,min ZCt n]]:=fun i=>by
  by_cases h:i<0
  ·rw[Zcy,Zcy];lia
  ·rw[Zcx,Zcx];lia
 have e:Za'W lo hi 1 n=sliceRange Zazh Zazi 1:=by
  unfold Builtin.Str.strSliceIndices
  cases lo with
  | none =>
   cases hi with
   | none=>simp[HT.sIx]
   | some i=>simp only[HT.sIx,ZapS,aXT,c];rfl
  | some j =>
   cases hi with
   | none=>simp only[HT.sIx,ZapS,aXT,c]
   | some i=>simp only[HT.sIx,ZapS,aXT,c]
 rw[e,sliceRange_one]
def VW [42](hi:Zgl):ZW5<=n:=HT.sIx_le n n Za8 hi
inductive Xx [267]:Zaa
 | mk [160](_:x=ZeG)[466](_:#[hR,ZaQY,H])
def OF [160][72]:#[bf,ZaQY,ZbN]:=by
 show (#[f6,((Zamo _).take _)]).size<=Za'R
 rw[aQz,aQQ,aQN,aQV]
 lia
set_option tactic.hygienic true
def Gm [61]:WL X Xx:=by
 intro pins s σ H x v vl vu lo hi sl Q I rx hs pl pu h;obtain⟨z,rfl,hz,q⟩:=h;obtain⟨t,rfl⟩:=rx;refine az Zf2 _ F.slot_str_getitem.lookup ZajS ?_
 obtain⟨l,el,el2⟩:∃ l:ZaKf,vl=Za'X l/\l.map (·.1)=lo:=by
  cases pl with
  | none=>exact ZJx
  | int i t=>exact ZaPk
 obtain⟨u,eu,eu2⟩:∃ u:ZaKf,vu=Za'X u/\u.map (·.1)=hi:=by
  cases pu with
  | none=>exact ZJx
  | int i t=>exact ZaPk
 subst el eu el2 eu2;refine wpAny_getItem_str_slice (l:=l) (u:=u) (st:=Zac) hs rfl ?_;have e1:Za'Y z l u Zac=(List.range (HT.sIx z.length z.length (u.map (·.1))-HT.sIx z.length 0 (l.map (·.1)))).map (HT.sIx z.length 0 (l.map (·.1))+·):=Gn _ _ _
 have e2:Za'0 (z.cps[·]?)=(z.cps.toList.drop (HT.sIx z.length 0 (l.map (·.1)))).take (HT.sIx z.length z.length (u.map (·.1))-HT.sIx z.length 0 (l.map (·.1))):=#[bm,e1,Za6l]
 have e3:(⟨(Za'0 (z.cps[·]?)).toArray⟩:Str)=Fm z (l.map (·.1)) (u.map (·.1)):=#[b6,e2]
 unfold sliceMade;rw[e3];split
 ·rename_i c
  have c2:=(aXb _ _).mp c
  have c3:#[dM,Za'Z,ZbN]:=#[C5,c2.2]
  rw[e1,Z9,aXq]at c3;have hh:=VW z.length (u.map (·.1))
  have ez:Fm z (l.map (·.1)) (u.map (·.1))=z:=by
   unfold Fm;rw[show HT.sIx z.length 0 (l.map (·.1))=0 by by_cases q:ZbN=0<;>(first | lia | (have:=HT.sIx_le z.length 0 Zm7 (l.map (·.1));lia)),aZk,show HT.sIx z.length z.length (u.map (·.1))-0=z.length by lia];rw[#[g4,aXr,aQV,ZaX]]
  rw[ez]at q;exact az ZyL H I ZAA q
 ·exact ⟨(by have:=OF z (l.map (·.1)) (u.map (·.1));lia),Zhe,H,ZtV,Za',q⟩
abbrev U8 [358](q:ZaG_):DictEntry:=#[aY5,q.2,ZayA]
abbrev hObj [358][350][42]:Obj:=#[aY9,U8]
structure GR [1][358][86][110]:Zaa where
 nd:(xs.map (·.1)).Nodup
 ns:Zais
 at':#[aZm,hObj]
abbrev Wt (q:ZaG_):ZaJg:=(ZV3,ZayA)
set_option tactic.hygienic false
def Hm [58]:#[a1x,#[d3,Zavk,Tok],U8,Wt]
 | []=>Zan
 | q::l=>#[a2r,q.2,Hm]
def LF:∀ [350],ZaHd->(ZDd Wt).map (·.1)=(xs.map (·.1)).map Sum.inr
 | [],_,_=>rfl
 | Zcz,[],h=>by cases h
 | Zcz,Ziz,h=>by
  rw[aXE,aQv,aQv,LF xs ts ZCi];rfl
def JP:∀ [350][160],#[aNV,ZrJ (ZDd Wt) Zay'=(ZPN z).map Zho]
 | [],_,_,_=>rfl
 | Zcz,[],_,h=>by cases h
 | Zcz,Ziz,z,h=>by
  have ih:=#[a0h,JP];unfold valueAt at *;rw[aXE,aQv,aQY,aXt]
  by_cases e:z=x.1
  ·have e1:ZaOv:=ZHz
   have e2:#[lL,#[LB,Wt]]:=ZazY;rw[e1,e2];rfl
  ·have e1:ZaNQ:=Zrt
   have e2:#[lM,#[LB,Wt]]:=ZaTe;rw[e1,e2];exact ih
def LD [6][9][41]{xs:Zpb}[153](g:#[aFb,GR])(k:ZqW):#[bdN,Zayx,Wt]:=by
 refine ZaW3;refine Za3w
 ·have hen:#[aYZ,U8]:=Za_p
  obtain⟨q,_,rfl⟩:ao:=ZaAH;exact #[aOf,q.2]
 ·have:=#[aZA,Hm]
  simpa using this
 ·rw[LF xs ts hl]
  exact ZaZE
abbrev Tn [110](ty:TE):TE:=#[aXK,Q (.bl (!#[fY,(ZPN z)])) H1]
abbrev Ze [110](ty:TE):TE:=#[ai8,∃ z b,y=ZeG/\ZPN z=Zab b/\#[b9,b,H1]]
def NU [229][408][209][432]:PC X ZCz i o (Tn xs ty):=by
 intro pins s σ H Q I h;refine ZafJ;obtain ⟨y,H1,I1,ry,z,e1,q1⟩:=zz;refine bZ (ho Zam s1 σ H1 (#[C2,v=Zb1/\H'=H1]) I1 Zgz) ZUD;obtain ⟨x,H2,I2,rx,ex,eh⟩:=zz;subst ex eh e1;obtain rfl:ZRv:=rx;obtain⟨t,rfl⟩:=ry;refine ZaYG;refine Za6M ZahL g.ns ZCy ?_;rw[ZaYK,Option.isSome_map];exact az Zp6 H2 ZYi rfl q1
def VO [229][156][408][432][209](hs:UH i):#[NN,o,i,(Ze xs ty)]:=by
 intro pins s σ H Q I h;refine #[aSN,(bZ (ho Zam s σ H (#[C2,v=Zb1/\H'=H]) I Zgz) Zg3)];obtain ⟨x,H1,I1,rx,ex,eh⟩:=zz;subst ex eh;obtain rfl:ZRv:=rx;refine #[yI,hi,h,ZHH];obtain ⟨y,H2,I2,ry,z,b,e1,e2,q2⟩:=zz;subst e1;obtain⟨t,rfl⟩:=ry;refine ZaYG;exact⟨ZPf,Za6K ZahL ZCy #[ey,ZaYK,e2] (az ZqO H2 ZYi rfl q2)⟩
def P8 [9][6][77]{base:Heap}{N:Zbp}{qual:Str}{sc:Scope}{f c':Addr}{y:Str}{cy:Addr}[53]{outer:ZcU}{s0:Shared}{H0:Hp}{E:XK}:ir ZhJ (Za2y) E:=by
 intro pins σ H s e s' I hc;obtain⟨ea,C,od,H',B,rfl,fl,un,hok,os,bare,hsB,trB,hE⟩:dZ:=hc
 let X:Cx:=Za2y
 show Zaod
 have az0:Za4G:=I.ok.frames
 have frS:Zagv:=by unfold mw;rfl
 refine Za1d;have ltl:Zad':=ZL6;have ax6:ZarW:=ZSu
 have h0B:Zap6:=fun b o e hf=>by
  obtain⟨o',e'⟩:=ZaOk;refine ZaSi;rw[frS];intro z;rcases ZnD with z | z
  ·exact ZA8
  ·exact hf z
 have unS:ZaSz:=by
  have u1:ZaSy:=I.base;refine Za3R
  ·refine Za21
   rw[frS];intro z;rcases ZnD with z | z
   ·exact ZA8
   ·exact hf z
  ·obtain⟨sl,e1⟩:=ZaKj
   obtain⟨sl2,e2⟩:=Za2Q;exact ZaEW
  ·obtain⟨o',e'⟩:=ZJD
   exact ZaYD
  ·obtain⟨o',e'⟩:=ZJD
   exact ZaSj
  ·obtain⟨m1,e1⟩:=ZaOU
   obtain⟨m2,e2⟩:=ZaKC;exact ZahK
 have G_:Zar0:=fun b o hf e n=>by
  obtain⟨sl,e1⟩:=ZaKZ;refine ZarL
  have e2:o2=o:=by
   have:ZadX:=ho2;rw[e]at this;exact Zs'
  subst e2;obtain⟨sl2,e3⟩:=ZMi;exact ZKr
 refine Za38;refine ZaUc;obtain⟨sl,q⟩:=Zaeq;exact Zld
section
variable {X:Cx}{CX:Di}{k:Nat}{E:XK}{x y:Str}{p pos:Pos}{e e1 e2:Expr}{es:Zbu}{te t1 t2:TE}{t:TA}
def Iy {iy:Nat}{fw c0 P cy:Addr}{fdw:FuncData}{psw:Zbp}{sp:Zeh->Zeh->V->Sp}{params:Arguments}{body:Expr}{scope:Scope}{aq0:Pos}{qual:Str}
  (W:∀ (b':Heap)(f c' cy:Addr)(vy:V)(pm ct:Value),Mod X.K ZcA b'->yj ZcA b'->D5 b' Zbx Zl1 Zfu ZbY y vy f c' cy pm ct->aY Zcl X.w X.K ZcA b' CX k fw fdw psw (sp f c' vy))
  (hr:ZjV) (hg:Zee) (hm:#[s8,Zayv]) (hk:#[bcf,Zayv]) (hb:je X.K fdw psw []) (hx:Ziy)
  (h1:ZaNx) (h2:Zafd) (hc:ZaGF) (C:ZaWe) (B:ZaKn) (hq:ZaUx) (hdf:ZaVW) (hcl:Za63) (hcy:ZadA)
  (hfn:ZaHD) (hN:#[kT,X.N[iy]?]) (hkd:#[aDo,ZeT])
  (S_:Za71:=by decide) (he:#[Eg,ZaRQ,#[hI,e1],Zade]:=by rfl)
  (he2:#[Eg,Zade,#[hI,e2],[ZF5]]:=by rfl) (he3:#[Ef,[ZF5],[#[hI,Za1C]]]:=by rfl)
  (J_:#[anH,Zade] (·.1)=false:=by rfl) :
  PE X (ZcN Zxk ZaRQ [] pos) (fun σ H Q=>t1 σ H fun x1 H1=>t2 σ H1 fun x2 H2=>ZoE H2 P aq0 Zbx/\∃ vy,#[av,σ[iy]?,#[fI,vy]] /\
   ∀ (f c':Addr)(H3:Hp),rM H3 c' Zbx->ZoE H3 P aq0 Zbx->(#[J2,H2,P,H3])->sp f c' vy ZLE H3 Q E):=by
 intro pins s σ H Q I h;refine ZMs;refine ZajJ (h₀:=Zhq) ZCo hk (Q:=EP X Zam σ Q) ?_ he J_;rw[he,he2,he3]
 show #[kP,(Zai2 [#[hI,e1],#[hI,e2],#[hI,Za1C]])]
 refine aXk (bZ #[dj,h1,h] fun u1 s1 zz=>?_);obtain ⟨x1,H1,I1,r1,q1⟩:=zz;refine aXk (bZ #[yH,h2,q1] fun u2 s2 zz=>?_);obtain ⟨x2,H2,I2,r2,hT,vy,hσ,q2⟩:=zz;refine aXk (Pj I2 hc C B hq hT hdf hcl hcy fun f c' pm ct H3 s3 I3 hfo hsz hfH hcf hT3 hk3 hkk=>?_);refine aXW #[cu,I3.kIn];have q3:=q2 f c' H3 hcf hT3 hk3;refine ao I3.loc ZTL;refine ao (hl iy y vy hN hσ #[G_,hkd]) fun uy ry ly=>?_
 have cl:s3.heap.IsCell cy (Zab uy):=by
  rcases ly with ⟨z,_⟩ | ⟨_,c,e,ce⟩
  ·have z:#[aDo,ZlE]:=z
   rw[hkd]at z;cases z
  ·rw[hcy]at e;cases e;exact ce
 obtain⟨oc,hoc,hdc⟩:=cl;have e0:=Ph (y:=y) (cy:=cy) I3 hfH #[aR,hfo] (aQD I2.lt hsz) hcy hfn;have F:=W _ f c' cy vy pm ct e0.mod (let ⟨bm,ob,b1,b2,b3,b4⟩:=B;(bS bm ob b1 b2 (qi (I3.bk _ _ b3) (Zal #[aR,b3])) b4)) ⟨qi hfo #[G_,rfl],uy,ry,oc,qi hoc #[AZ,rfl],hdc⟩;have r3:bK (ZLE++[]) ZaJL:=ZaiB (#[bn,bK ZLE ZzA,ZaB r1 #[m',r2,rfl,Zan]]) Zan
 have hl3:#[dM,(ZzA++[]:Zb4),psw.length]:=#[XB,r3.length,q3]
 refine #[L',aZP,ZNo X.A Zdv s3 H3 #[d7,ZzA] ZaJL (ZLE++[]) Q E hr e0 (hb s3 ZzA I3.kIn hl3) r3 q3]
 cases r with
 | error e=>exact #[ah6,H3,s3,I3]
 | ok fl =>
  cases fl with
  | ret u=>exact I3.after hq
  | next=>exact ZvX
  | brk=>exact ZvX
  | cont=>exact ZvX
#where
#print L2
namespace Wz
open PySem L2
abbrev pN [216]:Bool:=#[lJ,c=32\/c=40\/c=41]
abbrev fM [34]:Zbr:=l.takeWhile fun c=>! pN c
abbrev toS [34]:Str:=⟨ZalF⟩
def iO [34]:bf (toS l)=l:=by unfold bf toS;simp
def iW [34]:#[afk,toS]:=#[bm,eI,iO]
def jc [160]:toS ZgT=z:=by cases z with | mk a=>unfold toS bf;simp
def Wk [34]:#[bd,fM,l]<=Zb8:=by unfold fM;exact #[ayD,0].length_le
open Classical in
noncomputable def rdNum (z:Str):Zgl:=if h:Zx2 then #[cZ,ZoH,Za_z] else none
def Sw [228]:ds=es:=by
 have e:=Za_t b.eq
 have inj:∀ {x y:Zbr},x.map (·+48)=y.map (·+48)->x=y:=fun {x}=>by
  induction x with
  | nil=>intro y h;cases y with | nil=>rfl | cons _ _=>cases h
  | cons a x ih =>
   intro y h
   cases y with
   | nil=>cases h
   | cons b y =>
    rw[aQv,aQv]at h;injection h with h1 h2;rw[ih h2,#[e2,a=b]]
 exact inj e
def KF [359]:ZDn z=Zab Zauc:=by
 unfold rdNum;rw[dif_pos ⟨ds,h⟩];have:=Sw (Exists.choose_spec (⟨ds,h⟩:Zx2)) h;rw[this]
def T7 [387]:ZDn z=Zac:=by
 unfold rdNum;rw[dif_neg (fun ⟨ds,q⟩=>h ds q)]
abbrev numAt [34]:ZaDz:=#[a0Q,ZDn]
abbrev d9 [271]:Nat->Zbr->#[x9,ZdP]
 | 0,_=>none
 | n+1,l=>#[b5,ZamA,(rd (ZcO 1)).bind fun p=>(d9 rd n p.2).map #[bk,(p.1::q.1,q.2)],#[amu,ZaDS,ZaQt]]
abbrev kY [246][83]:ZYF:=if w=ZaE then (#[axD,ZaQN,Zkt,fs]) else match fs with
 | [f]=>#[cZ,Zr8,f]
 | _=>none
abbrev gj [246][238]:ZYF :=
 if ZaCr then (match gs with
  | ZBg=>Zab ZaKp
  | _=>none)
 else if ZaCt then (match gs with
  | ZFo=>#[axD,ZFp,.pl,#[GC,ZDf]]
  | _=>none)
 else #[amt,ZMa,(#[h_,w,Za7,ZaFJ,#[h_,w,ZbS,ZaFK,#[amu,ZJm,ZaFI]]])]
abbrev figM:ZaJ9
 | 0,_=>none
 | d+1,l =>
  if Zamy then
   (if ZaUi then #[aSB,ZtY]
   else #[aSC,Zl6])
  else Zamv
abbrev brM [459]:ZauT :=
 if toS (fM l)=ZaE\/toS (fM l)=ZaT then #[aXr,ZtY,(kY ZU7 q.1).map]
 else #[aXr,Zl6,(gj ZU7 q.1).map]
def wU [459](h:Zamy):Zgf Znk l=brM d (ZcO 1):=#[ex,Zgf,Zcy]
def AJ [459](h:#[amz,40]):Zgf Znk l=Zamv:=#[bm,Zgf,Zcx]
abbrev UJ [271]:Zaa:=∀ l a r,ZaSh->∃ k,r=ZcO k
def Ml [13](h:UJ rd){l:Zbr}{a:α}{r:Zbr}(e:ZaSh):#[Hu,ZeX]:=by
 obtain⟨k,rfl⟩:=h l a r e;rw[aQN]
 lia
def Gk:UJ Zl6:=fun l a r h=>by
 unfold numAt at h;refine #[FU,h,fun n _ e=>?_];injection e with _ e;exact ZayT
def zf [13](h:UJ rd):∀ n,UJ (d9 rd n)
 | 0=>fun l a r e=>by cases e
 | n+1=>fun l a r e=>by
  rw[d9]at e;split at e
  ·refine ZMc
   refine ZLN;injection e4 with _ e4;obtain⟨k,hk⟩:=h _ p.1 p.2 e1;obtain⟨k2,hk2⟩:=#[a2b,zf];exact⟨1+(k+k2),by rw[<-e4,hk2,hk,aXm,aXm]⟩
  ·split at e
   ·injection e with e
    injection e with _ e;exact⟨1,ZCw⟩
   ·cases e
def AX:∀ d,UJ (Zgf d)
 | 0=>fun l a r e=>by rw[figM]at e;cases e
 | d+1=>fun l a r e=>by
  by_cases h:Zamy
  ·rw[wU d l h]at e
   unfold brM at e;split at e
   ·refine ZMc
    refine ZLN;injection e4 with _ e4;obtain⟨k,hk⟩:=#[a0G,ZZT];exact Za29
   ·refine ZMc
    refine ZLN;injection e4 with _ e4;obtain⟨k,hk⟩:=#[a0G,Gk];exact Za29
  ·rw[AJ d l h]at e
   split at e
   ·injection e with e
    injection e with _ e;exact ZayT
   ·cases e
def VZ [216]:(!(Builtin.Str.occurrences #[c2," ()"] ⟨#[c]⟩ 0 #[E1," ()"] 1).isEmpty)=pN c:=by
 rw[StrLaws.found_one]
 have e:#[HO," ()"]=[32,40,41]:=Zao
 rw[e];unfold pN;rw[aXR];simp only[aQm,aQ1,aXz]
def RE [160]{a b:Nat}(h:#[sR,b]):Fm z ZaAf (Zab (b:Int))=toS (ZVF (b-a)):=by
 unfold Fm toS bf;rw[HT.sIx_nat,HT.sIx_nat,aX0 h]
 by_cases q:ZsS
 ·rw[aX0 q]
 ·have hz:ZalO:=Zuh
  rw[#[fN,b,min a ZbN,0],#[fN,b,a,0],aZL,aZL]
def Fo [160](a:Nat):Fm z ZaAf (Zab (Zg7+1))=toS (ZVF 1):=by
 unfold Fm toS bf
 have hz:ZalO:=Zuh
 rw[#[p5,(Zg7+1),#[a4,a+1]],HT.sIx_nat,HT.sIx_nat]
 by_cases q:#[sR,a+1]
 ·rw[aX0 q,ZIq,#[fN,a+1,a,1]]
 ·rw[#[VK,Za'1,#[sH,a+1]]]
  by_cases q2:ZsS
  ·rw[aX0 q2,#[fN,ZbN,a,0],aZL,Za'_];rfl
  ·rw[Za'2,Nat.sub_self,aZL,Za'_];rfl
def Fw [34][216]:decide (ZaC (toS (ZrO 1))=V.str ⟨#[c]⟩)=#[lJ,#[pQ,Zamw]]:=by
 rw[aXR]
 cases l with
 | nil=>exact⟨(fun h=>by have h:=ZIc;unfold toS at h;injection h with h;cases h),(fun h=>by cases h)⟩
 | cons x l =>
  constructor
  ·intro h
   have h:=ZIc;unfold toS at h;injection h with h;have h:=aXa Za'3 h;simp at h;rw[h];rfl
  ·intro h
   have h:x=c:=ZIb;rw[h];rfl
#print Wz
set_option maxRecDepth 1000000
namespace Wz
open PySem L2
abbrev GK [320]:Zaa:=#[o5,Zd8,(ZaUY),Zg5]
def dH [15][111]:ZhS:=ZaxR
def GK.refl [38]:GK H H:=fun _ _ e _=>e
def GK.trans [268](a:ZyX)(b:GK H1 H2):GK H H2:=ZaZi
def GK.tup [197][46][31][190]:ZaBR:=k b _ e fun _ z=>nomatch z
def GK.lst [197][46][31](e:#[cf,ZkR]):#[pu,ZkR]:=k b _ e fun _ z=>nomatch z
def GK.fg [197][71][95]:ZJ3:=ZaUg
def U6 [15][366](k:ZhS)(h:Zgr):GK H ZaK7:=fun b u e n=>#[axg,k b u e n]
def O0 {P:Addr}[15][156]{qual:Str}(t:ZKz)(k:#[o7,Zd8,P,Zg5]):ZhS:=fun b o e n=>by
 obtain⟨ps,q⟩:=t.tbl
 exact k b o e #[aH,by rw[z,q]at e;injection e with e;exact n ps ZCw]
abbrev KT [1](q:Addr)[292]:Zaa:=#[HE,#[adj,q,#[asm,bK vs ZDm]]]
def KT.sq [6]{q:Addr}[461](h:KT K q vs)[32]:aX K H q vs:=ZYM
structure MP where
 (q1 q2 q3 q4 q5 q6 q7:Addr)
abbrev szL (q:MP):Zpb:=[(ZbZ,q.q1),(Za7,q.q2),(ZbS,q.q3),(Zcc,q.q4),(ZcQ,q.q5),(ZaE,q.q6),(ZaT,q.q7)]
structure Yu [410](w:World)(cF kd cs:Addr)(q:MP):Zaa where
 eF:fR K cF
 mF:#[bW,Za'5,cF]
 ff:Za8b
 md:∃ u,#[av,mg Za'6,u]/\bJ (Zah 12) u
 dg:∃ u,#[av,mg Za'7,u]/\bJ (Zag ZC7) u
 dp:∃ u,#[av,mg Za'8,u]/\bJ (Zah 8) u
 ml:ZbbZ
 mt:Zbb1
 mkd:ZaOs
 kd:KT K kd (ZPI ZaC)
 ms:#[bW,"SIZES",cs]
 sz:GR K Zi7 cs ZSR
 t1:KT K q.q1 #[cd,2,2]
 t2:KT K q.q2 #[cd,2,60]
 t3:KT K q.q3 #[cd,2,60]
 t4:KT K q.q4 #[cd,2,60]
 t5:KT K q.q5 #[cd,4,4]
 t6:KT K q.q6 #[cd,1,60]
 t7:KT K q.q7 #[cd,1,1]
inductive zj [12]:Zaa
 | mk [160](a:Nat)(_:ZaRn)(_:Zv4)(_:ZsS)(_:#[aZj,#[cK,Zas4]])
inductive QT [66][131]:Zaa
 | mk (z:Str) (a:Nat) (h_0:ZaRn) (h_1:Zio) (h_2:Zv4) (h_3:ZsS) (h_4:J H) (h_5:ZRd)
  (h_6:∀ x r,R ZgV=Zab (x,r)->∀ (t:Addr)(v:V)(H':Hp),ZhS->ZRe->#[aQR,v]->ZaSc->#[d9,t])
  (h_7:ZaX8):QT P0 lp ql cF J R At vs H Q E
inductive IX (P0:Addr)(lp:Pos)(ql:Str)(cF fl:Addr)[131]:Zaa
 | mk (z:Str) (a:Nat) (h_0:vs=[Zag z,Zah a,Zai fl]) (h_1:Zio) (h_2:Zv4) (h_3:ZsS) (h_4:J H) (h_5:ZRd)
  (h_6:∀ xs r,Za1I=Zab (xs,r)->∀ (t q:Addr)(vs':Zbs)(H':Hp),#[uX,ZhS,ZRe,#[aQR,Ztp],#[bO,q,#[cK,vs']],#[aRD,vs'],t])
  (h_7:Za1I=Zac->ZRi):#[a39,J,R,At]
inductive C8 (cF:Addr)(d:Nat)[56]:Zaa
 | figs [246](q:Addr)(ps:Zei)[83][437](h_1:Zag3)(h_2:#[aP,q,#[UL,Zkr]])(h_3:ZaRE)(h_4:#[v5,Zek])(h_5:#[aYC,kY,fs])(h_6:#[afw,w]->#[jl,cF]):Za28
 | nums [246](q:Addr)[238][437](h_1:¬ (Zag3))(h_2:#[Fq,ZoL])(h_4:#[v5,Zky])(h_w:#[v5,Zf_])(h_5:#[aYC,gj,gs])(h_6:#[vq,w]->#[jl,cF]):Za28
inductive tK [66](d e:Nat)(R:Zbr->#[x9,aA])[56]:Zaa
 | mk (z:Str) (a:Nat) (h_0:vs=#[xF,z,a,e]) (h_1:Zio) (h_2:Zv4) (h_3:ZsS) (h_5:ZRd)
  (h_6:∀ f r,R ZgV=Zab (f,r)->∀ (t p:Addr)(H':Hp),ZhS->ZRe->#[bO,t,#[z8,ZS6]]->#[yl,d]->#[d9,t])
  (h_7:ZaX8):tK P0 lp ql cF d e R vs H Q E
inductive Ms [66][56]:Zaa
 | mk (z:Str) (h_0:Zab_) (h_1:Zio) (h_2:Zv4) (h_5:ZRd) (h_6:#[avn,ZaYl,ZhS->ZRe->#[yl,8]->#[d9,p]])
  (h_7:(ZagM)->ZRi):Ms P0 lp ql cF vs H Q E
inductive x8 [12]:Zaa
 | mk [217](_:#[UO,(.bl (iD z))])
def Ts [138](hs:ZLz):fM l=ZrO (n+1)++fM (ZcO Zfg):=by
 have hn:=ZaAv
 have e:ZaVl:=by
  rw[aXL hn]
  congr 1
  exact ZaL2
 rw[h,e,aQM,hc,aQK,aXf]
 congr 1
 unfold fM;rw[List.takeWhile_cons,hs];rfl
def Tt [138](hs:Zaa2):ZaZJ:=by
 have hn:=ZaAv
 have e:ZaVl:=by
  rw[aXL hn]
  congr 1
  exact ZaL2
 have e2:fM (ZcO n)=[]:=by
  rw[e];unfold fM;rw[List.takeWhile_cons,hs];rfl
 rw[h,e2,aXl]
def Wj {l:Zbr}[71](h:ZaTO)(hn:Zb8<=n):ZaZJ:=by
 rw[Za'9 hn]at h;rw[h]
 show ZauK++[]=ZrO n
 rw[aXl]
def Jx [305](h:Zio):#[XV,bf z]:=fun c hc=>by
 unfold p8 at h;rw[<-Array.all_toList]at h;exact aQJ (Zko h c hc)
def Ox [305](h:Zio)(a:Nat):p8 (toS (fM ZgV)):=Bj fun c hc=>by
 have hc:c∈bf (toS (fM ZgV)):=hc;rw[iO]at hc;exact Jx h c (ZPO (#[ayD,0].subset hc))
def K8 [305]{a:Nat}(h:ZsS):ZES=#[pt,#[bd,ZHP,ZER]]/\#[sR,ZES]:=by
 have h1:=Wk (ZgU a);rw[aQN,<-eI]at h1;rw[aQN,aQN,<-eI]
 lia
def m9 {a:Nat}(h:a<=1000001):ZaxV<10 ^ 100:=by
 have e:ZaxV=a:=Zae
 rw[e];exact aXP h ZcE
abbrev GL [320]:Zaa:=#[o6,Zd8,(ZaUY),(∀ xs,o≠Za6 xs),Zg5]
def LC [197]:ZIC:=#[alz,k b o e n]
def U7 [38][366][31](h:Zra):GL H ZZZ:=fun b u e n n2=>by
 rw[#[tv,#[VI,h,n2 _ ZHd]]];exact e
def GL.tup [433][46][31][190]:ZaBR:=k b _ e (fun _ z=>nomatch z) fun _ z=>nomatch z
def GL.fg [433][71][95]:ZJ3:=ZaUg
def GL.code [433]{c':Addr}{q:Str}(h:rM H c' q):rM H' c' q:=by
 obtain⟨oc,vs,t,e,r⟩:ko:=h;exact vE oc vs t (k _ _ e (fun _ z=>nomatch z) (fun _ z=>nomatch z)) r
def Nf [80]{l r:ZdP}{e k:Nat}(h:r=(ZcO e).drop k):ZcO (Zb8-ZeX)=r:=by
 rw[aXm]at h;subst h;rw[aQN]
 by_cases q:#[Hu,e+k]
 ·rw[#[aOR,e+k]]
 ·rw[#[aOR,Zb8],aZj,Za'_]
def Ix [13][71]{l r:Zbr}{x:α}(h:ZamA)(e:rd ZE3=Zab (x,r)):ZaX'=(d9 rd n r).map #[bk,(x::q.1,q.2)]:=by
 rw[d9,Zcy,e];rfl
def P7 [309](h:ZamA)(e:rd ZE3=Zac):Za0Y:=by
 rw[d9,Zcy,e];rfl
def EH [309](h:ZaDS):ZaX'=Zab ZaQt:=by
 rw[d9,#[auu,h],Zcy]
def NT [309](h:#[amz,32])(h2:#[amz,41]):Za0Y:=by
 rw[d9,Zcx,Zuo]
def p7:Zzb=⟨#[32]⟩:=Zao
def QX:#[c2,")"]=⟨#[41]⟩:=Zao
def Th:#[c2,"("]=⟨#[40]⟩:=Zao
def Fx [305]{e c:Nat}(h:#[pQ,ZX1]):ZaLT:=by
 rw[List.head?_drop]at h;have:=#[rA,h];rw[<-eI]at this;exact this
inductive Mq [56]:Zaa
 | mk [217](_:∀ ds H',Zx1->Zb_->Q ZaKX H')(_:(ZaHi)->ZAw)
#print Wz
set_option maxRecDepth 1000000
set_option maxHeartbeats 8000000
namespace Wz
open PySem PySem.Spec PyProof.Rows L2 PySem.SetTable
def DW:#[aXc,ZiS]:=ZXM
def uP:#[aXc,"frozenset"]:=ZXM
section
variable {P:Program}{w:World}{A:Around}{E:ZfG}{s:Shared}
def QD {l:Addr}{d_:ZiB}{ns:Zbq}{Q:ZfG}(hh:Zfl)(hl:#[anM,l,d_])(hi:#[S8,ZDm])(hb:ZCc+1<scanBound)
  (h:∀ (h':Heap)(tk:Nat),h'.SetOf ZamC s.heap.objs.size (fun k'=>#[aql,0].any (· == k')) Zaxu->(#[zp,ZI2])->#[T0,ZO4]) :
  #[fH,Zwi,(Zfv (Za2 ZiS) ZAK),Q]:=by
 refine RK aZN.mro fun c tl mro=>?_;have made:=aZN.made;have sub:=aZN.sub;have nt:=aZN.notType;have cc:=aZN.canCreate;have tc:=F.typeCall_set_1 #[aj,l];refine Za8D
 show #[hQ,(callAny (Za2 ZiS) _)]
 refine aQk ⟨Za'' _ ZcE,aZw F.entry_type_call ?_⟩;rw[Around.under_plain (weight_type_call_type ZiS ZAK []) rfl]
 repeat (any_goals (first | assumption | wp_step))
 refine aX2 (code_set_new_1 Zm3 (E:=E) (Q₁:=fun obj s₁=>∃ led:Bool,ZLu/\s₁={ s with heap:=s.heap.push (IK #[] 0 Zn3) }) fun led=>#[EP,led]) fun r s₁ hr=>?_
 cases r with
 | error e=>exact hr
 | ok fl =>
  cases fl with
  | ret obj =>
   obtain⟨led,rfl,rfl⟩:ao:=hr;have hS:(s.heap.push (IK #[] 0 Zn3)).get? s.heap.objs.size=some (IK #[] 0 Zn3):=ZeI;have hT:Shared.TypeIs { s with heap:=s.heap.push (IK #[] 0 Zn3) } Zdl "set":=ZauD;have li:=aZN.init.lookup;have bi:=aZN.init.bind Zdl
   repeat (any_goals (first | assumption | wp_step))
   refine aX2 (codeAny_call_builtin (R:=wants (fun r s₂=>r=Zax/\∃ h' tk,s₂=ZO4/\h'.SetOf ZamC s.heap.objs.size (fun k'=>#[aql,0].any (· == k')) Zaxu/\(#[zp,ZI2])) E) aZN.init.plain F.entry_set_init (check_set_init_1 hT ?_)) fun r₂ s₂ hr₂=>?_
   ·obtain⟨a_,ho,hc,nl,hd⟩:jq:=hl;obtain⟨oc,od,odt,osl⟩:=a_
    have hc:oc=Za2 Zf3:=hc;have hd:odt=Za3 d_ nl:=hd;subst hc;subst hd;have ho':(s.heap.push (IK #[] 0 Zn3)).get? l=Zuk:=aQb _ ho;have s1:=DW;have s2:=uP
    have ne:#[bcq,Zf3,ZiQ]:=ZaF
    have q_:(s.heap.push (IK #[] 0 Zn3)).IsTuple l d_:=lG _ ho' rfl nl rfl;unfold Builtin.«set.__init__» noKeywords Builtin.Frozenset.updateFrom;generalize hPI:pyIter=PI
    wp_walk
    subst hPI;refine aZo q_ #[He,wpAny_runValue];have lt:#[dL,l]:=aQo ho
    have h3:A.in1.in1.in1.handled=Zac:=by simp[hh]
    have neI:l≠(s.heap.push (IK #[] 0 Zn3)).objs.size:=#[aL,aQ6,aQu (aXB lt)]
    have Sf:s.heap.objs.size∉[(s.heap.push (IK #[] 0 Zn3)).objs.size,l]:=by
     rw[aQ6];intro z;rcases ZnD with z | z
     ·exact #[oU,ZaOq]
     ·exact #[oT,Zdc,z,(aQ5 lt)]
    have W:=(Walks.tuple (prog:=P) (w:=w) h3 _ l neI d_).toS;refine codeAny_set_update_loopS W Zaw Sf (ZN6) (fun i v hv=>IntsAre.int_at hi i v #[aM,aZr,hv]) hb (ZCc-0) 0 _ Zaf Zm7 ⟨ZFc,q_.push _⟩ ?g0 ?fin
    case g0=>exact SetOf_congr ((setObjOf_fresh (knd:=ZamB P w) led).setOf #[ms,hS] (by unfold scanBound;lia)) ZjS rfl
    case fin =>
     rintro⟨h',g',d',tk',os'⟩ hm hS';have eg:g'=s.gens:=hm.gens;have ed:d'=s.drawn:=hm.drawn;have eo:ZaFj:=hm.os;subst eg;subst ed;subst eo;refine #[Gp,⟨rfl,h',tk',rfl,hS',#[pH,hm.heap b o Zg8 ZaA0]⟩];rw[aQ6]at z;rcases ZnD with z | z
     ·exact ZoQ z (aQu hb)
     ·exact #[oT,Zdc,z,(aQu (aXB hb))]
   ·cases r₂ with
    | error e=>exact hr₂
    | ok g =>
     cases g with
     | ret r =>
      obtain⟨rfl,h',tk,rfl,hg,hk⟩:mr:=hr₂
      repeat (any_goals (first | assumption | wp_step))
      exact h _ _ hg hk
     | _=>exact hr₂.elim
  | _=>exact hr.elim
#where
section
variable {X:Cx}
inductive Ta [1][11]:Zaa
 | mk [157][168][63](_:aX K H p Zyx)[68]
def MY [113]:#[ie,ZiS,(Ta X.K)]:=by
 intro pins s σ H xs us Q I r h;obtain⟨p,ns,rfl,hq,hz,q⟩:=h;obtain⟨u,rfl,rx⟩:ao:=ZeP;cases rx;refine #[xR,#[a_b,?_]];have hl:=rv.length;rw[Z9]at hl;refine #[a_B,QD,pl];rw[show Zbdm by unfold firstMet;rw[aQz,<-hl,BC]]at hS;obtain⟨d1,d2⟩:=ZaX_;exact Zbdn
#where
#print Wz
set_option maxRecDepth 1000000
set_option maxHeartbeats 8000000
namespace Wz
open PySem L2
def XF (q:MP):#[SS,ZbZ,q.q1]:=rfl
def XG (q:MP):#[SS,Za7,q.q2]:=rfl
def XH (q:MP):#[SS,ZbS,q.q3]:=rfl
def XI (q:MP):#[SS,Zcc,q.q4]:=rfl
def XJ (q:MP):#[SS,ZcQ,q.q5]:=rfl
def XM (q:MP):#[SS,ZaE,q.q6]:=rfl
def XN (q:MP):#[SS,ZaT,q.q7]:=rfl
def XO {q:MP}[277](h1:w≠ZbZ)(h2:w≠Za7)(h3:w≠ZbS)(h4:w≠Zcc)(h5:w≠ZcQ)(h6:w≠ZaE)(h7:w≠ZaT):#[fw,ZSR] w=Zac:=by
 unfold szL;rw[aQY,ZvJ h1,aQY,ZvJ h2,aQY,#[vK,h3],aQY,#[vK,h4],aQY,#[vK,h5],aQY,#[vK,h6],aQY,#[vK,h7]];rfl
#print Wz
namespace L2
open PySem
abbrev oU (st:Stmt):Expr:=match #[EH,0].getD 1 (Stmt.Pass Zvx) with
 | Stmt.If _ (Stmt.Assign _ (Expr.Call _ [_,_,l] _ _) _::_) _ _=>l
 | _=>Expr.Constant Zax 0 Zvx
#print L2
namespace Wz
open PySem L2
abbrev Yo (d:Nat)[32](v:V)(f:aA):Zaa:=∃ p,v=ZcF/\#[xL,d]
abbrev Ww (_:Hp)(v:V)(x:Int):Zaa:=v=Zah x
inductive QS [66](d:Nat)(fl c1:Addr)(vy:V)[56]:Zaa
 | mk (h:ZaUk)(h2:#[a39,#[aML,ql],ZtY,(Yo d)])
abbrev Ua [66]:Nat->Sp
 | 0=>fun _ _ _ _=>ZiT
 | d+1=>tK P0 lp ql cF Znk Znk (brM d)
def Ab {d:Nat}[38]:∀ [461][177],Za0 (Yo d H) vs fs->∃ ps:Zei,vs=Zkr ZaN/\ZaRE
 | _,_,Zan=>#[ii,[],Zan]
 | _,_,ZaOi=>by
  obtain⟨ps,rfl,p⟩:ao:=Ab t;obtain⟨q,rfl,hq⟩:ao:=h;exact #[ii,(q::ps),ZaB hq p]
def xJ [38]:∀ [461]{gs:Zbq},Za0 (Ww H) vs gs->vs=ZoL Zau
 | _,_,Zan=>rfl
 | _,_,ZaOi=>by
  rw[xJ t,show _=Zau _ from h];rfl
set_option tactic.hygienic true
def zc [13](h:UJ rd):∀ [42][34][395](r:Zbr),d9 rd n l=Zab (xs,r)->#[Hu,ZaJ]
 | 0,l,xs,r,e=>by cases e
 | n+1,l,xs,r,e=>by
  rw[d9]at e;split at e
  ·rename_i hd
   refine ZMc;refine ZLN;injection e4 with e5 e6;have h1:=#[a2b,zc];have h2:=Ml h (show rd ZE3=Zab (p.1,p.2) from e1)
   have h3:0<Zb8:=by cases l with | nil=>cases hd | cons _ _=>exact Zbdd
   rw[aQN]at h2;rw[<-e5,aQB]
   lia
  ·split at e
   ·injection e with e
    injection e with e _;rw[<-e];exact Zcr
   ·cases e
abbrev yW [169]:Zbr:=ZLK
mutual
noncomputable def aA.txt:aA->Zbr
 | Zed=>#[KC,ZdB,Zaf1]
 | Zku=>#[KC,ZaE,ZoY fs]
 | Zr9=>#[KC,ZaT,ZG2]
 | ZeN=>Zic
noncomputable def aA.txtL:Zb2->Zbr
 | []=>[]
 | Zfo=>ZG2++ZoY fs
end
def yb:#[aKy,ZoY,ZaxN]
 | []=>#[b6,ZoY]
 | Zfo=>#[XL,ZoY,yb]
abbrev aA.Good:#[cp,Nat,aA]
 | 0,_=>False
 | _+1,Zed=>ZarP
 | _+1,ZeN=>Zhb
 | n+1,Zr9=>Zxt
 | n+1,Zku=>#[aVr,Zxt]
abbrev ww (r:Zbr):Zaa:=∀ c,#[pQ,r.head?]->Zaa2
def De {p r:Zbr}(hp:∀ c∈p,ZLz)(hr:ww r):ZaPZ/\(p++r).drop #[bc,(fM (p++r))]=r:=by
 have e:ZaPZ:=by
  induction p with
  | nil =>
   cases r with
   | nil=>rfl
   | cons c r =>
    unfold fM;rw[aZR,List.takeWhile_cons,hr c rfl];rfl
  | cons c p ih =>
   have:=ih fun d hd=>hp d #[dh,hd];unfold fM at this ⊢;rw[aZi,List.takeWhile_cons,hp c aQi]
   show c::_=_
   rw[this]
 exact⟨e,#[bm,e,List.drop_left]⟩
def AQ {c:Nat}(h:Zaa1):ZLz:=by
 unfold fV at h;have:=aQJ h;unfold pN;exact ZqZ
def RJ {c:Nat}(h:ZL1):ZLz:=by
 unfold pN;exact ZqZ
def FQ [349]:#[oI,Zic,fV c=Zad]:=by
 unfold iD at h;rw[aXb]at h;exact #[XT,h.2]
def PM [129]{r:Zbr}(hr:ww r):Zl6 (yW g++r)=Zab (g,r):=by
 obtain⟨e1,e2⟩:=De (p:=yW g) (#[gL,RJ ((nc h).1 c hc)]) hr;unfold numAt;rw[e2,e1];refine Zagx;rw[#[bn,toS (yW g)=gV g,jc _],KF N,e];rfl
def yC (r:Zbr):ww (41::r):=fun c h=>by cases ZIb;rfl
def xN [13]{tx:α->Zbr}(rest:Zbr):∀ [395][42],(#[rU,∀ r,ww r->rd (tx x++r)=Zab (x,r)])->ZaJ<n->d9 rd n Zbad=Zab (xs,rest)
 | [],n,_,hn=>by
  obtain⟨m,rfl⟩:ZaUG:=⟨n-1,by simp at hn;lia⟩;exact EH rfl
 | Zcz,n,h,hn=>by
  rw[aQB]at hn;obtain⟨m,rfl⟩:ZaUG:=⟨n-1,Zae⟩
  have e:((x::xs).flatMap ZVj)++ZWe=32::(tx x++Zbad):=ZaU
  rw[e]
  have he:ww (Zbac++ZWe):=by
   cases xs with
   | nil=>exact yC ZdX
   | cons y ys=>intro c hc;cases ZJe;rfl
  rw[Ix rfl (h x aQi _ he),xN ZdX xs m (ZRI) Zaf];rfl
def wV [80](tx:α->Zbr):∀ xs:ZdP,ZaJ<=#[bd,Zbab,ZVj]
 | []=>ZaX
 | Zcz=>by
  have:=wV tx xs;rw[List.flatMap_cons,aQl,aQB,aQB]
  lia
def E6 (f:bH):(#[oI,bf ZdB,fV c=Zad]):=by
 have k:∀ s:Str,s∈ZwG->#[oI,bf s,fV c=Zad]:=by
  have:#[aRl,(bf s).all fV]:=Zao
  intro s hs c hc;exact #[Vn,(Zko ZbR s hs)]
 cases f<;>exact k _ (by unfold kindsL bH.word;simp)
def AU:(#[oI,bf ZaE,fV c=Zad])/\(#[oI,bf ZaT,fV c=Zad]):=by
 have:(bf ZaE).all fV=Zad/\(bf ZaT).all fV=Zad:=Zao
 exact⟨#[XT,Zg_],#[XT,ZtS]⟩
def PN [430]:gj ZdB Zl7=#[cZ,.pl,f]:=by
 unfold gj
 cases f with
 | pair a b=>rw[#[BA,Zasd,ZbZ]];rfl
 | line g=>rw[#[Ed,Za7,ZbZ],#[Ed,Za7,ZcQ],ZagW,#[BA,(ZDo g),Za7]];rfl
 | star g=>rw[#[ab1,ZbZ],#[ab1,ZcQ],ZagW,#[ab1,Za7],#[BA,(ZPP g),ZbS]];rfl
 | all g=>rw[#[JZ,ZbZ],#[JZ,ZcQ],ZagW,#[JZ,Za7],#[JZ,ZbS],#[BA,(ZamD g),Zcc]];rfl
 | quad a b c d =>
  rw[#[Ed,ZcQ,ZbZ],#[BA,Zau9,ZcQ]]
  show #[abW,ZFp]
  rw[aQd (ok.2.2 a b c d rfl)]
def AW:∀ (d:Nat)(f:aA),Zaaj->∀ r,ww r->Zgf d (Zi8++r)=Zab (f,r)
 | 0,_,h,_,_=>h.elim
 | d+1,ZeN,h,r,hr=>by
  have h:Zhb:=h;obtain⟨e1,e2⟩:=De (p:=Zic) (#[gL,AQ (FQ h c hc)]) hr
  have hd:(Zic++r).head?≠Zab 40:=by
   have hl:=(vL h).1;rw[eI]at hl
   cases e:Zic with
   | nil=>rw[e]at hl;simp at hl
   | cons c l =>
    intro z;have hc:=FQ h c #[aM,e,aQi];have z:c=40:=aQp z;rw[z]at hc;cases hc
  rw[aA.txt,ZaQb,e2,e1,jc,Zcy]
 | d+1,Zed,h,r,hr=>by
  obtain⟨ok,gs⟩:ZarP:=h
  have e:#[ag6,Zq7,ZdB,Zaf1]:=#[fs,ZwH]
  rw[e,Zaep,aZO,aZk]
  have he:ww (Zaf1++41::r):=by
   cases f.gs with
   | nil=>exact yC r
   | cons y ys=>intro c hc;cases ZJe;rfl
  obtain⟨e1,e2⟩:=De (p:=bf ZdB) (#[gL,AQ (E6 f c hc)]) he;unfold brM;rw[e2,e1,jc,#[Y4,ZakL ZY1 ZXz],#[ah1,Zl7,PM (gs g hg) hr,yW,Zl7]]
  show (gj ZdB Zl7).map _=_
  rw[PN ok];rfl
 | d+1,Zr9,h,r,hr=>by
  have h:Zaaj:=h
  have e:#[ag6,ZAC,ZaT,ZaIq]:=#[fs,ZwH]
  rw[e,Zaep,aZO,aZk];obtain⟨e1,e2⟩:=De (p:=bf ZaT) (#[gL,AQ (AU.2 c hc)]) (show ww (ZaIq++41::r) from fun c hc=>by cases ZJe;rfl);unfold brM;rw[e2,e1,jc,aQd (Zap rfl),#[ah1,[f],#[nf,hg,AW d f h r hr],ZwH,[f]]]
  have e9:kY ZaT [f]=#[cZ,Zr8,f]:=by unfold kY;rw[Zdr]
  rw[Option.bind_some,e9];rfl
 | d+1,Zku,h,r,hr=>by
  obtain⟨h1,h2,h3⟩:#[aVr,Zaaj]:=h
  have e:#[ag6,Zamm,ZaE,ZaIp]:=by rw[ZwH,yb];simp
  rw[e,Zaep,aZO,aZk]
  have he:ww (ZaIp++41::r):=by
   cases fs with
   | nil=>exact yC r
   | cons y ys=>intro c hc;cases ZJe;rfl
  obtain⟨e1,e2⟩:=De (p:=bf ZaE) (#[gL,AQ (AU.1 c hc)]) he;unfold brM;rw[e2,e1,jc,aQd (Zal rfl),#[ah1,fs,AW d g (h3 g hg) r hr,ZwH,fs]]
  show (kY ZaE fs).map _=_
  unfold kY;rw[Zaz,aQd Zvc];rfl
def aA.Good.up:#[ayi,Zi9 (n+1) f]
 | 0,_,h=>h.elim
 | n+1,Zed,h=>h
 | n+1,ZeN,h=>h
 | n+1,Zr9,h=>#[aLi,h]
 | n+1,Zku,h=>#[aY,h.1,ZIk,fun f hf=>#[aLi,ZaPX]]
def aA.Good.le {n m:Nat}[473](h:Zxt)(hl:n<=m):#[xr,m]:=by
 induction hl with
 | refl=>exact h
 | step _ ih=>exact ih.up
abbrev tI [460]:Nat:=if Zqa then 16030 else ZaHm
abbrev tS:ZaHb
 | []=>0
 | Zcz=>tI x+Zu5
def Dd:∀ a b:Zla,tS (a++b)=tS a+tS b
 | [],b=>#[f8,aZR,tS]
 | x::a,b=>by rw[aZi,tS,tS,Dd a b];lia
def Ih:∀ gs:Zbq,(∀ g∈gs,Zm5)->#[bd,ZamE,ZabV]<=13*Zky
 | [],_=>ZaX
 | g::gs,h=>by
  have ih:=Ih gs Zapf;have h2:=(nc (h g aQi)).2;have h3:#[bd,yW,g]=ZaVP:=rfl;rw[List.flatMap_cons,aQl,aQB,aQB]
  lia
def Qq (f:bH):#[bd,bf,ZdB]<=4:=by
 have k:#[aRl,#[lJ,#[bd,bf,s]<=4]]:=Zao
 cases f<;>exact aQJ (aQL.mp k _ (by unfold kindsL bH.word;simp))
def BV [264](h:ZpX)(e:Zqa)(g:Zty):#[Dp,x.1]<=790:=by
 rw[e]at g;rcases ZtU e with ⟨f,z⟩ | ⟨w,z⟩
 ·rw[z]at g ⊢
  obtain⟨ok,gs⟩:ZarP:=g;have h1:=Ih Zl7 gs;have h2:=Qq f;have h3:=Zqh;rw[aA.txt,aQB,aQl,aQl,aQW]
  lia
 ·rw[z]at g ⊢
  have h1:=vL (show Zhb from g);rw[aA.txt,<-eI]
  lia
set_option tactic.hygienic true
def Q5 [264](h:ZpX)(g:Zty):ZaHm<=tI x:=by
 unfold tI;split
 ·rename_i e
  have:=BV h e g
  lia
 ·exact ZaX
set_option tactic.hygienic false
def Jg:#[qr,#[bd,ZoY,fs]=ZaH6]
 | []=>#[b6,ZoY]
 | Zfo=>by rw[ZoY,aQl,aQB,Jg fs,aQv,aXC]
def MA (f:Zu_)[83]:#[zN,((ZabI).map f).sum=k*(Zi5 f).sum]
 | 0=>by rw[Za'E,Za'F,Za'G];rfl
 | k+1=>by rw[aXn,aXp,aQt,Zbae,MA f fs k,Za'H,aZ0]
def Q8:∀ [39],ZS0->ZaEc->((xs.map (·.1)).map ZamJ).sum<=Zu5
 | [],_,_=>ZaX
 | Zcz,h,g=>by
  have ih:=Q8 (ZRI) #[RH,g];have:=Q5 (h x aQi) (g x aQi);rw[aQv,aQv,aXC,tS]
  lia
def MG:#[aU4,tS,ZPQ]
 | [],_=>rfl
 | Zcz,h=>by
  rw[tS,MG ZRI,aQB];unfold tI;rw[aQd ZJV]
  lia
def Iu:∀ [39],ZS0->ZaEc->ZaEb->((xs.map (·.1)).map ZamJ).sum<=800*ZaJ
 | [],_,_,_=>ZaX
 | Zcz,h,g,e=>by
  have ih:=Iu (ZRI) (#[RH,g]) #[RH,e];have:=BV ZJV (e x aQi) (g x aQi);rw[aQv,aQv,aXC,aQB]
  lia
def Gd [83]:Zayj=ZaH6+5:=by
 have e:#[bd,bf,ZaE]=3:=Zao
 rw[aA.txt,aQB,aQl,aQl,Jg,e,aQW]
 lia
def GZ (f:aA):#[Dp,ZAC]=ZamF+7:=by
 have e:#[bd,bf,ZaT]=4:=Zao
 rw[aA.txt,aQB,aQl,aQl,aQB,e,aQW]
 lia
def Wh [39]{k:Nat}[307](g:ZXw)[308]:(aA.row (List.replicate k (xs.map (·.1))).flatten).txt.length+1<=Zu5+6:=by
 rw[Gd,MA];rcases hk with rfl | ⟨hk,h1⟩
 ·have:=Q8 ok g
  rw[Nat.one_mul]
  lia
 ·have h2:=Iu ok g h1
  rw[MG h1];have:=aZK hk h2
  lia
def BF [39][264](h:∀ y∈xs,ZaPf)(hx:Zty):#[kb,xs++[x],ZaPf]:=fun y hy=>by
 rcases ZIJ with z | z
 ·exact h y z
 ·rw[Zdd];exact hx
def Ni [177]{M:Nat}(h:#[PB,#[xr,M]])[285](h1:1<=ZaJp)(h2:ZaJp<=60):Zi9 (M+1) (Zkt ZabI):=by
 refine #[aY,#[aM,BY,h1],#[aM,BY,h2],ZXX];refine #[azB,hf,fun l hl hf=>?_];rw[(List.mem_replicate.mp hl).2]at hf;exact h f hf
inductive QR [12]:Zaa
 | mk (d c:Int)(_:#[aff,d])(_:0<=d)(_:∀ (p:Addr)(f:bH)(H':Hp),#[uX,#[a_,p],Zb_,rh H' p f,f.Ok,(ZarO),p])
inductive GB [12]:Zaa
 | mk (s nm:Addr) (d:Int) (ws:Zbp) (xs:Zla) (h_0:vs=[Zai s,ZYw,Zai nm]) (h_1:0<=d) (h_2:Rv H s xs) (h_3:ZaNs) (h_4:Zayb) (h_5:ZaC_) (h_6:ZXv) (h_7:ZaJ<=20) (h_n:ZXw)
  (h_8:∀ (ys:Zla)(H':Hp),Rv H' s ys->(∀ x∈ys,ZpX)->Zos<=ZaJ+1->Dl ys<=Zu4+20->(∀ x∈ys,Zty)->tS ys<=Zu5+ZPQ->(#[vS,Ziq,s,ZAI])->Zjq):#[IZ,GB]
inductive Gw [12]:Zaa
 | mk (l nm:Addr) (c:Int) (ds:Zbq) (ws:Zbp) (h_0:vs=[Zai l,ZzW,Zai nm]) (h_1:#[aP,l,Zp_]) (h_2:#[alg,0<=d]) (h_3:ZiV<=9) (h_4:ZaNs) (h_5:Zayb) (h_6:ZaC_)
  (h_7:∀ (p:Addr)(f:aA)(H':Hp),#[uX,Zb_,#[yl,8],Za'C,Zxs,ZamH,p]):#[IZ,Gw]
inductive C9 [42][12]:Zaa
 | mk [157][431](_:Zxt)(_:#[amG,ZamK])(_:#[jk,#[q2,toS,Zi8]])
def Bl:bf #[c2," "]=Zdm:=Zao
def K0 {x y:Str}(h:bf x=bf y):x=y:=by rw[<-jc x,h,jc]
def JR [129]:Zbag:=by
 have h1:=h.1;have h2:=h.2;exact aQD (#[e2,Zbaf<10 ^ 12]) ZcE
def II [177][473](h:ZJq):#[amG,Zayj]:=by
 rw[Gd]
 have:∀ l:Zb2,f∈l->#[amG,#[abw,ZamJ]]:=fun l=>by
  induction l with
  | nil=>intro z;cases z
  | cons x l ih =>
   intro z;rw[aQv,aXC];rcases ZnD with rfl | z
   ·lia
   ·have:=ih z;lia
 have:=ZbR _ h
 lia
def RA (f:aA):#[agY,#[aRm,ZamL],ZAC]:=by
 refine K0 ?_
 have e1:#[aP5,ZamL,ZaT]:=Zao
 have e2:ZafO:=Zao
 rw[fE,fE,iO,iO,e1,e2,aA.txt];simp
def QB [177](h:ZG3):#[agY,#[eD,ZamM]++Zr4 (Za9 " ") (Zi5 ZTC),Zamm]:=by
 cases fs with
 | nil=>exact ZaGo
 | cons f fs =>
  refine K0 ?_
  have e1:#[aP5,ZamM,ZaE]:=Zao
  have e2:ZafO:=Zao
  have e3:#[af0,(Zi5 ZTC).map,bf (Za9 " ")]=ZPA ZaxN:=by
   rw[aQP,Bl]
   show #[kf,(Zi5 #[hs,32::ZacI])]=_
   have e:(fun f:aA=>32::ZacI)=fun f:aA=>ZG2:=ZPR #[hs,#[e0,iO]]
   rw[e];rfl
  rw[fE,fE,aQv,LJ,e3,iO,iO,e1,e2,aA.txt,aA.txtL,yb];simp
def T3 {f:bH}(h:1<=Zal7):#[agY,#[eD,"("]++ZdB++Za9 " "++Zr4 (Za9 " ") (ZwB gV),Zq7]:=by
 refine K0 ?_
 have e1:bf #[c2,"("]=[40]:=Zao
 have e2:ZafO:=Zao
 rw[fE,fE,fE,fE,e1,e2,iO,aA.txt,Bl]
 cases e:f.gs with
 | nil=>rw[e]at h;exact ZaGo
 | cons g gs =>
  have e3:#[af0,(ZoL gV).map,bf (Za9 " ")]=ZamE ZabV:=by
   rw[aQP,Bl];rfl
  rw[aQv,LJ,e3]
  show _=#[KC,ZdB,((32::yW g)++ZamE ZabV)]
  simp[yW]
def Fi:#[ayi,∀ c∈f.txt,c<128]
 | 0,_,h=>h.elim
 | n+1,ZeN,h=>fun c hc=>by
  rw[aA.txt]at hc;have:=FQ (show Zhb from h) c hc;unfold fV at this;have:=Zu9
  lia
 | n+1,Zed,h=>fun c hc=>by
  rw[aA.txt]at hc;rcases ZuT with rfl | hc
  ·decide
  rcases ZD' with hc | hc
  ·have:=E6 f c hc
   unfold fV at this;have:=Zu9
   lia
  rcases ZD' with hc | hc
  ·refine ZaXS
   rcases ZuT with rfl | hc
   ·decide
   ·have:=(nc (h.2 g hg)).1 c hc
    lia
  ·rw[Zaae];decide
 | n+1,Zr9,h=>fun c hc=>by
  rw[aA.txt]at hc;have ih:=Fi (n:=n) (f:=f) h;rcases ZuT with rfl | hc
  ·decide
  rcases ZD' with hc | hc
  ·have:=AU.2 c hc
   unfold fV at this;have:=Zu9
   lia
  rcases ZD' with hc | hc
  ·rcases ZuT with rfl | hc
   ·decide
   ·exact ih c hc
  ·rw[Zaae];decide
 | n+1,Zku,h=>fun c hc=>by
  rw[aA.txt,yb]at hc;rcases ZuT with rfl | hc
  ·decide
  rcases ZD' with hc | hc
  ·have:=AU.1 c hc
   unfold fV at this;have:=Zu9
   lia
  rcases ZD' with hc | hc
  ·refine ZaXS
   rcases ZuT with rfl | hc
   ·decide
   ·exact Fi (n:=n) (ZtU g hg) c hc
  ·rw[Zaae];decide
def AG [71][473](h:Zxt):#[TH,p8]:=Bj #[gL,Fi h c (by have hc:c∈ZacI:=hc;rwa [iO]at hc)]
def GK.seq [6][15][41][31][204][422]:ZaKG:=by
 rcases h with (h | ⟨o,h⟩) | h
 ·exact Zal (Zal (g _ _ h fun _ z=>nomatch z))
 ·exact Zal (Zap ⟨o,g _ _ h fun _ z=>nomatch z⟩)
 ·exact ZYM
#print Wz
namespace L2
open PySem
def Ng [9][6][161]{sp sp':Sp}(m:#[O0,sp' vs H Q E->Zjz])(F:Zaqt):#[aqs,sp'] :=
 ⟨#[ama,F.len vs H Q E (m vs H Q E h)],#[a'p,ZNo A Zcm s H Zhp us vs Q E hr e0 hb r (m vs H Q E h)]⟩
#print L2
set_option maxHeartbeats 8000000
namespace Wz
open PySem L2
abbrev KD [160]:Zgl:=if ZahR then some (numV (ZaJN (· - 48))) else none
def Tc [160]:ZDn z=KD z:=by
 unfold KD
 by_cases h:Zx2
 ·have h2:ZahR:=ZGH h
  rw[ZH2];obtain⟨ds,N⟩:=h;rw[KF N]
  have e:ZaJN (· - 48)=ds:=by
   unfold bf;rw[N.eq,aQP]
   have:((· - 48) ∘ (·+48):Nat->Nat)=id:=ZPR #[cV,#[hy,x+48-48=x]]
   rw[this,List.map_id]
  rw[e]
 ·have h2:¬ (ZahR):=#[bk,h ((qA z).mpr q)]
  rw[Zuo,T7 (fun ds q=>h ⟨ds,q⟩)]
abbrev Kk [34]:ZaDz:=#[a0Q,KD]
def Kl:Zl6=Kk:=funext fun l=>by unfold numAt Kk;rw[Tc]
abbrev Hi:ZaJ9
 | 0,_=>none
 | d+1,l =>
  if Zamy then
   (if ZaUi then #[aSB,(Hi d)]
   else #[aSC,Kk])
  else Zamv
def Hj:∀ d,Zgf d=Hi d
 | 0=>ZPR fun l=>#[bm,Zgf,Hi]
 | d+1=>ZPR fun l=>by rw[Zgf,Hi,Hj d,Kl]
abbrev O9 [160]:Bool:=match Hi 8 ZgT with
 | Zab (_,[])=>false
 | _=>true
def Oz [305](h:ZaNK):ZagM:=fun f e=>by
 unfold O9 at h;rw[Hj 8]at e;rw[e]at h;cases h
def Fh {x y:Str}(h1:p8 x)(h2:p8 y):p8 (x++y):=Bj fun c hc=>by
 have hc:c∈bf (x++y):=hc;rw[fE]at hc;rcases ZD' with z | z
 ·exact Jx h1 c z
 ·exact Jx h2 c z
def gF (x y:Str):ZaXb:=ZakM x y
def OS [29][94][28]:∀ i,i<=Zde->#[bd,(ZwI i).filter,yH]=#[hM,gR,ZwI,i]/\∀ p∈ZafL,Zawf
 | 0,_=>⟨rfl,fun p hp=>by cases hp⟩
 | i+1,hi=>by
  obtain⟨ih1,ih2⟩:=OS dn nm i Zaf;obtain⟨d,hd⟩:∃ d,#[av,es[i]?,d]:=ZayZ;have P:=qF dn nm i;have hj:=dn i d hd;have hn:=nm d (aQC hd);rw[aQM,hd,aQK,yP,aXQ,aQl,ih1]
  cases d with
  | come g=>exact ZazV
  | go g=>exact ZazV
  | exch a b =>
   have nm2:Zz9∉ZafL:=fun z=>by
    have m:qw #[aeo,0].circ a b=Zad:=by
     rw[P.al a b];unfold vH;exact Zz3
    cases e1:ZaZ #[aeo,0].worn a with
    | none=>simp[bo,e1]at hj
    | some x =>
     cases e2:ZaZ #[aeo,0].worn b with
     | none=>simp[bo,e1,e2]at hj
     | some y=>by_cases q:a=b<;>simp[bo,e1,e2,m,q]at hj
   have e:yu (gR (ZwI i)) ZAT=ZafL++[Zz9]:=by
    show yq _ _=_
    unfold yq;rw[aQc nm2]
   rw[e,aQl];refine#[d5,Zp4];rcases ZZG with z | z
   ·exact ih2 p z
   ·rw[Zdd]
    have ha:=(hn a ZjD).1;have hb:=(hn b ZjD).1;unfold lH;split
    ·exact⟨hb,ha⟩
    ·exact⟨ha,hb⟩
def Co [80][Zbah α]:#[aZe,ZdP]
 | [],m,_,_=>Zcr
 | x::l,m,nd,h=>by
  obtain⟨n1,n2⟩:=Zab2;have hx:=Zad4;have ih:=Co (m:=Zakn x) n2 #[ka,#[aSZ,y≠x,#[aH,#[fP,n1,z,hy]]] (h y ZRG)];rw[Za7u hx]at ih;have:ZaAg:=Zako hx;rw[aQB];lia
def Ia [29][18](nd:ml.Nodup)(h:Zax0):ZakR<=Zhv*Zhv:=by
 have:=Co (m:=L.flatMap fun a=>L.map #[iC,ZqL]) nd fun p hp=>by
  obtain⟨h1,h2⟩:=h p hp;exact aZM.mpr ⟨p.1,h1,Zl0 #[eE,p.2,h2]⟩
 have sm:∀ (m l:Zbq),#[bd,l.flatMap,fun a=>m.map #[iC,ZqL]]=Zb8*ZN8:=fun m l=>by
  induction l with
  | nil=>simp
  | cons a l ih=>rw[List.flatMap_cons,aQl,ih,Z9,aQB,Nat.add_mul,Nat.one_mul,aZ0]
 rw[sm]at this;exact this
def TH [29][94][28]:#[bd,Zbaj,yH]<=Zhv*Zhv:=by
 obtain⟨h1,h2⟩:=OS dn nm Zde Za8;have P:=ZaK1;rw[aQH]at h1 h2 P;rw[h1];exact Ia P.mo.nd h2
abbrev Bc [73][59][82]:Zaa:=ZnX/\(ZHv)/\(Zayk)/\ZaJk/\Zde<=60+Zbak/\∀ p∈ps,ZaUq
def Pl [94][45][29](dn:Zab5)(nm:#[UE,ZFW])(hL:ZaJk)(h:Zde<=60+Zbak):#[bf,ZAL,285]:=by
 have e:=TH dn nm
 have f:Za2N:=List.filter_eq_self.mpr fun d hd=>by
  obtain⟨p,_,rfl⟩:ao:=ZaAF;rfl
 rw[aXQ,f,aQl,Z9]at e;rw[aQl,Z9];have:Zhv*Zhv<=15*15:=aZK hL hL
 lia
def Lw [29][94]{e:ZgF}(P:ZacT)(hj:#[AG,Zp3]):e.1∈L/\e.2∈L:=by
 have hj:#[AG,ZaVg]:=hj
 cases e1:ZaZ Zqg e.1 with
 | none=>simp[bo,e1]at hj
 | some x =>
  cases e2:ZaZ Zqg e.2 with
  | none=>simp[bo,e1,e2]at hj
  | some y=>exact⟨#[aS9,e1],#[aS9,e2]⟩
inductive QG [426][56]:Zaa
 | mk (p l:Addr)(A:HA)[73][59][82](_:vs=[ZcF,Zlb])(_:bA c.C H p A ZgZ)(_:Zzo)(_:ZaIL)(_:#[aV0,#[a84,Zuu->Ev c H H' q B ZaCv->#[d9,q]]])
inductive IV [304][56]:Zaa
 | mk (k r:Addr)(A:KA)(B:HA)[73][59][82](_:vs=[Zai k,Zai r])(_:On c ck H k A oH B ZgZ)(_:dh H r ps)(_:r∉Zdg)(_:ZaIL)(_:#[aV0,#[asq,ZaCv]])
def On.self [195][38][236]:#[Km,st,H]:=⟨B,x.hall,x.kp,(fun b o e _ _=>e),ZaA3,ZPe (ZPS _)⟩
def qh.step [195][268][149]{B B1:HA}{st2:eG}{s:wq}(hk:∃ o,#[aP,k,o])(kB:k∉Zdg)(k1:#[agz,ZayG])[215](x:qh c ck H1 k A B1 st2 s H2):#[Km,st2,H2]:=by
 obtain⟨B2,h1,h2,h3,h4,h5⟩:=x;refine #[aYc,B2,h3 b o (k1 b o e n n') Zg8 n',Zxg,ZwJ h5]
 ·rcases f1 b z with y | y
  ·exact n y
  ·rw[e]at y;cases y
 ·rcases h4 b hb with y | y
  ·exact f1 b y
  ·exact Zap (t1.free y)
def qh.kin [195]{H H1:Hp}[149]{B:HA}{st st1:eG}(I:ZaIM)(x:#[asp,st1,H1]):∃ B1,On c ck H1 k A oH B1 st1/\(#[agz,ZayG])/\(Zaxc)/\ZJH:=by
 obtain⟨B1,h1,h2,h3,h4,h5⟩:=x;refine cY B1 ⟨h2,h1,ZfO,fun ps e=>by cases e⟩ h3 h4 h5;rcases h4 _ z with y | y
 ·exact I.kB y
 ·rw[I.kp.ob]at y;cases y
structure Xc [1][426](cq y0 y1 cB cT cU cL cF:Addr):Zaa where
 xB:#[a76,[ZdZ,Zfz,Zd0,Zga,y0,y1,cq],cB]
 xT:#[a76,[ZdZ,Zfz,Zd0,Zga,y0,y1,cq,cB],cT]
 xU:#[a76,[ZdZ,Zfz,Zd0,Zga,y0,y1,cq,cB,cT],cU]
 xL:#[a76,[ZdZ,Zfz,Zd0,Zga,y0,y1,cq,cB,cT,cU],cL]
 xF:#[a76,[ZdZ,Zfz,Zd0,Zga,y0,y1,cq,cB,cT,cU,cL],cF]
structure ij [410](w:World)[426](cq cX ck cb ze dl y0 y1 cB cT cU cL cF kd cs:Addr)(q:MP):Zaa where
 k:HK K mg ck
 e:WB K mg ze
 mP:#[bW,Zbal,cq]
 mQ:#[bW,Zbam,cX]
 ms:#[bW,Zban,dl]
 gd:GD K Zi7 dl ZDq
 mN:#[bW,Zbao,y0]
 m:#[bW,"NoWay",y1]
 xn:#[a76,[y0,y1,cq,cB,cT,cU,cL,cF],Zgb]
 g:Yt K mg Zd0 cU cb cB cT kd cL
 r:Yu K mg w cF kd cs q
 x:Xc K c cq y0 y1 cB cT cU cL cF
section
variable {K:PySem.W.Frag}{mg:Zpf}{w:World}{c:HX}{cq cX ck cb ze dl y0 y1 cB cT cU cL cF kD cs:Addr}{q:MP}(u:#[aik,cT,kD,q])
include u
def ij.mkd:=u.g.mkd
def ij.ml:=u.g.ml
def ij.mt:=u.g.mt
def ij.kd:=u.g.kd
def ij.mp:=u.g.mp
def ij.eU:=u.g.eU
def ij.mU:=u.g.mU
def ij.eB:=u.g.eB
def ij.mB:=u.g.mB
def ij.eT:=u.g.eT
def ij.mT:=u.g.mT
def ij.bb:=u.g.bb
def ij.tt:=u.g.tt
def ij.uu:=u.g.uu
def ij.eL:=u.g.eL
def ij.mL:=u.g.mL
def ij.ll:=u.g.ll
def ij.f:=u.g.f
def ij.md:=u.r.md
def ij.dg:=u.r.dg
def ij.eF:=u.r.eF
def ij.mF:=u.r.mF
def ij.ff:=u.r.ff
def ij.dp:=u.r.dp
def ij.sz:=u.r.sz
def ij.t1:=u.r.t1
def ij.t2:=u.r.t2
def ij.t3:=u.r.t3
def ij.t4:=u.r.t4
def ij.t5:=u.r.t5
def ij.t6:=u.r.t6
def ij.t7:=u.r.t7
def ij.msz:=u.r.ms
#where
def dh.gk [406][204]:ZabY:=by
 obtain⟨as,h1,p⟩:ao:=h;exact #[akP,g.lst h1,g.tup z]
def jL.gk [15][223][173](h:ZaOL)[204]:jL H' l ds:=by
 obtain⟨as,h1,p⟩:ao:=h;exact #[akP,g.lst h1,by rw[wO]at z ⊢;exact g.tup z]
def GK.dK [197][46]{xs:Ziu}(e:#[cf,Zazv]):#[pu,Zazv]:=k b _ e fun _ z=>nomatch z
def GK.ins [197]{b C dx:Addr}{xs:Zpa}(e:#[cf,ZaBG]):#[pu,ZaBG]:=k b _ e fun _ z=>nomatch z
def bA.gk [198][112][257][204]:ZaeD :=
 ⟨ZadL,x.nd,ZoZ x.w,ZaD_,ZoZ x.c,Zj4 x.cs fun a y e=>ZoZ e,x.d.gk g⟩
section
variable {c:HX}{ck ze cb:Addr}{H H':Hp}{e:Addr}{A:EA}{D:KA}{B B':HA}{st w_:eG}{F:Zei}{P0:Addr}{lp:Pos}{ql:Str}
def f8.gk [40][204]:ZK2 :=
 ⟨ZadL,⟨⟨g.ins Za'V,fun ps e=>(by cases e),fun ps e=>(by cases e)⟩,x.ki.hall.gk g,x.ki.kB,x.ki.pB⟩,x.px⟩
def iQ.gk [287][204]:ZaZ3 :=
 #[aia,ZadL,ZoZ x.f1,ZoZ x.f2,ZoZ x.f3,g.fg (x.fg e he),#[SU,0].gk g]
def jG.gk [47][204]:Zagc :=
 ⟨ZaD_,fun e he=>⟨fun h=>(let ⟨l,e1,e2,e3⟩:=ZLY h;⟨l,e1,e2.gk g,e3⟩),ZaeW⟩⟩
def uE.gk [219][204]:Zacp :=
 ⟨ZoZ x.hw,g _ _ x.hm (fun _ z=>nomatch z),x.hs.gk g,x.w0,x.m0,x.s0⟩
abbrev Le [32](F:Zei):Zaa:=∀ b∈F,ZA'
def Le.soft (m:Zacs):WM H F:=#[cX,⟨fun C dx fs z=>#[c1,m].ins z,fun xs z=>#[c1,m].tup z⟩]
def BP (t:ZRd)[123]:ZRe:=by
 have no:∀ [429],Zd8->#[aeK,.dK]->#[aeK,.dT]->#[aeK,Za6]->ZGU:=fun {b o} e n1 n2 n3 hb=>by
  rcases m b hb with ⟨k,h⟩ | ⟨k,h⟩ | ⟨k,h⟩<;>rw[e]at h<;>injection h with h
  ·exact n1 _ h
  ·exact n2 _ h
  ·exact n3 _ h
 rcases t with t | ⟨c',t,oc,vs,tk,q,r⟩
 ·exact Zal (k _ _ t (no t (fun _ z=>nomatch z) (fun _ z=>nomatch z) (fun _ z=>nomatch z)))
 ·exact Zap (iA c' (k _ _ t (no t (fun _ z=>nomatch z) (fun _ z=>nomatch z) (fun _ z=>nomatch z))) oc vs tk (k _ _ q (no q (fun _ z=>nomatch z) (fun _ z=>nomatch z) (fun _ z=>nomatch z))) r)
def EJ [223][130](x:ZJP)[123](n:l∉F):ZabY:=by
 obtain⟨as,h1,p⟩:=x;exact #[akP,k _ _ h1 n,#[aGx,(m a y)]]
set_option tactic.hygienic true
def EK [223][130][173](x:ZJP)(y:ZaOL)(ne:ZZU):False:=by
 obtain⟨as,h1,p⟩:=x;obtain⟨as2,h2,p2⟩:ao:=y
 have e:as=as2:=by
  have:=ZamN h2;injection this with this;injection this with this;exact #[aPn,fun a b z=>Zbap]
 subst e
 cases p2 with
 | nil=>exact ne rfl
 | cons a _ =>
  cases p with
  | cons b _ =>
   rw[b]at a
   rename_i d _ _ _ _ _ _
   have a:=aQp a;rw[wO]at a;injection a with a;injection a with a;cases a
set_option tactic.hygienic false
def Te {p l:Addr}[130](S:#[Mn,p])[360]:ZJv:=fun hb=>by
 obtain⟨as,h1,_⟩:=id x;simp only[HA.fp,aQm]at hb;rcases hb with z | z | z | z | hb
 ·rw[z,S.w]at h1;cases h1
 ·rw[z,S.h]at h1;cases h1
 ·rw[z,S.c]at h1;cases h1
 ·exact EK x (z▸S.d) ne
 ·obtain⟨i,hi,e⟩:=aX1 hb
  obtain⟨y,_,q⟩:=Zaqr;rw[e,h1]at q;cases q
def QC {H0:Hp}{w m ls l:Addr}[18][130][248][360]:l∉Znc:=fun hb=>by
 refine #[c8,x,fun as h1 _=>?_];simp only[aQm,aQ1,aXz]at hb;rcases hb with z | z | z
 ·rw[z,M.hw]at h1;cases h1
 ·rw[z,M.hm]at h1;cases h1
 ·exact EK x (z▸M.hs) ne
def B3 {H0:Hp}{w m ls:Addr}[18][248]:Le H Znc:=fun b hb=>by
 refine ao M.hs fun as h3 _=>?_;simp only[aQm,aQ1,aXz]at hb;rcases hb with rfl | rfl | rfl
 ·exact #[ib,M.hw]
 ·exact #[m9,#[aR,M.hm]]
 ·exact #[nO,#[aR,h3]]
def iQ.kp [287][123](n:ZwK∉F/\ZwL∉F/\ZwM∉F)[283]:ZaZ3 :=
 #[aia,k _ _ ZiX #[aH,(m _ z).ins ZiX],k _ _ x.f1 n.1,k _ _ x.f2 n.2.1,k _ _ x.f3 n.2.2,(x.fg e he).mono fun b ys z=>#[aGx,(m _ y)],#[aWQ,ZSU,ZSU]]
def jG.kp [47][123](n:d∉F)[283]:Zagc :=
 ⟨k _ _ x.h n,fun e he=>⟨fun h=>(let ⟨l,e1,e2,e3⟩:=ZLY h;⟨l,e1,#[aWQ,e2,e2],e3⟩),ZaeW⟩⟩
def uE.kp [219](k:Zabz)(mu:Zacs)(n:ZaJu):Zacp :=
 Sd x k (fun b xs e z=>(mu b z).tup e) n
def f8.kp [40][123][462]:ZK2:=x.kept k m.soft dj
#where
abbrev Fr [32](b:Addr):Zaa:=∀ o,Zd8->∃ ps,o=ZeS ps
def WW [38][46](h:Zbb):Fr H b:=fun o e=>by rw[h]at e;cases e
def WV [15][46][204](h:Zpm):Fr H b:=fun o e=>by
 cases o with
 | tbl ps=>exact#[e_,ps]
 | _=>exact absurd (g b _ e fun _ z=>nomatch z) (by rw[h];exact fun z=>nomatch z)
abbrev Oo [174]:Zaa:=ZaUq
def UK {l:Zbq}(h:∀ g∈l,ZdG):∀ p∈si l,Oo p:=by
 induction l with
 | nil=>exact fun p hp=>nomatch hp
 | cons g l ih =>
  intro p hp;rcases ZZG with z | z
  ·obtain⟨o,ho,rfl⟩:ao:=ZrW z
   exact⟨h g aQi,h o #[dh,ho]⟩
  ·exact ih (Zapf) p z
def Xr [430](h:∀ g∈f.gs,ZdG):∀ p∈f.row,Oo p:=by
 cases f with
 | pair a b=>intro p hp;rw[Zdc hp];exact⟨h a Zub,h b Zub⟩
 | line g=>intro p hp;exact⟨h _ (aZQ hp).1,h _ (ZPO (aZQ hp).2)⟩
 | star g =>
  intro p hp;obtain⟨o,ho,rfl⟩:ao:=#[rX,hp];refine#[ne,h o (ZPO ho)]
  cases g with
  | nil=>simp at ho
  | cons a g=>exact h a aQi
 | all g=>exact UK h
 | quad a b c d =>
  have h1:=h a Zub;have h2:=h b Zub;have h3:=h c Zub;have h4:=h d Zub;intro p hp;simp only[bH.row,Qt,aQm,aQ1,aXz]at hp;rcases hp with z | z | z | z | z | z<;>rw[z]<;>constructor<;>assumption
def yD [19](sb:ZaMJ):∀ [42](f:aA),Zxt->ZDN->ZasB
 | 0,_,h,_=>h.elim
 | n+1,Zed,h,_=>by
  rw[aA.rowF];exact Xr h.1 #[gc,JQ (h.2 g hg)]
 | n+1,ZeN,h,hl=>by
  rw[aA.rowF];rw[aA.len]at hl;unfold iP at hl;unfold lA
  cases e:Zlv with
  | none=>exact fun p hp=>nomatch hp
  | some x=>rw[e]at hl;exact sb x Zvi hl
 | n+1,Zr9,h,hl=>by
  rw[aA.rowF];rw[aA.len]at hl;exact #[oe,yD sb n f h hl p (Za_d hp)]
 | n+1,Zku,h,hl=>by
  rw[aA.len]at hl;rw[aA.rowF,pX];intro p hp0;refine ao (Zamh hp0) fun f hf hp=>?_;refine yD sb n f ZaPX ?_ p hp;refine aQZ ?_ hl;clear hl hp h hp0
  induction fs with
  | nil=>cases hf
  | cons g fs ih =>
   rw[aA.lenL];rcases #[hU,hf] with z | z
   ·rw[z];lia
   ·have:=ih z;lia
#print Wz
namespace L2
open PySem PySem.Spec PyProof.Rows
def SK [61]{a:Str}{j:Nat}[192]{p1 p2 pos:Pos}[108](ha:Zbaq<=10) :
  #[ad3,[ZwE ZZD j p1,#[aob,e,p2]],(#[aQT,#[hR,ZaGj,H1]])]:=by
 intro pins s σ H Q I hq;have sl:Za9b:=aQU;have hsa:PE X #[y2,ZZD,p1] (tC (Zag a)):=ak;refine ZZo
 show #[aKc,(#[hH,#[y2,ZZD,p1]]::#[aoa,e,p2]::[])]
 refine ZamP (bZ (hsa Zam s σ H (#[C2,v=Zag a/\H'=H]) I Zgz) Zg3);obtain ⟨x,H1,I1,rx,ex,eh⟩:=zz;subst ex eh;obtain⟨tk,rfl⟩:=rx
 have e0:Zht++a=a:=by cases a with | mk c=>show (⟨#[]++c⟩:Str)=⟨c⟩;rw[Array.empty_append]
 dsimp only;rw[e0];refine #[bdR,#[yH,he,hq]];obtain ⟨x5,H5,I5,rx5,i,ei,hi,q5⟩:=zz;subst ei;obtain⟨tk5,rfl⟩:=rx5
 have hd:ZLf:=by
  by_cases h0:Zajw
  ·rw[h0];decide
  ·exact Za87
 have li:Zaa5:=by
  have:=ZahV;rw[PySem.ofString_length]
  lia
 have l3:#[dM,ZaGj,Zbaq+#[qc,i]]:=ZakN;exact Za8l
#print L2
namespace Wz
open PySem L2
def xM {c:Nat}:∀ {p r:Zbr},c∉p->cu c ZGq=(p,[c],r)
 | [],r,_=>by unfold cu;rw[aZR,kz,Zaz];rfl
 | a::p,r,h=>by
  have ih:=xM (p:=p) (r:=r) #[bC,h ZAh];have na:¬ a=c:=#[aH,ZaPT]
  have e:cu c (a::ZGq)=(a::#[ab',0].1,#[ab',0].2.1,#[ab',0].2.2):=by
   unfold cu;rw[kz,aQc na];cases j9 c ZGq<;>rfl
  rw[aZi,e,ih]
abbrev rdF [160]:ZYF:=match ZVg with
 | Zab ZT7=>Zab f
 | _=>none
def xV [305][473]:ZmK↔ZaYl:=by
 unfold rdF
 cases e:ZVg with
 | none=>exact⟨fun h=>(nomatch h),fun h=>(nomatch h)⟩
 | some q =>
  obtain⟨g,r⟩:=q
  cases r with
  | nil=>exact⟨#[ge,(by injection h with h;rw[h])],#[ge,(by injection h with h;injection h with h;rw[h])]⟩
  | cons a r=>exact⟨fun h=>(nomatch h),fun h=>(by injection h with h;injection h with _ h;cases h)⟩
def CO [305](h:ZagM):Zna:=by
 cases e:rdF z with
 | none=>rfl
 | some f=>exact #[oT,xV.mp,e,(h f)]
structure Ln [160]:Zaa where
 as:Zio
 ln:#[sH,900000]
section
variable (c:HX)(ck ze cb cF cU cL cB cT P0:Addr)(lp:Pos)(ql:Str)
structure GN [351](E:XK):Zaa where
 nf:ZaHa
 un:#[qH,ZVz,#[Rg,cU]]
 tl:∀ f,ZmK->Zcv->ZDO->#[Rg,cL]
 ro:ZaX5
 ok:Za2p
 no:#[aI3,∀ H1,ZyX->ZRh->nN c E H1 ZaIC]
structure GU [284](E:XK):Zaa where
 nf:ZaHa
 ok:Za2Z
 ba:#[qH,ZgN bs w f=.bad,#[Rg,cB]]
 ta:#[qH,ZgN bs w f=ZPG,#[Rg,cT]]
 un:#[qH,ZgN bs w f=ZPH,#[Rg,cU]]
inductive QI [56]:Zaa
 | mk [278][160](_:Zacy)(_:ZacY)[220](_:Zat0)
inductive QO [56]:Zaa
 | mk (e:Addr)(A:EA)(dx:Addr)(Y:BA)[30](r w z:Str)(_:vs=[Zai e,ZYx])(_:ZMD)[220](h_r:ZaDO)(h_p:ZaIs)(h_w:Zuy)(h_l:ZJ7)(h_b:ZR')(_:ZaLd)
#where
inductive Mo [186][12]:Zaa
 | mk [57](_:#[hR,ZamQ,H])
inductive Ud [186][12]:Zaa
 | mk [57](_:#[jZ,ZkF])
inductive Ue [186][12]:Zaa
 | mk [57](_:#[jk,Q (Zah 0) H'])
inductive Uc [186][12]:Zaa
 | mk [57](_:Q ZaK H)
inductive QM [304][56]:Zaa
 | mk [262][369][183](_:vs=[Zai k,ZzX,Zup])[316](_:bP a)(_:bP b)(_:#[b5,#[xD,ZAT],#[asq,#[aSs,ZrT]],#[t',#[aSs,bo]]])
inductive KR [304][56]:Zaa
 | mk [262][369][169](_:vs=[Zai k,Zah g])[316](_:ZdG)(_:ZaaW->#[asq,ZaRd])(_:Zag9->#[jl,ZdZ])
inductive Ub [304][56]:Zaa
 | mk (k t:Addr)[169](_:vs=[Zai k,Zea])(_:#[mU,#[cK,Zve]])(_:KR c ck [Zai k,Zah g] H Q E)
def Lk [78][275](hj:Zag9):bo st Zjb=ZlX:=by
 show #[azm,ZlX]
 by_cases h:ZauR
 ·rw[Zcy]
 ·exact #[oV,show #[azm,Zbe] by rw[Zcx],hj]
inductive oG where
 | come [169] | rings | state
abbrev oG.w0:oG->Str
 | ZH'=>"come" | ZPX=>"rings" | ZPY=>"state"
abbrev oG.ns:oG->Zbq
 | Zja=>[g] | _=>[]
abbrev p9 [151][181](q:oG)(Q:VK)(R:ZjU):Zaa:=match q with
 | Zja=>ZdG/\(ZaaW->#[gK,#[F4,H,ZaRd]->ZaBA])/\(Zag9->#[jk,R H'])
 | ZPX=>ZaLB
 | ZPY=>#[jk,#[kL,ZamR]]
def p9.mono [90]{H H1:Hp}[22][78]{q:oG}{Q:VK}{R:ZjU}[335][227]:#[zE,H1,Q,R]:=by
 cases q with
 | come g=>exact #[aY,h.1,(fun j H' m=>ZIk j H' (m.back s)),fun j H' x=>ZtU j H' (ZPb x)]
 | rings=>exact ZaZq
 | state=>exact ZaZq
def p9.imp [388]{q:oG}{Q Q':VK}{R R':ZjU}[335](i:∀ v H',ZID->Q' v H')(j:#[gK,R H'->R' H']):#[zE,H,Q',R']:=by
 cases q with
 | come g=>exact #[aY,h.1,(fun d H' m=>i _ _ (ZIk d H' m)),fun d H' x=>j _ (ZtU d H' x)]
 | rings=>exact ZaU7
 | state=>exact ZaU7
structure wG [160](q:oG):Zaa where
 as:Zio
 ln:ZaBw
 wd:uc 32 z=Zi_::ZaJc
 gs:∀ g∈q.ns,Zm5
inductive QQ [426](ck ze:Addr)[56]:Zaa
 | mk (e t:Addr)(A:EA)(D:KA)[369](q:oG)(_:vs=[Zai e,Zea])(_:ZaeB)(_:#[mU,#[W_,Zi_,ZUP]])(_:ZaX2)
abbrev Oy:Zbp:=[Zcn,Zl5,Zlx]
def Ry [463]:¬ Zi_=s:=fun e=>h (by rw[<-e];cases q<;>simp[Oy,oG.w0])
def AH [463]:#[lN,Zi_,s]:=dS (Ry h)
def MR (q:oG):JN ZDq Zi_=Zah (#[bc,ZaHv]:Nat):=by
 cases q with
 | come g=>show JN ZDq #[c2,Zcn]=Zau 2;decide +kernel
 | rings=>show JN ZDq #[c2,Zl5]=Zau 1;decide +kernel
 | state=>show JN ZDq #[c2,Zlx]=Zau 1;decide +kernel
section
variable (c:HX)(ck ze cb cF cU cL cB cT P0:Addr)(lp:Pos)(ql:Str)
inductive zh [56]:Zaa
 | ask [106](h_3:ZaX2):Zaaw
 | dance [278](y z:Str)[36](h_5:Zat0):Zaaw
 | name [265](h_5:ZaLd):Zaaw
structure WA [351]:Zaa where
 nf:ZaRL
 un:#[qH,ZVz,#[V_,ZamS]]
 tl:∀ f,ZmK->Zcv->ZDO->#[V_,Zbar]
 ro:ZaX5
 ok:Za2p
 no:#[aI3,#[Rf,#[q2,Su,ZaIC]]]
abbrev Xk:DO->Str
 | Zbe=>"done"
 | .bad=>"no: BadName"
 | ZPG=>"no: Taken"
 | ZPH=>"no: Unknown"
structure WJ [284]:Zaa where
 nf:ZaRL
 ok:Za2Z
 no:#[qH,ZahH,#[Rf,#[q2,Xk,ZaeC]]]
inductive lN [56]:Zaa
 | ask [106](h_3:#[zE,H,Q,(Q (Zag Zbas))]):Zaav
 | dance [278](y z:Str)[36](h_5:WA c ck ze P0 lp ql H e A D B es bs L z Q):Zaav
 | name [265](h_5:WJ cb P0 lp ql H ZkA Y bs w z Q):Zaav
inductive j3 [12]:Zaa
 | mk (e:Addr)(z r:Str)(_:vs=[Zai e,ZeG,ZYx])(_:#[sY,lN,ZaOl,(#[NO,∃ y,v=Zy7/\Q (.bl (ZlI (y=r))) H1]),E0])
#where
section
variable {c:HX}{ck ze cb P0:Addr}{lp:Pos}{ql:Str}{vs:Zbs}{H:Hp}{Q Q':VK}{E E':XK}
def lN.imp [310](i:∀ v H1,Q v H1->Q' v H1):#[sY,lN,vs,Q',E']:=by
 rcases h with ⟨e,A,D,B,st,z,q,h0,h1,h2,h3⟩ | ⟨e,A,D,B,es,Y,bs,L,y,z,h0,hy,hp,h1,h2,h3,h4,s⟩ | ⟨e,A,Y,bs,y,r,w,z,h0,hy,hq,h1,h2,h3,h4,hr,hp,hs,hw,hl,hb,s⟩
 ·exact .ask e A D B st z q h0 h1 h2 (h3.imp i fun H'=>i _ H')
 ·exact ZDr e A D B es Y bs L y z h0 hy hp h1 h2 h3 h4 ⟨ZaMM,#[baE,s.un],fun f a b d H' g t=>i _ _ (s.tl f a b d H' g t),s.ro,fun f a b d h H1 H' g t m=>i _ _ (s.ok f a b d h H1 H' g t m),fun f a b d h H' g t=>i _ _ (s.no f a b d h H' g t)⟩
 ·exact Zd1 e A Y bs y r w z h0 hy hq h1 h2 h3 h4 hr hp hs hw hl hb ⟨ZaMM,fun f a b H1 p g t x H' e1 e2 e3 e4 e5 e6 e7=>i _ _ (s.ok f a b H1 p g t x H' e1 e2 e3 e4 e5 e6 e7),#[baE,s.no]⟩
def lN.ob [310]:∃ (e:Addr)(z:Str)(dx:Addr)(a b d:V),vs=ZaOl/\#[aP,e,#[pF,(Jq a b d)]]:=by
 rcases h with ⟨e,A,D,B,st,z,q,h0,I,_⟩ | ⟨e,A,D,B,es,Y,bs,L,y,z,h0,hy,hp,h1,_⟩ | ⟨e,A,Y,bs,y,r,w,z,h0,hy,hq,h1,_⟩
 ·exact #[agu,z,ZwN]
 ·exact #[agu,y,h1.ob]
 ·exact #[agu,y,h1]
#where
inductive Gu [426](ck ze cb:Addr)[12]:Zaa
 | mk (e dx:Addr)(_:#[nL,e])(_:#[aP,e,ZaCm])(_:∀ (A:EA)(D:KA)(B:HA)(Y:BA)(H':Hp),f8 c ck ze H' e A D B Zls->iQ cb H' ZkA Y []->#[agf,e]->Zaxd->(#[aXk,Zbb/\Zyr])->Zjq)
abbrev UC [5][426](ck ze cb:Addr):Zaa:=#[atm,ze,aY P w K mg ZaS eR 3 fI fd ZfD ZahW,ZfD]
def EG [61]{c:HX}{ck ze cb:Addr}{p pos:Pos}(M:#[WL,UC,c,ck,ze,cb])(U:WB X.K ZcA ze)(hr:fj 4 X.A)(hg:Gl X ZPM):#[aht,ZPM,ze,ZahW]:=by
 revert M;intro a_;obtain⟨fI,fd,M,G,hb⟩:bM:=a_;exact #[aif,U.mE]
open Classical in
noncomputable def dncS (es:Zcj) (bs:Zci) (f:aA):Str:=if Zcv then (if ZDN then Za15 else "no: TooLong") else "no: Unknown"
open Classical in
noncomputable def dncE (es:Zcj) (bs:Zci) (f:aA):Zcj:=#[alE,Zcv/\ZDN,ZaRM]
structure Jo [82][73]:Zaa where
 dn:ZnX
 nm:ZHv
 ln:Zde<=12+Zbak
 ne:Ztt
structure Tw [30]:Zaa where
 nm:#[sb,iD e.w=Zad]
 sm:ZaMJ
inductive KP [12]:Zaa
 | mk (t d p w m ls:Addr) (es:Zcj) (bs:Zci) (tv:ZeO) (f:aA) (cn:Int) (h_0:vs=#[kS,t,d,ZcF]) (h_1:Zabg) (h_2:ZaXo) (h_3:ZFh) (h_4:ZJt) (h_5:Za'C) (h_6:Zn4) (h_d:d∉Znc) (h_s:ZasC)
  (h_7:#[gK,Za2c->ZaDe->#[kL,ZKn]]):#[IZ,KP]
abbrev mi:Zbp:=["",ZbZ,ZaE,ZbH,"Hey",Zbat]
abbrev Ai [246]:Zaa:=ZKp\/Zhb
inductive KW [12]:Zaa
 | mk (d p:Addr) (bs:Zci) (tv:ZeO) (w:Str) (f:aA) (h_0:#[aVL,d]) (h_1:ZFh) (h_2:ZJt) (h_3:Za'C) (h_4:ZnK) (h_b:ZR') (h_5:ZahH->#[jk,#[q2,Xk,ZaeC]])
  (h_6:Zzm->∀ (x:BE)(tv':ZeO)(H':Hp),x.w=w->ZacM->ZagC->ZaKO->ZaDd->ZaBA):#[IZ,KW]
inductive Mw [12]:Zaa
 | mk (c:Int)[399][30](tv:ZeO)(_:vs=[ZzW,Zni])(_:0<=c)(_:ZFh)(_:Zvb)(h_b:ZR')(_:#[aMK,ZnK])
abbrev lE [160]:Str:=#[eD,ZDs]++z
abbrev rj (w z:Str):Str:=((#[eD,ZPZ]++w)++ZaAP)++z
inductive Gy [1][12]:Zaa
 | mk (t d a w m ls:Addr) (ns:Zbq) (k:Nat) (cn:Int) (es:Zcj) (bs:Zci) (tv:ZeO) (h_0:vs=[Zea,Zni,Zb1,Zah k,Zah cn]) (h_1:Zabg) (h_2:ZaXo) (h_3:ZFh) (h_4:ZLC) (h_6:Zn4) (h_7:Zvb) (h_b:ZR') (h_d:d∉Znc) (h_k:k<=100)
  (k_1:∀ (z:Str)(r:Addr)(H':Hp),ZnC->Zna->Zb_->#[bO,r,#[cK,[Zag (lE z),Zag ZDt]]]->#[d9,r])
  (k_2:∀ (f:aA)(r:Addr)(H':Hp),#[uX,Zxs,ZamH,Za2c,ZaDe,#[bO,r,#[kZ,ZagT,Zag ZKn]],r])
  (k_3:∀ (wd z:Str)(r:Addr)(H':Hp),#[uX,Ai wd,ZnC,Zna,Zb_,#[bO,r,#[kZ,(rj wd z),Zag ZDt]],r])
  (k_4:∀ (wd:Str)(f:aA)(r:Addr)(H':Hp),Ai wd->Zxs->ZamH->#[mR,ZgN bs wd f]->Zb_->#[bO,r,#[kZ,ZadI,Zag (Xk (ZgN bs wd f))]]->#[d9,r])
  (k_5:∀ (wd:Str)(f:aA)(x:BE)(tv':ZeO)(r:Addr)(H':Hp),Ai wd->Zxs->ZamH->ZgN bs wd f=Zbe->x.w=wd->ZacM->ZagC->ZaKO->ZaDd->#[bO,r,#[kZ,ZadI,Zag ZiY]]->#[d9,r]):Gy K vs H Q E_
structure oF [426](ck ze cb P0:Addr)(lp:Pos)(ql:Str)(H0 H:Hp)(u:DU)(B:HA)(es H_:Zcj)(Y:BA)[399](bs R_:Zci)(tv:ZeO):Zaa where
 ev:#[a1Z,f8]
 tt:#[aP,u.t,#[cK,#[kS,u.w,u.m,Zai u.ls]]]
 md:#[a1W,H,(bd H_),H_]
 bk:iQ cb H u.A.bk Y bs
 td:#[Fg,R_]
 ta:ZRd
 wB:#[gH,Zy5,Zyr]
 yB:#[gH,ZXh,ZaSO]
 dY:d≠ZwK/\d≠ZwL/\d≠ZwM
 ne:bs≠[]\/R_≠[]->Ztt/\ZT4
 g0:GK H0 H
 f0:∀ b,ZaQV->Fr H0 b
def LO {H0 H H1:Hp}{F:Zei}(g:GK H0 H)(k:#[qD,F])(f:∀ b∈F,Fr H0 b):GK H0 H1:=fun b o e n=>k b o (g b o e n) fun z=>by
 obtain⟨ps,q⟩:=f b z o e;exact n ps q
section
variable {c:HX}{ck ze cb P0:Addr}{lp:Pos}{ql:Str}{H0 H H1 H2:Hp}{u:DU}{B:HA}{es H_ es2:Zcj}{Y:BA}{d:Addr}{bs R_ bs2:Zci}{tv tv':ZeO}
def oF.gk [7](g:ZyX)(t:ZRh):ZaGV :=
 ⟨x.ev.gk g,g.tup x.tt,x.md.gk g,x.bk.gk g,x.td.gk g,t,ZwO,Zsh,Zsi,Zo0,x.g0.trans g,Zo1⟩
def oF.mono [7][227]:ZaGV:=x.gk (dH s) (x.ta.same s)
def OH [73](h:Ztt):#[gZ,0].deeds≠[]:=#[aL,Db,h]
def oF.law [7](M:#[a1W,H1,ZaAJ,es2])(k:#[qD,Zy5])(n2:ZT4->es2≠[]):#[F2,H1,es2]:=by
 have mu:=B3 x.md;have ro:#[a2J,l∉Zy5]:=#[aMN,QC,x.md,(h n).2];exact#[a07,ZwO b z hb,M,#[aX6,Zapn,Zapn,Zapn],#[aSF,Zapn],#[ge,⟨ZaHI,n2 (Zo0 h).2⟩],#[G_,hb]]
def sw {b l:Addr}[372][45](e:#[cf,ZY9])(r:Zzo):l≠b:=fun z=>by
 obtain⟨as,h,_⟩:=r;rw[z,e]at h;cases h
def oF.told [7](T:jG H1 d bs2 tv')(k:#[qD,[d]])(n2:ZWQ):oF c ck ze cb P0 lp ql H0 H1 u B es H_ Y d bs bs2 tv':=by
 have mu:Le H [d]:=#[aUI,ZamT]
 have y:=Zsh d ZaV;have n1:∀ [46],b≠d->b∉[d]:=fun n z=>n (Zdc z);exact#[a07,#[WN,y.1],ZamU k mu #[sj,#[WN,y.2]],x.bk.kp k mu ⟨n1 (aQA #[si,0].1),n1 (aQA #[si,0].2.1),n1 (aQA #[si,0].2.2)⟩ fun _ l ps r=>n1 (sw ZamT r),T,#[bF,n2],#[AZ,(#[fs,ZI1])]]
def oF.define [7](b2:iQ cb H1 u.A.bk Y bs2)(k:#[vR,Ziq->a≠ZwK->a≠ZwL->a≠ZwM->#[hY,H1]])(n2:ZWQ):#[aWG,H1,bs2,R_]:=by
 have mu:Le H ZaUs:=fun b hb=>by
  simp only[aQm,aQ1,aXz]at hb;rcases hb with rfl | rfl | rfl
  ·exact #[ib,ZamV]
  ·exact #[ib,ZamW]
  ·exact #[ib,ZamX]
 have k:#[qD,ZaUs]:=fun b o e n=>by
  simp only[aQm,aQ1,aXz,not_or]at n;exact k b o e n.1 n.2.1 n.2.2
 have yy:#[aXk,ZaSO]:=fun b hb=>x.yB b (by
  simp only[aQm,aQ1,aXz]at hb ⊢;rcases hb with h | h | h
  ·exact Zuv
  ·exact ZabX
  ·exact Zap (Zap (Zal h)))
 refine⟨x.ev.kp k mu #[sj,(yy b z).1 hb],ZW1,ZamU k mu #[sj,(yy b z).2 hb],b2,x.td.kp k mu ?_ (#[bax,?_]),ZXf,x.wB,x.yB,x.dY,#[bF,n2],LO x.g0 k fun b hb=>x.f0 b (Zap (Zap (by
  simp only[aQm,aQ1,aXz]at hb ⊢;rcases hb with h | h | h
  ·exact Zuv
  ·exact ZabX
  ·exact Zap (Zap (Zal h))))),x.f0⟩
 ·simp only[aQm,aQ1,aXz,not_or];exact x.dY
 ·simp only[aQm,aQ1,aXz]at z
  rcases z with z | z | z
  ·exact sw ZamV r z
  ·exact sw ZamW r z
  ·exact sw ZamX r z
def oF.move [7](mv:Do c ck ze H u.e u.A u.D B ZaAJ H1)(n2:Ztt->es2≠[]):∃ B',oF c ck ze cb P0 lp ql H0 H1 u B' es2 H_ Y d bs R_ tv:=by
 obtain⟨B',e2,k,f,t⟩:jp:=mv;have mu:Le H Zdg:=x.ev.ki.hall.mu;have ro:#[a2J,ZJv]:=#[aMN,Te,x.ev.ki.hall,(h n).1]
 have nw:∀ [46],(ZzI)->Zyr->b∉B'.fp:=fun {b} ZnU n z=>by
  rcases f b z with y | y
  ·exact n y
  ·rw[e]at y;cases y
 have tr:#[gH,ZXh,ZzI]:=fun b hb=>by
  simp only[aQm,aQ1,aXz]at hb;rcases hb with rfl | rfl | rfl | rfl
  ·exact ZayV
  ·exact ZayW
  ·exact ZayX
  ·exact ZayU
 exact⟨B',e2,ZW1,ZamU k mu ZwO,#[aX6,Zapo,Zapo,Zapo],#[aSF,Zapo],ZXf,#[cX,nw (B3 x.md b hb).some #[c1,ZwO]],#[TN,nw (tr b hb) #[kI,Zsh],Zsh],Zsi,#[ge,#[fc,n2 ZaHI,(Zo0 h)]],LO x.g0 k #[cX,Zo1 b (Zal hb)],#[cX,hb.elim (#[aH,(f b z).elim (fun y=>Zo1 b (Zal y)) fun y=>WV x.g0 y]) #[aH,Zo1 b (Zap z)]]⟩
def oF.pre [29][28]:ZacT:=by
 have:=ZaK1
 rwa [aQH]at this
def oF.desk [29][7][28](hL:Zhv<=40)(sm:Zayk)(he:ZaJl):#[a1Z,vp]:=by
 have p:=ZDu dn nm;have:=ZafR;exact⟨x.ev,Ly ZwP p.of Zaf p.sz he,ZwP,Zae,#[agP,sm]⟩
def oF.weak {G:Hp}[7](s:aG G H0):#[a10,G,H] :=
 ⟨x.ev,x.tt,x.md,x.bk,x.td,x.ta,ZwO,Zsh,Zsi,Zo0,ZSw x.g0,#[Ow,Zo1 b hb o ZaaC]⟩
#where
def jG.last [38]{d:Addr}[19]{x y:BE}{tv:ZeO}(t:#[Fg,ZGl])(hw:y.w=x.w)(hn:y.n=x.n)(hr:Zm8->y.r=x.r):#[Fg,(bs++[y])]:=by
 refine ZaDQ
 ·have h:=t.h
  rw[aQt]at h ⊢;rw[h]
  show Zab #[aVV,ZA9,x.w]=Zab #[aVV,ZfX y.w,y.w]
  rw[hw]
 ·rcases ZEb with z | z
  ·exact t.r e ZaCx
  ·rw[Zdd]
   have q:=t.r x (aQF _ aQi);rw[hw,hn];refine⟨ZGO,q.2⟩;refine aK (q.1 h) fun l e1 e2 e3=>?_;exact ⟨l,e1,#[aM,hr h,e2],#[aM,hr h,e3]⟩
def Jo.rowOk {cn:Int}[94][45][438](h:ZX2):Bc es ps ZK' :=
 (mx x.dn x.nm #[zF,zX hg] (by unfold namesL;rw[Z9,aXq];decide) (by have:=x.ln;lia) h)
def OR {cn:Int}[94][438]:Zde<=160:=by
 have e:=TH x.dn x.nm
 have l:#[dM,ZK',12]:=by unfold namesL;rw[Z9,aXq];rfl
 rw[l]at e;have:=x.ln
 lia
set_option tactic.hygienic true
def wQ [94](h:ZnX)[42]:cJ (ZwI n):=fun j d hd=>by
 rw[List.getElem?_take]at hd;split at hd
 ·rename_i q
  rw[List.take_take,ZIq];exact h j d hd
 ·cases hd
def PL [29][45]:∀ [94],Zab5->(ZHv)->(ZX2)->∀ i,i<=Zen->Zau'
 | es,dn,nm,sp,0,_=>by simpa using nm
 | es,dn,nm,sp,i+1,hi=>by
  have ih:=PL dn nm sp i Zaf;obtain⟨p,hp⟩:∃ p,ZaDT:=ZayZ;rw[tX (es:=es) hp]
  have e1:#[AL,0].take Zadl=ZRm:=by
   rw[List.take_append,aXr ZtJ,ZaTn,List.map_take]
  have e2:#[av,ZAL[ZWr]?,ZGt]:=by
   rw[aX4 ZtJ,ZaTn,aQI,hp];rfl
  have hj:=dn _ _ e2;rw[e1]at hj
  have dni:ZWq:=#[aUJ,dn]
  have Pi:=ZDu dni ih;obtain⟨q1,q2⟩:=ZLI;have hs:=sp p (aQC hp);intro d hd g hg;rcases ZII with z | z
  ·exact ih d z g hg
  ·rw[Zdd]at hg
   simp[fb,names]at hg;rcases hg with y | y<;>rw[y]
   ·exact⟨q1,hs.1⟩
   ·exact#[fc,q2,hs]
def Jo.dance [29][94][45](x:Jo L es)(sp:ZX2)(hb:ZxZ):Jo L ZAL:=by
 have dn:=Lg ps es x.dn hb;refine⟨dn,?_,?_,#[aH,Zo0 (Zbay z).1]⟩
 ·have:=PL dn x.nm sp Zen Za8
  rwa [aQH]at this
 ·have f:Za2N:=List.filter_eq_self.mpr fun d hd=>by
   obtain⟨p,_,rfl⟩:ao:=ZaAF;rfl
  rw[aXQ,f,aQl,aQl];have:=x.ln
  lia
def Jo.dnc [29][94][19][473](x:Jo L es)(sp:ZasC):Jo L ZWw:=by
 unfold dncE JF;split
 ·rename_i h
  split
  ·rename_i hb;exact x.dance (sp h.1 h.2) hb
  ·exact x
 ·exact x
def Tw.snoc [19]{x:BE}(h:Zvb)(hw:iD x.w=Zad)(hs:Zm8->∀ p∈x.r,Oo p):Tw (bs++[x]):=by
 refine⟨ZtT,ZtT⟩
 ·rcases ZEb with z | z
  ·exact h.nm e z
  ·rw[Zdd];exact hw
 ·rcases ZEb with z | z
  ·exact h.sm e z
  ·rw[Zdd];exact hs
def Cm [94][275]:jE es (Zi' g)≠[]:=by
 unfold jE;split
 ·simp
 ·rename_i h
  intro z;subst z;exact h rfl
section
variable {c:HX}{ck ze cb cF cU cL cB cT P0:Addr}{lp:Pos}{ql:Str}{H H1:Hp}{e:Addr}{A:EA}{D:KA}{B:HA}{es:Zcj}{Y:BA}{bs:Zci}{L:Zbq}{w z:Str}{Q:VK}{E:XK}
set_option tactic.hygienic false
def GN.mono (x:Zat0)[227]:#[atZ,H1] :=
 ⟨Za1z,ZaI5,fun f a b d H' g=>x.tl f a b d H' ZSx,x.ro,fun f a b d h H1 H' g=>x.ok f a b d h H1 H' ZSx,fun f a b d h H1 g=>x.no f a b d h H1 ZSx⟩
def GU.mono {bk:Addr}(x:#[Xq,H,bk])[227]:#[Xq,H1,bk] :=
 ⟨Za1z,fun f a b H1 p g=>x.ok f a b H1 p ZSx,#[Xo,x.ba],#[Xo,x.ta],ZaI5⟩
#where
set_option tactic.hygienic false
def Lv {h k b:V}:#[h1,ZMg,ZoW,b]:=by
 rw[<-He,aH,Zaz]
def LX [407]{st w_:eG}[40](mv:#[a2U,oH]):Zaes :=
 Si (d:=Zi' 0) (m:=0) x ((EB _ _).symm▸mv)
def Lf:mi.all (fun w=>! iD w&&w.cps.all (· < 128)&&#[lJ,ZaLV]&&!#[US,0].contains 32)=true:=Zao
def zk [277](h:ZnK):Zuy/\ZaLV/\ZaL0:=by
 rcases h with h | h
 ·have:=Zko Lf w h
  simp only[aXb,Bool.not_eq_true',aZD]at this;refine ⟨#[g_,0].1.2,#[g_,0].2,Zg8⟩;have q:=ZtS;rw[List.contains_iff_mem.mpr z]at q;cases q
 ·refine ⟨PK h,(#[ew,vL h]),Zg8⟩
  have:=FQ h 32 z;revert this
  decide
def Ul [277](h:ZnK):ZaPq↔ZKp:=by
 constructor
 ·intro n
  rcases h with h | h
  ·exact h
  ·rw[h]at n;cases n
 ·intro m
  have:=Zko Lf w m;simp only[aXb,Bool.not_eq_true']at this;exact #[g_,0].1.1
def vA [160]:cu 32 (bf (lE z))=(ZIW,Zdm,bf z):=by
 have e:bf (lE z)=ZIW++ZZ1:=by unfold lE;rw[fE];rfl
 rw[e];exact ZaAt
abbrev xy (w z:Str):Str:=toS (Zic++ZZ1)
def Sr (w z:Str):bf (rj w z)=ZAz++32::Zahp:=by
 unfold rj xy;rw[fE,fE,fE,iO,#[axW,ZPZ,ZAz++[32]],#[axW," ",Zdm]];simp
def yR (w z:Str):cu 32 (bf (rj w z))=(ZAz,Zdm,Zahp):=by
 rw[Sr];exact ZaAt
def vI {w z:Str}(h:ZaL0):cu 32 (bf (xy w z))=(Zic,Zdm,bf z):=by
 unfold xy;rw[iO];exact xM h
def AV [473](h:Zxs):rdF ZVl=Zab f:=by
 refine xV.mpr ?_;rw[iO];have:=AW 8 f h [] (fun c hc=>nomatch hc)
 rwa [aXl]at this
def Mg [473](h:Zxs){c:Nat}(hc:Zaa2):rdF (toS (Zi8++[c]))=Zac:=by
 refine CO ZXJ;rw[iO,AW 8 f h [c] #[mB,by injection hx with hx;rw[<-hx];exact hc]]at hg;injection hg with hg;injection hg with _ hg;cases hg
def CP [305](h:ZaNK):Zna:=CO (Oz h)
def Td [34]:rdF (toS (32::l))=Zac:=by
 refine CO ZXJ;rw[iO,AJ 7 _ #[wo,Zab 32≠Zab 40]]at hg;have e:fM (32::l)=[]:=rfl;rw[e,Zdr]at hg;cases hg
abbrev QV (f:aA):Zbp:=[ZTB++Za9 ")",#[aRm," "],ZTB++Za9 " ","(pair 1)","(quad 1 2 3 1)","(name hey)"]
def GE (l m:Zbr):ZaZL=toS (l++m):=by
 rw[<-jc (ZaZL),fE,iO,iO]
def V1 [473](g:Zxs)(tl:ZamH):∀ z∈QV f,ZnC/\Zna:=by
 have ag:=AG g
 have l1:ZaWb:=#[aL,iW,tl]
 intro z hz;unfold QV at hz;simp only[aQm,aQ1,aXz]at hz
 have e1:Za9 ")" = toS [41]:=Zao
 have e2:Za9 " " = toS Zdm:=Zao
 rcases hz with rfl | rfl | rfl | rfl | rfl | rfl
 ·exact⟨⟨Fh ag (by unfold p8;decide +kernel),#[f8,gF,#[su,")",1]]⟩,#[dz,e1,GE,ZaON]⟩
 ·exact⟨⟨Fh (by unfold p8;decide +kernel) ag,ZaKU⟩,#[dz,e2,GE,Td _]⟩
 ·exact⟨⟨Fh ag (by unfold p8;decide +kernel),ZaKU⟩,#[dz,e2,GE,ZaON]⟩
 ·exact⟨⟨by unfold p8;decide +kernel,Zao⟩,ZAs⟩
 ·exact⟨⟨by unfold p8;decide +kernel,Zao⟩,ZAs⟩
 ·exact⟨⟨by unfold p8;decide +kernel,Zao⟩,ZAs⟩
section
variable {c:HX}{ck ze cb P0:Addr}{lp:Pos}{ql:Str}{H0 H:Hp}{u:DU}{B:HA}{es H_:Zcj}{Y:BA}{d:Addr}{bs R_:Zci}{tv:ZeO}{cn:Int}{Q:VK}{E:XK}
def Rr (cn:Int):#[bc,(Zfq 12 cn)]<=40/\#[ue,Zqp]:=⟨by unfold namesL;rw[Z9,aXq];decide,#[gc,zX hg]⟩
def Ae [305]{y:Str}[22][19]{Y:BA}(ev:ZacY)[474][311][439](hy:y=lE z)[91]:ZaTC:=by
 subst hy
 have no:ZaMO:=fun h=>by rw[hn]at h;cases h
 exact⟨e,_,_,rfl,ZDr e A D B es Y bs [] _ z rfl (by unfold lE;rw[gF,ZK0];have:=ln.ln;lia) (vA z) ev bk ta ln ⟨Zayl,Zrh,Zrh,Zrh,Zrh,Zrh⟩⟩
def FO {w z:Str}(hw:ZnK)(ln:ZnC):#[aN7,rj]/\#[aN7,xy]/\32∈Zahp:=by
 have l1:=(zk hw).2.1;have l2:=ln.ln
 have e:bf (xy w z)=Zic++ZZ1:=by unfold xy;rw[iO]
 refine #[aY,?_,?_,ZHz]
 ·unfold rj
  rw[gF,gF,gF,#[su,ZPZ,5],#[su," ",1]]
  lia
 ·rw[eI,e,aQl,aQB,<-eI,<-eI]
  lia
def qG {w z y:Str}{e:Addr}{A:EA}{Y:BA}[19](ob:ZMD)[474](bl:ZR')[311](hw:ZnK)[439](hy:y=rj w z)[91]:ZaTC:=by
 subst hy
 have no:ZaMO:=fun h=>by rw[hn]at h;cases h
 refine ZarN;refine Zahj;exact⟨e,_,_,rfl,#[aw5,e,A,z,(yR w z),ob,bk,ta,Zayl,Zrh,Zrh]⟩
def IM {f:aA}{H_:Zcj}{R_:Zci}(x:ZadE)(he:H_=dncE es bs f)(e5:Zn4)(b5:Zvb)(g:Zxs)(tl:ZamH)
  (k:#[aU9,ZWw,H_]):#[ac9,ZagT,ZKn]:=by
 have ln:ZacJ:=ZaeX;have rd:=AV g
 have fx:Zahz:=ZT6
 have sm:=ZawN;refine⟨u.e,_,_,rfl,ZDr u.e u.A u.D B es Y bs ZK' _ ZVl rfl (by unfold lE;rw[gF,ZK0];have:=ln.ln;lia) (vA _) x.ev x.bk x.ta ln ⟨ZGO,fun f' h kn H' g t=>?_,fun f' h kn lg H' g t=>?_,fun f' h kn le=>?_,fun f' h kn le hb H1 H' g t mv=>?_,fun f' h kn le hb H' g t=>?_⟩⟩
 ·rw[rd]at h;cases h
 ·rw[ZjG]at kn
  have e:ZadG:=by unfold dncE;rw[ZaR4]
  refine Oc (by unfold dncS;rw[ZHZ]) ZagG
 ·rw[ZjG]at kn lg
  have e:ZadG:=by unfold dncE;rw[ZaNF]
  refine Oc (by unfold dncS;rw[ZqS,ZnI]) ZagG
 ·rw[ZjG]at kn le ⊢
  exact#[ug,e5.rowOk (sm le),ZwD (#[aup,x.bk.rw]) f kn le,le]
 ·rw[ZjG]at kn le hb mv ⊢
  have e:#[Vh,ZauF]:=by unfold dncE JF;rw[Zae',ZjR]
  obtain⟨B',x'⟩:=#[aPY,0].move mv (fun n z=>n (Zbay z).1);exact Oc (by unfold dncS;rw[ZqS,ZYz,ZjR]) (k B' H' (#[F7,x']))
 ·rw[ZjG]at kn le hb ⊢
  have e:ZadG:=by unfold dncE JF;rw[Zae',Znz]
  exact Oc (by unfold dncS;rw[ZqS,ZYz,Znz]) ZagG
def KI {w:Str}{f:aA}{y:BE}(x:oF c ck ze cb P0 lp ql H0 H u B es H_ Y d bs (bs++[y]) tv)(hd:Zzm)(yw:y.w=w)(yn:y.n=ZDM)(yr:y.n<=Zbz->y.r=ZDl)(hw:ZnK)(bl:ZR')(g:Zxs)(tl:ZamH)
  (k:∀ (y':BE) H',y'.w=w->y'.n=ZDM->(y'.n<=Zbz->y'.r=ZDl)->#[aWG,H',ZaDv,ZaDv]->Zy0):#[ac9,#[Vw,w],ZiY]:=by
 have ln:ZacJ:=ZaeX;have rd:=AV g
 have fx:Zahz:=ZT6
 refine ZarN;refine Zahj;have ne:=Zo0 (Zap ZaV);refine#[a35,fun f' h _ H1 p g t y' H' a1 a2 a3 a4 a5 a6 a7=>?_,fun f' h n=>?_]
 ·rw[rd]at h;cases h
 ·rw[ZjG]at a2 a4 a5
  have x':=#[aPY,0].define a6 a7 ne;exact Oc rfl (k y' H' a1 a4 a5 ⟨x'.ev,x'.tt,x'.md,x'.bk,x'.td.last #[eF,a1,yw] (#[bm,a4,yn]) (#[ge,#[bm,yr h,a5 (#[wa,a4,yn,h])]]),x'.ta,x'.wB,x'.yB,x'.dY,#[bF,ne],x'.g0,x'.f0⟩)
 ·rw[ZjG]at n;exact #[oR,hd,n]
def IN {w:Str}{f:aA}(x:ZadE)(hd:ZahH)(hw:ZnK)(bl:ZR')(g:Zxs)(tl:ZamH)
  (k:ZaBS):#[FY,u.e,#[Vw,w],Zag (Xk ZaeC)]:=by
 have ln:ZacJ:=ZaeX;have rd:=AV g
 have fx:Zahz:=ZT6
 refine ZarN;refine Zahj;refine#[a35,fun f' h n=>?_,fun f' h n H' g t=>?_]
 ·rw[rd]at h;cases h
 ·rw[ZjG]at n;exact #[oR,n,hd]
 ·rw[ZjG];exact ZXg
def Nv:wG Zl5 ZPX:=⟨by unfold p8;decide +kernel,Zao,#[P0,Um],fun g h=>nomatch h⟩
def Nw:wG Zlx ZPY:=⟨by unfold p8;decide +kernel,Zao,#[P0,Um],fun g h=>nomatch h⟩
def Pp [129]:wG (#[eD,ZP1]++gV g) Zjb:=by
 have e:bf (ZZS++gV g)=[99,111,109,101,32]++ZLK:=#[b6,fE]
 have ls:=nc h;refine⟨Bj Zij,by rw[eI,e,aQl];show 5+_<=900;lia,#[qQ,E7,?_],#[f9,#[nf,hx,h]]⟩
 ·rw[e]at hc
  rcases ZD' with hc | hc
  ·exact #[Xy,#[XV,[99,111,109,101,32]]] c hc
  ·have:=ls.1 c hc;lia
 ·show _=uN 32 (bf (ZZS++gV g))
  rw[e]
  show _=uN 32 (99::111::109::101::32::ZLK)
  rw[gn,gn,gn,gn,gn,My (fun hc=>#[ew,ls.1 _ hc])];rfl
def KH {g:Int}(x:#[F2,H,Zagi])(dn:ZnX)(nm:∀ d∈es,#[iZ,ZEM,g∈Zqp/\ZdG])(he:ZaJl)(hg:Zm5)
  (k:#[aU9,Zagi,Zagi]):#[sY,j3,[Zai u.e,Zag (ZZS++gV g),Zag (Ow (bo (bd es) Zjb))],Q,E]:=by
 refine#[a26,Zjb,(x.desk dn nm Zadq ZaJ8 he),(Pp hg),#[aY,JQ hg,(fun hj H' mv=>?_),fun hj H' s=>?_]]
 ·have e:jE es Zjb=es++[Zja]:=by unfold jE;rw[Zc9]
  have mv:Do c ck ze H u.e u.A u.D B (bd (es++[Zja])) H':=#[aL,uB,mv]
  rw[<-e]at mv;obtain⟨B',x'⟩:=x.move mv Zaxw;exact Oc (by unfold Ow;rw[Zc9]) (k B' H' x')
 ·have e:jE es Zjb=es:=by unfold jE;rw[ZgB]
  refine Oc (#[P0,Lk hj]) (k B H' ?_);rw[e]at x ⊢;exact ZaI_
def IP [7](e5:Zn4)[312]:#[ac9,Zl5,(tp (gJ Zqg))] :=
 #[a26,ZPX,(x.desk e5.dn e5.nm Zadq ZaJ8 (#[zO,OR,e5])),Nv,Za2K]
def IQ [22][336][312]:#[FY,e,Zlx,Zag ZamR]:=by
 have p:Ru (Zfq 12 0) []:=Xs;have:=ZafR;exact⟨e,_,_,rfl,(.ask e A D B ZZO _ ZPY rfl ⟨ev,Ly ZwP p.of (ZaMt) p.sz Zm7,ZwP,ZaMt,#[agP,(Rr 0).2]⟩ Nw Za2K)⟩
def DP [277][22]{Y:BA}[336](bk:iQ cb H ZkA Y [])[311](nm:Zhb)[91]:#[sY,j3,[Zai e,Zag (#[eD,ZDs]++w),Zag ZamS],Q,E]:=by
 have g:Zi9 8 (Zd1 w):=nm
 have ew:toS #[IT,0].txt=w:=#[aL,ZwH,jc w]
 have rd:rdF w=Zab (Zd1 w):=by have:=AV g;rwa [ew]at this
 have ln:Ln w:=⟨PK nm,#[zO,vL,nm]⟩
 have un:¬ bL [] (Zd1 w):=fun h=>by have:=h w #[aM,ZPz,aQi];cases this
 have fx:∀ {f':aA},rdF w=Zab f'->f'=Zd1 w:=ZT6
 exact⟨e,_,_,rfl,ZDr e A D B [] Y [] [] (lE w) w rfl (by unfold lE;rw[gF,ZK0];have:=ln.ln;lia) (vA w) ev bk ta ln ⟨fun h=>(by rw[rd]at h;cases h),fun f' h _ H' g t=>ZXg,ZL9,ZL9,ZL9,ZL9⟩⟩
def oF.tr [7][46](hb:ZaQV):ZzI:=by
 rcases hb with z | z | z
 ·exact x.ev.ki.hall.tracked z
 ·exact (B3 x.md b z).some
 ·simp only[aQm,aQ1,aXz]at z
  rcases z with rfl | rfl | rfl | rfl
  ·exact ZayV
  ·exact ZayW
  ·exact ZayX
  ·exact ZayU
def oF.lock {H1:Hp}[366][7](hl:Zgr)[227](h1:H1 l=Zab o):#[a10,(upd H0 l o),H1]:=by
 have y:=ZaI_;refine⟨y.ev,y.tt,y.md,y.bk,y.td,y.ta,y.wB,y.yB,y.dY,y.ne,fun b o' e n=>?_,fun b hb o' e=>?_⟩
 ·by_cases z:b=l
  ·rw[z,ac]at e;rw[z,h1];exact e
  ·rw[Zut]at e;exact y.g0 b o' e n
 ·have z:b≠l:=fun z=>by obtain⟨_,q⟩:=x.tr hb;rw[z,hl]at q;cases q
  rw[Zut]at e;exact Zo1 b hb o' e
def PF [29][94]{d:bc}[28][341]:cJ (jE es d)/\#[kb,jE es d,#[iZ,ZlS y,g∈L/\ZdG]]:=by
 unfold jE;split
 ·refine⟨iS dn ‹_›,Zqs⟩
  rcases ZIJ with hy | hy
  ·exact nm y hy
  ·rw[ZaBr];exact hn
 ·exact⟨dn,nm⟩
def US [19][277][473](h:Zzm):Zhb:=by
 unfold defO at h
 cases e:iD w with
 | true=>rfl
 | false=>rw[Zim]at h;cases h
#where
def G0:∀ [181][59],gz st ps=Zbe\/gz st ps=Zow\/gz st ps=ZlC\/∃ g,gz st ps=Zz6
 | _,[]=>ZnH
 | st,Ziv=>by
  unfold gz;split
  ·exact G0 _ ps
  ·unfold fb bo
   dsimp only;split
   ·exact ZaKM
   ·split
    ·exact ZaKM
    ·split
     ·exact #[m9,rfl]
     ·split
      ·exact Zap (Zap (Zal rfl))
      ·exact ZnH
def VY {c:HX}{ck ze cb cF cU cL cB cK P0:Addr}{lp:Pos}{ql:Str}{vs:Zbs}{H:Hp}{Q:VK}{E E':XK}(h:ZaPK)
  (eA:#[n0,Zbas,ZdZ]) (eS:#[n0,Zbaz,Zd0]) (eT:#[n0,ZbaA,Zga])
  (eB:#[n0,"no: BadName",cB]) (eK:#[n0,"no: Taken",cK]) (eU:#[n0,ZamS,cU]) (eL:#[n0,Zbar,cL]) (eF:#[n0,ZDt,cF])
  (eN:∀ dx H',#[kL,ZbaB]->E' #[aj,Zgb] ZpY H'):zh c ck ze cb cF cU cL cB cK P0 lp ql vs H Q E':=by
 have ra:∀ {H1:Hp}[78][45],#[mR,gz st ps]->(#[gK,aG H1 H'->#[q2,Su,ZaVh]])->nN c E' H1 ZaVh:=fun {H1 st ps} n k=>by
  rcases G0 st ps with o | o | o | ⟨g,o⟩
  ·exact #[oR,o,n]
  ·rw[o]at k ⊢
   exact #[aMP,eS,Zow,Zbaz]
  ·rw[o]at k ⊢
   exact #[aMP,eT,ZlC,ZbaA]
  ·rw[o]at k ⊢
   exact fun dx H' s _=>eN dx H' (#[fK,#[baC,ZazW],#[at5,#[baC,(Zox 0)]]]▸k H' s)
 rcases h with ⟨e,A,D,B,st,z,q,hv,I,L,k⟩ | ⟨e,A,D,B,es,Y,bs,L,y,z,hv,yl,hp,ev,bk,tI,ln,sd⟩ | ⟨e,A,Y,bs,y,r,w,z,hv,yl,hp,ob,bk,tI,ln,rl,hp2,hs,wa,wl,bl,sd⟩
 ·exact .ask e A D B st z q hv I L (k.imp (#[eq,h]) eA)
 ·exact ZDr e A D B es Y bs L y z hv yl hp ev bk tI ln ⟨ZaU8,#[baD,eU H' (sd.un f a b H' g t)],fun f a b lg H' g t=>eL H' (sd.tl f a b lg H' g t),sd.ro,sd.ok,fun f a b lg hb H1 g t=>ra hb fun H' s=>sd.no f a b lg hb H' (g.trans (dH s)) (t.same s)⟩
 ·have no:∀ f,ZmK->∀ o,ZgN bs w f=o->#[mR,o]->#[Rf,#[q2,Xk,o]]:=fun f a o b n H' g t=>by
   subst b;exact sd.no f a n H' g t
  exact Zd1 e A Y bs y r w z hv yl hp ob bk tI ln rl hp2 hs wa wl bl ⟨ZaU8,sd.ok,fun f a b H' g t=>eB H' (no f a _ b (fun z=>nomatch z) H' g t),fun f a b H' g t=>eK H' (no f a _ b (fun z=>nomatch z) H' g t),fun f a b H' g t=>eU H' (no f a _ b (fun z=>nomatch z) H' g t)⟩
#print Wz
namespace Wk51
open PySem L2 Wz
abbrev gy [221]:Stmt:=PySem.Challenge.pw_lastwaltz_k51_names_and_dances_at_the_de.main.body.getD i (.Pass Zvx)
structure Txt [24]:Zaa where
 len:#[dt,ZCu]
 range:#[dt,ZvF]
 isinstance:#[dt,ZNi]
 tuple:#[dt,Zf3]
 list:#[dt,Zdw]
 int:#[dt,ZrG]
 bool:#[dt,ZajD]
 all:#[dt,Zcc]
 any:#[dt,"any"]
 sorted:#[dt,ZNZ]
 reversed:#[dt,Zwm]
 bset:#[dt,ZiS]
 bmin:#[dt,"min"]
 bmax:#[dt,Zj']
 dict:#[dt,ZiQ]
 zip:#[dt,Zel]
 enumerate:#[dt,Zhk]
 sum:#[dt,"sum"]
 str:#[dt,Zf2]
section
variable {P:Program}{w:World}{K:PySem.W.Frag}{mg:Zpf}{base:Heap}{c:HX}{co cq ck f P0 P1 cB cT kd cL cF cs cX fX cb ze dl y0 y1 cU cP cV cQ cO dz Pm Pf Pt Pk:Addr}{T5:#[d3,Zeh,Pos×Str]}{yy:Zei}{qz:MP}{lp:Pos}{ql:Str}{fd:FuncData}
noncomputable abbrev lR:Stmt:=ca (gy 15) 0
noncomputable abbrev Cc:Zbp:=Zmj
def AD:#[aW,Cc,Zmj,lR]:=gu
noncomputable abbrev qM:Stmt:=#[lk,0]
noncomputable abbrev Hz:Zbp:=ZfD
def Gf:#[lf,Hz,qM]:=gu
noncomputable abbrev qL:Stmt:=#[lk,1]
noncomputable abbrev Hy:Zbp:=Zmj
def Ge:#[aW,Hy,Zmj,qL]:=gu
noncomputable abbrev kH:Stmt:=#[lk,3]
noncomputable abbrev Ao:Zbp:=[ZfC,Zsk,Zl8,ZamY,"other_mask"]
def kC:#[aW,Ao,Zsl,kH]:=gu
noncomputable abbrev pC:Stmt:=#[lk,4]
noncomputable abbrev FJ:Zbp:=ZamZ
def DQ:#[aW,FJ,ZamZ,pC]:=gu
noncomputable abbrev kG:Stmt:=#[lk,5]
noncomputable abbrev An:Zbp:=[ZfC,Zsk,Zl8,ZbaF]
def pY:#[aW,An,Zsl,kG]:=gu
noncomputable abbrev ou:Stmt:=#[lk,7]
noncomputable abbrev Dy:Zbp:=ZfD
def CV:#[lf,Dy,ou]:=gu
noncomputable abbrev pD:Stmt:=#[lk,8]
noncomputable abbrev FK:Zbp:=Zmj
def DR:#[aW,FK,Zmj,pD]:=gu
noncomputable abbrev tL:Stmt:=#[lk,10]
noncomputable abbrev J9:Zbp:=Zsl
def IR:#[aW,J9,Zsl,tL]:=gu
noncomputable abbrev mO:Stmt:=#[lk,15]
noncomputable abbrev zR:Zbp:=ZuC
def xY:#[lf,zR,mO]:=gu
noncomputable abbrev pF:Stmt:=gy 20
noncomputable abbrev FN:Zbp:=[ZaE]
def DT:#[gw,FN,ZaE,pF]:=gu
noncomputable abbrev qX:Stmt:=gy 21
noncomputable abbrev HQ:Zbp:=ZMl
def Gj:#[aW,HQ,ZMl,qX]:=gu
noncomputable abbrev qP:Stmt:=gy 27
noncomputable abbrev Ez:Zbp:=Zqf
def KL:#[gw,Ez,ZeR,qP]:=gu
noncomputable abbrev kI:Stmt:=gy 28
noncomputable abbrev Ap:Zbp:=[ZeQ,"unlike",ZP2]
def kF:#[aam,Ap,kI]:=gu
noncomputable abbrev kK:Stmt:=gy 29
noncomputable abbrev Ar:Zbp:=[ZeQ,"many"]
def p6:#[aam,Ar,kK]:=gu
noncomputable abbrev jg:Stmt:=gy 30
noncomputable abbrev qx:Zbp:=[ZeQ,Zsm]
def vh:#[aam,qx,jg]:=gu
noncomputable abbrev jv:Stmt:=#[q6,0]
noncomputable abbrev xj:Zbp:=ZfD
def vY:#[lf,xj,jv]:=gu
noncomputable abbrev iK:Stmt:=#[q6,1]
noncomputable abbrev uH:Zbp:=ZLp
def tz:#[aW,uH,ZLp,iK]:=gu
noncomputable abbrev jw:Stmt:=#[q6,3]
noncomputable abbrev xk:Zbp:=#[mi,ZeR]
def vZ:#[nJ,xk,ZeR,jw]:=gu
noncomputable abbrev iM:Stmt:=#[q6,4]
noncomputable abbrev uJ:Zbp:=Zmk
def tF:#[aW,uJ,Zmk,iM]:=gu
noncomputable abbrev fz:Stmt:=#[q6,5]
noncomputable abbrev py:Zbp:=[ZfC,ZeQ,ZP2]
def i6:#[aW,py,Zmk,fz]:=gu
noncomputable abbrev fL:Stmt:=#[q6,6]
noncomputable abbrev l8:Zbp:=Zmk
def tE:#[aW,l8,Zmk,fL]:=gu
noncomputable abbrev iL:Stmt:=#[q6,7]
noncomputable abbrev uI:Zbp:=[ZfC,ZeQ,ZaE,ZP2]
def iH:#[aW,uI,Zmk,iL]:=gu
noncomputable abbrev j6:Stmt:=gy 37
noncomputable abbrev vc:Zbp:=Zqf
def C3:#[gw,vc,ZeR,j6]:=gu
noncomputable abbrev wm:Stmt:=gy 38
noncomputable abbrev NI:Zbp:=#[RJ,ZP3]
def we:#[aW,NI,[ZgP,ZwQ],wm]:=gu
noncomputable abbrev qW:Stmt:=gy 39
noncomputable abbrev HN:Zbp:=#[WU,ZeR,ZP3,"number"]
def mI:#[aW,HN,[ZgP,ZwQ],qW]:=gu
noncomputable abbrev tV:Stmt:=gy 40
noncomputable abbrev Kf:Zbp:=#[WU,ZbaH,ZDv,"part"]
def oZ:#[aW,Kf,ZbaI,tV]:=gu
noncomputable abbrev qO:Stmt:=gy 41
noncomputable abbrev HC:Zbp:=[ZeR,ZDv,"fewest","most"]
def qJ:#[aW,HC,[ZeR,ZDv],qO]:=gu
noncomputable abbrev bI:Stmt:=gy 42
noncomputable abbrev FM:Zbp:=#[aSq,ZDv]
noncomputable abbrev aI:Str:=(#[er,Zl9]++".<locals>.")++ZDw
noncomputable abbrev aO:Pos:=YS (oU bI)
def fU:#[aW,FM,ZRK,bI]:=gu
noncomputable abbrev qN:Stmt:=gy 43
noncomputable abbrev HB:Zbp:=#[aSq,ZP3]
def qI:#[aW,HB,ZRK,qN]:=gu
noncomputable abbrev oC:Stmt:=gy 44
noncomputable abbrev DE:Zbp:=[ZgP,ZeQ,ZP3]
def om:#[gw,DE,ZgP,oC]:=gu
noncomputable abbrev wg:Stmt:=gy 46
noncomputable abbrev NE:Zbp:=ZaEg
def KJ:#[aW,NE,[ZbG,Zam0],wg]:=gu
noncomputable abbrev mY:Stmt:=gy 48
noncomputable abbrev zV:Zbp:=[Za7,ZwR,"numbers"]
def qK:#[gw,zV,Za7,mY]:=gu
noncomputable abbrev uC:Stmt:=gy 50
noncomputable abbrev HS:Zbp:=[ZbG]
def N4:#[aao,HS,uC]:=gu
noncomputable abbrev qY:Stmt:=gy 51
noncomputable abbrev HR:Zbp:=[ZbG,Ze1,Zam1,ZamY]
def mJ:#[aW,HR,[ZbG,Ze1],qY]:=gu
noncomputable abbrev tW:Stmt:=gy 52
noncomputable abbrev Kg:Zbp:=[ZbG,"placed",Zl5,Ze1,Zam1,Zl8]
def jF:#[aao,Kg,tW]:=gu
noncomputable abbrev oA:Stmt:=gy 66
noncomputable abbrev DC:Zbp:=[ZbG,ZaE,ZDx,Zsk,Zl8]
def jZ:#[aW,DC,[ZbG,ZaE],oA]:=gu
noncomputable abbrev oy:Stmt:=#[nQ,0]
noncomputable abbrev DA:Zbp:=ZuC
def CY:#[nJ,DA,ZbG,oy]:=gu
noncomputable abbrev lQ:Stmt:=#[nQ,2]
noncomputable abbrev Cb:Zbp:=ZfD
def AC:#[lf,Cb,lQ]:=gu
noncomputable abbrev iN:Stmt:=#[nQ,4]
noncomputable abbrev uK:Zbp:=ZfD
def tG:#[lf,uK,iN]:=gu
noncomputable abbrev oz:Stmt:=#[nQ,5]
noncomputable abbrev DB:Zbp:=ZfD
def CZ:#[lf,DB,oz]:=gu
noncomputable abbrev pE:Stmt:=#[nQ,6]
noncomputable abbrev FL:Zbp:=ZfD
def DS:#[lf,FL,pE]:=gu
noncomputable abbrev ox:Stmt:=#[nQ,8]
noncomputable abbrev Dz:Zbp:=Zmj
def CW:#[aW,Dz,Zmj,ox]:=gu
noncomputable abbrev jx:Stmt:=#[nQ,10]
noncomputable abbrev xp:Zbp:=[ZfC,Zsk,Zl8,ZbZ]
def og:#[aW,xp,Zsl,jx]:=gu
noncomputable abbrev lP:Stmt:=#[nQ,11]
noncomputable abbrev Ca:Zbp:=#[aSR,ZaE]
def lL:#[nJ,Ca,ZaE,lP]:=gu
noncomputable abbrev kQ:Stmt:=gy 72
noncomputable abbrev xx:Zbp:=#[qq,Zl5]
def vg:#[aao,xx,kQ]:=gu
noncomputable abbrev lO:Stmt:=#[uQ,0]
noncomputable abbrev B9:Zbp:=ZfD
def AB:#[lf,B9,lO]:=gu
noncomputable abbrev oq:Stmt:=#[uQ,1]
noncomputable abbrev Dx:Zbp:=ZZj
def CU:#[nJ,Dx,Za7,oq]:=gu
noncomputable abbrev j4:Stmt:=#[uQ,2]
noncomputable abbrev yQ:Zbp:=[ZfC,Za7,"first","blank",ZDy,ZwR]
def fJ:#[nJ,yQ,Za7,j4]:=gu
noncomputable abbrev hW:Stmt:=#[uQ,3]
noncomputable abbrev sI:Zbp:=[ZfC,ZgP,ZaE]
def kg:#[nJ,sI,ZgP,hW]:=gu
noncomputable abbrev iJ:Stmt:=#[uQ,4]
noncomputable abbrev uG:Zbp:=[ZfC,ZDy,ZeR,"blank",ZgP]
def fK:#[nJ,uG,ZDy,iJ]:=gu
noncomputable abbrev gM:Stmt:=#[uQ,5]
noncomputable abbrev rA:Zbp:=#[aSR,ZwR]
def qH:#[nJ,rA,ZwR,gM]:=gu
noncomputable abbrev oB:Stmt:=gy 75
noncomputable abbrev DD:Zbp:=ZaeS
def C0:#[aW,DD,[Zjc,Ze5],oB]:=gu
noncomputable abbrev tR:Stmt:=gy 76
noncomputable abbrev Kd:Zbp:=[ZbP]
def IS:#[gw,Kd,ZbP,tR]:=gu
noncomputable abbrev qS:Stmt:=gy 77
noncomputable abbrev HE:Zbp:=[ZbP,Zn7,ZMI,ZbaJ,ZP4,"_law_count",Ze5,"_law_now"]
def dF:#[aW,HE,[ZbP,Zn7,ZMI],qS]:=gu
noncomputable abbrev qT:Stmt:=gy 78
noncomputable abbrev HG:Zbp:=[Ze5,ZbP,ZbaJ,"_law_turn","_law_number"]
def mG:#[aa8,HG,Ze5,qT]:=gu
noncomputable abbrev wk:Stmt:=gy 79
noncomputable abbrev NH:Zbp:=ZaeT
def KM:#[aW,NH,[ZP5,ZDz],wk]:=gu
noncomputable abbrev wj:Stmt:=gy 80
noncomputable abbrev NF:Zbp:=[Zd2,ZwS,Zl_,ZwT]
def C2:#[aWZ,NF,wj]:=gu
noncomputable abbrev qQ:Stmt:=gy 81
noncomputable abbrev HD:Zbp:=[Zd2,ZwS,Zl_,"_law_kept"]
def xZ:#[aWZ,HD,qQ]:=gu
noncomputable abbrev mX:Stmt:=gy 82
noncomputable abbrev zU:Zbp:=[Zd2]
def Gi:#[aan,zU,mX]:=gu
noncomputable abbrev qU:Stmt:=gy 83
noncomputable abbrev HI:Zbp:=[Zd2,"_law_seen",ZbaK,ZwT,ZbaL,"_law_here"]
def gL:#[aan,HI,qU]:=gu
noncomputable abbrev mR:Stmt:=gy 84
noncomputable abbrev zS:Zbp:=ZabH
def Gg:#[aa8,zS,Zn7,mR]:=gu
noncomputable abbrev tP:Stmt:=gy 85
noncomputable abbrev Kb:Zbp:=[ZgQ,Zam3,Zd2,ZwS,"_law_story",Zl_]
def k9:#[aW,Kb,[ZgQ,Zam3],tP]:=gu
noncomputable abbrev tT:Stmt:=gy 86
noncomputable abbrev Ke:Zbp:=[ZbP,"_law_letters",Zsn,Zgg]
def lj:#[gw,Ke,ZbP,tT]:=gu
noncomputable abbrev mV:Stmt:=gy 87
noncomputable abbrev zT:Zbp:=[Zgg,Zn7,ZDA]
def mH:#[gw,zT,Zgg,mV]:=gu
noncomputable abbrev j5:Stmt:=gy 88
noncomputable abbrev sJ:Zbp:=[Zgg,ZbP,Zl',"_law_ranks_here",Zam4,ZDA,Zam5]
def iV:#[aa8,sJ,Zgg,j5]:=gu
noncomputable abbrev qV:Stmt:=gy 89
noncomputable abbrev HL:Zbp:=ZGG
def Gh:#[I7,HL,qV]:=gu
noncomputable abbrev gq:Stmt:=gy 90
noncomputable abbrev kO:Zbp:=[ZDB,Zgg,Zsp,Zl',Zn7,"_law_parts","_law_deep",ZP6,"_law_often"]
def dG:#[aDY,kO,ZDB,Zgg,gq]:=gu
noncomputable abbrev kP:Stmt:=gy 91
noncomputable abbrev xu:Zbp:=[ZDC,ZbP,Zsp,ZDB,Zgg]
def pA:#[aDY,xu,ZDC,ZbP,kP]:=gu
noncomputable abbrev jz:Stmt:=gy 92
noncomputable abbrev xv:Zbp:=[ZdC,Zl',Zam5,ZP4,Ze5,ZP5,ZP8,ZDz]
def cI:#[I7,xv,jz]:=gu
noncomputable abbrev tM:Stmt:=gy 93
noncomputable abbrev Ka:Zbp:=[ZdC,Ze6,Zl',"_law_inner",ZP4,ZP6,"_law_piece"]
def iI:#[aW,Ka,[ZdC,Ze6],tM]:=gu
noncomputable abbrev eY:Stmt:=gy 94
noncomputable abbrev jV:Zbp:=[ZdC,Zl',Zam5]
def gK:#[I7,jV,eY]:=gu
noncomputable abbrev lU:Stmt:=gy 95
noncomputable abbrev Cf:Zbp:=ZaUt
def AE:#[aW,Cf,[Zl',Ze5,ZP8],lU]:=gu
noncomputable abbrev jy:Stmt:=gy 96
noncomputable abbrev xq:Zbp:=[ZgQ,Zl_,Zsq]
def oj:#[aW,xq,[ZgQ,Zl_],jy]:=gu
noncomputable abbrev ig:Stmt:=gy 97
noncomputable abbrev pR:Zbp:=[Zd2,ZbaK]
def oY:#[aan,pR,ig]:=gu
noncomputable abbrev tQ:Stmt:=gy 98
noncomputable abbrev Kc:Zbp:=[ZP9,ZDD,Zsq,ZbaN]
def Af:#[aW,Kc,[ZP9,ZDD,Zsq],tQ]:=gu
noncomputable abbrev lT:Stmt:=gy 99
noncomputable abbrev Ce:Zbp:=[ZdC,ZbaN,ZP6]
def jn:#[I7,Ce,lT]:=gu
noncomputable abbrev f6:Stmt:=gy 100
noncomputable abbrev nZ:Zbp:=[ZgQ,Ze6,ZdC,ZP4,"_law_spare",ZP5,ZDz,Zsq]
def cx:#[aDX,nZ,ZgQ,Ze6,f6]:=gu
noncomputable abbrev gO:Stmt:=gy 101
noncomputable abbrev oX:Zbp:=[Ze6,Zsn,ZdC]
def v9:#[aDX,oX,Ze6,Zsn,gO]:=gu
noncomputable abbrev kJ:Stmt:=gy 102
noncomputable abbrev Aq:Zbp:=[ZbP,Ze6,"_law_words"]
def pZ:#[aW,Aq,[ZbP,Ze6],kJ]:=gu
noncomputable abbrev lS:Stmt:=gy 103
noncomputable abbrev Cd:Zbp:=[ZgQ,Ze6,Zjc,Ze5,ZbP,Zl',ZDC,Zsp,ZdC,"_law_text","_law_spoilt",Zsn]
def de:#[aW,Cd,ZahU,lS]:=gu
noncomputable abbrev KZ:Stmt:=gy 104
noncomputable abbrev Xi:Zbp:=[Zjc,"_law_desk",ZgQ,Ze6,ZbP,ZwT,Ze5,ZDD,Zsq,ZDz,Zsn]
def oh:#[gw,Xi,Zjc,KZ]:=gu
variable (T:Txt mg)(U:ZaPr)(VM:HM K c)(UO:#[aik,cT,kd,qz])
include T U VM UO
def Aw (F:#[Ac,ZbaO,lR]) : #[cH,Zmj,ZaVf]:=by
 refine #[aoh,AD]
 ·obtain⟨ea,g,rfl,_⟩:=h
  rfl
 ·obtain⟨ea,g,rfl,hg,hx,k⟩:=h
  refine ⟨_,ae (bq (Qa (fI:=Zwt) rfl U.mW U.wS U.wR U.wI #[c6,Zak,(jX (c6 ZyS (c6 ak (n8)))),bz])) (
   af (Qp Zak Zaq rfl)),?_⟩
  refine#[t8,g,rfl,hg,#[ac_,dE ea Zgb _ rfl hx U.eN ?_]];exact#[ti,ea,Zgb,hx,U.gN,k]
def FT (F:#[Ac,ZbaP,qM]) : #[cH,ZfD,(QP c.C)]:=by
 refine #[aoh,Gf]
 ·obtain⟨p,dx,rfl,_⟩:=h
  rfl
 ·obtain⟨p,dx,rfl,hp,k⟩:=h
  refine ⟨_,ae ZacC (
   ae ZacC (
   ae ZacC (
   af (gW Zak Zfn rfl)))),?_⟩
  intro w hw;have n1:p≠w:=aq hp hw;refine⟨_,rfl,p,c.C,dx,[],rfl,#[gA,n1,hp],ZcY,ZwU,ZKW,?_⟩;intro h hh;have n2:p≠h:=ZaDw;refine#[ahr,n2,U.nH,1];intro cc hc;have n3:p≠cc:=ZabO;refine#[ahr,n3,U.nC,2];refine⟨ZaJw,fun d hd=>?_⟩;have n4:p≠d:=ZJO;refine#[ahr,n4,U.nD,3];rw[ZAo]at hh;have wh:w≠h:=ZaDw;rw[ZuK]at hc;have hcw:h≠cc:=ZabO;rw[#[b',hcw],ZuK]at hc;have hwc:w≠cc:=ZabO;rw[ZIF]at hd;have hdc:cc≠d:=ZJO;rw[#[b',hdc],ZIF]at hd;have hdh:h≠d:=ZJO;rw[#[b',hdh],ZIF]at hd;have hdw:w≠d:=ZJO;rw[#[b',hdw]]at hd;rw[#[b',hwc]]at hc;rw[#[b',wh]]at hh;refine k ⟨dx,w,h,cc,d,[]⟩ _ ⟨ac,?_,?_,?_,?_,Zan,[],?_,Zan⟩ (fun b o e hb=>?_) ZmS
  ·simp[HA.fp,wh,hwc,hdw,hcw,hdh,hdc]
  ·rw[ZIE,ai hdw,ZIE,ai hwc,ZIE,ai wh,ZIE,ac]
   rfl
  ·rw[ZAo,ai hdh,ZAo,ai hcw,ZAo,ac]
   rfl
  ·rw[ZuK,ai hdc,ZuK,ac]
   rfl
  ·rw[ZIF,ac]
   rfl
  ·rw[Zfk,#[pS,hd],Zfk,#[pS,hc],Zfk,#[pS,hh],Zfk,#[pS,hw]]
   exact e
  ·simp[HA.fp]at hb
   rcases hb with rfl | rfl | rfl | rfl
   ·exact hw
   ·exact hh
   ·exact hc
   ·exact hd
def FS (F:#[ar,Zcn,ZbaQ,qL])[143] : #[hK,2,Zmj,(QH c)]:=by
 refine #[aoi,Ge]
 ·obtain⟨p,B,st,g,rfl,_⟩:=h
  rfl
 ·obtain⟨p,B,st,g,rfl,S,ft,hg,k⟩:=h
  have hu:=ZbD
  refine ⟨_,ae #[aex,#[K8,sY],U.eA,U.mA,(n8)] (
   ae (bq (#[GB,gE,hr,Zaq,Zaq])) (
   #[aXg,(bz)])),?_⟩
  have g1:ZaWA:=ZaTt
  refine Za3b
  cases e:Zq' with
  | some m =>
   refine aQ #[cR,g,hg,Zac'];exact sx (o:=ZlX) k (ZbaR) ZaV _ (ZXC)
  | none =>
   refine au #[BE,Zco,ZcB,Jr _ ZcE,B,st,g,g,S,by have:=ft.w;lia,by have:=ft.h;lia,?_];have S1:=JS (JT S ZFZ) ZHf;have k1:#[Ay,Za0_]:=#[agV,(sH Px)];have t1:Tr H Za0_:=(Zam6 _ _).upd _ _;generalize #[aec,#[bA,B.w,#[bT,ZFZ]],ZHf]=H1 at S1 k1 t1;refine #[c8,S1.d,ZF_];have hl:Zamr=Zwr:=ZAj;refine⟨_,rfl,p,c.C,Zco,_,_,rfl,ZP_,ZcY,U.nD,Va _,ZaB0,_,rfl,Zacr,ZDa⟩;have td:B.d≠t:=ZaJ5;refine#[aX1,B.d];refine Eg k (ZbaR) _ #[KF,B,(Ep S1 hd hp Zjb ht),((k1.on (Pe ht)).on (sH TW)),ZaA3,t1.upd]
def yZ (F:#[ar,Zc_,ZbaS,kH])[60](vw:#[ag8,ZDE,Zsl,Uf])[143](ji:#[ag8,ZDF,Zsl,T9]) : #[hK,4,Zsl,(KQ c)]:=by
 refine #[aoi,kC]
 ·obtain⟨p,B,st,a,b,rfl,_⟩:=h
  rfl
 ·obtain⟨p,B,st,a,b,rfl,S,ft,ha,hb,k⟩:=h
  have hr1:fj 1 _:=hr.mono (ZaF)
  refine ⟨_,ae (ju (i:=3) kC.nd rfl ZNR #[aW1,ZaD6]) (
   ae (ju (i:=4) kC.nd rfl ZNR #[aW1,#[nt,ZaA]]) (
   ae #[aex,#[hF,bF,Zaq,ZaA],U.eS,U.mS,(n8)] (
   ae #[aex,(iG (#[GB,vw,hr1,Zaq,ZaA])),U.eT,U.mT,(c6 (mD (pv 2)) (c6 ak (n8)))] (
   ae #[aIJ,Zaq,ZcT] (
   ae #[aIJ,ZaA,ZaO] (
   ae #[aIK,Zaq,ZaA] (
   ae #[aIK,ZaA,Zaq] (
   #[aXg,(aB ZaA (bz))])))))))),?_⟩
  have no:#[baT,m∈([Zrq,ZDE,ZBR,ZDF]:Zbp)->ZaE2]:=fun B m hm=>by
   simp only[aQm,aQ1,aXz]at hm;rcases hm with rfl | rfl | rfl | rfl<;>exact ZsV
  have n1:ZaC3:=ZMm;have n2:ZaC4:=ZMm;have n3:#[Rt,ZBR]:=ZMm;have n4:#[Rt,ZDF]:=ZMm;refine#[BK,ZcB,n1 B,a,S,ha]
  cases ea:ZSC with
  | none=>exact sx (o:=ZYT) k (by simp[bo,ea]) ZaV
  | some ma =>
   refine#[BK,ZcB,n1 B,b,S,hb]
   cases eb:ZSD with
   | none=>exact sx (o:=ZZs) k (by simp[bo,ea,eb]) ZaV
   | some mb =>
    refine ZaT6
    by_cases eab:a=b
    ·rw[#[uF,eab]]
     refine aQ #[cR,a,ha,Zac'];exact sx (o:=Zow) k (by simp[bo,ea,eb,eab]) ZaV _ (ZXC)
    ·rw[#[abN,eab]]
     refine au ⟨_,rfl,p,Zco,_,rfl,ZcB,n2 B,_,rfl,_,rfl,p,B,st,a,b,rfl,S,Zaym⟩
     cases em:ZaGH with
     | true =>
      refine aQ #[cR,a,ha,#[TJ,⟨ZaF,_,rfl,b,rfl,hb,Zac'⟩]];exact sx (o:=ZlC) k (ZbaU) ZaV _ s1
     | false =>
      refine au ?_;have S1:=ZJa;have kd:=Eg k (ZbaU)
      have wa:ZafX:=by unfold wr;rw[ea];rfl
      have wb:ZafY:=by unfold wr;rw[eb];rfl
      have l1:=FH ZaI a mb;have l2:=FH Zdf mb a;have f1:=ft.w;have f2:=ft.h;refine#[BE,Zco,ZP_,n3 B,B,st,a,mb,S1,Zae,Zae,?_];have S2:=JS (JT S1 ZxI) Zx_;have k2:#[Ay,Za0w]:=#[agV,(#[HS,s1].on (sH Px))];have t2:Tr H Za0w:=((ZPe s1).upd _ _).upd _ _;generalize #[aec,#[d',B.w,ZauC],Zx_]=H2 at S2 k2 t2;refine#[BE,Zco,S2.ob,n3 B,B,_,b,ma,S2,#[axM,ZxI],#[axM,Zx_],?_];have S3:=JS (JT S2 ZFL) ZzC;have k3:#[Ay,ZaVt]:=#[agV,(k2.on (sH Px))];dsimp only at S3 ⊢;have t3:Tr H ZaVt:=(t2.upd _ _).upd _ _;generalize #[aec,Zav2,ZzC]=H3 at S3 k3 t3;refine#[BE,Zco,S3.ob,n4 B,B,_,a,b,S3,by have:=ft.c;show ZaDD;lia,#[XK,ft.k],fun H4 ⟨B4,S4,k4,p4,t4⟩=>?_];dsimp only at S4;refine#[BE,B4.dx,S4.ob,n4 B4,B4,_,b,a,S4,by have:=ft.c;have:=ZaGI;show #[Gn,Zta];lia,#[f9,#[ew,Bh (n:=999) #[mB,#[TP,ft.k]] ZaG x hx]],fun H5 ⟨B5,S5,k5,p5,t5⟩=>?_]
      dsimp only at S5;have k4':#[Ay,H4]:=k3.on k4
      have f4:∀ x∈B4.fp,ZaKS:=fun x hx=>by
       rcases p4 x hx with z | z
       ·exact Zal z
       ·by_cases hq:ZaAr
        ·exact Zal hq
        ·refine Zap ?_
         cases e:H x with
         | none=>rfl
         | some o=>rw[k3 x o e hq]at z;cases z
      have k5':#[Ay,H5]:=k4'.trans k5 f4
      have f5:∀ x∈B5.fp,ZaKS:=fun x hx=>by
       rcases p5 x hx with z | z
       ·exact f4 x z
       ·by_cases hq:ZaAr
        ·exact Zal hq
        ·refine Zap ?_
         cases e:H x with
         | none=>rfl
         | some o=>rw[k4' x o e hq]at z;cases z
      refine #[c8,S5.d,ZF_];have hl:Zamr=Zwr:=ZAj;refine⟨_,rfl,p,c.C,B5.dx,_,_,rfl,S5.ob,ZcY,U.nD,Va _,ZaB0,_,rfl,_,rfl,#[FQ,3],ZDa⟩;have td:B5.d≠t:=ZaJ5;refine#[aX1,B5.d];have S6:=Ep S5 hd hp ZAT ht;refine kd _ #[KF,B5,?_,?_,f5,(#[cq,t3.trans,t4] t5).upd]
      ·show bA c.C _ p B5 Zasb
       rw[wa,wb];exact S6
      ·intro x o e hx
       have h5:=k5' x o e hx
       have hx5:x≠B5.d:=fun z=>by
        rcases f5 B5.d TW with q | q
        ·exact #[g4,hx,z,q]
        ·rw[z,q]at e;cases e
       show #[a5,(upd H5 t _),B5.d,_,x,o]
       rw[ai hx5,ai (aq h5 ht)];exact h5
def DF (F:#[ar,ZBR,ZbaV,pC]) : #[cH,ZamZ,(Gs c.C)]:=by
 refine #[aoh,DQ]
 ·obtain⟨p,B,st,g,m,rfl,_⟩:=h
  rfl
 ·obtain⟨p,B,st,g,m,rfl,S,hw,hh,k⟩:=h
  have hu:=ZbD
  have nwh:B.w≠B.h:=by have:=S.nd;simp[HA.fp]at this;exact #[g_,0].1
  have npw:p≠B.w:=dU S.ob S.w (by intro z;cases z)
  refine ⟨_,ae ZaK' (
   af (jk hu Zc7 ZaA Zaq rfl)),?_⟩
  refine⟨_,rfl,_,rfl,p,c.C,Zco,_,_,rfl,ZcB,ZcY,ZwU,Nl _,_,rfl,B.w,_,rfl,Zo2 (k:=ZsP) S.w #[aM,JZ,aQD hw ZaG],?_⟩;rw[xS];refine⟨_,rfl,_,rfl,p,c.C,Zco,_,_,rfl,#[gA,npw,ZcB],ZcY,U.nH,W1 _,_,rfl,B.h,_,rfl,Zo2 (k:=#[kE,m]) #[aM,#[b',nwh],S.h] #[aM,JZ,aQD hh ZaG],?_⟩;rw[xS];exact k
def yY (F:#[ar,ZDF,ZbaW,kG]) : #[cH,Zsl,(T9 c.C)]:=by
 refine #[aoh,pY]
 ·obtain⟨p,B,st,a,b,rfl,_⟩:=h
  rfl
 ·obtain⟨p,B,st,a,b,rfl,S,q_,j_,k⟩:=h
  have hu:=ZbD
  refine ⟨_,ae (ju (i:=3) pY.nd rfl ZNR (Qi Zc7 Zaq iE ZLT)) (
   af (jk hu ZaO ZaA ve rfl)),?_⟩
  refine⟨_,rfl,p,c.C,Zco,_,_,rfl,ZcB,ZcY,U.nC,U9 _,B.c,rfl,ZaKl,_,rfl,ZDI⟩;have s1:Zaze:=ZJA;have S1:=ZJa;have ap:=S.apart;have bk0:B.cs.length=ZrS:=ZazR
  have lc:#[ok,#[bc,(eQ B.cs ZdY)]]:=#[aL,uq bk0,aQD q_ ZaG]
  have np:=S.pne;simp only[HA.fp,aQm,not_or]at np;refine iB _ (Zdu a) S1.c rfl lc (#[PJ,?_]) (fun hv=>?_)
  ·rcases Zad1 with ⟨h1,h2,h3⟩ | ⟨ad,h1,h2,h3,h4⟩
   ·rw[h1]at hv;cases hv
   ·rw[h2]at hv
    cases hv
    have lk:#[ok,#[bc,(vF (u9 ZdY a))]]:=by
     have e:∀ ci:Zip,(#[akQ,ZaFH])->#[Gn,ZKV]:=by
      intro ci
      induction ci with
      | nil=>intro _;show 0<Zbz;decide
      | cons x r ih =>
       intro h;unfold u9;split
       ·exact Zad4
       ·exact ih ZRI
     unfold vF;rw[Z9];exact aQD (e _ j_) ZaG
    refine#[BB,ad,Zo2 (k:=Ztg) h3 lk];rw[Me]
    have bv6:ad∈Zdg:=by simp[HA.fp,h1]
    have nn:∀ x,x∉B.cs->x≠ad:=fun x hx z=>#[g4,hx,z,h1];obtain⟨q1,q2⟩:=h4 b (upd ZUR ad #[h0,(rn (u9 ZdY a) b)]) ap.cs (fun x _ hx o e=>#[ch,hx,e]) ac;refine k _ #[KF,B,⟨#[ch,(nn _ np.2.2.2.2),ZP_],S.nd,#[ch,(nn _ ap.w),S1.w],#[ch,(nn _ ap.h),S1.h],by rw[ai (nn _ ap.c),S1.c,q2],q1,?_⟩,((Pe hl).on (sH bv6)),#[mB,Zal hx],Zam6];refine ao S1.d ZF_;refine #[aQW,#[gA,(nn _ ap.d),hd]];obtain⟨xs,ex⟩:=kW x;rw[#[tv,S1.tup (xs:=xs) #[eW,ex,e] #[aM,z,bv6]]];exact e
  ·rcases Zad1 with ⟨h1,h2,h3⟩ | ⟨ad,h1,h2,h3,h4⟩
   ·have lB:ZJv:=fun z=>by obtain⟨o,e⟩:=S.tracked z;rw[hl]at e;cases e
    have lB':=lB;simp only[HA.fp,aQm,not_or]at lB';obtain⟨l1,l2,l3,l4,l5⟩:sy:=lB';refine#[BB,l,Zo2 (k:=Ztg) #[gA,l3,ac] #[wo,0<Zoi]];rw[#[et,k7 [] ZHw (ZeU Zad)=vF [b]],pV _ hv]
    have e1:∀ x o,Zadm->x≠B.c->x≠l->#[bB,Za2T,o]:=fun x o e hx hy=>by
     rw[ai hy,ai hx,ai hy];exact e
    have nl:∀ x o,Zadm->x≠l:=fun x o e=>aq e hl;refine k _ #[KF,⟨Zco,B.w,B.h,B.c,B.d,B.cs++[l]⟩,#[aYr,e1 _ _ S.w ap.wc (nl _ _ S.w),e1 _ _ S.h ap.hc (nl _ _ S.h)],?_,ZmC,(Zam6 _ _).upd]
    ·exact e1 _ _ ZcB np.2.2.1 (nl _ _ ZcB)
    ·refine Lc.fp ⟨ap.wh,ap.wc,ap.wd,ap.hc,ap.hd,ap.cd,?_,?_,?_,?_,?_⟩
     ·simp[ap.w,aQA l1]
     ·simp[ap.h,aQA l2]
     ·simp[ap.c,aQA l3]
     ·simp[ap.d,aQA l4]
     ·exact xz ap.cs l5
    ·show Za2T B.c=Zab (.dK (eQ ZaHN Zta))
     rw[#[b',l3],ac,h3 b,vz a [b] l bk0]
    ·show Yr _ ZaHN Zta
     rw[h3 b];exact bN (wL S.cs fun x hx o e=>#[a02,#[fP,ap.c,z,hx]]) #[h9,ac]
    ·refine Zad6
     refine #[aQW,e1 _ _ hd (aQA ap.cd) (nl _ _ hd)];obtain⟨xs,ex⟩:=kW x;exact e1 t _ e #[bC,S.tup (xs:=xs) #[eW,ex,e] #[aM,z,TU]] (nl t _ e)
    ·intro x o e hx
     exact #[a02,#[g4,hx,z,TU]]
    ·simp only[HA.fp,aQm,aQr]at hx ⊢
     rcases hx with hx | hx | hx | hx | hx | hx | hx
     ·exact #[AD,hx]
     ·exact Zal ZaGM
     ·exact Zal (Zap (Zap (Zal hx)))
     ·exact Zal #[AZ,ZaGM]
     ·exact Zal #[AZ,#[AZ,hx]]
     ·exact #[g4,Zap,hx,hl]
     ·cases hx
   ·rw[h2]at hv;cases hv
def Ct (F:#[ar,Zsm,ZbaX,ou]) : #[cH,ZfD,(IU c.C)]:=by
 refine #[aoh,CV]
 ·obtain⟨p,B,st,rfl,_⟩:=h
  rfl
 ·obtain⟨p,B,st,rfl,S,hl,k⟩:=h
  refine #[u6,#[ak2,wK,ZbaY,ZbaZ,#[nt,Zc7]]];refine⟨_,rfl,p,c.C,B.dx,_,_,rfl,S.ob,U.cl,U.nW,Nl _,B.w,_,Zg9,rfl,S.w,?_,by unfold aU;rw[Z9];exact hl,k⟩;unfold dk aU;rw[aQP,aQP];rfl
def DG (F:#[ar,Zrq,Zba0,pD])(NG:Bb P w K mg ZaS c) : #[hK,3,Zmj,(x9 c)]:=by
 refine #[aoi,DR]
 ·obtain⟨p,B,st,g,rfl,_⟩:=h
  rfl
 ·obtain⟨p,B,st,g,rfl,S,hg,k⟩:=h
  have hu:=ZbD
  refine ⟨_,(ae (aN #[K8,pT] (af (P3 NG U hr dN rfl ZCr rfl Zaq)) ax) (
   ZaAp)),?_⟩
  have g1:ZaWA:=ZaTt
  refine Za3b
  cases e:Zq' with
  | none =>
   rw[e]at k;exact aQ #[cR,g,hg,fun dx hdx=>k dx _ (ah hdx) ac]
  | some m =>
   rw[e]at k;refine au ⟨_,rfl,p,c.C,Zco,_,_,rfl,ZcB,ZcY,ZwU,Nl _,_,rfl,B.w,_,rfl,(by rw[e]at g1;exact g1),k⟩
def Ii (F:#[ar,ZDE,Zba1,tL]) : #[cH,Zsl,(Uf c.C)]:=by
 refine #[aoh,IR]
 ·obtain⟨p,B,st,a,b,rfl,_⟩:=h
  rfl
 ·obtain⟨p,B,st,a,b,rfl,S,k⟩:=h
  have hu:=ZbD;refine #[kY,af (ar (Kt (sY hu ZaA (Qe hu Zc7 Zaq iE ZLT))))];refine⟨_,rfl,_,rfl,p,c.C,Zco,_,_,rfl,ZcB,ZcY,U.nC,U9 _,B.c,rfl,ZaKl,_,rfl,ZDI⟩;have s1:Zaze:=ZJA;have S1:=ZJa;refine #[kY,#[pD,ZxO,S1.c]];rcases Zad1 with ⟨h1,h2,h3⟩ | ⟨ad,h1,h2,h3,h4⟩
  ·rw[h1]
   refine #[aRs,l,ac];have:=k _ s1;unfold qw at this;rw[h2]at this;exact this
  ·rw[h2]
   refine #[aRs,ad,h3];rw[GF];exact k _ s1
def FU (F:#[ar,ZDx,Zba2,mO])[464] : #[bi,3,ZfD,ZaCU]:=by
 refine #[aoh,xY]
 ·obtain⟨p,A0,st,rfl,_⟩:=h
  rfl
 ·obtain⟨p,A0,st,rfl,S,ndc,lc9,k⟩:=h
  have hu:=ZbD
  refine ⟨_,(ae (bh 1 xY.nd ZaYs) (
   ae ZaKv (
   ae ZaKv (
   ae (SS (gW Zaq (#[g1,Qd,am mO,zR,ZbaG,[Zac,Zac],Dk,(Qm (cG Zak rfl)),#[xm,⟨#[a30,ZbaG,ZbaG],dv,pv 0,(bR qj Zak0 ZP' aZn Zmf)⟩]]) rfl)) (
   ae (gW Zaq (bR mq Zak0 Zsr aX3 ZHh) rfl) (
   ZJl)))))),?_⟩
  try dsimp only[cxK,cxK']
  intro x dx nx ndx nex;refine⟨x,dx,rfl,ac,fun B H1 S1 kp fr=>Zq1⟩
  have s0:aG H #[ia,dx,ZtN,x,#[hP,c.C,[]]]:=#[agN,nx,ndx]
  have E1:Ev c H H1 x B Zls:=⟨#[afK,kp,nx],S1,BG,#[aMd,fr]⟩;have S1:=E1.hall;have xo:=S1.ob;have s1:=E1.same;have px:#[tM,Zqu]:=#[axm,nx];clear E1 S1;refine#[L3,s1 _ _ ZcB,ZwU,Nl,A0.w,s1 _ _ S.w,ZX3];have xw:x≠lw:=aq xo hlw;refine#[Mw,#[ch,xw,xo],ZwU];rw[VU];have fw:#[a_,lw]:=Zsg hlw;have s2:aG H (upd #[d',lw,ZtK] x ZEL):=cH #[tu,hlw] nx
  have w2:#[a5,Zaft,x,ZEL,lw,ZtK]:=#[bm,ZaAi,ac]
  have x2:#[a5,Zaft,x,ZEL,x,ZEL]:=ac;generalize upd Zaft x ZEL=H2 at s2 w2 x2 ⊢;refine#[L3,s2 _ _ ZcB,U.nH,W1,A0.h,s2 _ _ S.h,fun lh hlh=>?_];have xh:x≠lh:=aq x2 hlh;have wh:lw≠lh:=aq w2 hlh;refine#[Mw,#[ch,xh,x2],U.nH];rw[VT];have fh:#[a_,lh]:=s2.free hlh;have s3:aG H (upd ZVt x ZEK):=cH (ZgO (ah hlh)) nx
  have w3:#[agm,lw,ZtK]:=#[zM,ZaAi,wh,w2]
  have h3:#[agm,lh,Zaz6]:=#[bm,#[b',xh],ac]
  have x3:#[agm,x,ZEK]:=ac;generalize upd ZVt x ZEK=H3 at s3 w3 h3 x3 ⊢;have cl:=ZazR;have kl:=uq cl;refine#[L3,#[gy,ZcB],U.nC,U9,ZhC,ZaCh,fun oo lc hlc=>?_];have c3:=ZaCh
  have cne:∀ b,Zbb->Zz5:=fun b e z=>by rw[z,S.c]at e;cases e
  have hFz:#[a5,H3,ZhC,Zaq7,ZhC,Zaq7]:=ac;have hF:∀ b,Zz5->upd H3 ZhC Zaq7 b=H3 b:=#[cX,Zfk];generalize upd H3 ZhC Zaq7=HF at hlc hFz hF ⊢
  have lcc:lc≠ZhC:=fun z=>by rw[z,hFz]at hlc;cases hlc
  have az6:H3 lc=Zac:=#[eV,hF lc lcc,hlc]
  have flc:#[a_,lc]:=ZDG az6
  refine Nh (d:=A0.c) (o:=oo) (kvs:=eQ A0.cs ZdY) #[dq,∃ (v1 v2:Zgj)(cs:Zei),σ=[v1,v2]/\aG HF HK/\HK lc=Zab (.dK (eQ cs (Zba3 i)))/\#[k6,(#[FF,y,#[afm,HK]]),cs,Zba3,i]/\(#[Ox,HF b=Zac/\b≠lc])/\Za8r]
   (iC none none [] rfl (ah hlc) ac Zan (fun b h=>nomatch h) aXs) #[js,⟨_,_,_,_,t1,_⟩,ZaEY] ?_ ?_
  ·intro i q σ HK T hq a_ hT;obtain⟨v1,v2,cs,rfl,t1,hd,pc,fr2,bj0⟩:iz:=a_
   obtain⟨a,y,ha,hy,rfl⟩:bM:=M8 cl hq;have csl:=ZZq;refine #[N',S.cs,ha,fun y' hy' hA=>?_];rw[hy]at hy';cases hy';have hil:i<ZrS:=#[rA,hy]
   have aF:#[afm,HF]:=by
    rw[hF a Zg8]
    ·exact #[gy,hA]
    ·have:=S.nd
     simp only[HA.fp,aQ0,aQm,not_or]at this;exact #[fP,#[bR,0].2.2.1.2,z,aQC ha]
   refine#[pK,T,ac];have sT:=#[gn,[kV (Zdu y.1),ZaN a],hT];refine To #[ag4,a,sT _ _ (t1 _ _ aF),#[DH,bS _ (Zdu y.1) #[aM,ai (aq ZaHw hl),sT _ _ hd] rfl #[ih,uq csl,aQQ,ZmJ] ?_]];have lF:HF l=Zac:=t1.free (sT.free hl);have llc:l≠lc:=(aq ZaHw hl).symm
   have lcs:l∉cs:=fun z=>by
    obtain⟨j,hj⟩:=aZc z;refine #[aWq,pc];have:=sT _ _ e;rw[hl]at this;cases this
   refine iC _ _ ZaHM rfl (cH (ZwJ (Zam7 (ah hl))) hlc) ?_ ?_ Zxg (xz bj0 lcs)
   ·rw[ac,pV _ (G9 (ZfO)),aQM,hy,aQK,vz _ _ _ csl]
    have hn:(st.circ.map (·.1))[i]? = Zab y.1:=#[VG,hy]
    rw[List.map_take]at z;obtain⟨j,hj⟩:=aZc z;have hj2:=ZaAx;rw[aQQ]at hj2;rw[ZZb]at hj;have:=#[aNc,Zyu,ndc,hj.trans,hn.symm]
    lia
   ·rw[aQM,hy,aQK]
    refine bN (Zba4 pc fun b z hb e=>?_) #[h9,#[qn,llc]];rw[ai #[c1,fr2].2];exact Zyv _ _ #[ff,sT]
   ·rcases #[D_,hb] with z | z
    ·exact fr2 b z
    ·rw[Zdd];exact⟨lF,llc⟩
  intro σ HK a_;obtain⟨v1,v2,cs,rfl,t1,hd,pc,fr2,bj0⟩:iz:=a_;rw[kl,aQH]at hd pc
  have xF:#[bB,HF,ZEK]:=#[aL,hF x (cne x nx),x3]
  refine#[Mw,t1 _ _ xF,U.nC];rw[VR]
  have nfz:#[agQ,H ZhC]:=fun o' u' z=>by rw[S.c]at z;cases z
  refine jT ZhC oo Zaq6 #[gA,(cne x nx).symm,ZaEY] nfz ?_
  have lcx:lc≠x:=fun z=>by rw[z,x3]at az6;cases az6
  have csx:#[Ox,Zqu/\Zz5/\Zbb]:=fun b hb=>by
   have e:=#[kI,fr2]
   have n1:Zz5:=fun z=>by rw[z,hFz]at e;cases e
   refine ⟨(fun z=>by rw[z,xF]at e;cases e),n1,?_⟩;rw[hF b n1]at e;exact ZDG e
  generalize hH4:upd (upd HK x ZaZ7) ZhC (.dK (eQ A0.cs ZdY))=H4
  have g4:∀ b,Zqu->Zz5->H4 b=HK b:=fun b n1 n2=>by rw[<-hH4,ai n2,ai n1]
  have x4:#[bB,H4,ZaZ7]:=by rw[<-hH4,ai (cne x nx),ac]
  have s4:aG H H4:=fun b o e=>by
   by_cases hb:b=ZhC
   ·rw[hb,S.c]at e
    rw[hb,<-hH4,ac];exact e
   ·rw[g4 b #[c4,px] hb]
    exact t1 _ _ #[aM,hF b hb,#[gy,e]]
  have up4:#[Gr,#[bt,H3],x,ZhC,H4]:=fun b o e n1 n2=>#[aL,g4 b n1 n2,t1 _ _ #[aM,hF b n2,e]]
  have w4:=up4 _ _ w3 (aQA xw) ZaHn;have h4:=up4 _ _ h3 (aQA xh) ZaHo
  have c4:H4 lc=Zab #[TD,cs]:=#[aL,g4 lc lcx lcc,hd]
  have pc4:Za0 (#[FF,y,#[afm,H4]]) cs ZdY:=Wz.Paired.mapP' pc fun b z hb e=>by
   rw[g4 b ZaBv #[c1,csx].2.1];exact e
  have cz4:lw≠lc:=fun z=>by rw[z,az6]at w3;cases w3
  have cz3:lh≠lc:=fun z=>by rw[z,az6]at h3;cases h3
  have wcs:lw∉cs:=fun z=>by
   have e:=(fr2 lw z).1;rw[hF lw ZaHn,w3]at e;cases e
  have hcs:lh∉cs:=fun z=>by
   have e:=(fr2 lh z).1;rw[hF lh ZaHo,h3]at e;cases e
  clear hH4 up4 g4;refine ao S.d ZX4;refine#[L3,s4 _ _ ZcB,U.nD,Va,A0.d,#[h4,#[qt,hq]],fun ld hld=>?_];have xd:x≠ld:=aq x4 hld;refine#[Mw,#[ch,xd,x4],U.nD];rw[VS];have fd5:#[a_,ld]:=Zam8 hld
  have up:#[Ha,H4,x,(upd H4 ld #[mE,qs.map]),x,#[EJ,{ B with w:=lw,h:=lh,c:=lc,d:=ld }]]:=#[CZ,#[ch,n,(ah hld) _ _ e]]
  refine#[bK,k x ⟨Zco,lw,lh,lc,ld,cs⟩ _ nx ⟨?_,?_,up _ _ w4 (aQA xw),up _ _ h4 (aQA xh),up _ _ c4 lcx,?_,qs,?_,?_⟩ Zxg ?_]
  ·rw[ac,<-W0 _ cs]
  ·have d1:lw≠ld:=aq w4 hld
   have d2:lh≠ld:=aq h4 hld;have d3:lc≠ld:=aq c4 hld
   have d4:ld∉cs:=fun z=>by
    obtain⟨j,hj⟩:=aZc z;refine #[aWq,pc4];rw[hld]at e;cases e
   have d5:lc∉cs:=#[aH,(fr2 lc z).2 rfl];simp[HA.fp,wh,cz4,cz3,wcs,hcs,d1,d2,d3,d4,d5,bj0]
  ·exact Zba4 pc4 fun b z hb e=>up _ _ e ZaBv
  ·rw[#[b',xd],ac]
  ·exact Zj4 hqp fun a z e=>up _ _ #[ff,s4] #[ff,px]
  ·simp[HA.fp]at hb
   rcases hb with rfl | rfl | rfl | rfl | z
   ·exact fw
   ·exact fh
   ·exact flc
   ·exact fd5
   ·exact (csx b z).2.2
  ·exact cH (ZwV (ah hld)) nx
def DM (F:#[ar,ZQa,ZQa,pF]) : #[cH,[ZaE],(Ja K)]:=by
 refine #[aoh,DT]
 ·obtain⟨l,xs,rfl,_⟩:=h
  rfl
 ·obtain⟨l,xs,rfl,hS,k⟩:=h
  refine #[u6,#[aUb,Zak]];exact⟨_,rfl,l,xs,rfl,hS,k⟩
def F6 (F:#[ar,ZMP,ZMP,qX]) : #[hK,2,ZMl,ZaM2]:=by
 refine #[aoi,Gj]
 ·obtain⟨a,b,c,d,rfl,_⟩:=h
  rfl
 ·obtain⟨a,b,c',d,rfl,k1,k2⟩:=h
  have hu:=ZbD
  have two:Zpi:=ZaF
  have four:#[ph,4]:=ZaF
  have six:#[ph,6]:=ZaF
  refine ⟨_,(ae #[EF,#[bbh,MX,(c5 (dw #[c6,Zak,Zaq,#[c6,ZaA,ZaO,bz]]))],U.eS,U.mS,Zbw] (
   af (ar (dw #[c6,#[e9,Zak,Zaq],#[e9,ZaA,ZaO],#[c6,#[e9,Zak,ZaA],#[e9,Zaq,ZaO],#[c6,#[e9,Zak,ZaO],Zadv,bz]]])))),?_⟩
  try dsimp only[cxK,cxK']
  refine⟨_,rfl,_,rfl,_,rfl,_,rfl,four,ZDI⟩;have s1:=#[mL,ZaY0,hl];refine⟨l,ZauS,rfl,Zy_,#[axO,(4:Nat)],fun q S n hq hn hnd=>?_⟩;have s2:=#[gm,Zafv,hq];refine⟨q,_,_,rfl,ac,_,_,rfl,rfl,_,rfl,?_⟩;have A_:=Zhf;generalize upd #[gY,#[eB,ZaY0]] q ZWG=H2 at A_ ⊢;have hn:n<=4:=hn;have hnd:n=4↔ZaxJ:=hnd
  by_cases nd:ZaxJ
  ·rw[aQg (#[ew,hnd.mpr nd])]
   refine au #[np,fun t1 h1=>#[np,#[aMQ,#[np,fun t4 h4=>#[np,fun t5 h5=>#[np,fun t6 h6=>⟨six,ZX5⟩]]]]]];have g1:=#[gn,[Zy8,Zzc],h1];have g2:=#[gn,[ZGZ,ZGY],h2];have g3:=#[gn,[Zy8,ZGZ],h3];have g4:=#[gn,[Zzc,ZGY],h4];have g5:=#[gn,[Zy8,ZGY],h5];have g6:=#[gn,[Zzc,ZGZ],h6];have g7:=#[mL,[ZaN t1,ZaN t2,ZaN t3,ZaN t4,ZaN t5,ZaN t6],hlq];have g67:=Zam9 g7;have g57:=g5.trans g67;have g47:=g4.trans g57;have g37:=g3.trans g47;have g27:=ZwW g37;have g17:=ZDJ g27;refine k1 nd lq _ (Zam_ (g1.free (g2.free (g3.free (g4.free (g5.free (g6.free hlq))))))) (ZwX g17) #[cg,[t1,t2,t3,t4,t5,t6],ac];exact ZaB #[qT,g27] #[m',#[qT,g37],#[qT,g47],#[m',#[qT,g57],#[qT,g67],#[h9,#[qT,g7]]]]
  ·rw[aQe (by have:n≠4:=#[jx,nd,hnd.mp];lia)]
   exact aQ (k2 nd H2 A_)
def vP (F:#[ar,ZBT,ZBT,qP]) : #[cH,Zqf,x8]:=by
 refine #[aoh,KL]
 ·obtain⟨z,rfl,_⟩:=h
  rfl
 ·obtain⟨z,rfl,asc,len,k⟩:=h
  have hu:=ZbD;have sl:Za9b:=aQU
  have zl:Zol:=Zae
  have hz:ZalN:=Zuh
  refine ⟨_,(ae #[JB,(ay ng Zak (#[ak9,kd,UO.mkd]) rfl),(CN (jd (CL zZ zZ ZdK Zak6 #[ak3,UO.ml]))),(ve)] (
   #[cs,#[ak8,#[a0z,qP,Ez,UO.mt]]])),?_⟩
  try dsimp only[cxK,cxK']
  refine gi UO.kd fun o d_ n k1 k2 k3 k4 k5=>?_;refine⟨_,rfl,kd,ZPI ZaC,rfl,#[nO,(fC o d_ n k1 k2 k3 k4 k5)],rfl,Ej _,_,rfl,?_⟩;unfold iD at k;rw[#[agO,ZaKQ,ZaKQ,ZadP,wX z ZwG]]
  by_cases c1:ZadP
  ·rw[aQe c1]at k ⊢
   exact ZahC
  rw[aQg c1]at k ⊢;refine au Za3T
  by_cases h1:ZGg
  ·rw[ZaFB]
   refine aQ ZahP
   by_cases h2:Zyd
   ·rw[ZaOM]
    rw[aQe (#[bn,ZW8,Zvc])]at k;refine ZaZy;refine #[a31,fV]
    ·refine ZaoB
     rw[Vn];exact ZPW
    refine⟨q,_,rfl,Zbh hq1,?_⟩;rw[#[am',#[auY,fV] id=Za'x fV,Za7a]];exact ZLQ
   ·rw[ZaPt]
    rw[#[aRo,h2,q.2]]at k;exact ZahC
  ·rw[ZaH9]
   rw[#[aRo,h1,q.1]]at k;exact #[mP,ZahC]
def y4 (F:#[ar,ZMR,ZMR,kI]) : #[cH,[ZeQ],QL]:=by
 refine #[aoh,kF]
 ·obtain⟨p,n,f,rfl,_⟩:=h
  rfl
 ·obtain⟨p,n,f,rfl,hn,hf,k⟩:=h
  have sl:Za9b:=aQU
  refine ⟨_,(ae ZaKt (
   ae #[za,ZEs,Zfn] (
   ae (bh 1 kF.nd Zfn) (
   ae #[lq,ZKs,2,kF.nd,(af #[jd,(ay #[agX,NP,18] ZaA Zaq rfl),#[aoO,Zaq,Zmh]])] (
   ZJl))))),?_⟩
  try dsimp only[cxK,cxK']
  obtain⟨xs,hp⟩:=hf.hd;refine Zre
  cases f with
  | pl f =>
   rw[EY];refine Zmv;rw[E3];exact ZaXR
  | name w =>
   rw[X7];refine Zmv;rw[X8];exact ZaXR
  | back f =>
   obtain⟨q,e1,e2⟩:ao:=hf;rw[EV];exact #[a1L,#[awD,[q],(ZaB (Zamk #[VD,hl]) Zan)]]
  | row fs =>
   obtain⟨t,as,e1,e2,fl,pr⟩:bB:=hf;have al:=ZgE;rw[E4];refine Zlu;rw[#[HG,#[lL,ZaC #[c2,ZaE]=ZaC (Za9 ZaE)]]];refine Zadk;have s1:=ZxX;refine ZaqX
   refine oS (K:=K) (a:=t) (xs:=ZEk) #[dq,∃ (v:Zgj)(bs:Zei)(gs:Zb2),σ=[ZfM,Zg6,v]/\Zfi/\HK l=Zab #[mE,Zkh]/\Za0 (bX n HK) bs gs/\gs=#[ys,0].foldl Zkv []/\Zky<=i]
    (iC Zac [] [] rfl s1 ac Zan rfl Za8) ZaQe ?_ ?_
   ·intro i y σ HK hi a_;obtain⟨v,bs,gs,rfl,s2,j_,pg,eg,gl⟩:iz:=a_
    obtain⟨b,hb,rfl⟩:ao:=ZbL;have hil:=#[rA,hb];refine #[N',pr,hb,fun g hg hB0=>?_];have hB:bX n HK b g:=hB0.mono #[iG,s2];have bl:=aQx pg
    have rdP:#[aYx,bs,ZoL,ZoO]:=by
     clear eg gl bl j_
     induction pg with
     | nil=>exact Zan
     | cons a _ ih=>exact Za0X
    have es:#[aay,0].foldl Zkv []=Zkv gs g:=by rw[aQM,hg,aQK,aZY,eg];rfl
    refine⟨_,rfl,_,rfl,l,bs,g.dt,ZoL ZoO,rfl,ZaCp,Zr_ hB.rd Zaf,rdP,Zayn⟩;have hkb:kb=Zad↔g∈gs:=hkb.trans ⟨#[aH,by refine ao (ZrW z) fun u hu e=>?_;rw[ZaCK]at hu;exact hu],#[aH,aXe (f:=ZoO) z]⟩
    cases kb with
    | true =>
     refine au (iC _ bs gs rfl s2 j_ pg ?_ Zaf);rw[es];unfold likeStep;rw[aQd (hkb.mp rfl)]
    | false =>
     refine aQ #[ua,j_,l,j_,Ztn]
     have up:∀ c xs,HK c=Zab ZdJ->#[a5,HK,l,#[hV,Zkh ZaN,ZE_],c,ZdJ]:=fun c xs e=>by rw[ai (fun z=>by rw[z,j_]at e;cases e)];exact e
     refine iC _ (bs++[b]) (gs++[g]) rfl (cH s2 hl) Zvk (bN #[j6,pg,ZwF up] (ZaB (hB.mono up) Zan)) ?_ (Zvg);rw[es];unfold likeStep;rw[aQc (fun z=>by have:=hkb.mpr z;cases this)]
   intro σ HK a_;obtain⟨v,bs,gs,rfl,s2,j_,pg,eg,gl⟩:iz:=a_;rw[Z9,al,aQH]at eg;subst eg;exact#[bK,k l bs HK hl s2 j_ pg]
def y7 (F:#[ar,ZQb,ZQb,kK]) : #[cH,[ZeQ],QK]:=by
 refine #[aoh,p6]
 ·obtain⟨p,f,rfl,_⟩:=h
  rfl
 ·obtain⟨p,f,rfl,hf,ok,k⟩:=h
  refine ⟨_,(ae ZaDH (
   ae ZaDH (
   ae (bh 1 p6.nd ZaCB) (
   ae #[Eu,#[sK,(aL sW Zaq ZaJ1)]] (
   #[cs,#[ak2,MU,T.bmax,PyProof.Rows.boot_max,(fG ZaJ1 ZdK)]]))))),?_⟩
  try dsimp only[cxK,cxK']
  obtain⟨xs,hp⟩:=hf.hd;refine Zre;have o1:=ok.1;have o2:=Zqh
  cases f with
  | pair a b =>
   rw[Zase];exact ZgC
  | quad a b c d =>
   rw[ZEy];refine Zmv;rw[ZaP7];exact ZgC
  | line g =>
   obtain⟨q,e1,e2⟩:ao:=hf;have g0:Zu2:=o1;rw[ZEy];refine Zlu;rw[ZEy];refine Zaim;rw[ZEy];refine Za3K
   have e:(#[b5,ZdF>ZaIl,ZdF,ZaIl])=((ZDo g).row.length:Nat):=by
    show (#[b5,ZdF>ZPs,ZdF,ZPs])=(ZaVQ:Nat)
    rw[Z9,List.length_zip,aQN,ZnI]
    lia
   rw[e];exact k
  | star g =>
   obtain⟨q,e1,e2⟩:ao:=hf;have g0:Zu2:=o1;rw[ZEy];refine Zlu;rw[ZEy];refine Zaim;rw[ZEy];refine Za3K
   have e:(#[b5,ZdF>ZaIm,ZdF,ZaIm])=((ZPP g).row.length:Nat):=by
    show (#[b5,ZdF>ZPs,ZdF,ZPs])=(#[bd,Zqb,ZLx]:Nat)
    rw[Z9,Z9,aQN,ZnI]
    lia
   rw[e];exact k
  | all g =>
   obtain⟨q,e1,e2⟩:ao:=hf;have g0:Zu2:=o1;have g1:Zq4:=o2;rw[ZEy];refine Zlu;rw[ZEy];refine Zaim;rw[ZaSg];have lm:#[bd,(ZamD g).gs.map,Zau]=ZfB:=Z9 ..;rw[lm];refine aQ ⟨_,rfl,_,rfl,_,_,rfl,rfl,_,_,rfl,rfl,ZBn,_,_,rfl,rfl,ZRk,?_⟩
   have e:ZaSQ/2=ZaPC:=by
    have h:=BX g
    have h2:#[a4,2*ZWZ]=#[a4,ZfB*(ZfB-1)]:=#[e0,h]
    rw[Int.natCast_mul,Int.natCast_mul,#[cD,Int.natCast_sub]]at h2;have h3:ZaSQ=2*ZaPC:=h2.symm;rw[h3]
    lia
   rw[e];exact k
def DL (F:#[ar,ZQc,ZQc,jg])[162] : #[bi,3,[ZeQ],Gv]:=by
 refine #[aoh,vh]
 ·obtain⟨p,f,rfl,_⟩:=h
  rfl
 ·obtain⟨p,f,rfl,hf,ok,k⟩:=h
  have two:Zpi:=ZaF
  refine ⟨_,(ae #[Eu,#[y3,ZaOg]] (
   ae (bh 1 vh.nd ZEs) (
   ae #[Eu,(Iz rfl (fG Zaq (iF C4 Zaq (gI (aj)) qE)) Zak0 Zsr Zak0 T.zip)] (
   ae #[Eu,(#[g1,dM,am jg,qx,ZaJn,ZS',Dk,(sZ (iF C4 Zaq (gI (aj)) qE)),#[xn,ZaJn,#[e9,#[Uj,Zaq],Zak]]])] (
   ae #[Eu,(#[g1,Qc,am jg,qx,ZLW,[Zac,Zac,Zac,ZX8],Dk,#[av3,Zmf],#[xm,mx #[a30,ZLW,ZLW] dv (SR K (iF (Tg K) ZaO (gI (aL d8 Zak (aj))) qE)) (gv 2 #[xe,ZLW]) dv Zadv]])] (
   #[cs,(lK t_ ZbI rfl L7 #[c6,ZEt,ZEt,#[c6,ZEt,ZEt,bz]])])))))),?_⟩
  try dsimp only[cxK,cxK']
  obtain⟨xs,hp⟩:=hf.hd;refine Zre;have o1:=ok.1;have o2:=Zqh
  cases f with
  | pair a b =>
   have hp:ZMf:=hf;rw[Zase];refine Za4l;have s1:=ZaCy;exact ZaXz
  | line g =>
   obtain⟨q,e1,e2⟩:ao:=hf;have e2:Zacc:=e2;have g0:Zu2:=o1;have g1:Zq4:=o2;rw[ZEy];refine ZUy;rw[#[th,#[dE,(ZDo g).word,Za7]]];refine aQ #[Z_,_,rfl,ZaYV];rw[Ll,<-List.map_drop];have s1:=ZaK3;refine ⟨q,r,_,_,rfl,ZaqW,Zbg ac,(#[rP,Z9,Z9,aQN]),(#[te,aQN]),(fun l ts H' hl s2 j_ pr=>?_)⟩;rw[Rl]at pr;exact k l H' ZWt ZU3 #[aY,ts,j_,xK (f:=fun p:ZgF=>ZaGQ) (R:=fun t p=>ZaFy) pr]
  | star g =>
   obtain⟨q,e1,e2⟩:ao:=hf;have e2:Zacc:=e2;have g0:Zu2:=o1;have g1:Zq4:=o2;rw[ZEy];refine ZUy;rw[ZEy];refine Zlu;rw[#[th,#[dE,(ZPP g).word,ZbS]]];refine aQ #[eH,ZaYV];rw[Ll,<-List.map_drop];have s1:=ZaK3;have hr2:#[dR,r,ZaaH,r,ZaaH]:=ac;generalize upd H r ZaaH=H1 at s1 hr2 ⊢;refine #[cC,r,ZaJM,(ZDI)]
   have dl:#[bd,ZdA,1]<=60:=ZXI
   refine oS (K:=K) (a:=r) (xs:=Zqb Zau) #[dq,#[TQ,σ=[v,Zyq]/\Zaci/\dh HK l (#[mr,(ZdA 1).take] ZLx)]]
    #[cC,Zac,ZJA,Zvr] #[js,Zqm,#[e7,s2,hr2]] ?_ ?_
   ·intro i y σ HK hi a_;obtain⟨v,rfl,s2,row⟩:aK:=a_
    obtain⟨o,ho,rfl⟩:ao:=ZbL;obtain⟨as,j_,pr⟩:=row;have al:=ZgE;rw[Z9,aQQ]at al
    obtain⟨x0,gt,rfl⟩:∃ x0 gt,g=x0::gt:=by
     cases g with
     | nil=>simp at g0
     | cons x0 gt=>exact #[eE,x0,gt]
    refine ii ⟨_,rfl,q,_,0,_,rfl,rfl,#[e7,s2,Zaq2],ZbU,_,rfl,two,ZDa⟩;have st:=#[h8,#[cd,x0,o]];refine #[zz,(st _ _ j_),ZaEo,#[aKx,st]];have:=CT (a:=x0) (b:=o) j_ pr ht;rw[aQM,ho,aQK,aQt];exact this
   intro σ HK a_;obtain⟨v,rfl,s2,row⟩:aK:=a_;rw[Z9,aQH]at row;exact k l HK ZWt ZU3 row
  | all g =>
   obtain⟨q,e1,e2⟩:ao:=hf;have e2:Zacc:=e2;have g0:Zu2:=o1;have g1:Zq4:=o2;have rl:=ZaG6;have rl:ZazN:=rl;rw[ZEy];refine ZUy;rw[ZEy];refine Zlu;rw[ZEy];refine Zlu;rw[ZaSg];refine aQ #[cR,q,ZayY,ZDI]
   refine yF (K:=K) (a:=q) (xs:=ZZW) #[dq,∃ (v0 v1 v2:Zgj)(ps:Zd4),σ=[v0,v1,v2,Zyq]/\Zfi/\dh HK l ps/\ps++si (ZdA i)=si g]
    (iU Zac Zac Zac [] rfl Zyv Zvr rfl) Za1_ ?_ ?_
   ·intro i y σ HK T hi a_ hT;obtain⟨v0,v1,v2,ps,rfl,s2,row,ep⟩:jD:=a_
    obtain⟨x,hx,rfl⟩:ao:=ZbL;have hil:=ZZJ;have sT:=ZaNT;have hTT:Za0x:=ac;have row:=ZaES;have s2:=ZaER;generalize ZaV9=HK at hTT row s2 ⊢;refine ZaKh
    have ed:ZaQl:=ZaTX
    rw[ed]at ep;have ep:ps++(ZGj (ZxN)++si (ZdA Zce))=si g:=ep;have epl:=#[t5,ep];rw[aQl,aQl,Z9]at epl;have ei:(ZkQ+1)=#[a4,i+1]:=rfl;refine Ra #[awJ,#[awW,ZaCk,Zce,Zbde]];rw[ei,Ha,<-List.map_drop];have s3:=#[Hc,ZGj,hr1];have hr2:#[a5,HK,r,ZaaI,r,ZaaI]:=ac;have row:=ZaCc;have s3:=ZaaN
    have nrl:r≠l:=fun z=>by
     obtain⟨as,j_,_⟩:=row;rw[<-z,hr2]at j_;cases j_
    generalize upd HK r ZaaI=H3 at row s3 hr2 ⊢;clear s2 hTT hr1;refine #[cC,r,ZaJM,?_]
    refine oS (K:=K) (a:=r) (xs:=ZGj Zau) (fun j σ H4=>#[TQ,σ=[Zaz1,#[c0,x],v,Zyq]/\(#[J2,H3,l,H4])/\dh H4 l (ps++(#[ar8,0].take j).map ZxN)])
     #[c3,ZadN,(by simpa using row)] (fun j σ H4 _ #[pL,s4]=>Zbg (s4 _ _ hr2 nrl)) ?_ ?_
    ·intro j y σ H4 hj a_;obtain⟨v,rfl,s4,N_⟩:aK:=a_
     obtain⟨o,ho,rfl⟩:ao:=ZI5;obtain⟨as,hl4,pr⟩:ao:=N_;have al:=ZgE;rw[aQl,Z9,aQQ]at al;refine ii #[np,ZDa];have st:=#[h8,#[cd,x,o]];refine #[zz,(st _ _ hl4),(Za9c),fun b u e n=>?_]
     ·rw[Zqv];exact st _ _ (s4 b u e n)
     ·have:=CT (a:=x) (b:=o) hl4 pr ht
      rw[aQM,ho,aQK,aQt,<-aXf];exact this
    intro σ H4 a_;obtain⟨v,rfl,s4,N_⟩:aK:=a_;rw[Z9,aQH]at N_;exact iU _ _ _ _ rfl (fun b u e=>s4 b u (s3 b u e) (fun z=>by rw[z,hl]at e;cases e)) N_ #[aM,aXf,ep]
   intro σ HK a_;obtain⟨v0,v1,v2,ps,rfl,s2,row,ep⟩:jD:=a_;rw[Z9,aZj]at ep;have ep:ps++[]=si g:=ep;rw[aXl]at ep;rw[ep]at row;exact k l HK hl s2 row
  | quad a b c d =>
   obtain⟨q,e1,e2⟩:ao:=hf;have e2:ZaD7:=e2;rw[ZEy];refine ZUy;rw[ZEy];refine Zlu;rw[ZEy];refine Zlu;rw[ZEy];exact au ⟨_,rfl,q,_,0,_,rfl,rfl,Zk9,rfl,_,rfl,q,_,1,_,rfl,rfl,Zk9,rfl,_,rfl,q,_,2,_,rfl,rfl,Zk9,rfl,_,rfl,q,_,3,_,rfl,rfl,Zk9,rfl,a,b,c,d,rfl,ZaZr,Za3p⟩
def vM (F:#[Ac,Zba5,jv]) : #[cH,ZfD,(Gq cb)]:=by
 refine #[aoh,vY]
 ·obtain⟨b,dx,rfl,_⟩:=h
  rfl
 ·obtain⟨b,dx,rfl,hb,k⟩:=h
  refine ⟨_,ae ZaLA (
   ae ZaLA (
   af (gW Zak (iE) rfl))),?_⟩
  try dsimp only[cxK,cxK']
  intro d1 h1;have n1:b≠d1:=aq hb h1;refine⟨_,rfl,b,cb,dx,[],rfl,#[gA,n1,hb],ZfE,Zana,ZKW,?_⟩;intro d2 h2
  have n2:b≠d2:=fun z=>by rw[<-z,ac]at h2;cases h2
  refine⟨_,rfl,b,cb,dx,_,rfl,#[qn,n2],ZfE,ZQd,#[wo,1<ZbE],?_⟩;intro d3 h3
  have n3:b≠d3:=fun z=>by rw[<-z,ac]at h3;cases h3
  refine⟨_,rfl,b,cb,dx,_,rfl,#[qn,n3],ZfE,Zanb,(#[zP,UN,2]),?_⟩;rw[G7]
  have K_:upd H d1 ZcS d2=Zac:=by rw[ZAo]at h2;exact h2
  have h3':upd ZaNC d2 ZcS d3=Zac:=by
   rw[ZuK]at h3
   by_cases z:d3=d2
   ·rw[z,ac]at h3;cases h3
   ·rw[Zut,ZuK]at h3;rw[Zut];exact h3
  have s1:=#[vj,h1];have s2:=#[vj,K_];have s3:=#[vj,h3']
  have keep:#[vS,#[a5,#[ia,d1,ZcS,d2,ZcS],d3,ZcS,a,o],b,#[a5,#[kO,#[kO,ZaNC,b,#[hP,cb,#[aaL,Zks,d1]],d2,ZcS],b,#[hP,cb,(cw Zi3 #[aj,d2] #[aaL,Zks,d1])],d3,ZcS],b,#[hP,cb,(Dj #[aj,d1] #[aj,d2] #[aj,d3])],a,o]]:=fun a o e n=>by
   rw[Zqv]
   by_cases z3:a=d3
   ·rw[z3,ac]at e ⊢;exact e
   ·rw[ai z3]at e ⊢
    rw[Zqv]
    by_cases z2:a=d2
    ·rw[z2,ac]at e ⊢;exact e
    ·rw[ai z2]at e ⊢
     rw[Zqv];exact e
  have d12:d1≠d2:=fun z=>by rw[<-z,ac]at K_;cases K_
  have d13:d1≠d3:=fun z=>by rw[<-z,s2 _ _ ac]at h3';cases h3'
  have d23:d2≠d3:=fun z=>by rw[<-z,ac]at h3';cases h3'
  refine k ⟨dx,d1,d2,d3⟩ _ (#[avH,ZdU,#[nA,#[mN,#[ff,s1]]]]) ⟨ac,ZdU d1 _ #[nA,#[mN,ac]] (aQA n1),ZdU d2 _ #[nA,ac] (aQA n2),ZdU d3 _ ac (aQA n3),(fun e he=>nomatch he),(fun e he=>nomatch he),aXs,Zcr,d12,d13,d23⟩ h1 #[yn,K_] (ZX0 h3')
def sO (F:#[ar,ZQe,Zba6,iK])[240][25] : #[hK,14,ZLp,Za1D]:=by
 refine #[aoi,tz]
 ·obtain⟨b,p,A,bs,w,f,rfl,_⟩:=h
  rfl
 ·obtain⟨b,p,A,bs,w,f,rfl,B,hf,asc,wl,bl,kd0,kd1,kd2,kd3⟩:=h
  have hu:=ZbD;have sl:Za9b:=aQU
  refine ⟨_,(ae #[EF,#[nu,#[mn,jK,Zmf]],UO.eB,UO.mB,Zbw] (
   ae #[EF,#[K8,sY],UO.eT,UO.mT,#[aXe,ZaBM]] (
   ae #[aZ2,Zmh] (
   ae ZaK' (
   ae (jk hu Zc7 Zaq #[BC,g_,Zmh] rfl) (
   af #[EE,#[hF,zZ,Zavg,ZaFf],jk hu Zc7 Zaq #[BC,f_,Zmh] rfl])))))),?_⟩
  try dsimp only[cxK,cxK']
  have nC:ZabD:=Zpd;have nL:ZabE:=Zpd;have nR:ZabF:=Zpd;refine#[aOb,w,asc,Zaym];unfold defO at kd0 kd1 kd2 kd3
  cases nm:iD w with
  | false =>
   refine aQ ?_;exact kd1 (#[e0,aQd nm]) H1 s1
  | true =>
   rw[ZaJS]at kd0 kd1 kd2 kd3;have B1:=Zanf
   have g1:fD H1 Zez ZjT ((yz bs w).map #[cb,ZazD]):=#[LJ,B1.f1]
   refine au #[a3d,B1.ob]
   cases e:Zlv with
   | some x =>
    have hm:w∈bs.map (·.w):=Zl0 ⟨x,Zvi,ZaL1⟩;exact aQ #[c3,ZaG,#[cR,w,Zae,#[ac_,kd2 (#[e0,Zur]) H1 s1]]]
   | none =>
    have hm:=ZPK e;rw[Zlc]at kd0 kd2 kd3;have hf1:ZaGD:=ZaQh;refine au #[vC,B1.ob,nC,p,f,B1,hf1,#[anc,?_],#[anc,kd3 #[nw,ZHZ] H2 (ZgR s2)]];rw[ZqS]at kd0;have B2:=ZaBJ;have hf2:ZaGE:=ZaIn;have A_:=Zhf
    have e1:nu H2 Zez ZjT ZqN #[gW,Zez,Zas8]:=by
     have q:=#[L_,ZaN p,B2.f1]
     rwa [pV _ #[ey,j8,e]]at q
    refine#[awZ,ZDK,_,rfl,Zez,_,rfl,e1];generalize h3:upd H2 Zez Zas8=H3
    have n3:ND H2 H3:=#[eV,h3,FP B2.f1]
    have k3:#[vS,#[hY,H2],Zez,#[hY,H3]]:=#[aMR,h3]
    have f31:H3 Zez=Zab Zas8:=by rw[<-h3,ac]
    clear h3
    have ob3:=n3 _ _ B2.ob fun _ q=>nomatch q
    refine#[vC,ob3,nL,p,f,⟨ob3,k3 _ _ B2.f2 ZaAW⟩,ZQf n3,kn,fun H4 s4=>?_];have n4:=n3.trans (TX s4);have ob4:=s4 _ _ ob3;have f42:=s4 _ _ (k3 _ _ B2.f2 ZaAW)
    have e2:nu H4 ZeA ZjT ZaXV (upd H4 ZeA ZatI):=by
     have q:=#[L_,ZatH,f42]
     rwa [pV _ #[ey,j8,e]]at q
    refine#[ah4,ob4,ZQd,Jz,ZeA,e2,?_];generalize h5:upd H4 ZeA ZatI=H5;have n5:ND H2 H5:=#[fP,n4.trans,h5,FP f42]
    have k5:#[vS,#[hY,H4],ZeA,ZaBF]:=#[aMR,h5]
    have f52:H5 ZeA=Zab ZatI:=by rw[<-h5,ac]
    clear h5
    have ob5:=n5 _ _ B2.ob fun _ q=>nomatch q
    have f51:=k5 _ _ #[qt,f31] B.d12;have f53:=k5 _ _ #[qt,(k3 _ _ B2.f3 (aQA B.d13))] (aQA B.d23)
    have g5:fD H5 ZeA ZjT (Zab (Zah (ZDL (iP bs)))):=by
     have q:=#[pD,ZmH,f52]
     rwa [ES _ _ _ _ #[ey,j8,e],Zaz]at q
    refine⟨_,rfl,b,cb,ZcW,_,_,rfl,ob5,ZfE,ZQd,Jz,_,rfl,ZeA,_,rfl,g5,_,_,rfl,rfl,_,rfl,?_⟩;have kd0:=kd0 rfl;have kp:#[vR,Ziq->ZaBK->ZaBL->ZaBF]:=fun a o z m1 m2=>k5 _ _ #[qt,(k3 _ _ #[p8,A_] m1)] m2
    by_cases c:ZDN
    ·rw[#[kG,ZazM]]
     have BR:Wn cb H5 b A bs:=⟨ob5,f53,#[PF,#[fc,#[aCQ,0].1.nd n5,ZaCQ]],B.nd⟩;refine aQ ⟨_,rfl,b,ZcW,_,rfl,ob5,nR,_,rfl,b,p,A,bs,f,rfl,BR,ZQf n5,kn,c,fun l H6 hl s6 row=>?_⟩;have f63:=s6 _ _ f53;have lf:(#[bd,ZPD,lM])<=ZrL:=aXM ..
     have vn:#[aQm,ZPE,ZWv]=Zac:=by
      rw[j8,jR.mpr (ZfO)]
      ·rfl
      ·refine ao (ZrW z) fun u hu eu=>?_
       exact hm (Zl0 ⟨u,(ZaiJ hu).1,eu⟩)
     have e3:nu H6 ZhA ZjT Zm3 ZaZx:=by
      have q:=#[L_,ZaN l,f63]
      rwa [pV _ vn]at q
     refine#[ah4,s6 _ _ ob5,Zanb,OA,ZhA,e3,?_];have n7:ND H6 ZaZx:=FP f63;have n7':=(n5.trans (TX s6)).trans n7;refine #[a25,⟨w,f,ZDM,ZDl,p,l⟩,ZjS,fun a o z m1 m2 m3=>#[ch,m3,s6 _ _ (kp a o z m1 m2)]];refine Lh B2 n7' hm #[gA,B.d13,s6 _ _ f51] #[gA,B.d23,s6 _ _ f52] (by rw[ac];show Zab (Zsd (_++_))=Zab ZaLp;rw[Zuq]) (ZQf n7') #[eC,⟨row.nd n7,ZwD (ZaJx) f kn c⟩] bl
    ·rw[#[kM,ZazM]]
     refine au (#[a25,⟨w,f,ZDM,[],p,p⟩,#[bC,#[oU,c]],fun a o z m1 m2 _=>kp a o z m1 m2]);exact Lh B2 n5 hm f51 f52 (by rw[f53];show #[ul,Zsd]=Zab ZaLp;rw[Zum,aXl]) (ZQf n5) #[bC,#[oU,c]] bl
def vN (F:#[ar,ZQg,Zba7,jw]) : #[uS,2,ZeR,ZaQa]:=by
 refine #[aoi,vZ]
 ·obtain⟨b,A,bs,w,rfl,_⟩:=h
  rfl
 ·obtain⟨b,A,bs,w,rfl,B,wl,k1,k2⟩:=h
  have hu:=ZbD
  refine ⟨_,(ae #[EF,#[K8,pT],UO.eU,UO.mU,(jX (c6 ak (c6 ZaBM n8)))] (
   ZaAp)),?_⟩
  try dsimp only[cxK,cxK']
  have g1:fD H Zez ZjT ((yz bs w).map #[cb,ZazD]):=#[LJ,B.f1]
  refine#[a3d,Zkx]
  cases e:Zlv with
  | none =>
   exact aQ #[c3,ZaG,#[cR,w,Zae,#[ka,#[cC,y,hy,#[bC,k2 e H ZPT]]]]]
  | some x =>
   rw[e]at g1;exact au #[ah4,Zkx,Zana,Fk,Zez,g1,k1 x e]
def sR (F:#[ar,ZQh,Zba8,iM])[25] : #[hK,14,Zmk,ZaQ4]:=by
 refine #[aoi,tF]
 ·obtain⟨b,p,A,bs,f,rfl,_⟩:=h
  rfl
 ·obtain⟨b,p,A,bs,f,rfl,B,hf,k1,k2,k3⟩:=h
  refine ⟨_,(ae #[aZ2,Zmf] (
   ae #[EF,#[hF,L5,#[BC,g_,Zmf],ZaFf],UO.eL,UO.mL,#[aXe,(mD (kZ Zak0 UO.mp))]] (
   #[cs,#[BC,f_,Zmf]]))),?_⟩
  try dsimp only[cxK,cxK']
  have nC:ZabD:=Zpd;have nL:ZabE:=Zpd;have nR:ZabF:=Zpd;refine#[vC,Zkx,nC,p,f,B,hf,fun kn H1 s1=>?_,k1];have B1:=Zanf;have hf1:ZaGD:=ZaQh;refine#[vC,B1.ob,nL,p,f,B1.l,hf1,kn,fun H2 s2=>?_];have B2:=ZaBJ;have hf2:ZaGE:=ZaIn;have A_:=Zhf;refine ZahP
  by_cases lg:ZDO
  ·rw[#[kG,(Zbz:Int)<ZVU]]
   exact aQ (gG _ rfl ZaG Zbz rfl ⟨Zao,#[ac_,k2 kn lg H2 A_]⟩)
  ·rw[#[kM,(Zbz:Int)<ZVU]]
   exact au ⟨_,rfl,b,ZcW,_,rfl,ZDK,nR,_,rfl,b,p,A,bs,f,rfl,B2.r,hf2,kn,Zae,fun l H3 hl s3 r=>k3 kn Zaf l H3 (Zam_ hl) (ZwX s3) r⟩
def oJ (F:#[ar,ZDP,Zba9,fz])[205](r_:#[u3,cb,ZQg,2,ZeR,ZaQa])[241](e_:#[aK_,ZJS,(EL cb cU n)]):#[hK,(n+3+1),Zmk,(EL cb cU (n+1))]:=by
 refine #[aoi,i6]
 ·obtain⟨b,p,A,bs,f,rfl,_⟩:=h
  rfl
 ·obtain⟨b,p,A,bs,f,rfl,B,hf,k1,k2⟩:=h
  refine ⟨_,(ae #[jd,ZGc,#[aWo,r_,ZJg]] (
   #[bbk,ZaPP,(gv 2 i6.nd),#[aWo,e_,Zmh]])),?_⟩
  try dsimp only[cxK,cxK']
  obtain⟨xs,hp⟩:=hf.hd;refine Zre;have nT:#[Rr,ZQg]:=Zpd;have nC:ZabD:=Zpd
  apply #[ri,HH=H/\σ=[ZIe,ZfM,Zac]/\∀ w,f=Zd1 w->Zcv]
  ·intro rest
   cases f with
   | name w =>
    rw[EX];obtain⟨e1,wl⟩:=hf;refine aQ ⟨_,rfl,b,ZcW,_,rfl,Zkx,nT,_,rfl,p,_,1,_,rfl,rfl,ZdH,rfl,b,A,bs,w,rfl,B,Zae,ZtT,fun he HX sX=>k2 (#[aH,ZPK he (kq.mp z)]) HX sX⟩;exact #[z0,#[pn,rfl,#[Em,kq.mpr (Zl0 ⟨e,(jf he).1,(jf he).2⟩)]]]
   | pl f=>rw[EZ];exact au (rest _ _ ⟨rfl,rfl,(fun w z=>by cases z)⟩)
   | back f=>rw[EW];exact au (rest _ _ ⟨rfl,rfl,(fun w z=>by cases z)⟩)
   | row fs=>rw[E5];exact au (rest _ _ ⟨rfl,rfl,(fun w z=>by cases z)⟩)
  intro σ HH a_;obtain⟨rfl,rfl,bk7⟩:eJ:=a_;refine#[aW6,f,hf,fun l as H1 hl s1 q_ pr=>#[le,l,q_,?_]];have al:=ZgE
  refine cZ (K:=K) (a:=l) (xs:=ZEk) #[dq,#[hc,[ZIe,ZfM,v],Zaci,∀ u∈f.inner.take i,Zafh]]
   #[I3,ZPS _,#[i6,by simp at hu]] ZaIr ?_ ?_
  ·intro i y σ HK hi a_;obtain⟨v,rfl,s2,kn⟩:aK:=a_
   obtain⟨a,ha,rfl⟩:ao:=ZbL;refine Zaqf;have A_:=Zhf;have B2:=ZaLL;refine#[vC,ZDK,nC,a,u,B2,ZBs,fun ku H3 s3=>?_,fun nk H3 s3=>?_]
   ·refine #[c3,ZaaN,ZmC]
    rw[aQM,hu,aQK]at hx;rcases ZEa with z | z
    ·exact kn x z
    ·rw[Zdd];exact ku
   ·refine k2 #[bC,nk ?_] H3 (ZwX s3)
    by_cases q:ZadV
    ·obtain⟨w,rfl⟩:=q
     cases (show #[av,Zaz2[i]?,u] from hu)
    ·exact (zP (ZaZs)).mp z u (aQC hu)
  intro σ HK a_;obtain⟨v,rfl,s2,kn⟩:aK:=a_;rw[Z9,al,aQH]at kn;refine k1 ?_ HK (ZgR s2)
  by_cases q:ZadV
  ·obtain⟨w,e⟩:=q
   exact bk7 w e
  ·exact (zP (ZaZs)).mpr kn
def sP (F:#[ar,Zro,Zba_,fL])[205](nq:#[ba,ZQb,1,[ZeQ],QK])[241](g_:#[Lw,Zro,ZJS,ZaHY]):#[bi,(n+3+1),Zmk,(zi cb Zfg)]:=by
 refine #[aoh,tE]
 ·obtain⟨b,p,A,bs,f,rfl,_⟩:=h
  rfl
 ·obtain⟨b,p,A,bs,f,rfl,B,hf,kn,k⟩:=h
  have hu:=ZbD;have sl:Za9b:=aQU
  refine ⟨_,(ae #[Ev,ZaGL] (
   ae #[Ev,#[BC,g_,ZJg]] (
   ae #[Ev,#[ak2,MZ,T.sum,PyProof.Rows.boot_sum,#[xo,fL,l8,ZaUu,[Zac,Zab 0,ZX8],ZaPP,ZaUu,(aL sW (VL K 18 (Vd hr ZaG) #[Uj,ZaA] Zak) (dJ g_ Zaq ZfE Zmm fW Zmg))]]] (
   #[cs,#[mn,nq,Zmf]])))),?_⟩
  try dsimp only[cxK,cxK']
  obtain⟨xs,hp⟩:=hf.hd;have nL:ZabE:=Zpd;refine Zre
  cases f with
  | name w =>
   rw[EX];obtain⟨e1,wl⟩:=hf
   have g1:fD H ZeA ZjT ((yz bs w).map #[cb,ZaqV]):=#[LJ,B.f2]
   cases e:Zlv with
   | none=>exact ZasX
   | some x =>
    rw[e]at g1;refine aQ ⟨_,rfl,b,cb,ZcW,_,_,rfl,Zkx,ZfE,ZQd,Jz,_,rfl,p,_,1,_,rfl,rfl,ZdH,rfl,ZeA,_,rfl,g1,?_⟩;have:=Zafa;rw[aA.len,show ZLX by unfold iP;rw[e]]at this;exact this
  | pl f =>
   rw[EZ];refine Zmv;rw[EY];refine Zmv;rw[E3];have:=Zafa;rw[aA.len]at this;exact #[aS_,ZbR]
  | back f =>
   rw[EW];refine Zmv;rw[EV];obtain⟨q,e1,e2⟩:ao:=hf;rw[aA.len]at k;exact aQ ⟨_,rfl,b,ZcW,_,rfl,Zkx,nL,_,rfl,p,_,1,_,rfl,rfl,ZdH,rfl,b,q,A,bs,f,rfl,B,e2,Zacf,k⟩
  | row fs =>
   rw[E5];refine Zmv;rw[E4];refine Zmv;rw[Ji];have hf0:=hf;obtain⟨t,as,e1,e2,fl,pr⟩:bB:=hf;have al:=ZgE;refine aQ #[aW6,Zku,hf0,fun l us H1 hl s1 q_ pu=>#[le,l,q_,Zid]];have pu:#[k6,(bX n H1),us,Zr',fs]:=pu;have ul:=aQx pu;have B1:=Zanf;have olen:#[bd,Zr',fs]<=100:=aQZ (PU fs) fl
   refine cZ (K:=K) (a:=l) (xs:=Zkw ZaN) #[dq,#[hc,[v,ZIe,ZfM],Zaci,HK q=Zab #[k4,#[mr,#[aCV,0].take],fun u=>#[a4,ZBd*ZZF]]]]
    Zvd ZaIr ?_ ?_
   ·intro i y σ HK hi a_;obtain⟨v,rfl,s2,x_⟩:aK:=a_
    obtain⟨a,ha,rfl⟩:ao:=ZbL;refine #[aqe,pu];have A_:=Zhf;have B2:=ZaLL;have e2':=A_ _ _ e2;have prd:#[aYx,as,Zi4,fs]:=bX.rds hn (Zj4 pr #[iF,ZwF #[DQ,A_ _ _ y]]);have hA2:bX n HK a u:=hA.mono #[iG,s2];have ku:Zafh:=pO.mp kn u (xH.mp (aQC hu));refine ii ⟨_,rfl,p,_,1,_,rfl,rfl,#[e7,A_,e1],rfl,t,rfl,#[aR,e2'],_,rfl,as,u.dt,_,e2',Zr_ hA2.rd Zaf,prd,Zij⟩;have hc:c=ZBd:=UQ hc;have cle:=UP fs u;refine#[vC,ZDK,nL,a,u,B2,hA2,ku,fun H3 s3=>?_];refine⟨_,_,rfl,rfl,ZBn,_,#[gy,x_],#[rP,Z9,Z9,aQQ],_,rfl,#[aFL,s3],?_⟩;rw[ac,aQM,hu,aQK,aQt,aQt,hc,<-Int.natCast_mul];rfl
   intro σ HK a_;obtain⟨v,rfl,s2,x_⟩:aK:=a_;rw[Z9,ul,aQH]at x_;refine⟨q,_,rfl,Zbh x_,?_⟩;have:=#[aVC,HK];rw[aA.len,xg,<-RC,<-Jc,aQP]at this;exact this
def sQ (F:#[ar,Zrp,Zba',iL])(rP:#[ba,ZQa,1,[ZaE],(Ja K)])(rO:#[ba,ZQc,3,[ZeQ],Gv])[241](f_:#[Lw,Zrp,ZJT,ZaHZ]):#[bi,(n+4+1),Zmk,(uA cb Zfg)]:=by
 refine #[aoh,iH]
 ·obtain⟨b,p,A,bs,f,rfl,_⟩:=h
  rfl
 ·obtain⟨b,p,A,bs,f,rfl,B,hf,kn,lt,k⟩:=h
  have hu:=ZbD;have sl:Za9b:=aQU
  refine ⟨_,(ae #[Ev,(bR mq Zak0 Zsr aX3 (c5 ZaGL))] (
   ae #[Ev,#[mn,rP,#[aZ0,ZJg]]] (
   ae (aN ZGc (ae (bh 2 iH.nd Zfn) (
   ae #[lq,(sZ ZEt),3,iH.nd,#[jv,(iZ aQO PySem.F.slot_list_extend PySem.F.type_list_extend NC ZaA #[aZ0,ZqY])]] (
   ZFm))) ZqJ) (
   #[cs,#[mn,rO,Zmf]])))),?_⟩
  try dsimp only[cxK,cxK']
  obtain⟨xs,hp⟩:=hf.hd;have nL:ZabF:=Zpd;have okr:Zbdp:=ZaJx;refine Zre
  cases f with
  | name w =>
   rw[EX];obtain⟨e1,wl⟩:=hf
   cases e:Zlv with
   | none=>exact ZasX
   | some x =>
    rw[aA.len,show ZLX by unfold iP;rw[e]]at lt
    have g1:fD H ZhA ZjT (((yz (ZPD lM) w).map #[cb,ZaN e.l])):=#[LJ,B.f3]
    rw[MS B.nd e lt]at g1;obtain⟨⟨as,hl,pr⟩,rl⟩:=B.rw x Zvi lt;refine aQ ⟨_,rfl,b,cb,ZcW,_,_,rfl,Zkx,ZfE,Zanb,OA,_,rfl,p,_,1,_,rfl,rfl,ZdH,rfl,ZhA,_,rfl,g1,x.l,_,rfl,#[h4,hl],#[Qi,?_]⟩;refine k l2 _ h2 (ah h2) ?_;rw[aA.rowF,show ZaQ5 by unfold lA;rw[e]];exact #[jp,as,#[j6,pr,ah h2 _ _ z]]
  | pl f =>
   rw[EZ];refine Zmv;rw[EY];refine Zmv;rw[E3];rw[aA.rowF]at k;exact #[aS_,k]
  | back f =>
   rw[EW];refine Zmv;rw[EV];obtain⟨q,e1,e2⟩:ao:=hf;rw[aA.len]at lt;rw[aA.rowF]at k;refine aQ ⟨_,rfl,b,ZcW,_,rfl,Zkx,nL,_,rfl,p,_,1,_,rfl,rfl,ZdH,rfl,b,q,A,bs,f,rfl,B,e2,Zacf,lt,fun l H1 hl s1 row=>?_⟩;obtain⟨as,q_,pr⟩:=row;refine⟨l,_,rfl,Zbh q_,#[Qi,k l2 _ #[yn,h2] ZaD2 ?_]⟩;rw[<-List.map_reverse];exact ZaZX
  | row fs =>
   rw[E5];refine Zmv;rw[E4];refine Zmv;rw[Ji];obtain⟨t,as,e1,e2,fl,pr⟩:bB:=hf;have al:=ZgE;rw[aA.len]at lt;rw[aA.rowF,pX]at k;have kn:=ZaD';refine aQ #[p0,ZDI];have s1:=ZxX;refine ZaqX
   refine oS (K:=K) (a:=t) (xs:=ZEk) #[dq,#[hc,[ZIe,ZfM,Zg6,v],Zfi,dh HK l ZaXW]]
    #[cC,Zac,s1,Zvr] ZaEF ?_ ?_
   ·intro i y σ HK hi a_;obtain⟨v,rfl,s2,row⟩:aK:=a_
    obtain⟨a,ha,rfl⟩:ao:=ZbL;refine Zaqf;have um:=ZabS;have ul:=LQ (e:=iP bs) um;have B2:=Zane s2;refine #[c8,row,fun cs j_ pc=>?_];refine⟨_,rfl,#[po,j_],_,rfl,b,ZcW,_,rfl,ZDK,nL,_,rfl,b,a,A,bs,u,rfl,B2,ZBs,kn u um,Zae,fun l3 H3 hl3 s3 cq3=>?_⟩;obtain⟨ds,hl4,pd⟩:ao:=cq3;have bk8:=ZaCi;have rl1:=ZZq;have rl2:=aQx pd
    have bx1:=aA.row_lenL okr Zys #[zF,ZaZF] (by
     have:=uo (e:=iP bs) i fs
     lia)
    rw[pX]at bx1;have cj3:=#[aQC,okr,Zaf];have lle:=uo (e:=iP bs) i fs;refine#[aYF,bk8,hl4,?_];refine #[uJ,#[aKx,s3]];rw[aQM,hu,aQK,List.flatMap_append,List.flatMap_singleton,<-aQt]
    have up:∀ c xs,H3 c=Zab ZdJ->#[a5,H3,l,#[mE,(cs++ds).map],c,ZdJ]:=fun c xs e=>by rw[ai (fun z=>by rw[z,bk8]at e;cases e)];exact e
    exact #[aWg,#[j5,pc,#[iF,up _ _ #[p8,s3]]],#[iG,up]]
   intro σ HK a_;obtain⟨v,rfl,s2,row⟩:aK:=a_;rw[Z9,al,aQH]at row;exact#[bK,k l HK hl s2 row]
def sV (F:#[ar,ZBS,ZBS,j6]) : #[cH,Zqf,Mq]:=by
 refine #[aoh,C3]
 ·obtain⟨z,rfl,_⟩:=h
  rfl
 ·obtain⟨z,rfl,asc,len,k1,k2⟩:=h
  have hu:=ZbD
  refine ⟨_,(ae #[JB,(jd (CL zZ zZ ZdK Zak6 #[ak3,UO.md])),(CN (jd (iG (bC (pK rfl) Zak0 T.all aZx #[a0z,j6,vc,UO.dg])))),ZjE] (
   ae #[md,#[h3,kA,#[hG,#[Ep,JX,Zak]],(jm #[yc,Zak])],ZjE] (
   #[cs,(bR MT Zak0 T.int PyProof.Rows.boot_int Zmg)]))),?_⟩
  try dsimp only[cxK,cxK']
  have sl:Za9b:=aQU
  have zl:Zol:=Zae
  have hz:ZalN:=Zuh
  have zz:#[HO,"0"]=[48]:=Zao
  refine Za3T
  by_cases h1:ZGg
  ·rw[ZaFB]
   refine aQ ZahP
   by_cases h2:Zyd
   ·rw[ZaOM]
    refine ZaZy;refine #[a31,vb]
    ·refine ZaoB
     rw[UT];exact ZPW
    refine⟨q,_,rfl,Zbh hq1,_,rfl,?_⟩
    by_cases h3:Za_w
    ·rw[show ZaKw id=Zad from aQL.mpr fun b hb=>by obtain⟨c,hc,rfl⟩:ao:=#[rX,hb];exact h3 c hc]
     obtain⟨c,l,hcl⟩:∃ c l,Zeo=c::l:=by
      cases e:z.cps.toList with
      | nil=>rw[hz,e]at h1;exact #[oR,h1,ZaG]
      | cons c l=>exact #[eE,c,l]
     refine au ⟨_,rfl,z,_,c,rfl,rfl,zl,#[aL,hcl,ZbU],rfl,_,rfl,?_⟩;rw[Q1,zz]
     show #[Qj,#[lL,[c]=[48]]]
     have fin:#[Vu,Za_u,Zeo]->Zx2:=fun h4=>(qA z).mpr ⟨h1,h2,h3,h4⟩
     by_cases h4:c=48
     ·rw[#[uF,h4]]
      refine aQ Zmp;rw[Q1,zz]
      by_cases h5:ZaH5
      ·rw[aQe h5]
       obtain⟨ds,N⟩:=fin #[bk,q.2 h5];exact au Za0t
      ·rw[aQg h5]
       exact #[agk,#[Hs,#[aM9,0].2.2.2 ⟨#[ex,hcl,h4],h5⟩]]
     ·rw[aQg (#[bk,h4 (Za_f q).1])]
      obtain⟨ds,N⟩:=fin #[bk,h4 (#[bba,q.1,hcl,aQp ZbR])];exact #[pw,Za0t]
    ·rw[#[bn,ZaKw id=Zay,#[at1,#[bk,h3 #[gL,Zko q _ (aXe hc)]]]]]
     exact #[agk,#[Hs,h3 #[aM9,0].2.2.1]]
   ·rw[ZaPt]
    exact aQ (k2 #[Hs,h2 (ZGH ZWs).2.1] H ZPT)
  ·rw[ZaH9]
   exact #[mP,aQ (k2 #[Hs,h1 (ZGH ZWs).1] H ZPT)]
def CC (F:#[ar,ZBP,ZBP,wm]) : #[cH,Zzt,zj]:=by
 refine #[aoh,we]
 ·obtain⟨z,a,rfl,_⟩:=h
  rfl
 ·obtain⟨z,a,rfl,zl,al,k⟩:=h
  have sl:Za9b:=aQU
  have two:Zpi:=ZaF
  have zl2:Zol:=Zae
  refine ⟨_,(ae (bh 2 we.nd Zaq) (
   ae (xR aQ2 #[h3,kA,#[hF,CF,ZaA,Zak6],(jm (ay F9 (aM JX Zak ZaA ZEo) (ak) rfl))] (af (VQ (i:=2) we.nd rfl ZNR ZdK Vg))) (
   #[jY,#[atv,(gI (pv 2))],ZaA]))),?_⟩
  try dsimp only[cxK,cxK']
  have hz:Zagn:=Zaa6
  have fin:∀ e:Nat,a<=e->Zaa'->fM ZgV=ZaXm->∀ (v:Zgj),XY (X0 (oE (ZB Xx (Jd 0) (Q7 (Jd 1)) (Q7 (Jd 2))) (oE (Jd 2) rD))) { nx:=fun x H'=>Q ZNx H',rt:=Q } [ZX9,#[c0,a],ZZw] H:=fun e h1 h2 h3 _=>by
   refine⟨_,rfl,_,rfl,_,rfl,_,rfl,_,rfl,z,rfl,zl2,_,rfl,two,ZDa⟩;have:=k t ht;rw[h3,aQQ,aQN,hz,ZIq,ZaPO]at this;rw[RE z h2];exact this
  refine Zh7;refine #[aCz,∃ e:Nat,σ=[ZX9,#[c0,a],ZZw]/\H'=H/\a<=e/\Zaa'/\m=Zzi/\fM ZgV=ZaXm++fM (ZHP (e-a)),(gT _ a rfl rfl Za8 al rfl #[jC,Nat.sub_self])];intro m σ H' a_;obtain⟨e,rfl,rfl,h1,h2,rfl,h3⟩:pL:=a_;refine#[ahQ,rfl,z,zl2,_]
  by_cases lt:ZaLT
  ·rw[#[kG,(e:Int)<ZtC]]
   have hc:#[av,ZgT[e]?,ZHQ]:=ZtX
   have hc2:#[av,ZgV[e-a]?,ZHQ]:=#[dz,List.getElem?_drop,ZaPO,hc]
   refine aQ ⟨_,rfl,_,rfl,z,e,ZHQ,rfl,rfl,zl2,aR (j:=e) hc,_,_,rfl,rfl,_,rfl,?_⟩;rw[VZ]
   cases hs:pN ZHQ with
   | true=>exact au (fin e h1 h2 (Tt h3 hc2 hs) Zac)
   | false =>
    refine aQ ⟨(#[ajj,ZaPm]),(ZM8),_,⟨rfl,_,_,rfl,rfl,ZaBP,Zae,e+1,rfl,rfl,Zae,Zae,rfl,?_⟩⟩;rw[#[fN,e+1,a,e-a+1]];exact Ts h3 hc2 hs
  ·rw[#[kM,(e:Int)<ZtC]]
   exact #[pw,(fin e h1 h2 (Wj h3 #[jo,aQN]) Zac)]
def F5 (F:#[ar,ZQl,ZQl,qW])[100][218] : #[hK,2,Zzt,(QT P0 lp ql cF ZV0 Zl6 Ww)]:=by
 refine #[aoi,mI]
 ·obtain⟨z,a,rfl,_⟩:=h
  rfl
 ·obtain⟨z,a,rfl,asc,zl,al,_,tI,k1,k2⟩:=h
  have two:Zpi:=ZaF
  refine ⟨_,ae #[ig,#[tL,iq,Zak],2,mI.nd,3,mI.nd,dX] (
   ae (bh 4 mI.nd #[ct,gD,Zmh]) (
   ae #[EF,#[vh,ZcT],ZDR,ZwY,(jX (c6 ak (c6 ZyS n8)))] (
   #[jY,ZcT,ZaO]))),?_⟩
  try dsimp only[cxK,cxK']
  refine ZahZ;have s1:=Zas5;have wp:=K8 al;have ea:Zl6 ZgV=(ZDn (toS (fM (ZgU a)))).map fun n=>(n,ZHP ZER):=rfl;refine Zadz;refine#[t8,ZaPa,ZF9,fun ds H2 N s2=>?_,fun no H2 s2=>?_]
  ·rw[KF N]at ea
   refine#[nq,#[np,ZQo]];have A_:=ZLk (#[gn,[ZaRY,Zah ZTZ],ht2]);exact k1 _ _ ea t2 ZaKX _ (dH A_) (Zss A_) #[eF,ac,wp.1] rfl
  ·rw[T7 no]at ea
   exact#[eH,aQ #[c3,ZaG,#[cR,a,ZuA,#[EC,k2 ea H2 (dH (ZgR s2)) (Zss (ZgR s2))]]]]
def zY (F:#[ar,ZwZ,ZwZ,tV])[80]{J:ZjU}{R:ZK4}{At:ZaTj}{fl:Addr}{fdl:FuncData}{ol:Obj}{lv:Nat}{pa pb:Str}(hJ:∀ H H',J H->ZIC->J H')(hAt:∀ H H' v x,At H v x->ZIC->ZaSc)(shr:UJ R)(LA:aY P w K mg ZaS ZhJ lv fl fdl [pa,pb] (QT P0 lp ql cF J R At))(lob:Zr0 fl=Zab ol)(lod:ol.data=Zwe fdl)(lbi:#[ax7,ZdS=#[bc,ZaAY]->ZCn s fdl ZpW (#[aAY,0].zip us)]):#[hK,(lv+1),ZbaI,(IX P0 lp ql cF fl J R At)]:=by
 refine #[aoi,oZ]
 ·obtain⟨z,a,rfl,_⟩:=h
  rfl
 ·obtain⟨z,a,rfl,asc,zl,al,j0,tI,k1,k2⟩:=h
  have two:Zpi:=ZaF
  have sl:Za9b:=aQU
  have zl2:Zol:=Zae
  refine ⟨_,(ae (bh 3 oZ.nd Zfn) (
   ae (xR PassesOwn.leaving #[hG,Zatw] (ae #[ig,(Qb (i:=2) LA Zmm rfl ZNR lob lod lbi cz (fG Zak ZyZ)),4,oZ.nd,1,oZ.nd,dX] (
   #[aoP,ZaO,ZyO]))) (
   ae #[EF,#[yc,Zatw],ZDR,ZwY,(jX (c6 ak (c6 ZyS n8)))] (
   #[jY,#[ak1,ZqY],ZyZ])))),?_⟩
  try dsimp only[cxK,cxK']
  have hz:Zagn:=Zaa6;refine#[p0,ZX5];have s1:=#[xW,hlq];refine #[aCz,∃ (e:Nat)(vs:Zbs)(xs:ZdP)(fu:Nat)(v4:Zgj),σ=[ZX9,ZZw,#[bv,fl],#[bv,lq],v4]/\ZhS/\ZRe/\J H'/\#[bO,lq,ZazF]/\#[aRD,vs]/\Zaa'/\m=Zzi/\Zzi<fu/\ZiK<=e/\d9 R Zav0 (ZgU a)=(d9 R fu ZUI).map #[bk,(xs++q.1,q.2)],#[fJ,a,[],⟨[],#[bd,ZgU,a]+1,Zac,rfl,dH s1,ZJb,hJ _ _ j0 (LC (dH s1)),ac,Zan,al,rfl,#[f8,aQN,hz],Zcr,by show _=Option.map (#[bk,q]) _;rw[Option.map_id']⟩]];intro m σ H2 a_;obtain⟨e,vs,xs,fu,v4,rfl,g2,t2,j2,h2,pr,el,rfl,zx4⟩:dZ:=a_;obtain⟨fl2,vl,pm⟩:eJ:=zx4;refine Zaij;rw[Fo,p7,Fw];obtain⟨fu,rfl⟩:∃ n,fu=n+1:=⟨fu-1,Zae⟩
  by_cases hd:#[av,ZX1,32]
  ·rw[aQe hd]
   have elt:=Fx hd;refine #[avJ,ZaPm,(ZM8)];refine⟨rfl,_,rfl,_,rfl,_,_,rfl,rfl,z,e+1,Zaxp,asc,zl,Zae,j2,t2,fun x r hr t v H5 g5 t5 ht av=>?_,fun hr H5 g5 t5=>?_⟩
   ·rw[<-aXm]at hr
    refine ZaGC;have h5:=g5.lst h2;refine#[ua,h5,lq,h5,Zae];have g6:=U7 (o:=Za6 (vs++[v])) h5;obtain⟨k,hk⟩:=shr _ _ _ hr
    have rl:ZeX<=ZaBP:=by
     rw[hk,aXm,aXm,aQN,hz]
     lia
    refine ⟨#[pt,(ZbN-ZeX)],Zaf,ZS5,⟨vs++[v],xs++[x],fu,_,rfl,U6 (ZwW g5) hlq,Wz.TabI.put t5 h5,hJ _ _ (hJ _ _ j2 (LC g5)) g6,ac,#[aIF,pr,#[M7,hAt _ _ _ _ (hAt _ _ _ _ q (LC g5)) g6],(hAt _ _ _ _ av g6)],Zae,rfl,Zae,Zvg,?_⟩⟩;rw[pm,Ix hd hr,Option.map_map,show ZgU (ZS5)=r by rw[<-hz];rw[aXm]at hk;exact Nf hk]
    congr 1
    funext q
    show (xs++(x::q.1),q.2)=((xs++[x])++q.1,q.2)
    rw[aXf];rfl
   ·rw[<-aXm]at hr
    refine k2 #[ey,pm,P7 hd hr] H5 (ZwW g5) t5
  ·rw[aQg hd]
   refine au Zaij;rw[Fo,QX,Fw]
   by_cases hd2:#[av,ZX1,41]
   ·rw[aQe hd2]
    have elt:=Fx hd2;refine au #[aVD,lq,h2,fun q hq=>#[ahn,two,ZDa]];have w1:=#[gn,vs,hq];have w2:=#[h8,[Zai q,Zah ((e:Int)+1)]];have w12:=dH (Zbbb w2);refine k1 xs (#[UI,0].drop 1) (by rw[pm,EH hd2];show Zab (xs++[],_)=_;rw[aXl]) t q vs _ (ZwW w12) (t2.same (Zbbb w2)) (by rw[ac,aQN,aQN,hz,#[e2,(#[pt,(Zzi-1)]:Nat)=e+1],aZV];rfl) #[qT,w2] #[j5,pr,#[DQ,hAt _ _ _ _ y (LC w12)]]
   ·rw[aQg hd2]
    exact aQ #[c3,ZaG,#[cR,e,ZuA,#[EC,k2 #[ey,pm,NT hd hd2] H2 g2 t2]]]
def FV (F:#[ar,ZDS,ZDS,qO]){dd:Nat}:#[hK,1,ZaeU,(C8 cF dd)]:=by
 refine #[aoi,qJ]
 ·rcases h with ⟨w,q,ps,fs,rfl,_⟩ | ⟨w,q,gs,rfl,_⟩<;>rfl
 ·have two:Zpi:=ZaF
  have sl:Za9b:=aQU
  refine ⟨_,(ae #[Ko,(gZ (NU UO.sz Zak (ZaSE)))] (
   ae #[ig,(VO UO.sz (ZaSE) Zak ZEo),2,qJ.nd,3,qJ.nd,dX] (
   ae #[EF,(jd (CL zZ zZ ZaA #[ak5,Zmf] ZaO)),ZDR,ZwY,(jX (c6 ak (c6 (Ku (pv 0)) n8)))] (
   ae #[Ko,#[h3,kA,#[hG,Zak],(jm #[bbh,MY,Zmf])]] (
   ae #[mA,Zak,#[Vv,ZEt,ZEt]] (
   ae #[mA,Zak,#[mQ,ZEt]] (
   ZaC1))))))),?_⟩
  try dsimp only[cxK,cxK']
  rcases h with ⟨w,q,ps,fs,rfl,hw,hq,pr,fl,k1,k2⟩ | ⟨w,q,gs,rfl,hw,hq,gl,wl,k1,k2⟩
  ·have pl:=ZgE
   rcases hw with rfl | rfl
   ·refine Zaoz
    rw[XM];refine #[rm,qz.q6,XM];refine#[mF,qz.q6,UO.t6.sq H];refine Zapx;rw[Z9,pl]
    by_cases c:ZaQN
    ·rw[ZKI]
     refine ZaoD;rw[#[kG,Ztf<=60]];refine Zmq;rw[#[RY,ZaE]];refine Zpx;rw[#[RX,ZaE]];refine Zmq;rw[#[RZ,ZaE]];refine au ⟨_,rfl,_,rfl,two,fun p hp=>k1 (Zkt fs) (by unfold kY;rw[Zaz,Zuq]) p _ ZuY (bS q ps ac (ah hp _ _ hq) Zaf #[j6,pr,ZwF #[DQ,ah hp _ _ y]])⟩
    ·have nn:#[afw,ZaE]:=by
      unfold kY;rw[Zaz,Zum]
     by_cases c1:ZG3
     ·rw[ZKI]
      refine ZaoD;rw[#[kM,Ztf<=60]];exact ZPU
     ·rw[ZaH8]
      exact ZPV
   ·refine Zaoz
    rw[XN];refine #[rm,qz.q7,XN];refine#[mF,qz.q7,UO.t7.sq H];refine Zapx;rw[Z9,pl]
    by_cases c:1<=Zek/\Zek<=1
    ·rw[ZKI]
     refine ZaoD;rw[#[kG,Ztf<=1]];refine Zmq;rw[#[RY,ZaT]];refine Zpx;rw[#[RX,ZaT]];refine Zmq;rw[#[XQ,ZaT,ZaT]];obtain⟨f,rfl⟩:=#[aRV,Zek];obtain⟨p0,rfl⟩:=#[aRV,Zen]
     obtain⟨hf,_⟩:bX dd H p0 f/\True:=by cases pr with | cons hf _=>exact⟨hf,ZCv⟩
     exact aQ ⟨_,rfl,q,_,0,_,rfl,rfl,ZIa,ZbU,two,fun p hp=>k1 (Zr8 f) (by unfold kY;rw[Zdr]) p _ ZuY #[jp,p0,(ZDT #[DQ,ah hp _ _ y])]⟩
    ·have nn:#[afw,ZaT]:=by
      unfold kY;rw[Zdr]
      match fs,c with
      | [],_=>rfl
      | [f],c=>exact Zag0
      | ZJF,_=>rfl
     by_cases c1:ZG3
     ·rw[ZKI]
      refine ZaoD;rw[#[kM,Ztf<=1]];exact ZPU
     ·rw[ZaH8]
      exact ZPV
  ·by_cases w1:ZaCr
   ·subst w1
    refine Zaoz;rw[XF];refine #[rm,qz.q1,XF];refine#[mF,qz.q1,UO.t1.sq H];refine Zapx;rw[Z9]
    by_cases c:#[aOJ,2,2]
    ·rw[Zpz]
     refine ZaoD;rw[#[kG,Zkz<=2]];refine Zmq;rw[#[RY,ZbZ]];refine Zpx;rw[#[XQ,ZbZ,ZbZ]]
     match gs,c,hq,k1 with
     | ZBg,_,hq,k1=>exact aQ ⟨_,rfl,q,_,0,_,rfl,rfl,ZIa,ZbU,_,rfl,q,_,1,_,rfl,rfl,ZIa,rfl,#[Fw,3],fun p hp=>k1 ZaKp (by unfold gj;rw[Zaz]) p _ ZuY ⟨ac,⟨#[wo,2<=2],#[Ge,2],(fun _ _ _ _ z=>by cases z)⟩⟩⟩
    ·have nn:#[vq,ZbZ]:=by
      unfold gj;rw[Zaz]
      match gs,c with
      | [],_=>rfl
      | [_],_=>rfl
      | ZBg,c=>exact Zag0
      | _::ZJF,_=>rfl
     by_cases c1:ZJk
     ·rw[Zpz]
      refine ZaoD;rw[#[kM,Zkz<=2]];exact ZPU
     ·rw[ZKZ]
      exact ZPV
   by_cases w2:w=Za7
   ·subst w2
    refine Zaoz;rw[XG];refine #[rm,qz.q2,XG];refine#[mF,qz.q2,UO.t2.sq H];refine Zapx;rw[Z9]
    by_cases c:ZMa
    ·rw[Zpz]
     refine ZaoD;rw[ZZ3];refine Zmq;rw[#[RY,Za7]];refine Zpx;rw[#[RX,Za7]];refine Zmq;rw[#[RZ,Za7]];refine au ⟨_,rfl,_,rfl,two,fun p hp=>k1 ZaFJ (by unfold gj;rw[Zdr,Zdr,Zuq,Zaz]) p _ ZuY ⟨Zaev,⟨c.1,c.2,(fun _ _ _ _ z=>by cases z)⟩⟩⟩
    ·have nn:#[vq,Za7]:=by
      unfold gj;rw[Zdr,Zdr,Zum]
     by_cases c1:ZJk
     ·rw[Zpz]
      refine ZaoD;rw[Zaap];exact ZPU
     ·rw[ZKZ]
      exact ZPV
   by_cases w3:ZaCs
   ·subst w3
    refine Zaoz;rw[XH];refine #[rm,qz.q3,XH];refine#[mF,qz.q3,UO.t3.sq H];refine Zapx;rw[Z9]
    by_cases c:ZMa
    ·rw[Zpz]
     refine ZaoD;rw[ZZ3];refine Zmq;rw[#[RY,ZbS]];refine Zpx;rw[#[RX,ZbS]];refine Zmq;rw[#[RZ,ZbS]];refine au ⟨_,rfl,_,rfl,two,fun p hp=>k1 ZaFK (by unfold gj;rw[Zdr,Zdr,Zuq,#[zv,ZbS,Za7],Zaz]) p _ ZuY ⟨Zaev,⟨c.1,c.2,(fun _ _ _ _ z=>by cases z)⟩⟩⟩
    ·have nn:#[vq,ZbS]:=by
      unfold gj;rw[Zdr,Zdr,Zum]
     by_cases c1:ZJk
     ·rw[Zpz]
      refine ZaoD;rw[Zaap];exact ZPU
     ·rw[ZKZ]
      exact ZPV
   by_cases w4:ZJm
   ·subst w4
    refine Zaoz;rw[XI];refine #[rm,qz.q4,XI];refine#[mF,qz.q4,UO.t4.sq H];refine Zapx;rw[Z9]
    by_cases c:ZMa
    ·rw[Zpz]
     refine ZaoD;rw[ZZ3];refine Zmq;rw[#[RY,Zcc]];refine Zpx;rw[#[RX,Zcc]];refine Zmq;rw[#[RZ,Zcc]];refine au ⟨_,rfl,_,rfl,two,fun p hp=>k1 ZaFI (by unfold gj;rw[Zdr,Zdr,Zuq,#[zv,Zcc,Za7],ZaKP,Zaz]) p _ ZuY ⟨Zaev,⟨c.1,c.2,(fun _ _ _ _ z=>by cases z)⟩⟩⟩
    ·have nn:#[vq,Zcc]:=by
      unfold gj;rw[Zdr,Zdr,Zum]
     by_cases c1:ZJk
     ·rw[Zpz]
      refine ZaoD;rw[Zaap];exact ZPU
     ·rw[ZKZ]
      exact ZPV
   by_cases w5:ZaCt
   ·subst w5
    refine Zaoz;rw[XJ];refine #[rm,qz.q5,XJ];refine#[mF,qz.q5,UO.t5.sq H];refine Zapx;rw[Z9]
    by_cases c:#[aOJ,4,4]
    ·rw[#[py,4,Zkz]]
     refine ZaoD;rw[#[kG,Zkz<=4]];refine Zmq;rw[#[XQ,ZcQ,ZcQ]]
     match gs,c,hq,k1,k2 with
     | ZHl,_,hq,k1,k2 =>
      refine aQ ⟨_,rfl,q,ZHl,rfl,ZIa,#[axO,4],fun l S n hl nle ax7=>⟨l,S,n,rfl,ac,_,_,rfl,rfl,_,rfl,?_⟩⟩;have s1:=#[gm,Zafv,hl];have nle:n<=4:=nle;have ax7:n=4↔ZaxI:=ax7
      by_cases nd:ZaxI
      ·rw[ZaDN]
       rw[ZaDN]at s1;refine Zmq;rw[#[RX,ZcQ]];refine Zmq;rw[#[RZ,ZcQ]];exact au ⟨_,rfl,_,rfl,two,fun p hp=>k1 (.pl (ZDf a b d e)) (by unfold gj;rw[Zdr,Zaz];show Zbd4;rw[aQd nd]) p _ ZaD3 ⟨#[jp,q,ZaD3 _ _ hq],⟨#[wo,2<=4],#[Ge,4],(fun _ _ _ _ z=>by cases z;exact nd)⟩⟩⟩
      ·rw[aQe (show Zbj<4 by have h9:¬ n=4:=#[jx,nd,ax7.mp];lia)]
       exact aQ (k2 (by unfold gj;rw[Zdr,Zaz];show Zbd4;rw[aQc nd]) _ s1)
    ·have nn:#[vq,ZcQ]:=by
      unfold gj;rw[Zdr,Zaz]
      match gs,c with
      | [],_=>rfl
      | [_],_=>rfl
      | [_,_],_=>rfl
      | [_,_,_],_=>rfl
      | ZHl,c=>exact Zag0
      | _::_::_::ZJF,_=>rfl
     by_cases c1:4<=Zky
     ·rw[#[py,4,Zkz]]
      refine ZaoD;rw[#[kM,Zkz<=4]];exact ZPU
     ·rw[#[s6,4,Zkz]]
      exact ZPV
   refine Zaoz;rw[XO w1 w2 w3 w4 w5 #[bC,hw (Zal z)] #[bC,hw (Zap z)]];refine aQ (k2 ?_ H ZPT);unfold gj;rw[aQc w1,aQc w5];split<;>first | rfl | (rw[aQc w2,aQc w3,aQc w4])
def xE {fl c1 cy:Addr}{pm ct:Value}{d lv:Nat}(nj:#[aKo,lv,ZaXD])(Lm:D5 ZaS aI ZWh ZWi ZG6 Zo3 (Zah ZVV) fl c1 cy pm ct) :
  aY P w K mg ZaS ZhJ (lv+1) fl (Za92 ZDw aI ZWh ZWi ZG6 [(Zo3,cy)] pm #[aj,c1] ct) [Zbbc,"place"] (QT P0 aO aI cF #[aML,aI] ZtY (Yo d)):=by
 refine Vl (ps:=[Zbbc,"place"]) (y:=Zo3) ⟨rfl,rfl,rfl,Zao,Zao,Zao,Zuj,rfl⟩ Lm (Zamb) (Zamb) (#[bbd,?_])
 ·have hm:=aXJ hx
  exact #[xd,∀ p∈#[G6,0].names,p.2=Zwl->p.1=Zo3] _ hm rfl
 ·obtain⟨z,a,rfl,_⟩:=h
  rfl
 ·obtain⟨z,a,rfl,_,_,_,hc,_⟩:=h
  exact hc
 ·obtain⟨z,a,rfl,asc,zl,al,hc,tI,k1,k2⟩:=h
  refine #[kY,(lK nj Zmm rfl P8 (wu Zak Zaq (aL vU ZaA aj)))];refine⟨_,rfl,_,rfl,_,rfl,_,_,rfl,rfl,z,a,#[b6,#[e2,(ZVV-1)=#[a4,d]]],asc,zl,al,tI,#[bbe,k1 f r hr t ZqN H' g t' ht #[ii,p,hf]],k2⟩
def DI (F:#[ar,Zl9,Zl9,bI]){c0 fw fN:Addr}{fdw:FuncData}{d lv:Nat}(hco:ZaGG)(CK:ZaR2)(BK:Zaq0)(hmw:#[bW,ZwZ,fw])(hkw:#[bcd,fw])(hbw:je K fdw ZbaI [])(WS:∀ (b:Heap)(fl c1 cy:Addr)(vy:V)(pm ct:Value),#[a3X,b,yj mg b,b,aY P w K mg b ZhJ (lv+2) fw fdw ZbaI Za2o])(hmN:#[bW,ZQl,fN])(yk:#[jJ,ZwZ,3,ZbaI,#[a0O,fN]])[100](vk:#[jJ,ZDS,1,ZaeU,ZaOE])(hlv:5<=lv):#[hK,(lv+3),ZRK,#[Vd,Znk,Znk,(brM d)]]:=by
 refine F.okXC fU hco (Zamb) (#[bbd,?_])
 ·obtain⟨z,a,rfl,_⟩:=h
  rfl
 ·obtain⟨z,a,rfl,asc,zl,al,tI,k1,k2⟩:=h
  have two:Zpi:=ZaF
  refine ⟨_,(ae #[ig,ZaOn,3,ZQm,1,ZQm,dX] (
   ae (aN (ay ng ZaO ZaCO rfl) #[aWm,(Iy (iy:=2) (y:=Zo3) WS Zmm rfl hmw hkw hbw cz Zak Zaq rfl CK BK rfl rfl rfl rfl rfl rfl rfl)] #[aWm,#[ael,yk,(wu Zak Zaq (#[ak9,fN,hmN]))]]) (
   af (ar (bg #[pv,#[ael,vk,ZaJX]]))))),?_⟩
  try dsimp only[cxK,cxK']
  refine ZahZ;have wp:=K8 al;have ea:brM d ZgV=brM d (ZgU a):=rfl;have dl:ZHP ZER=ZgU (ZES):=aXm
  conv at ea=>rhs;unfold brM;rw[dl]
  have s1:=Zas5;refine Zadz
  have az9:ZaWU:=ZF9
  generalize toS (fM (ZgU a))=w at ea s1 az9 ⊢;generalize ZES=b at ea s1 wp ⊢;have bl:=wp.2;generalize #[cL,H,t,[Zag w,Zah #[a4,b]]]=H1 at s1 ⊢;refine#[FV,#[Qn,#[aYS,t2]]];have s2:=#[HT,#[gn,[Zag ZaE,Zag ZaT],ht2]];have tI2:=Zss s2;rw[#[agO,ZaYi,ZaYi,ZafZ,wX w [ZaE,ZaT]]];generalize #[cL,H1,t2,[Zag ZaE,Zag ZaT]]=H2 at s2 tI2 ⊢;have hz:Zagn:=Zaa6
  by_cases hw:Zag3
  ·rw[aQd hw]at ea
   rw[aQe (show ZafZ by rcases hw with rfl | rfl<;>simp)];refine aQ #[t8,tI2,_,rfl,fun fl c1 H3 cf tI3 bt=>⟨rfl,z,b,rfl,asc,zl,bl,cf,tI3,fun fs r hp t3 q vs' H4 g4 t4 ht3 hq pr=>?_,#[bbf,?_]⟩]
   ·have g24:=ZJi (ZaXu g4)
    refine ZaO7;obtain⟨ps,rfl,pf⟩:ao:=Ab pr;have fl2:=zc ZZT _ _ _ _ hp;rw[aQN,hz]at fl2;rw[hp]at ea;refine#[eH,.figs w q ps fs rfl hw hq pf Zaf ZaU_ #[a3q,(kY w fs).map]];have s6:=ZaYh;exact #[a3Y,(kY w fs).map _=_]
   ·exact #[a0I,(ZJi (ZaXu g4))]
  ·rw[aQc hw]at ea
   rw[aQg (show ¬ ZafZ by simpa using hw)];refine au ⟨_,rfl,_,rfl,z,b,rfl,asc,zl,bl,ZCv,tI2,fun gs r hp t3 q vs' H4 g4 t4 ht3 hq pr=>?_,#[bbf,?_]⟩
   ·have g24:=ZJi g4
    refine ZaO7;have e9:=xJ pr;subst e9;have fl2:=zc Gk _ _ _ _ hp;rw[aQN,hz]at fl2;rw[hp]at ea;refine#[eH,.nums w q gs rfl hw hq Zaf az9 ZaU_ #[a3q,ZaQS]];have s6:=ZaYh;exact #[a3Y,ZaQS _=_]
   ·exact #[a0I,(ZJi g4)]
def xD (F:#[ar,Zw0,Zw0,qN]){d lv:Nat}(rL:#[jJ,Zl9,(lv+3),ZRK,(Ua P0 lp ql cF d)])[100][240]:#[hK,(lv+4),ZRK,(tK P0 lp ql cF d d ZtY)]:=by
 refine #[aoi,qI]
 ·obtain⟨z,a,rfl,_⟩:=h
  rfl
 ·obtain⟨z,a,rfl,asc,zl,al,tI,k1,k2⟩:=h
  have two:Zpi:=ZaF
  have sl:Za9b:=aQU
  have zl2:Zol:=Zae
  refine ⟨_,(ae #[Ko,Zabm] (
   ae #[mA,Zatw,#[ael,rL,(wu Zak ZyZ ZaA)]] (
   ae #[ig,ZaOn,3,qI.nd,4,qI.nd,dX] (
   ae #[EF,#[nu,#[mn,jK,ZqY]],ZDR,ZwY,(jX (c6 ak (c6 ZyS n8)))] (
   #[jY,ZaCP,ZcT]))))),?_⟩
  try dsimp only[cxK,cxK']
  refine Zmp
  cases d with
  | zero=>exact aQ (k2 #[nw,Zgf] H GK.refl tI)
  | succ d =>
   rw[aQg (#[bn,¬ Zau (((d+1:Nat)):Int)=Zau 0,ZadD])];refine au Zaij;rw[Fo,Th,Fw]
   by_cases hd:#[av,#[gV,0].head?,40]
   ·rw[aQe hd]
    have alt:=Fx hd;rw[wU d _ hd,aXm]at k1 k2;exact aQ ⟨_,rfl,_,rfl,_,_,rfl,rfl,_,rfl,z,a+1,Zaxp,asc,zl,Zae,tI,k1,k2⟩
   ·rw[aQg hd]
    rw[ZaQb]at k1 k2;refine au ZahZ;have wp:=K8 al;have s1:=Zas5;refine Zadz
    have az9:ZaWU:=ZF9
    refine#[Z_,ZaPa,az9,fun H2 s2=>Zh7];have A_:=Zhf
    cases nm:iD (toS (fM ZgV)) with
    | false =>
     rw[nm]at k2;exact aQ #[c3,ZaG,#[cR,a,ZuA,#[EC,k2 rfl H2 (dH A_) (Zss A_)]]]
    | true =>
     rw[nm]at k1;refine au #[FV,#[at_,ZQo]];have s3:=ZwX ((#[gn,[Zag ZbH,Zag ZaqZ],hp]).trans (#[gn,#[s2,ZTZ],ht2]));exact k1 _ _ rfl t2 p _ (dH s3) (Zss s3) #[eF,ac,wp.1] ⟨ah ht2 _ _ ac,#[zO,vL,nm]⟩
def CB (F:#[ar,ZMO,ZMO,oC])(nj:#[aKo,37,ZaXE]) : #[hK,38,Zaw7,Za1B]:=by
 refine #[aoi,om]
 ·obtain⟨z,rfl,_⟩:=h
  rfl
 ·obtain⟨z,rfl,asc,zl,tI,k1,k2⟩:=h
  have sl:Za9b:=aQU
  have zl2:Zol:=Zae
  refine ⟨_,(ae #[ig,(lK nj ZbI rfl cz (wu Zak ZdK #[ak3,UO.dp])),1,om.nd,2,om.nd,dX] (
   ae #[Ko,#[hF,l9,ZaA,Zak6]] (
   ZJl))),?_⟩
  try dsimp only[cxK,cxK']
  refine⟨_,rfl,z,0,rfl,asc,zl,Zcr,tI,#[bbe,?_],fun hn H' g t'=>k2 (fun f q=>by rw[aZk]at hn;rw[hn]at q;cases q) H' g t'⟩;rw[aZk]at hr;refine ZaGC;refine⟨_,rfl,_,rfl,z,rfl,zl2,rfl,_,rfl,?_⟩
  by_cases r0:r=[]
  ·subst r0
   rw[#[th,Zau #[a4,#[pt,#[ED,Zbr]]]=Zau ZtC]];exact #[mP,k1 f hr p H' g t' hf]
  ·have rl:=Ml (AX 8) hr
   have rp:0<ZeX:=Za8Q r0;rw[<-eI]at rl;rw[aQg (#[bn,¬ Zau ZS6=Zau ZtC,#[bk,#[ew,ZoP q]]])];exact aQ (k2 (fun f2 q=>r0 (by rw[hr]at q;injection q with q;injection q with _ q)) H' g t')
def Km (F:#[ar,ZQp,ZQp,wg])(ph:#[kV,ck,Zcn,3,Zmj,(KR c ck)]) : #[hK,6,ZaEg,(Ub c ck)]:=by
 refine #[aoi,KJ]
 ·obtain⟨k,t,g,rfl,_⟩:=h
  rfl
 ·obtain⟨k,t,g,rfl,ht,q⟩:=h
  have T0:aX K H t Zve:=ZqV;refine #[kY,(af (aN ZGc #[aOT,ph,ZJg] (gU)))]
  try dsimp only[cxK,cxK']
  obtain⟨k',D,B,st,g',hv,I,ft,sg,q1,q2⟩:=q;cases hv;refine ZmX;rw[Zts];exact aQ ⟨_,rfl,k,Zma,_,rfl,ZDU,Zqk,_,rfl,t,_,_,_,rfl,rfl,T0,rfl,k,D,B,st,g,rfl,I,ft,sg,q1,q2⟩
def F7 (F:#[ar,ZQq,ZQq,mY])[218] : #[bi,2,[Za7],XD]:=by
 refine #[aoh,qK]
 ·obtain⟨z,w0,ws,rfl,_⟩:=h
  rfl
 ·obtain⟨z,w0,ws,rfl,asc,len,hw,k1,k2⟩:=h
  have hu:=ZbD
  refine ⟨_,(ae (bh 1 qK.nd (Qk Zak Zbw)) (
   ae #[a3',2,mY,zV,Zqf,(cE (iF Mm Zaq (gI (aj)) qE)),Zqf,bp gD ZbI rfl Zmg,qK.nd] (
   ae #[md,(ay ng ZjE ZaA rfl),ZjE] (
   #[cs,(aL SG (bg (c5 #[Ep,kM,Zaq])) #[ak1,Zmh])])))),?_⟩
  try dsimp only[cxK,cxK']
  have sl:Za9b:=aQU
  have sp:Zzb=⟨#[32]⟩:=Zao
  obtain⟨wl,wok⟩:=Oh (c:=32) ZaG asc;rw[hw]at wl wok;have wl:Zkc+1<=ZbN+1:=wl;refine⟨_,rfl,rfl,z,_,rfl,rfl,#[b6,sp],Zae,ZX3⟩;rw[#[ON,(ZalG z Zzb)=w0::ws,sp,hw]];have s1:=#[G8,ZVq,hlw];have h1:#[dR,lw,Zaab,lw,Zaab]:=ac;generalize upd H lw Zaab=H1 at s1 h1 ⊢;refine#[eH,FR ⟨lw,_,rfl,ZqX,fun l3 hl3=>?_⟩];rw[Ll,#[et,(ZVq ZaC).drop 1=Zi1 ZaC]];have s2:=#[G8,Zi1,hl3];have h3:#[a5,H1,l3,Zt0,l3,Zt0]:=ac;have h2:=ZaDV;have s02:=Zhf;generalize upd H1 l3 Zt0=H2 at s2 h3 h2 s02 ⊢;refine#[le,l3,h3,fun ln hln=>?_];refine m8 (K:=K) ZaC (rs:=ws) (f:=Zhz) hln h3 Zaf (fun r HK Q' hr0 sK kk=>?_) (fun H3 s3 h4=>?_)
  ·obtain⟨ra,rl⟩:=wok r #[dh,hr0]
   refine⟨_,rfl,r,rfl,ra,Zae,fun ds H' N s'=>?_,fun n H' s'=>?_⟩
   ·have:=ZaPo
    rw[Cq N]at this;exact this
   ·have:=ZaPo
    rw[Ig n]at this;exact this
  have s03:=ZaaO;have h2:=#[gy,h2]
  have fl:(Zi1 Zhz).all sG=Zad:=aQL.mpr fun v hv=>by
   obtain⟨w,_,rfl⟩:ao:=ZZL;exact vD (yX w)
  refine⟨_,rfl,ln,_,rfl,#[h4,h4],rfl,fl,_,rfl,?_⟩
  have ein:JU ZNx (Zi1 Zhz)=Zad↔ZaME:=by
   unfold JU;rw[List.any_eq_true];constructor
   ·intro a_;obtain⟨v,hv,e⟩:ao:=a_
    obtain⟨w,hw0,rfl⟩:ao:=ZZL;have e:=#[aZQ,0].mp e;refine #[aY,w,hw0,fun ds N=>?_];rw[Cq N]at e;cases e
   ·intro a_;obtain⟨w,hw0,n⟩:ao:=a_
    refine #[bJ,aXe hw0,#[aZQ,0].mpr (Ig n)]
  cases hb:JU ZNx (Zi1 Zhz) with
  | true =>
   rw[#[et,#[gq,if ZkJ then !true else true]]];exact aQ (k2 (ein.mp hb) H3 s03)
  | false =>
   have al:Zayc:=fun w hw0=>Classical.byContradiction fun n=>by
    rw[ein.mpr #[aY,w,hw0,fun ds N=>n ⟨ds,N⟩]]at hb;cases hb
   rw[#[et,#[o9,if ZkJ then !false else false]]];refine au ⟨_,rfl,lw,_,_,_,rfl,rfl,Zbh h2,ZbU,Zarb,ZX6⟩;have s4:=#[gn,ZKN,ht1];have h5:#[yQ,H3,t1,ZKN,t1,#[cK,ZKN]]:=ac;have h6:=s4 _ _ h4;have s04:=Zang s4;have ht0:=Zanh ht1;generalize #[cL,H3,t1,ZKN]=H4 at s4 h5 h6 s04 ⊢;refine#[aVD,ln,h6,ZQo];have s5:=#[gm,ZcJ (Zi1 Zhz),ht2];have h7:#[a5,H4,t2,Zafp,t2,Zafp]:=ac;have h8:=s5 _ _ h5;have s05:=ZaJa;generalize upd H4 t2 Zafp=H5 at s5 h7 h8 s05 ⊢;refine ⟨t1,t2,_,_,rfl,rfl,Zbg h8,Zbg h7,ZaV,(#[Qr,Z9,1+Zkc<=_]),(#[cb,?_]),(fun _ t3 ht3=>?_)⟩
   ·refine k1 al t1 H5 ht0 s05 ?_
    rw[e];exact h8
   ·exact k1 al t3 _ (s05.free ht3) (Zani (ah ht3)) ac
def NO (F:#[ar,ZQs,ZQs,uC])(pe:aZ P w K mg ZaS eR c.C Zsm 1 ZfD (IU c.C))[60] : #[afH,4,I0]:=by
 refine #[aoh,N4]
 ·obtain⟨p,B,st,rfl,_⟩:=h
  rfl
 ·obtain⟨p,B,st,rfl,S,G,h64,sm,k⟩:=h
  have hu:=ZbD;refine #[u6,(#[g1,dM,am uC,HS,ZaGb,Zacn,Dk,(cE (tj pe Zak ZcY ZbI fW)),#[xm,⟨(gv 0 #[xe,ZaGb]),Md (ay l9 (dJ dC Zaq ZcY ZbI L7 Zmg) Zak ZhE),pv 0⟩]])]
  try dsimp only[cxK,cxK']
  have nos:#[baT,Zaau->Zaat->Zaas->Zaar->ZaE2]:=fun B m h1 h2 h3 h4=>TJ B h1 h2 h3 h4;have nG:#[Rt,Zsm]:=ZsW;have nM:#[Rt,"moment"]:=ZsW;have nI:#[Rt,"inside"]:=ZsW;have nS:#[Rt,"story"]:=ZsW;have nW:ZaC3:=ZsW;have nR:#[Rt,"wearer"]:=ZsW;have nT:ZaC4:=ZsW;have nP:#[Rt,"pairs"]:=ZsW;have nQ:#[Rt,"partners"]:=ZsW
  have two:Zpi:=ZaF
  have aj5:ZIN:=Zcr
  have dkk:∀ wl:Zd4,(dk wl).map (·.1)=#[aQA,wl]:=fun wl=>by unfold dk aU;rw[aQP,aQP];rfl
  have ksl:#[hM,i7,aU,ZaI]<64:=#[dz,yK,BZ,h64]
  have ksm:∀ g,g∈ZaLk↔ZZC:=fun g=>Ex;refine⟨_,rfl,p,Zco,_,rfl,ZcB,nG B,p,B,_,rfl,S,h64,fun lg hlg=>?_⟩;have sg:=#[EX,#[Ue,0].map,hlg];have hg1:#[dR,lg,ZUf,lg,ZUf]:=ac;generalize upd H lg ZUf=H1 at sg hg1 ⊢;refine#[le,lg,hg1,fun lm hlm=>?_];have ew:cC ZaI=#[Ue,0].filter ZSM:=rfl;rw[ew]at k;generalize ZaLk=ks at hg1 ksl ksm k
  refine cZ (K:=K) (a:=lg) (xs:=ZaA4) #[uc,#[hc,[v,ZfM],aG H1 HH,#[fj,lm,#[k4,ZQu,ZSM]]]]
   #[cC,Zac,ah hlm,ac] (#[anj,#[pL,s],Zbh (s _ _ hg1)]) ?_ ?_
  ·intro i y σ HH hi a_;obtain⟨v,rfl,s2,hm2⟩:aK:=a_
   obtain⟨g,hg,rfl⟩:ao:=ZbL;have hil:i<Zwu:=ZAt;have gk:=(ksm g).mp (aQC hg);have S2:=(ZDV sg).mono s2
   have tk:ZQt Zce=ZQt i++[g]:=by rw[aQM,hg,aQK]
   have ll:#[bd,ZQu,ZSM]<=64:=ZaQ_;refine Rb #[BK,S2.ob,nW B,g,S2,sm g gk];rw[oW gk];refine Zmp
   by_cases hm:#[FC,g,g]
   ·rw[#[ayo,ZaJ6,hm]]
    refine au #[uJ,s2]
    have fg:#[aWW,[]]:=#[ex,aXG,aQc (#[aH,(aQJ z) hm])]
    rw[tk,aXQ,fg];simpa using hm2
   ·rw[#[a8m,#[ZA,ZaJ6]]]
    refine aQ #[mo,_,hm2,Zzn];refine #[uJ,cH s2 hlm]
    have fg:#[aWW,[g]]:=#[ex,aXG,aQd (aQe hm)]
    rw[ac,tk,aXQ,fg,aQt];rfl
  ·intro σ HH a_;obtain⟨v,rfl,s2,hm2⟩:aK:=a_
   rw[Z9,aQH]at hm2;exact k lm HH (sg.free hlm) (sg.trans s2) hm2
def F8 (F:#[ar,ZQv,ZQv,qY])[60] : #[hK,5,#[qq,Ze1],(Mt c)]:=by
 refine #[aoi,mJ]
 ·obtain⟨p,B,st,g,rfl,_⟩:=h
  rfl
 ·obtain⟨p,B,st,g,rfl,S,G,h64,smk,sm,k⟩:=h
  have hu:=ZbD
  refine ⟨_,ae (bh 2 mJ.nd ZaFa) (
   ae (bh 3 mJ.nd (#[aXX,Zmf])) (
   ae (xR PassesOwn.leaving #[hF,l9,ZaO,Zaq] (ae #[Mv,ZaA,ZqY] (
   af (bh 3 mJ.nd (#[aXX,ZqY]))))) (
   ZFm))),?_⟩
  try dsimp only[cxK,cxK']
  have nW:#[Rs,Zrq]:=ZsV;refine#[c3,#[FQ,1],ZDI];have s1:=#[mL,ZSe,hl];have q_:#[dR,l,#[eB,ZSe],l,#[hO,(db Zgv g 1)]]:=ac;generalize upd H l (Za6 ZSe)=H1 at s1 q_ ⊢;have S1:=ZJa;refine#[BK,ZP_,nW,g,S1,sm]
  by_cases hg:ZZC
  ·have P:=xQ G
   have R:=Zalk hg;have ol:=Zall hg;rw[aQd (ZCH hg)]at k;rw[oW hg];unfold ie at k;generalize #[asG,DN]=M at R k ol;have i1:bO Zgv 1 g=wr ZaI g:=rfl;rw[<-i1];refine #[cg,(fun n σ HH=>∃ i,n=M-i/\1<=i/\i<=M/\σ=#[aYb,Zaek]/\Zuw/\#[fj,l,#[hO,(db Zgv g i)]]),gT _ 1 rfl Za8 R.1 rfl s1 q_];intro n σ HH a_;obtain⟨i,rfl,h1,hM,rfl,s2,j_⟩:pL:=a_;refine ZaT6
   by_cases e:bO Zgv i g=g
   ·rw[#[ayo,Zaek,e]]
    have:i=M:=by
     by_cases v_:i<M
     ·exact #[oR,e,(R.2.2 i Zaf v_)]
     ·lia
    rw[this]at j_;exact #[mP,k l HH hl s2 j_]
   ·rw[show #[ZA,Zaek] by simpa using e]
    have v_:i<M:=by
     by_cases v_:i<M
     ·exact v_
     ·have:i=M:=Zae
      rw[this]at e;exact #[oR,Zz_,e]
    have ik:bO Zgv i g∈Zg9:=ZaTD;refine #[aYL,σ'=#[aYb,(bO Zgv Zce g)]/\Zb_/\#[bO,l,#[hO,(db Zgv g (i+1))]],⟨a1,a2,a3⟩,Zce,i+1,Zae,a1,a2,a3];refine#[ua,j_,l,j_,ZaUP];have s3:aG H (upd HH l Zatd):=cH s2 hl
    have hl3:#[a5,HH,l,Zatd,l,#[hO,(db Zgv g (i+1))]]:=ZaS1
    generalize upd HH l Zatd=H3 at s3 hl3 ⊢;have S3:=ZDV s3;refine#[BK,S3.ob,nW,_,S3,smk _ ik];rw[oW ik];exact #[pn,s3,hl3]
  ·have en:ZaII:=by
    cases e:Zq' with
    | none=>rfl
    | some m=>exact #[aOc,hg]
   rw[aQc (#[fs,en])]at k;rw[en];exact fun dx H' s hx=>k dx H' (ZgR s) hx
def Iq (F:#[ar,ZQw,ZQw,tW])(E8:#[afx,ZQs,4,I0])(vo:#[jJ,ZQv,5,#[qq,Ze1],(Mt c)]) : #[afH,6,Mv]:=by
 refine #[aoh,jF]
 ·obtain⟨p,B,st,rfl,_⟩:=h
  rfl
 ·obtain⟨p,B,st,rfl,S,G,h64,smk,k⟩:=h
  have hu:=ZbD;have aj5:ZIN:=Zcr
  refine ⟨_,(ae (bh 1 ZDW (Ks MW Zak0 T.bset Zbbg)) (
   ae (bh 2 ZDW Zfn) (
   ae (eO aQ2 rfl (cE #[ct,E8,Zmg]) (gv 3 ZDW) (af (aN (ay NQ ZaO Zaq rfl) (ae (bh 4 ZDW (lK vo ZbI rfl L7 (fG Zak ZaO))) (
   ae #[lq,#[x6,4],5,ZDW,#[jv,(iZ PySem.F.plainAttrs_set PySem.F.slot_set_add PySem.F.type_set_add Sm Zaq Zuz)]] (
   ZaKF))) ZqJ))) (
   ZFm)))),?_⟩
  try dsimp only[cxK,cxK']
  have P:=xQ G;refine ZBw;refine#[d5,fun lp hlp=>?_];have sA:=#[gm,Zhj (ZXE) 0,hlp];have hp1:#[dR,lp,ZLR,lp,ZLR]:=ac;generalize upd H lp ZLR=H1 at sA hp1 ⊢;refine ZaRS;have sB:=ZaDf;have lr0:Zay_:=sA.free hlr;have hr1:Za0s:=ac;have hp2:=sB _ _ hp1;generalize ZaTu=H2 at sB hr1 hp2 ⊢;refine⟨_,rfl,p,B,st,rfl,(ZDV sA).mono sB,G,h64,smk,#[bbi,?_]⟩;have bz9:lp≠lr:=dU hp2 hr1 (by intro z;cases z)
  have lsr:ls≠lr:=fun z=>by rw[z,hr1]at hls;cases hls
  have lsp:ls≠lp:=fun z=>by rw[z,hp2]at hls;cases hls
  refine⟨ls,rfl,ZaBj,cZ (K:=K) (a:=ls) (xs:=(cC ZaI).map Zau) (fun i σ HH=>∃ (Sf:ZaaP)(n:Nat)(as:Zei)(v3 v4 v5:Zgj),σ=#[aXF,v3,v4]/\Zuw/\#[fj,ls,ZaIa]/\#[fj,lp,(Zhj Sf n)]/\#[aUV,Sf,ZtP]/\n<=Zaxt /\
    ZaOX/\#[aTp,ZaGc]/\(Zax3)/\lr∉as)
   ⟨_,0,[],⟨none,none,none,rfl,ZbbK,h3,#[gy,hp2],fun y=>rfl,ZaX,ZaCj,Zan,(fun a h=>nomatch h),(fun h=>nomatch h)⟩⟩ (fun i σ HH _ zz=>by obtain⟨_,_,_,_,_,_,_,_,h,_⟩:=zz;exact ZYS) ?_ ?_⟩
  ·intro i y σ HH hi a_;obtain⟨Sf,n,as,b_⟩:iw:=a_;obtain⟨v3,v4,v5,rfl,s4,aj0,hp4,hS4,hn4,zx4⟩:kX:=b_;obtain⟨hr4,hpa,has,hnr⟩:iu:=zx4
   obtain⟨g,hg,rfl⟩:ao:=ZbL;have hil:i<#[bd,cC,ZaI]:=ZAt;obtain⟨gk,gw⟩:=ZaWt;refine Za2g;have qn:=Mf hg;have lpa:=aQx hpa;refine⟨_,rfl,_,rfl,lp,Sf,n,g,rfl,rfl,hp4,_,rfl,?_⟩;rw[hS4]
   by_cases hq:g∈ZtP
   ·rw[aQe hq]
    have e:qR ZaI Zce=qR ZaI i:=by rw[qn];unfold ya;rw[aQd hq]
    refine au ⟨Sf,n,as,⟨_,_,_,rfl,s4,aj0,hp4,?_,?_,hr4,?_,has,hnr⟩⟩
    ·rw[e];exact hS4
    ·rw[e];exact hn4
    ·rw[e];exact hpa
   ·rw[aQg hq]
    have e:qR ZaI Zce=(ZtP++ZasH,ZaGc++[ZasH]):=by rw[qn];unfold ya;rw[aQc hq]
    refine aQ ⟨_,rfl,_,rfl,p,B,st,g,rfl,ZDV s4,G,h64,smk,smk g gk,?_⟩;rw[aQd (ZCH gk)];intro l H5 hl s5 h5
    have rl:#[bf,ZaV8,ZlY]:=#[aL,Eu,ZaG7]
    generalize ZasH=r at e h5 rl
    have llr:l≠lr:=fun z=>by rw[z,hr4]at hl;cases hl
    have llp:l≠lp:=fun z=>by rw[z,hp4]at hl;cases hl
    refine⟨_,rfl,l,rfl,#[e',h5],cZ (K:=K) (a:=l) (xs:=ZaA6) (fun j σ HK=>∃ (Sg:ZaaP)(n':Nat)(v5:Zgj),σ=#[aXF,ZUJ,Zg6]/\HK lp=Zab (Zhj Sg n')/\#[aUV,Sg,ZaVK]/\n'<=Zaxt+j/\(#[J2,H5,lp,HK]))
     (fC Sf n _ rfl #[yo,hp4] (fun y=>#[dz,aZL,aXl,hS4 y]) hn4 (fun b o z _=>z)) (fun j σ HK _ ⟨_,_,_,_,_,_,_,kk⟩=>#[qM,kk _ _ h5 llp]) ?_ ?_⟩
    ·intro j y σ HK hj a_;obtain⟨Sg,n',v5,rfl,hp6,hS6,hn6,kk⟩:gi:=a_
     obtain⟨x,hx,rfl⟩:ao:=ZI5;have hjl:j<ZeX:=ZZJ;refine⟨_,rfl,Zap (Zap (Zap ⟨rfl,Sg,n',hp6⟩)),_,rfl,lp,Sg,n',x,rfl,rfl,hp6,Zae,?_⟩;refine fC _ _ _ rfl ac (ZzL) ?_ (#[ae4,kk b o z nb])
     ·rw[hS6,aQM,hx,aQK,<-aXf,<-Bool.decide_or]
      congr 1
      rw[aQr (s:=ZaVK),aQj]
     ·split<;>lia
    ·intro σ HK a_;obtain⟨Sg,n',v5,rfl,hp6,hS6,hn6,kk⟩:gi:=a_
     rw[Z9]at hn6;have hr6:=kk _ _ #[yo,hr4] (aQA bz9);refine ZaYv
     have up:Za2h:=#[ae4,z]
     refine ⟨Sg,n',as++[l],⟨_,_,_,rfl,#[aMS,(kk b o #[aR_,s5] (aq z hlp))],up _ _ (kk _ _ #[yo,aj0] lsp) lsr,up _ _ hp6 bz9,ZzL,?_,ZaGf,?_,#[Pg,?_],ZfO⟩⟩
     ·rw[hS6,e,Z9,aQH]
     ·rw[e];show n'<=#[bc,(ZtP++r)];rw[aQl];exact hn6
     ·rw[e]
      refine bN (Wz.Paired.mapP' hpa fun a q ha z=>up a _ (kk a _ #[p8,s5] (dU z hp4 (by intro q;cases q))) ZaSS) #[aO8,(kk _ _ h5 llp)]
     ·rcases #[D_,ha] with z | z
      ·exact has a z
      ·rw[Zdd];exact ZaC5
     ·rcases ZYB with z | z
      ·exact hnr z
      ·exact ZaIS
  ·intro σ HH a_;obtain⟨Sf,n,as,b_⟩:iw:=a_;obtain⟨v3,v4,v5,rfl,s4,aj0,hp4,hS4,hn4,zx4⟩:kX:=b_;obtain⟨hr4,hpa,has,hnr⟩:iu:=zx4
   rw[Kw ZaI #[tH,ZaX]]at hpa;exact#[bK,k lr as HH lr0 s4 hr4 hpa has]
def Cy (F:#[ar,ZQx,ZQx,oA])(sf:aZ P w K mg ZaS eR c.C ZDx 3 ZfD ZaCU)[124] : #[hK,5,#[qq,ZaE],(QG c)]:=by
 refine #[aoi,jZ]
 ·obtain⟨p,l,B,es,ps,L,rfl,_⟩:=h
  rfl
 ·obtain⟨p,l,B,es,ps,L,rfl,S,row,⟨dn,nm0,smL,hL,l60,sp⟩,k⟩:=h
  have hu:=ZbD
  refine ⟨_,ae (bh 2 jZ.nd (tj sf Zak ZcY ZbI fW)) (
   ae (eO Zbbj rfl ZI' #[vy,3,jZ.nd,4,jZ.nd] #[jv,(dJ fA ZaA ZcY ZbI cz ZaJX)]) (
   ZFm)),?_⟩
  try dsimp only[cxK,cxK']
  have P:=qF dn nm0 Zde;rw[aQH]at P;have nT:#[Rs,ZDx]:=ZsV;refine⟨_,rfl,p,Zco,_,rfl,ZcB,nT,p,B,bd es,rfl,S,P.ci.kn,by have:=P.ci.kk;lia,fun x B1 H1 nx S1 fr1 s1=>?_⟩;have E1:Ev c H H1 x B1 ZgZ:=⟨s1,S1,P.good,fr1⟩;refine #[c8,row,ZX4];have hql:=ZZr
  refine⟨_,rfl,l,rfl,#[e',(E1.same _ _ hq)],cZ (K:=K) (a:=l) (xs:=Zaad) #[uc,∃ (B2:HA)(v w:Zgj),σ=[ZfM,Zg6,#[bv,x],v,w]/\Ev c H HH x B2 ZRo/\ZaWr]
   (fC B1 Zac Zac rfl (by simpa using E1) (Zbbl) (Zbbm) ZaV) (#[anj,⟨_,_,_,_,E,_⟩,Zbh (Zank _ _ hq)]) ?_ ?_⟩
  ·intro i y σ HH hi a_;obtain⟨B2,v,w,rfl,E,di,nm,ek⟩:gi:=a_
   obtain⟨b,hb,rfl⟩:ao:=ZbL;refine #[N',hqp,hb,ZHR];have hbK:=Zank _ _ hB;have il:=ZZK;have hsm:=ZagA;have Pi:=ZaRy;rw[aQH]at Pi;have ft:=Za2S;have nX:#[Rq,(bQ B2),Zc_]:=Jr B2 ZcE;have ed:=Zahy;rw[<-ek]at ed;have en:=ZK_;refine ZLs;refine⟨_,rfl,x,B2.dx,_,rfl,E.hall.ob,nX,_,rfl,_,rfl,x,B2,_,e.1,e.2,rfl,E.hall,ft,ZF6,hsm.2,?_⟩;unfold E9
   show if bo _ Zp3=Zbe then _ else nN c _ _ (bo _ Zp3)
   by_cases hj:ZRp
   ·rw[Zc9]
    rw[Zc9,ZuW,<-en]at ed;intro H2 mv;have g2:=Eo E.good (d:=fb e) (fun g hg=>by simp[fb,names]at hg;rcases hg with z | z<;>rw[z];exact ZF6;exact hsm.2)
    have mv2:D6 c.C HH x B2 (hZ ZRo Zp3) H2:=by unfold hZ;rw[Zc9];exact mv
    refine ao (E.moved mv2 g2) fun B' E2 _=>?_;rw[ZuW,<-en]at E2
    exact fC B' _ _ rfl E2 Zagw (by
     rw[en];intro d hd g hg;rcases ZII with z | z
     ·exact ZaLD
     ·rw[Zdd]at hg
      obtain⟨q1,q2⟩:=ZLI;simp[fb,names]at hg;rcases hg with y | y<;>rw[y]
      ·exact ZadT
      ·exact Zad_) ed
   ·rw[ZgB]
    rw[ZgB]at ed;rw[ed,ZgB]at k;exact NY k Zank
  ·intro σ HH a_;obtain⟨B2,v,w,rfl,E,di,nm,ek⟩:gi:=a_
   rw[Z9,hql,aZj]at ek;rw[aQd (show ZxZ from ek)]at k;rw[Z9,hql,aQH]at E;exact#[bK,k x B2 HH nx E]
def Cv (F:#[Ac,Zbbn,oy]) : #[cH,ZuC,Zabf]:=by
 refine #[aoh,CY]
 ·obtain⟨k,dx,p,rfl,_⟩:=h
  rfl
 ·obtain⟨k,dx,p,rfl,hk,q⟩:=h
  refine ⟨_,ae #[yY,Zaq] (
   ae (gW Zak (jY) rfl) (
   ae #[yY,ZdK] (
   af (gW Zak ZjE rfl)))),?_⟩
  try dsimp only[cxK,cxK']
  refine⟨_,rfl,_,rfl,k,ck,dx,[],rfl,hk,ZhD,ZQy,ZKW,?_⟩;refine⟨_,rfl,k,ck,dx,_,rfl,ac,ZhD,UO.k.nP,#[wo,1<ZbE],?_⟩;refine⟨_,rfl,k,ck,dx,_,rfl,ac,ZhD,UO.k.nD,(#[zP,TR,2]),?_⟩;refine⟨_,rfl,k,ck,dx,_,rfl,ac,ZhD,UO.k.nB,(#[zP,W9,3]),?_⟩;rw[mZ,mZ,mZ,LL];exact q
def Av (F:#[ar,Zlx,Zbbo,lQ]) : #[cH,ZfD,(Mo ck)]:=by
 refine #[aoh,AC]
 ·obtain⟨k,B,rfl,_⟩:=h
  rfl
 ·obtain⟨k,B,rfl,S,q⟩:=h
  refine ⟨_,ae #[nn,#[vh,Zc7]] (
   gU),?_⟩
  try dsimp only[cxK,cxK']
  exact⟨_,rfl,k,ck,Zco,_,_,rfl,ZcB,ZhD,UO.k.nP,LM,_,rfl,aQ q⟩
def sU (F:#[ar,Zanl,Zbbp,iN])[87] : #[aTf,Ud]:=by
 refine #[aoh,tG]
 ·obtain⟨k,B,rfl,_⟩:=h
  rfl
 ·obtain⟨k,B,rfl,S,q⟩:=h
  refine ⟨_,ae #[aQO,Zfn] (
   gU),?_⟩
  try dsimp only[cxK,cxK']
  exact#[a4k,aQ #[p0,q]]
def Cw (F:#[ar,Zanm,Zbbq,oz])(jb:#[LV,Zanl,2,Ud]) : #[bi,3,ZfD,(Ue ck)]:=by
 refine #[aoh,CZ]
 ·obtain⟨k,B,rfl,_⟩:=h
  rfl
 ·obtain⟨k,B,rfl,S,q⟩:=h
  refine #[u6,#[ak5,(c5 (tj jb Zak ZhD ZbI fW))]]
  try dsimp only[cxK,cxK']
  exact#[a2t,Zco,ZcB,B,S,#[DH,⟨l,_,rfl,Zaa4,q _ Zyv⟩]]
def DH (F:#[ar,"due",Zbbr,pE])[87] : #[aTf,Uc]:=by
 refine #[aoh,DS]
 ·obtain⟨k,B,rfl,_⟩:=h
  rfl
 ·obtain⟨k,B,rfl,S,q⟩:=h
  refine ⟨_,ae #[aQO,ZjE] (
   gU),?_⟩
  try dsimp only[cxK,cxK']
  exact#[a4k,aQ q]
def Cu (F:#[ar,Zcn,Zbbs,ox])(se:#[kV,c.C,Zcn,2,Zmj,(QH c)]) : #[hK,3,Zmj,(KR c ck)]:=by
 refine #[aoi,CW]
 ·obtain⟨k,D,B,st,g,rfl,_⟩:=h
  rfl
 ·obtain⟨k,D,B,st,g,rfl,I,ft,sg,q1,q2⟩:=h
  refine #[kY,af (bq (dJ se Zc7 ZcY ZbI cz Zmf))]
  try dsimp only[cxK,cxK']
  have nX:#[Rs,Zcn]:=ZsV;refine⟨_,rfl,k,ck,Zma,_,_,rfl,ZDU,ZhD,ZQy,FD,D.p,Zco,_,rfl,Zbbt,nX,_,rfl,D.p,B,st,g,rfl,Zann,ft,sg,?_⟩;unfold E9
  by_cases hj:ZaaW
  ·rw[Zc9]
   intro H1 a_;obtain⟨B1,S1,k1,f1,t1⟩:jp:=a_;exact q1 hj H1 #[a2O,ZPT]
  ·rw[ZgB,Lk hj]
   exact q2 hj
def vO (F:#[ar,Zc_,Zbbu,jx])(qg:#[LV,"due",2,Uc])[124] : #[hK,5,Zsl,(QM c ck)]:=by
 refine #[aoi,og]
 ·obtain⟨k,D,B,st,a,b,rfl,_⟩:=h
  rfl
 ·obtain⟨k,D,B,st,a,b,rfl,I,ft,sa,sb,q⟩:=h
  have two:Zpi:=ZaF
  refine ⟨_,(ae (bh 3 og.nd #[Hg,qg,Zak]) (
   ae (bq (dJ fA Zc7 ZcY ZbI cz (fG Zaq ZaA))) (
   af (aN (ay #[agX,VG,2] ZaO #[e9,Zadv,#[e9,ZaA,Zaq]] rfl) (gU) (af #[jd,(gZ (SI ZaO)),(gU)]))))),?_⟩
  try dsimp only[cxK,cxK']
  refine#[a2t,Zma,ZDU,D,I.kp,?_];have nX:#[Rs,Zc_]:=ZsV;refine⟨_,rfl,k,ck,Zma,_,_,rfl,ZDU,ZhD,ZQy,FD,D.p,Zco,_,rfl,Zbbt,nX,_,rfl,_,rfl,D.p,B,st,a,b,rfl,Zann,ft,sa,sb,?_⟩;unfold E9
  by_cases hj:#[xD,ZAT]
  ·rw[Zc9]at q ⊢
   intro H1 a_;obtain⟨B1,S1,k1,f1,t1⟩:jp:=a_;refine#[t8,_,rfl,two,#[aMQ,#[pA,fun t4 h4=>?_]]];have g2:=#[gn,Zzw,h2];have e2:#[a5,H1,t2,ZafB,t2,ZafB]:=ac;generalize #[cL,H1,t2,Zzw]=H2 at g2 e2 h3 h4 ⊢;have g3:=#[gn,ZaNS,h3];have e3:#[a5,H2,t3,ZaOY,t3,ZaOY]:=ac;generalize #[cL,H2,t3,ZaNS]=H3 at g3 e3 h4 ⊢;have g4:=#[gn,ZafU,h4];have e4:#[yQ,H3,t4,ZafU,t4,#[UL,[t2,t3].map]]:=ac;generalize #[cL,H3,t4,ZafU]=H4 at g4 e4 ⊢;refine⟨t4,[t2,t3],_,_,rfl,#[pB,e4],Zal Zgz,ZaB (IE (g4 _ _ (g3 _ _ e2)) ZazQ) #[h9,(IE (g4 _ _ e3) ZazQ)],Zayn⟩
   have nk:kb=Zay:=by
    cases kb with
    | false=>rfl
    | true=>exact absurd (hkb.mp rfl) (by unfold X6;simp)
   rw[nk];exact au #[nq,(q _ #[a2O,(#[cq,ZwW,g3] g4)])]
  ·rw[ZgB]at q ⊢
   exact q
def Au (F:#[ar,Zmb,Zbbv,lP])(qd:#[jJ,ZQx,5,#[qq,ZaE],(QG c)])(jQ:#[kV,ck,Zc_,5,Zsl,(QM c ck)]) : #[uS,6,ZaE,ZaEs]:=by
 refine #[aoi,lL]
 ·obtain⟨k,r,D,B,es,ps,L,rfl,_⟩:=h
  rfl
 ·obtain⟨k,r,D,B,es,ps,L,rfl,I,row,rB,ok,q⟩:=h
  have hu:=ZbD
  refine ⟨_,ae #[aOS,qd] (
   #[bbk,ZI',#[vy,2,lL.nd,3,lL.nd],#[aOT,jQ,(fG ZaA ZaO)]]),?_⟩
  try dsimp only[cxK,cxK']
  have ok0:=ok;obtain⟨dn,nm0,smL,hL,l60,sp⟩:=ok;refine⟨_,rfl,k,ck,Zma,_,_,rfl,ZDU,ZhD,ZQy,FD,_,rfl,D.p,r,B,es,ps,L,rfl,Zann,row,ok0,?_⟩
  by_cases hb:ZxZ
  ·rw[ZjR]at q ⊢
   intro x B1 H1 hx E1;have s1:=E1.same;have I1:=I.mono s1;have cq4:=ZQz s1;refine #[c8,cq4,ZX4];have hql:=ZZr
   have rk:r≠k:=fun z=>by rw[z,I1.kp.ob]at hq;cases hq
   refine⟨_,rfl,r,rfl,ZaBk,cZ (K:=K) (a:=r) (xs:=Zaad) #[uc,∃ (v w:Zgj),σ=[#[bv,k],#[bv,r],v,w]/\qh c ck H1 k D B ZRo oH HH/\ZaWr]
    (iB Zac Zac rfl (by simpa using I1.self) (Zbbl) (Zbbm) ZaV) (fun i σ HH _ zz=>by obtain⟨_,_,_,a_,_⟩:bM:=zz;obtain⟨_,_,_,k2,_⟩:jp:=a_;exact #[qM,k2 _ _ hq rB rk]) ?_ ?_⟩
   ·intro i y σ HH hi a_;obtain⟨v,w,rfl,mv,di,nm,ek⟩:Bt:=a_
    obtain⟨b,hb',rfl⟩:ao:=ZbL;refine #[N',hqp,hb',ZHR];refine jp (mv.kin I1) fun B2 I2 k2 f2 t2=>?_;have hbK:=k2 _ _ hB (I1.hall.tup hB) (fun z=>by rw[z,I1.kp.ob]at hB;cases hB);have hsm:=ZagA;have Pi:=ZaRy;rw[aQH]at Pi;have lno:=ZaP9;have ft:=Za2S;have ed:=Zahy;rw[<-ek,hb]at ed;have en:=ZK_
    have hj:ZRp:=by
     by_cases z:ZRp
     ·exact z
     ·rw[Zec]at ed;exact ed.symm
    rw[Zc9,ZuW,<-en]at ed;refine ZLs;refine⟨_,rfl,k,Zma,_,rfl,I2.kp.ob,Zqk,_,rfl,_,rfl,k,D,B2,_,e.1,e.2,rfl,I2,ft,ZF6,hsm.2,?_⟩;rw[aQd (show bo _ ZaVg=Zbe from hj)];intro H2 mv2
    have mv2:qh c ck HH k D B2 (bd (ZBm)) oH H2:=#[dz,en,uB,mv2]
    refine iB _ _ rfl (qh.step #[aR,I1.kp.ob] I1.kB k2 f2 t2 mv2) Zagw ?_ #[aM,hb,ed];rw[en];intro d hd g hg;rcases ZII with z | z
    ·exact ZaLD
    ·rw[Zdd]at hg
     obtain⟨q1,q2⟩:=ZLI;simp[fb,names]at hg;rcases hg with y | y<;>rw[y]
     ·exact ZadT
     ·exact Zad_
   ·intro σ HH a_;obtain⟨v,w,rfl,mv,di,nm,ek⟩:Bt:=a_
    rw[Z9,hql,aQH]at mv;exact q HH (qh.pre s1 mv)
  ·rw[Znz]at q ⊢
   exact q
def DK (F:#[ar,ZQA,ZQA,kQ])(ym:#[afx,ZQw,6,Mv]) : #[afH,7,IY]:=by
 refine #[aoh,vg]
 ·obtain⟨p,B,st,rfl,_⟩:=h
  rfl
 ·obtain⟨p,B,st,rfl,S,hg,wl,sm,q⟩:=h
  refine ⟨_,(ae #[a3',1,kQ,xx,Zam2,(cE #[ct,ym,Zmg]),Zam2,#[a2k,Zam2,[Ze1],[Ze1]],vg.nd] (
   ae #[nn,#[hF,#[agX,VF,1],Zaq,Zfn]] (
   #[cs,(ux K Zbw Zaq)]))),?_⟩
  try dsimp only[cxK,cxK']
  refine⟨_,rfl,p,B,st,rfl,S,hg,wl,sm,fun l as H1 hl s1 h1 p1 f1=>?_⟩;have PW:=xQ hg;have al:=aQx p1;obtain⟨rl,rsz⟩:=IG PW wl sm;refine#[le,l,h1,fun q2 x_=>CQ (K:=K) x_ ⟨as,h1,p1⟩ rl rsz fun H2 s2 h2=>?_];refine#[c3,Zcr,fun l3 hl3=>?_];have s3:=#[xW,hl3];refine⟨q2,l3,_,_,rfl,rfl,ZPt (Mh #[nA,h2]),ZPt (Mh (ws:=[]) ac),#[cX,Zh7]⟩;rw[#[et,(if ZkJ then !b else b)=b]];have sF:=ZLk s3
  by_cases z:gJ ZaI=[]
  ·rw[hb.mpr (ZzK)]
   refine aQ (show #[hR,ZamQ,_] from ?_);have:=q _ sF;unfold tp at this;rw[ZeM]at this;exact this
  ·have nb:b=Zay:=by
    cases b with
    | false=>rfl
    | true =>
     have:=hb.mp rfl;injection this with _ this
     cases e:gJ ZaI with
     | nil=>exact #[oR,e,z]
     | cons r rs=>rw[e]at this;cases this
   rw[nb];refine au ⟨rfl,_,rfl,_,q2,(gJ ZaI).map xX,rfl,rfl,Zbh #[nA,h2],EI rl rsz,?_⟩;have:=q _ sF;unfold tp at this;rw[Zec]at this;exact this
def As (F:#[Ac,Zbbw,lO])[464](MK:Yv P w K mg ZaS ck)(MF:UD P w K mg ZaS cb) : #[bi,3,ZfD,ZahW]:=by
 refine #[aoh,AB]
 ·obtain⟨e,dx,rfl,_⟩:=h
  rfl
 ·obtain⟨e,dx,rfl,he,q⟩:=h
  refine ⟨_,ae #[yY,ZaYs] (
   ae #[yY,(SH MK UO.k ZbI rfl ZHh)] (
   af (gW Zak (VI MF UO.f ZbI rfl) rfl))),?_⟩
  try dsimp only[cxK,cxK']
  intro x hx1 nx nhx nex;refine⟨x,hx1,rfl,ac,fun B H1 S1 kp1 fr1=>Zq1⟩
  have s0:aG H #[ia,hx1,ZtN,x,(Zfr c.C hx1 [])]:=#[ano,#[awl,nx,nhx]]
  have ex:e≠x:=aq he nx;have he1:H1 e=Zab ZaCm:=kp1 _ _ (s0 _ _ he) ex;have s1:ZIf:=#[ano,kp1 b o (s0 b o e') (aq e' nx)];have eB:e∉Zdg:=#[aH,S1.noins z he1];refine⟨_,rfl,e,ze,dx,[],rfl,he1,Zgh,Zanp,ZKW,?_⟩;have st:∀ {G:Hp}{fs gs:Zpa}{y:eG},bA c.C G x B y->G e=Zab #[pF,fs]->bA c.C (upd G e #[pF,gs]) x B y:=fun {G fs gs y} S ge=>S.kept (fp:=[e]) (#[anq,#[aL,ZafM,e']]) #[bC,#[WO,ex]] (#[sj,#[fP,eB,Zdd,hb]]) (fun b xs e' z=>by rw[Zdd,ge]at e';cases e');have S2:=st (gs:=cw ZbG Zjn []) S1 he1;have he2:#[a5,H1,e,ZSH,e,ZSH]:=ac
  have k2:#[Ha,H1,e,H1,e,ZSH]:=Zayp
  have t2:∀ [46],upd H1 e ZSH b=Zac->H1 b=Zac:=fun {b} z=>by
   cases e':H1 b with
   | none=>rfl
   | some o =>
    by_cases y:b=e
    ·rw[y,he2]at z;cases z
    ·rw[k2 b o e' y]at z;cases z
  generalize upd H1 e ZSH=H2 at S2 he2 k2 t2 ⊢;refine⟨_,rfl,e,ze,dx,_,_,rfl,he2,Zgh,Zanp,#[bm,aH,Zaz],fun kp kdx hkp cx5 nkd=>⟨kp,kdx,x,rfl,ac,rfl,?_⟩⟩;rw[mZ];have tr2:∀ [429],#[bt,H2]->b≠kp/\b≠kdx:=fun {b o} e'=>⟨(fun z=>(by rw[z,hkp]at e';cases e')),(fun z=>(by rw[z,cx5]at e';cases e'))⟩
  have s3:aG H2 Za0F:=#[ano,#[zM,ai (tr2 e').1,(tr2 e').2,e']]
  have K3:jP ck Za0F kp ZaRb oH:=⟨ac,fun ps e'=>(by cases e'),fun ps e'=>(by cases e')⟩
  have kB:kp∉Zdg:=fun z=>by obtain⟨o,q'⟩:=S2.tracked z;rw[hkp]at q';cases q'
  have ke:e≠kp:=(tr2 he2).1;generalize upd #[gW,kdx,ZauU] kp Zawo=H3 at s3 K3 ⊢;have he3:=#[gy,he2];refine⟨_,rfl,e,ze,dx,_,rfl,he3,Zgh,ZDX,#[wo,1<ZbE],?_⟩;have S4:=st (gs:=cw ZhB #[aj,kp] ZSG) (S2.mono s3) he3;have he4:#[a5,H3,e,ZSI,e,ZSI]:=ac
  have k4:#[Ha,H3,e,H3,e,ZSI]:=Zayp
  generalize upd H3 e ZSI=H4 at S4 he4 k4 ⊢;intro b bdx nb nbd neb;refine⟨b,bdx,rfl,ac,fun A5 H5 kp5 B5 y1 y2 y3=>Zq1⟩;have s5:aG H4 H5:=fun y o e'=>kp5 y o (ZaT7) (aq e' nb);have he5:=s5 _ _ he4
  have sM:aG H4 #[kO,H4,bdx,(ZiD b),b,(Zfr cb bdx [])]:=fun y o e'=>ZaT7
  refine⟨_,rfl,e,ze,dx,_,rfl,he5,Zgh,Zanr,(#[zP,TF,2]),?_⟩;rw[He];have S6:=st (gs:=Jq #[aj,x] #[aj,kp] ZqO) (S4.mono s5) he5
  have k6:#[a0V,H3]:=#[ans,#[ch,n,s5 _ _ (k4 y o e' n)]]
  have mE:Le H5 [e]->ZiT:=fun m=>(m e aQi).ins he5
  have kE:#[a0V,H5]:=#[ans,Zau6]
  have be:Zk8:=fun z=>by rw[z,he4]at nb;cases nb
  have nF:∀ [41][372],H5 a=Zab ZY9->a≠e:=fun {a kv} q z=>by rw[z,he5]at q;cases q
  have B6:iQ cb (upd H5 e ZawH) b A5 []:=⟨kE _ _ B5.ob be,kE _ _ B5.f1 (nF B5.f1),kE _ _ B5.f2 (nF B5.f2),kE _ _ B5.f3 (nF B5.f3),(fun e' he'=>nomatch he'),(fun e' he'=>nomatch he'),B5.nd,B5.ln,B5.d12,B5.d13,B5.d23⟩
  have fr4:∀ [41],H4 a=Zac->Znl/\a∉Zdg:=fun {a} q=>by
   have q3:H3 a=Zac:=by
    cases e':H3 a with
    | none=>rfl
    | some o =>
     by_cases y:a=e
     ·rw[y,he4]at q;cases q
     ·rw[k4 a o e' y]at q;cases q
   exact⟨Zsg (t2 (ZDG q3)),fun z=>by obtain⟨o,r⟩:=S4.tracked z;rw[q]at r;cases r⟩
  refine q ⟨dx,x,kp,b⟩ ZaRb B A5 _ ⟨ac,⟨⟨k6 _ _ K3.ob (aQA ke),fun ps e'=>(by cases e'),fun ps e'=>(by cases e')⟩,S6,kB,fun ps e'=>(by cases e')⟩,rfl⟩ B6 (#[ans,k6 _ _ #[nA,(k2 _ _ (s1 _ _ e') n)] n]) (#[ka,ZDY (fr1 y hy)]) (Zqs);simp only[aQm,aQ1,aXz]at hy;rcases hy with rfl | rfl | rfl
  ·exact #[ae8,y1]
  ·exact #[ae8,y2]
  ·exact #[ae8,y3]
def Cs (F:#[ar,"say",Zbbx,oq])(s_:#[u3,ze,Zant,40,Za7,Za4f]) : #[bi,41,ZZj,ZaI7]:=by
 refine #[aoh,CU]
 ·rcases h with ⟨e,D0,D,B,st,z,q,rfl,_⟩ | ⟨e,A,D,B,es,Y,bs,L,y,z,rfl,_⟩ | ⟨e,A,Y,bs,y,r,w,z,rfl,_⟩<;>rfl
 ·refine iw h.ob fun e0 z0 dx a_=>?_;obtain⟨x1,x2,x3,hv,ob⟩:ko:=a_
  subst hv;refine #[kY,(af (SU rfl rfl (fun pins E=>#[cs,(dJ s_ Zak Zgh ZbI Xp Zmf)]) #[xA,U.mA,#[xA,U.mM,#[xA,U.mS,#[xA,U.mT,#[xA,UO.mN,#[xA,UO.m,#[xA,UO.mP,#[xA,UO.mB,#[xA,UO.mT,#[xA,UO.mU,#[xA,UO.mL,#[xA,ZwY,#[xA,U.mN,#[xA,UO.mQ,VP]]]]]]]]]]]]]]))]
  try dsimp only[cxK,cxK']
  have hB:=UO.x.xB;have hT:=UO.x.xT;have hU:=UO.x.xU;have hL:=UO.x.xL;have hF:=UO.x.xF;have hN:=UO.xn;simp only[List.forall_mem_cons,List.getD_cons_zero,List.getD_cons_succ]at hB hT hU hL hF hN;refine⟨_,rfl,e0,dx,_,rfl,ob,ZuN,_,rfl,VY h ?_ ?_ ?_ ?_ ?_ ?_ ?_ ?_ ?_⟩
  ·exact #[nx,VM.aa,ZgC]
  ·exact #[nx,VM.sa,#[hL,VM.sm,VM.ss,ZgC]]
  ·exact #[nx,VM.ta,#[hL,VM.tm,VM.ts,au #[bJ,VM.tt,ZgC]]]
  ·exact #[nx,hB.1,#[aqx,hB,hB,hB,hB,#[hL,#[pk,hB.2],#[xU,hB],au #[bJ,UO.bb,ZgC]]]]
  ·exact #[nx,hT.1,#[aqy,hT,hT,hT,hT,hT,hT,hT,UO.tt,ZgC]]
  ·exact #[nx,hU.1,#[aqy,hU,hU,hU,hU,hU,hU,hU,#[JC,hU],au #[bJ,UO.uu,ZgC]]]
  ·exact #[nx,hL.1,#[aqy,hL,hL,hL,hL,hL,hL,hL,#[JC,hL],#[hL,#[xU,hL.2.2.2],UO.ll,ZgC]]]
  ·exact #[nx,hF.1,#[aqy,hF,hF,hF,hF,hF,hF,hF,#[JC,hF],#[hL,#[xU,hF.2.2.2],#[JC,hF.2.2],au #[bJ,UO.ff,ZgC]]]]
  ·exact fun dx H' k σ' _=>#[bJ,VM.na,#[hL,VM.nm,VM.ns,#[hL,VM.nt,hN.1,#[aqy,hN,hN,hN,hN,hN,hN,hN,VM.nn,ZgC]]]]
def xC (F:#[ar,Zant,Zbby,j4])(vm:#[ba,ZQq,2,[Za7],XD])(l_:#[u3,ze,Zanu,8,ZwR,ZaYg])(m_:#[u3,ze,Zanv,39,ZgP,Za3Z])(p_:#[u3,ze,Zanw,39,ZDy,Za4d]) : #[uS,40,Za7,Za4f]:=by
 refine #[aoi,fJ]
 ·rcases h with ⟨e,D0,D,B,st,z,q,rfl,_⟩ | ⟨e,A,D,B,es,Y,bs,L,y,z,rfl,_⟩ | ⟨e,A,Y,bs,y,r,w,z,rfl,_⟩<;>rfl
 ·have hn:∃ (e:Addr)(z:Str),Zacy:=by
   rcases h with ⟨e,D0,D,B,st,z,q,rfl,_⟩ | ⟨e,A,D,B,es,Y,bs,L,y,z,rfl,_⟩ | ⟨e,A,Y,bs,y,r,w,z,rfl,_⟩<;>exact #[dk,_]
  obtain⟨e,z0,rfl⟩:RK:=hn;have sl:Za9b:=aQU
  refine ⟨_,(ae #[ig,(L9 Zaq Zbw),2,ZQB,3,ZQB,(aW (gv 4 ZQB) dX)] (
   ae #[aRC,#[hG,ZaO],m_] (
   ae #[aRC,(ay y9 Zbw ZcT rfl),p_] (
   ae (bh 5 ZQB #[ct,vm,Zmf]) (
   ae #[jd,#[h3,IB,#[vh,Zfh],(CN #[hF,l9,(SL UO.gd Zak0 UO.ms #[Eq,Zfh] ZLT),#[ak5,Zuz]])],(gU)] (
   #[cs,#[avh,l_,Zuz]])))))),?_⟩
  try dsimp only[cxK,cxK']
  have bb:#[lL,ZaC #[ji,Zdm]=ZaC (Za9 " ")]:=Zao
  rcases h with ⟨e',D0,D,B,st,z,q,hv,I,L,ok⟩ | ⟨e',A,D,B,es,Y,bs,L,y,z,hv,yl,hp,ev,bk,tI,ln,ok⟩ | ⟨e',A,Y,bs,y,r,w,z,hv,yl,hp,ob,bk,tI,ln,rl,hp2,hs,wa,wl,bl,ok⟩
  ·cases hv
   have zl:=L.ln;refine ZatU;refine eJ (Kr L.wd) fun p1 p2 p3=>?_;rw[p1,p2];generalize #[k2,(cu 32 Zanx).2.2]=rs;generalize (if ZDZ gV=[] then Str.empty else ⟨#[32]⟩:Str)=bl;have s1:=#[gn,ZTd,hl];have h1:#[dR,l,#[cK,ZTd],l,#[cK,ZTd]]:=ac;generalize #[cL,H,l,ZTd]=H1 at s1 h1 ⊢;refine ZTX;refine Zmp;rw[ZIK];refine Zpx;rw[ZIK];refine #[pw,⟨_,rfl,z0,Zi_,ZaJc,rfl,L.as,L.ln,L.wd,fun al t H2 ht s2 h2=>?_,fun bad=>?_⟩]
   ·have s02:=Zhf
    have e1:(ZDZ gV).map Zhz=ZDZ Zau:=by
     rw[aQP];exact aXv #[gc,VD (L.gs g hg)]
    rw[e1]at h2;have at0:GM ZaHv 0=#[cZ,ZaC,Zi_]:=ZbU;refine#[nq,⟨_,rfl,t,_,_,_,rfl,rfl,Zbg h2,at0,_,rfl,_,rfl,t,_,rfl,#[pB,h2],?_⟩];rw[MR];refine#[fR,rfl,rfl,?_];rw[Zts];exact au ⟨_,rfl,e,ZD0,_,rfl,s02 _ _ ZwN,ZuN,_,rfl,e,t,D0,D,B,st,q,rfl,I.mono s02,h2,ok.mono s02⟩
   ·obtain⟨w,hw,n⟩:ao:=bad
    obtain⟨g,hg,rfl⟩:ao:=#[rX,hw];refine ao (xA (L.gs g hg)) fun e N _=>?_;exact ZoQ N (n e)
  ·cases hv
   have e1:cu 32 Zanx=(ZIW,Zdm,bf z):=hp;refine ZatU;rw[e1];have s1:=#[gn,Zage,hl]
   have h1:#[dR,l,#[cK,Zage],l,#[cK,[Zag Zmb,#[jj,Zdm],ZeG]]]:=by
    rw[ac,#[bn,#[k2,(bf Zmb)]=Zmb,jc _],ZaXB]
   generalize #[cL,H,l,Zage]=H0 at s1 h1 ⊢;refine ZTX;refine Zmp;rw[Zts];refine aQ Zmp;rw[bb];exact aQ ⟨_,rfl,e,ZcW,_,rfl,s1 _ _ ev.ob,ZuN,_,rfl,e,A,D,B,es,Y,bs,L,z,rfl,ev.mono s1,ZaBO,ZJb,ln,ZaBN⟩
  ·cases hv
   have e1:cu 32 Zanx=(ZAz,Zdm,bf r):=hp;refine ZatU;rw[e1];have s1:=#[gn,Zagd,hl]
   have h1:#[dR,l,#[cK,Zagd],l,#[cK,[Zag ZbH,#[jj,Zdm],ZYx]]]:=by
    rw[ac,#[bn,#[k2,(bf ZbH)]=ZbH,jc _],#[bn,#[k2,ZT9]=r,jc r]]
   generalize #[cL,H,l,Zagd]=H0 at s1 h1 ⊢;refine ZTX;refine Zmp;rw[#[bn,#[EA,ZbH,Zmb],#[pc,dS]]];refine Zpx;rw[Zts];refine ZaoD;rw[p7,StrLaws.found_one,aQe (show 32∈Zbbz from hs)];exact aQ ⟨_,rfl,e,ZcW,_,rfl,Zab6,ZuN,_,rfl,e,A,0,Y,bs,r,w,z,rfl,Zab6,ZaBO,ZJb,ln,rl,hp2,wa,wl,bl,ZaBN⟩
def rC (F:#[ar,Zanv,ZbbA,hW])(n_:#[kV,cb,ZQh,14,Zmk,ZaQ4])[159](nJ:#[u3,ck,Zmb,6,ZaE,ZaEs]) : #[uS,39,ZgP,Za3Z]:=by
 refine #[aoi,kg]
 ·obtain⟨e,A,D,B,es,Y,bs,L,z,rfl,_⟩:=h
  rfl
 ·obtain⟨e,A,D,B,es,Y,bs,L,z,rfl,ev,bk,tI,ln,ok⟩:=h
  have zl:=ln.ln
  refine ⟨_,(ae (bh 2 kg.nd (dJ n_ Zc7 ZfE ZbI cz (c5 (lK iR ZbI rfl cz Zmf)))) (
   ae (bq (dJ nJ Zc7 ZhD ZbI cz Zmh)) (
   #[cs,(SK ZauO ZcE)]))),?_⟩
  try dsimp only[cxK,cxK']
  have nS:#[Rr,ZQh]:=Zpd;refine⟨_,rfl,e,ze,ZcW,_,_,rfl,ev.ob,Zgh,Zanr,Lv,ZkA,Y.dx,_,rfl,bk.ob,nS,_,rfl,z,rfl,ln.as,Zae,tI,#[bbB,?_],#[aZt,g1]⟩;have hf:=ZaJb;have ev1:=ev.gk g1;have bk1:=ZaF4;refine⟨ZkA,p,Y,bs,f,rfl,bk1,hF.up,#[anc,ok.un f hf kn H2 ZVs ZU4],fun kn lg H2 s2=>ok.tl f hf kn lg H2 ZVs ZU4,fun kn lg l H2 hl s2 row=>?_⟩;obtain⟨rok,rl⟩:=ok.ro f hf kn lg;have ev2:=ev1.mono s2
  have lB:ZJv:=fun z=>by obtain⟨o,q⟩:=ev1.ki.hall.tracked z;rw[hl]at q;cases q
  have g2:=ZDJ (dH s2);have t2:=t1.same s2;refine⟨_,rfl,e,ze,ZcW,_,_,rfl,ev2.ob,Zgh,ZDX,uh,Zsf,Zma,_,rfl,ev2.ki.kp.ob,Zqk,_,rfl,Zsf,l,D,B,es,_,L,rfl,ev2.ki,row,lB,rok,?_⟩
  by_cases hb:ZauJ
  ·rw[ZjR]
   intro H3 mv;have mE:=LX ev2 mv;refine #[c8,row,fun as hr hp=>?_];have al:=ZAj;refine aK (id mE) fun _ _ k3 _=>?_;refine⟨_,rfl,l,_,rfl,#[h4,(k3 _ _ hr lB)],_,rfl,?_,?_⟩
   ·rw[Z9,al];exact ZuA
   ·have:=ok.ok f hf kn lg hb H2 H3 g2 t2 mE
    rw[Z9,al];exact this
  ·rw[Znz]
   exact ok.no f hf kn lg hb H2 g2 t2
def sN (F:#[ar,Zanw,ZbbC,iJ])(o_:#[kV,cb,ZQe,14,ZLp,Za1D])[159] : #[uS,39,ZDy,Za4d]:=by
 refine #[aoi,fK]
 ·obtain⟨e,A,dx,Y,bs,r,w,z,rfl,_⟩:=h
  rfl
 ·obtain⟨e,A,dx,Y,bs,r,w,z,rfl,ob,bk,tI,ln,rl,hp,wa,wl,bl,ok⟩:=h
  have zl:=ln.ln
  refine ⟨_,ae #[ig,(L9 Zaq Zbw),2,fK.nd,3,fK.nd,(aW (gv 4 fK.nd) dX)] (
   ae (bq (dJ o_ Zc7 ZfE ZbI cz (fG ZaA (lK iR ZbI rfl cz ZyO)))) (
   Zxz)),?_⟩
  try dsimp only[cxK,cxK']
  have nD:#[Rr,ZQe]:=Zpd;refine#[atT,r];have e1:cu 32 Zbbz=(Zic,Zdm,bf z):=hp;rw[e1];have s1:=#[gn,ZafQ,hl]
  have h1:#[dR,l,#[cK,ZafQ],l,#[cK,[Zag w,#[jj,Zdm],ZeG]]]:=by
   rw[ac,#[bn,#[k2,ZUS]=w,jc w],ZaXB]
  generalize #[cL,H,l,ZafQ]=H0 at s1 h1 ⊢;refine ZTX;refine⟨_,rfl,e,ze,ZcW,_,_,rfl,Zab6,Zgh,Zanr,Lv,ZkA,Y.dx,_,rfl,s1 _ _ bk.ob,nD,_,rfl,_,rfl,z,rfl,ln.as,Zae,ZJb,#[bbB,?_],#[aZt,(ZaCn g1)]⟩;have hf:=ZaJb;have g1:=ZaCn g1;exact⟨ZkA,p,Y,bs,w,f,rfl,ZaF4,hF.up,wa,wl,bl,fun hd x H2 a1 a2 a3 a4 a5 a6 a7=>ok.ok f hf hd H1 p g1 t1 x H2 a1 a2 a3 a4 a5 a6 a7,#[ae5,ok.ba],#[ae5,ok.ta],#[ae5,ok.un]⟩
def qB (F:#[ar,Zanu,ZbbD,gM])[87](pj:#[LV,Zanm,3,Ue])(rN:#[afx,ZQA,7,IY])(AZ:#[jJ,ZQp,6,#[qq,Zam0],(Ub c ck)]) : #[uS,8,ZwR,ZaYg]:=by
 refine #[aoi,qH]
 ·obtain⟨e,t,D0,D,B,st,q,rfl,_⟩:=h
  rfl
 ·obtain⟨e,t,D0,D,B,st,q,rfl,I,ht,k⟩:=h
  refine ⟨_,(ae Zadp (
   ae Zadp (
   ae #[Ev,(VN #[Hg,dD,Zc7] #[Hg,pj,Zc7] (Zao))] (
   ae Zadp (
   ae #[Ev,#[ct,rN,ZHh]] (
   ae #[aOS,AZ] (
   Zxz))))))),?_⟩
  try dsimp only[cxK,cxK']
  have T0:aX K H t ZaHu:=ZqV;have at0:GM ZaHu 0=#[cZ,Zag,Zi_]:=ZbU;have ki:=I.ev.ki;refine#[jg,t,_,T0,at0];rw[ZIK];refine ZaoT;rw[ZIK];refine ZaoT
  cases q with
  | state =>
   rw[#[HG,#[lL,#[dE,oG.state.w0,Zlx]]]];refine aQ ⟨_,rfl,e,ze,ZD0,_,_,rfl,ZwN,Zgh,ZDX,uh,Zw1,Zma,_,rfl,ZbbE,Zqk,Zw1,D,rfl,ki.kp,_,rfl,Zao,?_⟩;refine⟨_,rfl,e,ze,ZD0,_,_,rfl,ZwN,Zgh,ZDX,uh,Zw1,Zma,_,rfl,ZbbE,Zqk,Zw1,D,rfl,ki.kp,#[any,#[uJ,ZcE]]⟩;have:=ZLQ;rw[#[st,(#[er,ZamR])=#[eD,ZamQ]++Za9 " "++Za9 (ZlU ZdF)]]at this;exact this
  | rings =>
   rw[ZbbG];refine ZaoT;rw[ZbbG];refine ZaoT;rw[#[HG,#[lL,#[dE,ZbbF,Zl5]]]];exact aQ ⟨_,rfl,e,ze,ZD0,_,_,rfl,ZwN,Zgh,Zanp,RM,D0.x,B,st,rfl,I.ev.hall,I.hg,I.wl,I.sm,k⟩
  | come g =>
   rw[Zari];refine ZaoT;rw[Zari];refine ZaoT;rw[Zari];obtain⟨k1,k2,k3⟩:=k;exact au ⟨_,rfl,e,ze,ZD0,_,_,rfl,ZwN,Zgh,ZDX,uh,_,rfl,Zw1,t,g,rfl,ht,Zw1,D,B,st,g,rfl,ki,I.ft,k1,fun hj H1 mv=>k2 hj H1 (LX I.ev mv),k3⟩
def Cz (F:#[ar,ZMM,ZMM,oB]) : #[cH,ZaeS,(KO K)]:=by
 refine #[aoh,C0]
 ·obtain⟨a,ns,k,rfl,_⟩:=h
  rfl
 ·obtain⟨a,ns,i,rfl,hS,hi,k⟩:=h
  refine #[kY,(ae (aN #[hF,CF,Zaq,#[ak5,Zafr]] #[mc,(aM kM Zak Zaq ZEo)] ax) #[mc,aj])];refine#[apw,a,Zal hS];unfold nO at k;rw[Z9]
  by_cases hc:i<(Zfp:Int)
  ·rw[ZH3]at k
   rw[ZZ6];refine aQ ⟨_,rfl,_,rfl,a,_,_,_,rfl,rfl,hS,?_,k⟩;have e:i=#[a4,ZCt]:=(Zali hi).symm
   have hl:ZCt<Zfp:=Zae
   rw[e];refine aR ?_;rw[aQI,aX5,aZC,aQw hl];rfl
  ·rw[ZHW]at k
   rw[ZaaX];exact au k
def Io (F:#[ar,ZMG,ZMG,tR]) : #[cH,[ZbP],GA]:=by
 refine #[aoh,IS]
 ·obtain⟨c,rfl,_⟩:=h
  rfl
 ·obtain⟨c,rfl,k⟩:=h
  refine #[kY,ae (aN #[hF,CF,Zak,aj] #[mc,(Xq Wi Zak)] ax) #[mc,Zak]];refine ZaoC;unfold fk at k
  by_cases hc:c<0
  ·rw[ZH3]at k
   rw[ZZ6];exact aQ #[eH,k]
  ·rw[ZHW]at k
   rw[ZaaX];exact #[mP,k]
def FX (F:#[ar,ZMH,ZMH,qS])[96] : #[bi,2,[ZbP,Zn7,ZMI],Gr]:=by
 refine #[aoh,dF]
 ·obtain⟨c,m,b,rfl,_⟩:=h
  rfl
 ·obtain⟨c,m,b,rfl,⟨m0,m1⟩,⟨b0,b1⟩,k⟩:=h
  refine ⟨_,ae #[NS,3,(bp gC hr rfl Zafr)]
   (ae #[NS,4,Zfn]
   (ae (aN #[hF,Xn,ZaO,ZaOK]
    (ae #[NS,3,(aL vU ZaO ZaOK)]
    (ae #[NS,5,(aL da ZaO Zady)]
    (ae #[NS,3,(aL dL ZaO Zady)]
    (ae (eO aQ2 rfl #[aVj,#[nt,Zfh]] ZaUa
     (ae #[Mv,ZcT,#[nt,(aL da ZaO ZaA)]]
     (af (ju (i:=3) dF.nd rfl ZNR (aL dL ZaO ZaA)))))
    ZY6))))
    ax)
   (ae #[NS,7,(aL d8 (aL da ZaO aj) aj)]
   (ae (eO aQ2 rfl #[aVj,#[nt,(aL da ZaO Zady)]] ZaUa
     (ae #[NS,7,ZaKK]
     #[aoO,ZcT,#[nt,(aL da (aL dL ZaKK aj) ZaA)]]))
   ZY6)))),?_⟩
  refine#[cR,_,ZaJw,ZDI]
  have big:ZVi=1000000000000000000:=ZaF
  have room:∀ ds:Zbq,#[aAV,ZbE]->#[ok,#[bd,ZoC,Zau]]:=fun ds h=>Zzn
  have app:#[ayq,upd ZZ0 l #[hV,ZoC Zau,Zau z]=upd H l #[hO,(ds++[z])]]:=fun ds z=>#[GL,mZ]
  have inb:#[ayq,(Zarn)->∀ d∈ds++[z%b],Zarm]:=fun ds z h d hd=>by
   rcases ZII with hd | hd
   ·exact h d hd
   ·rw[Zdc hd];exact⟨ZWC,aQ9 _ b0⟩
  refine#[ahQ,_,rfl,ZaUB,_];refine YM (ZsF) #[eC,?_]
  ·refine#[aie,ZaUB]
   refine ZaLI;refine#[aw0,⟨ZavD,#[hy,m+1<ZNc]⟩];have cb:=#[aWv,aQ9,0<m+1];have cn:=#[aWv,aXg,m+1≠0]
   refine⟨_,rfl,_,rfl,Zae,Zae,pM (n:=(ZaNG%ZnB).toNat) #[a3C,ZaM_,#[pO,ZaNG%ZnB],Zac]
    (dE _ none [] rfl rfl rfl (fun _ z=>nomatch z)) ?_ ?_⟩
   ·intro i σ H2 hi a_;obtain⟨z,v,ds,rfl,rfl,hlen,hds⟩:eX:=a_
    refine⟨_,rfl,ZaB1,_,rfl,_,rfl,_,_,rfl,rfl,b0,l,_,_,rfl,rfl,ac,ZaP_,?_⟩;refine#[ahl,⟨b0,b1⟩];exact #[a2i,z%b,(inb ds z hds)]
   ·intro σ H2 a_;obtain⟨z,v,ds,rfl,rfl,hlen,hds⟩:eX:=a_
    exact ZaXx
  ·refine#[aie,#[wp,2147483629]]
   have cb:=aQ9 (fk c) #[tA,0<m+1];have cn:=aXg (fk c) #[tA,m+1≠0];refine ZaLI
   refine cY _ rfl Zaf Zaf (pM (n:=(ZgX%ZnB).toNat) #[a3C,Zab ZaRe,Zac,ZaM_]
    (dE _ none [] rfl rfl rfl (fun _ z=>nomatch z)) ?_ ?_)
   ·intro i σ H2 hi a_;obtain⟨z,v,ds,rfl,rfl,hlen,hds⟩:eX:=a_
    refine#[ME,ZZV,ZaBQ];refine⟨_,rfl,ZaB1,_,rfl,_,_,rfl,rfl,ZZV,_,_,rfl,rfl,#[wp,998244353],_,_,rfl,rfl,ZRk,_,rfl,_,_,rfl,rfl,b0,l,_,_,rfl,rfl,ac,ZaP_,?_⟩;exact #[a2i,_,(inb ds _ hds)]
   ·intro σ H2 a_;obtain⟨z,v,ds,rfl,rfl,hlen,hds⟩:eX:=a_
    exact ZaXx
def FY (F:#[ar,ZMF,ZMF,qT])[96] : #[bi,2,ZJE,AY]:=by
 refine #[aoh,mG]
 ·obtain⟨k,c,rfl,_⟩:=h
  rfl
 ·obtain⟨i,c,rfl,⟨i0,i1⟩,k⟩:=h
  refine ⟨_,ae (ju (i:=2) mG.nd rfl ZNR (bp gC hr rfl ZaD6))
   (ae (ju (i:=3) mG.nd rfl ZNR (aL d8 aj (aL da (aL sW ZaA aj) aj)))
   (ae (ju (i:=4) mG.nd rfl ZNR (aL da (aL d8 (aL sW Zak ZaO) (aL PV ZaA aj)) aj))
   (ae (aN #[hF,bF,(aL da ZaA aj),aj] #[mc,(aL d8 ZcT aj)] ax)
   ZY6))),?_⟩
  refine#[eH,?_];refine#[BJ,ZZV,ZCG];refine⟨_,rfl,_,rfl,_,_,rfl,rfl,#[mG,#[hy,(Zabq:Int)<i],#[hy,i<(ZAr:Int)]],_,rfl,_,_,rfl,rfl,ZRk,_,_,rfl,rfl,_,_,rfl,rfl,ZaBQ,?_⟩;refine#[Uo,ZaaB,?_];unfold lC at k;dsimp only at k
  by_cases hc:ZgX%5=4
  ·rw[ZH3]at k
   rw[aQe (show ZaLl by rw[hc])];exact aQ ⟨_,rfl,_,_,rfl,rfl,k⟩
  ·rw[ZHW]at k
   rw[aQg (#[bn,¬ ZaLl,#[aH,hc (Zbap)]])];exact #[mP,k]
def Ko (F:#[ar,ZMQ,ZMQ,wk]) : #[cH,ZaeT,QN]:=by
 refine #[aoh,KM]
 ·obtain⟨a,b,rfl,_⟩:=h
  rfl
 ·obtain⟨a,b,rfl,k⟩:=h
  refine ⟨_,ae #[md,#[hF,CF,Zaq,Zak],#[e9,Zaq,Zak]] (
   ZaC1),?_⟩
  try dsimp only[cxK,cxK']
  refine ZaLE;unfold lH at k
  by_cases hc:b<a
  ·rw[ZH3]at k
   rw[ZZ6];exact aQ #[cR,_,Zacr,k]
  ·rw[ZHW]at k
   rw[ZaaX];exact au #[cR,_,Zacr,k]
def Kn (F:#[ar,ZML,ZML,wj])[163] : #[aYt,QJ]:=by
 refine #[aoh,C2]
 ·obtain⟨w,m,t,wl,ml,d,rfl,_⟩:=h
  rfl
 ·obtain⟨w,m,t,wl,ml,d,rfl,hw,hm,ht0,k⟩:=h
  have hu:=ZbD
  have ht:ZaPj:=#[eV,wO,ht0]
  have gw:∀ (H2:Hp)(x:Int),ZYV->fD H2 w ZaAS ((ZaZ wl x).map Zau):=fun H2 x s2=>#[Ft,m4,ZZg,#[mN,hw]]
  have two:Zpi:=ZaF
  refine ⟨_,(ae #[lq,(sZ (iF C4 ZaA (gI (aj)) qE)),3,C2.nd,(af #[md,#[h3,kA,#[yc,ZEr],(jm (gZ (pT hu ZaO Zak)))],ZaCP])] (
   ae #[aXh,ZEr,Zak] (
   ae #[md,#[h3,kA,#[hG,ZEr],(jm #[hF,l9,Zaei,ZEr])],ZWd] (
   ae #[md,#[h3,kA,#[hG,ZEr],(jm #[hF,bF,ZEr,ZEr])],ZWd] (
   ae #[aXh,ZaXa,Zaq] (
   #[jY,Zbw,ZjE])))))),?_⟩
  try dsimp only[cxK,cxK']
  refine#[ti,t,_,ZqV,RF d,Zid];have s1:aG H #[bA,q,Zazd]:=ah hq
  have hq1:#[dR,q,Zazd,q,#[xx,ZaNn]]:=#[bm,ac,OG]
  generalize #[cL,H,q,Zawr]=H1 at s1 hq1
  refine ⟨q,rfl,#[aR,Zbg hq1],(oS (K:=K) (a:=q) (xs:=ZaRr) #[yh,#[hc,[ZGb,ZYU,ZGS,v],H2=H1,(ZKq->#[kb,Zar3 i,#[jA,(ZaZ wl y)]])]]
   #[I3,rfl,fun _ y hy=>by simp at hy] (#[anz,#[pL,e],#[F7,Zbg hq1]]) ?_ ?_)⟩
  ·intro i y σ H2 hi a_;obtain⟨v,rfl,rfl,hp⟩:aK:=a_
   obtain⟨x,hx,rfl⟩:ao:=ZbL;refine#[jg,t,_,ZaCo,ZbU]
   have nxt:(ZKq->#[jA,(ZaZ wl x)])->(ZKq->#[kb,Zar3 (i+1),#[jA,(ZaZ wl y)]]):=fun h hc y hy=>by
    rw[ER hx]at hy;rcases ZIJ with z | z
    ·exact hp hc y z
    ·rw[Zdd];exact h hc
   by_cases hc:Zkk d=Zcn
   ·rw[#[uF,hc]]
    exact #[pw,#[aNX,#[aH,#[oR,hc,z]]]]
   ·rw[#[Ez,hc]]
    refine aQ #[Mp,w,gw _ x s1]
    cases e:ZaZ wl x with
    | none =>
     refine aQ #[c3,two,fun r hr2=>?_];refine k r _ #[yn,hr2] #[tu,hr2] ?_;rw[ac,Pc hc (hp hc) hx e];rfl
    | some z=>exact au #[aNX,#[bF,ZVC]]
  ·intro σ H2 a_;obtain⟨v,rfl,rfl,hp⟩:aK:=a_
   have fin:∀ (o:Fc)(H3:Hp)(r:Addr),d6 wl (vH ml) d=o->aG H H3->H3 r=Zac->#[b9,r,(upd H3 r #[kD,PZ,o])]:=fun o H3 r e s3 h3=>k r _ (ZDG h3) (ZD1 (ah h3)) #[eF,ac,e];rw[Z9,aQH]at hp;have T0:aX K H2 t ZGd:=ZaCo
   cases d with
   | come g =>
    refine ZmX;rw[ZaU'];refine aQ ⟨_,rfl,t,_,_,_,rfl,rfl,T0,rfl,_,rfl,w,_,rfl,gw _ g s1,_,rfl,?_⟩
    cases e:ZaCL with
    | some z=>exact aQ #[y6,ZlX,ZbbH,s1]
    | none =>
     refine ZaoU;rw[show #[lN,(Zkk (Zi' g)),Zhu] from cg];refine Zu0;rw[ZaMT];refine Zu0;rw[ZaMT];exact #[aOG,ZbbH]
   | go g =>
    have hg:=hp (#[avG,Zhu]) g ZjD;obtain⟨z,e⟩:=Zop hg;refine ZmX;rw[ZaMU];refine Zu0;rw[ZaVa];refine aQ ⟨_,rfl,_,rfl,t,_,_,_,rfl,rfl,T0,rfl,w,_,rfl,(#[bba,gw H2 g s1,e,ZbR]),_,rfl,t,_,_,_,rfl,rfl,T0,rfl,rfl,_,rfl,?_⟩
    by_cases hz:z=g
    ·rw[#[uF,hz]]
     refine ZaoU;rw[ZaMV];refine Zu0;rw[ZaMV];exact #[aOG,ZbbI]
    ·rw[#[aNP,hz]]
     exact aQ #[y6,Zwq,ZbbI,s1]
   | exch a b =>
    have ha:=hp (ZaLh) a ZjD;have hb:=hp (ZaLh) b ZjD;obtain⟨za,ea⟩:=Zop ha;obtain⟨zb,eb⟩:=Zop hb;refine ZmX;rw[ZaMW];refine Zu0;rw[ZaMX];refine Zu0;rw[ZaVb];refine aQ #[Ux,t,_,T0,t,_,T0,rfl,_,?_]
    by_cases W_:a=b
    ·rw[#[uF,W_]]
     exact aQ #[y6,Zow,by simp[d6,ea,eb,W_],s1]
    ·rw[#[aNP,W_]]
     refine ZaoU;rw[ZaVb];refine aQ #[Ux,t,_,T0,t,_,T0,a,b,fun kt hk=>?_];have s2:=#[HT,#[gn,#[cd,ZXa,ZWR],hk]];refine⟨_,rfl,m,_,rfl,fD.t (k:=ZaPU) #[mN,hm] ac,_,rfl,?_⟩;rw[Sk]
     by_cases hmt:Zz9∈ml
     ·rw[aQe hmt]
      exact aQ #[aQz,ZlC]
     ·rw[aQg hmt]
      exact au #[aQz,Zbe]
def FW (F:#[ar,ZMJ,ZMJ,qQ])[163] : #[aYt,Gp]:=by
 refine #[aoh,xZ]
 ·obtain⟨w,m,t,wl,ml,d,rfl,_⟩:=h
  rfl
 ·obtain⟨w,m,t,wl,ml,d,rfl,hw,hm,ht0,l1,l2,hj,k⟩:=h
  have hu:=ZbD
  have ht:ZaPj:=#[eV,wO,ht0]
  have T0:aX K H t ZGd:=ZqV;have nwt:t≠w:=dU ht hw (by intro z;cases z);have nwm:m≠w:=dU hm hw (by intro z;cases z);have ntm:t≠m:=dU ht hm (by intro z;cases z)
  have sz:∀ v:Zd4,v.length<=Zbz->#[ok,#[bd,dk,v]]:=fun v h=>#[aL,JZ,aXP h ZaG]
  refine ⟨_,(af (aN ZaAe (af (jk hu Zak ZEr ZEr rfl)) (af (aN ZaAe #[jv,(Qh Zak ZEr ZLT)] (ae (bh 3 xZ.nd Zaei) (
   ae (jk hu Zak ZEr Zaei rfl) (
   ae (jk hu Zak ZEr ZaO rfl) (
   af (jk hu Zaq ZaXa (ve) rfl))))))))),?_⟩
  try dsimp only[cxK,cxK']
  cases d with
  | come g =>
   refine ZmX;rw[ZaU'];refine aQ ⟨_,rfl,t,_,_,_,rfl,rfl,T0,rfl,_,rfl,_,rfl,t,_,_,_,rfl,rfl,T0,rfl,w,_,rfl,Zo2 (k:=ZsP) hw Zae9,?_⟩;rw[xS]
   exact ZaXy
  | go g =>
   refine ZmX;rw[ZaMU];refine ZaoU;rw[ZaVa]
   obtain⟨z,e⟩:∃ z,#[gs,wl,g,z]:=by
    cases e:ZaCL with
    | none=>simp[d6,e]at hj
    | some z=>exact ZZ7
   refine aQ ⟨_,rfl,w,rfl,#[ib,Zal hw],_,rfl,t,_,_,_,rfl,rfl,T0,rfl,_,ZsP,_,hw,rfl,#[ex,m4,e],?_⟩;rw[OJ]
   exact ZaXy
  | exch a b =>
   refine ZmX;rw[ZaMW];refine ZaoU;rw[ZaMX]
   obtain⟨za,ea⟩:#[aU0,a]:=by
    cases e:ZaZ wl a with
    | none=>simp[d6,e]at hj
    | some z=>exact ZZ7
   obtain⟨zb,eb⟩:#[aU0,b]:=by
    cases e:ZaZ wl b with
    | none=>simp[d6,ea,e]at hj
    | some z=>exact ZZ7
   have ga:#[aPd,(Zah a),za]:=#[agR,ZxO,hw,ea]
   have gb:#[aPd,(Zah b),zb]:=#[agR,Ztg,hw,eb]
   refine au #[a0q,t,_,T0,w,ga];refine⟨_,rfl,_,rfl,t,_,_,_,rfl,rfl,T0,rfl,w,_,rfl,gb,_,rfl,_,rfl,t,_,_,_,rfl,rfl,T0,rfl,w,_,rfl,Zo2 (k:=ZxO) hw Zae9,?_⟩;rw[xS];have lp:=FH wl a zb;have T1:#[aTM,(put wl a zb)]:=ZaS6;refine⟨_,rfl,_,rfl,_,rfl,t,_,_,_,rfl,rfl,T1,rfl,w,_,rfl,Zo2 (k:=Ztg) ac Zae9,?_⟩;rw[xS,mZ];have T2:#[aTM,ZagB]:=ZaS6;refine⟨_,rfl,_,rfl,t,_,_,_,rfl,rfl,T2,rfl,_,rfl,t,_,_,_,rfl,rfl,T2,rfl,a,b,rfl,fun kt hk=>?_⟩;have hkm:m≠kt:=aq (#[ch,nwm,hm]) hk;have hkw:w≠kt:=aq ac hk;refine az m _ rfl (nu.t (k:=ZaPU) #[ih,ai hkm,ai nwm,hm] ac (by unfold B8;rw[Z9];exact aXP l2 ZaG)) ?_;rw[Sj]
   have wa:wr wl a=za:=by unfold wr;rw[ea];rfl
   have wb:wr wl b=zb:=by unfold wr;rw[eb];rfl
   refine k _ ?_ ac fun x o e h1 h2=>?_
   ·rw[#[b',nwm],ai hkw,ac]
    show Zab (Zsd (dk ZagB))=Zab (Zsd (dk (put (put wl a (wr wl b)) b (wr wl a))))
    rw[wa,wb]
   ·have e':#[dR,w,#[bT,ZagB],x,o]:=Zavp
    rw[ai h2,ai (aq e' hk)];exact e'
def F4 (F:#[ar,ZQC,ZQC,mX]) : #[cH,[Zd2],Mx]:=by
 refine #[aoh,Gi]
 ·obtain⟨d,w,rfl,_⟩:=h
  rfl
 ·obtain⟨d,w,rfl,hd,h64,k⟩:=h
  have hu:=ZbD
  refine ⟨_,(af (ar (dM (so:=am mX) (N:=zU) (N':=[ZwT,Zd2]) (src:=Zacn) rfl rfl ⟨rfl,Zao,Zao,Zao,Zao,rfl,Zao⟩ rfl
    (cE (bC (wK rfl) Zak0 ZbaY ZbaZ Zafr))
    #[xm,⟨(AT (i:=0) #[xe,[ZwT,Zd2]] rfl ZNR),(Md #[hF,l9,(jW hu Zaq Zak ZEo),Zak]),pv 0⟩]))),?_⟩
  have hkl:#[bd,aU,w]<64:=by unfold aU;rw[Z9];exact h64
  refine⟨_,rfl,d,_,aU w,rfl,hd,R6 w,hkl,Zid⟩;have hqd:d≠q:=aq hd hq;refine#[le,q,ac,fun r hr0=>?_];have hrq:q≠r:=aq ac hr0;have hrd:d≠r:=aq (#[ON,#[dR,q,#[hO,(i7 (aU w))],d,#[bT,w]],ai hqd,hd]) hr0
  have hHr:#[a_,r]:=by rw[#[b',hrq]]at hr0;exact hr0
  generalize hks:i7 (aU w)=ks at *
  have hsl:Zwu<64:=#[Ok,hks,yK,hkl]
  refine cZ (K:=K) (a:=q) (xs:=ZaA4) #[TR,σ=[v,Zyj]/\ZYV/\H2 q=Zab #[hN,Zwb]/\H2 r=Zab #[k4,ZQu,ZSN]]
   (cY Zac rfl (cH (ah hq) hHr) #[qn,hrq] ac) (fun i σ H2 _ zz=>by obtain⟨_,_,_,h,_⟩:=zz;exact ZYS) ?_ ?_
  ·intro i y σ H2 hi a_;obtain⟨v,rfl,s2,x_,hr2⟩:jp:=a_
   obtain⟨g,hg,rfl⟩:ao:=ZbL;have hil:=ZAt
   have hgk:g∈aU w:=#[Ok,Ex,hks,aQC hg]
   obtain⟨m,hm⟩:=Zop (ZCH hgk)
   have hwr:wr w g=m:=by unfold wr;rw[hm];rfl
   have cj5:#[K6,w]=Zab (Zah m):=#[ex,m4,hm]
   have gt:fD H2 d ZauA (Zab (Zah m)):=#[Ft,cj5,ZsP,#[mN,hd]]
   refine Rb ⟨_,rfl,_,rfl,d,_,rfl,gt,_,rfl,rfl,_,rfl,?_⟩
   have nxt:(#[ps,ZQt].filter ZSN).map Zau=(ZQu ZSN).map Zau++#[tj,Zaa9,ZSe,[]]:=by
    rw[ER hg,aXQ,aQt]
    congr 1
    by_cases T_:Zaa9<;>simp[T_]
   by_cases T_:Zaa9
   ·rw[#[am',#[ZA,m],#[Ex,T_ (by rw[hwr];injection z)]]]
    have hfl:#[bd,(ZQu ZSN).map,Zau]<=i:=by
     rw[Z9];exact ZaQ_
    refine aQ #[mo,_,hr2,ZmJ];refine cY _ rfl (cH s2 hHr) #[gA,hrq,x_] ?_;rw[ac,nxt,aQd T_]
   ·have cx2:wr w g=g:=by simpa using T_
    rw[#[am',#[o9,#[Un,m]],aQe (by rw[<-hwr,cx2])]];refine au (cY _ rfl s2 x_ ?_);rw[nxt,aQc T_,aXl];exact hr2
  ·intro σ H2 a_;obtain⟨v,rfl,s2,x_,hr2⟩:jp:=a_
   refine k r H2 hHr s2 ?_;rw[Z9,aQH]at hr2;unfold cC;rw[hks];exact hr2
def F2 (F:#[ar,ZQD,ZQD,qU])(rK:#[ba,ZQC,1,[Zd2],Mx]) : #[bi,3,[Zd2],IW]:=by
 refine #[aoh,gL]
 ·obtain⟨w,W,rfl,_⟩:=h
  rfl
 ·obtain⟨w,W,rfl,hw,h64,P,k⟩:=h
  have hu:=ZbD;have aj5:ZIN:=Zcr
  refine ⟨_,(ae (bh 1 Zw2 iE) (
   ae (bh 2 Zw2 Zfn) (
   ae (eO aQ2 rfl (cE #[ct,rK,Zmg]) (gv 3 Zw2) (af (aN #[aQx,ZaO] (ae (bh 4 Zw2 Zfn) (
   ae (bh 5 Zw2 ZaO) (
   ae (xR aQ2 #[aQx,Zfh] (ae (jk hu Zaq Zfh (ve) rfl) (
   ae #[Mv,ZcT,Zuz] (
   af (bh 5 Zw2 (jW hu Zak Zfh ZEo)))))) (
   ZaKF)))) ZqJ))) (
   ZFm)))),?_⟩
  try dsimp only[cxK,cxK']
  refine ZBw;intro sn hsn;have sA:=#[vj,hsn];have hs1:#[dR,sn,ZcS,sn,#[h0,[]]]:=ac;generalize upd H sn (.dK [])=H1 at sA hs1 ⊢;refine ZaRS;have sB:=ZaDf;have lr0:Zay_:=sA.free hlr;have hr1:Za0s:=ac;have I_:=sB _ _ hs1;generalize ZaTu=H2 at sB hr1 I_ ⊢;refine⟨_,rfl,w,W,rfl,(ZbbJ sB) _ _ hw,h64,#[bbi,?_]⟩;have bz1:sn≠lr:=dU I_ hr1 (by intro z;cases z)
  have lsr:ls≠lr:=fun z=>by rw[z,hr1]at hls;cases hls
  have lss:ls≠sn:=fun z=>by rw[z,I_]at hls;cases hls
  refine⟨ls,rfl,ZaBj,cZ (K:=K) (a:=ls) (xs:=(cC W).map Zau) (fun i σ HH=>∃ (as:Zei)(v3 v4 v5:Zgj),σ=#[av8,v3,v4,v5]/\Zuw/\#[fj,ls,#[k4,cC,W]]/\#[fj,sn,#[h0,ZnV]] /\
    ZaOX/\#[aTp,Zadg]/\lr∉as)
   ⟨[],none,none,none,rfl,ZbbK,h3,#[gy,I_],ZaCj,Zan,(fun h=>nomatch h)⟩ (fun i σ HH _ zz=>by obtain⟨_,_,_,_,_,_,h,_⟩:=zz;exact ZYS) ?_ ?_⟩
  ·intro i y σ HH hi a_;obtain⟨as,v3,v4,v5,b_,s4,aj0,hs4,hr4,hpa,hnr⟩:=a_;subst b_
   obtain⟨g,hg,rfl⟩:ao:=ZbL;have hil:i<ZaHz:=ZAt;obtain⟨gk,gw⟩:=ZaWt;refine Za2g;have qn:=Mf hg;have lpa:=aQx hpa;have isin:∀ (HH:Hp)[201](x:Int),#[fj,sn,#[h0,ks]]->fD HH sn ZaAS (gQ (vF ks) (ZZg:df)):=fun HH ks x h=>#[pD,ZZg,h];refine#[Mp,sn,isin HH _ g hs4];rw[GF]
   by_cases hq:g∈ZnV
   ·rw[aQe hq]
    have e:qR W Zce=qR W i:=by rw[qn];unfold ya;rw[aQd hq]
    refine au ⟨as,_,_,_,rfl,s4,aj0,?_,hr4,?_,hnr⟩
    ·rw[e];exact hs4
    ·rw[e];exact hpa
   ·rw[aQg hq]
    have R:=Zalk gk;have ol:=ZaG7
    have e:qR W Zce=(ZnV++ZadC,Zadg++[ZadC]):=by rw[qn];unfold ya;rw[aQc hq]
    unfold ie at e;have ap:=CS R q3 hq;generalize ZaGR=M at R ol e ap;generalize qR W i=Q0 at hs4 hpa q1 q2 q3 q4 q5 hq e ap lpa;refine aQ ⟨aj5,ZDI⟩;have sC:=ZxX;have hl5:#[a5,HH,l,ZkF,l,#[hO,#[u7,0]]]:=ac;have hs5:=sC _ _ hs4
    have llr:l≠lr:=fun z=>by rw[z,hr4]at hl;cases hl
    have lls:l≠sn:=fun z=>by rw[z,hs4]at hl;cases hl
    generalize upd HH l (Za6 [])=H5 at sC hl5 hs5 ⊢;refine Zh7;refine #[cg,(fun n σ HK=>∃ j,n=M-j/\j<=M/\σ=#[aYO,ZK3]/\HK sn=Zab #[h0,(Q0.1++db Zca g j)]/\HK l=Zab #[hO,#[u7,j]]/\(#[Gr,ZFR,sn,l,HK])),(gT _ 0 rfl Zm7 rfl #[ih,#[et,db Zca g 0=[]],aXl,hs5] hl5 (fun b o z _ _=>z))];intro n σ HK a_;obtain⟨j,rfl,jM,rfl,hs6,hl6,kk⟩:pL:=a_;refine#[Mp,sn,isin HK _ _ hs6];rw[GF]
    by_cases hjM:j=M
    ·have FB:ZafW∈Q0.1++db Zca g j:=by
      rw[hjM,Zz_];exact Zoy (Zap (Zalj ZaOe))
     rw[aQe FB];rw[hjM]at hs6 hl6;have hr6:=kk _ _ (sC _ _ hr4) (aQA bz1) (aQA llr);refine au ZaYv
     have up:Za2h:=#[ae4,z]
     have l0:Zgr:=ZaC5;have lsl:ls≠l:=aq aj0 hl;refine ⟨as++[l],_,_,_,rfl,(#[aMS,(kk b o #[aR_,sC] (aq z hsn) (aq z l0))]),up _ _ (kk _ _ (sC _ _ aj0) lss lsl) lsr,?_,Zvk,?_,Zg8⟩
     ·rw[e];exact up _ _ hs6 bz1
     ·rw[e]
      exact bN (Wz.Paired.mapP' hpa fun a q ha z=>up a _ (kk a _ #[p8,sC] (dU z hs4 (by intro q;cases q)) (aq z hl)) ZaSS) #[aO8,hl6]
     ·rcases ZYB with z | z
      ·exact hnr z
      ·exact ZaIS
    ·have jl:j<M:=Zae
     have nd:=vX ZOO R.2.2
     have nin:ZafW∉Q0.1++db Zca g j:=fun z=>by
      rcases ZYB with z | z
      ·exact ap _ (Zalj #[eE,j,jl]) z
      ·refine ao (n9.mp z) fun j2 hj2 ej=>?_
       have e1:#[av,#[u7,M][j]?,ZK3]:=by unfold db;rw[aQI,aXK jl];rfl
       have e2:#[av,#[u7,M][j2]?,ZK3]:=by unfold db;rw[aQI,ZZd,ej];rfl
       have:=#[aNc,#[aM,uv,jl],nd,Za4N,e2.symm]
       lia
     rw[aQg nin];have ik:ZafW∈Zir:=ui P.cl gk j;refine #[aYL,σ'=#[aYO,(bO Zca Zeb g)]/\#[bO,sn,Zaeb]/\#[bO,l,#[hO,(db Zca g (j+1))]]/\(#[o6,ZFR,b≠sn,b≠l,Zg5]),⟨a1,a2,a3,a4⟩,Zeb,j+1,a1,a2,a3,a4]
     have cj2:#[bf,(Q0.1++db Zca g j),200]:=#[f8,aQl,uv]
     refine⟨_,rfl,_,rfl,sn,_,rfl,nu.k (k:=ZaXf) (v:=ZeU Zad) hs6 (by unfold vF;rw[Z9];exact aXP cj2 ZaG),?_⟩;rw[Me,show rn (Q0.1++db Zca g j) ZK3=Q0.1++db Zca g Zeb by unfold rn;rw[aQc nin,vW,aXf]]
     have hl7:#[a5,HK,sn,Zaeb,l,#[hO,#[u7,j]]]:=#[ch,lls,hl6]
     refine#[ua,hl7,l,hl7,ZaUP];have wl:w≠l:=aq ZaEl hl;have ws:w≠sn:=aq hw hsn
     have hw8:#[a5,(upd HK sn Zaeb),l,#[atc,#[u7,j],Zca,j],w,#[bT,W]]:=#[zM,ai wl,ws,kk _ _ (sC _ _ ZaEl) ws wl]
     refine#[BB,w,(#[agR,ZaXf,hw8,oW ik])];refine ⟨rfl,#[eF,#[b',lls],ac],(ZaS1),(fun b o z n1 n2=>#[zM,ai n2,n1,kk b o z n1 n2])⟩
  ·intro σ HH a_;obtain⟨as,v3,v4,v5,b_,s4,aj0,hs4,hr4,hpa,hnr⟩:=a_;subst b_
   rw[Kw W #[tH,ZaX]]at hpa;exact#[bK,k lr HH lr0 s4 ⟨as,hr4,hpa⟩]
def FZ (F:#[ar,ZQE,ZQE,mR])[69] : #[bi,3,ZabH,Mp]:=by
 refine #[aoh,Gg]
 ·obtain⟨m,n,rfl,_⟩:=h
  rfl
 ·obtain⟨m,n,rfl,⟨m0,m1⟩,k⟩:=h
  refine #[u6,(#[g1,dM,am mR,zS,ZJE,ZS',Dk,(pU Zak0 ZD2 Zmg),#[xn,ZJE,ZaLc]])]
  try dsimp only[cxK,cxK']
  refine#[Z_,Zae,Zae,ZDI]
  refine pM (n:=m.toNat) #[TR,σ=[v,#[c0,n]]/\H2=upd H l #[aIb,fun (k:Nat)=>lC Zui n]]
   ZJx ?_ ?_
  ·intro i σ H2 hi a_;obtain⟨v,rfl,rfl⟩:ao:=a_
   refine ii ⟨_,rfl,_,rfl,_,_,rfl,ZAS,_,ac,by simp only[Z9,aXq];exact ZmJ,?_⟩;refine Zh7;rw[mZ,List.range_succ,aQt,aQt];simp
  ·intro σ H2 a_;obtain⟨v,rfl,rfl⟩:ao:=a_
   exact ZaLw
def Ik (F:#[ar,ZMN,ZMN,tP])[126] : #[bi,3,ZaHf,KU]:=by
 refine #[aoh,k9]
 ·obtain⟨t,ld,w,m,ls,H0,es,ds,L,rfl,_⟩:=h
  rfl
 ·obtain⟨t,ld,w,m,ls,H0,es,ds,L,rfl,ht,M,dl,nl,dn,hL,nm,len,k⟩:=h
  have hu:=ZbD
  refine ⟨_,ae #[ig,Zak,2,ZQF,3,ZQF,(aW (gv 4 ZQF) dX)] (
   ae (eO aQ2 rfl ZI' (gv 5 ZQF) (ae (bq #[lj,jA,ZaA,ZaO,Zfh]) (
   #[aoP,ZcT,Zuz]))) (
   #[Fl,0])),?_⟩
  try dsimp only[cxK,cxK']
  refine⟨_,rfl,t,_,rfl,ZqV,rfl,_,_,rfl,_,_,rfl,_,_,rfl,rfl,?_⟩;obtain⟨qs,hq,hqp⟩:ao:=dl;have hql:=ZZr;have pre:=qF dn nm
  have tk:∀ i,#[aDF,0].take Zadl=ZHk:=#[iH,by rw[List.take_append,#[cD,aXr],ZbbL]]
  rw[aQl]at len
  refine⟨_,rfl,ld,rfl,ZaBk,cZ (K:=K) (a:=ld) (xs:=Zaad) #[uc,#[hc,[ZGS,#[bv,ld],ZGb,ZYU,#[bv,ls],v],#[xS,HH,ZaCw,(gR (ZHk))],(#[awM,#[bt,HH]])]]
   #[I3,(by simpa using M),#[bbM,e]] (fun i σ HH _ #[fJ,_,_,kp]=>bT.of (kp _ _ hq (dU hq M.hw (by intro z;cases z)) (dU hq M.hm (by intro z;cases z)) nl)) ?_ ?_⟩
  ·intro i y σ HH hi a_;obtain⟨v,rfl,M1,kp⟩:aK:=a_
   obtain⟨b,hb,rfl⟩:ao:=ZbL;refine #[N',hqp,hb,fun d hd hT0=>?_];have hil:Zazy:=ZaAw;obtain⟨xs,ex⟩:=kW d;refine ao M.hs fun as0 hl0 _=>?_
   have hT:HH b=Zab ZUM:=by
    rw[ex]at hT0 ⊢;exact kp _ _ hT0 (dU hT0 M.hw (by intro z;cases z)) (dU hT0 M.hm (by intro z;cases z)) (dU hT0 hl0 (by intro z;cases z))
   have hj:bo (bd Zafy) d=Zbe:=by
    have:=dn Zadl d #[ih,#[cD,aX4],ZbbL,hd];rw[tk]at this;exact this
   have P:=pre (ZWr);rw[tk]at P
   have tn:es++ZCU (i+1)=Zafy++[d]:=by rw[aQM,hd,aQK,aXf]
   have lno:=sL P.good P.of;have pm:=P.ml;have pf:=aXM yH Zafy;rw[aQl,aQQ]at pf;refine #[c8,M1.hs,fun as hl hp=>?_];have hal:=ZAj;rw[Db,aQl,aQQ]at hal;refine⟨_,rfl,_,rfl,_,rfl,w,m,b,#[aCw,0].worn,gR (ZHk),d,rfl,M1.hw,M1.hm,hT,Zae,Zae,(Hq P.al d).trans hj,fun H3 h1 h2 k3=>?_⟩;obtain⟨M4,q_⟩:=M1.done hj h1 h2 k3 hl hp hT;rw[ZuW,Cn hj,<-tn]at M4;refine#[ua,q_,ls,q_,Zzn];exact #[c3,M4,(fun y o e n1 n2 n3=>#[ch,n3,k3 y o (kp y o e n1 n2 n3) n1 n2])]
  ·intro σ HH a_;obtain⟨v,rfl,M1,kp⟩:aK:=a_
   rw[Z9,hql,aQH]at M1;exact#[bK,k HH M1 kp]
def Ip (F:#[ar,ZQG,ZQG,tT])[125] : #[bi,3,[ZbP],Uh]:=by
 refine #[aoh,lj]
 ·obtain⟨c,rfl,_⟩:=h
  rfl
 ·obtain⟨c,rfl,k⟩:=h
  have sl:Za9b:=aQU
  refine ⟨_,(ae (bh 1 ZQH (ak)) (
   ae (bh 2 ZQH (ak)) (
   ae #[lq,(cE #[ct,jB,(wu Zak ZdK (aj))]),3,ZQH,(af (bh 2 ZQH (aL bE ZaA (aM JX Zaq ZaO ZEo))))] (
   ae #[nn,(ay ng ZaA (dw (qC #[a0v,#[a0v,(bz)]])) rfl)] (
   ZFm))))),?_⟩
  try dsimp only[cxK,cxK']
  refine⟨_,rfl,c,12,26,rfl,ZRk,ZRk,fun l ds hl hd hn=>#[le,l,ac,?_]⟩;have s1:=#[EX,ZoC,hl]
  refine cZ (K:=K) (a:=l) (xs:=ZaA5) #[dq,∃ (v:Zgj)(w:Str),σ=[Zzd,#[tW,Zsa],#[tW,w],v]/\aG ZZ0 HK/\ZaHF/\Zf_=i]
   (bS Zac _ rfl ZPT ZcE ZcE) #[js,ZLO,#[nm,ac]] ?_ ?_
  ·intro i y σ HK hi a_;obtain⟨v,w,rfl,s2,aw,lw⟩:bB:=a_
   obtain⟨d,hd1,rfl⟩:ao:=ZbL;have hil:=#[rA,hd1];obtain⟨d0,d1⟩:=hd d (aQC hd1);refine ao (Sb d0 d1) fun c2 hc e=>?_;refine⟨_,rfl,_,rfl,_,rfl,_,d,c2,rfl,rfl,#[P0,sl],e,w,_,rfl,rfl,?_,?_⟩
   ·show #[oj,Zayz]
    lia
   exact bS _ _ rfl s2 (Nu aw hc) #[eF,Po,lw]
  intro σ HK a_;obtain⟨v,w,rfl,s2,aw,lw⟩:bB:=a_;rw[Z9]at lw;refine#[c3,#[B8,sl],#[anA,#[awP,l2,Zaa4]]];have s3:=ZLk (#[EW,["",ZbZ,Za7,ZbS,Zcc,ZcQ,ZaE,ZaT,ZbH].map,#[cV,ZaC (Za9 x)],j_]);refine qv (ZsF) (fun c9=>?_)
  ·exact k _ _ ZcE s3
  ·have c9:#[GD,w,(#[er,""]::ZwG).map]=Zay:=c9
   rw[wX]at c9;exact#[bK,k w _ (Xj aw Zaf (ZbbN c9)) s3]
def F1 (F:#[ar,ZQI,ZQI,mV]) : #[cH,[Zgg],Mr]:=by
 refine #[aoh,mH]
 ·obtain⟨d,rfl,_⟩:=h
  rfl
 ·obtain⟨d,rfl,d0,k⟩:=h
  refine ⟨_,(ae (bh 1 mH.nd #[Gk,ZaBY]) (
   ae #[Ab,#[xB,L5,ZSF],(bh 1 mH.nd ZaFD)] (
   ae (bh 2 mH.nd ZSF) (
   #[cs,(#[g1,dM,am mV,zT,ZaSP,[Zac,Zab 0,Zab 2],Dk,(pU Zak0 ZD2 Zmf),#[xn,ZaSP,aL da (aL d8 ZaB_ (aL sW ZaA Zak)) ZdK]])])))),?_⟩
  try dsimp only[cxK,cxK']
  have em:ZaVc:=ZaMY;refine#[aie,#[wp,6]];refine⟨_,rfl,_,_,rfl,rfl,ZRk,_,_,rfl,rfl,#[wp,61],_,_,rfl,rfl,_,rfl,?_⟩;have a1:=em d 6 ZaG
  apply #[ri,HH=H/\∃ m:Nat,σ=[ZS2,#[c0,Ztm],Zac]/\2<=m/\m<=60]
  ·intro rest
   by_cases c1:d/6%61>54
   ·rw[aQe c1]
    have a2:=em (d/366) 53 ZaG;refine aQ #[BJ,ZRk,53];exact #[z0,#[a0S,8,d/366%53]]
   ·rw[aQg c1]
    exact #[p7,#[a0S,2,d%6]]
  intro σ HH a_;obtain⟨b_,m,c_,m0,m1⟩:=a_;subst b_;subst c_;have a3:=em (d/366) 6 ZaG;refine#[ME,ZRk,#[wp,6]];refine#[aOb,Ztm,Zae,ZDI]
  refine pM (n:=m) #[yh,∃ (v:Zgj)(xs:Zbq),σ=[v,ZS2,#[pO,d/366%6]]/\ZaJ=i/\(∀ r∈xs,ZaV2)/\H2=upd HH l #[hN,ZrK]]
   (bS none [] rfl rfl (fun _ z=>nomatch z) rfl) ?_ ?_
  ·intro i σ H2 hi a_;obtain⟨v,xs,rfl,hx,hr2,rfl⟩:bB:=a_
   refine ii ⟨_,rfl,_,_,rfl,rfl,ZRk,_,rfl,_,rfl,_,_,rfl,rfl,ZBn,_,_,rfl,rfl,_,_,rfl,rfl,ZaaA,_,ac,Zzn,?_⟩;refine bS _ (xs++[(d/2196+d/366%6*(0+ZkQ))%12]) rfl #[ey,aQl,hx] (fun r hr3=>?_) ?_
   ·rcases #[D_,hr3] with z | z
    ·exact hr2 r z
    ·rw[Zdd];exact em _ 12 ZaG
   ·rw[mZ,aQt]
    rfl
  intro σ H2 a_;obtain⟨v,xs,rfl,hx,hr2,rfl⟩:bB:=a_;exact k l xs hl Zaf Zaf hr2
def F0 (F:#[ar,ZQJ,ZQJ,j5])(rG:#[ba,ZQI,1,[Zgg],Mr])[69] : #[bi,3,ZaDk,QR]:=by
 refine #[aoh,iV]
 ·obtain⟨d,c,rfl,_⟩:=h
  rfl
 ·obtain⟨d,c,rfl,d0,k⟩:=h
  have two:Zpi:=ZaF
  have three:ZZR:=ZaF
  have em:ZaVc:=ZaMY
  refine ⟨_,(ae (bh 2 ZD3 ZaBY) (
   ae (bh 3 ZD3 #[ct,rG,(c5 ZaB9)]) (
   ae #[md,Zabm,#[Vv,ZaIk,ZaIk]] (
   ae (aN Zabm (ae (bh 4 ZD3 ZSF) (
   ae (bh 5 ZD3 ZaFD) (
   #[jY,Zbw,#[ak1,#[xo,j5,sJ,[Ze5,ZbP,Zam4,ZDA],[Zac,ZX8,Zab 4,Zab 5],(pU Zak0 ZD2 (c5 (aj))),[Ze5,ZbP,Zam4,ZDA],bp dm ZbI rfl #[pv,#[sJ,(aL d8 ZaA (aL sW ZaO Zak))]]]]]))) ZqJ) (
   ae (bh 6 ZD3 #[ak1,#[xo,j5,sJ,ZaDl,ZS',ZJJ,ZaDl,ZaLc]]) (
   #[jY,(aM kM (dw (wu Zbw Zbw (ak))) (aL vU ZaA (aj)) ZEo),ZjF])))))),?_⟩
  try dsimp only[cxK,cxK']
  refine#[ahn,ZaaB,?_];refine⟨_,rfl,_,_,rfl,rfl,ZRk,d/5,rfl,Zae,fun lr rs hlr r0 r1 rb=>?_⟩;have s1:=#[EX,ZgM,hlr];have h1:#[dR,lr,ZIB,lr,ZIB]:=ac;generalize upd H lr ZIB=H1 at s1 h1 ⊢;refine Zmp
  by_cases c0:d%5=0
  ·rw[aQe (aXa Zau c0)]
   obtain⟨x,y,rt,rfl⟩:∃ x y rt,rs=ZaN0:=by
    match rs,r0 with
    | ZaN0,_=>exact ⟨x,y,rt,rfl⟩
   have bx:=rb x ZaV;have bY:=rb y ZaV;refine aQ ⟨_,rfl,lr,_,0,_,rfl,rfl,ZqX,ZbU,_,rfl,x,c,rfl,#[J8,bx],_,rfl,lr,_,1,_,rfl,rfl,ZqX,ZAn,_,rfl,y,c,rfl,#[J8,bY],ZD4,ZDa⟩;exact k t (ZD5 _ _) _ #[yn,ht] #[tu,ht] ac ⟨Zafq,ZacO,(fun _ _ _ _ z=>by cases z)⟩ #[zF,(ZfZ hg).elim (#[cb,#[F7,Zq3]]) fun hg=>#[nf,hg,Zq3]]
  rw[#[abN,c0]];refine Zmq
  by_cases c4:d%5=4
  ·rw[aQe (aXa Zau c4)]
   have a1:=em (d/5) 12 ZaG;have a2:=em (d/60) 3 ZaG;refine aQ #[ME,ZRk,ZaaA];refine#[BJ,ZRk,3];refine cY 4 rfl ZaG ZaG (ZDI)
   refine pM (n:=4) #[TR,σ=[v,Zzd,#[pO,ZSO],#[pO,1+ZE6]]/\H2=upd H1 l #[aIb,ZWV]]
    ZJx ?_ ?_
   ·intro i σ H2 hi a_;obtain⟨v,rfl,rfl⟩:ao:=a_
    have a3:=#[ahO,ZkQ];refine ii ⟨_,rfl,_,rfl,_,rfl,_,_,rfl,rfl,ZBn,_,_,rfl,rfl,_,_,rfl,rfl,ZaaA,_,rfl,_,c,rfl,#[J8,a3],_,ac,#[aqo,aXq],?_⟩;refine Zh7;rw[mZ,List.range_succ,aQt,aQt];rfl
   intro σ H2 a_;obtain⟨v,rfl,rfl⟩:ao:=a_;have s2:=#[EX,ZaNp,hl];refine#[aK0,Zid];have s3:=#[Hc,ZaNp,hq];refine ZaaJ;have s4:=#[gn,[Zag ZcQ,Ztp],hp]
   have nd:∀ i j:Int,0<=i->i<4->0<=j->j<4->i≠j->#[Uv,i]≠#[Uv,j]:=fun i j i0 i1 j0 j1 n e=>by
    have bi:=#[ahO,i];have bj:=#[ahO,j];have:=RV Zaf Zaf e;obtain⟨st,est⟩:∃ st,st=ZE6:=Za';rw[<-est]at this a2
    have:st=0\/st=1\/st=2:=Zae
    rcases this with rfl | rfl | rfl<;>lia
   have A_:=Zhf;refine k p (ZDf _ _ _ _) _ (Zam_ (ZDG hp)) #[aNa,ZwX] #[jp,q,ZaDq] #[aY,#[wo,ZFv<=4],#[Ge,(4:Nat)],fun a b c' d' z=>?_] (fun g hg=>by have hg:g∈#[m4,4] (ZWV):=hg;obtain⟨j,_,rfl⟩:ao:=ZaAG;exact Zq3);cases z;simp only[aQ0,aQm,aQ1,aXz,not_or,aXs,and_true,not_false_eq_true];exact ⟨⟨#[Mr,0,1],#[Mr,0,2],#[Mr,0,3]⟩,⟨#[a3e,2],#[a3e,3]⟩,#[Mr,2,3]⟩
  rw[#[abN,c4]];refine au #[cR,lr,#[e',h1],ZDI]
  refine cZ (K:=K) (a:=lr) (xs:=ZgM Zau) #[TR,σ=[v,Zzd]/\ZaEy/\H2 l=Zab #[k4,#[mr,ZalP],ZFr]]
   #[cC,Zac,ZJA,ac] (#[anz,Zqm,#[nm,h1]]) ?_ ?_
  ·intro i y σ H2 hi a_;obtain⟨v,rfl,s2,j_⟩:aK:=a_
   obtain⟨r,hr3,rfl⟩:ao:=ZbL;have br:=rb r (aQC hr3);refine ii ⟨_,rfl,_,rfl,r,c,rfl,#[J8,br],_,j_,Zaqp,?_⟩;refine #[uJ,cH s2 hl];rw[ac,aQM,hr3,aQK,aQt,aQt];rfl
  intro σ H2 a_;obtain⟨v,rfl,s2,j_⟩:aK:=a_;rw[Z9,aQH]at j_;refine#[fR,l,rfl,#[mG,Zbh j_,Zid]];have s3:=#[Hc,ZasD,hq];have hq3:#[a5,H2,q,ZasE,q,ZasE]:=ac;have s13:=ZaG0;generalize upd H2 q ZasE=H3 at s13 hq3 ⊢;refine⟨ZD4,ZX3⟩;have s4:=#[mL,Zawt,hlw];have a5:=em d 5 ZaG
  have fin:∀ (f:bH),ZAQ->Zl7=ZgM (ZFr)->(#[aiv,f≠ZDg])->∀ p,upd H3 lw ZazH p=Zac->#[b9,p,#[kO,H3,lw,ZazH,p,ZWH]]:=fun f fp fg fq p hp=>by
   have s5:=#[gn,[Zag ZdB,Ztp],hp];refine k p f _ (s13.free (Zam8 hp)) (s13.trans (ZwV s5)) (rh.of fp ac #[yo,(s4 _ _ (#[aL,fg,hq3]))]) #[aY,?_,?_,fun a b c d z=>#[oU,#[GC,fq]]] (fun g hg=>by rw[fg]at hg;obtain⟨r,_,rfl⟩:ao:=ZaAG;exact Zq3)
   ·rw[fg,Z9];exact r0
   ·rw[fg,Z9];exact r1
  obtain⟨z,ez⟩:∃ z,z=d%5:=Za';rw[<-ez]at a5 c0 c4
  have c3:z=1\/z=2\/z=3:=Zae
  refine ZaoB;rw[<-ez];rcases c3 with rfl | rfl | rfl
  ·exact⟨lw,_,_,_,rfl,rfl,Zy_,ZbU,_,rfl,two,fun p hp=>fin #[ae7,Zr6] rfl rfl (fun _ _ _ _ z=>by cases z) p hp⟩
  ·exact⟨lw,_,_,_,rfl,rfl,Zy_,ZAn,_,rfl,two,fun p hp=>fin #[ae7,ZDe] rfl rfl (fun _ _ _ _ z=>by cases z) p hp⟩
  ·exact⟨lw,_,_,_,rfl,rfl,Zy_,aR (j:=2) rfl,_,rfl,two,fun p hp=>fin #[ae7,Zwk] rfl rfl (fun _ _ _ _ z=>by cases z) p hp⟩
def F3 (F:#[ar,ZQK,ZQK,qV]) : #[cH,[ZdC],IZ]:=by
 refine #[aoh,Gh]
 ·obtain⟨p,n,f,rfl,_⟩:=h
  rfl
 ·obtain⟨p,n,f,rfl,hf,pn,k⟩:=h
  have two:Zpi:=ZaF
  cases n with
  | zero=>exact hf.elim
  | succ n =>
  refine #[u6,((TZ (mz ng ZEs ZaCO rfl) (Gb (mz CF ZaCB (aj) ZhE))))]
  try dsimp only[cxK,cxK']
  obtain⟨xs,hp⟩:=hf.hd;refine⟨_,rfl,p,_,0,_,rfl,rfl,Zmu,ZbU,two,#[C',#[aYS,t]]⟩;have s1:=#[h8,[Zag ZbZ,ZaqQ]];rcases pn with ⟨g,rfl⟩ | ⟨w,rfl⟩
  ·cases g with
   | pair a b=>exact ZaNt
   | quad a b c d =>
    refine ZTT;exact Zaq3
   | line g =>
    refine ZTT;exact Zaq3
   | star g =>
    refine ZTT;exact Zaq3
   | all g =>
    refine ZTT;exact Zaq3
  ·exact ZaNt
def CA (F:#[ar,ZQL,ZQL,gq])(rJ:#[ba,ZQK,1,[ZdC],IZ]) : #[aEp,4,ZDB,Zgg,GB]:=by
 refine #[aoh,dG]
 ·obtain⟨s,nm,d,ws,xs,rfl,_⟩:=h
  rfl
 ·obtain⟨s,nm,d,ws,xs,rfl,d0,sh,hn,wl,wn,ok,xl,okn,k⟩:=h
  have two:Zpi:=ZaF
  have sl:Za9b:=aQU
  refine ⟨_,(ae (bh 3 Zsv #[sJ,Zaq]) (
   ae (aN #[h3,kA,Zabn,(jm (CM ZaA ZjS))] (ae #[Mv,Zak,(c5 (bg (fG #[mQ,#[aRA,ZaB_]] ZdK)))] (
   af (Mc))) ZqJ) (
   ae (bh 4 Zsv ZaFE) (
   ae #[Ab,Zabn,#[aQo,4]] (
   ae (bh 5 Zsv (iF Mm Zak (gI (aL vU Zak_ #[aW0,(fG ZcT Zak_)])) qE)) (
   ae (bh 6 Zsv #[Gk,(SN rfl Zak0 T.bmax #[aYN,ZUk])]) (
   ae #[EE,#[xB,L5,ZjF],Mc] (
   ae #[lq,ZWj,7,Zsv,#[jv,(VJ aQO PySem.F.slot_list_pop PySem.F.type_list_pop Vo Zak)]] (
   af (aN Zabn #[aoO,Zak,#[aTH,#[Eq,#[Ep,kM,Zfh]]]] (ae #[aQo,8] (
   ae #[Ab,(PW.pt (kA #[xC,ZjF] (kA #[xC,ZauW] (jm (iG #[ak8,#[aYN,#[ct,rJ,(c5 ZUk)]]]))))),(bh 8 Zsv ZaFE)] (
   #[aoP,Zak,#[aTH,#[ak1,(c5 (aL VH (#[g1,dM,am gq,kO,ZP7,Zh5,Dk,ZWj,#[xn,ZP7,ZUk]]) ZHU))]]]))))))))))))),?_⟩
  try dsimp only[cxK,cxK']
  obtain⟨ts,h1,pr⟩:ao:=sh;obtain⟨us,rfl,rfl,hU⟩:aK:=R3 pr;rw[aQP]at h1;have h1:#[aP,s,#[gS,Zkw,Zaov]]:=h1;rw[Z9]at xl;refine#[ahn,#[wp,4],?_];refine Zmp
  apply #[ri,H=HH/\σ=#[apB,Zac,Zac,Zac,Zac,Zac]]
  ·intro rest
   refine qv (ZsF) #[eC,#[p7,Zgz]];refine#[ago,!(Zi1 ZaC).isEmpty,Zazq];refine qv (fun ne=>?_) #[eC,#[z0,Zgz]]
   have wpos:0<Zkc:=by cases ws with | nil=>cases ne | cons _ _=>exact Zbdd
   have i0:0<=ZaV4:=ZWC;have i1:ZaV4<Zkc:=aQ9 _ Zaf;obtain⟨j,hj⟩:=ZacK
   have hjl:j<Zkc:=Zae
   have hwj:=aQw hjl;refine⟨_,rfl,ZaBZ,_,rfl,_,rfl,_,_,rfl,rfl,ZRk,_,rfl,nm,_,rfl,#[h4,hn],_,_,rfl,rfl,by show ZdF<_;rw[Z9];lia,nm,_,j,ZayF,rfl,#[bm,Z9,hj],Zazq,aR (j:=j) #[ey,aQI,hwj],two,#[oe,ZaB2]⟩;have s1:=#[gn,[Zag ZbH,ZayF],hp];have s2:=#[HT,#[h8,#[s2,1]]];refine#[aSp,ZaDV]
   have ts':t≠s:=fun z=>by rw[z,s1 _ _ h1]at ht;cases ht
   have kp:=(BQ (s:=s) s2).trans (AO (o:=#[aT0,Zkw]));have up:=ZaCD
   have hp2:#[a5,#[ia,p,ZaKL,t,#[z8,1]],s,#[hV,(Zkw Zaov),Zea],p,ZaKL]:=by
    rw[ai (fun z=>by rw[z,h1]at hp;cases hp)];exact ZaKb
   refine k (us.map (·.2.2)++[(Zd1 ZD7,1)]) _ (QF (AR hU) up (#[tD,ac]) #[aVS,#[bn,bX 1 _ p (Zd1 ZD7),⟨hp2,#[zO,vL,(wl _ ZaM6)]⟩]]) (PR ok #[ahw,Zap Za']) #[ih,aQl,aQW,ZaX] #[aM,yf,ZaX] (BF okn #[fK,Zi9 1 (Zd1 ZD7),wl _ ZaM6]) #[aM,Dd,ZaX] kp
  rintro σ HH ⟨rfl,rfl⟩;have n0:#[aeY,x%3,x%3,3]:=Zae0;refine#[BJ,ZRk,3];refine Zmp
  apply #[ri,∃ mn:Int,H=HH/\σ=#[apB,#[c0,mn],Zac,Zac,Zac,Zac]/\1<=mn/\mn<=3]
  ·intro rest
   have:=n0 (d/4);refine qv ?tt fun c=>#[z0,(cY (1+d/4%3) rfl rfl Zaf Zaf)];exact #[bF,ZdX #[apB,#[c0,1],Zac,Zac,Zac,Zac] H (cY 1 rfl rfl ZaG ZaG)]
  intro σ HH a_;obtain⟨mn,rfl,rfl,mn1,mn3⟩:jp:=a_;refine⟨_,rfl,_,rfl,s,_,rfl,Zaa3,_,rfl,_,rfl,s,_,rfl,Zaa3,_,_,rfl,_,_,rfl,rfl,_,rfl,s,_,rfl,ZqX,Zid⟩
  obtain⟨j,ej,jl,jl3⟩:∃ j:Nat,#[k3,Zaox,(if (Zaox:Int)<mn then (Zaox:Int) else mn)]=ZkX/\j<=ZdS/\ZdS<=j+3:=by
   rw[Z9];split
   ·exact ⟨0,Zaf,Zcr,Zaf⟩
   ·exact ⟨ZdS-mn.toNat,Zaf,Zaf,Zaf⟩
  rw[ej,Ha,<-List.map_drop]
  have hqs:q≠s:=fun z=>by rw[z,h1]at hq;cases hq
  have s1:=#[EW,ZvM,Zaov,hq];have hq1:#[dR,q,Zaow,q,Zaow]:=ac;generalize upd H q Zaow=H1 at s1 hq1 ⊢
  have dl:#[bd,ZvL,j]<=3:=ZXI
  have du:∀ u∈ZvN,u∈us:=#[i6,ZPO hu];refine#[cR,q,#[e',hq1],Zij];refine #[a1a,Zah Zt2,hq1,#[a1X,u.1,#[e7,sK,(s1 _ _ (hU u (du u hu)).1)],ZPW],fun H2 s2 hc2=>?_];have A_:=Zhf;have back:ZAw:=fun H' s=>k _ H' ⟨us.map (·.1),#[aM,aQP,s _ _ h1],(AR #[i6,(hU u hu).mono Zaxs])⟩ ok (aZI _) ZtJ okn ZtJ (BQ s);refine bS c (ZvM (fun u=>Zaxz)) rfl (Zbh (ZaEh)) #[eC,?_] (fun M hM hle=>?_)
  ·exact#[a36,aQ (back _ A_)]
  refine#[a36,qv (#[bF,back _ A_]) (fun c7=>?_)];obtain⟨u0,hu0,rfl⟩:ao:=#[rX,hM];generalize eM:u0.2.2.2=M at *
  have M7:M<=6:=#[zO,ZbbN,c7]
  have hle:∀ u∈ZvN,Zt2<=M:=#[i6,#[ew,hle _ (aXe (f:=fun u:GQ=>Zaxz) hu)]]
  have okU:#[se,rm u.2.2]:=#[i6,ok _ (aXe (f:=fun u:GQ=>u.2.2) hu)]
  have M1:1<=M:=#[ew,(okU u0 (du _ hu0)).1]
  have I_:=A_ _ _ h1;have x_:=s2 _ _ hq1;refine#[mo,q,rfl,#[e',x_]]
  refine cZ (K:=K) (a:=q) (xs:=ZvM Zaov) #[dq,#[hc,#[apC,Zac],Ov s H2 HK,HK s=Zab #[gS,(ZBW (Zaax)).map,Zaov]]]
   #[I3,BQ (ZPS _),#[dz,Nat.sub_zero,aQH,I_]] #[js,#[pL,kp],#[qM,ZaVF]] ?_ ?_
  ·intro i y σ HK hi a_;obtain⟨v,rfl,kp,hs⟩:aK:=a_
   have hil:=ZZI;rw[Z9,aQN]at hil
   have v_:Zaax-1<ZdS:=Zae
   refine⟨_,rfl,#[po,hs],s,_,ZaN us[Zaax-1].1,rfl,rfl,hs,?_,_,rfl,ZbbO AO,?_⟩
   ·rw[Z9,aQQ,ZIq,aQI,ZZb,aQw v_];rfl
   ·rw[ac,<-List.map_dropLast,List.dropLast_eq_take,List.take_take,aQQ]
    congr 4
    lia
  intro σ H3 a_;obtain⟨v,rfl,kp,hs3⟩:aK:=a_;rw[Z9,aQN,#[fN,ZdS,(ZdS-j),j]]at hs3;have hq3:=ZaVF;have kp:Ov s H H3:=#[cq,BQ,A_] kp;have up3:=ZaCD;have hU3:#[se,UE H3 u]:=#[i6,(hU u hu).mono up3];have tU:∀ u∈ZBW j,u∈us:=#[i6,aZH hu]
  have wt:Dl (us.map (·.2.2))=Dl (ZBX (·.2.2))+Dl (ZvM (·.2.2)):=by rw[<-yf,<-aQt,Zamj]
  have tw:tS (us.map (·.2.2))=tS (ZBX (·.2.2))+tS (ZvM (·.2.2)):=by rw[<-Dd,<-aQt,Zamj]
  have tlen:#[bd,ZBW,j]<=ZdS:=#[gJ,aQQ]
  clear x_ I_ hc2 back
  have fin:∀ (f:aA)(H4:Hp)(p t:Addr),aG H3 H4->H4 t=Zab #[cK,[ZcF,ZauQ]]->bX (M+1) H4 p f->Tu ZJc<=Dl (ZvM (·.2.2))->Zi9 (M+1) f->ZamI<=tS (ZvM (·.2.2))+10->Q ZaK ZaQK:=fun f H4 p t s4 ht hf hw hwn hwt=>by
   have hs4:=ZaDr
   have ts':t≠s:=fun z=>by rw[z,hs4]at ht;cases ht
   have kp4:Ov s H3 ZaQK:=#[cq,BQ,s4] AO;have up4:=(AO (s:=s) (H:=H4) (o:=#[aT0,ZBX])).tup hs4;refine k (ZBX (·.2.2)++[ZJc]) _ (QF (AR #[i6,hU3 u (tU u hu)]) (kp4.tup hs3) (#[tD,ac]) ⟨p,(up4 _ _ (#[bm,ht,#[p5,(1+(M:Int)),#[a4,M+1]]])),ZDT up4⟩) (PR ZmC ⟨#[Hq,1<=M+1],(#[hy,M+1<=7]),#[bC,by have z:M+1=1:=z;lia]⟩) (by rw[aQl,aQW,Z9,Z9];lia) (by rw[yf,wt];show _+(Tu ZJc+0)<=_;lia) (BF ZmC hwn) (by rw[Dd,tw];show _+(tI ZJc+0)<=_;unfold tI;rw[ZaJT];show _+(ZamI+0)<=_;lia) (ZbbO kp4)
   ·obtain⟨u,hu,rfl⟩:ao:=ZrY
    exact okU u (tU u hu)
   ·obtain⟨u,hu,rfl⟩:ao:=ZrY
    exact okn _ (aXe (f:=fun u:GQ=>u.2.2) (tU u hu))
  refine Zmp;refine ZF0
  ·cases ed:ZvN with
   | nil=>rw[ed]at hu0;cases hu0
   | cons u ur =>
    have um:u∈ZvN:=#[aL,ed,aQi]
    have hU:=hU3 u (du u um);rw[ed]at hq3;refine⟨_,rfl,#[po,hs3],_,rfl,q,_,0,_,rfl,rfl,Zbh hq3,ZbU,u.1,_,0,_,rfl,rfl,Zay4,ZbU,two,ZaJv⟩;have s4:=(#[gn,[Zag ZaT,ZYe],hp]).trans (ZaO4);refine⟨s,_,_,rfl,rfl,ZaDr,Ztn,fin ZaM7 _ p t s4 ac ⟨ZyN,ZaKb,((hU.2.le (hle u um)).mono #[iG,s4])⟩ ?_ #[fK,Zi9 (M+1) ZaM7,(okn _ (aXe (f:=fun u:GQ=>u.2.2) ZaH7)).le (hle u um)] (by rw[GZ,ed,aQv,tS];have:=Q5 ZaQg (okn _ (aXe (f:=fun u:GQ=>u.2.2) ZaH7));lia)⟩;have:=#[aQg,0].few;rw[ed,aQv,Dl];unfold Tu at *;rw[ZaJT]
    show #[aC9,aA.back]
    rw[aA.names]
    lia
  ·have nt:#[aeY,x%20,x%20,20]:=Zae0
   refine Zmp
   apply tH (fun σ HH=>∃ n:Nat,aG H3 HH/\σ=#[apC,#[c0,n]]/\(1<=n/\(n=1\/(n<=20/\∀ x∈ZvM (·.2.2),Zqa))))
   ·intro rest
    refine #[aTK,?tw1];intro c2
    have M1':M=1:=#[ew,ZoP (aQJ c2)]
    have one:∀ x∈ZvM (·.2.2),Zqa:=fun x hx=>by
     obtain⟨u,hu,rfl⟩:ao:=ZrY;have:=hle u hu;have:=(okU u (du u hu)).1
     lia
    refine⟨_,rfl,_,_,rfl,rfl,ZRk,_,_,rfl,rfl,ZaaB,rfl,_,rfl,?_⟩;refine #[aTK,?tw2];intro _;refine#[cR,q,#[e',hq3],Zij];refine MQ Zavv (rs:=ZvN) hc hq3 Zaf #[at2,?_] (fun H4 bs s4 hc4=>?_)
    ·have hU:=#[aFO,0].mono #[iG,sK]
     exact⟨_,rfl,u.1,_,0,_,rfl,rfl,Zay4,ZbU,ZyN,_,_,rfl,hU.2,(okU u (du u hu)).2.2 (one _ (aXe (f:=fun u:GQ=>u.2.2) hu)),fun H5 b s5=>kk H5 b s5⟩
    refine⟨c,bs,rfl,Zbh hc4,_,rfl,qv ?tw3 #[bF,#[z0,#[awI,s4]]]⟩;intro _;refine#[BJ,ZRk,20];have:=nt (d/60);obtain⟨n,en⟩:=aXU Zg_;rw[en];exact ZdX #[apC,#[pO,1+n]] H4 (cY (1+n) s4 #[jC,aZV] Zaf (Zap #[mO,one]))
   intro σ H4 a_;obtain⟨n,s4,rfl,p1,hn⟩:jp:=a_;have hq4:=s4 _ _ hq3;refine#[aTA,#[qt,hs3],q,ZaBl,Zij];refine #[a1a,ZYe,hq4,⟨_,rfl,u.1,_,0,_,rfl,rfl,#[e7,sK,#[qt,(hU3 u (du u hu)).1]],ZbU,ZPW⟩,fun H5 s5 hc5=>?_]
   have n20:n<=20:=by rcases hn with z | z<;>lia
   have fl:#[bd,ZvL,j]*n<=3*20:=aZK dl n20;refine⟨_,rfl,c,n,_,rfl,rfl,hc5,Zae,Zae,#[te,aZC],ZDI⟩;rw[aZC,yN (fun u:GQ=>ZaN ZyN)];refine#[aK0,#[Qn,#[pA,ZaJv]]];have s6:=#[cq,ZwV,s5] ((#[cq,ah,hl] (ah ht2)).trans (#[cq,ah,hp] (ZaO4)));refine⟨s,_,_,rfl,rfl,s6 _ _ hs3,Ztn,fin (Zkt (List.replicate n (ZvM (·.2.2.1))).flatten) _ p t s6 ac (bS t2 ((List.replicate n (ZvM (·.2.1))).flatten) (ah ht _ _ ac) ((#[cq,ah,hp] (ah ht)) _ _ (by rw[ac,yN,aQP];rfl)) (#[rP,BY,Z9,ZNK]) (Aa (Lx (#[i6,#[aFO,0].mono #[iG,s6]]) hle) n)) ?_ (Ni (ZXX) n ?_ ?_) ?_⟩
   ·have:=Wl (k:=n) (d:=M+1) ZmC Zaf hn
    ·rw[aQP]at this;exact this
    obtain⟨u,hu,rfl⟩:ao:=ZrY;exact ZaLb
   ·obtain⟨u,hu,rfl⟩:ao:=ZaAE
    exact (okn _ (aXe (f:=fun u:GQ=>u.2.2) ZaGJ)).le (hle u hu)
   ·rw[Z9]
    have p2:0<#[bd,ZvL,j]:=Zako hu0;exact aZK p1 p2
   ·rw[Z9,Nat.mul_comm]
    lia
   ·have:=Wh (k:=n) ZmC ZmC hn
    ·rw[aQP]at this
     have this:Za2m<=tS (ZvM (·.2.2))+6:=this
     show Za2m<=_
     lia
    ·obtain⟨u,hu,rfl⟩:ao:=ZrY
     exact ZaLb
    ·obtain⟨u,hu,rfl⟩:ao:=ZrY
     exact okn _ (aXe (f:=fun u:GQ=>u.2.2) ZaGJ)
set_option tactic.hygienic true
def DJ (F:#[ar,ZQM,ZQM,kP])(rF:#[ba,ZQJ,3,ZaDk,QR])(o6:#[ba,ZQL,4,[ZDB,Zgg,Zsp],GB])[69] : #[aEp,5,ZDC,ZbP,Gw]:=by
 refine #[aoh,pA]
 ·obtain⟨l,nm,c,ds,ws,rfl,_⟩:=h
  rfl
 ·obtain⟨l,nm,c,ds,ws,rfl,hl,d0,dl,hn,wl,wn,k⟩:=h
  have two:Zpi:=ZaF
  have sl:Za9b:=aQU
  refine ⟨_,(ae (bh 3 pA.nd Zfn) (
   ae #[lq,#[x6,0],4,pA.nd,(af (aN #[Wg,ZcT] #[aoO,ZaO,(c5 (bg (fG #[tL,rF,ZaB'] ZdK)))] #[jv,#[lj,o6,ZaO,ZaB',ZaA]]))] (
   ae #[md,(jd (CM ZaO ZjS)),#[mQ,#[e9,ZaIj,ZaIj]]] (
   ae #[md,#[xC,#[ak5,ZqY]],#[Eq,Zavc]] (
   #[jY,Zbw,#[ak1,#[xo,kP,xu,ZP7,Zh5,ZJJ,ZP7,ZUk]]]))))),?_⟩
  try dsimp only[cxK,cxK']
  refine#[p0,fun s hs=>#[mo,l,rfl,#[aR,#[qM,ah hs _ _ hl]]]]
  refine cZ (K:=K) (a:=l) (xs:=ZaA5) #[dq,∃ (v:Zgj)(xs:Zla),σ=[Zg6,Zzd,ZapA,#[bv,s],v]/\Zfi/\Rv HK s xs/\(ZXv)/\Zar6/\Zu4<=20*i/\(ZXw)/\Zu5<=ZPQ*i]
   ⟨none,[],rfl,ah hs,Zvr,(fun x hx=>nomatch hx),ZaX,ZaX,(fun x hx=>nomatch hx),ZaX⟩ #[js,ZLO,#[nm,hl]] ?_ ?_
  ·intro i y σ HK hi a_;obtain⟨v,xs,b_,s2,sh,ok,xl,xw,okn,xt⟩:=a_;subst b_
   obtain⟨d,hd,rfl⟩:ao:=ZbL;have hil:=ZaAw;have dd:=d0 d (aQC hd);refine #[c8,sh,fun ts h1 pr=>?_];have tl:=ZgE;refine#[Uo,#[wp,2],?_];refine ZF0
   ·refine⟨_,rfl,ZaBZ,_,rfl,_,_,rfl,rfl,ZRk,_,rfl,_,c,rfl,Zae,fun p f H1 hp s3 fa fo fg=>ZaB2⟩
    have h2:=ah (o:=ZcJ #[s2,1]) ht _ _ #[nA,h1];refine#[aSp,h2]
    have up:∀ b ys,H1 b=Zab ZpU->#[a5,#[d',t,#[z8,1]],s,ZaDI,b,ZpU]:=fun b ys e=>by
     rw[ai (fun z=>by rw[z,ZaCg]at e;cases e)];exact ah ht _ _ e
    have ts':t≠s:=fun z=>by rw[z,ZaCg]at ht;cases ht
    refine ⟨_,xs++[(Zed,1)],rfl,cH #[aQU,ht] hs,⟨ts++[t],Zvk,(bN #[j6,pr,ZwF fun b ys e=>up b ys #[ff,s3]] (ZaB #[aVS,Zamc (n:=1) up #[fK,bX 1 H1 p (.pl f),⟨fa,fo⟩]] Zan))⟩,ZmC,(Zvg),(#[Qr,yf,Zu4+(20+0)<=_]),(BF okn #[fK,Zi9 1 (.pl f),⟨fo,fg⟩]),(#[Qr,Dd,Zu5+(ZPQ+0)<=_])⟩;rcases ZEa with z | z
    ·exact ok x z
    ·rw[Zdd];exact #[ahw,#[Y2,f]]
   ·refine⟨_,rfl,_,rfl,_,_,rfl,rfl,ZRk,_,rfl,s,nm,_,ws,xs,rfl,Zae,sh,s2 _ _ hn,wl,wn,ok,Zae,okn,fun ys H' sh' ok' yl yw cq6 yt kp=>?_⟩
    exact ⟨_,ys,rfl,(fun a o e=>kp a o #[ff,s2] (aq e hs)),sh',ok',Zaf,Zaf,cq6,Zaf⟩
  intro σ HK a_;obtain⟨v,xs,b_,s2,sh,ok,xl,xw,okn,xt⟩:=a_;subst b_;obtain⟨ts,h1,pr⟩:ao:=sh;have tl:=ZgE;rw[Z9]at xl xw xt;have nw:=ZaLe
  cases pr with
  | nil =>
   have lg:#[iZ,#[aM8,0].gs,Zm5]:=fun g hg=>by
    rcases #[hU,hg] with rfl | hg
    ·exact Zq3
    ·rw[Zdc hg];exact Zq3
   have lok:#[aM8,0].Ok:=⟨Zafq,ZacO,(fun _ _ _ _ z=>by cases z)⟩;refine#[ago,Zay,ZqX];refine aQ ⟨_,rfl,0,c,rfl,ZRk,_,rfl,1,c,rfl,ZRk,two,fun q hq=>ZaaJ⟩;refine k p ZavZ _ (ZgO (#[cq,ah,hq] (ah hp))) (bX.le (n:=1) ⟨#[jp,q,ah hp _ _ ac],⟨Zafq,ZacO,(fun _ _ _ _ z=>by cases z)⟩⟩ ZaG) #[aM,ZPz,Zcr] #[aXT,8] (aQZ (BV (x:=(.pl (Zr6 ZUq),1)) #[ahw,Zal Za'] rfl #[aXT,1]) ZaG)
  | cons a pr2 =>
   rename_i t x ts2 xs2
   refine#[ago,Zad,ZqX];refine au ⟨_,rfl,s,_,rfl,Zaa3,rfl,_,rfl,?_⟩;refine ZF0
   ·obtain⟨p,e1,e2⟩:ao:=a
    have o:=ok x aQi;have:=o.2.1;have f1:=o.few;rw[Dl]at xw;exact⟨_,rfl,s,_,0,_,rfl,rfl,ZqX,ZbU,t,_,0,_,rfl,rfl,ZdH,ZbU,k p x.1 HK s2 #[ml,e2.le] Zaf #[ml,#[aDG,0].le] (by have:=Q5 (ok x aQi) ZaDG;rw[tS]at xt;lia)⟩
   ·refine ao (Pa (ZaB a pr2) ok) fun ps p1 p2=>?_
    have pl:=aQx p1;have pl2:=aQx p2;refine#[cR,s,#[e',h1],Zid]
    refine cZ (K:=K) (a:=s) (xs:=(t::ts2).map ZaN) #[yh,#[hc,[v],aG HK H2,H2 q=Zab #[mE,ZRl]]]
     Zvd (#[anz,#[pL,s3],Zbh #[nA,h1]]) ?_ ?_
    ·intro i y σ H2 hi a_;obtain⟨v,rfl,s3,x_⟩:aK:=a_
     obtain⟨u,hu,rfl⟩:ao:=ZbL;refine OM (ZN_ p1 hu) fun p hp n e=>?_;refine ii ⟨_,rfl,u,_,0,_,rfl,rfl,#[e7,s3,e],ZbU,_,x_,#[te,aQQ],_,rfl,cH s3 hq,?_⟩;rw[ac,aQM,hp,aQK,aQt];rfl
    intro σ H2 a_;obtain⟨v,rfl,s3,x_⟩:aK:=a_;rw[Z9,pl,aQH]at x_;refine#[fR,q,rfl,#[mG,Zbh x_,#[Qn,ZaaJ]]];have s4:=ZD1 ((#[gm,ZcJ (Zkr ZaN),ht2]).trans (#[gn,[Zag ZaE,Zai t2],hp]));refine k p (Zkt (ZaO3 (·.1))) _ (ZgO s4) (bX.le (n:=8) (bS t2 ps ac (ah hp _ _ ac) ?_ #[j6,p2,ZwF fun _ _ e=>s4 _ _ e]) ZaG) #[jo,ZPz] (show aA.Good 8 (Zkt (ZaO3 (·.1))) from ⟨#[tH,Zbdd],Zyu,(fun f hf=>by obtain⟨y,hy,rfl⟩:ao:=ZaAE;exact (okn y hy).le (ok y hy).2.1)⟩) (by rw[Gd];have:=Q8 ok okn;lia);rw[Z9]
    lia
set_option tactic.hygienic false
def vT (F:#[ar,ZQN,ZQN,jz])[162](ni:#[ba,ZQO,1,[Zl',Ze5,ZP8],Ug]) : #[bi,3,[ZdC],Gv]:=by
 refine #[aoh,cI]
 ·obtain⟨p,f,rfl,_⟩:=h
  rfl
 ·obtain⟨p,f,rfl,hf,ok,k⟩:=h
  have two:Zpi:=ZaF
  refine ⟨_,(ae (bh 1 Zsw ZEs) (
   ae #[AB,#[y3,ZaOg]] (
   ae (bh 2 Zsw ZEs) (
   ae #[AB,(lK t_ ZbI rfl L7 #[c6,ZEr,ZEr,#[c6,ZEr,ZEr,bz]])] (
   ae (bh 3 Zsw Zfn) (
   ae (eO aQ2 rfl ZaLs #[vy,4,Zsw,5,Zsw] (af (eO aQ2 rfl ZaLs #[vy,6,Zsw,7,Zsw] (af #[jd,(iG #[lj,ni,Zaq,ZcT,ZjF]),#[aoO,ZaO,(c5 (bg (fG Zfh ZtF)))]])))) (
   #[Fl,3]))))))),?_⟩
  try dsimp only[cxK,cxK']
  obtain⟨xs,hp⟩:=hf.hd;refine#[a0N,0,Zmu,ZbU];have o1:=ok.1;have o2:=Zqh;have rl:=ZaG6
  by_cases cp:ZayJ
  ·obtain⟨a,b,rfl⟩:ZaL4:=by
    cases f with
    | pair a b=>exact ZaOd
    | _=>cases cp
   have hp:ZMf:=hf;rw[Zase];refine Za4l;have s1:=ZaCy;exact ZaXz
  have cp:ZAQ:=by cases q:f.isP with
   | true=>exact #[oR,q,cp]
   | false=>rfl
  refine ao (hf.gr cp) ZTS
  have nP:#[zG,ZbZ]:=by cases f<;>first | (dsimp only[bH.word];decide +kernel) | cases cp
  rw[#[Ez,nP]];refine au #[a0N,1,ZdH,rfl]
  by_cases cU:∃ a b c d,f=ZDg
  ·obtain⟨a,b,c,a_⟩:iw:=cU;obtain⟨d,rfl⟩:=a_
   have e2:ZaD7:=e2;rw[ZaP7];exact aQ ⟨_,rfl,q,_,0,_,rfl,rfl,Zk9,rfl,_,rfl,q,_,1,_,rfl,rfl,Zk9,rfl,_,rfl,q,_,2,_,rfl,rfl,Zk9,rfl,_,rfl,q,_,3,_,rfl,rfl,Zk9,rfl,a,b,c,d,rfl,ZaZr,Za3p⟩
  have nQ:#[zG,ZcQ]:=by
   cases f with
   | quad a b c d=>exact Za1N
   | pair=>cases cp
   | _=>dsimp only[bH.word];decide +kernel
  have er:xI ZdB Zl7 Zl7 0=Zr7:=by
   cases f with
   | quad a b c d=>exact Za1N
   | pair=>cases cp
   | line g=>exact Iv g g 0 rfl
   | star g=>exact P2 g
   | all g=>exact L6 g g 0 rfl
  rw[#[Ez,nQ]];refine Zadk;have s0:=ZxX;refine#[mo,q,rfl,#[aR,#[e7,s0,e2]]];generalize hw:f.word=w at er;generalize f.gs=g at er e2 o1 o2
  refine yF (K:=K) (a:=q) (xs:=ZZW) #[dq,∃ (v4 v5 v6 v7:Zgj)(ps:Zd4),σ=#[a2l,v4,v5]/\Zfi/\dh HK l ps/\ps++xI w g (ZdA i) i=Zr7]
   ⟨Zac,Zac,Zac,Zac,[],rfl,s0,Zvr,er⟩ #[yC,⟨_,_,_,_,_,_,s2,_⟩] ?_ ?_
  ·intro i y σ HK T hi a_ hT;obtain⟨v4,v5,v6,v7,ps,rfl,s2,row,ep⟩:jr:=a_
   obtain⟨x,hx,rfl⟩:ao:=ZbL;have hil:=ZZJ;have sT:=ZaNT;have hTT:Za0x:=ac;have row:=ZaES;have s2:=ZaER;generalize ZaV9=HK at hTT row s2 ⊢;refine ZaKh
   have ed:ZaQl:=ZaTX
   rw[ed]at ep;have ep:ps++#[ar9,FB w i x g 0]=Zr7:=ep;refine#[mo,q,rfl,#[aR,#[e7,s2,e2]]]
   refine yF (K:=K) (a:=q) (xs:=ZZW) (fun j σ H4=>∃ (v6 v7:Zgj)(qs:Zd4),σ=#[a2l,Zaz1,#[c0,x]]/\aG H H4/\dh H4 l qs/\qs++#[ar9,FB w i x (ZdA j) j]=Zr7)
    (dE _ _ ps rfl s2 row ep) ZaQe ?_ ?_
   ·intro j y σ H4 T2 hj a_ hT2;obtain⟨v6,v7,qs,rfl,s4,N_,eq4⟩:eX:=a_
    obtain⟨o,ho,rfl⟩:ao:=ZI5;have hjl:=#[rA,ho];have sT:=#[gn,ZaGt,hT2];have hTT:#[a5,H4,T2,ZaOZ,T2,ZaOZ]:=ac;have N_:=N_.mono sT;have s4:=ZwV sT;generalize #[cL,H4,T2,ZaGt]=H4 at hTT N_ s4 ⊢;refine#[pK,T2,hTT]
    have ed2:ZdA j=o::ZdA (j+1):=#[avA,hjl,ho]
    rw[ed2]at eq4;have eq4:qs++#[ar9,(#[ard,Zahh]++FB w i x (ZdA (j+1)) Zeb)]=Zr7:=eq4;refine⟨_,rfl,_,rfl,_,rfl,w,i,j,rfl,_,rfl,?_⟩
    by_cases tg:Zahh=Zad
    ·rw[tg]
     rw[aQd tg]at eq4;obtain⟨as,hl4,pr⟩:ao:=N_;have al:=ZgE;have el:=#[t5,eq4];simp only[aQl,aQW]at el;refine aQ #[aTA,hl4,_,two,ZDa];have st:=#[h8,#[cd,x,o]];refine⟨l,_,_,rfl,rfl,st _ _ hl4,Za9c,_,_,qs++[(x,o)],rfl,cH (ZwV st) hl,CT hl4 pr ht,?_⟩;rw[<-eq4];simp only[aXf]
    ·rw[aQc tg]at eq4
     rw[show tY w i j=Zay by cases z:Zahh with
      | true=>exact #[oU,tg]
      | false=>rfl]
     exact au (dE _ _ qs rfl s4 N_ eq4)
   intro σ H4 a_;obtain⟨v6,v7,qs,rfl,s4,N_,eq4⟩:eX:=a_;rw[Z9,aZj]at eq4;exact ⟨_,_,_,_,qs,rfl,s4,N_,eq4⟩
  intro σ H4 a_;obtain⟨v4,v5,v6,v7,qs,rfl,s4,N_,eq4⟩:jr:=a_;rw[Z9,aZj]at eq4;have eq4:qs++[]=Zr7:=eq4;rw[aXl]at eq4;rw[eq4]at N_;exact#[bK,k l H4 hl s4 N_]
def Ij (F:#[ar,ZD8,ZD8,tM])(jJ:#[UV,ZQN,3,Gv])[241](gB:#[aNY,ZJT,(wf n)]):#[bi,(n+4+1),ZU1,(wf (n+1))]:=by
 refine #[aoh,iI]
 ·obtain⟨p,d,bs,tv,f,rfl,_⟩:=h
  rfl
 ·obtain⟨p,d,bs,tv,f,rfl,td,hf,kn,k1,k2⟩:=h
  have hu:=ZbD;have sl:Za9b:=aQU
  refine ⟨_,(ae (bh 2 Zw3 ZEs) (
   ae #[mA,ZaA,(jW hu Zaq ZEs ZEo)] (
   ae (aN #[hG,ZaA] (ae (bh 3 Zw3 #[mn,gB,#[pv,ZEs]]) (
   ae #[md,#[vh,ZaO],ZjE] (
   #[cs,#[aUb,ZaO]]))) ZqJ) (
   ae #[za,ZaA,#[mn,jJ,Zmg]] (
   ae (bh 4 Zw3 Zfn) (
   ae (eO aQ2 rfl ZKs (gv 5 Zw3) (ae (bh 6 Zw3 #[mn,gB,#[pv,Zfh]]) (
   ae #[JB,#[vh,ZjF],(CN #[xB,L5,(aL d8 #[ak5,ZyO] #[ak5,#[me,6]])]),ZjE] (
   af (bh 4 Zw3 (aL Kq ZcT ZjF)))))) (
   #[Fl,4]))))))),?_⟩
  try dsimp only[cxK,cxK']
  obtain⟨xs,hp⟩:=hf.hd;refine Za3V
  cases f with
  | name w =>
   refine Zmp;rw[EX];obtain⟨e1,wl⟩:=hf
   cases e:Zlv with
   | none=>exact ZasX
   | some x =>
    have g1:=td.get w;rw[e]at g1;refine aQ #[a0q,p,1,ZdH,d,g1];rw[aA.len,aA.rowF,show ZLX by unfold iP;rw[e],show ZaQ5 by unfold lA;rw[e]]at k1;rw[aA.len,show ZLX by unfold iP;rw[e]]at k2;have tr:=td.r x Zvi
    by_cases lg:ZaDi
    ·show ZaR6
     rw[tr.2 lg];exact k2 lg H ZPT
    ·refine aK (tr.1 Zaf) fun l e2 r _=>?_
     show ZaR6
     rw[e2];exact k1 Zaf l H ZPT r
  | pl f =>
   refine Zmp;rw[EZ];refine Zmq;rw[EY];refine Zmq;rw[E3];rw[aA.len,aA.rowF]at k1;exact aQ #[Hn,hf.1,hf.2,fun l H1 _ s1 r=>k1 (bH.rl hf.2) l H1 s1 r]
  | back f =>
   refine Zmp;rw[EW];refine Zmq;rw[EV];obtain⟨q,e1,e2⟩:ao:=hf;rw[aA.len]at k1 k2;rw[aA.rowF]at k1;have kn:=Zacf;refine aQ ⟨_,rfl,p,_,1,_,rfl,rfl,ZdH,rfl,_,rfl,q,d,bs,tv,f,rfl,td,e2,kn,fun le l H1 s1 r=>?_,fun lg H1 s1=>?_⟩
   ·obtain⟨as,q_,pr⟩:=r
    refine#[nq,⟨_,rfl,l,_,rfl,Zbh q_,#[Qi,k1 le l2 _ ZaD2 ?_]⟩];rw[<-List.map_reverse];exact ZaZX
   ·exact#[eH,#[agk,lg]]
  | row fs =>
   refine Zmp;rw[E5];refine Zmq;rw[E4];refine Zmq;rw[Ji];obtain⟨t,as,e1,e2,fl,pr⟩:bB:=hf;have al:=ZgE;rw[aA.len]at k1 k2;rw[aA.rowF,pX]at k1;have kn:=ZaD';refine ZaRk;have s1:=ZaDg;refine ZaqX
   refine oS (K:=K) (a:=t) (xs:=ZEk) #[dq,∃ (l:Addr)(v3 v5 v6:Zgj),σ=[ZfM,Zyj,#[tW,#[amm,0].word],v3,Zg6,v5,v6]/\Zfi/\dh HK l ZaXW/\Zadb<=Zbz]
    (iU l0 Zac Zac Zac rfl s1 Zvr #[ih,aZL,Zl4,Zcr]) Za1_ ?_ ?_
   ·intro i y σ HK hi a_;obtain⟨l,v3,v5,v6,rfl,s2,row,ll⟩:jD:=a_
    obtain⟨a,ha,rfl⟩:ao:=ZbL;refine Zaqf;have um:=ZabS
    have tk:#[Ur,Zaay]=Zadb+ZZF:=by rw[xg,xg,aQM,hu,aQK,aQt,Zbae];simp
    have tl:=uo (e:=iP bs) Zce fs;refine⟨_,rfl,_,rfl,a,d,bs,tv,u,rfl,Zsx s2,ZBs,kn u um,fun le l3 H3 s3 r3=>?_,fun lg H3 s3=>?_⟩
    ·have s23:=ZaaN
     have r2:=ZaCc;refine #[c8,r2,fun cs j_ pc=>?_];refine #[c8,r3,fun ds hl4 pd=>?_];have rl1:=ZZq;have rl2:=aQx pd;have bx1:=Zami ZanB Zys (#[gc,ZaZF]) ll;rw[pX]at bx1;have cj3:=#[aQC,ZanB,le];refine#[nq,⟨_,rfl,l,_,rfl,ZaCp,_,rfl,l3,_,rfl,#[h4,hl4],_,_,rfl,rfl,_,_,rfl,rfl,_,rfl,?_⟩];rw[Z9,Z9]
     by_cases ov:Zadb+ZZF<=Zbz
     ·rw[ZqZ]
      refine au ⟨_,rfl,_,rfl,l,l3,_,_,rfl,rfl,j_,hl4,ZWk,fun l5 hl5=>?_⟩;refine iU l5 _ _ _ rfl (s23.trans (ah hl5)) ?_ Zaf;rw[aQM,hu,aQK,List.flatMap_append,List.flatMap_singleton,<-aQt];exact #[aWg,#[j6,pc,ah hl5 _ _ z],#[VD,hl5]]
     ·rw[ZZc]
      exact aQ (k2 Zaf _ s23)
    ·exact#[eH,aQ (aQ (k2 Zaf _ ZaFo))]
   intro σ HK a_;obtain⟨l,v3,v5,v6,rfl,s2,row,ll⟩:jD:=a_;rw[Z9,al,aQH]at row ll;exact#[bK,k1 ll l HK s2 row]
def vR (F:#[ar,Zw4,Zw4,eY])[241](dP:#[aGA,Zfg,(C9 n)]):#[aWJ,C9]:=by
 refine #[aoh,gK]
 ·obtain⟨p,f,rfl,_⟩:=h
  rfl
 ·obtain⟨p,f,rfl,hf,g,tl,k⟩:=h
  have sl:Za9b:=aQU
  refine ⟨_,(ae (bh 1 gK.nd ZEs) (
   ae #[AB,ZEs] (
   ae #[AB,#[tR,#[jH,#[mn,dP,ZEw]]]] (
   ae #[AB,#[tR,#[jH,#[Ho,#[g1,dM,am eY,jV,ZP7,Zh5,Dk,ZKs,#[xn,ZP7,#[mn,dP,Zmg]]]]]]] (
   ae (bh 2 gK.nd (bR mq Zak0 Zsr aX3 (c5 (iF C4 Zak (gI (aj)) qE)))) (
   ae #[Ab,#[yc,Zaq],(bh 2 gK.nd (bR mq Zak0 Zsr aX3 ZEw))] (
   #[cs,#[tR,(aL bE #[tR,#[jH,Zaq]] #[Ho,#[g1,dM,am eY,jV,ZHt,Zh5,Dk,#[x6,2],#[xn,ZHt,Zavm]]])]]))))))),?_⟩
  try dsimp only[cxK,cxK']
  obtain⟨xs,hp⟩:=hf.hd;refine Za3V;refine Zmp
  have b1:ZacS:=Zao
  have b2:ZaFA:=Zao
  have b3:#[hW,"(",1]:=Zao
  have b4:#[hW,ZamL,6]:=Zao
  have b5:#[hW,ZamM,5]:=Zao
  have la:∀ x y:Str,ZaXb:=strLen_append
  cases f with
  | name w =>
   rw[EX];refine aQ #[a1X,p,Zbg hf.1,?_];have:=Zafa;rw[aA.txt,jc]at this;exact this
  | back f =>
   rw[EW];refine Zmq;rw[EV];obtain⟨q,e1,e2⟩:ao:=hf;have bt:=GZ f;refine aQ ⟨_,rfl,p,_,1,_,rfl,rfl,ZdH,rfl,q,f,rfl,e2,g,Zae,#[any,bS _ _ rfl rfl #[jo,iW] ⟨_,_,rfl,rfl,#[f8,la,iW],?_⟩]⟩;rw[RA];exact ZLQ
  | row fs =>
   rw[E5];refine Zmq;rw[E4];refine Zmq;rw[Ji];obtain⟨t,as,e1,e2,fl,pr⟩:bB:=hf;have al:=ZgE;have fl60:=g.2.1;refine aQ ⟨rfl,_,rfl,p,_,1,_,rfl,rfl,ZdH,rfl,t,rfl,ZayY,Zid⟩
   refine oS (K:=K) (a:=t) (xs:=ZEk) #[aRv,Zsc,ZTC]
    Zvd ZaEF ?_ ?_
   ·intro i y σ HK hi a_;obtain⟨v,rfl,s2,x_⟩:aK:=a_
    obtain⟨a,ha,rfl⟩:ao:=ZbL;refine Zaqf;have um:=ZabS;have:=II um;refine ii ⟨_,rfl,a,u,rfl,ZBs,g.2.2 u um,Zae,#[aMD,#[aFL,s5]]⟩;rw[ac,aQM,hu,aQK,aQt,aQt];rfl
   intro σ HK a_;obtain⟨v,rfl,s2,x_⟩:aK:=a_;rw[Z9,al,aQH]at x_
   have jl:#[aZR,Zi5,ZTC]:=by
    have:=aXa ZbbP (QB g.1);rw[iW,la,la]at this
    lia
   refine fC _ q (Zi5 ZTC) rfl rfl (Zbh x_) (AN (B:=ZamK) (Zqs) ?_) #[a3N,Zae,#[gJ,la]]
   ·obtain⟨u,hu,rfl⟩:ao:=ZIL
    have:=II hu;rw[iW]
    lia
   ·rw[Z9,b1]
    lia
   rw[QB g.1];exact k HK s2
  | pl f =>
   obtain⟨hA,ok⟩:=hf;have gs:=g.2;have ok1:=ok.1;have ok2:=Zqh;rw[EZ];refine Zmq;rw[EY];refine Zmq;rw[E3];refine au #[ti,p,_,Zmu,?_,ZX6]
   ·intro z
    have z1:=z.1;rw[#[et,ZmT=#[a4,1]],HT.sIx_nat,aQB]at z1
    lia
   rw[Ll,aZO,aZk];have s1:=#[gn,xs,ht1];refine⟨t1,_,rfl,#[pB,ac],ZX7⟩;have s2:=#[HT,#[mL,xs,q_]];refine Zmp
   apply #[ri,∃ lg:Addr,σ=[ZfM,#[tW,ZdB],#[bv,lg]]/\Zuw/\#[fj,lg,#[hN,ZwB]]]
   ·intro rest
    by_cases cp:ZayJ
    ·obtain⟨a,b,rfl⟩:ZaL4:=by
      cases f with
      | pair a b=>exact ZaOd
      | _=>cases cp
     have hp2:ZMf:=hA
     have ex:xs=Zzw:=by
      have:=hp.symm.trans hp2;injection this with this;injection this with this;injection this
     subst ex;rw[#[HG,#[lL,#[aN',(aA.pl (ZD5 a b))]]]];exact #[p7,#[cC,l1,s2,ac]]
    ·have cp:ZAQ:=by cases e:f.isP with | true=>exact #[oR,e,cp] | false=>rfl
     refine ao (hA.gr cp) ZTS
     have wn:#[lM,#[aN',Zq7]]:=by
      cases f with
      | pair a b=>cases cp
      | line g=>show #[IY,Za7];decide +kernel
      | star g=>show #[IY,ZbS];decide +kernel
      | all g=>show #[IY,Zcc];decide +kernel
      | quad a b c d=>show #[IY,ZcQ];decide +kernel
     rw[wn];exact aQ ⟨_,rfl,p,_,1,_,rfl,rfl,#[e7,s2,e1],rfl,q,_,rfl,#[pB,ZaCk],#[anA,WY (ZdX _ _ #[cC,l2,ZgO (ah j_),ac])]⟩
   intro σ H3 a_;obtain⟨lg,rfl,s3,hlg⟩:aK:=a_
   have wl:f.word.length<=4:=#[aL,eI,Qq f]
   refine⟨_,rfl,_,_,rfl,rfl,Zae,_,_,rfl,rfl,#[gJ,la],rfl,_,rfl,lg,rfl,#[e',hlg],Zij⟩;refine m8 (fun x:Int=>Zau x) (rs:=Zl7) (f:=#[cV,Zag (gV x)]) hc hlg Zaf (fun x HK Q' hx sK kk=>#[bK,Zap #[cC,x,JR (gs x hx),ZPW]]) (fun H4 s4 hc4=>?_)
   have jl:#[aZR,ZwB,gV]:=by
    have:=aXa ZbbP (T3 (f:=f) Zaf);rw[iW,la,la,la,la]at this
    lia
   refine fC _ c (ZwB gV) rfl rfl (Zbh (#[tD,hc4])) (AN (B:=100) (Zqs) ?_) #[a3N,#[f8,la,la],#[rP,la,la,la]]
   ·obtain⟨x,hx,rfl⟩:ao:=ZIL
    have:=(nc (gs x hx)).2;rw[eI]
    lia
   ·rw[Z9,b1]
    lia
   rw[#[cD,T3]];exact k _ ZadW
def Az (F:#[ar,ZQO,ZQO,lU]) : #[cH,ZaUt,Ug]:=by
 refine #[aoh,AE]
 ·obtain⟨w,k,j,rfl,_⟩:=h
  rfl
 ·obtain⟨w,kk,j,rfl,k⟩:=h
  refine ⟨_,ae #[md,#[hF,zZ,ZaA,Zaq],(ve)] (
   ae #[mA,Zak,(mz bF Zaq (aj) ZhE)] (
   #[cs,((TZ (mz bF Zak (ak) ZhE) (Gb (mz bF ZaA ZyZ ZhE))))])),?_⟩
  try dsimp only[cxK,cxK']
  refine ZaLE;unfold tY at k
  by_cases c1:j<=kk
  ·rw[#[py,j,ZHF]]
   rw[aQd c1]at k;exact ZgC
  ·rw[#[s6,j,ZHF]]
   rw[aQc c1]at k;refine Zmq
   by_cases c2:ZaCs
   ·rw[aQe (aXa ZaC c2)]
    rw[aQd c2]at k;refine aQ #[c3,rfl,?_];rw[#[bn,#[ux,Zau ZHF=Zau 0,kk,0],ZPC ⟨ZadD,#[aH,ZzK]⟩]];exact k
   ·rw[#[Ez,c2]]
    rw[aQc c2]at k;refine Zmq
    by_cases c3:ZJm
    ·rw[aQe (aXa ZaC c3)]
     rw[aQd c3]at k;exact ZgC
    ·rw[#[Ez,c3]]
     rw[aQc c3]at k;refine au #[ahl,rfl];rw[#[bn,#[ux,Zau ZkX=Zau (ZHF+1),j,kk+1],ZPC ⟨ZadD,#[aH,ZzK]⟩]];exact k
def vQ (F:#[ar,ZQP,ZQP,jy])[134][152] : #[bi,4,ZaHe,XC]:=by
 refine #[aoh,oj]
 ·obtain⟨t,td,w,m,ls,H0,es,d,L,rfl,_⟩:=h
  rfl
 ·obtain⟨t,td,w,m,ls,H0,es,d,L,rfl,ht,M,htd,dn,hL,nm,hl,k⟩:=h
  refine ⟨_,(ae (bh 2 oj.nd #[lj,m5,ZEs,ZEs,Zaq]) (
   ae #[za,ZEr,#[jH,ZEr]] (
   ae (bq #[ct,kh,(fG Zak ZaFa)]) (
   Zxz)))),?_⟩
  try dsimp only[cxK,cxK']
  have at0:#[aZv,0,ZGb]:=ZbU;have at1:#[aZv,1,ZYU]:=ZAn;refine⟨_,rfl,t,_,_,_,rfl,rfl,ZqV,at0,_,rfl,t,_,_,_,rfl,rfl,ZqV,at1,_,rfl,w,m,td,_,_,d,rfl,M.hw,M.hm,htd,fun r H1 hr1 s1 h1=>?_⟩;have o0:GM (PZ ZaTs) 0=Zab (ZaC (Ga ZaTs)):=aR (j:=0) (Xo _);refine#[jg,r,_,ZTW,o0];rw[EE]
  have pr:ZacT:=by
   have:=qF dn (#[E9,nm,(aZa _ hx)]) Zde
   rwa [aQH]at this
  rw[Hq pr.al]at o0 h1 ⊢
  by_cases hj:#[AG,d]
  ·rw[aQe hj]
   have ne:jE es d=Zab8:=by unfold jE;rw[Zc9]
   refine au #[cR,_,Zarb,ZX7];have s2:=#[mL,ZaEd,q_];have h2:#[a5,H1,l1,ZaHJ,l1,ZaHJ]:=ac;have s02:=Zhf;have l10:=Zsg q_;generalize upd H1 l1 (Za6 ZaEd)=H2 at s2 h2 s02 ⊢
   have lls:l1≠ls:=by
    refine ao M.hs fun as hs _=>?_
    exact fun z=>by rw[z,hs]at l10;cases l10
   refine⟨t,l1,w,m,ls,H0,es,[d],L,rfl,s02 _ _ ht,ZaEQ,⟨[td],h2,ZaB (s02 _ _ htd) Zan⟩,lls,iS dn hj,hL,nm,Zvg,fun H3 M3 k3=>?_⟩;have:=#[aVI,H3,M3,fun b o e n1 n2 n3=>k3 b o #[c4,s02] n1 n2 n3];unfold Ow at this;rw[Zc9]at this;exact this
  ·rw[aQg hj]
   have ne:jE es d=es:=by unfold jE;rw[ZgB]
   have ll:#[aXZ,ZgZ,d]:=by
    cases bo (bd es) d with
    | noguest g=>exact ZaYe
    | _=>decide +kernel
   refine #[a1K,r,ZTW,o0];have:=#[aVI,H1,Zw5 s1,#[bbM,s1 b o e]];unfold Ow at this;rw[ZgB]at this;exact this
def xG (F:#[ar,ZQQ,ZQQ,ig])(rH:#[ba,ZQD,3,[Zd2],IW]) : #[bi,4,[Zd2],Ag]:=by
 refine #[aoh,oY]
 ·obtain⟨w,W,rfl,_⟩:=h
  rfl
 ·obtain⟨w,W,rfl,hw,wl,pw,sm,k⟩:=h
  refine ⟨_,(ae (bh 1 oY.nd #[ct,rH,Zmg]) (
   ae #[nn,(jd (CM Zaq ZjS))] (
   #[cs,#[Ho,#[g1,dM,am ig,pR,ZbaM,Zh5,Dk,ZI',#[xn,ZbaM,#[a2k,ZbaM,ZHt,ZHt]]]]]))),?_⟩
  try dsimp only[cxK,cxK']
  refine⟨_,rfl,w,W,rfl,hw,wl,pw,fun l H1 hl s1 h1=>?_⟩;obtain⟨rl,rsz⟩:=IG pw wl sm;refine #[c8,h1,fun as ha hp=>?_];have al:=ZAj;refine⟨_,rfl,_,Zal #[dk,Zbh ha],?_⟩
  by_cases z:gJ W=[]
  ·have a0:as=[]:=ZbbQ (#[ex,al,z])
   subst a0;have:=ZLQ;unfold tp at this;rw[ZeM]at this;exact aQ ZbR
  ·have a0:∃ a0 at1,as=a0::at1:=by
    cases as with
    | nil=>exact #[oT,ZbbQ,al.symm,z]
    | cons a0 at1=>exact #[dk,_]
   revert a0;intro b_;obtain⟨a0,at1,rfl⟩:RK:=b_;refine au #[aTQ,l,ha,fun q2 x_=>CQ (K:=K) x_ h1 rl rsz fun H2 s2 h2=>?_];refine fC _ q2 ((gJ W).map xX) rfl rfl (Zbh h2) (EI rl rsz) ?_;have:=#[aVC,H2];unfold tp at this;rw[Zec]at this;exact this
def Il (F:#[ar,ZQR,ZQR,tQ])(C_:aZ P w K mg ZaS eR ze "say" 41 ZZj ZaI7) : #[bi,42,[ZP9,ZDD,Zsq],ZaI8]:=by
 refine #[aoh,Af]
 ·obtain⟨e,z,r,rfl,_⟩:=h
  rfl
 ·obtain⟨e,z,r,rfl,k⟩:=h
  refine ⟨_,(ae (bh 3 Af.nd (dJ C_ Zak Zgh ZbI fW Zmf)) (
   #[cs,((P9 (bC OB Zak0 T.isinstance PyProof.Rows.boot_isinstance #[c6,ZaO,(SJ (v:=.ty Zf2) Zak0 T.str aX8 rfl),bz]) (Gb (mz bF ZaO ZaA ZhE))))])),?_⟩
  try dsimp only[cxK,cxK']
  refine iw k.ob fun e' z' dx a_=>?_;obtain⟨x1,x2,x3,hv,h1⟩:ko:=a_;cases hv;refine⟨_,rfl,e,dx,_,rfl,h1,ZuN,_,rfl,?_⟩;refine k.imp fun v H1 q=>?_;revert q;intro b_;obtain⟨y,rfl,q⟩:ao:=b_;refine⟨_,rfl,_,_,_,Zad,rfl,wH.str _,rfl,_,rfl,aQ #[mo,_,rfl,rfl]⟩;rw[#[bn,#[ux,#[dE,y,r],y,r],ZPC ⟨Zr3,aXa _⟩]];exact q
def Ay (F:#[ar,Zw6,Zw6,lT])[241](dy:#[aGz,Zfg,(uz n)]):#[aWJ,uz]:=by
 refine #[aoh,jn]
 ·obtain⟨p,f,rfl,_⟩:=h
  rfl
 ·obtain⟨p,f,rfl,hf,nl,k⟩:=h
  have sl:Za9b:=aQU
  refine ⟨_,(ae ZaKt (
   ae #[Eu,#[mn,dy,ZEw]] (
   ae (bh 1 jn.nd Zfn) (
   ae #[EE,#[hG,ZEs],eO aQ2 rfl ZKs (gv 2 jn.nd) (af (bh 1 jn.nd (aL Kq Zaq #[mn,dy,Zmh])))] (
   ZJl))))),?_⟩
  try dsimp only[cxK,cxK']
  obtain⟨xs,hp⟩:=hf.hd;refine Zre
  cases f with
  | name w =>
   rw[EX];obtain⟨e1,wl⟩:=hf;exact #[a1L,#[DH,ZaLw]]
  | pl f =>
   rw[EZ];refine Zmv;rw[EY];refine Zadk;have s1:=ZxX;refine ZaD9;rw[E3];exact #[mP,k l _ hl s1 ac]
  | back f =>
   rw[EW];refine Zmv;rw[EV];obtain⟨q,e1,e2⟩:ao:=hf;rw[aA.names]at nl k;exact aQ #[GF,p,1,ZdH,rfl,q,f,e2,nl,k]
  | row fs =>
   rw[E5];refine Zmv;rw[E4];refine ZaRk;have s1:=ZaDg;refine ZaD9;rw[Ji];obtain⟨t,as,e1,e2,fl,pr⟩:bB:=hf;have al:=ZgE;rw[aA.names]at nl k;refine aQ ZaqX
   refine oS (K:=K) (a:=t) (xs:=ZEk) #[dq,∃ (v:Zgj)(l:Addr),σ=[ZfM,Zg6,v]/\Zfi/\Zgr/\HK l=Zab #[hT,(ZcP (Zsc i)).map]]
    (bS Zac l0 rfl s1 hl0 ac) #[yC,ZLO] ?_ ?_
   ·intro i y σ HK hi a_;obtain⟨v,l,rfl,s2,hl,j_⟩:bB:=a_
    obtain⟨a,ha,rfl⟩:ao:=ZbL;refine Zaqf
    have nt:ZcP Zaay=ZcP (Zsc i)++u.names:=by rw[aQM,hu,aQK,qy,ZcP,ZcP,aXl]
    have nt2:=HV (i+1) fs;have nt3:=#[t5,nt];rw[aQl]at nt3;refine#[ti,a,u,ZBs,Zae,fun l3 H3 hl3 s3 h3=>?_];refine#[aYF,ZaCi,h3,fun l4 h4=>?_];refine bS _ l4 rfl #[aQU,h4] (#[aFo,0].free h4) ?_;rw[ac,nt,aQt]
   intro σ HK a_;obtain⟨v,l,rfl,s2,hl,j_⟩:bB:=a_;rw[Z9,al,aQH]at j_;exact#[bK,k l HK hl s2 j_]
def uL (F:#[ar,ZQS,ZQS,f6])[48][134][126][152] : #[aQc,ZgQ,Ze6,KP]:=by
 refine #[aoh,cx]
 ·obtain⟨t,d,p,w,m,ls,es,bs,tv,f,cn,rfl,_⟩:=h
  rfl
 ·obtain⟨t,d,p,w,m,ls,es,bs,tv,f,cn,rfl,ht,M,td,hf,fl,x5,dW,sp,k⟩:=h
  have hu:=ZbD
  have two:Zpi:=ZaF
  have three:ZZR:=ZaF
  have cq5:#[ph,1]:=ZaF
  have sl:Za9b:=aQU
  refine ⟨_,(ae #[a16,f6,nZ,ZS'] (
   ae (bh 3 Zsy #[tL,gB,ZaA]) (
   ae #[nn,#[vh,ZaO]] (
   ae (bh 4 Zsy #[e9,(bR qj Zak0 ZP' aZn ZEw),(bR JB Zak0 ZP' aZn ZEw)]) (
   ae (eO aQ2 rfl ZJJ #[vy,5,Zsy,6,Zsy] (ae (bh 7 Zsy #[lj,m5,ZIn,ZIn,Zagr]) (
   ae #[za,Zazl,#[jH,Zazl]] (
   af (bq #[lj,jA,ZIn,ZIn,Zagr]))))) (
   ae (eO aQ2 rfl ZJJ #[vy,5,Zsy,6,Zsy] #[jv,#[ct,kh,(fG Zak #[y3,Zagr])]]) (
   #[cs,#[jH,#[ak7,(c5 (bC bU Zak0 T.len aQ4 ZqY))]]]))))))),?_⟩
  try dsimp only[cxK,cxK']
  refine#[Hn,hf,Zae,fun l5 H1 hl5 s1 q_=>#[le,l5,q_,Zid]];refine m8 ZaUh (rs:=f.names) (f:=fun z=>.bl (decide (z∈bs.map (·.w)))) hq q_ Zaf (#[bbR,?_]) (fun H2 s2 hc2=>?_)
  ·refine#[BB,d,(Zsx (ZgR sK)).get z]
   rw[Jy];exact ZPW
  refine⟨q,f.names.map fun z=>decide (z∈bs.map (·.w)),rfl,#[qM,ZaEh],_,rfl,?_⟩;have s02:=Zhf
  by_cases kn:Zcv
  case neg =>
   rw[show (f.names.map fun z=>decide (z∈bs.map (·.w))).all id=false from ZaSK];have:=k H2 (by unfold dncE;rw[ZaR4];exact ZaEQ) #[HS,s02];unfold dncS at this;rw[ZHZ]at this;exact aQ ZbR
  rw[ZaEa];have td2:=Zsx s02;refine #[a1H,td2,s02,fun le l H3 s3 row=>?_,fun lg H3 s3=>?_]
  case refine_2 =>
   have s03:=ZaaO;have:=k H3 (by unfold dncE;rw[ZaNF];exact ZaEP) #[HS,s03];unfold dncS at this;rw[ZqS,ZnI]at this;exact#[eH,aQ ZbR]
  have s03:=ZaaO;have sp:=sp kn le
  have kD:#[Vh,ZaRM]:=by unfold dncE;rw[Zae']
  have kS:dncS es bs f=Za15:=by unfold dncS;rw[ZqS,ZYz]
  have pl:Zaux:=#[aL,#[aSk,le],le]
  rw[kD,kS]at k;clear kD kS;generalize ZDl=ps at sp row k pl;have ht3:=s03 _ _ ht;have M3:=ZaEP;have at0:#[a1A,0,x]:=fun {x y z}=>ZbU;have at1:#[a1A,1,y]:=fun {x y z}=>ZAn;have bt0:#[aMZ,0,x]:=fun {x y}=>ZbU;have bt1:#[aMZ,1,y]:=fun {x y}=>ZAn;have P5:=ZDu x5.dn x5.nm
  have aj9:r6 ((B8 (gR es)).map (·.1)):=RS (c:=cn) fun p hp=>by
   obtain⟨h1,h2⟩:=PB P5.ci P5.al P5.mo p hp;exact⟨vK h1 ZaG,vK h2 ZaG⟩
  refine ZaD1;refine⟨_,rfl,t,_,_,_,rfl,rfl,Zbg ht3,at0,w,_,rfl,M3.hw,fun w2 bx3=>?_⟩;have g1:=#[gm,.dK (dk Zqg),bx3];have hw1:#[a5,H3,w2,Zaz7,w2,Zaz7]:=ac;generalize upd H3 w2 #[bT,Zqg]=H4 at g1 hw1 ⊢;refine#[GF,t,_,#[e7,g1,ht3],at1,m,_,g1 _ _ M3.hm,aj9,fun m2 az2=>#[pA,fun t9 ht9=>?_]];have g2:=#[gm,.dT (B8 (gR es)),az2];have g3:=#[gn,ZHm,ht9]
  have wm2:w2≠m2:=fun z=>by rw[<-z,hw1]at az2;cases az2
  have hT9:#[yQ,ZaQL,t9,ZHm,t9,Zazc]:=ac;have hm5:=g3 _ _ (show #[a5,H4,m2,ZXj,m2,ZXj] from ac);have g23:=ZwW g3;have hw5:=g23 _ _ hw1;generalize #[cL,ZaQL,t9,ZHm]=H5 at hT9 hm5 g23 hw5 ⊢;have s05:aG H H5:=Zang (ZDJ g23);have w2n:#[a_,w2]:=Zanh bx3;have m2n:#[a_,m2]:=(Zang g1).free az2;have bz3:=ZQz (ZDJ g23);clear row bx3 az2 ht9 g1 g2 g3 g23 hw1 ht3 M3 td2;refine #[c8,bz3,fun as aj6 hp5=>?_];have asl:=aQx hp5
  have nw:#[aU6,.dK,w2]:=#[aM0,hw5]
  have nmm:#[aU6,.dT,m2]:=#[aM0,hm5]
  have sK:∀ {HH:Hp},(ZaLy)->Zuw:=fun kk b o e=>kk b o ZaaD (aq e w2n) (aq e m2n)
  have L15:#[bf,ZK',15]:=by unfold namesL;rw[Z9,aXq];decide
  refine⟨_,rfl,l,rfl,#[e',aj6],cZ (K:=K) (a:=l) (xs:=ZEk) #[uc,#[a32,ZWq,ZxY=Zawp/\(#[fA,ZRm,Zaed])/\#[fj,w2,#[bT,ZaxT]]/\#[fj,m2,#[Vm,ZaJA]]/\ZaLy]]
   ⟨Zac,Zac,Zac,rfl,(by simpa using x5.dn),ZaV,(by simpa using x5.nm),(by simpa using hw5),(by simpa using hm5),(fun b o e _ _=>e)⟩ (fun i σ HH _ ⟨_,_,_,_,_,_,_,_,_,kk⟩=>bT.of (kk _ _ aj6 (nw aj6 (by intro kv z;cases z)) (nmm aj6 (by intro kv z;cases z)))) ?_ ?_⟩
  ·intro i y σ HH hi a_;obtain⟨v1,v2,v3,rfl,di,bi,nmi,hwi,hmi,kk⟩:kX:=a_
   obtain⟨b,hb,rfl⟩:ao:=ZbL;refine #[N',hp5,hb,ZHR];have hbK:ZaJz:=kk _ _ hB (nw hB (by intro kv z;cases z)) (nmm hB (by intro kv z;cases z));have bx8:#[fj,t9,Zazc]:=kk _ _ hT9 (nw hT9 (by intro kv z;cases z)) (nmm hT9 (by intro kv z;cases z));have hsm:=ZagA;have ed:=Zahy;rw[<-bi]at ed;have en:=ZK_;have Pi:=ZDu di nmi;have ll:=Pl di nmi L15 (by have:=x5.ln;lia);refine ZLs;refine#[a4m,Zay1,Zay1,fun tt htt=>?_];have sT:=ZaJY;have hTT:#[af2,HH,tt,tt]:=ac;generalize #[cL,HH,tt,ZxG]=HT at sT hTT ⊢;refine⟨w2,m2,tt,_,_,fb e,rfl,sT _ _ hwi,sT _ _ hmi,hTT,fun r2 H12 hr2 A_ bx5=>?_⟩
   have ej:d6 ZaxT (vH (gR ZRn)) (fb e)=ZaP4:=#[bm,LK,w8 Pi.al]
   rw[ej]at bx5;have k12:#[awd,H12]:=#[bbS,A_ _ _ (sT _ _ (kk b o h1 h2 h3))];have o0:∀ o:Fc,GM (PZ o) 0=Zab (ZaC (Ga o)):=fun o=>aR (j:=0) (Xo o);refine#[jg,r2,_,Zay2,o0 _];rw[EE]
   by_cases hj:ZRp
   ·rw[Zc9,ZuW,<-en]at ed
    rw[aQe hj];have bv4:=A_ _ _ (sT _ _ bx8);refine au #[a4m,Zay3,Zay3,ZQo];have sT2:=#[gn,ZxG,ht2];have bv3:#[af2,H12,t2,t2]:=ac;generalize #[cL,H12,t2,ZxG]=HT2 at sT2 bv3 ⊢;have sS:=Zam7 (ZwX sT2);have pml:=Pi.ml;have pfl:=aXM yH ZRn;have wll:=ZaP9;refine⟨w2,m2,t2,_,_,fb e,rfl,sS _ _ hwi,sS _ _ hmi,bv3,Zae,Zae,ej.trans hj,fun H14 cz1 cz2 k14=>?_⟩;refine ⟨_,_,_,rfl,Zagw,ed,?_,?_,?_,(#[bbS,k14 b o (sT2 _ _ (k12 b o h1 h2 h3)) h2 h3])⟩
    ·rw[en]
     intro x hx g hg;rcases ZEa with z | z
     ·exact nmi x z g hg
     ·rw[Zdd]at hg
      obtain⟨q1,q2⟩:=ZLI;simp[fb,names]at hg;rcases hg with y | y<;>rw[y]
      ·exact ZadT
      ·exact Zad_
    ·rw[cz1,en,uB,Bi]
    ·rw[cz2,en,yP]
   ·rw[ZgB]at ed
    rw[aQg hj]
    have ll:#[aXZ,ZRo,Zp3]:=by
     cases ZaP4 with
     | noguest g=>exact ZaYe
     | _=>decide +kernel
    refine #[a1K,r2,Zay2,o0 _]
    have nb:#[mR,ZxY]:=#[aL,ed,hj]
    have sF:=sK k12;have:=k H12 (by unfold JF;rw[aQc nb];exact Zw5 sF) #[HS,sF];rw[aQc nb,ed]at this;exact this
  ·intro σ HH a_;obtain⟨v1,v2,v3,rfl,di,bi,nmi,hwi,hmi,kk⟩:kX:=a_
   rw[Z9,asl,aZj]at bi;have hb:ZxZ:=bi;have hl6:=kk _ _ aj6 (nw aj6 (by intro kv z;cases z)) (nmm aj6 (by intro kv z;cases z));have bz2:dh HH l ps:=⟨as,hl6,(Paired.mapP hp5 fun b e hB=>kk _ _ hB (nw hB (by intro kv z;cases z)) (nmm hB (by intro kv z;cases z)))⟩;have sF:=sK kk;clear di bi nmi hwi hmi kk nw nmm sK hT9 hm5 hw5 w2n m2n wm2 bz3 hp5 s05;have M6:=Zw5 sF;have ht6:=sF _ _ ht;have x6:=x5.dance sp hb;have lW:=QC M6 (OH _ x5.ne) bz2;refine #[c8,bz2,fun as6 hl6 hp6=>?_];have ak5:=aQx hp6;have mu:=B3 M6;have e6:=OR x6;rw[aQl,Z9]at e6
   refine⟨_,rfl,l,rfl,#[e',hl6],cZ (K:=K) (a:=l) (xs:=as6.map ZaN) (fun i σ HJ=>#[a32,#[Gh,HJ,ZRo,ZaJA],Kp Znc HH HJ])
    (jT v1 v2 v3 rfl (by simpa using M6) ZadN) (fun i σ HJ _ ⟨_,_,_,_,_,kk⟩=>#[qM,kk _ _ hl6 lW]) ?_ ?_⟩
   ·intro i y σ HJ hi a_;obtain⟨v1,v2,v3,rfl,MJ,kk⟩:eZ:=a_
    obtain⟨b,hb',rfl⟩:ao:=ZbL;refine #[N',hp6,hb',ZHR];have il:=ZZK;have hbK:HJ b=Zab ZavV:=kk _ _ hB #[Ul,hB];have htJ:HJ t=Zab ZUu:=kk _ _ ht6 #[Ul,ht6];have en:=ZK_;refine ZLs;refine#[t8,_,rfl,ZD4,fun tt htt=>⟨cq5,ZX7⟩];have sT:=ZaJY;have hTT:#[af2,HJ,tt,tt]:=ac;generalize #[cL,HJ,tt,ZxG]=HT at sT hTT q_ ⊢;have s2:=#[mL,ZaEe,q_];have h2:#[a5,HT,l1,ZaHK,l1,ZaHK]:=ac;have sT2:=Zam7 s2;have l10:=sT.free q_;generalize upd HT l1 (Za6 ZaEe)=HT2 at s2 h2 sT2 ⊢
    have lls:l1≠ls:=by
     refine ao MJ.hs fun bs' hs _=>?_
     exact fun z=>by rw[z,hs]at l10;cases l10
    have dnA:=x6.dn
    have e1:#[AL,0].take (Zde+Zce)=ZBm:=by
     rw[List.take_append,aXr ZtJ,#[fN,Zde+Zce,Zde,i+1],List.map_take]
    have dn1:cJ (ZBm):=#[aUJ,dnA]
    have nm1:#[fA,ZBm,Zaed]:=#[E9,x6.nm,(by rw[<-e1]at hx;exact aZH hx)];refine⟨t,l1,w,m,ls,Zs3,_,[fb e],Zqp,rfl,sT2 _ _ htJ,MJ.on sT2,⟨[tt],h2,ZaB #[mN,hTT] Zan⟩,lls,#[eV,en,dn1],Zae,#[eV,en,nm1],?_,fun H3' M3' k3=>?_⟩
    ·rw[<-en,aQl,Z9,aQQ];lia
    ·exact jT _ _ _ rfl #[aM,en,M3'] (#[anq,k3 b o (sT2 _ _ (kk b o e' n)) Zapz Zapz Zapz])
   ·intro σ HJ a_;obtain⟨v1,v2,v3,rfl,MJ,kk⟩:eZ:=a_
    rw[Z9,ak5,aQH]at MJ
    have nl:#[E2,ZQT,ZaDL]:=by
     have e:#[hW,ZQT,7]:=Zao
     have:ZaDL<=Zwy:=L4 (#[bn,bP Zaus,ZuA])
     lia
    refine⟨_,rfl,l,_,rfl,#[h4,(kk _ _ hl6 lW)],Zap (lG _ rfl ?_ _ ⟨_,rfl,rfl,?_,?_⟩)⟩
    ·rw[Z9,ak5];exact ZuA
    ·rw[Z9,ak5];exact nl
    ·have:=k HJ (by unfold JF;rw[ZjR];exact MJ) #[C0,kk b o #[ff,sF] n]
     rw[ZjR]at this;rw[Z9,ak5];exact this
def vS (F:#[ar,ZQU,ZQU,gO])[48] : #[aQc,Ze6,Zsn,KW]:=by
 refine #[aoh,v9]
 ·obtain⟨d,p,bs,tv,w,f,rfl,_⟩:=h
  rfl
 ·obtain⟨d,p,bs,tv,w,f,rfl,td,hf,fl,wok,bl,k1,k2⟩:=h
  have hu:=ZbD;have sl:Za9b:=aQU
  refine ⟨_,(ae #[nn,(ay ng Zaq ZaWj rfl)] (
   ae #[nn,(gZ (sY hu Zaq Zak))] (
   ae #[a16,gO,oX,Zacn] (
   ae (jk hu Zak Zaq #[ct,gB,(fG ZaA Zak)] rfl) (
   Zxz))))),?_⟩
  try dsimp only[cxK,cxK']
  refine#[c3,Zach,fun l1 h1=>⟨l1,ZQ5,rfl,Zaa4,rfl,Ej _,_,rfl,?_⟩];have t1:=ZaRt;have e1:Zbaw=ZaKs:=rfl;rw[#[agO,ZaKR,ZaKR,ZKp,wX w mi]];generalize ZaKs=H1 at t1 e1 ⊢
  try rw[e1]
  clear e1;unfold defO at k1 k2
  by_cases hw:ZKp
  ·rw[aQe hw]
   rw[aQd ((Ul wok).mpr hw)]at k1;exact aQ (k1 (fun z=>nomatch z) H1 t1)
  have nm:Zhb:=by
   cases e:iD w with
   | true=>rfl
   | false=>exact #[oT,(Ul wok).mp,e,hw]
  rw[aQg hw];rw[ZaJS]at k1 k2;refine au #[Mp,d,(Zsx t1).get w];rw[Jy]
  by_cases hm:w∈bs.map (·.w)
  ·rw[Zur]at k1
   rw[aQe hm];exact aQ (k1 (fun z=>nomatch z) H1 t1)
  rw[Zlc]at k1 k2;rw[aQg hm];refine au #[Hn,ZDT (#[iG,t1]),Zae,fun l5 H2 hl5 s2 j_=>#[le,l5,j_,Zid]];refine m8 ZaUh (rs:=f.names) (f:=fun z=>.bl (decide (z∈bs.map (·.w)))) hq j_ Zaf (#[bbR,?_]) (fun H3 s3 hc3=>?_)
  ·refine#[BB,d,(Zsx (ZwJ (ZgO sK))).get z]
   rw[Jy];exact ZPW
  refine⟨q,f.names.map fun z=>decide (z∈bs.map (·.w)),rfl,#[qM,#[tD,hc3]],_,rfl,?_⟩;have s03:=#[Hj,ZwJ]
  by_cases kn:Zcv
  case neg =>
   rw[show (f.names.map fun z=>decide (z∈bs.map (·.w))).all id=false from ZaSK];rw[ZHZ]at k1;exact aQ (k1 (fun z=>nomatch z) H3 s03)
  rw[ZaEa];rw[ZqS]at k2;have td3:=Zsx s03
  have put:#[bbT,ZaHW->nu H7 d ZjT v Zagj]:=fun v H7 s7=>by
   have q:=#[L_,v,(s7 _ _ td3.h)]
   rwa [pV _ #[ey,j8,jR.mpr hm]]at q
  have fin:#[bbT,ZaHW->((ZDN->∃ l,v=Zlb/\dh H7 l ZDk)/\(ZDO->v=ZaK))->#[hR,ZiY,Zagj]]:=fun v H7 s7 r=>by
   have h7:=s7 _ _ td3.h;have nd7:ND H7 Zagj:=FP h7;refine k2 rfl ⟨w,f,ZDM,ZDl,p,0⟩ _ _ rfl rfl ZjS ((td3.mono s7).snoc nd7 (x:=⟨w,f,ZDM,ZDl,p,0⟩) (v:=v) hm #[nw,ac] #[fc,ZGO,r]) ZaFi
   ·refine #[aNL,r.1,h]
    exact ⟨l,e1,e2.nd nd7,#[aSk,h]⟩
   ·rw[ZafM]
    exact s7 _ _ #[ff,s03]
  refine #[a1H,td3,s03,fun le l H4 s4 row=>?_,fun lg H4 s4=>?_]
  ·exact#[ag4,d,put #[aj,l] H4 s4,fin Zm3 H4 s4 ⟨#[bF,#[ii,l,row]],#[aH,Zae]⟩]
  ·exact#[ag4,d,put ZaK H4 s4,fin ZaK H4 s4 #[adh,ZGI]]
def y6 (F:#[ar,ZQV,ZQV,kJ])(vj:#[ba,ZQG,3,[ZbP],Uh]) : #[bi,4,ZaDj,Mw]:=by
 refine #[aoh,pZ]
 ·obtain⟨c,d,bs,tv,rfl,_⟩:=h
  rfl
 ·obtain⟨c,d,bs,tv,rfl,c0,td,b5,bl,k⟩:=h
  have hu:=ZbD;have sl:Za9b:=aQU
  refine ⟨_,(ae (bh 2 pZ.nd (aL Kq ZaWj ZaQ6)) (
   ae #[md,#[Wg,Zak],#[aRA,ZaB9]] (
   #[cs,#[ct,vj,Zmg]]))),?_⟩
  try dsimp only[cxK,cxK']
  refine⟨Zach,fun l1 h1=>?_⟩;have t1:=ZaRt;have m1:#[dR,l1,Zbav,l1,ZauI]:=ac;have t1:aG H #[bA,l1,Zbav]:=t1;generalize Zbaw=H1 at t1 m1 ⊢;refine⟨_,rfl,d,_,bs.map (·.w),rfl,t1 _ _ td.h,ZaEi,#[Qi,?_]⟩;have t2:=ah (o:=Za6 ((bs.map (·.w)).map V.str)) h2;refine⟨l1,l2,_,_,rfl,rfl,t2 _ _ m1,ac,?_,fun l3 h3=>?_⟩
  ·rw[Z9,Z9,Z9];show 6+_<=_;lia
  have s3:=#[cq,ZwJ,t2] (ah (o:=Za6 (ZQ5++(bs.map (·.w)).map V.str)) h3)
  have m3:upd (upd H1 l2 (Za6 ((bs.map (·.w)).map V.str))) l3 (Za6 (ZQ5++(bs.map (·.w)).map V.str)) l3=some (Za6 ((mi++bs.map (·.w)).map V.str)):=#[bm,ac,aQt]
  generalize upd (upd H1 l2 (Za6 ((bs.map (·.w)).map V.str))) l3 (Za6 (ZQ5++(bs.map (·.w)).map V.str))=H3 at s3 m3 ⊢;refine ZUp
  ·have lp:0<(mi++bs.map (·.w)).length:=#[Qr,aQl,0<6+_]
   refine⟨_,rfl,_,rfl,_,_,rfl,rfl,ZRk,_,rfl,l3,_,rfl,#[h4,m3],_,_,rfl,rfl,Ztn,?_⟩;rw[Z9];have i0:=aXg (c/3) (show (((mi++bs.map (·.w)).length:Nat):Int)≠0 by lia);have i1:=aQ9 (c/3) (show ZdF<(((mi++bs.map (·.w)).length:Nat):Int) by lia);obtain⟨j,hj⟩:=ZacK
   have jl:j<(mi++bs.map (·.w)).length:=Zae
   refine⟨l3,_,_,Zag (mi++bs.map (·.w))[j],rfl,rfl,Zbh m3,ZaUD,?_⟩;refine k _ H3 ?_ s3;rcases ZD9 (ZPy jl) with z | z
   ·exact Zal z
   ·refine ao (ZrW z) fun e he q=>?_
    exact #[fP,Zap,q,ZaFz]
  ·exact#[eH,fun w H4 nm s4=>k w H4 (Zap nm) ZadW]
def Ax (F:#[ar,ZQW,ZQW,lS])[96][145][125](qc:#[ba,ZQM,5,[ZDC,ZbP,Zsp],Gw])(dP:#[aGA,10,(C9 9)])(jo:#[aP3,ZQS,ZgQ,Ze6,KP])(lD:#[ba,ZQV,4,ZaDj,Mw])(jI:#[aP3,ZQU,Ze6,Zsn,KW]) : #[bi,15,ZahU,(Gy K)]:=by
 refine #[aoh,de]
 ·obtain⟨t,d,a,w,m,ls,ns,k,cn,es,bs,tv,rfl,_⟩:=h
  rfl
 ·obtain⟨t,d,a,w,m,ls,ns,k,cn,es,bs,tv,rfl,ht,M,td,hS,x5,b5,bl,dW,hk,k1,k2,k3,k4,k5⟩:=h
  have hu:=ZbD;have sl:Za9b:=aQU
  refine ⟨_,(ae #[nM,5,#[ct,gC,(c5 #[ct,eP,(fG ZaA ZaO)])]] (
   ae #[nM,6,#[ct,jB,(wu #[ct,eP,(fG ZaA (aL d8 ZaO (aj)))] ZdK (aj))]] (
   ae #[nM,7,ZaQ6] (
   ae #[jd,ZaH4,#[aoO,ZtF,(c5 (ak))]] (
   ae #[nM,8,#[lj,qc,ZjF,ZcT,ZtF]] (
   ae #[nM,9,#[ct,dP,#[me,8]]] (
   ae #[nM,10,(mz bF ZaDJ (aj) ZhE)] (
   ae #[Ab,ZavL,#[nM,9,(aM kM (dw #[c6,ZaEI,Zabo,#[awu,ZaEI]]) ZaDJ ZEo)]] (
   ae (aN ZaH4 (ae #[aNO,Zabo] (
   #[jY,Zabo,#[lj,jo,Zak,Zaq,ZHU]])) ZqJ) (
   ae #[nM,11,#[tL,lD,#[sK,Zfh]]] (
   ae #[aNO,ZaTo] (
   #[jY,ZaTo,#[lj,jI,Zaq,(pv 11),ZHU]])))))))))))),?_⟩
  try dsimp only[cxK,cxK']
  refine⟨_,rfl,_,rfl,a,ns,k,rfl,hS,Zae,_,rfl,?_⟩;have q0:0<=ZaZB:=Rw _;generalize ZaZB=kd at q0 ⊢;refine⟨_,rfl,_,rfl,_,_,rfl,rfl,a,ns,_,rfl,hS,Zae,_,9,219600,rfl,ZRk,ZRk,fun l1 ds q_ dps dln=>?_⟩;have s1:=#[EX,ZoC,q_];have m1:#[dR,l1,Zp_,l1,Zp_]:=ac;generalize upd H l1 Zp_=H1 at s1 m1 ⊢;refine⟨_,rfl,d,_,bs.map (·.w),rfl,s1 _ _ td.h,ZaEi,#[anA,?_]⟩;have s2:=s1.trans (ah (o:=Za6 ((bs.map (·.w)).map V.str)) j_);have l2n:=Zsg j_;have m12:=ah (o:=Za6 ((bs.map (·.w)).map V.str)) j_ _ _ m1;have m2:upd H1 l2 (Za6 ((bs.map (·.w)).map V.str)) l2=some (Za6 ((bs.map (·.w)).map V.str)):=ac
  have l12:l1≠l2:=fun z=>by rw[<-z,m1]at j_;cases j_
  generalize upd H1 l2 (Za6 ((bs.map (·.w)).map V.str))=H2 at s2 m12 m2 ⊢
  have bnm:∀ z∈bs.map (·.w),iD z=Zad:=fun z hz=>by
   obtain⟨e,he,rfl⟩:ao:=#[rX,hz];exact ZaFz
  apply #[ri,∃ ws:Zbp,σ=[ZGS,Zyj,ZTY,#[c0,k],ZaqT,#[c0,kd],#[bv,l1],#[bv,l2],Zac,Zac,Zac,Zac]/\Zuw/\#[fj,l1,Zp_]/\#[fj,l2,Zt0]/\(∀ z∈ws,iD z=Zad)/\Zkc<=60]
  ·intro rest
   refine ZUp
   ·refine⟨_,rfl,#[po,m2],l2,_,_,rfl,rfl,m2,ZWk,?_⟩
    refine rest _ _ ⟨bs.map (·.w)++[#[er,"lostlost"]],rfl,cH s2 l2n,#[gA,l12,m12],Zvk,(fun z hz=>?_),(by rw[aQl,Z9];show _+1<=_;lia)⟩;rcases #[D_,hz] with y | y
    ·exact bnm z y
    ·rw[ZaAU];decide +kernel
   ·exact rest _ _ ⟨bs.map (·.w),rfl,s2,m12,m2,bnm,Zyu⟩
  intro σ H3 a_;obtain⟨ws,rfl,s3,m13,m23,wnm,wl⟩:pL:=a_;clear s1 m1 s2 m12 m2 q_ j_ l2n bnm;refine⟨_,rfl,_,rfl,_,rfl,l1,l2,cn,ds,ws,rfl,m13,#[f9,(dps x hx).1],Zae,m23,wnm,Zae,fun p f H4 s4 hf nl g tl=>?_⟩;have s04:=ZD1 s4;refine⟨_,rfl,p,f,rfl,hf.up,g.up,Zae,#[alQ,?_]⟩;have s05:=ZaJa;have hf5:bX 9 H5 p f:=hf.up.mono #[iG,s5];clear m13 m23 s3 s4 s5 hf wnm wl;have M5:=Zw5 s05;have td5:=Zsx s05;have ht5:=s05 _ _ ht;have smf:ZasC:=Zaxx
  have two:Zpi:=ZaF
  have dl:#[hW,ZDs,6]:=Zao
  have nl5:#[hW,ZPZ,5]:=Zao
  have bl1:ZacS:=Zao
  have tl5:ZaWb:=#[aL,iW,tl]
  refine#[ahQ,_,rfl,ZRk,ZaF];generalize #[lJ,#[avK,kd/7%5]]=spo
  cases spo with
  | true =>
   have r1:ZaFA:=Zao
   refine#[eH,aQ ⟨_,rfl,_,_,rfl,rfl,Zae,_,rfl,_,_,rfl,rfl,Zae,_,rfl,_,_,rfl,rfl,Zae,Zach,ZX5⟩];have s6:=#[G8,ZUc,hlq];have m6:#[a5,H5,lq,ZV6,lq,ZV6]:=ac
   show _
   refine#[ME,ZRk,ZaF];have i0:=aXg (kd/35) (#[w7,(6:Int)≠0]);have i1:=aQ9 (kd/35) (#[w7,ZdF<6]);obtain⟨j,hj⟩:=ZacK
   have jl:j<#[bd,QV,f]:=#[hy,j<6]
   obtain⟨zln,zrd⟩:=V1 g tl _ (ZPy jl);refine⟨lq,ZUc ZaC,_,Zag ZaM1,rfl,rfl,Zbh m6,ZaUD,?_⟩;generalize ZaM1=z at zln zrd;have zl:=zln.ln;have s06:aG H ZaR3:=Zani s6;have td6:jG ZaR3 d bs tv:=ZbbU s6;refine ZUp
   ·refine#[eH,aQ ⟨_,rfl,_,_,rfl,rfl,Zae,two,ZtE⟩]
    exact k1 z r _ zln zrd (ZbbV (ah hr)) ac
   ·refine#[a4j,td6]
    have wl:=ZaKY;refine#[eH,aQ ⟨_,rfl,_,_,rfl,rfl,Zae,_,_,rfl,rfl,#[gJ,gF],_,rfl,_,_,rfl,rfl,ZaGe,two,ZtE⟩];exact k3 wd z r _ wok zln zrd (#[cq,ZbbV,s7] (ah hr)) ac
  | false =>
   refine ZaD1;refine ZUp
   ·refine#[nq,⟨_,rfl,_,_,rfl,rfl,Zae,_,rfl,_,rfl,_,rfl,t,d,p,w,m,ls,es,bs,tv,f,cn,rfl,ht5,M5,td5,hf5,nl,x5,dW,smf,fun H6 M6 k6=>ZaaK⟩]
    have s7:=#[gn,[Zag ZagT,Zag ZKn],hr];exact k2 f r _ g tl (M6.on s7) #[C0,s7 _ _ (k6 b o ZaaD n)] ac
   ·refine#[a4j,td5]
    have wl:=ZaKY;refine#[nq,⟨_,rfl,_,_,rfl,rfl,Zae,_,_,rfl,rfl,#[gJ,gF],_,rfl,_,_,rfl,rfl,ZaGe,_,rfl,_,rfl,_,rfl,d,p,bs,tv,wd,f,rfl,ZbbU s7,hf5.mono (#[iG,s7]),nl,wok,bl,fun nd H8 s8=>ZaaK,fun hd x tv' H8 xw xn xr td8 k8=>ZaaK⟩]
    ·exact k4 wd f r _ wok g tl nd (#[cq,#[cq,Zani,s7],s8] (ah hr)) ac
    ·have s9:=#[gn,[Zag ZadI,Zag ZiY],hr]
     exact k5 wd f x tv' r _ wok g tl hd xw xn xr (td8.mono s9) #[C0,s9 _ _ (k8 b o (s7 _ _ ZaaD) n)] ac
def VE (F:#[ar,ZQX,ZQX,KZ])(ME:UC P w K mg ZaS c ck ze cb)[145](rE:#[ba,ZQE,3,ZabH,Mp])(fO:#[ba,ZQR,42,[ZP9,ZDD,Zsq],ZaI8])(jH:#[ba,ZQP,4,ZaHe,XC])(nh:#[ba,ZQW,15,ZahU,(Gy K)])(kj:#[ba,ZQQ,4,[Zd2],Ag]) : #[bi,43,[Zjc],ZaPg]:=by
 refine #[aoh,oh]
 ·obtain⟨a,ns,rfl,_⟩:=h
  rfl
 ·obtain⟨a,ns,rfl,hS,hlen,hP,k⟩:=h
  have hu:=ZbD
  have two:Zpi:=ZaF
  have three:ZZR:=ZaF
  have aj5:ZIN:=Zcr;have sl:Za9b:=aQU;have tI:ZoE H P0 aO aI:=Zal hP
  refine ⟨_,(ae (bh 1 ZkB Za0i) (
   ae (bh 2 ZkB (bg #[c6,iE,Qg,(aB (dw bz) bz)])) (
   ae (bh 3 ZkB iE) (
   ae (bh 4 ZkB ZaOo) (
   ae #[lq,(cE #[mn,rE,(fG (aL vU ZdK #[sJ,ZaOo]) ZcT)]),5,ZkB,(af #[md,#[nu,#[mn,fO,(wu Zaq #[jH,#[ak7,Zuz]] #[mn,jH,(fG ZaA #[mQ,Zfh])])]],(ve)])] (
   ae (eO aQ2 rfl (NV Zak0 ZD2 (wu ZdK #[aW0,(fG Zak_ ZdK)] (aj))) (gv 6 ZkB) (ae #[ig,#[mn,nh,#[c6,ZaA,ZaO,#[c6,Zak,ZjF,#[nt,ZcT]]]],7,ZkB,8,ZkB,dX] (
   ae #[md,#[nu,#[mn,fO,(wu Zaq ZtF ZHU)]],(ve)] (
   af #[md,#[nu,#[mn,fO,(wu Zaq Zbw #[mn,kj,(c5 ZEr)])]],(ve)])))) (
   ae (bh 9 ZkB Za0i) (
   ae #[lq,(SQ (pv 3)),10,ZkB,(af #[md,#[nu,#[mn,fO,(wu Zyi #[jH,(pv 10)] (ak))]],(ve)])] (
   ae #[JB,#[nu,#[mn,fO,(wu Zyi Zbw (ak))]],(CN (jd (iG ZafV))),(ve)] (
   #[cs,((P9 ZafV (Gb ZafV)))])))))))))),?_⟩
  try dsimp only[cxK,cxK']
  intro e1 dx1 ne1 bz8 cq9;refine⟨e1,dx1,rfl,ac,fun A1 D1 B1 Y1 G1 X1 K1 kp1 fr1 fy1=>Zq1⟩
  have s0:aG H #[ia,dx1,(ZiD e1),e1,(Zfr ze dx1 [])]:=#[agN,ne1,bz8]
  have s1:aG H G1:=#[afK,kp1,ne1];have fB:∀ b∈B1.fp,Zbb:=#[aMd,fr1];have fY:#[ahi,Zbb/\b∉B1.fp]:=#[TN,ZDY #[kI,fy1],fy1];clear kp1 fr1 fy1 s0;intro w1 hw1 m1 hm1;refine⟨aj5,fun l1 q_=>⟨ZD4,ZX6⟩⟩;refine eJ (NK hw1 hm1 q_ ht1) fun s2 M1 f1=>?_;have T1:#[a5,Za3A,t1,ZaWY,t1,ZaWY]:=ac;generalize #[cL,Za3A,t1,#[kS,w1,m1,Zai l1]]=G2 at s2 M1 T1 ⊢;intro d hd;have s3:=#[vj,hd];have td3:jG (upd G2 d ZcS) d [] ZVZ:=⟨ac,fun e he=>nomatch he⟩;generalize upd G2 d (.dK [])=G3 at s3 td3 ⊢;have s03:=ZaG0;have dn0:#[a_,d]:=ZX0 hd
  have trY:#[ahi,∃ o,#[bt,G1]]:=fun b hb=>by
   simp only[aQm,aQ1,aXz]at hb;rcases hb with rfl | rfl | rfl
   ·exact#[aR,K1.f1]
   ·exact#[aR,K1.f2]
   ·exact#[aR,K1.f3]
  have dY:#[ahi,d≠b]:=fun b hb z=>by
   obtain⟨o,q⟩:=ZaDb;rw[<-z]at q;rw[s2 _ _ q]at hd;cases hd
  have X3:#[a3z,H,G3,B1,[],[]]:=by
   refine⟨#[Hj,X1.mono],#[gy,T1],M1.on s3,#[Hj,K1.mono],td3,Zss s03,#[sj,?_],ZmS,⟨ZaaT,ZaaT,ZaaT⟩,#[ge,ZM9 (Zaxj) ZazX],dH s03,#[cX,WW ?_]⟩
   ·obtain⟨o,q⟩:=ZbbW z
    rw[f1 b hb]at q;cases q
   ·by_cases z:b=d
    ·subst z
     refine⟨ZzL,ZzL⟩
     ·obtain⟨o,q⟩:=ZbbW y
      rw[s2 _ _ q]at hd;cases hd
     ·obtain⟨o,q⟩:=(B3 M1 b y).some
      rw[q]at hd;cases hd
    ·have hb:b∈[Y1.d1,Y1.d2,Y1.d3]:=by
      simp only[aQm,aQ1,aXz]at hb ⊢;rcases hb with y | y | y | y
      ·exact Zal y
      ·exact #[m9,y]
      ·exact #[nO,y]
      ·exact #[oR,y,z]
     refine⟨#[c1,fY].2,ZzL⟩;obtain⟨o,q⟩:=ZaDb;rw[f1 b y]at q;cases q
   ·rcases hb with z | z | z
    ·exact fB b z
    ·exact Zsg (f1 b z)
    ·by_cases y:b=d
     ·rw[y];exact dn0
     ·refine (fY b ?_).1
      simp only[aQm,aQ1,aXz]at z ⊢;rcases z with y' | y' | y' | y'
      ·exact Zal y'
      ·exact #[m9,y']
      ·exact #[nO,y']
      ·exact #[oR,y',y]
  clear X1 K1 fB fY s1 s2 M1 f1 T1 hw1 hm1 q_ ht1 hd s3 td3 trY dY ne1 bz8 cq9;have hS3:=s03.seq hS;refine⟨_,rfl,a,ns,1,rfl,hS3,ZaF,?_⟩;generalize nO ns 1=cn;have c0:0<=ZzB:=ZUY;have c3:ZzB<3:=ZUZ;refine⟨_,rfl,a,ns,0,rfl,hS3,ZaF,_,_,rfl,rfl,ZaF,_,_,rfl,rfl,_,rfl,_,cn,rfl,ZAS,fun lq G4 hlq s4 hq4=>?_⟩
  have smm:ZaQF<=12/\0<ZaQF/\12-ZzB<=12:=Zae
  clear c0 c3;generalize 12-ZzB=mm at smm hq4 ⊢;have lqn:#[a_,lq]:=Zanh hlq;have X4:=X3.lock hlq s4 hq4
  have bz4:#[dM,(Zfq mm cn),mm.toNat]:=by unfold namesL;rw[Z9,aXq]
  clear X3 hlq s4
  refine⟨lq,rfl,ZaBl,cZ (K:=K) (a:=lq) (xs:=(Zfq mm cn).map Zau) #[uc,∃ (B:HA)(es:Zcj)(v5:Zgj),#[aqU,Zac,Zac,Zac,Zac,Zac,#[a3z,#[bA,lq,#[hN,(Zfq mm cn).map]],HH,B,es,es],ZnX/\(∀ x∈es,Zaed)/\Zde<=i/\(0<i->Ztt)]]
   (iC B1 [] none rfl X4 Hc (fun x hx=>nomatch hx) Za8 #[bC,#[oU,ZaG]]) (#[anj,⟨_,_,_,_,X,_⟩,Zbh (X.g0.lst ac)]) ?_ ?_⟩
  ·intro i y σ HH hi a_;obtain⟨B,es,v5,rfl,X,dn,nm,le,_⟩:iz:=a_
   obtain⟨g,hg,rfl⟩:ao:=ZbL;have hil:=ZAt;have gm:g∈Zqp:=vK (aQC hg) Zaf;have gg:Zm5:=NJ gm;have sg:=JQ gg
   have hn:#[fA,ZlS (Zi' g),x∈Zqp/\bP x]:=#[f9,by rw[Zdc hx];exact⟨gm,sg⟩]
   obtain⟨dn',nm'⟩:=PF dn nm hn
   have gl:#[E2,ZP1,#[qc,g]]:=by
    have:=RW gg;rw[#[su,Zams,6]]at this;rw[#[su,ZP1,5]]
    lia
   refine#[eH,Zap (lG g rfl sg _ ⟨_,rfl,rfl,gl,_,rfl,_,rfl,two,ZDa⟩)];have sT:=#[h8,Zve];have hT:#[yQ,HH,t,Zve,t,(jC (Zi' g))]:=ac;generalize #[cL,HH,t,Zve]=HT at sT hT ⊢;have X:=ZQY sT;refine⟨t1,t,w1,m1,l1,Zs3,es,Zja,Zqp,rfl,X.tt,X.md,hT,dn,aQZ Zadq ZaG,Zuj,Zae,fun J1 M1 k1=>?_⟩
   ·rcases ZEa with z | z
    ·exact nm x z
    ·rw[Zdd];exact hn
   have X:=X.law M1 (#[CZ,k1 b o e Zapz Zapz Zapz]) (Zaxw);exact KH X dn nm Zaf gg fun B' H' X'=>#[bK,au (iC B' _ _ rfl X' dn' nm' (aQZ (NL es _) Zaf) #[eC,Cm])]
  intro σ HH a_;obtain⟨B,es,v5,rfl,X,dn,nm,le,ne⟩:iz:=a_;rw[Z9,bz4]at le ne;have e5:Zn4:=⟨dn,nm,Zae,ne smm.2.1⟩;have X:=X.weak (ah lqn);clear dn nm le ne X4 hq4 lqn smm bz4;refine⟨_,rfl,a,_,rfl,Zal (ZbbX hS),_,_,rfl,_,_,rfl,?_,?_⟩
  ·rw[Z9];split<;>refine ⟨ZaG,ZaG,Zaf,Zaf⟩
  generalize er:(ZDi 2 _ 2).toNat=n;rw[Z9]at er
  have nb:n<=16/\∀ i,i<n->ZMb<Zfp:=by
   rw[pz]at er;split at er
   ·split at er<;>(constructor;lia;intro i hi;lia)
   ·constructor;lia;intro i hi;lia
  clear er
  refine JM #[dq,∃ (B:HA)(es:Zcj)(bs:Zci)(tv:ZeO)(v5 v6 v7 v8:Zgj),#[aqU,v6,v7,v8,Zac,Zac,#[a4c,HK],Zn4/\Zvb/\ZrL<=i]]
   ⟨B,es,[],⟨ZVZ,v5,none,none,none,rfl,X,e5,⟨(fun e he=>nomatch he),fun e he=>nomatch he⟩,ZaX⟩⟩ ?_ ?_
  ·intro i σ H2 hi a_;obtain⟨B,es,bs,b_⟩:iw:=a_;obtain⟨tv,v5,v6,v7,v8,rfl,X,e5,zx4⟩:jr:=b_;obtain⟨b5,bl⟩:=zx4
   have ki:=nb.2 i hi
   have hk:(2:Int)+Ztl*2=#[a4,ZMb]:=Zae
   have i16:i<16:=Zae
   rw[hk]
   apply #[ri,∃ (B:HA)(es:Zcj)(bs:Zci)(tv:ZeO)(v7 v8:Zgj),#[aqU,#[c0,#[a4,ZMb]],v7,v8,Zac,Zac,#[a4c,HH],Zn4/\Zvb/\#[R_,i+1]]]
   ·intro rest
    refine⟨_,rfl,_,rfl,_,rfl,_,rfl,_,rfl,t1,d,a,w1,m1,l1,ns,ZMb,cn,es,bs,tv,rfl,X.tt,X.md,X.td,ZbbX hS,e5,b5,Zae,(X.yB d ZaV).2,Zae,fun z r H3 ln rd s3 hr=>?_,fun f r H3 g tl M3 k3 hr=>?_,fun wd z r H3 wok ln rd s3 hr=>?_,fun wd f r H3 wok g tl nd s3 hr=>?_,fun wd f x tv' r H3 wok g tl hd xw xn xr td3 k3 hr=>?_⟩
    ·have X:=ZQZ
     refine ZaoA;exact Ae X.ev X.bk X.ta ln rd rfl Zaty
    ·have e6:=e5.dnc (f:=f) (bs:=bs) Zaxx
     have X:=X.law M3 k3 #[bF,e6.ne];refine ZaoA;exact IM X rfl e5 b5 g tl fun B' H4 X'=>#[bK,#[p7,#[fR,B',bs,#[atx,X',e6]]]]
    ·have X:=ZQZ
     refine ZaoA;exact qG X.ev.ob X.bk Zaf X.ta wok ln rd rfl Zaty
    ·have X:=ZQZ
     refine ZaoA;exact IN X nd wok Zaf g tl Zaty
    ·have X:=X.told td3 k3 ⟨e5.ne,e5.ne⟩
     refine ZaoA;exact KI X hd xw xn xr wok Zaf g tl fun y' H4 yw yn yr X'=>#[bK,#[p7,⟨B,es,bs++[y'],⟨tv',_,_,rfl,X',e5,b5.snoc (#[aL,yw,US hd]) (#[ge,#[aL,yr h,yD b5.sm 8 f g Zaf]]),Zvg⟩⟩]]
   intro σ HH a_;obtain⟨B,es,bs,b_⟩:iw:=a_;obtain⟨tv,v7,v8,rfl,X,e5,b5,bl⟩:gi:=b_;have p:=ZDu e5.dn e5.nm;have pl:=ZafR;have l12:=Rr cn;refine⟨_,rfl,_,rfl,t1,_,_,_,rfl,rfl,Zbg X.tt,ZbU,w1,_,rfl,X.md.hw,Zae,xQ ZwP,#[agP,l12.2],fun H3 s3=>?_⟩;have X:=ZQZ;exact IP X e5 fun H4 s4=>#[bK,au ⟨B,es,bs,⟨tv,_,_,_,_,rfl,ZQY s4,e5,b5,bl⟩⟩]
  intro σ H2 a_;obtain⟨B,es,bs,b_⟩:iw:=a_;obtain⟨tv,v5,v6,v7,v8,rfl,X,e5,zx4⟩:jr:=b_;obtain⟨b5,bl⟩:=zx4;intro e2 dx2 ne2 bz7 cq8;refine⟨e2,dx2,rfl,ac,fun A2 D2 B2 Y2 G5 X2 K2 kp2 fr2 fy2=>Zq1⟩
  have s0:aG H2 (upd #[gW,dx2,(ZiD e2)] e2 (Zfr ze dx2 [])):=#[agN,ne2,bz7]
  have s5:aG H2 G5:=#[afK,kp2,ne2]
  have dB:d∉B2.fp:=fun z=>by have:=ZDY (fr2 d z);rw[X.td.h]at this;cases this
  have dY2:#[gH,[Y2.d1,Y2.d2,Y2.d3],b∉[d]]:=fun b hb z=>by have:=ZDY #[kI,fy2];rw[Zdd,X.td.h]at this;cases this
  have X:=ZQY s5;clear kp2 fr2 fy2 s0 s5 ne2 bz7 cq8;have yd:=X.yB d ZaV;have td:=X.td.h;have n1:∀ [46],d≠b->b∉[d]:=fun n z=>#[WO,n];refine⟨_,rfl,d,_,rfl,td,fun o=>?_⟩
  have mu:Le G5 [d]:=#[aUI,td]
  have k6:Kp [d] G5 (upd G5 d ZLo):=fun b o' e n=>#[tB,ZafM]
  have ev1:=#[aUo,X.ev.kp,yd.1];have bk1:=X.bk.kp k6 mu ⟨n1 X.dY.1,n1 X.dY.2.1,n1 X.dY.2.2⟩ #[bax,sw td r (Zdc z)];have ta6:=BP X.ta k6 mu;have ev2:=#[aUo,X2.kp,dB];have bk2:=K2.kp k6 mu ⟨ZaaU,ZaaU,ZaaU⟩ Zaxj;have hd6:#[a5,G5,d,ZLo,d,ZLo]:=ac;generalize upd G5 d ZLo=G6 at k6 ev1 bk1 ta6 ev2 bk2 hd6 ⊢;clear X X2 K2 k6 mu td
  refine OW (d:=d) (o:=o) (kvs:=Zkh #[cb,ZFn]) #[dq,∃ v10:Zgj,#[aqU,v6,v7,v8,#[bv,e2],v10,GK G6 HK,ZoE HK P0 aO aI]]
   #[cC,Zac,GK.refl,ta6] (fun i σ HK _ #[pL,g]=>g _ _ hd6 (fun _ z=>nomatch z)) ?_ ?_
  ·intro i p σ HK hi a_;obtain⟨v10,rfl,g6,t6⟩:aK:=a_
   obtain⟨e,he,rfl⟩:ao:=ZbL;have nm:=b5.nm e (aQC he)
   have wl:#[E2,ZDs,e.w.length]:=by
    have:=vL nm;rw[ZK0]
    lia
   refine#[ahl,wl];exact DP (ev2.gk g6) (bk2.gk g6) t6 nm fun H' g t=>#[bK,au #[c3,Zam9 g,t]]
  intro σ HK a_;obtain⟨v10,rfl,g6,t6⟩:aK:=a_
  have b50:ZR':=Zae
  have w0:Ai "":=Zal (by unfold mi;exact aQi);have l0:Ln "":=⟨by unfold p8;decide +kernel,Zao⟩;have l1:Ln ZanC:=⟨by unfold p8;decide +kernel,Zao⟩;have r0:rdF "" = Zac:=ZAs;have r1:rdF ZanC = Zac:=ZAs;refine#[bK,IQ (ev2.gk g6) fun H7 s7=>ZaHL];have g7:=Zam9 (dH s7);have t7:=t6.same s7;refine#[a3t,"",g7,g7,t7,l0,r0,fun H8 g8 t8=>ZaHL];have g8:=g7.trans g8;refine#[bK,Ae (z:="") (ev1.gk g8) (bk1.gk g8) t8 l0 r0 ZcE fun H9 g9 t9=>?_];have g9:=g8.trans g9;refine #[bK,(aQ #[a3t,ZanC,g9,g9,t9,l1,r1,fun H10 _ _=>?_])];exact k H10
#where
def all_mk2 {l:PySem.W.OpenLaw}{w:World}[6][153][77]{fa:Addr}{C cW cA cM cS cT cN fN cq cX ck cb ze dl y0 y1 cB cTk cU cL cF kd cs q1 q2 q3 q4 q5 q6 q7 t1 t2 t3 t4 t5 t6 u1 u2 u3 u4 u5 u6 u7 s1 s2 s3 s4 s5 s6 s7 s8 s9 s10 s11 A_ s13 s14 s15 s16 n1 n2:Addr}[425](G:Zu')(hfa:#[bW,ZQX,fa]){c0 P0:Addr}(CK:ZaR2)(aq9:#[av,ZanD K Zl9,(c0,P0)])(aC:#[Q',ZOz,C])(Vx:#[Q',Za8n,cW])(Vp:#[Q',ZOA,cA])(Vt:#[Q',ZOB,cM])(Sq:#[Q',ZCQ,cS])(Vv:#[Q',ZOC,cT])(Vu:#[Q',Zws,cN])(bx9:#[bb3,cN,Zfy,#[pg,fN]])(pg:ZaGT)(hd:Zbc5)(po:Zbdx)(sa:Zbb8)(LZ:#[bb4,C,Zov])(Ci:#[bb4,C,ZlW])(Cg:#[bb4,C,Zkj])(HU:#[bb4,C,Zki])(UU:fR K cA)(UY:fR K cM)(RL:fR K cS)(U0:fR K cT)(UZ:vB K cN fN=Zad)(g1:#[bb5,cN,ZOj,Za7C])(g2:#[bb4,cN,Za7D])(g3:#[bb6,cN])(g4:#[bb4,cN,Ze1])(g5:#[bc6,cN])(g6:#[Hp,cN,ZOh])(g7:#[Hp,cN,ZCJ])(g8:#[aWM,cN])(tN:#[akH,K,#[aj,fN]])(wS:#[aV1,cW])(wR:#[a7R,cW])(wI:#[a7T,cW])(bq8:#[a75,cA,cA])(bq4:#[a74,cM,cA])(bq3:#[a75,cM,cM])(av7:#[a74,cS,cA])(av6:#[a74,cS,cM])(az8:#[a75,cS,cS])(av5:#[a74,cT,cA])(av4:#[a74,cT,cM])(av3:#[a74,cT,cS])(av2:Za8d)(bq2:#[a74,cN,cA])(bq1:#[a74,cN,cM])(av9:#[a74,cN,cS])(av8:#[a74,cN,cT])(bq0:#[a75,cN,cN])(mk:ZbdA)(kc:Zbce)(VA:#[Q',Zbal,cq])(Vy:#[Q',Zbam,cX])(Vz:#[Q',ZPd,ck])(bx0:#[Q',ZPu,cb])(bj1:#[Q',ZPM,ze])(bj5:#[Rb,Za'6,12,t1])(bj8:#[Q_,Za'7,(Zab (Zag ZC7 t2))])(bj6:#[Q',Zban,dl])(dzo:ZiW dl=Zab (L2.gObj Zi7 Wz.linesD [(s1,s2),(s3,s4),(s5,s6),(s7,s8),(s9,s10),(s11,A_),(s13,s14),(s15,s16)] n1))(dzs:#[air,dl])(bj3:#[Q',Zbao,y0])(bj2:#[Q',"NoWay",y1])(Vq:#[Q',Za'A,cB])(ax8:#[Q',"Taken",cTk])(Vw:#[Q',Za'z,cU])(Vs:#[Q',Za'I,cL])(Vr:#[Q',Za'5,cF])(kpg:#[acj,ck])(khd:#[bc6,ck])(kpo:#[bdw,ck])(ksa:#[bb6,ck])(Hs:#[bb4,ck,ZbG])(Ht:#[bb4,ck,Zhx])(BO:#[bb4,ck,Zkq])(xf:#[bb4,ck,ZoF])(kmk:#[bdz,ck])(kkc:#[bcd,ck])(bpg:#[acj,cb])(bhd:#[bc6,cb])(bpo:#[bdw,cb])(bsa:#[bb6,cb])(V_:#[bb4,cb,Zks])(U_:#[bb4,cb,Zi3])(aj4:#[bb4,cb,ZoM])(bmk:#[bdz,cb])(bkc:#[bcd,cb])(epg:#[acj,ze])(ehd:#[bc6,ze])(epo:#[bdw,ze])(esa:#[bb6,ze])(aj2:#[bb4,ze,ZbG])(aq4:#[bb4,ze,ZhB])(aj3:#[bb4,ze,ZoW])(emk:#[bdz,ze])(ekc:#[bcd,ze])(xn:#[a77,[y0,y1,cq,cB,cTk,cU,cL,cF],cN])(bj4:#[Rb,Za'y,Zbz,t3])(ak1:#[Rb,ZbbY,12,t4])(ak0:#[Q_,Zbb0,(Zab (Zag Zsa t5))])(ak2:#[Q',"KINDS",kd])(kdo:Zw8 K kd (Wz.kindsL.map L2.V.str))(bj7:#[Rb,Za'8,8,t6])(bj9:#[Q',"SIZES",cs])(szo:ZiW cs=Zab (L2.hObj Zi7 (Wz.szL ⟨q1,q2,q3,q4,q5,q6,q7⟩) [u1,u2,u3,u4,u5,u6,u7] n2))(szs:#[air,cs])(sz1:Zw8 K q1 #[cd,2,2])(sz2:#[ac2,q2])(sz3:#[ac2,q3])(sz4:#[ac2,q4])(sz5:Zw8 K q5 #[cd,4,4])(sz6:Zw8 K q6 #[cd,1,60])(sz7:Zw8 K q7 #[cd,1,1])(UV:fR K cB)(az7:fR K cTk)(U1:fR K cU)(UX:fR K cL)(UW:fR K cF)(ax4:Za8c)(ax3:#[a74,cTk,cB])(ax2:#[a75,cTk,cTk])(av1:Za7_)(av0:#[a74,cU,cTk])(ak9:Za8a)(bq5:Za7')(bq6:Za8e)(bq7:Za8b)(xB:#[a77,[cA,cM,cS,cT,y0,y1,cq],cB])(xT:#[a77,[cA,cM,cS,cT,y0,y1,cq,cB],cTk])(xU:#[a77,[cA,cM,cS,cT,y0,y1,cq,cB,cTk],cU])(xL:#[a77,[cA,cM,cS,cT,y0,y1,cq,cB,cTk,cU],cL])(xF:#[a77,[cA,cM,cS,cT,y0,y1,cq,cB,cTk,cU,cL],cF])(rQ:cR K C Zfy ZbaP qM)(o7:cR K ck Zfy Zbbn oy)(jN:cR K cb Zfy Zba5 jv)(nv:cR K ze Zfy Zbbw lO)(uV:bw K ZMM oB)(A8:bw K ZMG tR)(zt:bw K ZMF qT)(zu:bw K ZQE mR)(o8:bw K ZBS j6)(zF:bw K ZQq mY)(rS:cR K ck Zlx Zbbo lQ)(l6:cR K ck Zanl Zbbp iN)(uT:cR K ck Zanm Zbbq oz)(uR:cR K C Zsm ZbaX ou)(ny:cR K cN Zfy ZbaO lR)(wy:cR K C Zrq Zba0 pD)(GO:bw K ZQs uC)(zG:bw K ZQv qY)(Ba:bw K ZQw tW)(wC:bw K ZQA kQ)(wx:cR K C ZBR ZbaV pC)(zn:cR K C Zcn ZbaQ qL)(uS:cR K ck Zcn Zbbs ox)(DZ:bw K ZQp wg)(ka:cR K ze Zanu ZbbD gM)(rc:bw K ZMR kI)(oK:cR K cb ZQg Zba7 jw)(fQ:cR K cb ZDP Zba9 fz)(rg:bw K ZQb kK)(i9:cR K cb Zro Zba_ fL)(wE:bw K ZQa pF)(zE:bw K ZMP qX)(wD:bw K ZQc jg)(ja:cR K cb Zrp Zba' iL)(lZ:cR K cb ZQh Zba8 iM)(yo:bw K ZBP wm)(zp:bw K ZDS qO)(vt:bw K ZwZ tV)(rX:bw K ZQl qW)(mh:bw K Zl9 bI)(ud:bw K ZBT qP)(rT:bw K Zw0 qN)(uX:bw K ZMO oC)(zo:cR K C ZDx Zba2 mO)(A4:cR K C ZDE Zba1 tL)(qZ:cR K C ZDF ZbaW kG)(q8:cR K C Zc_ ZbaS kH)(uU:bw K ZQx oA)(wz:cR K ck "due" Zbbr pE)(oM:cR K ck Zc_ Zbbu jx)(rR:cR K ck Zmb Zbbv lP)(kR:cR K ze Zanv ZbbA hW)(lY:cR K cb ZQe Zba6 iK)(lX:cR K ze Zanw ZbbC iJ)(pH:cR K ze Zant Zbby j4)(uQ:cR K ze "say" Zbbx oq)(A7:bw K ZQR tQ)(D4:bw K ZMQ wk)(D3:bw K ZML wj)(zq:bw K ZMJ qQ)(A6:bw K ZMN tP)(oN:bw K ZQP jy)(zr:bw K ZMH qS)(zA:bw K ZQI mV)(zw:bw K ZQJ j5)(zC:bw K ZQK qV)(uW:bw K ZQL gq)(wA:bw K ZQM kP)(jO:bw K Zw4 eY)(nE:bw K Zw6 lT)(rW:bw K ZQO lU)(oP:bw K ZQN jz)(vq:bw K ZD8 tM)(nA:bw K ZQS f6)(A9:bw K ZQG tT)(re:bw K ZQV kJ)(oO:bw K ZQU gO)(rV:bw K ZQW lS)(zD:bw K ZQC mX)(zB:bw K ZQD qU)(pI:bw K ZQQ ig)(Ot:bw K ZQX KZ)(Us:#[Ra,ZCu])(ML:#[Ra,ZvF])(yi:#[Ra,ZNi])(MM:#[Ra,Zf3])(Rj:#[Ra,Zdw])(Ur:#[Ra,ZrG])(Rh:#[Ra,ZajD])(Uo:#[Ra,Zcc])(Uq:#[Ra,"any"])(Jk:#[Ra,ZNZ])(Dg:#[Ra,Zwm])(Uv:#[Ra,ZiS])(Uu:#[Ra,"min"])(Ut:#[Ra,Zj'])(Ri:#[Ra,ZiQ])(Uy:#[Ra,Zel])(Ah:#[Ra,Zhk])(Ux:#[Ra,"sum"])(Uw:#[Ra,Zf2]) :
  #[a8p,∀ [154][255],ZCn s fd #[d7,[v]] [(Zjc,v)],#[aq1,Zoa,aY Zfx w K mg ZaS eR 43 fa fd Zaw8 ZaPg]]:=by
 obtain⟨c,rfl,rfl,rfl,rfl,rfl,rfl,rfl,rfl⟩:∃ c:HX,c.C=C/\c.cW=cW/\ZdZ=cA/\Zfz=cM/\Zd0=cS/\Zga=cT/\Zgb=cN/\Zwt=fN:=⟨⟨C,cW,cA,cM,cS,cT,cN,fN⟩,rfl,rfl,rfl,rfl,rfl,ZEQ⟩;have T:Txt mg:=⟨#[ds,Us],#[ds,ML],#[ds,yi],#[ds,MM],#[ds,Rj],#[ds,Ur],#[ds,Rh],#[ds,Uo],#[ds,Uq],#[ds,Jk],#[ds,Dg],#[ds,Uv],#[ds,Uu],#[ds,Ut],#[ds,Ri],#[ds,Uy],#[ds,Ah],#[ds,Ux],#[ds,Uw]⟩;have U:ZaPr:=⟨⟨pg,hd,po,sa⟩,LZ,Ci,Cg,HU,#[cw,aC],UU,UY,RL,U0,#[cw,Vp],#[cw,Vt],ZaA1,#[cw,Vv],#[cw,Vu],#[cw,Vx],UZ,⟨g1,g2,g3,g4,g5,g6,g7,g8⟩,tN,wS,wR,wI⟩;have VM:HM K c:=⟨bq8,bq4,bq3,av7,av6,az8,av5,av4,av3,av2,bq2,bq1,av9,av8,bq0⟩;have UO:#[aik,cTk,kd,⟨q1,q2,q3,q4,q5,q6,q7⟩]:=⟨⟨⟨kpg,khd,kpo,ksa⟩,Hs,Ht,BO,xf,#[cw,Vz]⟩,⟨⟨epg,ehd,epo,esa⟩,aj2,aq4,aj3,#[cw,bj1]⟩,#[cw,VA],#[cw,Vy],#[cw,bj6],⟨Zao,dzs,[(s1,s2),(s3,s4),(s5,s6),(s7,s8),(s9,s10),(s11,A_),(s13,s14),(s15,s16)],n1,rfl,dzo⟩,#[cw,bj3],#[cw,bj2],#[vv,xn],⟨⟨⟨RL,ZaA1,az8⟩,⟨⟨bpg,bhd,bpo,bsa⟩,V_,U_,aj4,#[cw,bx0]⟩,#[qI,bj4],#[qI,ak1],ZaEH,ZaA2,kdo,U1,#[cw,Vw],UV,#[cw,Vq],az7,#[cw,ax8],ax4,ax3,ax2,av1,av0,ak9⟩,UX,#[cw,Vs],bq5,bq6⟩,⟨UW,#[cw,Vr],bq7,#[qI,bj5],#[qI,bj8],#[qI,bj7],#[qI,ak1],ZaEH,ZaA2,kdo,#[cw,bj9],⟨#[Ec,(([ZbZ,Za7,ZbS,Zcc,ZcQ,ZaE,ZaT]:Zbp)).Nodup],szs,[u1,u2,u3,u4,u5,u6,u7],n2,rfl,szo⟩,sz1,sz2,sz3,sz4,sz5,sz6,sz7⟩,⟨#[vv,xB],#[vv,xT],#[vv,xU],#[vv,xL],#[vv,xF]⟩⟩
 obtain⟨Hh,Fu,GV,Ho,zH⟩:bM:=rQ;obtain⟨Dv,By,Dq,Dw,uY⟩:bM:=o7;obtain⟨wT,vC,wJ,wW,oQ⟩:bM:=jN;obtain⟨Bv,Ak,Bd,BI,rY⟩:bM:=nv;obtain⟨Bw,Al,Be,O7,rZ⟩:bM:=ny;obtain⟨Bx,zN,Bg,km⟩:cD:=vt;obtain⟨zM,Fv,GW,zI⟩:cD:=rX;obtain⟨cz6,U3,bv7,ak8⟩:cD:=Ot;have e:=hfa.symm.trans (aQG X G bv7);cases e;have eN:=aQp (aQp (Be.symm.trans bx9))
 have eN2:Bw=Zwt:=by injection eN
 refine #[aY,U3,?_,fun base KB _ BK=>?_]
 ·obtain⟨_,_,_,_,_,_,_,_,_,rfl,_,_⟩:fT:=ak8.ex
  exact fun s v=>ZajI
 ·have z:#[A4,Bs,h]:=⟨X,G⟩
  have MH:#[A4,Ya,c]:=az Hh Fu ⟨mk,GV,Ho,kc⟩ (FT T U VM UO zH) (zH.binds (ps:=ZfD) (by intro _ _ _ _ _ _;(repeat refine ZsG);exact ZfV));have MK:#[A4,Yv,ck]:=az Dv By ⟨kmk,Dq,Dw,kkc⟩ (Cv T U VM UO uY) (uY.binds (ps:=ZuC) (by intro _ _ _ _ _ _;(repeat refine ZsG);exact ZfV));have MF:#[A4,UD,cb]:=az wT vC ⟨bmk,wJ,wW,bkc⟩ (vM T U VM UO oQ) (oQ.binds (ps:=ZfD) (by intro _ _ _ _ _ _;(repeat refine ZsG);exact ZfV));have ME:#[tI,UC,c,ck,ze,cb]:=az Bv Ak ⟨emk,Bd,BI,ekc⟩ (As T U VM UO rY MH MK MF) (rY.binds (ps:=ZfD) (by intro _ _ _ _ _ _;(repeat refine ZsG);exact ZfV));have eP:=#[sB,uV,Cz];have gC:=#[sB,A8,Io];have dm:=#[sA,zt,FY,gC];have rE:=#[sA,zu,FZ,dm];have gD:=#[sB,o8,sV];have vm:=#[sA,zF,F7,gD];have dD:=#[uV,rS,Av];have jb:=#[nS,l6,sU,dD];have pj:=#[nS,uT,Cw,jb];have pe:=#[uV,uR,Ct];have NG:#[A4,Bb,c]:=⟨Al,eN2▸Aw T U VM UO rZ,(rZ.binds (ps:=Zmj) (by intro _ _ _ _ _ _;(repeat refine ZsG);exact ZfV))⟩;have dC:=#[nS,wy,DG,NG];have E8:=#[uO,GO,NO,pe,dC];have vo:=Pz z zG #[eq,F8 T U VM UO h dC];have ym:=#[uO,Ba,Iq,E8,vo];have rN:=#[sA,wC,DK,ym]
  have gE:=#[uV,wx,DF];have se:=#[nS,zn,FS,gE];have ph:=#[nS,uS,Cu,se];have AZ:=Pz z DZ #[eq,Km T U VM UO h ph];have l_:=#[I4,ka,qB,dD,pj,rN,AZ];have f7:=#[sB,rc,y4];have r_:=#[uV,oK,vN]
  have B_:#[zu,#[aQ8,ZJS,(EL cb cU n)]]:=by
   intro n
   induction n with
   | zero=>exact fun _=>Wv fQ fun _ _ _=>oR (by intro _ _ _ _ h;cases h;exact Zvz)
   | succ n ih=>exact #[agS,fQ,oJ,f7,r_]
  have e_:#[aQ8,12,(EL cb cU 9)]:=B_ 9 Za8;have nq:=#[sB,rg,y7]
  have M_:#[zu,#[zD,eR,Zro,ZJS,ZaHY]]:=by
   intro n
   induction n with
   | zero=>exact fun _=>Wv i9 fun _ _ _=>oR (by intro _ _ _ _ h;cases h;exact Zvz)
   | succ n ih=>exact #[agS,i9,sP,f7,nq]
  have g_:#[zD,eR,Zro,12,ZaIh]:=M_ 9 Za8;have rP:=#[sB,wE,DM];have t_:=Pz z zE #[eq,#[pp,F6]];have rO:=#[sA,wD,DL,t_]
  have L_:#[zu,#[zD,eR,Zrp,ZJT,ZaHZ]]:=by
   intro n
   induction n with
   | zero=>exact fun _=>Wv ja fun _ _ _=>oR (by intro _ _ _ _ h;cases h;exact Zvz)
   | succ n ih=>exact #[agS,ja,sQ,rP,rO]
  have f_:#[zD,eR,Zrp,13,ZaIi]:=L_ 9 Za8;have n_:=#[mD,lZ,sR T U VM UO h e_ g_ f_];have jK:=#[sB,ud,vP]
  have RB:∀ d:Nat,d<=8->∀ b:ZvP,Zoa b->yj mg b->dQ Zfx w K mg b Zw0 (4*d+5) ZRK ZaXD:=by
   intro d
   induction d with
   | zero =>
    intro _ b kb bb;have iq:ZaXG:=ZaRx;have jK:ZaTI:=ZaRw;exact #[a4e,1,(Yi X G mh fun _ _ _=>oR fun _ _ _ _ h=>h)]
   | succ d ih =>
    intro hd b kb bb;have iq:ZaXG:=ZaRx;have jK:ZaTI:=ZaRw;have gD:#[avl,ZBS,Mq]:=Py X G o8 #[eq,#[pp,sV]];have vk:dQ Zfx w K mg b ZDS 1 ZaeU ZaOE:=Yi X G zp #[eq,#[pp,FV]];have LN:aY Zfx w K mg b ZWE 2 zM Fv Zzt (QT P0 aO aI cF ZV0 Zl6 Ww):=F5 T U VM UO zI iq gD
    have yk:dQ Zfx w K mg b ZwZ 3 ZbaI #[a0O,zM]:=by
     obtain⟨_,_,_,_,_,_,_,_,_,rfl,lk,_⟩:fT:=id zI.ex;exact bS Bx zN (zY T U VM UO km (fun _ _ j _=>j) (fun _ _ _ _ a _=>a) Gk LN (kb _ _ lk) rfl (fun s us hl=>match us,hl with | [_,_],_=>ZajI)) ZaFY km.kp (km.binds (ps:=ZbaI) (by intro _ _ _ _ _ _;(repeat refine ZsG);exact ZfV))
    have WS:∀ (b2:Heap)(fl c1 cy:Addr)(vy:V)(pm ct:Value),#[a3X,b2,yj mg b2,b2,aY Zfx w K mg b2 ZWE (4*d+5+2) Bx zN ZbaI Za2o]:=by
     intro b2 fl c1 cy vy pm ct md2 bl2 lm
     by_cases hv:ZaUk
     ·subst hv
      refine Ng (fun _ _ _ _ h=>by cases h;assumption) (zY T U VM UO km (fun _ _ j g=>g.code j) (fun _ _ _ _ a g=>?_) ZZT (xE T U VM UO (ih Zaf b2 md2.kin bl2) lm) lm.ob rfl (fun s us hl=>match us,hl with | [_,_],_=>ZajI));obtain⟨p,e,hp⟩:ao:=a;exact ⟨p,e,g.fg hp⟩
     ·exact oR (fun _ _ _ _ h=>by cases h;exact hv (Za8S))
    have rL:dQ Zfx w K mg b Zl9 (4*d+5+3) ZRK (Ua P0 aO aI cF Znk):=by
     obtain⟨f9,fd9,a9,g9⟩:cD:=mh;exact bS f9 fd9 (DI T U VM UO g9 (Q9 aq9 a9 g9) CK bb ZaFY km.kp (km.binds (ps:=ZbaI) (by intro _ _ _ _ _ _;(repeat refine ZsG);exact ZfV)) WS #[Gx,GW] yk iq vk Zaf) #[Gx,a9] g9.kp (g9.binds (ps:=ZRK) (by intro _ _ _ _ _ _;(repeat refine ZsG);exact ZfV))
    exact #[a4e,4*d+5,rL]
  have nj:#[tI,dQ,Zw0,37,ZRK,ZaXE]:=RB 8 Za8 ZaS KB BK;have iR:=Pz z uX #[eq,CB T U VM UO h nj];have sf:=#[nS,zo,FU,MH];have vw:=#[uV,A4,Ii];have ji:=#[uV,qZ,yY];have fA:=#[I4,q8,yZ,dC,vw,gE,ji];have qd:=Pz z uU #[eq,#[s7,Cy,sf,fA]];have qg:=#[nS,wz,DH,dD];have jQ:=#[mD,oM,#[s7,vO,qg,fA]];have nJ:=#[mD,rR,#[s7,Au,qd,jQ]];have m_:=#[mD,kR,rC T U VM UO h n_ iR nJ];have o_:=#[I4,lY,sO,jK,e_,g_,f_];have p_:=#[mD,lX,#[s7,sN,o_,iR]];have s_:=#[I4,pH,xC,vm,l_,m_,p_];have C_:=#[nS,uQ,Cs,s_];have fO:=#[sA,A7,Il,C_];have m7:=#[sB,D4,Ko];have m5:=#[sA,D3,Kn,m7];have jA:=#[sA,zq,FW,m7];have kh:=#[sA,A6,Ik,jA];have jH:=#[uO,oN,vQ,m5,kh];have jB:=#[sA,zr,FX,gC];have rG:=#[sB,zA,F1];have rF:=#[uO,zw,F0,rG,dm];have rJ:=#[sB,zC,F3]
  have o6:=#[sA,uW,CA,rJ];have qc:=#[sz,wA,DJ T U VM UO h rF o6 dm]
  have Q_:#[aQ3,Zw4,(C9 n)]:=by
   intro n
   induction n with
   | zero=>exact fun _=>Py X G jO fun _ _ _=>oR (by intro _ _ _ _ h;cases h;exact Zvz)
   | succ n ih=>exact #[aS2,jO,vR]
  have dP:#[tI,aS,Zw4,10,ZGG,(C9 9)]:=Q_ 9 Za8
  have aq5:#[aQ3,Zw6,(uz n)]:=by
   intro n
   induction n with
   | zero=>exact fun _=>Py X G nE fun _ _ _=>oR (by intro _ _ _ _ h;cases h;exact Zvz)
   | succ n ih=>exact #[aS2,nE,Ay]
  have dy:#[tI,aS,Zw6,10,ZGG,(uz 9)]:=aq5 9 Za8;have ni:=#[sB,rW,Az];have jJ:=#[uO,oP,vT,t_,ni]
  have aj7:#[zu,#[aQZ,ZJT,(wf n)]]:=by
   intro n
   induction n with
   | zero=>exact fun _=>Py X G vq fun _ _ _=>oR (by intro _ _ _ _ h;cases h;exact Zvz)
   | succ n ih=>exact fun hn=>Py X G vq #[eq,Ij T U VM UO h jJ Zaf ZT2]
  have gB:#[aQZ,13,(wf 9)]:=aj7 9 Za8;have jo:=#[sz,nA,uL T U VM UO h dy gB m5 jA kh];have vj:=#[sA,A9,Ip,jB];have lD:=#[sA,re,y6,vj];have jI:=#[uO,oO,vS,dy,gB];have nh:=#[sz,rV,Ax T U VM UO h gC eP jB qc dP jo lD jI];have rK:=#[sB,zD,F4];have rH:=#[sA,zB,F2,rK];have kj:=#[sA,pI,xG,rH];exact VE T U VM UO ak8 ME eP rE fO jH nh kj
def walk {l:PySem.W.OpenLaw}{q:Program}{loose:Zbp}{XP:ZabK}{YP:ZabJ}{d:DefRec}{K:Params->Za9'}{c0 P0:Addr}(hn:l.most=Zab 63)(hdf:Zaah)
  (hY:ZaMC)
  (hTY:∀ (w:World)(h:Heap),ZWF->ZaG5=some (PySem.W.tabObj #[])) (hch:ZaQI) (aq9:#[O_,ZaJF]) (hnt:ZaQH)
  (F:∀ (w:World)(mg:Zpf)(fa:Addr)(h:Heap),#[kW,0].In h->Zu'->Zaj7->ZaIP->ZaJF ->
   #[a8p,#[avE,(Zjc,u)],#[a27,eR,43,Zaw8,(Gx (K Zi7) P0)]]) :
  ZaLJ :=
 L2.walk_ofT (n:=63) (k:=43) (x:=Zjc) (nm:=Zl9) (CX:=#[bF,eR]) (sp:=fun w=>Gx (K Zi7) P0) hn ZaG hdf #[pn,ZaF,ZaF] hY hTY hch aq9 hnt F (fun _ _ a ns hl hT hS=>⟨a,ns,rfl,hS,hl,hT,ZGI⟩) fun _ _ _ _ _ z=>z
#print Wk51
namespace PySem.W.Fast
#check[11262112260224487292,10496572707126467796,14529860813213867114,14186975696260514516,18418315669425301490,1464027127189522605,855737888624968254,12276594353716007050,16823550765249551705,2513446340841814231,3153453913196573445,526741724095348558,3328112555428614694,7846203162555842261,4178945732939964384,7508757069872298361,12475868110021925343,12690816421886687491,11272777766624200744,15121118530961430221,71876327881136855,11835438785396809960,4425314811608872079,13857235623783205283,1836758561077510085,15610726353978562964,16744358784220025739,1384259252197696397,13114322837839781137,881791406317977360,11295365532439380961,5056516317482339233,17090798959745636922,16012500199179329251,1347836396840380280,11277320844810302454,16336558972123844345,11116247499240552692,1190056455283483018,113955313849356722,8749313440903599682,7317630655214855909,14071878020159934115,7634524943331569242,11078950719731036517,6024371846922966790,12282514135606427049,2204606563126541126,6049649100699083304,13502425456615776365,6208998875487672236,1527326687469212253,1503494753958034020,4950291943130352971,7873093910223968691,11186237799602378225,15682205520707678831,12110855930699385718,11805883515995861473,8378708376398045904,17477144582106323936,2133437759720495113,17847112951204788941,8373436691791261250,16857098592991453522,4852058622105486736,9475501509069669914,5861012223861411560,9979926157942111720,13619309039037956874,6849238237157236821,10696980075230215525,13462898914213808342,5965509874481648188,14426277844647853622,9901171446226590308,16990856061428113895,7745401282962673653,11656765341653315302,1702805857455698466,3306592522251472892,12958438167845679962,16130121140157605330,14092382513852582931,1460513937601351758,10387984620232988046,4570969027049038990,14200698011004374673,16911303449799020,9855633091915509896,15265567539563750823,17650700202214612961,14177645030642340438,8101119972331399511,12720977861869639212,9544859915828591214,637564396015691553,14057383859162921112,15800109048875873442,18386130489439307820,586319234522780413,4238112070364703658,574431714286016429,5555639323056759555,1774364875467522352,13169432820335665690,14066411492831317987,4078048093302070382,4248817310012893367,2238062308031113875,8214172960353788714,2208897789683814787,2160087779621350458,4818664302094114990,15039148053903817465,3187754039673961490,11172669319573355142,2948840198687739560,14143220817916522308,17547896718595682857,953325108191254506,511624831624702781,2202443297187824112,1163006133063374245,14121654063647104280,4159982028859614051,357273089730176825,17287174042644435408,7955363486865886223,3257295798521615131,12432995197269936123,3823305085535999720,8050788223109628834,6971687780356241493,3252249865296380446,5584205015651290946,12527137552263413437,12614090890187462854,3405661301571357103,4585278357459792681,10252444720421421084,4005933816025493558,78820187175945167,8339737110972258018,6874785380466406750,1402649552654944224,11393521691792036969,1479288350703059342,10566829355034334929,6437576125625601291,13673650092861246708,9680772819588556059,2277574631475656430,8283731254043449449,9869694847486389420,15332581726452004418,13456491801071404831,1950993255675049689,3172237805756454582,15923666774582872643,548379712396075220,8729926325112485820,1259509528016988223,17182933477120603490,8701880259363727049,1614739598553477099,6674033897526306151,9292707165251513751,6775058857500364634,10896774133641213844,1773474970914389917,1962443745175729410,8158803724677084200,11019146911161152266,79407719496209527,788872991303747458,3179552773885137904,12114745073720159010,6026381602546963858,17623190293564842717,18365208324506560166,17125113433683811162,10296868691369425465,12409049746379641420,12626514236831014660,1292356730998465878,10983999940960915598,11755877206803855285,113619591127743411,14740831379440898301,2153029435531569677,17332695916946865984,3816147342732009792,10833989739457150116,2654274411636486991,12466003984778226353,687063170626899012,2522487627938907882,8612868915231649503,3295670775793581009,1108364655431806357,13701948496066911166,16745743827075331070,11106750726067373929,10691178231024421749,11040343381450280545,4531929607783680181,10202247486970044277,9379945164655131532,15184574619171739495,2446489318870115507,9905291276492150552,4065470812716253788,2264054849800166982,12098427170407633894,613811723145213246,1161559046913829462,3186721165293925555,9189588334466588139,17431567333374768720,12395618527211983866,4200910525656905500,5500080169447407937,3156485667197039950,5735385825503642820,914791782599708657,1254328119250811003,12492492190896007506,10875909154276953136,16653617112446445223,8446828765813825076,10904581078389032531,12551256734943142440,6129409915907572904,16016485850192205647,14585551321245452442,7601004254370035544,3008216602574762528,7144997546396328497,9066288923646219716,4601492350244053228,2058566007771031763,675241877381678579,6420259768727328191,14099313685836394322,14634908830748981099,13944432760002891289,1029162507165989997,5683481632296391235,4519766334643763030,16177236243789584660,13747670897239669495,879761652819084077,14379082617249726835,16766879040184881040,2379802220871138760,16921664027584445741,16662721703601433839,12556146546410553621,2084868344954305522,5866758141536182074,3734345013132816529,12594055910499995455,15247853933323414228,18392957555778480878,9794998803542939065,17462692956560151657,14214365183257613030,13219789498235732121,8906737620718239374,17065271906097153838,2681420973678665791,10852903152334987253,9749066048644195305,14094892264884028827,11686290699143289032,3878716522799111991,18228663506732538088,1236025059198270132,8556609964265663598,10250549276060800996,3756898933101613145,11121549094904160231,13865678616633067694,1309683393303774697,414593501286327866,12538296856750334940,2811248969484781964,10426206288924532561,3891396090253212274,1108238746163045531,17857894435147852001,17277993608711040626,4565203788855734808,15035590846195628659,4691836088772031955,13855533229988709346,13744896568806875982,4660826831854968624,1084321935267529678,652804883282752501,18108170890242362434,16535028204299928561,2698290570659458855,15961948611349045534,11618261851396464115,11248863137389323891,2700745510172166127,4018151591884986031,12329733569428392289,11908849094109073151,12182773226294538041,5602935023186963110,7077198732193459024,5471700112961487788,8941935588693604629,8137925284900059732,17937199407676601671,9641107266764541881,5223734214238155877,2982945293852753048,3544635825035920255,18255654362484320341,9087112167079206826,5178918989948288205,16584671698814523538,1648368878391938104,12624469255286631284,8619334780160860505,3253176817385775080,11630440011343074585,7195570305901863903,7369880728100971849,10514308686293227295,11239378696429080936,8481120813312364829,4681191373218598052,18030467022324851465,2114477382335545430,1666990831484896655,14924321222668965838,14092828561985860065,5948548249986650328,10199765047151721636,12572518044317568072,8092157317574707818,499641355409627732,11623805822964830185,18419373421753560910,17561504270149848135,10786830771810392871,4687630316414783911,14519928277544560764,5480887894123711711,17185268675143720021,967169607219866454,6583306833371473,1370353256527352295,7123806041927154768,9750554924604132257,6255382737248146293,15349353962430697298,15349963633582754237,6666332908745658199,16563557582590006458,8765727203547473528,10154212031610718546,7034102301499322599,7359422875619810748,3580844445774562054,17534890640296211255,6171171055953599145,11742880708347699034,1043803677017966419,5650815703110741734,10450902661190774633,1151296026044399776,104515093002021088,16304448343709942728,13185634387740892855,7808115041200318816,11620688648354880823,11375311107401733795,13046534381209343513,15348188681761110083,16918973314246989690,1050085428328053363,4651643087590581376,1963567683332270564,8080185521035507078,5742516278641685688,12844136588911584521,9993437993227479603,11256156775752699681,10325089944708489659,5018434450106973419,5173615146759491399,1571250957576680860,9222459578992566370,9678598200835713357,13787355294878093468,4406519914023722282,16670824653733582366,3202337679480683849,18343903541496227986,5044798029236556416,16566329761693917069,15101267846459270981,10515845150496091397,2659266530486888403,3703823801163372581,9456755163228100500,7343373349197836634,1706142130265935766,5283891198014728798,1676964128139417977,6118436390917663747,12456808684025225925,327925212861416873,7995383226480907287,12360320277426868324,4939190518384141166,2350586213166596185,7298235734124174671,13720841943115500856,9871380535462340610,5030331120640743511,1967551619963059734,18092690572069692725,18273440752049425545,17353456454411290047,6745894959879638279,4039199699104395625,14453065102319406854,6536518671968515992,10391641030146500945,4170706675144900991,9402505133856848544,14450390946921746164,15382862440863635595,6465577843229692861,10847147346453298210,10185719642872970669,8260910671176172765,7691053310312859138,6398405775141135829,9103798908881717767,2142743230888196495,4862364682873532393,7352692756999655623,17639843994523771881,7974060001332790662,13027372007257220912,14898745387986387452,8119291292516419568,16887573159896838838,14314130526460552131,2986888127742509658,18124823301863929836,9765981859060901838,10392878815415560184,6178863046592390152,15013010464159137101,607643117177855596,14508053378572951482,3016380391847494088,14906733674725635409,10160603885994697457,16477139673914369376,12771285138549992639,17232809613001960020,10777382181646456979,10063347742826683141,10528746963162749149,4293825162318933472,18422603848363059631,15296054421795463704,28656223434606515,10082842833794501213,17170625641738974008,2290284589932702774,2400583798907806791,3955419687134596178,17626678403428362291,8391274759693973163,1932321205707649267,13015727091912999540,5685340592054182004,10086291502377827840,3384226834789451447,11154004906383633583,11716422773708173055,5078951187768097036,16263513211564057664,4951706743693971258,13259150030774392996,623910166565167944,6473222911618909397,13444282622498735739,11978859507458009717,5341940354119399478,12318100852026605153,992825287547497670,14647880511749799529,675591706024633751,8249317522369549607,14302897732058219942,15271144764157826877,13453626480947576376,16269414680264355064,14904733272062617833,13257876541892056128,10601350045909177574,15180915244383863924,918151639640473741,12348623253907952513,10080048714473303970,9922898489556245951,9296043882232233435,16003720790315986189,12376017634079884395,3663580421295885545,16027276714377810955,16087238731628252653,15116667540741558306,4177588248743649248,3070261342106122115,10142217866669959083,211589319554165093,10552094824290493338,2894841503844643791,322264454843014724,5154723837621795352,11528910099959468612,12644584294834718928,10666224190714368456,14886161475021416974,11933432884825609888,18054902762216241930,5833968361542502622,9972243558234663851,4682945382657888543,5149886277594815238,16470651321061223347,5818230303479654136,7097475265210526052,7100261805978170270,3034016783419280102,14778012713382863249,17224262111837796260,18409708209104322127,1984193983450826645,18161679263562863750,13635871526777858827,3172239664246629468,2388489194334838621,1770899935471410406,11729656301923633803,17662030347243331425,1722086913371738421,12087935151594755862,10317746907325265028,17333655544046769018,16692306767884206976,16151735320694431386,14036948892087428961,3732217481033525358,2322763646257318561,947390964063755196,15537066058918095721,14950122398155742941,17208226391918711640,3245318497660845757,14597580884972041642,10916609220175350950,16035520634283301594,1659237322614960390,440155799304390476,3965948126427893092,17455906618504332725,14036622716841165246,13005936355461911600,14665521543074694669,4482251181752112047,17804107320265035664,5345306236617452080,16259963218827099023,7281401929172206338,9111451853276678889,3415303563372271116,3561303666740482505,2787945384078403876,6543762676716782560,11983392650587526296,2032555547444647937,15778859324499826903,16078677502321304451,13795487441677437659,14579516515352941831,12388009067381977104,11805563020684805982,12139737066250993996,16183397767917555479,13055041085996808222,3773253621814308096,12967404932081064367,12528633643020500437,16745591411296156856,8758985749296645700,73227902973019215,9205746020171381903,10744904847684723313,4185222686898265320,10597959444384608536,11974442823950319596,10725002987994161782,14840381062962194666,16954926094678952120,14967746562868922297,3623155806756689558,11301388405893589621,14102084129703377962,11289899110128954779,10362929396525676726,11195350972896833617,16812295176190281727,11956670724162159902,4177143329800182889,1288371057429131330,18214909158418493623,17307874177882531132,7018311630210116420,13091861868670118304,14649428721208977493,17037428310453454857,8446634357087897291,5309775675642543727,2793242989699163767,5559544281233883699,2935464372550141136,9571555757115345625,6313971208159733289,4613860978996658130,7776842657501899969,11131608366701086000,562189730961195595,17647659600870597973,9339704102397868430,6645691604589608706,11867517240460667254,7467920367063914276,6844869310645911085,16065649003915537108,12353227097943898462,2260173431224359700,241987165395495118,2002937977884634650,8504213552586294833,13133625787836735505,16849343522324066678,7966563157415315532,17187022823411916098,3948411968185118075,10800164443623319845,15388459527166463078,12725906609483991750,815491997708925397,15032877273163984663,3692577962787466277,14641148217806273031,10903504353470608083,2389423677718993963,3765502276312593722,14146974477562511104,18202240588872139849,10550054388016968975,210589491284061673,2608491972824503102,9055015571318312969,5269644906278496744,1867252585504826774,10933536307681759235,17787390619498031206,892405589194578414,10777251406666662665,11892151912484725455,306542420109387762,18319591587547832992,5820265379253301135,7873099955174677534,2920492553336180465,5390239280502501032,6733044924391293270,13910897008773942724,17315117399359115473,6890639824227262275,17016298220938409929,174685011250108996,3492913897977545107,14721443885322692453,16810224400721857609,8364138142167279051,9226213483622615157,6361460540335583042,10071455088969617647,16534548754631302282,4332318732943230712,14121427695228179089,5083900282055736202,12018205075387984452,13672200062144647742,8659387508756040884,16313634811229387450,14397100101063890844,1156634628653359956,5679036002807450993,16063837233438071556,10893982498628164558,6709653091888821381,13284383342753422683,10471951118190828598,13231691574666894580,610984197183788572,9236786714160338301,12875254453403434673,1424617524396150161,18291088773945646928,1700342140977094159,208441735471988507,17466957256005002868,16004673230452065865,7363081848829361077,12854701916884694496,818440114230715020,8659142106738561345,16275436061855642518,1361854552386828156,14348748209815990111,17260311462248866497,12296243088070086203,8968259513408010859,15559353530281204484,5569539003571527615,12229249001382482216,16411473252087137966,13371667032255588003,4339013850100868578,5751713293190458474,9559607054885898603,13685006924606220513,4889654823359893820,12321088244587380831,11480504109949165680,15933928457355147570,7940722444627639540,2602522972174238703,13191017791441233785,18284284202355377725,17530847910228646522,11510752052502296327,9605608756268395085,15075929049885348611,1542411859725620039,8305029879722283835,2265534720125344208,1643080099333229383,14848866522832933044,6303594351979761123,14954483919866276511,18390453526377775827,1464322520425245454,17864988003060638688,18241509103077235732,18183839165079001559,12933591820239897451,3815242502527559828,17335283332703141773,12036617364332481097,3659303841980031413,3637163976145167502,4199762810361294783,10924273269565955404,9956281086720866189,6326070978014896201,12931124538693493184,17547589811494446543,12345011805545089729,16782535702184003275,3481658513358121628,803636707450584298,11989737187887024811,435798056035948768,1211519618620515867,3447825366901991680,152916526964706009,767856739071314112,11095877640766940079,17265698356304745966,12410280754216666763,1128031895906693619,7460783598275710921,17572228428488932662,10161364171863716004,6835384849697932630,4249384427542243183,4431621225522951759,214441697489040924,16506964636570162073,14017949216841781654,17951435551513396564,13726420126691558954,9896864224620074132,5338926449557357387,5887228957021312388,3190325978593167902,8498494854273012132,12481501399351356607,3826184453025574931,13320491618448281704,12953505700475448433,8785734005541822804,8452875021645712064,4986202553917545305,11515563182641572331,1568246420312997436,3913508054451729930,653126517637159823,16602771166127056896,5547894594091094178,8596170198850441293,8331641144516840309,16469832941023375765,3281670672896814423,757469820050192411,5240924166398439264,7174131056664599958,13015687091156029608,17832020398840687977,6342803613628586256,4729251739019612223,9932120389108869584,7941357231472386868,6551007739440206134,17239169627731641693,8623545941503863381,7507407828685810577,8769570001906570890,5083014394512134874,6760227775345114940,3029932482144287679,3192142443146829708,15213139368666319450,8947754300063208599,14541371386165151459,6701502671569188427,11421746441767943764,16406879281774011571,15608288974893971145,4467151708678935184,3929298919096688525,12105746882509206106,5300469565756641871,1932697956692713341,3599456292287585306,7555488431415625480,2306448483273489707,14388169593002253900,191971806887557993,12947827557152109568,8108566148020208586,17266144404594887253,10598979123741096326,10209772517729837761,2262276319651378339,6138986054994290882,10736668702993110785,11356069266717498052,9837482693726756442,14008070935731494887,16585783814735631103,286489794774619639,450506783779603659,1938229574377432434,2528430156973908669,2672455652031672979,10545047421835308716,10471729131763254779,918305353149483271,2220348672851253366,12788056749682512128,2916557104045062172,2259933965642117359,7212487251586086945,10130789147201332191,10832439763956898184,3422710294737597371,521347846322727363,10885967835369145153,17828660356836853289,10045810153283067046,18064913248530721104,6334113544904003583,8105424894804430651,11955905080553031250,6266101360935979142,6168785020481706914,5051894406843581513,13028668001268979630,2188692765127000822,15991100392975072703,12835472754632822332,9648086708331749624,8939181119554818862,12554130860952264354,18201750340718718292,3009667020176215847,6728994863201980881,2350526168581896625,16524189978636997742,11970089390044473813,5073830315770717814,1663728693100006891,3349866346106662795,4739447321927837962,3169782792475486367,8958578866160443032,6286122400822465382,14558962144247453336,9464795040578158916,11138004999891068553,6147494748810129075,17966133883424743639,9418435628944169481,16177141792127501677,10294811265052892102,17466273381023627143,17158906170179018547,2735870055265488401,7528990585084036262,769185987782085411,6932132890254956781,10436811247171889502,5217453529503869767,18197487022800515405,9462637178515234874,18332417794470593232,18055144393731432702,5483241976852103001,8919701375182892727,12549941402623904685,16495501139003292046,17180906267148643302,7410689215495006565,13743022561144011346,17815848351681736592,10010248557674793100,10869016477445898174,1998862287172318751,8255549275912426617,4003882398241773797,1721354324384931502,16266175269186134113,13011094306141257504,15372052181282471767,359598237288842999,9480415164218357950,1176118151388680538,10336489629098943745,18033465167428641394,15800702547725908959,8804611881345745178,5191470045802362259,5895332004173004411,14945830124861183028,17691174582692501817,11659761784862083914,15605990810664488081,8513186435170915533,9119937548486485031,812755729612107264,14061683993279313648,2340098924476632664,13682543394407590211,9366903069950130850,14685588814260989361,14124771592146819175,7258076757818473581,3238543676992715145,12231550169875928951,7879759210734068703,6713822810844750668,9452114764004453909,18249122356374258410,9445820485571030261,12832272442826468350,2196746375241317913,12797986796675032343,3729493138077559504,12006633444443849545,15295026711465839688,12915211722368250611,15210522626103821867,2884137401052789478,676736413005499060,7247914428347142900]
#print PySem.W.Fast
open PySem PySem.W PyProof.Rows
set_option tactic.hygienic true
end
set_option maxRecDepth 100000 in
set_option maxHeartbeats 0 in
theorem PySem.Challenge.cw_lastwaltz_k51_names_and_dances_at_the_de_holds : PySem.Challenge.rw_lastwaltz_k51_names_and_dances_at_the_de.Holds := by
 w_on;o_law;k_head;(case hw=>w_witness2)
 k_fill
 refine Wk51.walk (l:=PySem.Challenge.rw_lastwaltz_k51_names_and_dances_at_the_de) (c0:=492) (P0:=488) rfl rfl (fun w h Y=>PySem.W.km_in_of Y) (fun w h Y=>PySem.W.km_tabs_of Y _ (aQi)) (fun w=>by kernel_rfl) (fun w=>by kernel_rfl) (fun w=>by kernel_rfl) ?F
 case F =>
  intro w mg fa h KX G hmg CK aq9;refine' Wk51.all_mk2 KX G hmg CK aq9 ?aC ?Vx ?Vp ?Vt ?Sq ?Vv ?Vu ?bx9 ?pg ?hd ?po ?sa ?LZ ?Ci ?Cg ?HU ?UU ?UY ?RL ?U0 ?UZ ?g1 ?g2 ?g3 ?g4 ?g5 ?g6 ?g7 ?g8 ?tN ?wS ?wR ?wI ?bq8 ?bq4 ?bq3 ?av7 ?av6 ?az8 ?av5 ?av4 ?av3 ?av2 ?bq2 ?bq1 ?av9 ?av8 ?bq0 ?mk ?kc ?VA ?Vy ?Vz ?bx0 ?bj1 ?bj5 ?bj8 ?bj6 ?dzo ?dzs ?bj3 ?bj2 ?Vq ?ax8 ?Vw ?Vs ?Vr ?kpg ?khd ?kpo ?ksa ?Hs ?Ht ?BO ?xf ?kmk ?kkc ?bpg ?bhd ?bpo ?bsa ?V_ ?U_ ?aj4 ?bmk ?bkc ?epg ?ehd ?epo ?esa ?aj2 ?aq4 ?aj3 ?emk ?ekc ?xn ?bj4 ?ak1 ?ak0 ?ak2 ?kdo ?bj7 ?bj9 ?szo ?szs ?sz1 ?sz2 ?sz3 ?sz4 ?sz5 ?sz6 ?sz7 ?UV ?az7 ?U1 ?UX ?UW ?ax4 ?ax3 ?ax2 ?av1 ?av0 ?ak9 ?bq5 ?bq6 ?bq7 ?xB ?xT ?xU ?xL ?xF ?rQ ?o7 ?jN ?nv ?uV ?A8 ?zt ?zu ?o8 ?zF ?rS ?l6 ?uT ?uR ?ny ?wy ?GO ?zG ?Ba ?wC ?wx ?zn ?uS ?DZ ?ka ?rc ?oK ?fQ ?rg ?i9 ?wE ?zE ?wD ?ja ?lZ ?yo ?zp ?vt ?rX ?mh ?ud ?rT ?uX ?zo ?A4 ?qZ ?q8 ?uU ?wz ?oM ?rR ?kR ?lY ?lX ?pH ?uQ ?A7 ?D4 ?D3 ?zq ?A6 ?oN ?zr ?zA ?zw ?zC ?uW ?wA ?jO ?nE ?rW ?oP ?vq ?nA ?A9 ?re ?oO ?rV ?zD ?zB ?pI ?Ot ?Us ?ML ?yi ?MM ?Rj ?Ur ?Rh ?Uo ?Uq ?Jk ?Dg ?Uv ?Uu ?Ut ?Ri ?Uy ?Ah ?Ux ?Uw
  (case aC=>k_is)
  (case Vx=>k_is)
  (case Vp=>k_is)
  (case Vt=>k_is)
  (case Sq=>k_is)
  (case Vv=>k_is)
  (case Vu=>k_is)
  (case bx9=>k_is)
  (case UU=>kernel_rfl)
  (case UY=>kernel_rfl)
  (case RL=>kernel_rfl)
  (case U0=>kernel_rfl)
  (case UZ=>kernel_rfl)
  (case g8=>kernel_rfl)
  (case bq8=>kernel_rfl)
  (case bq4=>kernel_rfl)
  (case bq3=>kernel_rfl)
  (case av7=>kernel_rfl)
  (case av6=>kernel_rfl)
  (case az8=>kernel_rfl)
  (case av5=>kernel_rfl)
  (case av4=>kernel_rfl)
  (case av3=>kernel_rfl)
  (case av2=>kernel_rfl)
  (case bq2=>kernel_rfl)
  (case bq1=>kernel_rfl)
  (case av9=>kernel_rfl)
  (case av8=>kernel_rfl)
  (case bq0=>kernel_rfl)
  (case VA=>k_is)
  (case Vy=>k_is)
  (case Vz=>k_is)
  (case bx0=>k_is)
  (case bj1=>k_is)
  (case bj5=>k_is)
  (case bj8=>k_is)
  (case bj6=>k_is)
  (case dzo=>exact rfl)
  (case dzs=>kernel_rfl)
  (case bj3=>k_is)
  (case bj2=>k_is)
  (case Vq=>k_is)
  (case ax8=>k_is)
  (case Vw=>k_is)
  (case Vs=>k_is)
  (case Vr=>k_is)
  (case xn=>kernel_rfl)
  (case bj4=>k_is)
  (case ak1=>k_is)
  (case ak0=>k_is)
  (case ak2=>k_is)
  (case kdo=>exact⟨_,_,_,rfl,rfl,rfl,by decide,.cons ⟨_,rfl⟩ (.cons ⟨_,rfl⟩ (.cons ⟨_,rfl⟩ (.cons ⟨_,rfl⟩ (.cons ⟨_,rfl⟩ (.cons ⟨_,rfl⟩ (.cons ⟨_,rfl⟩ (.cons ⟨_,rfl⟩ .nil)))))))⟩)
  (case bj7=>k_is)
  (case bj9=>k_is)
  (case szo=>exact rfl)
  (case szs=>kernel_rfl)
  (case sz1=>exact⟨_,_,_,rfl,rfl,rfl,by decide,.cons ⟨_,rfl⟩ (.cons ⟨_,rfl⟩ .nil)⟩)
  (case sz2=>exact⟨_,_,_,rfl,rfl,rfl,by decide,.cons ⟨_,rfl⟩ (.cons ⟨_,rfl⟩ .nil)⟩)
  (case sz3=>exact⟨_,_,_,rfl,rfl,rfl,by decide,.cons ⟨_,rfl⟩ (.cons ⟨_,rfl⟩ .nil)⟩)
  (case sz4=>exact⟨_,_,_,rfl,rfl,rfl,by decide,.cons ⟨_,rfl⟩ (.cons ⟨_,rfl⟩ .nil)⟩)
  (case sz5=>exact⟨_,_,_,rfl,rfl,rfl,by decide,.cons ⟨_,rfl⟩ (.cons ⟨_,rfl⟩ .nil)⟩)
  (case sz6=>exact⟨_,_,_,rfl,rfl,rfl,by decide,.cons ⟨_,rfl⟩ (.cons ⟨_,rfl⟩ .nil)⟩)
  (case sz7=>exact⟨_,_,_,rfl,rfl,rfl,by decide,.cons ⟨_,rfl⟩ (.cons ⟨_,rfl⟩ .nil)⟩)
  (case UV=>kernel_rfl)
  (case az7=>kernel_rfl)
  (case U1=>kernel_rfl)
  (case UX=>kernel_rfl)
  (case UW=>kernel_rfl)
  (case ax4=>kernel_rfl)
  (case ax3=>kernel_rfl)
  (case ax2=>kernel_rfl)
  (case av1=>kernel_rfl)
  (case av0=>kernel_rfl)
  (case ak9=>kernel_rfl)
  (case bq5=>kernel_rfl)
  (case bq6=>kernel_rfl)
  (case bq7=>kernel_rfl)
  (case xB=>kernel_rfl)
  (case xT=>kernel_rfl)
  (case xU=>kernel_rfl)
  (case xL=>kernel_rfl)
  (case xF=>kernel_rfl)
  all_goals first | (refine' Wz.fact_mk ?a ?l ?c ?k;(case a=>k_is);(case l=>k_is);(case c=>k_is);(case k=>k_is)) | (refine' Wz.mfact_mk ?a ?i ?l ?c ?k;(case a=>k_is);(case i=>k_is);(case l=>k_is);(case c=>k_is);(case k=>k_is)) | k_is
