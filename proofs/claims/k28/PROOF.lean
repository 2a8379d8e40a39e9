import PyProof.Rows.All
import Wide.All
import OpenK.AllK
import Wide.FinOn
import Lean
import PyProof.EqAt
import PyProof.EqKinds
import PyProof.TupleCall
import PyProof.NeData
import PyProof.DictItems
import PyProof.JoinWalk
import PyProof.CallStr
import OpenK.KOwn
import KE.KTryMore
import PyProof.EnumMake
import KE.KLam
import KE.KNestM
import KE.KEqDict
import PySem.Challenge.RW_lastwaltz_k28_whole_the_last_waltz
set_option Elab.async false
set_option linter.all false
set_option maxRecDepth 100000
set_option maxHeartbeats 4000000
namespace L2
open PySem PySem.Spec PyProof.Rows
abbrev cm:=Sum Int Str
def uj:cm->Value->Bool
 | .inl k,v=>Value.isInt k v
 | .inr x,v=>Value.isStrOf x v
def Hk (w:World):cm->Int
 | .inl k=>hashInt k
 | .inr x=>hashStr w x
theorem bR:∀ {k:cm}{v:Value},uj k v=true->(∃ i t,k=Sum.inl i/\v=Value.int i t)\/(∃ x t,k=Sum.inr x/\v=Value.str x t)
 | .inl i,v,h=>by
  obtain⟨t,e⟩:=Value.isInt_shape (k:=i) (v:=v) h;exact .inl ⟨i,t,rfl,e⟩
 | .inr x,v,h=>by
  obtain⟨t,e⟩:=Value.isStrOf_shape (x:=x) (v:=v) h;exact .inr ⟨x,t,rfl,e⟩
theorem AC (i:Int)(t:Tok):uj (.inl i) (.int i t)=true:=by simp[uj,Value.isInt]
theorem AD (x:Str)(t:Tok):uj (.inr x) (.str x t)=true:=by simp[uj,Value.isStrOf]
theorem Fe (a b:Int):decide ((Sum.inl a:cm)=Sum.inl b)=(a == b):=by
 by_cases e:a=b
 ·subst e;simp
 ·have h:¬ (Sum.inl a:cm)=Sum.inl b:=fun q=>e (Sum.inl.inj q)
  rw[decide_eq_false h];exact (beq_eq_false_iff_ne.mpr e).symm
theorem Fh (a b:Str):decide ((Sum.inr a:cm)=Sum.inr b)=decide (a=b):=by
 by_cases e:a=b
 ·subst e;simp
 ·have h:¬ (Sum.inr a:cm)=Sum.inr b:=fun q=>e (Sum.inr.inj q)
  rw[decide_eq_false h,decide_eq_false e]
theorem Ff (a:Int)(b:Str):decide ((Sum.inl a:cm)=Sum.inr b)=false:=decide_eq_false (fun q=>nomatch q)
theorem Fg (a:Str)(b:Int):decide ((Sum.inr a:cm)=Sum.inl b)=false:=decide_eq_false (fun q=>nomatch q)
def bH (prog:Program)(w:World):PySem.KeyKind prog w cm where
 is:=uj
 hash:=Hk w
 inj:=fun v a b ha hb=>by
  rcases bR ha with ⟨i,t,rfl,rfl⟩ | ⟨x,t,rfl,rfl⟩
  ·rcases bR hb with ⟨j,u,rfl,e⟩ | ⟨y,u,rfl,e⟩
   ·injection e with e1 _;rw[e1]
   ·exact nomatch e
  ·rcases bR hb with ⟨j,u,rfl,e⟩ | ⟨y,u,rfl,e⟩
   ·exact nomatch e
   ·injection e with e1 _;rw[e1]
 byValue:=fun k v h=>by
  rcases bR h with ⟨i,t,rfl,rfl⟩ | ⟨x,t,rfl,rfl⟩<;>rfl
 pyHash:=fun hv h=>by
  rcases bR hv with ⟨i,t,rfl,rfl⟩ | ⟨x,t,rfl,rfl⟩
  ·exact wpAny_pyHash_int h
  ·exact wpAny_pyHash_str h
 eqBool:=fun hu hv h=>by
  rcases bR hu with ⟨i,t,rfl,rfl⟩ | ⟨x,t,rfl,rfl⟩
  ·rcases bR hv with ⟨j,u,rfl,rfl⟩ | ⟨y,u,rfl,rfl⟩
   ·rw[Fe]at h;exact wpAny_eqBool_int h
   ·rw[Ff]at h;exact SeqAt.EqAt.int_str i t y u _ _ _ _ h
  ·rcases bR hv with ⟨j,u,rfl,rfl⟩ | ⟨y,u,rfl,rfl⟩
   ·rw[Fg]at h;exact SeqAt.EqAt.str_int x t j u _ _ _ _ h
   ·rw[Fh]at h;exact wpAny_eqBool_str h
 «strs»:=fun k x t v h=>by
  rcases bR h with ⟨i,u,rfl,e⟩ | ⟨y,u,rfl,e⟩
  ·exact nomatch e
  ·injection e with e1 _
   subst e1;cases v<;>rfl
theorem wQ (prog:Program)(w:World)(i:Int)(t:Tok):(bH prog w).is (.inl i) (.int i t)=true:=AC i t
theorem wT (prog:Program)(w:World)(x:Str)(t:Tok):(bH prog w).is (.inr x) (.str x t)=true:=AD x t
inductive V where
 | non | bl (b:Bool) | int (i:Int) | str (x:Str) | byt (b:Array UInt8) | flt (b:UInt64) | ref (a:Addr) | ty (n:String)
 deriving DecidableEq
def bi:V->Value->Prop
 | .non,u=>u=Value.none
 | .bl b,u=>u=Value.bool b
 | .int i,u=>∃ t,u=Value.int i t
 | .str x,u=>∃ t,u=Value.str x t
 | .byt b,u=>∃ t,u=Value.bytes b t
 | .flt b,u=>∃ t,u=Value.float b t
 | .ref a,u=>u=Value.ref a
 | .ty n,u=>u=Value.type n
abbrev bt:List V->List Value->Prop:=Paired bi
theorem bt.length {xs:List V}{us:List Value}(r:bt xs us):xs.length=us.length:=Paired.length r
theorem bt.get:∀ {xs:List V}{us:List Value}{i:Nat}{x:V},bt xs us->xs[i]? = some x->∃ u,us[i]? = some u/\bi x u
 | _,_,_,_,.nil,e=>by simp at e
 | _,_,0,_,.cons r _,e=>by simp at e;subst e;exact⟨_,rfl,r⟩
 | _,_,i+1,x,.cons _ t,e=>by
  obtain⟨u,h1,h2⟩:=bt.get (i:=i) (x:=x) t (by simpa using e);exact⟨u,by simpa using h1,h2⟩
theorem bt.append:∀ {xs ys:List V}{us ws:List Value},bt xs us->bt ys ws->bt (xs++ys) (us++ws)
 | _,_,_,_,.nil,s=>s
 | _,_,_,_,.cons r t,s=>.cons r (bt.append t s)
theorem bt.take:∀ {xs:List V}{us:List Value}(n:Nat),bt xs us->bt (xs.take n) (us.take n)
 | _,_,0,_=>.nil
 | _,_,_+1,.nil=>.nil
 | _,_,n+1,.cons r t=>.cons r (bt.take n t)
theorem bt.drop:∀ {xs:List V}{us:List Value}(n:Nat),bt xs us->bt (xs.drop n) (us.drop n)
 | _,_,0,r=>r
 | _,_,_+1,.nil=>.nil
 | _,_,n+1,.cons _ t=>bt.drop n t
def iy:Option V->Option Value->Prop
 | some v,some u=>bi v u
 | none,none=>True
 | _,_=>False
def KV {κ:Type}:List (κ×V)->List (κ×Value)->Prop:=Paired fun (p:κ×V)(q:κ×Value)=>p.1=q.1/\bi p.2 q.2
def kV:cm->V
 | .inl i=>.int i
 | .inr x=>.str x
inductive HO where
 | lst (xs:List V)
 | tup (xs:List V)
 | dK (kvs:List (cm×V)) | dT (kvs:List (List cm×V))
 | set (S:Int->Bool) (n:Nat)
 | ins (C dx:Addr) (fs:List (Str×V))
 | own (x:Addr)
 | xd (fs:List (Str×V))
 | met (f x:Addr)
 | rng (lo hi:Int)
 | frz (o:Obj) (u:HO)
 | tbl (ps:Array Value)
 | ext (φ:Heap->Prop)
abbrev Hp:=Addr->Option HO
def upd (H:Hp)(a:Addr)(o:HO):Hp:=fun b=>if b=a then some o else H b
theorem ae {H:Hp}{a:Addr}{o:HO}:upd H a o a=some o:=by unfold upd;rw[if_pos rfl]
theorem af {H:Hp}{a b:Addr}{o:HO}(h:b≠a):upd H a o b=H b:=by unfold upd;rw[if_neg h]
theorem Af {H:Hp}{a:Addr}{o u:HO}:upd (upd H a o) a u=upd H a u:=by
 funext b;unfold upd;split<;>rfl
theorem bz {H:Hp}{a b:Addr}{o u:HO}(h:H a=some o)(h':H b=some u)(d:o≠u):a≠b:=by
 intro e;subst e;rw[h]at h';exact d (Option.some.inj h')
theorem ak {H:Hp}{a b:Addr}{o:HO}(h:H a=some o)(h':H b=none):a≠b:=by
 intro e;subst e;rw[h]at h';cases h'
section
variable (P:Program)(w:World)
def bC (H:Hp)(h:Heap)(a:Addr):HO->Prop
 | .lst xs=>xs.length<=sizeLine/\∃ (its:List Value)(n:Nat),bt xs its/\h.get? a=some { cls:=.type "list",data:=.seq its.toArray n }
 | .tup xs=>xs.length<=sizeLine/\∃ its:List Value,bt xs its/\IsTup h a its.toArray
 | .dK kvs=>kvs.length<=sizeLine/\(a == sysModules)=false/\∃ vs,KV kvs vs/\h.DictOf (bH P w) a vs
 | .dT kvs=>kvs.length<=sizeLine/\(a == sysModules)=false/\∃ xs:List (List cm×Addr×Value),
   Paired (fun (p:List cm×V)(q:List cm×Addr×Value)=>p.1=q.1/\H q.2.1=some (.tup (p.1.map kV))/\bi p.2 q.2.2) kvs xs /\
   ∃ o es ep,h.get? a=some o/\o.ExactDict/\o.data=.dict es ep/\es.toList=xs.map (entryOfKey (tupleKind (bH P w)))/\(xs.map (·.1)).Nodup
 | .set S n=>h.SetOf (intKind P w) a S n
 | .ins C dx fs=>H dx=some (.own a)/\fs.length<=1000/\dx≠a/\h.get? a=some (PySem.W.instObj C dx) /\
   ∃ mA,h.Ns1 dx mA/\(∀ f,iy (fs.lookup f) (mA f))/\PySem.Within mA (fs.map (·.1))
 | .own _=>∃ o,h.get? a=some o
 | .xd fs=>∃ mA,h.Ns1 a mA/\∀ f,iy (fs.lookup f) (mA f)
 | .rng lo hi=>∃ t u v,h.get? a=some { cls:=.type "range",data:=.fields #[.int lo t,.int hi u,.int 1 v] }
 | .frz o u=>h.get? a=some o/\bC H h a u
 | .tbl ps=>h.get? a=some { cls:=.none,data:=.fields ps }
 | .met f x=>h.get? a=some (PySem.W.methodObj (.ref f) (.ref x))
 | .ext φ=>φ h/\(∃ o,h.get? a=some o)/\∀ h1 h2:Heap,φ h1->(∀ o,h1.get? a=some o->h2.get? a=some o)->φ h2
def jz (H:Hp)(h:Heap):Prop:=∀ a o,H a=some o->bC P w H h a o
end
section
variable {P:Program}{w:World}{H H':Hp}{h h':Heap}{a:Addr}{o:HO}
theorem bC.lt (x:bC P w H h a o):a<h.objs.size:=by
 cases o with
 | lst xs=>obtain⟨_,_,_,_,e⟩:=x;exact Heap.lt_size e
 | tup xs=>obtain⟨_,_,_,p⟩:=x;exact p.lt
 | dK kvs=>obtain⟨_,_,_,_,o,_,_,e,_⟩:=x;exact Heap.lt_size e
 | dT kvs=>obtain⟨_,_,_,_,o,_,_,e,_⟩:=x;exact Heap.lt_size e
 | set S n=>obtain⟨o,_,_,_,e,_⟩:=x;exact Heap.lt_size e
 | ins C dx fs=>obtain⟨_,_,_,e,_⟩:=x;exact Heap.lt_size e
 | own y=>obtain⟨_,e⟩:=x;exact Heap.lt_size e
 | xd fs=>obtain⟨_,⟨_,_,_,e,_⟩,_⟩:=x;exact Heap.lt_size e
 | rng lo hi=>obtain⟨_,_,_,e⟩:=x;exact Heap.lt_size e
 | frz ob u=>obtain⟨e,_⟩:=x;exact Heap.lt_size e
 | tbl ps=>exact Heap.lt_size (show h.get? a=some _ from x)
 | met f y=>exact Heap.lt_size (show h.get? a=some _ from x)
 | ext φ=>obtain⟨_,⟨_,e⟩,_⟩:=x;exact Heap.lt_size e
theorem Paired.mapP {α β:Type}{F G:α->β->Prop}:∀ {l₁:List α}{l₂:List β},Paired F l₁ l₂->(∀ a b,F a b->G a b)->Paired G l₁ l₂
 | _,_,.nil,_=>.nil
 | _,_,.cons r t,f=>.cons (f _ _ r) (Paired.mapP t f)
theorem bC.stay (x:bC P w H h a o)(k:∀ b u,(b=a\/H b=some (.own a))->h.get? b=some u->h'.get? b=some u)
  (ho:∀ b,H b=some (.own a)->H' b=some (.own a)) (ht:∀ b xs,H b=some (.tup xs)->H' b=some (.tup xs)):bC P w H' h' a o:=by
 induction o with
 | lst xs=>obtain⟨z,its,n,r,e⟩:=x;exact⟨z,its,n,r,k _ _ (.inl rfl) e⟩
 | tup xs=>obtain⟨z,its,r,ob,e,c⟩:=x;exact⟨z,its,r,ob,k _ _ (.inl rfl) e,c⟩
 | dK kvs=>obtain⟨z,y,vs,r,ob,es,ep,e,c⟩:=x;exact⟨z,y,vs,r,ob,es,ep,k _ _ (.inl rfl) e,c⟩
 | dT kvs =>
  obtain⟨z,y,xs,r,ob,es,ep,e,c⟩:=x;exact⟨z,y,xs,Paired.mapP r fun p q z=>⟨z.1,ht _ _ z.2.1,z.2.2⟩,ob,es,ep,k _ _ (.inl rfl) e,c⟩
 | set S n=>obtain⟨ob,es,ep,t,e,c⟩:=x;exact⟨ob,es,ep,t,k _ _ (.inl rfl) e,c⟩
 | ins C dx fs =>
  obtain⟨d,z,ne,e,mA,⟨od,es,ep,e2,c⟩,r⟩:=x;exact⟨ho _ d,z,ne,k _ _ (.inl rfl) e,mA,⟨od,es,ep,k _ _ (.inr d) e2,c⟩,r⟩
 | own y=>obtain⟨ob,e⟩:=x;exact⟨ob,k _ _ (.inl rfl) e⟩
 | xd fs=>obtain⟨mA,⟨od,es,ep,e,c⟩,r⟩:=x;exact⟨mA,⟨od,es,ep,k _ _ (.inl rfl) e,c⟩,r⟩
 | rng lo hi=>obtain⟨t,u,v,e⟩:=x;exact⟨t,u,v,k _ _ (.inl rfl) e⟩
 | frz ob u ih=>obtain⟨e,q⟩:=x;exact⟨k _ _ (.inl rfl) e,ih q⟩
 | tbl ps =>
  have e:h.get? a=some { cls:=.none,data:=.fields ps }:=x
  show h'.get? a=some { cls:=.none,data:=.fields ps }
  exact k a _ (.inl rfl) e
 | met f y =>
  have e:h.get? a=some (PySem.W.methodObj (.ref f) (.ref y)):=x
  show h'.get? a=some (PySem.W.methodObj (.ref f) (.ref y))
  exact k a _ (.inl rfl) e
 | ext φ=>obtain⟨p,⟨o,e⟩,st⟩:=x;exact⟨st _ _ p fun o q=>k _ _ (.inl rfl) q,⟨o,k _ _ (.inl rfl) e⟩,st⟩
theorem jz.lt (x:jz P w H h)(e:H a=some o):a<h.objs.size:=(x a o e).lt
theorem jz.fresh (x:jz P w H h)(e:h.objs.size<=a):H a=none:=by
 cases q:H a with
 | none=>rfl
 | some u=>exact absurd (Nat.lt_of_lt_of_le (x.lt q) e) (Nat.lt_irrefl _)
theorem jz.kept (x:jz P w H h)(k:∀ b u,h.get? b=some u->h'.get? b=some u):jz P w H h':=fun a o e =>
 (x a o e).stay (fun b u _ q=>k b u q) (fun _ q=>q) fun _ _ q=>q
theorem jz.laid (x:jz P w H h)(k:∀ b u,h.get? b=some u->h'.get? b=some u)(hp:h.objs.size<=a)(new:bC P w (upd H a o) h' a o):jz P w (upd H a o) h':=fun b u e=>by
 have hn:=x.fresh hp
 by_cases hb:b=a
 ·subst hb;rw[ae]at e;cases e;exact new
 ·rw[af hb]at e
  exact (x b u e).stay (fun c v _ q=>k c v q) (fun c q=>by rw[af (ak q hn)];exact q) fun c xs q=>by rw[af (ak q hn)];exact q
end
def Rd (H:Hp)(a:Addr)(u:HO):Prop:=H a=some u\/∃ o,H a=some (.frz o u)
theorem Rd.ok {P:Program}{w:World}{H:Hp}{h:Heap}{a:Addr}{u:HO}(r:Rd H a u)(x:jz P w H h):bC P w H h a u:=by
 rcases r with r | ⟨o,r⟩
 ·exact x a u r
 ·obtain⟨_,q⟩:=x a _ r
  exact q
def Gb:Option HO->Prop
 | some (.lst _)=>True
 | some (.dK _)=>True
 | some (.dT _)=>True
 | some (.set _ _)=>True
 | some (.ins _ _ _)=>True
 | some (.ext _)=>True
 | _=>False
section
variable {P:Program}{w:World}{H:Hp}{h h':Heap}{x e:Addr}{o':HO}
theorem jz.write (ok:jz P w H h)(mu:Gb (H x))(he:e=x\/H e=some (.own x))(k:∀ b u,b≠e->h.get? b=some u->h'.get? b=some u)(heo:∃ u,h'.get? e=some u)
  (new:bC P w (upd H x o') h' x o'):jz P w (upd H x o') h':=fun b u q=>by
 have nown:∀ c y,H c=some (.own y)->c≠x:=fun c y r z=>by subst z;rw[r]at mu;exact mu
 have ntup:∀ c xs,H c=some (.tup xs)->c≠x:=fun c xs r z=>by subst z;rw[r]at mu;exact mu
 by_cases hb:b=x
 ·subst hb;rw[ae]at q;cases q;exact new
 ·rw[af hb]at q
  by_cases hbe:b=e
  ·have q':H b=some (.own x):=by
    rcases he with z | z
    ·exact absurd (hbe.trans z) hb
    ·rw[hbe];exact z
   rw[q]at q';cases q';obtain⟨v,hv⟩:=heo;exact⟨v,by rw[hbe];exact hv⟩
  ·refine (ok b u q).stay (fun c v hc r=>k c v ?_ r) (fun c r=>by rw[af (nown c b r)];exact r) fun c xs r=>by rw[af (ntup c xs r)];exact r
   rcases hc with rfl | hc
   ·exact hbe
   ·rintro rfl
    rcases he with z | z
    ·exact nown c b hc z
    ·rw[hc]at z;cases z;exact hb rfl
end
structure Un (fs ex:List Addr)(H H':Hp)(h h':Heap):Prop where
 keep:∀ b o,h.get? b=some o->H b=none->b∉fs->b∉ex->h'.get? b=some o
 slot:∀ b o,h.get? b=some o->H b=none->b∈fs->b∉ex->∃ sl,h'.get? b=some { o with slots:=sl }
 free:∀ b o,h.get? b=some o->H b=none->b∉ex->H' b=none
 there:∀ b o,h.get? b=some o->b∉ex->∃ o',h'.get? b=some o'
 tups:∀ b xs,H b=some (.tup xs)->H' b=some (.tup xs)
 frzs:∀ b o u,H b=some (.frz o u)->H' b=some (.frz o u)
 tbls:∀ b ps,H b=some (.tbl ps)->∃ more,H' b=some (.tbl (ps++more))
section
variable {fs fs' ex ex':List Addr}{H H1 H2:Hp}{h h1 h2 h':Heap}{a x e:Addr}{o:HO}
theorem Un.any (u:Un fs ex H H1 h h1){b:Addr}{ob:Obj}(q:h.get? b=some ob)(n:H b=none)(hx:b∉ex):∃ sl,h1.get? b=some { ob with slots:=sl }:=by
 by_cases hb:b∈fs
 ·exact u.slot b ob q n hb hx
 ·exact⟨ob.slots,u.keep b ob q n hb hx⟩
theorem Un.kept (k:∀ b u,h.get? b=some u->h'.get? b=some u):Un fs ex H H h h' :=
 ⟨fun b ob q _ _ _=>k b ob q,fun b ob q _ _ _=>⟨ob.slots,k b ob q⟩,fun _ _ _ n _=>n,fun b ob q _=>⟨ob,k b ob q⟩,fun _ _ q=>q,fun _ _ _ q=>q,fun _ ps q=>⟨#[],by rw[q];simp⟩⟩
theorem Un.refl:Un fs ex H H h h:=Un.kept fun _ _ q=>q
theorem Un.laid (k:∀ b u,h.get? b=some u->h'.get? b=some u)(hp:h.objs.size<=a)(hn:H a=none):Un fs ex H (upd H a o) h h' where
 keep:=fun b u q _ _ _=>k b u q
 slot:=fun b u q _ _ _=>⟨u.slots,k b u q⟩
 free:=fun b u q n _=>by rw[af (Nat.ne_of_lt (Nat.lt_of_lt_of_le (Heap.lt_size q) hp))];exact n
 there:=fun b u q _=>⟨u,k b u q⟩
 tups:=fun b xs q=>by rw[af (ak q hn)];exact q
 frzs:=fun b u xs q=>by rw[af (ak q hn)];exact q
 tbls:=fun b ps q=>⟨#[],by rw[af (ak q hn),q];simp⟩
theorem Un.write (mu:Gb (H x))(he:e=x\/H e=some (.own x))(k:∀ b u,b≠e->h.get? b=some u->h'.get? b=some u)(heo:∃ u,h'.get? e=some u):Un fs ex H (upd H x o) h h':=by
 have hx:∀ b,H b=none->b≠x:=fun b n z=>by subst z;rw[n]at mu;exact mu
 have hb:∀ b,H b=none->b≠e:=fun b n z=>by
  subst z;rcases he with r | r
  ·exact hx b n r
  ·rw[n]at r;cases r
 have hm:∀ b u,H b=some u->¬ Gb (some u)->b≠x:=fun b u q nm z=>by subst z;rw[q]at mu;exact nm mu
 refine⟨fun b u q n _ _=>k b u (hb b n) q,fun b u q n _ _=>⟨u.slots,k b u (hb b n) q⟩,fun b u q n _=>by rw[af (hx b n)];exact n,fun b u q _=>?_,
  fun b xs q=>by rw[af (hm b _ q fun z=>z)];exact q,fun b u xs q=>by rw[af (hm b _ q fun z=>z)];exact q,fun b ps q=>⟨#[],by rw[af (hm b _ q fun z=>z),q];simp⟩⟩
 by_cases hbe:b=e
 ·subst hbe;exact heo
 ·exact⟨u,k b u hbe q⟩
end
def GZ (h:Heap)(H:Hp):List Addr:=(List.range h.objs.size).filter fun a=>(H a).isSome
def uV (h:Heap)(H:Hp):Heap:=PySem.W.hideAll h (GZ h H)
theorem Ay (h:Heap)(H:Hp):(uV h H).objs.size=h.objs.size:=PySem.W.hideAll_size _ _
theorem B6 {h:Heap}{H:Hp}{b:Addr}{o:Obj}(e:h.get? b=some o)(n:H b=none):(uV h H).get? b=some o :=
 PySem.W.hideAll_get _ e fun hm=>by
  have q:(H b).isSome=true:=(List.mem_filter.mp hm).2;rw[n]at q;simp at q
theorem D4 {h:Heap}{H:Hp}{b:Addr}{o:Obj}(e:(uV h H).get? b=some o):h.get? b=some o/\H b=none:=by
 have e':h.get? b=some o:=PySem.W.of_hideAll (GZ h H) e;refine⟨e',?_⟩
 cases q:H b with
 | none=>rfl
 | some x =>
  have hm:b∈GZ h H:=List.mem_filter.mpr ⟨List.mem_range.mpr (Heap.lt_size e'),by simp[q]⟩;have z:(uV h H).get? b=none:=PySem.W.hideAll_none (GZ h H) hm;rw[z]at e;cases e
structure Mod (K:PySem.W.Frag)(mg:Str->Option Value)(base:Heap):Prop where
 kin:K.In base
 glob:base.Ns mainGlobals mg
 blt:∃ mb,base.Ns builtinsNs mb/\∀ x:Str,x≠"__name__"->mb x=bootBuiltins x
 nolimit:base.NoLimit
structure Cx where
 prog:Program
 w:World
 K:PySem.W.Frag
 mg:Str->Option Value
 base:Heap
 A:Around
 N:List Str
 s₀:Shared
 H₀:Hp
 env:Env
 outer:List Env
 stack:List Env
 ex:List Addr
 fn:Str->Bool
 calm:Bool
 pn:List (Addr×Obj)
 xe:Value->Shared->Prop
def iR (l:List Env):List Addr:=l.filterMap (·.frame)
abbrev Cx.fs (X:Cx):List Addr:=iR X.outer
def Hc (sc:Scope)(x:Str):Prop:=sc.names.lookup x=some .local\/sc.names.lookup x=some .cell\/sc.names.lookup x=some .free
def FY (sc:Scope)(x:Str):Prop:=sc.names.lookup x=some .local\/sc.names.lookup x=some .cell
def G6 (env:Env)(h:Heap)(m:Str->Option Value)(x:Str)(u:Value):Prop :=
 (env.kindOf x=some .local/\m x=some u)\/((env.kindOf x=some .cell\/env.kindOf x=some .free)/\∃ c,env.cells.lookup x=some c/\h.IsCell c (some u))
structure Cx.Ok (X:Cx):Prop where
 mod:Mod X.K X.mg X.base
 kind:X.env.scope.kind=.function
 glob:X.env.globals=mainGlobals
 blt:X.env.builtins=builtinsNs
 above:X.s₀.heap.objs.size<=X.env.locals
 inj:∀ x y c,X.env.cells.lookup x=some c->X.env.cells.lookup y=some c->x=y
 has:∀ x,(X.env.kindOf x=some .cell\/X.env.kindOf x=some .free)->∃ c,X.env.cells.lookup x=some c
 cab:∀ x c,X.fn x=true->X.env.cells.lookup x=some c->X.s₀.heap.objs.size<=c
 hd:X.calm=true->X.A.handled=none
 frames:X.A.frames=some X.stack
 stk:X.stack=X.outer\/(X.stack=X.env::X.outer/\X.env.frame=some X.env.locals)
 exf:∀ b∈X.ex,b≠X.env.locals/\∀ x c,X.env.cells.lookup x=some c->c≠b
 bs:∀ b o,X.base.get? b=some o->X.s₀.heap.get? b=some o/\X.H₀ b=none
 bsz:X.base.objs.size<=X.s₀.heap.objs.size
 noex:∀ b o,X.base.get? b=some o->b∉X.ex
 exfs:∀ b∈X.ex,b∉X.fs
 funs:X.s₀.heap.FunFrames X.base X.outer
 frf:∀ b∈X.fs,X.H₀ b=none
structure aE (X:Cx)(pins:List (Addr×Obj))(σ:List (Option V))(H:Hp)(s:Shared):Prop where
 ok:X.Ok
 os:s.os=X.s₀.os
 bare:AllBare s.gens
 base:Un X.fs X.ex X.H₀ H X.s₀.heap s.heap
 loc:∃ m,s.heap.Ns X.env.locals m/\∀ (i:Nat)(x:Str)(v:V),X.N[i]? = some x->σ[i]? = some (some v)->Hc X.env.scope x->∃ u,bi v u/\G6 X.env s.heap m x u
 cell:∀ x c,X.env.cells.lookup x=some c->∃ v,s.heap.IsCell c v
 free:H X.env.locals=none
 freeC:∀ x c,X.env.cells.lookup x=some c->H c=none
 pin:∀ p∈X.pn++pins,s.heap.get? p.1=some p.2/\H p.1=none/\p.1≠X.env.locals/\p.1∉X.fs/\∀ v,p.2.data≠.cell v
 hok:jz X.prog X.w H s.heap
 len:σ.length=X.N.length
section
variable {X:Cx}{pins:List (Addr×Obj)}{σ:List (Option V)}{H H':Hp}{s:Shared}{h':Heap}
theorem Cx.Ok.nofr (ok:X.Ok){b:Addr}{o:Obj}(e:X.base.get? b=some o):b∉X.fs:=fun hb=>by
 have:=(ok.funs.mem hb).1;rw[e]at this;cases this
theorem aE.bs (I:aE X pins σ H s):∀ b o,X.base.get? b=some o->s.heap.get? b=some o/\H b=none:=fun b o e =>
 ⟨I.base.keep b o (I.ok.bs b o e).1 (I.ok.bs b o e).2 (I.ok.nofr e) (I.ok.noex b o e),I.base.free b o (I.ok.bs b o e).1 (I.ok.bs b o e).2 (I.ok.noex b o e)⟩
theorem aE.bk (I:aE X pins σ H s):∀ b o,X.base.get? b=some o->s.heap.get? b=some o:=fun b o e=>(I.bs b o e).1
theorem aE.mod (I:aE X pins σ H s):Mod X.K X.mg X.base:=I.ok.mod
theorem aE.kIn (I:aE X pins σ H s):X.K.In s.heap:=I.ok.mod.kin.keeps I.bk
theorem aE.lt (I:aE X pins σ H s):X.env.locals<s.heap.objs.size:=let ⟨_,hn,_⟩:=I.loc;hn.lt
theorem aE.sz (I:aE X pins σ H s):X.s₀.heap.objs.size<=s.heap.objs.size:=Nat.le_trans I.ok.above (Nat.le_of_lt I.lt)
theorem aE.nofs (I:aE X pins σ H s){a:Addr}(h:s.heap.objs.size<=a):a∉X.fs:=fun hb=>by
 obtain⟨_,o,ho,_⟩:=I.ok.funs.mem hb;exact absurd (Nat.lt_of_lt_of_le (Heap.lt_size ho) (Nat.le_trans I.sz h)) (Nat.lt_irrefl _)
theorem aE.cne (I:aE X pins σ H s):∀ x c,X.env.cells.lookup x=some c->c≠X.env.locals:=fun x c e z=>by
 obtain⟨v,o,ho,hd⟩:=I.cell x c e;obtain⟨m,⟨o',es,ep,ho',hd',_⟩,_⟩:=I.loc;rw[z,ho']at ho;cases ho;rw[hd']at hd;cases hd
theorem aE.funs (I:aE X pins σ H s):s.heap.FunFrames X.base X.outer:=by
 have all:∀ (l:List Env),(∀ b∈iR l,b∈X.fs)->X.s₀.heap.FunFrames X.base l->s.heap.FunFrames X.base l:=by
  intro l
  induction l with
  | nil=>intro _ _;trivial
  | cons env r ih =>
   intro hs hl;obtain⟨hk,⟨L,o,hf,hn,ho,hd⟩,hr⟩:=hl;have hL:L∈X.fs:=hs L (by unfold iR;rw[List.filterMap_cons,hf];exact List.mem_cons_self);obtain⟨sl,e⟩:=I.base.slot L o ho (I.ok.frf L hL) hL fun z=>I.ok.exfs L z hL;exact⟨hk,⟨L,_,hf,hn,e,hd⟩,ih (fun b hb=>hs b (by unfold iR;rw[List.filterMap_cons,hf];exact List.mem_cons_of_mem _ hb)) hr⟩
 exact all X.outer (fun _ hb=>hb) I.ok.funs
theorem aE.stack (I:aE X pins σ H s):s.heap.FunFrames X.base X.stack:=by
 rcases I.ok.stk with e | ⟨e,hf⟩
 ·rw[e];exact I.funs
 ·rw[e]
  obtain⟨m,hn,_⟩:=I.loc;refine .cons (by rw[I.ok.kind];decide) hf hn ?_ I.funs;exact Heap.get?_none_of_le (Nat.le_trans I.ok.bsz I.ok.above)
theorem aE.stkSub (I:aE X pins σ H s):∀ b∈iR X.stack,b∈X.env.locals::X.fs:=fun b hb=>by
 rcases I.ok.stk with e | ⟨e,hf⟩
 ·rw[e]at hb;exact List.mem_cons_of_mem _ hb
 ·rw[e]at hb
  unfold iR at hb;rw[List.filterMap_cons,hf]at hb;exact hb
theorem aE.stkFree (I:aE X pins σ H s):∀ b∈iR X.stack,H b=none:=fun b hb=>by
 rcases List.mem_cons.mp (I.stkSub b hb) with e | hb
 ·rw[e];exact I.free
 ·obtain⟨_,o,ho,_⟩:=I.ok.funs.mem hb
  exact I.base.free b o ho (I.ok.frf b hb) fun z=>I.ok.exfs b z hb
theorem aE.step {g':Array GenState}{t':Nat}{d':Drawn}{ch:List Addr}(I:aE X pins σ H s)
  (hch:∀ b∈ch,(b∈X.ex\/X.s₀.heap.objs.size<=b)/\b≠X.env.locals/\(∀ x c,X.env.cells.lookup x=some c->c≠b)/\∀ p∈X.pn++pins,p.1≠b)
  (keep:∀ b o,b≠X.env.locals->b∉X.fs->b∉ch->s.heap.get? b=some o->H b=none->h'.get? b=some o)
  (slot:∀ b o,b≠X.env.locals->b∈X.fs->b∉ch->s.heap.get? b=some o->H b=none->∃ sl,h'.get? b=some { o with slots:=sl }) (free:∀ b o,b∉ch->s.heap.get? b=some o->H b=none->H' b=none)
  (there:∀ b o,b∉ch->s.heap.get? b=some o->∃ o',h'.get? b=some o')
  (tups:∀ b xs,H b=some (.tup xs)->H' b=some (.tup xs)) (frzs:∀ b o u,H b=some (.frz o u)->H' b=some (.frz o u)) (tbls:∀ b ps,H b=some (.tbl ps)->∃ more,H' b=some (.tbl (ps++more)))
  (ns:∀ m,s.heap.Ns X.env.locals m->h'.Ns X.env.locals m) (hok:jz X.prog X.w H' h') (hg:AllBare g') :
  aE X pins σ H' { s with heap:=h',gens:=g',drawn:=d',toks:=t' }:=by
 have neL:∀ b o,X.s₀.heap.get? b=some o->b≠X.env.locals:=fun b o e=>Nat.ne_of_lt (Nat.lt_of_lt_of_le (Heap.lt_size e) I.ok.above)
 have neC:∀ b o,X.s₀.heap.get? b=some o->b∉X.ex->b∉ch:=fun b o e hx hb=>by
  rcases (hch b hb).1 with z | z
  ·exact hx z
  ·exact absurd (Nat.lt_of_lt_of_le (Heap.lt_size e) z) (Nat.lt_irrefl _)
 have cellK:∀ x c,X.env.cells.lookup x=some c->∀ v,s.heap.IsCell c v->h'.IsCell c v:=fun x c e v ⟨o,ho,hd⟩=>by
  have nch:c∉ch:=fun z=>(hch c z).2.2.1 x c e rfl
  by_cases hc:c∈X.fs
  ·obtain⟨sl,q⟩:=slot c o (I.cne x c e) hc nch ho (I.freeC x c e)
   exact⟨_,q,hd⟩
  ·exact⟨o,keep c o (I.cne x c e) hc nch ho (I.freeC x c e),hd⟩
 refine⟨I.ok,I.os,hg,⟨fun b o e n hb hx=>?_,fun b o e n hb hx=>?_,fun b o e n hx=>?_,fun b o e hx=>?_,fun b xs e=>tups b xs (I.base.tups b xs e),fun b o xs e=>frzs b o xs (I.base.frzs b o xs e),fun b ps e=>?_⟩,?_,fun x c e=>?_,?_,fun x c e=>?_,fun p hp=>?_,hok,I.len⟩
 ·exact keep b o (neL b o e) hb (neC b o e hx) (I.base.keep b o e n hb hx) (I.base.free b o e n hx)
 ·obtain⟨sl,e1⟩:=I.base.slot b o e n hb hx
  obtain⟨sl',e2⟩:=slot b _ (neL b o e) hb (neC b o e hx) e1 (I.base.free b o e n hx);exact⟨sl',e2⟩
 ·obtain⟨o',e1⟩:=I.base.there b o e hx
  exact free b o' (neC b o e hx) e1 (I.base.free b o e n hx)
 ·obtain⟨o',e1⟩:=I.base.there b o e hx
  exact there b o' (neC b o e hx) e1
 ·obtain⟨m1,e1⟩:=I.base.tbls b ps e
  obtain⟨m2,e2⟩:=tbls b _ e1;exact⟨m1++m2,by rw[e2,Array.append_assoc]⟩
 ·obtain⟨m,hn,hl⟩:=I.loc
  refine⟨m,ns m hn,fun i x v e1 e2 e3=>?_⟩;obtain⟨u,r,l⟩:=hl i x v e1 e2 e3;refine⟨u,r,?_⟩;rcases l with l | ⟨k,c,e,z⟩
  ·exact .inl l
  ·exact .inr ⟨k,c,e,cellK x c e _ z⟩
 ·obtain⟨v,z⟩:=I.cell x c e
  exact⟨v,cellK x c e v z⟩
 ·obtain⟨m,⟨o,_,_,ho,_⟩,_⟩:=I.loc
  exact free _ o (fun z=>(hch _ z).2.1 rfl) ho I.free
 ·obtain⟨v,o,ho,hd⟩:=I.cell x c e
  exact free c o (fun z=>(hch c z).2.2.1 x c e rfl) ho (I.freeC x c e)
 ·obtain⟨e,n,ne,nf,d⟩:=I.pin p hp
  have nch:p.1∉ch:=fun z=>(hch p.1 z).2.2.2 p hp rfl;exact⟨keep p.1 p.2 ne nf nch e n,free p.1 p.2 nch e n,ne,nf,d⟩
theorem aE.un {t':Nat}(I:aE X pins σ H s)(u:Un X.fs [] H H' s.heap h')(hok:jz X.prog X.w H' h'):aE X pins σ H' { s with heap:=h',toks:=t' }:=by
 obtain⟨m,⟨o,es,ep,ho,r⟩,_⟩:=id I.loc;obtain⟨sl,hL⟩:=u.any ho I.free (by simp)
 exact I.step (g':=s.gens) (d':=s.drawn) (ch:=[]) (fun _ z=>nomatch z) (fun b o _ hb _ e n=>u.keep b o e n hb (by simp)) (fun b o _ hb _ e n=>u.slot b o e n hb (by simp)) (fun b o _ e n=>u.free b o e n (by simp)) (fun b o _ e=>u.there b o e (by simp)) u.tups u.frzs u.tbls (fun m' hm=>by
  obtain⟨o',es',ep',ho',r'⟩:=hm;rw[ho]at ho';cases ho'
  exact⟨_,es',ep',hL,r'⟩) hok I.bare
theorem aE.call {g':Array GenState}{t':Nat}{d':Drawn}{ch:List Addr}(I:aE X pins σ H s)(u:Un (iR X.stack) ch H H' s.heap h')(hok:jz X.prog X.w H' h')(hg:AllBare g')
  (hch:∀ b∈ch,(b∈X.ex\/X.s₀.heap.objs.size<=b)/\b≠X.env.locals/\(∀ x c,X.env.cells.lookup x=some c->c≠b)/\∀ p∈X.pn++pins,p.1≠b) :
  aE X pins σ H' { s with heap:=h',gens:=g',drawn:=d',toks:=t' }:=by
 obtain⟨m,⟨o,es,ep,ho,r⟩,_⟩:=id I.loc;obtain⟨sl,hL⟩:=u.any ho I.free fun z=>(hch _ z).2.1 rfl
 exact I.step (ch:=ch) hch (fun b o hL hb hc e n=>u.keep b o e n (fun z=>(List.mem_cons.mp (I.stkSub b z)).elim hL hb) hc) (fun b o _ _ hc e n=>u.any e n hc) (fun b o hc e n=>u.free b o e n hc) (fun b o hc e=>u.there b o e hc) u.tups u.frzs u.tbls (fun m' hm=>by
  obtain⟨o',es',ep',ho',r'⟩:=hm;rw[ho]at ho';cases ho'
  exact⟨_,es',ep',hL,r'⟩) hok hg
theorem aE.turned {t':Nat}{it:Addr}(I:aE X pins σ H s)(k:∀ b o,b≠it->s.heap.get? b=some o->h'.get? b=some o)(hn:H it=none)(hL:it≠X.env.locals)
  (h1:it∈X.ex\/X.s₀.heap.objs.size<=it) (h2:∀ x c,X.env.cells.lookup x=some c->c≠it) (h3:∀ p∈X.pn++pins,p.1≠it):aE X pins σ H { s with heap:=h',toks:=t' }:=by
 have nit:∀ b u,H b=some u->b≠it:=fun b u e z=>by rw[z,hn]at e;cases e
 refine I.step (g':=s.gens) (d':=s.drawn) (ch:=[it]) (fun b hb=>?_) (fun b o _ _ hc e _=>k b o (fun z=>hc (by simp[z])) e) (fun b o _ _ hc e _=>⟨o.slots,k b o (fun z=>hc (by simp[z])) e⟩) (fun _ _ _ _ n=>n)
  (fun b o hc e=>⟨o,k b o (fun z=>hc (by simp[z])) e⟩) (fun _ _ e=>e) (fun _ _ _ e=>e) (fun b ps e=>⟨#[],by rw[e];simp⟩) (fun m hm=>?_) (fun b u e=>?_) I.bare
 ·have e:b=it:=by simpa using hb
  subst e;exact⟨h1,hL,h2,h3⟩
 ·obtain⟨o,es,ep,ho,r⟩:=hm
  exact⟨o,es,ep,k _ o (Ne.symm hL) ho,r⟩
 ·refine (I.hok b u e).stay (fun c v hc q=>k c v ?_ q) (fun _ q=>q) fun _ _ q=>q
  rcases hc with z | z
  ·rw[z];exact nit b u e
  ·exact nit c _ z
theorem aE.tok (I:aE X pins σ H s)(t:Nat):aE X pins σ H { s with toks:=t }:=I.un (h':=s.heap) (t':=t) Un.refl I.hok
theorem aE.kept {t':Nat}(I:aE X pins σ H s)(k:∀ b u,s.heap.get? b=some u->h'.get? b=some u):aE X pins σ H { s with heap:=h',toks:=t' }:=I.un (Un.kept k) (I.hok.kept k)
theorem aE.laid {a:Addr}{o:HO}{t':Nat}(I:aE X pins σ H s)(k:∀ b u,s.heap.get? b=some u->h'.get? b=some u)(hp:s.heap.objs.size<=a)(new:bC X.prog X.w (upd H a o) h' a o) :
  aE X pins σ (upd H a o) { s with heap:=h',toks:=t' }:=I.un (Un.laid k hp (I.hok.fresh hp)) (I.hok.laid k hp new)
theorem aE.write {x e:Addr}{o:HO}{t':Nat}(I:aE X pins σ H s)(mu:Gb (H x))(he:e=x\/H e=some (.own x))(k:∀ b u,b≠e->s.heap.get? b=some u->h'.get? b=some u)(heo:∃ u,h'.get? e=some u)
  (new:bC X.prog X.w (upd H x o) h' x o):aE X pins σ (upd H x o) { s with heap:=h',toks:=t' }:=I.un (Un.write mu he k heo) (I.hok.write mu he k heo new)
theorem aE.pins_of {pins':List (Addr×Obj)}(I:aE X pins σ H s)(h:∀ p∈pins',s.heap.get? p.1=some p.2/\H p.1=none/\p.1≠X.env.locals/\p.1∉X.fs/\∀ v,p.2.data≠.cell v):aE X pins' σ H s :=
 ⟨I.ok,I.os,I.bare,I.base,I.loc,I.cell,I.free,I.freeC,fun p hp=>(List.mem_append.mp hp).elim (fun z=>I.pin p (List.mem_append_left _ z)) (h p),I.hok,I.len⟩
theorem xh {N:List Str}(hN:N.Nodup){i j:Nat}{x:Str}(a:N[i]? = some x)(b:N[j]? = some x):i=j:=by
 obtain⟨h1,e1⟩:=List.getElem?_eq_some_iff.mp a;obtain⟨h2,e2⟩:=List.getElem?_eq_some_iff.mp b;exact (List.getElem_inj hN).mp (e1.trans e2.symm)
theorem uE {M:Model}{A:Around}{E:Value->Shared->Prop}{i:Nat}{x:Str}{v:V}{u:Value}{Q:Unit->Shared->Prop}(I:aE X pins σ H s)(hN:X.N.Nodup)(hi:X.N[i]? = some x)(hx:FY X.env.scope x)(r:bi v u)
  (h:∀ s',aE X pins (σ.set i (some v)) H s'->(∃ a,Heap.SameBut a s.heap s'.heap/\(a=X.env.locals\/X.env.cells.lookup x=some a))->Q () s') (hf:X.fn x=true\/X.env.scope.names.lookup x=some .local:=by first | exact .inl rfl | exact .inr rfl | assumption):wpAny M A (storeName X.env x u) Q E s:=by
 obtain⟨m,hn,hl⟩:=id I.loc
 have hcls:(X.env.scope.kind == .class||(X.env.scope.kind == .module&&X.env.locals != X.env.globals))=false:=by rw[I.ok.kind];rfl
 have hiσ:i<σ.length:=by rw[I.len];exact (List.getElem?_eq_some_iff.mp hi).1
 have cne:=I.cne
 have tracked:∀ {a:Addr}{h':Heap},(∃ o,s.heap.get? a=some o/\H a=none)->Heap.SameBut a s.heap h'->jz X.prog X.w H h':=fun {a h'} ha hs b ob e=>by
  obtain⟨_,_,hfree⟩:=ha;refine (I.hok b ob e).stay (fun c w' hc q=>(hs.2 c ?_).trans q) (fun _ q=>q) fun _ _ q=>q;rintro rfl;rcases hc with rfl | hc
  ·rw[hfree]at e;cases e
  ·rw[hfree]at hc;cases hc
 rcases hx with hk | hk
 ·refine wpAny_storeName_local hk hn (fun h' hn' hs=>?_) hcls
  obtain⟨oL,_,_,hoL,_⟩:=id hn;refine h _ ⟨I.ok,I.os,I.bare,⟨fun b o e n hb hx=>?_,fun b o e n hb hx=>?_,I.base.free,fun b o e hx=>?_,I.base.tups,I.base.frzs,I.base.tbls⟩,⟨_,hn',fun j y v' e1 e2 e3=>?_⟩,fun y c e=>?_,I.free,I.freeC,fun p hp=>?_,tracked ⟨oL,hoL,I.free⟩ hs,by simpa using I.len⟩ ⟨_,hs,.inl rfl⟩
  ·exact (hs.2 b (Nat.ne_of_lt (Nat.lt_of_lt_of_le (Heap.lt_size e) I.ok.above))).trans (I.base.keep b o e n hb hx)
  ·obtain⟨sl,e1⟩:=I.base.slot b o e n hb hx
   exact⟨sl,(hs.2 b (Nat.ne_of_lt (Nat.lt_of_lt_of_le (Heap.lt_size e) I.ok.above))).trans e1⟩
  ·obtain⟨o',e1⟩:=I.base.there b o e hx
   exact⟨o',(hs.2 b (Nat.ne_of_lt (Nat.lt_of_lt_of_le (Heap.lt_size e) I.ok.above))).trans e1⟩
  ·by_cases hj:j=i
   ·subst hj
    rw[hi]at e1;cases e1;rw[List.getElem?_set_self hiσ]at e2;cases e2;exact⟨u,r,.inl ⟨hk,by simp⟩⟩
   ·rw[List.getElem?_set_ne (Ne.symm hj)]at e2
    obtain⟨u',r',q⟩:=hl j y v' e1 e2 e3;refine⟨u',r',?_⟩;rcases q with ⟨k,e⟩ | ⟨k,c,e,z⟩
    ·refine .inl ⟨k,?_⟩
     have:y≠x:=fun e=>hj (xh hN e1 (e▸hi));simp[this,e]
    ·exact .inr ⟨k,c,e,z.sameBut hs (cne y c e)⟩
  ·obtain⟨w',z⟩:=I.cell y c e
   exact⟨w',z.sameBut hs (cne y c e)⟩
  ·obtain⟨e,n,ne,nf,d⟩:=I.pin p hp
   exact⟨(hs.2 p.1 ne).trans e,n,ne,nf,d⟩
 ·have hfn:X.fn x=true:=by
   rcases hf with z | z
   ·exact z
   ·rw[z]at hk;cases hk
  obtain⟨c,hc⟩:=I.ok.has x (.inl hk);obtain⟨w',z⟩:=I.cell x c hc;refine wpAny_storeName_cell I.ok.kind hk hc z (fun h' hc' hs=>?_);obtain⟨oc,hoc,hocd⟩:=id z;refine h { s with heap:=h' } ⟨I.ok,I.os,I.bare,⟨fun b o e n hb hx=>?_,fun b o e n hb hx=>?_,I.base.free,fun b o e hx=>?_,I.base.tups,I.base.frzs,I.base.tbls⟩,⟨m,hn.sameBut hs (Ne.symm (cne x c hc)),fun j y v' e1 e2 e3=>?_⟩,fun y c' e=>?_,I.free,I.freeC,fun p hp=>?_,tracked ⟨oc,hoc,I.freeC x c hc⟩ hs,by simpa using I.len⟩ ⟨c,hs,.inr hc⟩
  ·exact (hs.2 b (Nat.ne_of_lt (Nat.lt_of_lt_of_le (Heap.lt_size e) (I.ok.cab x c hfn hc)))).trans (I.base.keep b o e n hb hx)
  ·obtain⟨sl,e1⟩:=I.base.slot b o e n hb hx
   exact⟨sl,(hs.2 b (Nat.ne_of_lt (Nat.lt_of_lt_of_le (Heap.lt_size e) (I.ok.cab x c hfn hc)))).trans e1⟩
  ·obtain⟨o',e1⟩:=I.base.there b o e hx
   exact⟨o',(hs.2 b (Nat.ne_of_lt (Nat.lt_of_lt_of_le (Heap.lt_size e) (I.ok.cab x c hfn hc)))).trans e1⟩
  ·by_cases hj:j=i
   ·subst hj
    rw[hi]at e1;cases e1;rw[List.getElem?_set_self hiσ]at e2;cases e2;exact⟨u,r,.inr ⟨.inl hk,c,hc,hc'⟩⟩
   ·rw[List.getElem?_set_ne (Ne.symm hj)]at e2
    obtain⟨u',r',q⟩:=hl j y v' e1 e2 e3;refine⟨u',r',?_⟩;rcases q with q | ⟨k,c',e,z'⟩
    ·exact .inl q
    ·refine .inr ⟨k,c',e,z'.sameBut hs ?_⟩
     rintro rfl;exact hj (xh hN e1 (I.ok.inj _ _ _ e hc▸hi))
  ·by_cases hcc:c'=c
   ·subst hcc;exact⟨_,hc'⟩
   ·obtain⟨w2,z2⟩:=I.cell y c' e
    exact⟨w2,z2.sameBut hs hcc⟩
  ·obtain⟨e,n,ne,nf,d⟩:=I.pin p hp
   refine⟨(hs.2 p.1 ?_).trans e,n,ne,nf,d⟩;intro q;rw[q,hoc]at e;have q':oc=p.2:=Option.some.inj e;exact d w' (by rw[<-q'];exact hocd)
theorem xF {M:Model}{A:Around}{E:Value->Shared->Prop}{i:Nat}{x:Str}{v:V}{u:Value}{Q:Unit->Shared->Prop}(I:aE X pins σ H s)(hN:X.N.Nodup)(hi:X.N[i]? = some x)(hx:FY X.env.scope x)(r:bi v u)
  (h:∀ s',aE X pins (σ.set i (some v)) H s'->Q () s') (hf:X.fn x=true\/X.env.scope.names.lookup x=some .local:=by first | exact .inl rfl | exact .inr rfl | assumption):wpAny M A (storeName X.env x u) Q E s :=
 uE I hN hi hx r (fun s' I' _=>h s' I') hf
theorem aE.call' {s':Shared}{ch:List Addr}(I:aE X pins σ H s)(ho:s'.os=s.os)(u:Un (iR X.stack) ch H H' s.heap s'.heap)(hok:jz X.prog X.w H' s'.heap)(hg:AllBare s'.gens)
  (hch:∀ b∈ch,(b∈X.ex\/X.s₀.heap.objs.size<=b)/\b≠X.env.locals/\(∀ x c,X.env.cells.lookup x=some c->c≠b)/\∀ p∈X.pn++pins,p.1≠b):aE X pins σ H' s':=by
 obtain⟨h',g',d',t',o'⟩:=s';have e:o'=s.os:=ho;subst e;exact I.call (g':=g') (t':=t') (d':=d') u hok hg hch
end
abbrev XK:=Value->Option Addr->Hp->Prop
abbrev St:=List (Option V)
abbrev VK:=V->Hp->Prop
abbrev TE:=St->Hp->VK->Prop
abbrev TT:=St->Hp->(Bool->Hp->Prop)->Prop
abbrev TA:=St->Hp->(List V->Hp->Prop)->Prop
structure jE where
 nx:St->Hp->Prop
 rt:VK
 bk:St->Hp->Prop:=fun _ _=>False
 ct:St->Hp->Prop:=fun _ _=>False
abbrev TS:=jE->St->Hp->Prop
def EP (X:Cx)(pins:List (Addr×Obj))(σ:St)(Q:VK)(u:Value)(s':Shared):Prop:=∃ v H',aE X pins σ H' s'/\bi v u/\Q v H'
def TP (X:Cx)(pins:List (Addr×Obj))(σ:St)(Q:Bool->Hp->Prop)(b:Bool)(s':Shared):Prop:=∃ H',aE X pins σ H' s'/\Q b H'
def AP (X:Cx)(pins:List (Addr×Obj))(σ:St)(Q:List V->Hp->Prop)(us:List Value)(s':Shared):Prop:=∃ vs H',aE X pins σ H' s'/\bt vs us/\Q vs H'
def SP (X:Cx)(pins:List (Addr×Obj))(D:jE)(f:Flow)(s':Shared):Prop :=
 match f with
 | .next=>∃ σ' H',aE X pins σ' H' s'/\D.nx σ' H'
 | .brk=>∃ σ' H',aE X pins σ' H' s'/\D.bk σ' H'
 | .cont=>∃ σ' H',aE X pins σ' H' s'/\D.ct σ' H'
 | .ret u=>∃ v σ' H',aE X pins σ' H' s'/\bi v u/\D.rt v H'
def PE (X:Cx)(e:Expr)(t:TE):Prop :=
 ∀ (pins:List (Addr×Obj))(s:Shared)(σ:St)(H:Hp)(Q:VK),aE X pins σ H s->t σ H Q->wpAny (model X.prog X.w) X.A (eval e X.env) (EP X pins σ Q) X.xe s
def PT (X:Cx)(e:Expr)(t:TT):Prop :=
 ∀ (pins:List (Addr×Obj))(s:Shared)(σ:St)(H:Hp)(Q:Bool->Hp->Prop),aE X pins σ H s->t σ H Q->wpAny (model X.prog X.w) X.A (isTrue e X.env (eval e X.env)) (TP X pins σ Q) X.xe s
def PW (X:Cx)(e:Expr)(t:TT):Prop :=
 ∀ (whole:Sem Value)(pins:List (Addr×Obj))(s:Shared)(σ:St)(H:Hp)(Q:Bool->Hp->Prop),aE X pins σ H s->t σ H Q->wpAny (model X.prog X.w) X.A (isTrue e X.env whole) (TP X pins σ Q) X.xe s
theorem PW.pt {X:Cx}{e:Expr}{t:TT}(h:PW X e t):PT X e t:=h _
def PA (X:Cx)(es:List Expr)(t:TA):Prop :=
 ∀ (pos:Pos)(pins:List (Addr×Obj))(s:Shared)(σ:St)(H:Hp)(Q:List V->Hp->Prop),aE X pins σ H s->t σ H Q->wpAny (model X.prog X.w) X.A (spliced (backTo pos (starEach es X.env))) (AP X pins σ Q) X.xe s
def PS (X:Cx)(st:Stmt)(t:TS):Prop :=
 ∀ (pins:List (Addr×Obj))(s:Shared)(σ:St)(H:Hp)(D:jE),aE X pins σ H s->t D σ H->wpAny (model X.prog X.w) X.A (exec st X.env) (SP X pins D) X.xe s
def xT (X:Cx)(st:List Stmt)(t:TS):Prop :=
 ∀ (pins:List (Addr×Obj))(s:Shared)(σ:St)(H:Hp)(D:jE),aE X pins σ H s->t D σ H->wpAny (model X.prog X.w) X.A (execs st X.env) (SP X pins D) X.xe s
theorem bA {α:Type}{t:Sem α}{Q Q':α->Shared->Prop}{M:Model}{A:Around}{E:Value->Shared->Prop}{s:Shared}(h:wpAny M A t Q E s)(hQ:∀ a s,Q a s->Q' a s):wpAny M A t Q' E s:=wpAny_mono h hQ fun _ _ x=>x
section
variable {X:Cx}
def Bp (i:Nat):TE:=fun σ H Q=>∃ v,σ[i]? = some (some v)/\Q v H
def tC (v:V):TE:=fun _ H Q=>Q v H
theorem Fp {i:Nat}{x:Str}{pos:Pos}(hN:X.N[i]? = some x)(hv:Hc X.env.scope x)(hd:(x == ("__debug__" : Str))=false:=by decide)(hcd:(x == ("__classdict__" : Str))=false:=by decide):PE X (.Name x pos) (Bp i):=by
 intro pins s σ H Q I h;obtain⟨v,e,h⟩:=h;obtain⟨m,hn,hl⟩:=I.loc;obtain⟨u,r,l⟩:=hl i x v hN e hv;have fin:EP X pins σ Q u s:=⟨v,H,I,r,h⟩;rcases l with ⟨hk,hm⟩ | ⟨hk,c,hc,hcell⟩
 ·exact wpAny_Name (wpAny_loadName_local I.ok.kind hk hn hm fin) hd
 ·rcases hk with hk | hk
  ·exact wpAny_Name (wpAny_loadName_cell I.ok.kind hk hc hcell fin) hd
  ·exact wpAny_Name (wpAny_loadName_free I.ok.kind hk hc hcell fin hcd) hd
theorem ao {i j pos}:PE X (.Constant (.int i) j pos) (tC (.int i)):=fun _ _ _ H _ I h=>wpAny_Constant_int ⟨.int i,H,I.tok _,⟨_,rfl⟩,h⟩
theorem gC {b j pos}:PE X (.Constant (.bool b) j pos) (tC (.bl b)):=fun _ _ _ H _ I h=>Constant_bool ⟨.bl b,H,I,rfl,h⟩
theorem ic {j pos}:PE X (.Constant .none j pos) (tC .non):=fun _ _ _ H _ I h=>Constant_none ⟨.non,H,I,rfl,h⟩
theorem a6 {x j pos}:PE X (.Constant (.str x) j pos) (tC (.str x)):=fun _ _ _ H _ I h=>Calls.Constant_str ⟨.str x,H,I.tok _,⟨_,rfl⟩,h⟩
def Gl (X:Cx)(x:Str):Prop:=X.env.kindOf x=some .globalImplicit
theorem iW {E:Value->Shared->Prop}{pins:List (Addr×Obj)}{s:Shared}{σ:St}{H:Hp}{x:Str}{u:Value}{pos:Pos}{Q:Value->Shared->Prop}(I:aE X pins σ H s)(hg:Gl X x)(hm:X.mg x=some u)(h:Q u s)
  (hd:(x == ("__debug__" : Str))=false:=by decide):wpAny (model X.prog X.w) X.A (eval (.Name x pos) X.env) Q E s :=
 Calls.Name_function_global I.ok.kind hg (Calls.loadGlobal_global (by rw[I.ok.glob];exact I.mod.glob.keeps I.bk) hm h) hd
theorem lI {E:Value->Shared->Prop}{pins:List (Addr×Obj)}{s:Shared}{σ:St}{H:Hp}{x:Str}{u:Value}{pos:Pos}{Q:Value->Shared->Prop}(I:aE X pins σ H s)(hg:Gl X x)(hm:X.mg x=none)(hv:bootBuiltins x=some u)(h:Q u s)
  (hn:x≠"__name__":=by decide) (hd:(x == ("__debug__" : Str))=false:=by decide):wpAny (model X.prog X.w) X.A (eval (.Name x pos) X.env) Q E s:=by
 obtain⟨mb,h1,h2⟩:=I.mod.blt;exact Calls.Name_function_global I.ok.kind hg (Calls.loadGlobal_builtin (by rw[I.ok.glob];exact I.mod.glob.keeps I.bk) hm (by rw[I.ok.blt];exact h1.keeps I.bk) ((h2 x hn).trans hv) h) hd
theorem qx {x:Str}{v:V}{u:Value}{pos:Pos}(hg:Gl X x)(hm:X.mg x=none)(hv:bootBuiltins x=some u)(r:bi v u)(hn:x≠"__name__":=by decide)(hd:(x == ("__debug__" : Str))=false:=by decide):PE X (.Name x pos) (tC v) :=
 fun _ _ _ H _ I h=>lI I hg hm hv ⟨v,H,I,r,h⟩ hn hd
variable {a b:Expr}{ta tb:TE}{pos:Pos}
def PC (X:Cx)(op:CmpOp)(a b:Expr)(t:TE):Prop :=
 ∀ (pins:List (Addr×Obj))(s:Shared)(σ:St)(H:Hp)(Q:VK),aE X pins σ H s->t σ H Q ->
  wpAny (model X.prog X.w) X.A (eval a X.env) (fun v s₁=>wpAny (model X.prog X.w) X.A (eval b X.env) (fun u s₂=>wpAny (model X.prog X.w) X.A (compareOp op v u) (EP X pins σ Q) X.xe s₂) X.xe s₁) X.xe s
theorem xg (b:Expr){op:CmpOp}(h:op≠.In)(h2:op≠.NotIn):behindInMarks op b=false:=by
 have e1:(op == CmpOp.In)=false:=by cases op<;>first | rfl | exact absurd rfl h
 have e2:(op == CmpOp.NotIn)=false:=by cases op<;>first | rfl | exact absurd rfl h2
 cases b<;>simp[behindInMarks,e1,e2]
def HE (ta:TE):TE:=fun σ H Q=>ta σ H fun x H1=>Q (.bl (decide (x=.non))) H1
def GK (ta:TE):TE:=fun σ H Q=>ta σ H fun x H1=>Q (.bl (!decide (x=.non))) H1
theorem bi.none_iff {x:V}{v:Value}(r:bi x v):(v == Value.none)=decide (x=.non):=by
 cases x with
 | non=>cases r;rfl
 | bl _=>cases r;rfl
 | int _=>obtain⟨t,rfl⟩:=r;rfl
 | str _=>obtain⟨t,rfl⟩:=r;rfl
 | byt _=>obtain⟨t,rfl⟩:=r;rfl
 | flt _=>obtain⟨t,rfl⟩:=r;rfl
 | ref _=>cases r;rfl
 | ty _=>cases r;rfl
theorem yK {j pos'}(ha:PE X a ta):PC X .Is a (.Constant .none j pos') (HE ta):=by
 intro pins s σ H Q I h;refine bA (ha pins s σ H _ I h) fun v s1 ⟨x,H1,I1,r1,q1⟩=>?_;exact Constant_none (is_none_gen ⟨.bl _,H1,I1,by rw[r1.none_iff];rfl,q1⟩)
theorem D8 {j pos'}(ha:PE X a ta):PC X .IsNot a (.Constant .none j pos') (GK ta):=by
 intro pins s σ H Q I h;refine bA (ha pins s σ H _ I h) fun v s1 ⟨x,H1,I1,r1,q1⟩=>?_;exact Constant_none (isnot_none_gen ⟨.bl _,H1,I1,by rw[r1.none_iff];rfl,q1⟩)
def tB (t:TE):TT:=fun σ H Q=>t σ H fun x H1=>∃ c,x=.bl c/\Q c H1
theorem yM {op:CmpOp}{t:TE}(h:PC X op a b t)(h1:behindInMarks op b=false:=by first | exact xg _ (by decide) (by decide) | rfl):PE X (.Compare a [op] [b] pos) t:=fun pins s σ H Q I hw=>wpAny_Compare1 (h pins s σ H Q I hw) h1
theorem ie {op:CmpOp}{t:TE}(h:PC X op a b t)(h1:behindInMarks op b=false:=by first | exact xg _ (by decide) (by decide) | rfl):PT X (.Compare a [op] [b] pos) (tB t):=by
 intro pins s σ H Q I hw;refine wpAny_isTrue_Compare1 (bA (h pins s σ H _ I hw) fun v s1 h1=>bA h1 fun u s2 h2=>bA h2 fun c s3 ⟨x,H1,I1,r1,q1⟩=>?_) h1;obtain⟨d,rfl,q⟩:=q1;cases r1;exact wpAny_truthy_bool ⟨H1,I1,q⟩
theorem jd {e:Expr}{t:TE}(h:PE X e t)(he:∀ whole,isTrue e X.env whole=(do let v <-whole;standAt e.pos;holding [v] (truthy v)):=by intro _;rfl):PT X e (tB t):=by
 intro pins s σ H Q I hw;refine isTrue_plain (bA (h pins s σ H _ I hw) fun v s1 ⟨x,H1,I1,r1,q1⟩=>?_) (he _);obtain⟨d,rfl,q⟩:=q1;cases r1;exact wpAny_truthy_bool ⟨H1,I1,q⟩
variable {tA tB':TT}{rest:List Expr}
def Hw (t u:TT):TT:=fun σ H Q=>t σ H fun c H1=>if c=true then u σ H1 Q else Q false H1
def Ii (t u:TT):TT:=fun σ H Q=>t σ H fun c H1=>if c=true then Q true H1 else u σ H1 Q
def HG (t:TT):TT:=fun σ H Q=>t σ H fun c H1=>Q (!c) H1
theorem je (ha:PT X a tA):PW X (.BoolOp .And [a] pos) tA:=by
 intro wh pins s σ H Q I h;refine isTrue_and (bA (ha pins s σ H Q I h) fun c s1 e=>?_)
 cases c with
 | true=>exact isTrue_and_nil e
 | false=>exact e
theorem oV (ha:PT X a tA):PW X (.BoolOp .Or [a] pos) tA:=by
 intro wh pins s σ H Q I h;refine isTrue_or (bA (ha pins s σ H Q I h) fun c s1 e=>?_)
 cases c with
 | false=>exact isTrue_or_nil e
 | true=>exact e
theorem lQ (ha:PT X a tA)(hb:PW X (.BoolOp .And (b::rest) pos) tB'):PW X (.BoolOp .And (a::b::rest) pos) (Hw tA tB'):=by
 intro wh pins s σ H Q I h;refine isTrue_and (bA (ha pins s σ H _ I h) fun c s1 ⟨H1,I1,q1⟩=>?_)
 cases c with
 | true=>exact hb wh pins s1 σ H1 Q I1 q1
 | false=>exact⟨H1,I1,q1⟩
theorem uB (ha:PT X a tA)(hb:PW X (.BoolOp .Or (b::rest) pos) tB'):PW X (.BoolOp .Or (a::b::rest) pos) (Ii tA tB'):=by
 intro wh pins s σ H Q I h;refine isTrue_or (bA (ha pins s σ H _ I h) fun c s1 ⟨H1,I1,q1⟩=>?_)
 cases c with
 | true=>exact⟨H1,I1,q1⟩
 | false=>exact hb wh pins s1 σ H1 Q I1 q1
theorem jb (ha:PT X a tA):PT X (.UnaryOp .Not a pos) (HG tA):=by
 intro pins s σ H Q I h;exact isTrue_not (ha pins s σ H (fun c H1=>Q (!c) H1) I h)
def GF (ta tb:TE):TE:=fun σ H Q=>ta σ H fun x H1=>∃ c,x=.bl c/\if c=true then tb σ H1 Q else Q (.bl false) H1
def GL (ta:TE):TE:=fun σ H Q=>ta σ H fun x H1=>∃ c,x=.bl c/\Q (.bl (!c)) H1
theorem CL {op}{t:TE}(h:PE X a t):PE X (.BoolOp op [a] pos) t:=fun pins s σ H Q I hw=>BoolOp_one (h pins s σ H Q I hw)
theorem CC (ha:PE X a ta)(hb:PE X (.BoolOp .And (b::rest) pos) tb):PE X (.BoolOp .And (a::b::rest) pos) (GF ta tb):=by
 intro pins s σ H Q I h;refine BoolOp_and (bA (ha pins s σ H _ I h) fun v s1 ⟨x,H1,I1,r1,q1⟩=>?_);obtain⟨c,rfl,q1⟩:=q1;cases r1;refine wpAny_truthy_bool ?_
 cases c with
 | true=>exact hb pins s1 σ H1 Q I1 q1
 | false=>exact⟨.bl false,H1,I1,rfl,q1⟩
theorem Fo (ha:PE X a ta):PE X (.UnaryOp .Not a pos) (GL ta):=by
 intro pins s σ H Q I h;refine UnaryOp_ (bA (ha pins s σ H _ I h) fun v s1 ⟨x,H1,I1,r1,q1⟩=>?_);obtain⟨c,rfl,q1⟩:=q1;cases r1;exact not_of (wpAny_truthy_bool ⟨.bl (!c),H1,I1,rfl,q1⟩)
end
def aW (K:PySem.W.Frag)(H:Hp)(a:Addr)(xs:List V):Prop :=
 Rd H a (.lst xs) \/
  ∃ (o:Obj)(its:Array Value)(n:Nat),K.lookup a=some o/\o.cls=.type "list"/\o.dict=none/\o.data=.seq its n/\its.size<=sizeLine/\bt xs its.toList
def eP (K:PySem.W.Frag)(H:Hp)(a:Addr)(xs:List V):Prop :=
 Rd H a (.tup xs) \/
  ∃ (o:Obj)(its:Array Value)(n:Nat),K.lookup a=some o/\o.cls=.type "tuple"/\o.data=.seq its n/\its.size<=sizeLine/\bt xs its.toList
def Hd:Value->Option V
 | .none=>some .non
 | .bool b=>some (.bl b)
 | .int i _=>some (.int i)
 | .str x _=>some (.str x)
 | .bytes b _=>some (.byt b)
 | .float b _=>some (.flt b)
 | .ref a=>some (.ref a)
 | .type n=>some (.ty n)
 | _=>none
theorem bi.abs {x:V}{u:Value}(r:bi x u):Hd u=some x:=by
 cases x with
 | non=>cases r;rfl
 | bl _=>cases r;rfl
 | int _=>obtain⟨t,rfl⟩:=r;rfl
 | str _=>obtain⟨t,rfl⟩:=r;rfl
 | byt _=>obtain⟨t,rfl⟩:=r;rfl
 | flt _=>obtain⟨t,rfl⟩:=r;rfl
 | ref _=>cases r;rfl
 | ty _=>cases r;rfl
theorem bi.inj {x y:V}{u:Value}(r:bi x u)(q:bi y u):x=y:=Option.some.inj (r.abs.symm.trans q.abs)
theorem bt.inj:∀ {xs ys:List V}{us:List Value},bt xs us->bt ys us->xs=ys
 | _,_,_,.nil,.nil=>rfl
 | _,_,_,.cons r t,.cons r' t'=>by rw[r.inj r',bt.inj t t']
section
variable {X:Cx}{pins:List (Addr×Obj)}{σ:St}{H:Hp}{s:Shared}{a:Addr}{xs ys:List V}
theorem aW.of {K:PySem.W.Frag}(h:H a=some (.lst xs)):aW K H a xs:=.inl (.inl h)
theorem eP.of {K:PySem.W.Frag}(h:H a=some (.tup xs)):eP K H a xs:=.inl (.inl h)
theorem aE.list (I:aE X pins σ H s)(h:aW X.K H a xs):∃ its:List Value,bt xs its/\PlainL s.heap a its.toArray/\xs.length<=sizeLine:=by
 rcases h with h | ⟨o,its,n,hk,hc,hd,hs,hz,r⟩
 ·obtain⟨z,its,n,r,e⟩:=h.ok I.hok
  exact⟨its,r,⟨_,n,e,rfl,rfl,rfl⟩,z⟩
 ·refine⟨its.toList,r,⟨o,n,I.kIn a o hk,hc,hd,by simpa using hs⟩,?_⟩
  have e:=r.length;simp only[Array.length_toList]at e;omega
theorem aE.tuple (I:aE X pins σ H s)(h:eP X.K H a xs):∃ its:List Value,bt xs its/\IsTup s.heap a its.toArray/\xs.length<=sizeLine:=by
 rcases h with h | ⟨o,its,n,hk,hc,hs,hz,r⟩
 ·obtain⟨z,its,r,p⟩:=h.ok I.hok
  exact⟨its,r,p,z⟩
 ·refine⟨its.toList,r,⟨o,I.kIn a o hk,hc,n,by simpa using hs⟩,?_⟩
  have e:=r.length;simp only[Array.length_toList]at e;omega
theorem aE.list_inj (I:aE X pins σ H s)(h:aW X.K H a xs)(h':aW X.K H a ys):xs=ys:=by
 obtain⟨its,r,⟨o,n,e,_,_,d⟩,_⟩:=I.list h;obtain⟨its',r',⟨o',n',e',_,_,d'⟩,_⟩:=I.list h';rw[e]at e';cases e';rw[d]at d';injection d' with d1 _
 have:its=its':=by simpa using congrArg Array.toList d1
 subst this;exact r.inj r'
theorem aE.tuple_inj (I:aE X pins σ H s)(h:eP X.K H a xs)(h':eP X.K H a ys):xs=ys:=by
 obtain⟨its,r,⟨o,e,_,n,d⟩,_⟩:=I.tuple h;obtain⟨its',r',⟨o',e',_,n',d'⟩,_⟩:=I.tuple h';rw[e]at e';cases e';rw[d]at d';injection d' with d1 _
 have:its=its':=by simpa using congrArg Array.toList d1
 subst this;exact r.inj r'
end
abbrev Cx.wish (X:Cx)(E:Value->Shared->Prop):Cx:={ X with xe:=E }
abbrev Cx.nox (X:Cx):Cx:=X.wish fun _ _=>False
theorem Cx.Ok.wish {X:Cx}(ok:X.Ok)(E:Value->Shared->Prop):(X.wish E).Ok :=
 ⟨ok.mod,ok.kind,ok.glob,ok.blt,ok.above,ok.inj,ok.has,ok.cab,ok.hd,ok.frames,ok.stk,ok.exf,ok.bs,ok.bsz,ok.noex,ok.exfs,ok.funs,ok.frf⟩
theorem Cx.Ok.unwish {X:Cx}{E:Value->Shared->Prop}(ok:(X.wish E).Ok):X.Ok :=
 ⟨ok.mod,ok.kind,ok.glob,ok.blt,ok.above,ok.inj,ok.has,ok.cab,ok.hd,ok.frames,ok.stk,ok.exf,ok.bs,ok.bsz,ok.noex,ok.exfs,ok.funs,ok.frf⟩
section
variable {X:Cx}{pins:List (Addr×Obj)}{σ:St}{H:Hp}{s:Shared}{E:Value->Shared->Prop}
theorem aE.wish (I:aE X pins σ H s)(E:Value->Shared->Prop):aE (X.wish E) pins σ H s:=⟨I.ok.wish E,I.os,I.bare,I.base,I.loc,I.cell,I.free,I.freeC,I.pin,I.hok,I.len⟩
theorem aE.unwish (I:aE (X.wish E) pins σ H s):aE X pins σ H s:=⟨I.ok.unwish,I.os,I.bare,I.base,I.loc,I.cell,I.free,I.freeC,I.pin,I.hok,I.len⟩
theorem SP.unwish {D:jE}{f:Flow}{s':Shared}(h:SP (X.wish E) pins D f s'):SP X pins D f s':=by
 cases f with
 | next=>obtain⟨σ',H',I,q⟩:=h;exact⟨σ',H',I.unwish,q⟩
 | brk=>obtain⟨σ',H',I,q⟩:=h;exact⟨σ',H',I.unwish,q⟩
 | cont=>obtain⟨σ',H',I,q⟩:=h;exact⟨σ',H',I.unwish,q⟩
 | ret u=>obtain⟨v,σ',H',I,r,q⟩:=h;exact⟨v,σ',H',I.unwish,r,q⟩
theorem xT.nox {st:List Stmt}{t:TS}(h:xT X.nox st t):xT X st t:=fun pins s σ H D I hw =>
 wpAny_mono (h pins s σ H D (I.wish _) hw) (fun _ _ q=>q.unwish) fun _ _ z=>False.elim z
end
section
variable {X:Cx}{st:Stmt}{rest:List Stmt}{t u:TS}{e:Expr}{te:TE}{pos:Pos}
def GJ:TS:=fun D σ H=>D.nx σ H
def HJ (t u:TS):TS:=fun D σ H=>t { D with nx:=u D } σ H
theorem aK:xT X [] GJ:=fun _ _ σ H _ I h=>wpAny_execs_nil ⟨σ,H,I,h⟩
theorem ag (h1:PS X st t)(h2:xT X rest u):xT X (st::rest) (HJ t u):=by
 intro pins s σ H D I h;refine wpAny_execs_cons (bA (h1 pins s σ H { D with nx:=u D } I h) fun f s1 q=>?_)
 cases f with
 | next =>
  obtain⟨σ',H',I',q⟩:=q;exact h2 pins s1 σ' H' D I' q
 | ret v=>exact q
 | brk=>exact q
 | cont=>exact q
theorem ah (h1:PS X st t):xT X [st] t:=by
 intro pins s σ H D I h;refine wpAny_execs_cons (bA (h1 pins s σ H D I h) fun f s1 q=>?_)
 cases f with
 | next=>exact wpAny_execs_nil q
 | ret v=>exact q
 | brk=>exact q
 | cont=>exact q
theorem aE.quiet {pins:List (Addr×Obj)}{σ:St}{H:Hp}{s:Shared}(I:aE X pins σ H s):interactive X.env=false:=by simp[interactive,I.ok.kind]
def GI (te:TE):TS:=fun D σ H=>te σ H fun _ H1=>D.nx σ H1
theorem aT (he:PE X e te)(hs:swapsWith e none pos.line X.env=pure false:=by rfl):PS X (.Expr e pos) (GI te):=by
 intro pins s σ H D I h;exact wpAny_Expr_any (bA (he pins s σ H _ I h) fun v s1 ⟨x,H1,I1,r1,q1⟩=>⟨σ,H1,I1,q1⟩) I.quiet hs
def HI (te:TE):TS:=fun D σ H=>te σ H D.rt
theorem az (he:PE X e te):PS X (.Return (some e) pos) (HI te):=by
 intro pins s σ H D I h;exact wpAny_Return_some (bA (he pins s σ H _ I h) fun v s1 ⟨x,H1,I1,r1,q1⟩=>⟨x,σ,H1,I1,r1,q1⟩)
def HD (c:TT)(t u:TS):TS:=fun D σ H=>c σ H fun b H1=>if b=true then t D σ H1 else u D σ H1
theorem be {c:Expr}{a b:List Stmt}{tc:TT}(hc:PT X c tc)(ha:xT X a t)(hb:xT X b u):PS X (.If c a b pos) (HD tc t u):=by
 intro pins s σ H D I h;refine wpAny_If (bA (hc pins s σ H _ I h) fun d s1 ⟨H1,I1,q1⟩=>?_)
 cases d with
 | true=>exact ha pins s1 σ H1 D I1 q1
 | false=>exact hb pins s1 σ H1 D I1 q1
def FK:TS:=fun _ _ _=>False
theorem xy:PS X st FK:=fun _ _ _ _ _ _ h=>h.elim
end
abbrev TG:=V->St->Hp->(St->Hp->Prop)->Prop
abbrev EZ:=List V->St->Hp->(St->Hp->Prop)->Prop
def PG (X:Cx)(target:Expr)(t:TG):Prop :=
 ∀ (pins:List (Addr×Obj))(s:Shared)(σ:St)(H:Hp)(v:V)(u:Value)(Q:St->Hp->Prop),aE X pins σ H s->bi v u->t v σ H Q ->
  wpAny (model X.prog X.w) X.A (assign target X.env u) (fun _ s'=>∃ σ' H',aE X pins σ' H' s'/\Q σ' H') X.xe s
def GT (X:Cx)(ts:List Expr)(t:EZ):Prop :=
 ∀ (pins:List (Addr×Obj))(s:Shared)(σ:St)(H:Hp)(vs:List V)(us:List Value)(Q:St->Hp->Prop),aE X pins σ H s->bt vs us->t vs σ H Q ->
  wpAny (model X.prog X.w) X.A (assignInOrder ((assignEach ts X.env).map (·.2)) us) (fun _ s'=>∃ σ' H',aE X pins σ' H' s'/\Q σ' H') X.xe s
section
variable {X:Cx}{pos:Pos}
def mJ (i:Nat):TG:=fun v σ H Q=>Q (σ.set i (some v)) H
theorem kM {i:Nat}{x:Str}(hN:X.N.Nodup)(hi:X.N[i]? = some x)(hx:FY X.env.scope x)(hf:X.fn x=true\/X.env.scope.names.lookup x=some .local:=by first | exact .inl rfl | exact .inr rfl | assumption):PG X (.Name x pos) (mJ i):=by
 intro pins s σ H v u Q I r h;exact wpAny_assign_Name (xF I hN hi hx r (fun s' I'=>⟨_,H,I',h⟩) hf)
def Hg:EZ:=fun vs σ H Q=>vs=[]/\Q σ H
def Gh (t:TG)(u:EZ):EZ:=fun vs σ H Q=>∃ v r,vs=v::r/\t v σ H fun σ' H'=>u r σ' H' Q
theorem vw:GT X [] Hg:=by
 intro pins s σ H vs us Q I r h;obtain⟨e,h⟩:=h;subst e;cases r;exact assignInOrder_nil ⟨σ,H,I,h⟩
theorem fG {e:Expr}{es:List Expr}{t:TG}{u:EZ}(h1:PG X e t)(h2:GT X es u)
  (hs:(assignEach (e::es) X.env).map (·.2)=assign e X.env::(assignEach es X.env).map (·.2):=by rfl):GT X (e::es) (Gh t u):=by
 intro pins s σ H vs us Q I r h;obtain⟨v,vr,e1,h⟩:=h;subst e1
 cases r with
 | cons r rr =>
  rw[hs];refine assignInOrder_cons (bA (h1 pins s σ H _ _ _ I r h) fun _ s1 ⟨σ1,H1,I1,q1⟩=>?_);exact h2 pins s1 σ1 H1 _ _ Q I1 rr q1
def Hh (K:PySem.W.Frag)(n:Nat)(t:EZ):TG:=fun v σ H Q=>∃ a xs,v=.ref a/\eP K H a xs/\xs.length=n/\t xs σ H Q
theorem yN {es:List Expr}{k:Nat}{t:EZ}{n:Nat}(hc:X.calm=true)(h:GT X es t)
  (hn:(assignEach es X.env).length=n:=by rfl) (hst:(assignEach es X.env).findIdx? (·.1)=none:=by rfl):PG X (.Tuple es k pos) (Hh X.K n t):=by
 intro pins s σ H v u Q I r hw;obtain⟨a,xs,e1,hq,hl,hw⟩:=hw;subst e1;cases r;obtain⟨its,rv,ht,hz⟩:=I.tuple hq;refine assign_Tuple_tuple (I.ok.hd hc) ht (by simp[hn,<-hl,rv.length]) hst fun h' hx=>?_;have I1:aE X pins σ H { s with heap:=h' }:=I.kept (t':=s.toks) fun b o e=>hx b o (Nat.ne_of_lt (Heap.lt_size e)) e;exact h pins _ σ H xs _ Q I1 (by simpa using rv) hw
def FB (te:TE)(g:TG):TS:=fun D σ H=>te σ H fun x H1=>g x σ H1 D.nx
theorem CP {tg e:Expr}{te:TE}{g:TG}(he:PE X e te)(hg:PG X tg g)(hs:swapsWithSole [tg] e pos.line X.env=pure false:=by rfl)(hw:swappedStores [tg] e X.env=pure none:=by rfl)
  (h1:(assignEach [tg] X.env).map (·.2)=[assign tg X.env]:=by rfl):PS X (.Assign [tg] e pos) (FB te g):=by
 intro pins s σ H D I h;refine wpAny_Assign_stores (bA (he pins s σ H _ I h) fun v s1 ⟨x,H1,I1,r1,q1⟩=>?_) hs hw;rw[h1];exact bA (hg pins s1 σ H1 x v _ I1 r1 q1) fun _ s2 q=>q
theorem dz {i:Nat}{x:Str}{e:Expr}{te:TE}{pos':Pos}(hN:X.N.Nodup)(hi:X.N[i]? = some x)(hx:FY X.env.scope x)(he:PE X e te)(hs:swapsWith e (some (.Name x pos')) pos.line X.env=pure false:=by rfl)(hf:X.fn x=true\/X.env.scope.names.lookup x=some .local:=by first | exact .inl rfl | exact .inr rfl | assumption) :
  PS X (.Assign [.Name x pos'] e pos) (FB te (mJ i)):=by
 intro pins s σ H D I h;refine wpAny_Assign_Name (bA (he pins s σ H _ I h) fun v s1 ⟨y,H1,I1,r1,q1⟩=>?_) hs;exact xF I1 hN hi hx r1 (fun s2 I2=>⟨_,H1,I2,q1⟩) hf
end
section
variable {X:Cx}{pos:Pos}
def FN (c:TT)(tb:TS):TS:=fun D σ H=>∃ W:Nat->St->Hp->Prop,(∃ m,W m σ H)/\∀ m σ H,W m σ H ->
 c σ H fun b H1=>if b=true then ∃ N:St->Hp->Prop,(∀ σ' H',N σ' H'->∃ m',m'<m/\W m' σ' H')/\tb { D with nx:=N,ct:=N,bk:=D.nx } σ H1 else D.nx σ H1
theorem CS {c:Expr}{body:List Stmt}{tc:TT}{tb:TS}(hp:PassesOwn (model X.prog X.w) X.A X.env X.xe)(hc:PT X c tc)(hb:xT X body tb):PS X (.While c body [] pos) (FN tc tb):=by
 intro pins s σ H D I h;obtain⟨W,⟨m0,w0⟩,turn⟩:=h;refine wpAny_While (codeAny_whileLoop (fun n s'=>∃ σ' H',aE X pins σ' H' s'/\W n σ' H') ?_ m0 ⟨σ,H,I,w0⟩);rintro n s1 ⟨σ1,H1,I1,w1⟩;refine wpAny_passesOwn hp (bA (hc pins s1 σ1 H1 _ I1 (turn n σ1 H1 w1)) fun b s2 ⟨H2,I2,q2⟩=>?_)
 cases b with
 | true =>
  obtain⟨N,hN,q2⟩:=q2;rw[if_pos rfl];refine wpAny_passesOwn hp (bA (hb pins s2 σ1 H2 _ I2 q2) fun f s3 q3=>?_)
  cases f with
  | next =>
   obtain⟨σ3,H3,I3,n3⟩:=q3;obtain⟨m',hm,w3⟩:=hN σ3 H3 n3;exact⟨m',hm,σ3,H3,I3,w3⟩
  | cont =>
   obtain⟨σ3,H3,I3,n3⟩:=q3;obtain⟨m',hm,w3⟩:=hN σ3 H3 n3;exact⟨m',hm,σ3,H3,I3,w3⟩
  | brk=>exact q3
  | ret v=>exact q3
 | false =>
  rw[if_neg Bool.false_ne_true];exact wpAny_execs_nil ⟨σ1,H2,I2,q2⟩
end
structure It where
 go:Nat->Hp->Prop
 yld:Nat->Hp->V->Hp->Prop
 stop:Nat->Hp->Prop
def hW (X:Cx)(pins:List (Addr×Obj))(H:Hp)(b:Addr):Prop :=
 H b=none/\b≠X.env.locals/\b∉X.fs/\(b∈X.ex\/X.s₀.heap.objs.size<=b)/\(∀ x c,X.env.cells.lookup x=some c->c≠b)/\∀ p∈X.pn++pins,p.1≠b
theorem aE.fpOk {X:Cx}{pins:List (Addr×Obj)}{σ:St}{H H':Hp}{s:Shared}{b:Addr}(I:aE X pins σ H s)(hb:s.heap.objs.size<=b)(hn:H' b=none):hW X pins H' b:=by
 refine⟨hn,Nat.ne_of_gt (Nat.lt_of_lt_of_le I.lt hb),I.nofs hb,.inr (Nat.le_trans I.sz hb),fun x c e z=>?_,fun p hp z=>?_⟩
 ·obtain⟨v,q⟩:=I.cell x c e
  exact absurd (Nat.lt_of_lt_of_le q.lt (by rw[z];exact hb)) (Nat.lt_irrefl _)
 ·exact absurd (Nat.lt_of_lt_of_le (Heap.lt_size (I.pin p hp).1) (by rw[z];exact hb)) (Nat.lt_irrefl _)
structure wf (P:Program)(w:World)(K:PySem.W.Frag)(tg:Expr)(J:It)(fp:List Addr)(it:Addr)(tn:Nat->Heap->Prop):Prop where
 mem:it∈fp
 obj:∀ i h,tn i h->∀ b∈fp,∃ o,h.get? b=some o/\∀ v,o.data≠.cell v
 keep:∀ i h h',tn i h->(∀ b∈fp,∀ o,h.get? b=some o->h'.get? b=some o)->tn i h'
 item:∀ (X:Cx),X.prog=P->X.w=w->X.K=K->X.calm=true->∀ (i:Nat)(pins:List (Addr×Obj))(s:Shared)(σ:St)(H:Hp)(E:Value->Shared->Prop),aE X pins σ H s->(∀ b∈fp,hW X pins H b)->tn i s.heap->J.go i H ->
  wpAny (model P w) X.A (pyNext (.ref it)) (fun r s1=>∃ u,r=some u /\
   wpAny (model P w) X.A (letOwnedTupleGo tg (.ref it) u) (fun _ s2=>∃ x H',aE X pins σ H' s2/\bi x u/\J.yld i H x H'/\tn (i+1) s2.heap/\∀ b∈fp,H' b=none) E s1) E s
 done:∀ (X:Cx),X.prog=P->X.w=w->X.K=K->X.calm=true->∀ (i:Nat)(pins:List (Addr×Obj))(s:Shared)(σ:St)(H:Hp)(E:Value->Shared->Prop),aE X pins σ H s->(∀ b∈fp,hW X pins H b)->tn i s.heap->J.stop i H ->
  wpAny (model P w) X.A (pyNext (.ref it)) (fun r s1=>r=none/\aE X pins σ H s1) E s
 self:∀ (A:Around)(i:Nat)(s:Shared)(Q:Value->Shared->Prop)(E:Value->Shared->Prop),tn i s.heap->Q (.ref it) s->wpAny (model P w) A (pyIter (.ref it)) Q E s
abbrev TI:=St->Hp->(It->Hp->Prop)->Prop
def HQ (X:Cx)(pins:List (Addr×Obj))(σ:St)(tg:Expr)(R:It->Hp->Prop)(itv:Value)(s2:Shared):Prop :=
 ∃ (it:Addr)(fp:List Addr)(tn:Nat->Heap->Prop)(J:It)(H':Hp),itv=.ref it/\aE X pins σ H' s2/\wf X.prog X.w X.K tg J fp it tn/\tn 0 s2.heap/\(∀ b∈fp,hW X pins H' b)/\R J H'
def PI (X:Cx)(tg iter:Expr)(wi:TI):Prop :=
 ∀ (pins:List (Addr×Obj))(s:Shared)(σ:St)(H:Hp)(R:It->Hp->Prop),aE X pins σ H s->wi σ H R ->
  wpAny (model X.prog X.w) X.A (eval iter X.env) (fun v s1=>wpAny (model X.prog X.w) X.A (pyIter v) (HQ X pins σ tg R) X.xe s1) X.xe s
theorem wz {M:Model}{A:Around}{E:Value->Shared->Prop}{s:Shared}{tg:Expr}{it:Addr}{u:Value}{o:Obj}{n:String}{vs:Array Value}{Q:Unit->Shared->Prop}(ho:s.heap.get? it=some o)(hc:o.cls=.type n)(hd:o.data=.fields vs)
  (hn:["enumerate","zip","dict_itemiterator","dict_reverseitemiterator","odict_iterator","itertools.zip_longest","itertools.pairwise"].contains n=false) (hQ:Q () s):wpAny M A (letOwnedTupleGo tg (.ref it) u) Q E s:=by
 unfold letOwnedTupleGo
 cases tg<;>first
  | exact wpAny_pure hQ
  | (cases u<;>first
    | exact wpAny_pure hQ
    | (refine wpAny_bind (wpAny_load ho ?_)
       rw[hc,hd]
       show wpAny M A (if (["enumerate","zip","dict_itemiterator","dict_reverseitemiterator","odict_iterator","itertools.zip_longest","itertools.pairwise"].contains n&&vs[0]? == some (rawInt _))=true then _ else _) Q E s
       rw[if_neg (by intro h;rw[hn,Bool.false_and]at h;cases h)]
       exact wpAny_pure hQ))
def DA (K:PySem.W.Frag)(a:Addr):It :=
 ⟨fun i H=>∃ xs x,aW K H a xs/\xs[i]? = some x,fun i H x H'=>H'=H/\∀ xs,aW K H a xs->xs[i]? = some x,fun i H=>∃ xs,aW K H a xs/\xs.length<=i⟩
def F8 (K:PySem.W.Frag)(a:Addr):It :=
 ⟨fun i H=>∃ xs x,eP K H a xs/\xs[i]? = some x,fun i H x H'=>H'=H/\∀ xs,eP K H a xs->xs[i]? = some x,fun i H=>∃ xs,eP K H a xs/\xs.length<=i⟩
def FX (lo:Int)(n:Nat):It:=⟨fun i _=>i<n,fun i H x H'=>H'=H/\x=.int (lo+i),fun i _=>n<=i⟩
theorem Bt {P:Program}{w:World}{K:PySem.W.Frag}{tg:Expr}(a it:Addr):wf P w K tg (DA K a) [it] it (fun i h=>h.IsListIter it a i) where
 mem:=by simp
 obj:=fun i h st b hb=>by
  have e:b=it:=by simpa using hb
  subst e;obtain⟨o,e,c,d⟩:=st;exact⟨o,e,fun v z=>by rw[d]at z;cases z⟩
 keep:=fun i h h' st k=>st.at fun o e=>k it (by simp) o e
 item:=by
  intro X hP hw hK hc i pins s σ H E I hf st hg;subst hP hw hK;obtain⟨xs,x,hq,hx⟩:=hg;obtain⟨its,rv,p,hz⟩:=I.list hq;obtain⟨u,hu,ru⟩:=rv.get hx;obtain⟨f0,f1,f2,f3,f4,f5⟩:=hf it (by simp);refine wpAny_pyNext_list_item st p.isList (x:=u) (by simpa using hu) fun h' st' sb=>?_;have I1:aE X pins σ H { s with heap:=h' }:=I.turned (t':=s.toks) (fun b o hb e=>(sb.2 b hb).trans e) f0 f1 f3 f4 f5;obtain⟨o,e,c,d⟩:=id st';exact⟨u,rfl,wz (s:={ s with heap:=h' }) e c d (by decide) ⟨x,H,I1,ru,⟨rfl,fun ys hy=>by rw[I.list_inj hy hq];exact hx⟩,st',fun b hb=>(hf b hb).1⟩⟩
 done:=by
  intro X hP hw hK hc i pins s σ H E I hf st hg;subst hP hw hK;obtain⟨xs,hq,hx⟩:=hg;obtain⟨its,rv,p,hz⟩:=I.list hq;obtain⟨f0,f1,f2,f3,f4,f5⟩:=hf it (by simp);have hl:=rv.length;exact wpAny_pyNext_list_end (I.ok.hd hc) st p.isList (by simp;omega) fun h' eb=>⟨rfl,I.turned (t':=s.toks) (fun b o hb e=>eb b o hb e) f0 f1 f3 f4 f5⟩
 self:=fun _ _ _ _ _ st h=>wpAny_pyIter_listiter st h
theorem zf {P:Program}{w:World}{K:PySem.W.Frag}{tg:Expr}(a it:Addr):wf P w K tg (F8 K a) [it] it (fun i h=>h.IsTupleIter it a i) where
 mem:=by simp
 obj:=fun i h st b hb=>by
  have e:b=it:=by simpa using hb
  subst e;obtain⟨o,e,c,d⟩:=st;exact⟨o,e,fun v z=>by rw[d]at z;cases z⟩
 keep:=fun i h h' st k=>st.at fun o e=>k it (by simp) o e
 item:=by
  intro X hP hw hK hc i pins s σ H E I hf st hg;subst hP hw hK;obtain⟨xs,x,hq,hx⟩:=hg;obtain⟨its,rv,p,hz⟩:=I.tuple hq;obtain⟨u,hu,ru⟩:=rv.get hx;obtain⟨f0,f1,f2,f3,f4,f5⟩:=hf it (by simp);refine wpAny_pyNext_tuple_item st (show s.heap.IsTuple a its.toArray from p) (x:=u) (by simpa using hu) fun h' st' sb=>?_;have I1:aE X pins σ H { s with heap:=h' }:=I.turned (t':=s.toks) (fun b o hb e=>(sb.2 b hb).trans e) f0 f1 f3 f4 f5;obtain⟨o,e,c,d⟩:=id st';exact⟨u,rfl,wz (s:={ s with heap:=h' }) e c d (by decide) ⟨x,H,I1,ru,⟨rfl,fun ys hy=>by rw[I.tuple_inj hy hq];exact hx⟩,st',fun b hb=>(hf b hb).1⟩⟩
 done:=by
  intro X hP hw hK hc i pins s σ H E I hf st hg;subst hP hw hK;obtain⟨xs,hq,hx⟩:=hg;obtain⟨its,rv,p,hz⟩:=I.tuple hq;obtain⟨f0,f1,f2,f3,f4,f5⟩:=hf it (by simp);have hl:=rv.length;exact wpAny_pyNext_tuple_end (I.ok.hd hc) st (show s.heap.IsTuple a its.toArray from p) (by simp;omega) fun h' eb=>⟨rfl,I.turned (t':=s.toks) (fun b o hb e=>eb b o hb e) f0 f1 f3 f4 f5⟩
 self:=fun _ _ _ _ _ st h=>wpAny_pyIter_tupleiter st h
theorem ze {P:Program}{w:World}{K:PySem.W.Frag}{tg:Expr}(it:Addr)(lo:Int)(n:Nat):wf P w K tg (FX lo n) [it] it (fun i h=>IsRangeIter h it (lo+(i:Nat)*1) ((n:Int)-(i:Nat)) 1) where
 mem:=by simp
 obj:=fun i h st b hb=>by
  have e:b=it:=by simpa using hb
  subst e
  exact⟨_,st,fun v z=>by
   have z':Data.fields _=Data.cell v:=z
   cases z'⟩
 keep:=fun i h h' st k=>k it (by simp) _ st
 item:=by
  intro X hP hw hK hc i pins s σ H E I hf st hg;subst hP hw hK;obtain⟨f0,f1,f2,f3,f4,f5⟩:=hf it (by simp);have W:=Walks.range (prog:=X.prog) (w:=X.w) (I.ok.hd hc) it lo 1 n;refine W.item i s _ _ hg st fun v h' tk hv st' kk=>?_;obtain⟨t,rfl⟩:=hv;have I1:aE X pins σ H { s with heap:=h',toks:=tk }:=I.turned (fun b o hb e=>kk b o (by simpa using hb) e) f0 f1 f3 f4 f5;refine⟨_,rfl,wz (s:={ s with heap:=h',toks:=tk }) (n:="range_iterator") st' rfl rfl (by decide) ⟨.int (lo+i),H,I1,⟨t,?_⟩,⟨rfl,rfl⟩,st',fun b hb=>(hf b hb).1⟩⟩;rw[Int.mul_one]
 done:=by
  intro X hP hw hK hc i pins s σ H E I hf st hg;subst hP hw hK;obtain⟨f0,f1,f2,f3,f4,f5⟩:=hf it (by simp);exact wpAny_pyNext_range_end (I.ok.hd hc) st (by have:n<=i:=hg;omega) fun h' eb=>⟨rfl,I.turned (t':=s.toks) (fun b o hb e=>eb b o hb e) f0 f1 f3 f4 f5⟩
 self:=fun _ _ _ _ _ st h=>wpAny_pyIter_rangeiter st h
section
variable {X:Cx}{tg:Expr}
def ED (K:PySem.W.Frag)(tl:TE):TI:=fun σ H R=>tl σ H fun x H1=>∃ a,x=.ref a/\(∃ xs,aW K H1 a xs)/\R (DA K a) H1
def Hj (K:PySem.W.Frag)(tl:TE):TI:=fun σ H R=>tl σ H fun x H1=>∃ a,x=.ref a/\(∃ xs,eP K H1 a xs)/\R (F8 K a) H1
theorem bq {l:Expr}{tl:TE}(hl:PE X l tl):PI X tg l (ED X.K tl):=by
 intro pins s σ H R I h;refine bA (hl pins s σ H _ I h) fun v s1 ⟨x,H1,I1,r1,q1⟩=>?_;obtain⟨a,e,⟨xs,hq⟩,q⟩:=q1;subst e;cases r1;obtain⟨its,rv,p,hz⟩:=I1.list hq;refine wpAny_pyIter_list p.isList ?_;refine⟨s1.heap.objs.size,[s1.heap.objs.size],_,_,H1,rfl,I1.kept (t':=s1.toks) fun b o e=>Heap.get?_push_of_some _ e,Bt a _,⟨_,Heap.get?_push_size _ rfl,rfl,rfl⟩,fun b hb=>?_,q⟩
 have e:b=s1.heap.objs.size:=by simpa using hb
 subst e;exact I1.fpOk (Nat.le_refl _) (I1.hok.fresh (Nat.le_refl _))
theorem CN {l:Expr}{tl:TE}(hl:PE X l tl):PI X tg l (Hj X.K tl):=by
 intro pins s σ H R I h;refine bA (hl pins s σ H _ I h) fun v s1 ⟨x,H1,I1,r1,q1⟩=>?_;obtain⟨a,e,⟨xs,hq⟩,q⟩:=q1;subst e;cases r1;obtain⟨its,rv,p,hz⟩:=I1.tuple hq;refine wpAny_pyIter_tuple (show s1.heap.IsTuple a its.toArray from p) ?_;refine⟨s1.heap.objs.size,[s1.heap.objs.size],_,_,H1,rfl,I1.kept (t':=s1.toks) fun b o e=>Heap.get?_push_of_some _ e,zf a _,⟨_,Heap.get?_push_size _ rfl,rfl,rfl⟩,fun b hb=>?_,q⟩
 have e:b=s1.heap.objs.size:=by simpa using hb
 subst e;exact I1.fpOk (Nat.le_refl _) (I1.hok.fresh (Nat.le_refl _))
theorem CV {pins:List (Addr×Obj)}{σ:St}{H:Hp}{s:Shared}{R:It->Hp->Prop}{E:Value->Shared->Prop}{lo hi:Int}{t u v:Tok}{tk:Nat}(I:aE X pins σ H s)(h1 : -(2 ^ 62)<=lo)(h2:lo<2 ^ 62)(h3 : -(2 ^ 62)<=hi)(h4:hi<2 ^ 62)
  (q:R (FX lo (hi-lo).toNat) H):wpAny (model X.prog X.w) X.A (pyIter (.ref s.heap.objs.size)) (HQ X pins σ tg R) E { s with heap:=s.heap.push { cls:=.type "range",data:=.fields #[.int lo t,.int hi u,.int 1 v] },toks:=tk }:=by
 refine wpAny_pyIter_range (IsRange.new ..) (small_one h1 h2 h3 h4) ?_;have I1:aE X pins σ H { s with heap:=s.heap.push { cls:=.type "range",data:=.fields #[.int lo t,.int hi u,.int 1 v] },toks:=tk }:=I.kept fun b o e=>Heap.get?_push_of_some _ e
 refine⟨(s.heap.push { cls:=.type "range",data:=.fields #[.int lo t,.int hi u,.int 1 v] }).objs.size,[(s.heap.push { cls:=.type "range",data:=.fields #[.int lo t,.int hi u,.int 1 v] }).objs.size],_,_,H,rfl,
  I1.kept (t':=tk) fun b o e=>Heap.get?_push_of_some _ e,ze _ lo (hi-lo).toNat,?_,fun b hb=>?_,q⟩
 ·have e1:lo+((0:Nat):Int)*1=lo:=by simp
  have e2:(((hi-lo).toNat:Nat):Int)-((0:Nat):Int)=Builtin.Range.rangeSize lo hi 1:=by rw[rangeSize_one];split<;>omega
  show IsRangeIter _ _ (lo+((0:Nat):Int)*1) ((((hi-lo).toNat:Nat):Int)-((0:Nat):Int)) 1
  rw[e1,e2];exact Heap.get?_push_size _ rfl
 ·have e:b=(s.heap.push { cls:=.type "range",data:=.fields #[.int lo t,.int hi u,.int 1 v] }).objs.size:=by simpa using hb
  subst e;exact I1.fpOk (Nat.le_refl _) (I1.hok.fresh (Nat.le_refl _))
def Gk (ta:TA):TI:=fun σ H R=>ta σ H fun vs H1=>∃ j:Int,vs=[.int j]/\-(2 ^ 62)<=j/\j<2 ^ 62/\R (FX 0 j.toNat) H1
theorem kN {a:Expr}{ta:TA}{p pos:Pos}(hg:Gl X "range")(hm:X.mg "range" = none)(ha:PA X [a] ta)(hs:starEach [a] X.env=[(false,eval a X.env)]:=by rfl):PI X tg (.Call (.Name "range" p) [a] [] pos) (Gk ta):=by
 intro pins s σ H R I h;refine Call_ (lI I hg hm boot_range (PyProof.Rows.callWith_type1 (bA (ha pos pins s σ H _ I h) fun us s1 ⟨vs,H1,I1,r1,q1⟩=>?_) hs rfl));obtain⟨j,e,q1,q2,q⟩:=q1;subst e
 cases r1 with
 | cons r rr =>
  cases rr;obtain⟨t,rfl⟩:=r;exact call_range_1 (CV I1 (by omega) (by omega) q1 q2 (by simpa using q))
def HB (wi:TI)(g:TG)(tb:TS):TS:=fun D σ H=>wi σ H fun J H1=>∃ W:Nat->Nat->St->Hp->Prop,(∃ m,W 0 m σ H1)/\∀ i m σ H,W i m σ H ->
 (J.stop i H/\D.nx σ H)\/(J.go i H/\∃ N:St->Hp->Prop,(∀ σ' H',N σ' H'->∃ m',m'<m/\W (i+1) m' σ' H')/\∀ x H',J.yld i H x H'->g x σ H' fun σ2 H2=>tb { D with nx:=N,ct:=N,bk:=D.nx } σ2 H2)
def i9 (fp:List Addr)(h:Heap):List (Addr×Obj):=fp.filterMap fun b=>(h.get? b).map fun o=>(b,o)
theorem bT {fp:List Addr}{h:Heap}{b:Addr}{o:Obj}(hb:b∈fp)(e:h.get? b=some o):(b,o)∈i9 fp h:=List.mem_filterMap.mpr ⟨b,hb,by rw[e];rfl⟩
theorem AU {fp:List Addr}{h:Heap}{p:Addr×Obj}(hp:p∈i9 fp h):p.1∈fp/\h.get? p.1=some p.2:=by
 obtain⟨b,hb,e⟩:=List.mem_filterMap.mp hp
 cases q:h.get? b with
 | none=>rw[q]at e;cases e
 | some o =>
  rw[q]at e;have e':(b,o)=p:=Option.some.inj e;subst e';exact⟨hb,q⟩
theorem aE.pinned {pins:List (Addr×Obj)}{σ:St}{H:Hp}{s:Shared}{fp:List Addr}(I:aE X pins σ H s)(hf:∀ b∈fp,hW X pins H b)(ho:∀ b∈fp,∃ o,s.heap.get? b=some o/\∀ v,o.data≠.cell v):aE X (pins++i9 fp s.heap) σ H s :=
 I.pins_of fun p hp=>(List.mem_append.mp hp).elim (fun z=>I.pin p (List.mem_append_right _ z)) fun z=>by
  obtain⟨hb,e⟩:=AU z;obtain⟨f0,f1,f2,_⟩:=hf p.1 hb;obtain⟨o,e',d⟩:=ho p.1 hb;rw[e]at e';cases e';exact⟨e,f0,f1,f2,d⟩
theorem aE.unpinned {pins pl:List (Addr×Obj)}{σ:St}{H:Hp}{s:Shared}(I:aE X (pins++pl) σ H s):aE X pins σ H s:=I.pins_of fun p hp=>I.pin p (List.mem_append_right _ (List.mem_append_left _ hp))
theorem df {iter:Expr}{body:List Stmt}{wi:TI}{g:TG}{tb:TS}{pos:Pos}(hp:PassesOwn (model X.prog X.w) X.A X.env X.xe)(hc:X.calm=true)(hi:PI X tg iter wi)(hg:PG X tg g)(hb:xT X body tb)
  (hs:∀ x,foldedSetIterable iter X.env x=pure x:=by intro _;rfl):PS X (.For tg iter body [] pos) (HB wi g tb):=by
 intro pins s σ H D I h;refine wpAny_For (bA (hi pins s σ H _ I h) fun v s1 h1=>bA h1 fun itv s2 h2=>?_) hs;obtain⟨it,fp,tn,J,H2,e,I2,T,st2,f2,W,⟨m0,w0⟩,turn⟩:=h2;subst e;have stat:∀ {H':Hp},(∀ b∈fp,H' b=none)->∀ b∈fp,hW X pins H' b:=fun hn b hb=>⟨hn b hb,(f2 b hb).2⟩;refine codeAny_forLoop_any (fun n s'=>∃ i σ' H',aE X pins σ' H' s'/\tn i s'.heap/\(∀ b∈fp,H' b=none)/\W i n σ' H') ?_ m0 ⟨0,σ,H2,I2,st2,fun b hb=>(f2 b hb).1,w0⟩;rintro n s3 ⟨i,σ3,H3,I3,st3,fr3,w3⟩;rcases turn i n σ3 H3 w3 with ⟨stop,qn⟩ | ⟨go,N,hN,step⟩
 ·refine wpAny_passesOwn hp (bA (T.done X rfl rfl rfl hc i pins s3 σ3 H3 X.xe I3 (stat fr3) st3 stop) fun r s4 ⟨hr,I4⟩=>?_)
  subst hr;exact wpAny_execs_nil ⟨σ3,H3,I4,qn⟩
 ·refine wpAny_passesOwn hp (bA (T.item X rfl rfl rfl hc i pins s3 σ3 H3 X.xe I3 (stat fr3) st3 go) fun r s4 ⟨u,hr,h4⟩=>?_)
  subst hr;refine wpAny_passesOwn hp (bA h4 fun _ s5 ⟨x,H5,I5,r5,y5,st5,fr5⟩=>?_);have I5':=I5.pinned (stat fr5) (T.obj _ _ st5);refine wpAny_passesOwn hp (bA (hg _ s5 σ3 H5 x u _ I5' r5 (step x H5 y5)) fun _ s6 ⟨σ6,H6,I6,q6⟩=>?_);refine wpAny_passesOwn hp (bA (hb _ s6 σ6 H6 _ I6 q6) fun f s7 q7=>?_)
  have again:∀ {σ7:St}{H7:Hp},aE X (pins++i9 fp s5.heap) σ7 H7 s7->N σ7 H7->∃ m,m<n/\∃ i σ' H',aE X pins σ' H' s7/\tn i s7.heap/\(∀ b∈fp,H' b=none)/\W i m σ' H':=fun {σ7 H7} I7 n7=>by
   obtain⟨m',hm,w7⟩:=hN σ7 H7 n7;refine⟨m',hm,i+1,σ7,H7,I7.unpinned,T.keep _ _ _ st5 fun b hb o e=>(I7.pin (b,o) (List.mem_append_right _ (List.mem_append_right _ (bT hb e)))).1,fun b hb=>?_,w7⟩;obtain⟨o,e,d⟩:=T.obj _ _ st5 b hb;exact (I7.pin (b,o) (List.mem_append_right _ (List.mem_append_right _ (bT hb e)))).2.1
  cases f with
  | next=>obtain⟨σ7,H7,I7,n7⟩:=q7;exact again I7 n7
  | cont=>obtain⟨σ7,H7,I7,n7⟩:=q7;exact again I7 n7
  | brk=>obtain⟨σ7,H7,I7,q7⟩:=q7;exact⟨σ7,H7,I7.unpinned,q7⟩
  | ret v=>obtain⟨x7,σ7,H7,I7,r7,q7⟩:=q7;exact⟨x7,σ7,H7,I7.unpinned,r7,q7⟩
end
theorem bd {K:PySem.W.Frag}{a:Addr}{xs:List V}{g:TG}{tb:TS}{D:jE}{σ:St}{H:Hp}(Pv:Nat->St->Hp->Prop)(h0:Pv 0 σ H)(hl:∀ i σ H,i<=xs.length->Pv i σ H->aW K H a xs)
  (hs:∀ i x σ H,xs[i]? = some x->Pv i σ H->g x σ H fun σ2 H2=>tb { D with nx:=Pv (i+1),ct:=Pv (i+1),bk:=D.nx } σ2 H2) (hd:∀ σ H,Pv xs.length σ H->D.nx σ H) :
  ∃ W:Nat->Nat->St->Hp->Prop,(∃ m,W 0 m σ H)/\∀ i m σ H,W i m σ H ->
   ((DA K a).stop i H/\D.nx σ H)\/((DA K a).go i H/\∃ N:St->Hp->Prop,(∀ σ' H',N σ' H'->∃ m',m'<m/\W (i+1) m' σ' H')/\∀ x H',(DA K a).yld i H x H'->g x σ H' fun σ2 H2=>tb { D with nx:=N,ct:=N,bk:=D.nx } σ2 H2):=by
 refine⟨fun i m σ H=>m=xs.length-i/\i<=xs.length/\Pv i σ H,⟨xs.length,by simp,Nat.zero_le _,h0⟩,?_⟩;rintro i m σ H ⟨rfl,hi,p⟩;have q:=hl i σ H hi p
 by_cases hlt:i<xs.length
 ·refine .inr ⟨⟨xs,xs[i],q,by simp[hlt]⟩,Pv (i+1),fun σ' H' p'=>⟨xs.length-(i+1),by omega,rfl,hlt,p'⟩,fun x H' y=>?_⟩
  obtain⟨e,y⟩:=y;subst e;exact hs i x σ _ (y xs q) p
 ·have e:i=xs.length:=by omega
  subst e;exact .inl ⟨⟨xs,q,Nat.le_refl _⟩,hd σ H p⟩
theorem zA {K:PySem.W.Frag}{a:Addr}{xs:List V}{g:TG}{tb:TS}{D:jE}{σ:St}{H:Hp}(Pv:Nat->St->Hp->Prop)(h0:Pv 0 σ H)(hl:∀ i σ H,i<=xs.length->Pv i σ H->eP K H a xs)
  (hs:∀ i x σ H,xs[i]? = some x->Pv i σ H->g x σ H fun σ2 H2=>tb { D with nx:=Pv (i+1),ct:=Pv (i+1),bk:=D.nx } σ2 H2) (hd:∀ σ H,Pv xs.length σ H->D.nx σ H) :
  ∃ W:Nat->Nat->St->Hp->Prop,(∃ m,W 0 m σ H)/\∀ i m σ H,W i m σ H ->
   ((F8 K a).stop i H/\D.nx σ H)\/((F8 K a).go i H/\∃ N:St->Hp->Prop,(∀ σ' H',N σ' H'->∃ m',m'<m/\W (i+1) m' σ' H')/\∀ x H',(F8 K a).yld i H x H'->g x σ H' fun σ2 H2=>tb { D with nx:=N,ct:=N,bk:=D.nx } σ2 H2):=by
 refine⟨fun i m σ H=>m=xs.length-i/\i<=xs.length/\Pv i σ H,⟨xs.length,by simp,Nat.zero_le _,h0⟩,?_⟩;rintro i m σ H ⟨rfl,hi,p⟩;have q:=hl i σ H hi p
 by_cases hlt:i<xs.length
 ·refine .inr ⟨⟨xs,xs[i],q,by simp[hlt]⟩,Pv (i+1),fun σ' H' p'=>⟨xs.length-(i+1),by omega,rfl,hlt,p'⟩,fun x H' y=>?_⟩
  obtain⟨e,y⟩:=y;subst e;exact hs i x σ _ (y xs q) p
 ·have e:i=xs.length:=by omega
  subst e;exact .inl ⟨⟨xs,q,Nat.le_refl _⟩,hd σ H p⟩
theorem kH {lo:Int}{n:Nat}{g:TG}{tb:TS}{D:jE}{σ:St}{H:Hp}(Pv:Nat->St->Hp->Prop)(h0:Pv 0 σ H)
  (hs:∀ i σ H,i<n->Pv i σ H->g (.int (lo+i)) σ H fun σ2 H2=>tb { D with nx:=Pv (i+1),ct:=Pv (i+1),bk:=D.nx } σ2 H2) (hd:∀ σ H,Pv n σ H->D.nx σ H) :
  ∃ W:Nat->Nat->St->Hp->Prop,(∃ m,W 0 m σ H)/\∀ i m σ H,W i m σ H ->
   ((FX lo n).stop i H/\D.nx σ H)\/((FX lo n).go i H/\∃ N:St->Hp->Prop,(∀ σ' H',N σ' H'->∃ m',m'<m/\W (i+1) m' σ' H')/\∀ x H',(FX lo n).yld i H x H'->g x σ H' fun σ2 H2=>tb { D with nx:=N,ct:=N,bk:=D.nx } σ2 H2):=by
 refine⟨fun i m σ H=>m=n-i/\i<=n/\Pv i σ H,⟨n,by simp,Nat.zero_le _,h0⟩,?_⟩;rintro i m σ H ⟨rfl,hi,p⟩
 by_cases hlt:i<n
 ·refine .inr ⟨hlt,Pv (i+1),fun σ' H' p'=>⟨n-(i+1),by omega,rfl,hlt,p'⟩,fun x H' y=>?_⟩
  obtain⟨e,y⟩:=y;subst e y;exact hs i σ _ hlt p
 ·have e:i=n:=by omega
  subst e;exact .inl ⟨Nat.le_refl _,hd σ H p⟩
abbrev R2:=V->V->Hp->VK->Prop
def qO (X:Cx)(f:Value->Value->Sem Value)(r:R2):Prop :=
 ∀ (pins:List (Addr×Obj))(s:Shared)(σ:St)(H:Hp)(x y:V)(v u:Value)(Q:VK),aE X pins σ H s->bi x v->bi y u->r x y H Q ->
  wpAny (model X.prog X.w) X.A (f v u) (EP X pins σ Q) X.xe s
def Hb (X:Cx)(f:Value->Sem Value)(r:V->Hp->VK->Prop):Prop :=
 ∀ (pins:List (Addr×Obj))(s:Shared)(σ:St)(H:Hp)(x:V)(v:Value)(Q:VK),aE X pins σ H s->bi x v->r x H Q ->
  wpAny (model X.prog X.w) X.A (f v) (EP X pins σ Q) X.xe s
def jK (X:Cx)(f:Value)(r:List V->Hp->VK->Prop):Prop :=
 ∀ (pins:List (Addr×Obj))(s:Shared)(σ:St)(H:Hp)(xs:List V)(us:List Value)(Q:VK),aE X pins σ H s->bt xs us->r xs H Q ->
  wpAny (model X.prog X.w) X.A (call f us) (EP X pins σ Q) X.xe s
def Ha (X:Cx)(r:V->Hp->(Bool->Hp->Prop)->Prop):Prop :=
 ∀ (pins:List (Addr×Obj))(s:Shared)(σ:St)(H:Hp)(x:V)(v:Value)(Q:Bool->Hp->Prop),aE X pins σ H s->bi x v->r x H Q ->
  wpAny (model X.prog X.w) X.A (truthy v) (TP X pins σ Q) X.xe s
def F0 (r:R2)(ta tb:TE):TE:=fun σ H Q=>ta σ H fun x H1=>tb σ H1 fun y H2=>r x y H2 Q
def Ik (r:V->Hp->VK->Prop)(ta:TE):TE:=fun σ H Q=>ta σ H fun x H1=>r x H1 Q
def rI (C:Int->Int->Prop)(g:Int->Int->V):R2:=fun x y H Q=>∃ i j,x=.int i/\y=.int j/\C i j/\Q (g i j) H
def Ft (g:Int->Int->V):R2:=fun x y H Q=>∃ i j,x=.int i/\y=.int j/\Q (g i j) H
def rU (g:Int->V):V->Hp->VK->Prop:=fun x H Q=>∃ i,x=.int i/\Q (g i) H
section
variable {X:Cx}{a b c:Expr}{ta tb tc:TE}{pos:Pos}
theorem E5 (ha:PE X a ta)(hb:PE X b tb){pins:List (Addr×Obj)}{s:Shared}{σ:St}{H:Hp}{R:V->V->Hp->Prop}(I:aE X pins σ H s)
  (h:ta σ H fun x H1=>tb σ H1 fun y H2=>R x y H2) {Q:Value->Shared->Prop} {f:Value->Value->Sem Value}
  (hf:∀ v u s2 x y H2,aE X pins σ H2 s2->bi x v->bi y u->R x y H2->wpAny (model X.prog X.w) X.A (f v u) Q X.xe s2) :
  wpAny (model X.prog X.w) X.A (eval a X.env) (fun v s₁=>wpAny (model X.prog X.w) X.A (eval b X.env) (fun u s₂=>wpAny (model X.prog X.w) X.A (f v u) Q X.xe s₂) X.xe s₁) X.xe s:=by
 refine bA (ha pins s σ H _ I h) fun v s1 ⟨x,H1,I1,r1,q1⟩=>?_;refine bA (hb pins s1 σ H1 _ I1 q1) fun u s2 ⟨y,H2,I2,r2,q2⟩=>?_;exact hf v u s2 x y H2 I2 r1 r2 q2
theorem aS {op:Operator}{r:R2}(ho:qO X (binaryOp op) r)(ha:PE X a ta)(hb:PE X b tb):PE X (.BinOp a op b pos) (F0 r ta tb):=by
 intro pins s σ H Q I h;exact wpAny_BinOp (E5 ha hb I h fun v u s2 x y H2 I2 rx ry q=>ho pins s2 σ H2 x y v u Q I2 rx ry q)
theorem rZ {op:UnaryOp}{r:V->Hp->VK->Prop}(ho:Hb X (unaryOp op) r)(ha:PE X a ta):PE X (.UnaryOp op a pos) (Ik r ta):=by
 intro pins s σ H Q I h;exact UnaryOp_ (bA (ha pins s σ H _ I h) fun v s1 ⟨x,H1,I1,r1,q1⟩=>ho pins s1 σ H1 x v Q I1 r1 q1)
theorem Gq {f:Value->Value->Sem Value}{C:Int->Int->Prop}{g:Int->Int->Int}
  (rule:∀ (i j:Int)(t u:Tok)(s:Shared)(Q:Value->Shared->Prop)(E:Value->Shared->Prop),C i j->Q (.int (g i j) s.toks) { s with toks:=s.toks+1 }->wpAny (model X.prog X.w) X.A (f (.int i t) (.int j u)) Q E s) :
  qO X f (rI C fun i j=>.int (g i j)):=by
 intro pins s σ H x y v u Q I rx ry h;obtain⟨i,j,rfl,rfl,hc,q⟩:=h;obtain⟨t,rfl⟩:=rx;obtain⟨t',rfl⟩:=ry;exact rule i j t t' s _ _ hc ⟨.int (g i j),H,I.tok _,⟨_,rfl⟩,q⟩
theorem Gr {f:Value->Value->Sem Value}{g:Int->Int->Int}
  (rule:∀ (i j:Int)(t u:Tok)(s:Shared)(Q:Value->Shared->Prop)(E:Value->Shared->Prop),Q (.int (g i j) s.toks) { s with toks:=s.toks+1 }->wpAny (model X.prog X.w) X.A (f (.int i t) (.int j u)) Q E s) :
  qO X f (Ft fun i j=>.int (g i j)):=by
 intro pins s σ H x y v u Q I rx ry h;obtain⟨i,j,rfl,rfl,q⟩:=h;obtain⟨t,rfl⟩:=rx;obtain⟨t',rfl⟩:=ry;exact rule i j t t' s _ _ ⟨.int (g i j),H,I.tok _,⟨_,rfl⟩,q⟩
theorem Fl {f:Value->Value->Sem Value}{g:Int->Int->Bool}
  (rule:∀ (i j:Int)(t u:Tok)(s:Shared)(Q:Value->Shared->Prop)(E:Value->Shared->Prop),Q (.bool (g i j)) s->wpAny (model X.prog X.w) X.A (f (.int i t) (.int j u)) Q E s) :
  qO X f (Ft fun i j=>.bl (g i j)):=by
 intro pins s σ H x y v u Q I rx ry h;obtain⟨i,j,rfl,rfl,q⟩:=h;obtain⟨t,rfl⟩:=rx;obtain⟨t',rfl⟩:=ry;exact rule i j t t' s _ _ ⟨.bl (g i j),H,I,rfl,q⟩
def G0 (i j:Int):Prop:=0<j/\j<1073741824
def G2 (i j:Int):Prop:=0<=j/\j<=1000000/\i.natAbs<2 ^ 64
def EW (i j:Int):Prop:=(-(2 ^ 64)<i/\i<2 ^ 64)\/(-(2 ^ 64)<j/\j<2 ^ 64)
theorem EW.ok {i j:Int}(h:EW i j):IntMulOk i j:=by
 rcases h with ⟨h1,h2⟩ | ⟨h1,h2⟩
 ·exact .of_left (intBits_le_64 h1 h2)
 ·exact .of_right (intBits_le_64 h1 h2)
theorem e9:qO X (binaryOp .Add) (Ft fun i j=>.int (i+j)):=Gr fun _ _ _ _ _ _ _ q=>add_int q
theorem Cv:qO X (binaryOp .Sub) (Ft fun i j=>.int (i-j)):=Gr fun _ _ _ _ _ _ _ q=>sub_int q
theorem rW:qO X (binaryOp .Mult) (rI EW fun i j=>.int (i*j)):=Gq fun _ _ _ _ _ _ _ hc q=>mul_int q hc.ok
theorem gY:qO X (binaryOp .FloorDiv) (rI G0 fun i j=>.int (i/j)):=Gq fun i j _ _ _ _ _ hc q=>by
 have h1:(0:Int)<j:=hc.1;have h2:j<1073741824:=hc.2;exact floordiv_int (by omega) (by rw[Int.fdiv_eq_ediv_of_nonneg i (by omega)];exact q) (.inl (PyProof.noPylong_small (by omega)))
theorem cB:qO X (binaryOp .Mod) (rI (fun _ j=>0<j) fun i j=>.int (i%j)):=Gq fun i j _ _ _ _ _ hc q=>by
 have h1:(0:Int)<j:=hc;exact mod_int' (by omega) (by rw[Int.fmod_eq_emod_of_nonneg i (by omega)];exact q)
theorem Cu:qO X (binaryOp .Pow) (rI G2 fun i j=>.int (i ^ j.toNat)):=Gq fun _ _ _ _ _ _ _ hc q=>pow_int_small hc.1 hc.2.1 hc.2.2 q
theorem Il {f:Value->Sem Value}{g:Int->Int}
  (rule:∀ (i:Int)(t:Tok)(s:Shared)(Q:Value->Shared->Prop)(E:Value->Shared->Prop),Q (.int (g i) s.toks) { s with toks:=s.toks+1 }->wpAny (model X.prog X.w) X.A (f (.int i t)) Q E s) :
  Hb X f (rU fun i=>.int (g i)):=by
 intro pins s σ H x v Q I rx h;obtain⟨i,rfl,q⟩:=h;obtain⟨t,rfl⟩:=rx;exact rule i t s _ _ ⟨.int (g i),H,I.tok _,⟨_,rfl⟩,q⟩
theorem md:Hb X (unaryOp .USub) (rU fun i=>.int (-i)):=Il fun _ _ _ _ _ q=>neg_int q
end
def GD:V->V->Bool
 | .non,.non=>true | .non,.int _=>true | .int _,.non=>true | .non,.bl _=>true | .bl _,.non=>true | .non,.str _=>true | .str _,.non=>true
 | .int _,.int _=>true | .bl _,.bl _=>true | .str _,.str _=>true | .byt _,.byt _=>true
 | .int _,.str _=>true | .str _,.int _=>true | .bl _,.str _=>true | .str _,.bl _=>true
 | _,_=>false
def Ib:R2:=fun x y H Q=>GD x y=true/\Q (.bl (decide (x=y))) H
def Ic:R2:=fun x y H Q=>GD x y=true/\Q (.bl (!decide (x=y))) H
theorem zq {i j:Int}:decide (V.int i=V.int j)=(i == j):=by
 rw[Bool.eq_iff_iff];simp
theorem BL {i j:Bool}:decide (V.bl i=V.bl j)=(i == j):=by
 rw[Bool.eq_iff_iff];simp
theorem zu {i j:Str}:decide (V.str i=V.str j)=(i == j):=by
 rw[Bool.eq_iff_iff];simp
theorem zp {i j:Array UInt8}:decide (V.byt i=V.byt j)=(i.toList == j.toList):=by
 rw[Bool.eq_iff_iff];cases i;cases j;simp
section
variable {X:Cx}{a b c:Expr}{ta tb tc:TE}{pos:Pos}
theorem bF {pins:List (Addr×Obj)}{σ:St}{H:Hp}{s:Shared}{Q:VK}{k k':Bool}(I:aE X pins σ H s)(q:Q (.bl k) H)(e:k=k'):EP X pins σ Q (.bool k') s:=by
 subst e;exact⟨.bl k,H,I,rfl,q⟩
theorem de:qO X (compareOp .Eq) Ib:=by
 intro pins s σ H x y v u Q I rx ry h;obtain⟨hs,q⟩:=h
 cases x with
 | non =>
  cases rx
  cases y with
  | non=>cases ry;exact PySem.EqNone.eq_none_none (bF I q (by simp))
  | bl j=>cases ry;exact PySem.EqNone.eq_none_bool (bF I q (by simp))
  | int j=>obtain⟨t',rfl⟩:=ry;exact PySem.EqNone.eq_none_int (bF I q (by simp))
  | str j=>obtain⟨t',rfl⟩:=ry;exact PySem.EqNone.eq_none_str (bF I q (by simp))
  | _=>exact absurd (show false=true from hs) Bool.false_ne_true
 | bl i =>
  cases rx
  cases y with
  | non=>cases ry;exact PySem.EqNone.eq_bool_none (bF I q (by simp))
  | bl j=>cases ry;exact eq_bool (bF I q BL)
  | str j=>obtain⟨t',rfl⟩:=ry;exact PySem.EqMixed.eq_bool_str (bF I q (by simp))
  | _=>exact absurd (show false=true from hs) Bool.false_ne_true
 | int i =>
  obtain⟨t,rfl⟩:=rx
  cases y with
  | non=>cases ry;exact PySem.EqNone.eq_int_none (bF I q (by simp))
  | int j=>obtain⟨t',rfl⟩:=ry;exact eq_int (bF I q zq)
  | str j=>obtain⟨t',rfl⟩:=ry;exact PySem.EqMixed.eq_int_str (bF I q (by simp))
  | _=>exact absurd (show false=true from hs) Bool.false_ne_true
 | str i =>
  obtain⟨t,rfl⟩:=rx
  cases y with
  | non=>cases ry;exact PySem.EqNone.eq_str_none (bF I q (by simp))
  | bl j=>cases ry;exact PySem.EqMixed.eq_str_bool (bF I q (by simp))
  | int j=>obtain⟨t',rfl⟩:=ry;exact PySem.EqMixed.eq_str_int (bF I q (by simp))
  | str j=>obtain⟨t',rfl⟩:=ry;exact eq_str (bF I q zu)
  | _=>exact absurd (show false=true from hs) Bool.false_ne_true
 | byt i =>
  obtain⟨t,rfl⟩:=rx
  cases y with
  | byt j=>obtain⟨t',rfl⟩:=ry;exact PySem.W.eq_bytes (bF I q zp)
  | _=>exact absurd (show false=true from hs) Bool.false_ne_true
 | _=>cases y<;>exact absurd (show false=true from hs) Bool.false_ne_true
theorem m5:qO X (compareOp .NotEq) Ic:=by
 intro pins s σ H x y v u Q I rx ry h;obtain⟨hs,q⟩:=h
 cases x with
 | non =>
  cases rx
  cases y with
  | non=>cases ry;exact PySem.EqNone.ne_none_none (bF I q (by simp))
  | bl j=>cases ry;exact PySem.EqNone.ne_none_bool (bF I q (by simp))
  | int j=>obtain⟨t',rfl⟩:=ry;exact PySem.EqNone.ne_none_int (bF I q (by simp))
  | str j=>obtain⟨t',rfl⟩:=ry;exact PySem.EqNone.ne_none_str (bF I q (by simp))
  | _=>exact absurd (show false=true from hs) Bool.false_ne_true
 | bl i =>
  cases rx
  cases y with
  | non=>cases ry;exact PySem.EqNone.ne_bool_none (bF I q (by simp))
  | bl j=>cases ry;exact ne_bool (bF I q (congrArg not BL))
  | str j=>obtain⟨t',rfl⟩:=ry;exact PySem.EqMixed.ne_bool_str (bF I q (by simp))
  | _=>exact absurd (show false=true from hs) Bool.false_ne_true
 | int i =>
  obtain⟨t,rfl⟩:=rx
  cases y with
  | non=>cases ry;exact PySem.EqNone.ne_int_none (bF I q (by simp))
  | int j=>obtain⟨t',rfl⟩:=ry;exact ne_int (bF I q (congrArg not zq))
  | str j=>obtain⟨t',rfl⟩:=ry;exact PySem.EqMixed.ne_int_str (bF I q (by simp))
  | _=>exact absurd (show false=true from hs) Bool.false_ne_true
 | str i =>
  obtain⟨t,rfl⟩:=rx
  cases y with
  | non=>cases ry;exact PySem.EqNone.ne_str_none (bF I q (by simp))
  | bl j=>cases ry;exact PySem.EqMixed.ne_str_bool (bF I q (by simp))
  | int j=>obtain⟨t',rfl⟩:=ry;exact PySem.EqMixed.ne_str_int (bF I q (by simp))
  | str j=>obtain⟨t',rfl⟩:=ry;exact ne_str (bF I q (congrArg not zu))
  | _=>exact absurd (show false=true from hs) Bool.false_ne_true
 | byt i =>
  obtain⟨t,rfl⟩:=rx
  cases y with
  | byt j=>obtain⟨t',rfl⟩:=ry;exact PySem.W.ne_bytes (bF I q (congrArg not zp))
  | _=>exact absurd (show false=true from hs) Bool.false_ne_true
 | _=>cases y<;>exact absurd (show false=true from hs) Bool.false_ne_true
theorem xu:qO X (compareOp .Lt) (Ft fun i j=>.bl (decide (i<j))):=Fl fun _ _ _ _ _ _ _ q=>lt_int q
theorem Gu:qO X (compareOp .Gt) (Ft fun i j=>.bl (decide (j<i))):=Fl fun _ _ _ _ _ _ _ q=>gt_int q
theorem Gs:qO X (compareOp .GtE) (Ft fun i j=>.bl (decide (j<=i))):=Fl fun _ _ _ _ _ _ _ q=>ge_int q
theorem aQ (b:Expr){op:CmpOp}(h:op≠.In:=by decide)(h2:op≠.NotIn:=by decide):behindInMarks op b=false:=by
 have e1:(op == CmpOp.In)=false:=by cases op<;>first | rfl | exact absurd rfl h
 have e2:(op == CmpOp.NotIn)=false:=by cases op<;>first | rfl | exact absurd rfl h2
 cases b<;>simp[behindInMarks,e1,e2]
theorem D9 {op:CmpOp}{r:R2}(ho:qO X (compareOp op) r)(ha:PE X a ta)(hb:PE X b tb)(hm:behindInMarks op b=false):PE X (.Compare a [op] [b] pos) (F0 r ta tb):=by
 intro pins s σ H Q I h;exact wpAny_Compare1 (E5 ha hb I h fun v u s2 x y H2 I2 rx ry q=>ho pins s2 σ H2 x y v u Q I2 rx ry q) hm
def GN (t:TE):TT:=fun σ H Q=>t σ H fun x H'=>∃ k,x=.bl k/\Q k H'
theorem aG {op:CmpOp}{r:R2}(ho:qO X (compareOp op) r)(ha:PE X a ta)(hb:PE X b tb)(hm:behindInMarks op b=false):PT X (.Compare a [op] [b] pos) (GN (F0 r ta tb)):=by
 intro pins s σ H Q I h
 refine wpAny_isTrue_Compare1 (bA (ha pins s σ H _ I h) fun v s1 ⟨x,H1,I1,r1,q1⟩=>bA (hb pins s1 σ H1 _ I1 q1) fun u s2 ⟨y,H2,I2,r2,q2⟩ =>
  bA (ho pins s2 σ H2 x y v u _ I2 r1 r2 q2) fun c s3 ⟨z,H3,I3,r3,k,e,q3⟩=>?_) hm
 subst e;cases r3;exact wpAny_truthy_bool ⟨H3,I3,q3⟩
def Ge (K:PySem.W.Frag)(x:V)(H:Hp)(k:Bool):Prop :=
 match x with
 | .non=>k=false
 | .bl b=>k=b
 | .int i=>k=(i != 0)
 | .str y=>y.length<=sizeLine/\k=((y.length:Int) != 0)
 | .byt y=>y.size<=sizeLine/\k=((y.size:Int) != 0)
 | .ref p=>(∃ xs,aW K H p xs/\k = !xs.isEmpty)\/(∃ xs,eP K H p xs/\k = !xs.isEmpty)\/∃ kvs,H p=some (.dK kvs)/\k = !kvs.isEmpty
 | _=>False
theorem yg {κ:Type}{kvs:List (κ×V)}{vs:List (κ×Value)}(r:KV kvs vs):(!vs.isEmpty) = !kvs.isEmpty:=by
 cases r<;>rfl
theorem rn {xs:List V}{its:List Value}(r:bt xs its):(!its.toArray.isEmpty) = !xs.isEmpty:=by
 cases r<;>simp
theorem u6:(sizeLine:Nat)<2 ^ 63:=by rw[sizeLine_eq];decide
theorem FP:Ha X (fun x H Q=>∃ k,Ge X.K x H k/\Q k H):=by
 intro pins s σ H x v Q I rx h;obtain⟨k,e,q⟩:=h;have hl:=u6;have hs:sizeLine=16777216:=sizeLine_eq
 cases x with
 | non =>
  cases rx;have e':k=false:=e;subst e';exact truthy_none ⟨H,I,q⟩
 | bl b =>
  cases rx;have e':k=b:=e;subst e';exact wpAny_truthy_bool ⟨H,I,q⟩
 | int i =>
  obtain⟨t,rfl⟩:=rx;have e':k=(i != 0):=e;subst e';exact PySem.P.truthy_int ⟨H,I,q⟩
 | str y =>
  obtain⟨t,rfl⟩:=rx;obtain⟨hy,e'⟩:y.length<=sizeLine/\k=((y.length:Int) != 0):=e;subst e';exact PySem.P.truthy_str (by omega) ⟨H,I.tok _,q⟩
 | byt y =>
  obtain⟨t,rfl⟩:=rx;obtain⟨hy,e'⟩:y.size<=sizeLine/\k=((y.size:Int) != 0):=e;subst e';exact PySem.W.truthy_bytes (by omega) ⟨H,I.tok _,q⟩
 | ref p =>
  cases rx;have e':(∃ xs,aW X.K H p xs/\k = !xs.isEmpty)\/(∃ xs,eP X.K H p xs/\k = !xs.isEmpty)\/∃ kvs,H p=some (.dK kvs)/\k = !kvs.isEmpty:=e;rcases e' with ⟨xs,hx,e'⟩ | ⟨xs,hx,e'⟩ | ⟨kvs,hx,e'⟩
  ·subst e'
   obtain⟨its,r,pl,hz⟩:=I.list hx;have hlen:=r.length;exact wpAny_truthy_list pl.isList (by simp only[List.size_toArray];omega) ⟨H,I.tok _,by rw[rn r];exact q⟩
  ·subst e'
   obtain⟨its,r,pl,hz⟩:=I.tuple hx;have hlen:=r.length;exact truthy_tuple pl (by simp only[List.size_toArray];omega) ⟨H,I.tok _,by rw[rn r];exact q⟩
  ·subst e'
   obtain⟨hz,hS,vs,r,m⟩:kvs.length<=sizeLine/\(p == sysModules)=false/\∃ vs,KV kvs vs/\s.heap.DictOf (bH X.prog X.w) p vs:=I.hok p _ hx;have hlen:kvs.length=vs.length:=Paired.length r;exact wpAny_truthy_dict hS m (by omega) ⟨H,I.tok _,by rw[yg r];exact q⟩
 | _=>exact (show False from e).elim
theorem m7 (ha:PE X a ta)(he:∀ whole,isTrue a X.env whole=(do let v <-whole;standAt a.pos;holding [v] (truthy v))) :
  PT X a (fun σ H Q=>ta σ H fun x H'=>∃ k,Ge X.K x H' k/\Q k H'):=by
 intro pins s σ H Q I h;exact isTrue_plain (bA (ha pins s σ H _ I h) fun v s1 ⟨x,H1,I1,r1,q1⟩=>FP pins s1 σ H1 x v Q I1 r1 q1) (he _)
theorem sN {x:V}{us:List Value}(r:bt [x] us):∃ u,us=[u]/\bi x u:=by
 cases r with
 | cons r1 r2=>cases r2;exact⟨_,rfl,r1⟩
end
structure xY (h:Heap)(x dx C:Addr)(mA:Str->Option Value):Prop where
 obj:h.get? x=some (PySem.W.instObj C dx)
 ns:h.Ns1 dx mA
 ne:dx≠x
theorem AE {h:Heap}{dx:Addr}{mA:Str->Option Value}(n:h.Ns1 dx mA):∃ od,h.get? dx=some od/\∀ name,PySem.W.lookIn name od=some (mA name):=by
 obtain⟨o,es,ep,ho,hd,hk,_,hm⟩:=n;refine⟨o,ho,fun name=>?_⟩;have e:=hm name;unfold nsFind findBy at e;rw[<-Array.find?_toList]at e;unfold PySem.W.lookIn;rw[hd];dsimp only;split
 ·rename_i y q
  rw[q]at e;exact congrArg some e
 ·rename_i q
  rw[q]at e
  have a:es.toList.any (·.refKey)=false:=by
   rw[List.any_eq_false];intro y hy;obtain⟨z,t,hkey⟩:=hk y (Array.mem_toList_iff.mp hy);simp[DictEntry.refKey,hkey]
  have a':¬ es.toList.any (·.refKey)=true:=by rw[a];exact Bool.false_ne_true
  rw[if_neg a'];exact congrArg some e
theorem xY.look {h:Heap}{x dx C:Addr}{mA:Str->Option Value}(I:xY h x dx C mA):∃ od,PySem.W.InstAt h x (PySem.W.instObj C dx) C (some od)/\∀ name,PySem.W.lookIn name od=some (mA name) :=
 let ⟨od,ho,hl⟩:=AE I.ns
 ⟨od,⟨I.obj,rfl,rfl,ho⟩,hl⟩
section
variable {prog:Program}{w:World}{A:Around}{E:Value->Shared->Prop}{s:Shared}{K:PySem.W.Frag}{x dx C f:Addr}{mA:Str->Option Value}{name:Str}{v:Value}
theorem DO {expr:Bool}{Q:Value->Shared->Prop}(X:K.In s.heap)(I:xY s.heap x dx C mA)(hg:PySem.W.plainGet K C name=true)(hh:PySem.W.hasDictIn K C=true)
  (ha:PySem.W.findIn K (.ref C) name=some none) (hv:mA name=some v) (hv':PySem.W.handedIn v=true) (h:Q v { s with toks:=s.toks+1 }) :
  wpAny (model prog w) A (getAttr (.ref x) name expr) Q E s:=by
 obtain⟨od,J,hl⟩:=I.look;exact PySem.W.get_value X J (PySem.W.plainGet_of hg).1 (PySem.W.findObj_own hh ha rfl (by rw[hl,hv])) hv' h
theorem BY {pl:Sem Bool}{Q:Value×List Value->Shared->Prop}(X:K.In s.heap)(I:xY s.heap x dx C mA)(hg:PySem.W.plainGet K C name=true)
  (hf:PySem.W.findIn K (.ref C) name=some (some (.ref f))) (ht:PySem.W.isFn K (.ref f)=true) (hv:mA name=none) (h:Q (.ref f,[.ref x]) s) :
  wpAny (model prog w) A (getMethod (.ref x) name pl) Q E s:=by
 obtain⟨od,J,hl⟩:=I.look;exact PySem.W.method_fn X J (PySem.W.plainGet_of hg).1 (PySem.W.plainGet_of hg).2 hf (beq_iff_eq.mp ht) (by show (PySem.W.lookIn name od).map (·.isSome)=some false;rw[hl,hv];rfl) h
theorem Em {ns:List Str}{Q:Unit->Shared->Prop}(X:K.In s.heap)(I:xY s.heap x dx C mA)
  (hs:PySem.W.findIn K (.ref C) "__setattr__" = some (some (.builtin "object.__setattr__"))) (hp:PySem.W.plainOver K C=true) (ht:PySem.W.takerIn K C name=some none) (hh:PySem.W.hasDictIn K C=true)
  (hw:PySem.Within mA ns) (hsz:ns.length<=sizeLine)
  (h:∀ h',xY h' x dx C (fun y=>if y=name then some v else mA y)->Heap.SameBut dx s.heap h'->Q () { s with heap:=h',toks:=s.toks+2 }) :
  wpAny (model prog w) A (setAttr (.ref x) name v) Q E s:=by
 obtain⟨od,J,hl⟩:=I.look;refine PySem.W.set_plain X J hs (PySem.W.osa_open (s:={ s with toks:=s.toks+1 }) (r:=none) X J hp ht fun b=>?_);obtain⟨cd,hc,hd'⟩:=PySem.W.any_some hh;have hx:s.heap.get? x=some ⟨.ref C,some dx,.plain,#[]⟩:=I.obj;refine wpAny_bind (wpAny_pure (wpAny_bind (wpAny_bind (wpAny_loadPart hx (wpAny_bind (PySem.W.Looks.here (s:={ s with toks:=s.toks+1 }) (PySem.W.looks_clsIn X hc) ?_))))));rw[hd'];refine wpAny_pure (a:=some dx) (wpAny_bind (wpAny_pure (wpAny_bind ?_)));refine wpAny_nsSet1 (s:={ s with toks:=s.toks+1 }) I.ns fun h' hn2 hs2=>?_;obtain⟨oD,esD,epD,hoD,hdD,hcD⟩:=hn2.count (PySem.Within.cons name v hw);refine wpAny_bind (wpAny_lookBehind hoD (by rw[hdD];exact pastItsLine_dict (Nat.le_trans hcD (by rw[List.length_cons];omega))) ?_);exact wpAny_pure (h _ ⟨(hs2.2 _ (Ne.symm I.ne)).trans I.obj,hn2,I.ne⟩ hs2)
theorem Cf {R:Result->Shared->Prop}{vs:List Value}{kw:List (Str×Value)}(X:K.In s.heap)(hm:PySem.W.makesIn K C=true)
  (hi:PySem.W.findIn K (.ref C) "__init__" = some (some (.ref f))) (hf:PySem.W.typeIn K (.ref f)=some (.type "function"))
  (h:codeAny (model prog w) (A.under (.builtin "type.__call__" ⟨.ref C::vs,kw⟩)) (.call (.ref f) ⟨.ref (s.heap.objs.size+1)::vs,kw⟩) (PySem.W.InitBack (s.heap.objs.size+1) R)
   { s with heap:=(s.heap.push PySem.W.emptyDict).push (PySem.W.instObj C s.heap.objs.size) }) :
  codeAny (model prog w) A (.call (.ref C) ⟨vs,kw⟩) R s:=by
 obtain⟨hh,g,d,t,os⟩:=s;exact PySem.W.make_core (PySem.W.makes_of X hm) (PySem.W.looks_findIn X hi) (fun self=>PySem.W.bind_fn X self hf) (.inl rfl) h
end
def iD (f:Str)(v:V):List (Str×V)->List (Str×V)
 | []=>[(f,v)]
 | (g,x)::r=>if g=f then (g,v)::r else (g,x)::iD f v r
theorem bj (f g:Str)(v:V):∀ fs:List (Str×V),(iD f v fs).lookup g=if g=f then some v else fs.lookup g
 | []=>by
  show List.lookup g [(f,v)]=_
  by_cases h:g=f
  ·have hb:(g == f)=true:=beq_iff_eq.mpr h
   simp only[List.lookup,hb,if_pos h]
  ·have hb:(g == f)=false:=beq_eq_false_iff_ne.mpr h
   simp only[List.lookup,hb,if_neg h]
 | (k,x)::r=>by
  have ih:=bj f g v r;rw[show iD f v ((k,x)::r)=(if k=f then (k,v)::r else (k,x)::iD f v r) from rfl]
  by_cases hk:k=f
  ·rw[if_pos hk]
   by_cases h:g=k
   ·have hb:(g == k)=true:=beq_iff_eq.mpr h
    simp only[List.lookup,hb,if_pos (h.trans hk)]
   ·have hb:(g == k)=false:=beq_eq_false_iff_ne.mpr h
    simp only[List.lookup,hb,if_neg (fun e:g=f=>h (e.trans hk.symm))]
  ·rw[if_neg hk]
   by_cases h:g=k
   ·have hb:(g == k)=true:=beq_iff_eq.mpr h
    simp only[List.lookup,hb,if_neg (fun e:g=f=>hk (h.symm.trans e))]
   ·have hb:(g == k)=false:=beq_eq_false_iff_ne.mpr h
    simp only[List.lookup,hb];exact ih
theorem oz (f:Str)(v:V):∀ fs:List (Str×V),f∈(iD f v fs).map (·.1)/\∀ g,g∈fs.map (·.1)->g∈(iD f v fs).map (·.1)
 | []=>⟨by simp[iD],fun g h=>by simp at h⟩
 | (k,x)::r=>by
  obtain⟨i1,i2⟩:=oz f v r;rw[show iD f v ((k,x)::r)=(if k=f then (k,v)::r else (k,x)::iD f v r) from rfl]
  by_cases hk:k=f
  ·rw[if_pos hk]
   subst hk;exact⟨by simp,fun g h=>by simpa using h⟩
  ·rw[if_neg hk]
   refine⟨?_,fun g h=>?_⟩
   ·rw[List.map_cons]
    exact List.mem_cons_of_mem _ i1
   ·rw[List.map_cons]at h ⊢
    rcases List.mem_cons.mp h with e | e
    ·exact List.mem_cons.mpr (.inl e)
    ·exact List.mem_cons_of_mem _ (i2 g e)
theorem pQ (f:Str)(v:V):∀ fs:List (Str×V),(iD f v fs).length<=fs.length+1
 | []=>by simp[iD]
 | (k,x)::r=>by
  have ih:=pQ f v r;rw[show iD f v ((k,x)::r)=(if k=f then (k,v)::r else (k,x)::iD f v r) from rfl]
  by_cases hk:k=f
  ·rw[if_pos hk,List.length_cons,List.length_cons];omega
  ·rw[if_neg hk,List.length_cons,List.length_cons];omega
theorem iy.some_of {v:V}{o:Option Value}(r:iy (some v) o):∃ u,o=some u/\bi v u:=by
 cases o with
 | none=>exact (show False from r).elim
 | some u=>exact⟨u,rfl,r⟩
theorem iy.none_of {o:Option Value}(r:iy none o):o=none:=by
 cases o with
 | none=>rfl
 | some u=>exact (show False from r).elim
theorem Ax {v:V}{u:Value}(r:bi v u):PySem.W.handedIn u=true:=by
 cases v with
 | non=>cases (show u=Value.none from r);rfl
 | bl b=>cases (show u=Value.bool b from r);rfl
 | int i=>obtain⟨t,e⟩:=(show ∃ t,u=Value.int i t from r);cases e;rfl
 | str x=>obtain⟨t,e⟩:=(show ∃ t,u=Value.str x t from r);cases e;rfl
 | byt b=>obtain⟨t,e⟩:=(show ∃ t,u=Value.bytes b t from r);cases e;rfl
 | flt b=>obtain⟨t,e⟩:=(show ∃ t,u=Value.float b t from r);cases e;rfl
 | ref a=>cases (show u=Value.ref a from r);rfl
 | ty n=>cases (show u=Value.type n from r);rfl
section
variable {P:Program}{w:World}{H H':Hp}{h h':Heap}{a C dx:Addr}{fs fs':List (Str×V)}
theorem qu (hok:jz P w H h)(e:H a=some (.ins C dx fs)):∃ mA,xY h a dx C mA/\(∀ f,iy (fs.lookup f) (mA f))/\PySem.Within mA (fs.map (·.1))/\fs.length<=1000/\H dx=some (.own a):=by
 obtain⟨d,z,ne,ob,mA,n,r,q⟩:=(show bC P w H h a (.ins C dx fs) from hok a _ e);exact⟨mA,⟨ob,n,ne⟩,r,q,z,d⟩
end
structure Al (K:PySem.W.Frag)(C:Addr):Prop where
 pg:PySem.W.plainGet K C Str.empty=true
 hd:PySem.W.hasDictIn K C=true
 po:PySem.W.plainOver K C=true
 sa:PySem.W.findIn K (.ref C) "__setattr__" = some (some (.builtin "object.__setattr__"))
theorem Al.get {K:PySem.W.Frag}{C:Addr}(c:Al K C)(f:Str):PySem.W.plainGet K C f=true:=c.pg
def h8 (K:PySem.W.Frag)(C:Addr)(f:Str):Prop:=PySem.W.findIn K (.ref C) f=some none
theorem h8.taker {K:PySem.W.Frag}{C:Addr}{f:Str}(n:h8 K C f):PySem.W.takerIn K C f=some none:=by
 unfold PySem.W.takerIn;rw[show PySem.W.findIn K (.ref C) f=some none from n];rfl
structure DB (K:PySem.W.Frag)(C:Addr)(m:Str)(f:Addr):Prop where
 at_:PySem.W.findIn K (.ref C) m=some (some (.ref f))
 fn:PySem.W.isFn K (.ref f)=true
 kp:PySem.W.keepIn K (.ref f)=true
section
variable {X:Cx}{pins:List (Addr×Obj)}{σ:St}{H:Hp}{s:Shared}{a C dx:Addr}{fs:List (Str×V)}{f:Str}{v:V}{A:Around}{E:Value->Shared->Prop}
theorem yb {b:Bool}{Q:Value->Shared->Prop}(I:aE X pins σ H s)(e:H a=some (.ins C dx fs))(c:Al X.K C)(n:h8 X.K C f)(l:fs.lookup f=some v)
  (h:∀ u s',aE X pins σ H s'->bi v u->Q u s'):wpAny (model X.prog X.w) A (getAttr (.ref a) f b) Q E s:=by
 obtain⟨mA,O,r,_,_,_⟩:=qu I.hok e;obtain⟨u,hu,ru⟩:=iy.some_of (v:=v) (o:=mA f) (by rw[<-l];exact r f);exact DO I.kIn O (c.get f) c.hd n hu (Ax ru) (h u _ (I.tok _) ru)
theorem rj {m:Str}{g:Addr}{pl:Sem Bool}{Q:Value×List Value->Shared->Prop}(I:aE X pins σ H s)(e:H a=some (.ins C dx fs))(c:Al X.K C)(k:DB X.K C m g)(l:fs.lookup m=none)
  (h:Q (.ref g,[.ref a]) s):wpAny (model X.prog X.w) A (getMethod (.ref a) m pl) Q E s:=by
 obtain⟨mA,O,r,_,_,_⟩:=qu I.hok e;have hn:mA m=none:=iy.none_of (by rw[<-l];exact r m);exact BY I.kIn O (c.get m) k.at_ k.fn hn h
theorem yZ {y:V}{u:Value}{Q:Unit->Shared->Prop}(I:aE X pins σ H s)(e:H a=some (.ins C dx fs))(c:Al X.K C)(n:h8 X.K C f)(hl:fs.length<1000)(ry:bi y u)
  (h:∀ s',aE X pins σ (upd H a (.ins C dx (iD f y fs))) s'->Q () s'):wpAny (model X.prog X.w) A (setAttr (.ref a) f u) Q E s:=by
 obtain⟨mA,O,r,wi,_,ho⟩:=qu I.hok e
 have hz:(fs.map (·.1)).length<=sizeLine:=by rw[List.length_map,sizeLine_eq];omega
 refine Em I.kIn O c.sa c.po n.taker c.hd wi hz fun h' O' sb=>h _ ?_;have hd:∃ o,h'.get? dx=some o:=let ⟨o,_,_,e',_⟩:=O'.ns;⟨o,e'⟩;refine I.write (x:=a) (e:=dx) (by rw[e];exact True.intro) (.inr ho) (fun b q hb z=>(sb.2 b hb).trans z) hd ?_;refine⟨by rw[af O.ne];exact ho,?_,O.ne,O'.obj,_,O'.ns,fun g=>?_,fun g hg=>?_⟩
 ·have:=pQ f y fs;omega
 ·show iy ((iD f y fs).lookup g) (if g=f then some u else mA g)
  rw[bj]
  by_cases q:g=f
  ·rw[if_pos q,if_pos q];exact ry
  ·rw[if_neg q,if_neg q];exact r g
 ·by_cases q:g=f
  ·rw[q];exact (oz f y fs).1
  ·refine (oz f y fs).2 g (wi g fun z=>hg ?_)
   show (if g=f then some u else mA g)=none
   rw[if_neg q];exact z
theorem aE.made (I:aE X pins σ H s):aE X pins σ (upd (upd H s.heap.objs.size (.own (s.heap.objs.size+1))) (s.heap.objs.size+1) (.ins C s.heap.objs.size []))
  { s with heap:=(s.heap.push PySem.W.emptyDict).push (PySem.W.instObj C s.heap.objs.size) }:=by
 have e1:(s.heap.push PySem.W.emptyDict).get? s.heap.objs.size=some PySem.W.emptyDict:=Heap.get?_push_size s.heap rfl
 have e2:((s.heap.push PySem.W.emptyDict).push (PySem.W.instObj C s.heap.objs.size)).get? (s.heap.objs.size+1)=some (PySem.W.instObj C s.heap.objs.size):=by
  have:=Heap.get?_push_size (s.heap.push PySem.W.emptyDict) (o:=PySem.W.instObj C s.heap.objs.size) rfl
  rwa [Heap.size_push]at this
 have e3:(s.heap.push PySem.W.emptyDict).Ns s.heap.objs.size (fun _=>none):=⟨PySem.W.emptyDict,#[],_,e1,rfl,(fun e he=>absurd he (by simp)),fun _=>rfl⟩;have I1:=I.laid (a:=s.heap.objs.size) (o:=.own (s.heap.objs.size+1)) (h':=s.heap.push PySem.W.emptyDict) (t':=s.toks) (fun b u q=>Heap.get?_push_of_some _ q) (Nat.le_refl _) ⟨_,e1⟩;refine I1.laid (a:=s.heap.objs.size+1) (o:=.ins C s.heap.objs.size []) (t':=s.toks) (fun b u q=>Heap.get?_push_of_some _ q) (Nat.le_of_eq (Heap.size_push _ _)) ?_;have ne:s.heap.objs.size≠s.heap.objs.size+1:=Nat.ne_of_lt (Nat.lt_succ_self _);refine⟨by rw[af ne,ae],Nat.zero_le _,ne,e2,fun _=>none,(Heap.Ns1.of_empty e3).at fun o q=>Heap.get?_push_of_some _ q,fun _=>True.intro,fun y hy=>absurd rfl hy⟩
theorem DE {prog:Program}{w:World}{env:Env}{e:Expr}{f:Str}{pos:Pos}{s:Shared}{Q:Value->Shared->Prop}(hb:attributeBase e f env (eval e env)=eval e env)
  (h:wpAny (model prog w) A (eval e env) (fun o s₁=>wpAny (model prog w) A (getAttr o f true) Q E s₁) E s):wpAny (model prog w) A (eval (.Attribute e f pos) env) Q E s :=
 Attribute_any_ h (by rw[arm_eval_Attribute,hb])
end
def Hz (K:PySem.W.Frag)(ta:TE)(f:Str):TE:=fun σ H Q=>ta σ H fun x H1=>∃ a C dx fs v,x=.ref a/\H1 a=some (.ins C dx fs)/\Al K C/\h8 K C f/\fs.lookup f=some v/\Q v H1
def Hv (K:PySem.W.Frag)(ta tv:TE)(f:Str):TS:=fun D σ H=>tv σ H fun y H1=>ta σ H1 fun x H2=>∃ a C dx fs,x=.ref a/\H2 a=some (.ins C dx fs)/\Al K C/\h8 K C f/\fs.length<1000 /\
 D.nx σ (upd H2 a (.ins C dx (iD f y fs)))
section
variable {X:Cx}{o e value:Expr}{f:Str}{pos pos' tpos:Pos}{ta tv:TE}
theorem cK (he:PE X e ta)(hb:attributeBase e f X.env (eval e X.env)=eval e X.env):PE X (.Attribute e f pos) (Hz X.K ta f):=by
 intro pins s σ H Q I h;refine DE hb (bA (he pins s σ H _ I h) fun u s1 ⟨x,H1,I1,rx,a,C,dx,fs,v,ex,ea,c,n,l,q⟩=>?_);subst ex;obtain rfl:u=Value.ref a:=rx;exact yb I1 ea c n l fun u' s2 I2 ru=>⟨v,H1,I2,ru,q⟩
theorem vy (ha:PE X o ta)(hv:PE X value tv)(hs:swapsWith value (some (.Attribute o f pos')) pos.line X.env=pure false):PS X (.Assign [.Attribute o f pos'] value pos) (Hv X.K ta tv f):=by
 intro pins s σ H D I h;refine plainObj_wpAny_Assign_Attribute (bA (hv pins s σ H _ I h) fun u s1 ⟨y,H1,I1,ry,q⟩=>bA (ha pins s1 σ H1 _ I1 q) fun ov s2 ⟨x,H2,I2,rx,a,C,dx,fs,ex,ea,c,n,l,q2⟩=>?_) hs;subst ex;obtain rfl:ov=Value.ref a:=rx;exact yZ I2 ea c n l ry fun s3 I3=>⟨σ,_,I3,q2⟩
end
section
variable {X:Cx}{pins:List (Addr×Obj)}{σ:St}{H:Hp}{s:Shared}{A:Around}{E:Value->Shared->Prop}{Q:Value->Shared->Prop}{c:Value}{b:Bool}
inductive jS (K:PySem.W.Frag) (H:Hp):V->Value->Prop where
 | non:jS K H .non (.type "NoneType")
 | bl (x:Bool):jS K H (.bl x) (.type "bool")
 | int (i:Int):jS K H (.int i) (.type "int")
 | str (x:Str):jS K H (.str x) (.type "str")
 | flt (x:UInt64):jS K H (.flt x) (.type "float")
 | lst {a:Addr} {xs:List V} (e:H a=some (.lst xs)):jS K H (.ref a) (.type "list")
 | frz {a:Addr} {o:Obj} {xs:List V} (e:H a=some (.frz o (.lst xs))):jS K H (.ref a) (.type "list")
 | tup {a:Addr} {xs:List V} (e:H a=some (.tup xs)):jS K H (.ref a) (.type "tuple")
 | dK {a:Addr} {kvs:List (cm×V)} (e:H a=some (.dK kvs)):jS K H (.ref a) (.type "dict")
 | dT {a:Addr} {kvs:List (List cm×V)} (e:H a=some (.dT kvs)):jS K H (.ref a) (.type "dict")
 | ins {a C dx:Addr} {fs:List (Str×V)} (e:H a=some (.ins C dx fs)) (cl:Al K C) (ha:PySem.W.findIn K (.ref C) "__class__" = some (some (.builtin "object.__class__")))
   (hn:PySem.W.specialIn K (.builtin "object.__class__") "__get__" = some (some (.builtin "getset_descriptor.__get__"))) (htk:PySem.W.takesIn K (.builtin "object.__class__")=some true)
   (hm:PySem.W.mroIn K C (.type "object")=some true):jS K H (.ref a) (.ref C)
theorem AB {x:V}{u t:Value}(I:aE X pins σ H s)(rx:bi x u)(ty:jS X.K H x t)(e:PySem.W.kitOne X.K t c=some b)(h:∀ tk,Q (.bool b) { s with toks:=tk }) :
  wpAny (model X.prog X.w) A (call (.builtin "isinstance") [u,c]) Q E s:=by
 cases ty with
 | non=>cases (show u=Value.none from rx);exact PySem.W.kia_one PySem.W.kitx_none I.kIn True.intro e (fun z=>nomatch z) h
 | bl y=>cases (show u=Value.bool y from rx);exact PySem.W.kia_one PySem.W.kitx_bool I.kIn True.intro e (fun z=>nomatch z) h
 | int i=>obtain⟨t,q⟩:=(show ∃ t,u=Value.int i t from rx);cases q;exact PySem.W.kia_one PySem.W.kitx_int I.kIn True.intro e (fun z=>nomatch z) h
 | str y=>obtain⟨t,q⟩:=(show ∃ t,u=Value.str y t from rx);cases q;exact PySem.W.kia_one PySem.W.kitx_str I.kIn True.intro e (fun z=>nomatch z) h
 | flt y=>obtain⟨t,q⟩:=(show ∃ t,u=Value.float y t from rx);cases q;exact PySem.W.kia_one PySem.W.kitx_float I.kIn True.intro e (fun z=>nomatch z) h
 | @lst a xs ea =>
  cases (show u=Value.ref a from rx);obtain⟨_,_,n,_,h1⟩:=(show bC X.prog X.w H s.heap a (.lst xs) from I.hok a _ ea);exact PySem.W.kia_one PySem.W.kitx_list I.kIn ⟨_,h1,rfl⟩ e (fun z=>nomatch z) h
 | @frz a ob xs ea =>
  cases (show u=Value.ref a from rx);obtain⟨_,_,_,n,_,h1⟩:=(show bC X.prog X.w H s.heap a (.frz ob (.lst xs)) from I.hok a _ ea);exact PySem.W.kia_one PySem.W.kitx_list I.kIn ⟨_,h1,rfl⟩ e (fun z=>nomatch z) h
 | @tup a xs ea =>
  cases (show u=Value.ref a from rx);obtain⟨_,_,_,p⟩:=(show bC X.prog X.w H s.heap a (.tup xs) from I.hok a _ ea);obtain⟨o,h1,h2,_⟩:=p;exact PySem.W.kia_one PySem.W.kitx_tuple I.kIn ⟨o,h1,h2⟩ e (fun z=>nomatch z) h
 | @dK a kvs ea =>
  cases (show u=Value.ref a from rx);obtain⟨_,_,vs,_,p⟩:=(show bC X.prog X.w H s.heap a (.dK kvs) from I.hok a _ ea);obtain⟨o,es,ep,h1,h2,_⟩:=p;exact PySem.W.kia_one PySem.W.kitx_dict I.kIn ⟨o,h1,h2.1⟩ e (fun z=>nomatch z) h
 | @dT a kvs ea =>
  cases (show u=Value.ref a from rx);obtain⟨_,_,xs,_,o,es,ep,h1,h2,_⟩:=(show bC X.prog X.w H s.heap a (.dT kvs) from I.hok a _ ea);exact PySem.W.kia_one PySem.W.kitx_dict I.kIn ⟨o,h1,h2.1⟩ e (fun z=>nomatch z) h
 | @ins a C dx fs ea cl ha hn htk hm =>
  cases (show u=Value.ref a from rx);obtain⟨mA,O,_⟩:=qu I.hok ea;obtain⟨od,J,_⟩:=O.look;exact PySem.W.kia_one (PySem.W.kitx_own (cl.get _) cl.hd ha hn htk hm) I.kIn J e (fun z=>nomatch z) h
end
structure cQ (k:Nat)(A:Around):Prop where
 hd:A.handled=none
 dp:A.depth+3*k+5<recursionLimit
 un:A.units+16*k+200<cLine
theorem cQ.mono {j k:Nat}{A:Around}(r:cQ k A)(h:j<=k):cQ j A:=⟨r.hd,by have:=r.dp;omega,by have:=r.un;omega⟩
theorem cQ.deeper {k:Nat}{A:Around}(r:cQ (k+1) A)(env:Env):cQ k (A.deeper env) :=
 ⟨r.hd,by have:=r.dp;show A.depth+1+3*k+5<_;omega,by have:=r.un;show A.units+3+16*k+200<_;omega⟩
theorem ym {A:Around}{C:Addr}{us:List Value}{kw:List (Str×Value)}:(A.under (.builtin "type.__call__" ⟨.ref C::us,kw⟩)).depth=A.depth+1:=by
 first | rfl | simp[Around.under,Code.weight,Code.isCreation,Code.isGuard,Code.isCaller,Code.frames,Code.isFrame,guardIds]
theorem yn {A:Around}{C:Addr}{us:List Value}{kw:List (Str×Value)}:(A.under (.builtin "type.__call__" ⟨.ref C::us,kw⟩)).units=A.units+1:=by
 first | rfl | simp[Around.under,Code.cUnits,Code.frames,Code.isFrame]
theorem cQ.make {k:Nat}{A:Around}(r:cQ (k+1) A)(C:Addr)(us:List Value)(kw:List (Str×Value)):cQ k (A.under (.builtin "type.__call__" ⟨.ref C::us,kw⟩)) :=
 ⟨r.hd,by have:=r.dp;rw[ym];omega,by have:=r.un;rw[yn];omega⟩
theorem cQ.depth {k:Nat}{A:Around}(r:cQ k A):A.depth<recursionLimit:=by have:=r.dp;omega
theorem cQ.units {k:Nat}{A:Around}(r:cQ k A):A.units+64<cLine:=by have:=r.un;omega
def qo:TA:=fun _ H Q=>Q [] H
def jC (ta:TE)(tr:TA):TA:=fun σ H Q=>ta σ H fun x H1=>tr σ H1 fun xs H2=>Q (x::xs) H2
section
variable {X:Cx}{e:Expr}{es:List Expr}{te:TE}{t:TA}{pos:Pos}
theorem aJ:PA X [] qo:=fun _ _ _ _ H Q I h=>Calls.spliced_nil ⟨[],H,I,.nil,h⟩
theorem av (ha:PE X e te)(hr:PA X es t)(hs:starEach (e::es) X.env=(false,eval e X.env)::starEach es X.env:=by rfl):PA X (e::es) (jC te t):=by
 intro pos pins s σ H Q I h;rw[hs]
 show wpAny _ _ (spliced ((false,eval e X.env)::backTo pos (starEach es X.env))) _ _ s
 refine Calls.spliced_cons (bA (ha pins s σ H _ I h) fun u s1 ⟨x,H1,I1,r1,q1⟩=>?_);exact bA (hr pos pins s1 σ H1 _ I1 q1) fun us s2 ⟨xs,H2,I2,r2,q2⟩=>⟨x::xs,H2,I2,.cons r1 r2,q2⟩
def FM (t:TA):TE:=fun σ H Q=>t σ H fun xs H1=>xs.length<=sizeLine/\∀ p,H1 p=none->Q (.ref p) (upd H1 p (.tup xs))
def HF (t:TA):TE:=fun σ H Q=>t σ H fun xs H1=>xs.length<=sizeLine/\∀ p,H1 p=none->Q (.ref p) (upd H1 p (.lst xs))
theorem bp {x1}(h:PA X es t):PE X (.Tuple es x1 pos) (FM t):=by
 intro pins s σ H Q I hq;refine wpAny_Tuple_spliced (bA (h pos pins s σ H _ I hq) fun us s1 ⟨xs,H1,I1,r,z,q⟩=>⟨by rw[<-r.length];exact z,?_⟩);have hf:H1 s1.heap.objs.size=none:=I1.hok.fresh (Nat.le_refl _);refine⟨.ref s1.heap.objs.size,upd H1 s1.heap.objs.size (.tup xs),I1.laid (t':=s1.toks) (fun b u e=>Heap.get?_push_of_some _ e) (Nat.le_refl _) ?_,rfl,q _ hf⟩;exact⟨z,us,r,⟨_,Heap.get?_push_size _ rfl,rfl,_,rfl⟩⟩
theorem dS (h:PA X es t):PE X (.List es pos) (HF t):=by
 intro pins s σ H Q I hq;refine wpAny_List_spliced (bA (h pos pins s σ H _ I hq) fun us s1 ⟨xs,H1,I1,r,z,q⟩=>⟨by rw[<-r.length];exact z,?_⟩);have hf:H1 s1.heap.objs.size=none:=I1.hok.fresh (Nat.le_refl _);refine⟨.ref s1.heap.objs.size,upd H1 s1.heap.objs.size (.lst xs),I1.laid (t':=s1.toks) (fun b u e=>Heap.get?_push_of_some _ e) (Nat.le_refl _) ?_,rfl,q _ hf⟩;exact⟨z,us,0,r,Heap.get?_push_size _ rfl⟩
end
abbrev Sp:=List V->Hp->VK->XK->Prop
abbrev vW:=List Env->Hp->Shared->XK->Value->Shared->Prop
structure xW (P:Program)(w:World)(K:PySem.W.Frag)(mg:Str->Option Value)(base:Heap)(A:Around)(outer:List Env)(s:Shared)(H:Hp):Prop where
 frames:A.frames=some outer
 mod:Mod K mg base
 bs:∀ b o,base.get? b=some o->s.heap.get? b=some o/\H b=none
 bsz:base.objs.size<=s.heap.objs.size
 funs:s.heap.FunFrames base outer
 frf:∀ b∈iR outer,H b=none
 hok:jz P w H s.heap
 bare:AllBare s.gens
def CE (outer:List Env)(P:Program)(w:World)(H:Hp)(s:Shared)(Q:VK)(u:Value)(s':Shared):Prop :=
 ∃ v H',s'.os=s.os/\AllBare s'.gens/\Un (iR outer) [] H H' s.heap s'.heap/\jz P w H' s'.heap/\bi v u/\Q v H'
def CR (CX:vW)(outer:List Env)(P:Program)(w:World)(H:Hp)(s:Shared)(Q:VK)(E:XK)(r:Result)(s':Shared):Prop :=
 match r with
 | .ok (.ret u)=>CE outer P w H s Q u s'
 | .ok _=>False
 | .error e=>CX outer H s E e s'
structure bb (P:Program)(w:World)(K:PySem.W.Frag)(mg:Str->Option Value)(base:Heap)(CX:vW)(k:Nat)(f:Addr)(fd:FuncData)(ps:List Str)(sp:Sp):Prop where
 len:∀ vs H Q E,sp vs H Q E->vs.length=ps.length
 run:∀ (A:Around)(outer:List Env)(s:Shared)(H:Hp)(args:Args)(us:List Value)(vs:List V)(Q:VK)(E:XK),cQ k A->xW P w K mg base A outer s H->BindsTo s fd args (ps.zip us)->bt vs us->sp vs H Q E ->
  codeAny (model P w) A (.call (.ref f) args) (CR CX outer P w H s Q E) s
theorem xW.make {P:Program}{w:World}{K:PySem.W.Frag}{mg:Str->Option Value}{base:Heap}{A:Around}{outer:List Env}{s:Shared}{H:Hp}(e:xW P w K mg base A outer s H)(C:Addr)(us:List Value)(kw:List (Str×Value)) :
  xW P w K mg base (A.under (.builtin "type.__call__" ⟨.ref C::us,kw⟩)) outer s H:=⟨by first | exact e.frames | (simpa [Around.under,Code.envs,Code.isFrame,pushEnvs] using e.frames),e.mod,e.bs,e.bsz,e.funs,e.frf,e.hok,e.bare⟩
section
variable {X:Cx}{pins:List (Addr×Obj)}{σ:St}{H:Hp}{s s':Shared}
theorem aE.env0 (I:aE X pins σ H s):xW X.prog X.w X.K X.mg X.base X.A X.stack s H :=
 ⟨I.ok.frames,I.ok.mod,I.bs,Nat.le_trans I.ok.bsz I.sz,I.stack,I.stkFree,I.hok,I.bare⟩
theorem aE.after {Q:VK}{u:Value}(I:aE X pins σ H s)(h:CE X.stack X.prog X.w H s Q u s'):EP X pins σ Q u s':=by
 obtain⟨v,H',os,bare,un,hok,r,q⟩:=h;obtain⟨hh,g,d,t,os'⟩:=s';obtain rfl:os'=s.os:=os;exact⟨v,H',I.call (h':=hh) (g':=g) (d':=d) (t':=t) (ch:=[]) un hok bare (fun b z=>absurd z (by simp)),r,q⟩
end
def z6 (sp:Sp)(dvs:List V)(E:XK)(t:TA):TE:=fun σ H Q=>t σ H fun vs H1=>sp (vs++dvs) H1 Q E
def z7 (C:Addr)(m:Str)(sp:Sp)(dvs:List V)(E:XK)(ta:TE)(t:TA):TE:=fun σ H Q=>ta σ H fun x H1=>∃ a dx fs,x=.ref a/\H1 a=some (.ins C dx fs)/\fs.lookup m=none /\
 t σ H1 fun vs H2=>sp (x::(vs++dvs)) H2 Q E
def EJ (C:Addr)(sp:Sp)(dvs:List V)(E:XK)(t:TA):TE:=fun σ H Q=>t σ H fun vs H1=>∀ x dx,H1 x=none->H1 dx=none->dx≠x ->
 sp (.ref x::(vs++dvs)) (upd (upd H1 dx (.own x)) x (.ins C dx [])) (fun v H2=>v=.non/\Q (.ref x) H2) E
def gq (K:PySem.W.Frag)(fd:FuncData)(ps:List Str)(ds:List Value):Prop :=
 ∀ (s:Shared)(us:List Value),K.In s.heap->(us++ds).length=ps.length->BindsTo s fd ⟨us,[]⟩ (ps.zip (us++ds))
theorem gq.all {K:PySem.W.Frag}{fd:FuncData}{ps:List Str}(h:∀ us:List Value,us.length=ps.length->bindArgs fd ⟨us,[]⟩=pure (ps.zip us)):gq K fd ps []:=fun s us _ hl=>by
 rw[List.append_nil]at hl ⊢;exact .of_eq (h us hl)
def fO (CX:vW)(X:Cx)(E:XK):Prop:=∀ (pins:List (Addr×Obj))(σ:St)(H:Hp)(s:Shared)(e:Value)(s':Shared),aE X pins σ H s->CX X.stack H s E e s'->X.xe e s'
section
variable {X:Cx}{CX:vW}{k:Nat}{f C:Addr}{fd:FuncData}{ps:List Str}{sp:Sp}{dvs:List V}{ds:List Value}{E:XK}{x m:Str}{p pos apos:Pos}{e o:Expr}{es:List Expr}{ta:TE}{t:TA}
theorem yQ {pins:List (Addr×Obj)}{σ:St}{H:Hp}{s:Shared}{Q:VK}{us:List Value}{vs:List V}(F:bb X.prog X.w X.K X.mg X.base CX k f fd ps sp)(hr:cQ k X.A)(hb:gq X.K fd ps ds)(hd:bt dvs ds)(hx:fO CX X E)
  (I:aE X pins σ H s) (r:bt vs us) (h:sp (vs++dvs) H Q E):wpAny (model X.prog X.w) X.A (call (.ref f) us) (EP X pins σ Q) X.xe s:=by
 have r2:bt (vs++dvs) (us++ds):=r.append hd
 have hl:(us++ds).length=ps.length:=by rw[<-r2.length];exact F.len _ _ _ _ h
 refine wpAny_call (codeAny_mono (F.run X.A X.stack s H ⟨us,[]⟩ (us++ds) (vs++dvs) Q E hr I.env0 (hb s us I.kIn hl) r2 h) fun r s' hq=>?_)
 cases r with
 | error e=>exact hx pins σ H s e s' I hq
 | ok fl =>
  cases fl with
  | ret u=>exact I.after hq
  | next=>exact False.elim hq
  | brk=>exact False.elim hq
  | cont=>exact False.elim hq
theorem zQ (F:bb X.prog X.w X.K X.mg X.base CX k f fd ps sp)(hr:cQ k X.A)(hg:Gl X x)(hm:X.mg x=some (.ref f))(hk:PySem.W.keepIn X.K (.ref f)=true)(hb:gq X.K fd ps ds)(hd:bt dvs ds)(hx:fO CX X E)
  (ha:PA X (e::es) t) (hdb:(x == ("__debug__" : Str))=false:=by decide) (he:starEach (e::es) X.env=(false,eval e X.env)::starEach es X.env:=by rfl) (hpl:(backTo pos (starEach es X.env)).any (·.1)=false:=by rfl) :
  PE X (.Call (.Name x p) (e::es) [] pos) (z6 sp dvs E t):=by
 intro pins s σ H Q I h;refine wpAny_Call_Name_kw (iW I hg hm ?_ hdb);refine PySem.W.callWith_K (h₀:=X.base) I.ok.mod.kin hk (bA (ha pos pins s σ H _ I h) fun us s1 ⟨vs,H1,I1,r,q⟩=>⟨I1.kIn,?_⟩) he hpl;exact yQ F hr hb hd hx I1 r q
theorem Ea {pl:Sem Bool}(he:PE X o ta)(c:Al X.K C)(hm:DB X.K C m f)(F:bb X.prog X.w X.K X.mg X.base CX k f fd ps sp)(hr:cQ k X.A)(hb:gq X.K fd ps ds)(hd:bt dvs ds)(hx:fO CX X E)(ha:PA X (e::es) t)
  (hst:starEach (e::es) X.env=(false,eval e X.env)::starEach es X.env:=by rfl) (hpl:(backTo pos (starEach es X.env)).any (·.1)=false:=by rfl)
  (ht:eval (.Call (.Attribute o m apos) (e::es) [] pos) X.env=(do
   let ov <-eval o X.env
   standAt apos.atName
   let (f,first) <-holding [ov] (getMethod ov m pl)
   callWith pos f first (backTo pos (starEach (e::es) X.env)) (backToKw pos (keywordEach [] X.env))):=by rfl) :
  PE X (.Call (.Attribute o m apos) (e::es) [] pos) (z7 C m sp dvs E ta t):=by
 intro pins s σ H Q I h;refine PySem.W.methodCall_KW (pl:=pl) (bA (he pins s σ H _ I h) fun u s1 ⟨x,H1,I1,rx,a,dx,fs,ex,ea,l,q⟩=>?_) ht;subst ex;obtain rfl:u=Value.ref a:=rx;refine rj I1 ea c hm l ?_;refine PySem.W.callWith_K (first:=[.ref a]) (h₀:=X.base) I.ok.mod.kin hm.kp (bA (ha pos pins s1 σ H1 _ I1 q) fun us s2 ⟨vs,H2,I2,r,q2⟩=>⟨I2.kIn,?_⟩) hst hpl;exact yQ (us:=.ref a::us) (vs:=.ref a::vs) F hr hb hd hx I2 (.cons rfl r) q2
theorem CK {pl:Sem Bool}(he:PE X o ta)(c:Al X.K C)(hm:DB X.K C m f)(F:bb X.prog X.w X.K X.mg X.base CX k f fd ps sp)(hr:cQ k X.A)(hb:gq X.K fd ps ds)(hd:bt dvs ds)(hx:fO CX X E)
  (ht:eval (.Call (.Attribute o m apos) [] [] pos) X.env=(do
   let ov <-eval o X.env
   standAt apos.atName
   let (f,first) <-holding [ov] (getMethod ov m pl)
   callWith pos f first (backTo pos (starEach [] X.env)) (backToKw pos (keywordEach [] X.env))):=by rfl) :
  PE X (.Call (.Attribute o m apos) [] [] pos) (z7 C m sp dvs E ta qo):=by
 intro pins s σ H Q I h;refine PySem.W.methodCall_KW (pl:=pl) (bA (he pins s σ H _ I h) fun u s1 ⟨x,H1,I1,rx,a,dx,fs,ex,ea,l,q⟩=>?_) ht;subst ex;obtain rfl:u=Value.ref a:=rx;refine rj I1 ea c hm l ?_;exact PySem.W.callWith_K0 (first:=[.ref a]) I1.kIn hm.kp (yQ (us:=[.ref a]) (vs:=[.ref a]) F hr hb hd hx I1 (.cons rfl .nil) q)
structure Mk (K:PySem.W.Frag)(C f:Addr):Prop where
 makes:PySem.W.makesIn K C=true
 init:PySem.W.findIn K (.ref C) "__init__" = some (some (.ref f))
 fn:PySem.W.isFn K (.ref f)=true
 kp:PySem.W.keepIn K (.ref C)=true
theorem Dd {pins:List (Addr×Obj)}{σ:St}{H:Hp}{s:Shared}{Q:VK}{us:List Value}{vs:List V}(M:Mk X.K C f)(F:bb X.prog X.w X.K X.mg X.base CX k f fd ps sp)(hr:cQ (k+1) X.A)(hb:gq X.K fd ps ds)(hd:bt dvs ds)
  (hx:fO CX X E) (I:aE X pins σ H s) (r:bt vs us)
  (h:∀ x dx,H x=none->H dx=none->dx≠x->sp (.ref x::(vs++dvs)) (upd (upd H dx (.own x)) x (.ins C dx [])) (fun v H2=>v=.non/\Q (.ref x) H2) E) :
  wpAny (model X.prog X.w) X.A (call (.ref C) us) (EP X pins σ Q) X.xe s:=by
 have hq:=h (s.heap.objs.size+1) s.heap.objs.size (I.hok.fresh (Nat.le_succ _)) (I.hok.fresh (Nat.le_refl _)) (Nat.ne_of_lt (Nat.lt_succ_self _));have I2:=aE.made (C:=C) I;have r2:bt (V.ref (s.heap.objs.size+1)::(vs++dvs)) (Value.ref (s.heap.objs.size+1)::(us++ds)):=.cons rfl (r.append hd)
 have hl:(Value.ref (s.heap.objs.size+1)::us++ds).length=ps.length:=by
  have e:=r2.length;rw[F.len _ _ _ _ hq]at e;exact e.symm
 refine wpAny_call (Cf (f:=f) I.kIn M.makes M.init (beq_iff_eq.mp M.fn) (codeAny_mono (F.run _ X.stack _ _ ⟨Value.ref (s.heap.objs.size+1)::us,[]⟩ (Value.ref (s.heap.objs.size+1)::(us++ds)) _ _ E (hr.make C us [])
  (I2.env0.make C us []) (hb _ (Value.ref (s.heap.objs.size+1)::us) I2.kIn hl) r2 hq) fun r s' hq'=>?_))
 cases r with
 | error e=>exact hx pins σ _ _ e s' I2 hq'
 | ok fl =>
  cases fl with
  | ret u =>
   obtain⟨v,H',I3,rv,ev,q3⟩:=I2.after hq';subst ev;exact⟨rv,⟨V.ref (s.heap.objs.size+1),H',I3,rfl,q3⟩⟩
  | next=>exact False.elim hq'
  | brk=>exact False.elim hq'
  | cont=>exact False.elim hq'
theorem CJ (M:Mk X.K C f)(F:bb X.prog X.w X.K X.mg X.base CX k f fd ps sp)(hr:cQ (k+1) X.A)(hg:Gl X x)(hm:X.mg x=some (.ref C))(hb:gq X.K fd ps ds)(hd:bt dvs ds)(hx:fO CX X E)
  (hdb:(x == ("__debug__" : Str))=false:=by decide):PE X (.Call (.Name x p) [] [] pos) (EJ C sp dvs E qo):=by
 intro pins s σ H Q I h;refine wpAny_Call_Name_kw (iW I hg hm ?_ hdb);exact PySem.W.callWith_K0 I.kIn M.kp (Dd (us:=[]) M F hr hb hd hx I .nil h)
end
section
variable {X:Cx}{CX:vW}{k:Nat}{f C:Addr}{fd:FuncData}{ps ks:List Str}{sp:Sp}{E:XK}{x m:Str}{p pos apos kpos:Pos}{e o:Expr}{es:List Expr}{kws:List Keyword}{te ta:TE}{t tk:TA}{nm:Option Str}
variable {g:List Value->List Value->List Value}{gV:List V->List V->List V}
end
structure ax (N P:List Str)(sc:Scope):Prop where
 kind:sc.kind=.function
 co:sc.isCoroutine=false
 gen:sc.isGenerator=false
 nd:N.Nodup
 pre:N.take P.length=P
 par:∀ x∈P,sc.names.lookup x=some .local\/sc.names.lookup x=some .cell
 nofree:∀ y∈sc.names,y.2≠.free
theorem ud {kindOf:Str->Option NameKind}{x:Str}:∀ {binds:List (Str×Value)}{m:Str->Option Value},(∀ v,(x,v)∉binds)->bindL kindOf binds m x=m x
 | [],_,_=>rfl
 | (n,v)::r,m,h=>by
  unfold bindL;rw[ud fun w hw=>h w (List.mem_cons_of_mem _ hw)];split
  ·have:x≠n:=by rintro rfl;exact h v List.mem_cons_self
   simp[this]
  ·rfl
theorem t8 {kindOf:Str->Option NameKind}{x:Str}:∀ {binds:List (Str×Value)}{m:Str->Option Value},(∀ v,(x,v)∉binds)->bindC kindOf binds m x=m x
 | [],_,_=>rfl
 | (n,v)::r,m,h=>by
  unfold bindC;rw[t8 fun w hw=>h w (List.mem_cons_of_mem _ hw)];split
  ·rfl
  ·have:x≠n:=by rintro rfl;exact h v List.mem_cons_self
   simp[this]
theorem uc {kindOf:Str->Option NameKind}{x:Str}{v:Value}:∀ {P:List Str}{vs:List Value}{i:Nat}{m:Str->Option Value},P.Nodup->P[i]? = some x->vs[i]? = some v->kindOf x=some .local ->
  bindL kindOf (P.zip vs) m x=some v
 | [],_,_,_,_,h,_,_=>by simp at h
 | _::_,[],_,_,_,_,h,_=>by simp at h
 | p::P,w::vs,0,m,nd,h1,h2,hk=>by
  simp at h1 h2;subst h1;subst h2
  show bindL kindOf ((p,w)::P.zip vs) m p=_
  unfold bindL;rw[ud fun v hv=>(List.nodup_cons.mp nd).1 (List.of_mem_zip hv).1,if_pos hk];simp
 | p::P,w::vs,i+1,m,nd,h1,h2,hk=>by
  show bindL kindOf ((p,w)::P.zip vs) m x=_
  unfold bindL;exact uc (i:=i) (List.nodup_cons.mp nd).2 (by simpa using h1) (by simpa using h2) hk
theorem t7 {kindOf:Str->Option NameKind}{x:Str}{v:Value}:∀ {P:List Str}{vs:List Value}{i:Nat}{m:Str->Option Value},P.Nodup->P[i]? = some x->vs[i]? = some v->kindOf x≠some .local ->
  bindC kindOf (P.zip vs) m x=some v
 | [],_,_,_,_,h,_,_=>by simp at h
 | _::_,[],_,_,_,_,h,_=>by simp at h
 | p::P,w::vs,0,m,nd,h1,h2,hk=>by
  simp at h1 h2;subst h1;subst h2
  show bindC kindOf ((p,w)::P.zip vs) m p=_
  unfold bindC;rw[t8 fun v hv=>(List.nodup_cons.mp nd).1 (List.of_mem_zip hv).1,if_neg hk];simp
 | p::P,w::vs,i+1,m,nd,h1,h2,hk=>by
  show bindC kindOf ((p,w)::P.zip vs) m x=_
  unfold bindC;exact t7 (i:=i) (List.nodup_cons.mp nd).2 (by simpa using h1) (by simpa using h2) hk
def nK (N:List Str)(vs:List V):St:=vs.map some++List.replicate (N.length-vs.length) none
def qW (CX:vW)(P:Program)(w:World)(K:PySem.W.Frag)(mg:Str->Option Value)(base:Heap)(N:List Str)(qual:Str)(scope:Scope)(f:Addr)(cd:Value)(A:Around)(outer:List Env)(s:Shared)(H:Hp)(E:XK):Cx where
 prog:=P
 w:=w
 K:=K
 mg:=mg
 base:=base
 A:=A.deeper (envOfC qual scope s.heap.objs.size f cd)
 N:=N
 s₀:=s
 H₀:=H
 env:=envOfC qual scope s.heap.objs.size f cd
 outer:=outer
 stack:=envOfC qual scope s.heap.objs.size f cd::outer
 ex:=[]
 calm:=true
 fn:=fun _=>true
 pn:=[]
 xe:=fun e s'=>wpAny (model P w) (A.deeper (envOfC qual scope s.heap.objs.size f cd)) (leaving (envOfC qual scope s.heap.objs.size f cd) e) (fun _ s''=>CX outer H s E e s'') (fun e' s''=>CX outer H s E e' s'') s'
theorem wq {sc:Scope}{n:Nat}{x:Str}(h:sc.names.lookup x=some .cell):∃ c,(cellsFrom n sc.names []).lookup x=some c:=by
 have q:=PySem.W.cellsFrom_some sc.names n [] (.inl h);exact Option.isSome_iff_exists.mp q
theorem AA {CX:vW}{P:Program}{w:World}{K:PySem.W.Frag}{mg:Str->Option Value}{base:Heap}{N ps:List Str}{qual:Str}{scope:Scope}{f:Addr}{cd:Value}{A:Around}{outer:List Env}{s s1:Shared}{H:Hp}{E:XK}{us:List Value}{vs:List V}
  (S:ax N ps scope) (hd:A.handled=none) (e0:xW P w K mg base A outer s H) (hl:vs.length=ps.length) (r:bt vs us)
  (x:InCallC s s.heap.objs.size (bindL (envOfC qual scope s.heap.objs.size f cd).kindOf (ps.zip us) fun _=>none) (cellsFrom (s.heap.objs.size+1) scope.names []) (bindC (envOfC qual scope s.heap.objs.size f cd).kindOf (ps.zip us) fun _=>none) s1) :
  aE (qW CX P w K mg base N qual scope f cd A outer s H E) [] (nK N vs) H s1:=by
 have hpl:ps.length<=N.length:=by have:=congrArg List.length S.pre;rw[List.length_take]at this;omega
 obtain⟨h1,tk,rfl,hk⟩:=x.done;have noA:∀ b:Addr,b∉(qW CX P w K mg base N qual scope f cd A outer s H E).ex:=fun b z=>absurd (show b∈([]:List Addr) from z) (by simp)
 refine⟨⟨e0.mod,S.kind,rfl,rfl,Nat.le_refl _,fun y z c h1 h2=>?_,fun y hy=>?_,fun y c _ h=>?_,fun _=>hd,Around.frames_deeper e0.frames,.inr ⟨rfl,rfl⟩,fun b z=>absurd z (noA b),e0.bs,e0.bsz,fun b _ _=>noA b,fun b z=>absurd z (noA b),e0.funs,e0.frf⟩,
  rfl,e0.bare,Un.kept hk,⟨_,x.toInCall.ns,fun i y v h1 h2 h3=>?_⟩,fun y c h=>⟨_,x.cell y c h⟩,e0.hok.fresh (Nat.le_refl _),fun y c h=>?_,fun p hp=>absurd (show p∈([]:List (Addr×Obj)) from hp) (by simp),e0.hok.kept hk,?_⟩
 ·exact name_of_addr x.apart (PySem.mem_of_lookup h1) (PySem.mem_of_lookup h2)
 ·have hy:scope.names.lookup y=some .cell\/scope.names.lookup y=some .free:=hy
  rcases hy with hy | hy
  ·exact wq hy
  ·exact absurd rfl (S.nofree _ (PySem.mem_of_lookup hy))
 ·exact Nat.le_of_lt (x.above y c (PySem.mem_of_lookup h))
 ·have hi:i<vs.length:=by
   unfold nK at h2
   by_cases hi:i<vs.length
   ·exact hi
   ·rw[List.getElem?_append_right (by simpa using hi)]at h2
    rw[List.getElem?_replicate]at h2;split at h2<;>cases h2
  have ha:vs[i]? = some v:=by
   unfold nK at h2;rw[List.getElem?_append_left (by simpa using hi),List.getElem?_map]at h2
   cases e:vs[i]? with
   | none=>rw[e]at h2;cases h2
   | some a=>rw[e]at h2;cases h2;rfl
  obtain⟨u,hu,rv⟩:=r.get ha
  have hp:ps[i]? = some y:=by
   rw[<-S.pre,List.getElem?_take_of_lt (by omega)];exact h1
  have ndP:ps.Nodup:=by rw[<-S.pre];exact S.nd.sublist (List.take_sublist _ _)
  refine⟨u,rv,?_⟩;rcases S.par y (List.mem_of_getElem? hp) with k | k
  ·exact .inl ⟨k,uc ndP hp hu k⟩
  ·obtain⟨c,e⟩:=wq (n:=s.heap.objs.size+1) k
   refine .inr ⟨.inl k,c,e,?_⟩;have q:=x.cell y c e;rw[t7 ndP hp hu (by show scope.names.lookup y≠_;rw[k];decide)]at q;exact q
 ·exact e0.hok.fresh (Nat.le_of_lt (x.above y c (PySem.mem_of_lookup h)))
 ·unfold nK
  show _=N.length
  rw[List.length_append,List.length_map,List.length_replicate];omega
theorem EC {CX:vW}{P:Program}{w:World}{K:PySem.W.Frag}{mg:Str->Option Value}{base:Heap}{k:Nat}{f:Addr}{name qual:Str}{params:Arguments}{body:List Stmt}{scope:Scope}{dV kV doc pm cdv ct oc:Value}{an od:Option Addr}
  {osl:Array (Option Value)} {N ps:List Str} {sp:Sp} (lk:K.lookup f=some ⟨oc,od,.func (PySem.W.fnOf name qual params body scope dV kV doc pm an cdv ct),osl⟩) (hcd:PySem.W.codeIn K cdv qual=true) (S:ax N ps scope)
  (len:∀ vs H Q E,sp vs H Q E->vs.length=ps.length)
  (hbody:∀ (A:Around)(outer:List Env)(s:Shared)(H:Hp)(vs:List V)(Q:VK)(E:XK),cQ k (A.deeper (envOfC qual scope s.heap.objs.size f cdv))->sp vs H Q E ->
   ∃ t,xT (qW CX P w K mg base N qual scope f cdv A outer s H E) body t/\t { nx:=fun _ H'=>Q .non H',rt:=Q } (nK N vs) H) :
  bb P w K mg base CX (k+1) f (PySem.W.fnOf name qual params body scope dV kV doc pm an cdv ct) ps sp:=by
 refine⟨len,fun A outer s H args us vs Q E hr e0 hb r hsp=>?_⟩;have hl:=len _ _ _ _ hsp;have KX:K.In s.heap:=e0.mod.kin.keeps fun b o e=>(e0.bs b o e).1;have lim:s.heap.NoLimit:=e0.mod.nolimit.keeps fun b o e=>(e0.bs b o e).1
 have hkind:∀ y∈ps.zip us,scope.names.lookup y.1=some .local\/(scope.names.lookup y.1=some .cell/\((cellsFrom (s.heap.objs.size+1) scope.names []).lookup y.1).isSome=true):=fun ⟨n,v⟩ hy=>by
  rcases S.par n (List.of_mem_zip hy).1 with q | q
  ·exact .inl q
  ·exact .inr ⟨q,PySem.W.cellsFrom_some _ _ _ (.inl q)⟩
 refine codeAny_call_function hr.depth (KX _ _ lk) rfl S.co S.gen rfl (PySem.W.codeRec_of KX hcd) (hb _ _ _ _ ?_);refine wpAny_newFunctionEnv_cells S.kind hkind fun env he s1 x=>?_;subst he;refine⟨lim.keeps x.toInCall.keep,codeAny_func ?_⟩;obtain⟨t,ht,hq⟩:=hbody A outer s H vs Q E (hr.deeper _) hsp;have I:aE (qW CX P w K mg base N qual scope f cdv A outer s H E) [] (nK N vs) H s1:=AA S hr.hd e0 hl r x;refine wpAny_mono (ht [] s1 (nK N vs) H _ I hq) (fun fl s' hs=>?_) fun e s' hs=>hs
 have fin:∀ {σ':St}{H':Hp}{v:V}{u:Value},aE (qW CX P w K mg base N qual scope f cdv A outer s H E) [] σ' H' s'->bi v u->Q v H'->CE outer P w H s Q u s' :=
  fun {σ' H' v u} J rv q=>⟨v,H',J.os,J.bare,J.base,J.hok,rv,q⟩
 cases fl with
 | ret u =>
  obtain⟨v,σ',H',J,rv,q⟩:=hs;exact fin J rv q
 | next =>
  obtain⟨σ',H',J,q⟩:=hs;exact fin (v:=V.non) (u:=Value.none) J rfl q
 | brk =>
  obtain⟨_,_,_,q⟩:=hs;exact False.elim q
 | cont =>
  obtain⟨_,_,_,q⟩:=hs;exact False.elim q
section
variable {X:Cx}{x:Str}{p pos:Pos}{e:Expr}{es:List Expr}{t:TA}{id T:String}{r:List V->Hp->VK->Prop}
def Hx (r:List V->Hp->VK->Prop)(t:TA):TE:=fun σ H Q=>t σ H fun vs H1=>r vs H1 Q
theorem bu (hc:jK X (.builtin id) r)(hg:Gl X x)(hm:X.mg x=none)(hv:bootBuiltins x=some (.builtin id))(ha:PA X (e::es) t)(hn:x≠"__name__":=by decide)(hdb:(x == ("__debug__" : Str))=false:=by decide)
  (he:starEach (e::es) X.env=(false,eval e X.env)::starEach es X.env:=by rfl) (hpl:(backTo pos (starEach es X.env)).any (·.1)=false:=by rfl):PE X (.Call (.Name x p) (e::es) [] pos) (Hx r t):=by
 intro pins s σ H Q I h;refine wpAny_Call_Name_kw (lI I hg hm hv ?_ hn hdb);exact PyProof.Rows.callWith_builtin1 (bA (ha pos pins s σ H _ I h) fun us s1 ⟨vs,H1,I1,r1,q1⟩=>hc pins s1 σ H1 vs us Q I1 r1 q1) he hpl
theorem A7 (hc:jK X (.type T) r)(hg:Gl X x)(hm:X.mg x=none)(hv:bootBuiltins x=some (.type T))(ha:PA X (e::es) t)(hn:x≠"__name__":=by decide)(hdb:(x == ("__debug__" : Str))=false:=by decide)
  (he:starEach (e::es) X.env=(false,eval e X.env)::starEach es X.env:=by rfl) (hpl:(backTo pos (starEach es X.env)).any (·.1)=false:=by rfl):PE X (.Call (.Name x p) (e::es) [] pos) (Hx r t):=by
 intro pins s σ H Q I h;refine wpAny_Call_Name_kw (lI I hg hm hv ?_ hn hdb);exact PyProof.Rows.callWith_type1 (bA (ha pos pins s σ H _ I h) fun us s1 ⟨vs,H1,I1,r1,q1⟩=>hc pins s1 σ H1 vs us Q I1 r1 q1) he hpl
theorem yL (hc:jK X (.type T) r)(hg:Gl X x)(hm:X.mg x=none)(hv:bootBuiltins x=some (.type T))(hn:x≠"__name__":=by decide)(hdb:(x == ("__debug__" : Str))=false:=by decide) :
  PE X (.Call (.Name x p) [] [] pos) (Hx r qo):=by
 intro pins s σ H Q I h;refine wpAny_Call_Name_kw (lI I hg hm hv ?_ hn hdb);exact PyProof.Rows.callWith_type0 (hc pins s σ H [] [] Q I .nil h)
end
end L2
namespace HT
open PySem PyProof.Rows
section
open PySem.SeqAt
open PySem.AutoSeq1 (wpAny_loadPart')
open PySem.MeetsSeq PySem.MeetsSeq2 PySem.MeetsSeq3
end
section
variable {prog:Program}{w:World}{A:Around}{E:Value->Shared->Prop}{s:Shared}
def sIx (n d:Nat):Option Int->Nat
 | none=>d
 | some v=>if v<0 then (v+(n:Int)).toNat else min v.toNat n
theorem sIx_none (n d:Nat):sIx n d none=d:=rfl
theorem sIx_nat (n d k:Nat):sIx n d (some (k:Int))=min k n:=by
 show (if (k:Int)<0 then ((k:Int)+(n:Int)).toNat else min (k:Int).toNat n)=min k n
 rw[if_neg (by omega),Int.toNat_natCast]
theorem Fu (n d:Nat)(hd:d<=n)(o:Option Int):sIx n d o<=n:=by
 cases o with
 | none=>exact hd
 | some v =>
  show (if v<0 then (v+(n:Int)).toNat else min v.toNat n)<=n
  by_cases hv:v<0
  ·rw[if_pos hv];omega
  ·rw[if_neg hv];exact Nat.min_le_right _ _
theorem zm (v:Int)(n d:Nat):(if v<0 then max (v+(n:Int)) 0 else min v (n:Int))=((sIx n d (some v):Nat):Int):=by
 show (if v<0 then max (v+(n:Int)) 0 else min v (n:Int))=(((if v<0 then (v+(n:Int)).toNat else min v.toNat n):Nat):Int)
 by_cases hv:v<0
 ·simp only[if_pos hv];omega
 ·simp only[if_neg hv];omega
theorem x0 (lo hi:Option Int)(n:Nat):Builtin.Slice.sliceAdjust lo hi 1 (n:Int)=(((sIx n 0 lo:Nat):Int),((sIx n n hi:Nat):Int)):=by
 have h1:¬ ((1:Int)<0):=by omega
 unfold Builtin.Slice.sliceAdjust;simp only[h1,if_false];refine Prod.ext ?_ ?_
 ·cases lo with
  | none=>rfl
  | some v=>exact zm v n 0
 ·cases hi with
  | none=>rfl
  | some v=>exact zm v n n
theorem yO (i j:Nat):Builtin.Slice.slicePlaces (i:Int) (j:Int) 1=j-i:=by
 unfold Builtin.Slice.slicePlaces
 have h1:(1:Int)>0:=by omega
 simp only[h1,if_true,Int.ediv_one];split<;>omega
theorem sr {v:Value}{o:Option Int}{Q:Option Int->Shared->Prop}(p:IsPart v o)(h:Q o s):wpAny (model prog w) A (Builtin.Slice.slicePartIndex v) Q E s:=by
 cases p with
 | none=>exact slicePart_none h
 | int i t=>exact slicePart_int h
theorem o0 {sl:Addr}{vl vu:Value}{lo hi:Option Int}{n:Nat}{Q:Int×Int×Nat->Shared->Prop}(hs:s.heap.IsSliceOf sl vl vu .none)(pl:IsPart vl lo)(pu:IsPart vu hi)
  (h:Q (((sIx n 0 lo:Nat):Int),1,sIx n n hi-sIx n 0 lo) s):wpAny (model prog w) A (Builtin.Slice.sliceApplied (.ref sl) (pure (n:Int))) Q E s:=by
 obtain⟨os,hos,hcs,hds⟩:=id hs;unfold Builtin.Slice.sliceApplied Builtin.Slice.sliceFields;refine wpAny_bind (wpAny_bind (wpAny_field hos hds (x:=vl) rfl (wpAny_bind (wpAny_field hos hds (x:=vu) rfl (wpAny_bind (wpAny_field hos hds (x:=.none) rfl (wpAny_pure ?_)))))));refine wpAny_bind (slicePart_none ?_)
 show wpAny _ _ (if ((1:Int) == 0)=true then _ else _) _ _ s
 rw[if_neg (by decide)];refine wpAny_bind (sr pl (wpAny_bind (sr pu (wpAny_bind (wpAny_pure ?_)))))
 show wpAny _ _ (match Builtin.Slice.sliceAdjust lo hi 1 (n:Int) with | (lo,hi)=>pure (lo,(1:Int),Builtin.Slice.slicePlaces lo hi 1)) _ _ s
 rw[x0 lo hi n]
 show wpAny _ _ (pure (((sIx n 0 lo:Nat):Int),(1:Int),Builtin.Slice.slicePlaces ((sIx n 0 lo:Nat):Int) ((sIx n n hi:Nat):Int) 1)) _ _ s
 rw[yO];exact wpAny_pure h
theorem CO (xs:Array Value)(i k:Nat):((List.range k).filterMap fun (m:Nat)=>xs[((i:Int)+(m:Int)*1).toNat]?).toArray=((xs.toList.drop i).take k).toArray:=by
 have e:(fun (m:Nat)=>xs[((i:Int)+(m:Int)*1).toNat]?)=fun m=>xs[i+m]?:=by
  funext m
  have:((i:Int)+(m:Int)*1).toNat=i+m:=by omega
  rw[this]
 rw[e];have:=pick_run xs i k;rw[List.filterMap_map]at this;have e2:((fun x=>xs[x]?) ∘ fun x=>i+x)=fun m=>xs[i+m]?:=rfl;rw[e2]at this;rw[this]
theorem getItem_tuple_cut {t sl:Addr}{items:Array Value}{vl vu:Value}{lo hi:Option Int}{Q:Value->Shared->Prop}(ht:IsTup s.heap t items)(hs:s.heap.IsSliceOf sl vl vu .none)(pl:IsPart vl lo)(pu:IsPart vu hi)
  (hw:¬ (sIx items.size 0 lo=0/\sIx items.size items.size hi=items.size))
  (h:Q (.ref s.heap.objs.size) { s with heap:=s.heap.push { cls:=.type "tuple",data:=.seq ((items.toList.drop (sIx items.size 0 lo)).take (sIx items.size items.size hi-sIx items.size 0 lo)).toArray } })
  (hsz:items.size<=sizeLine):wpAny (model prog w) A (getItem (.ref t) (.ref sl)) Q E s:=by
 have htake:sizeOk (.seq ((items.toList.drop (sIx items.size 0 lo)).take (sIx items.size items.size hi-sIx items.size 0 lo)).toArray):=by
  show ((items.toList.drop (sIx items.size 0 lo)).take (sIx items.size items.size hi-sIx items.size 0 lo)).toArray.size<=sizeLine
  rw[List.size_toArray,List.length_take,List.length_drop,Array.length_toList];omega
 have hj:sIx items.size items.size hi<=items.size:=Fu _ _ (Nat.le_refl _) hi;obtain⟨os,hos,hcs,hds⟩:=id hs;have hTs:s.TypeIs (.ref sl) "slice":=⟨os,hos,hcs⟩;unfold getItem
 try with_reducible refine wpAny_holding ?_
 first | refine wpAny_bind (wpAny_pure ?_) | skip
 refine wpAny_bind (wpAny_sequenceKey ht.typeIs (by decide) ?_)
 refine wpAny_bind (wpAny_callSpecial?_slot (name:=Str.ofString "__getitem__") ht.typeIs PyProof.Rows.slot_tuple_getitem
  (wpAny_call_entry PyProof.Rows.slot_tuple_getitem ht.typeIs entry_tuple_getitem ?_ (args_tuple_getitem _ _)))
 show wpAny _ _ (Builtin.Tuple.tupleItemsOf (.ref t) >>= _) _ _ s
 refine wpAny_bind (tupleItemsOf_ ht ?_);refine wpAny_bind (wpAny_typeOf hTs ?_);rw[if_pos (by decide)];refine wpAny_bind (o0 hs pl pu ?_)
 have hno:¬ ((((sIx items.size 0 lo:Nat):Int) == 0&&(1:Int) == 1&&(sIx items.size items.size hi-sIx items.size 0 lo) == items.size)=true):=by
  intro q;rw[Bool.and_eq_true,Bool.and_eq_true]at q;have q1:((sIx items.size 0 lo:Nat):Int)=0:=eq_of_beq q.1.1;have q2:sIx items.size items.size hi-sIx items.size 0 lo=items.size:=eq_of_beq q.2;exact hw ⟨by omega,by omega⟩
 show wpAny _ _ (if (((sIx items.size 0 lo:Nat):Int) == 0&&(1:Int) == 1&&(sIx items.size items.size hi-sIx items.size 0 lo) == items.size)=true then _ else _) _ _ s
 rw[if_neg hno,CO]
 first
  | exact wpAny_bind (m:=Builtin.Tuple.tupleExact _) (wpAny_newObj_type (wpAny_pure ⟨_,rfl,wpAny_pure h⟩) htake)
  | exact wpAny_bind (m:=Builtin.Tuple.tupleExact _) (wpAny_newObj_type (wpAny_bind (wpAny_pure (wpAny_pure ⟨_,rfl,wpAny_pure h⟩))) htake)
  | exact wpAny_bind (wpAny_bind (m:=Builtin.Tuple.tupleExact _) (wpAny_newObj_type (wpAny_pure (wpAny_pure ⟨_,rfl,wpAny_pure h⟩)) htake))
  | exact wpAny_bind (wpAny_bind (m:=Builtin.Tuple.tupleExact _) (wpAny_newObj_type (wpAny_pure ⟨_,rfl,wpAny_pure h⟩) htake))
end
end HT
namespace L2
open PySem PySem.Spec PyProof.Rows
abbrev TO:=St->Hp->(Option Int->Hp->Prop)->Prop
def PO (X:Cx)(e:Option Expr)(t:TO):Prop :=
 ∀ (pins:List (Addr×Obj))(s:Shared)(σ:St)(H:Hp)(Q:Option Int->Hp->Prop),aE X pins σ H s->t σ H Q ->
  wpAny (model X.prog X.w) X.A (evalPart e X.env) (fun u s'=>∃ o H',aE X pins σ H' s'/\IsPart u o/\Q o H') X.xe s
def z8:TO:=fun _ H Q=>Q none H
def GM (t:TE):TO:=fun σ H Q=>t σ H fun x H1=>∃ i,x=.int i/\Q (some i) H1
section
variable {X:Cx}{e:Expr}{te:TE}{lo hi:Option Expr}{tl th:TO}{pos p2:Pos}
theorem fV:PO X none z8:=by
 intro pins s σ H Q I h;rw[evalPart_none];exact wpAny_pure ⟨none,H,I,.none,h⟩
theorem eG (h:PE X e te):PO X (some e) (GM te):=by
 intro pins s σ H Q I hw;rw[evalPart_some];refine bA (h pins s σ H _ I hw) fun u s1 ⟨x,H1,I1,r1,q1⟩=>?_;obtain⟨i,rfl,q⟩:=q1;obtain⟨t,rfl⟩:=r1;exact⟨some i,H1,I1,.int i t,q⟩
def G9 (X:Cx)(r:V->Option Int->Option Int->Hp->VK->Prop):Prop :=
 ∀ (pins:List (Addr×Obj))(s:Shared)(σ:St)(H:Hp)(x:V)(v vl vu:Value)(lo hi:Option Int)(sl:Addr)(Q:VK),aE X pins σ H s->bi x v->s.heap.IsSliceOf sl vl vu .none->IsPart vl lo->IsPart vu hi->r x lo hi H Q ->
  ∃ T id,typeLookup (.type T) "__getitem__" = pure (some (.builtin id))/\s.TypeIs v T/\wpAny (model X.prog X.w) X.A (getItem v (.ref sl)) (EP X pins σ Q) X.xe s
def Ij (r:V->Option Int->Option Int->Hp->VK->Prop)(te:TE)(tl th:TO):TE:=fun σ H Q=>te σ H fun x H1=>tl σ H1 fun l H2=>th σ H2 fun u H3=>r x l u H3 Q
theorem dG {r:V->Option Int->Option Int->Hp->VK->Prop}(hr:G9 X r)(he:PE X e te)(hl:PO X lo tl)(hu:PO X hi th):PE X (.Subscript e (.Slice lo hi none p2) pos) (Ij r te tl th):=by
 intro pins s σ H Q I h;refine Subscript_ (bA (he pins s σ H _ I h) fun v s1 ⟨x,H1,I1,r1,q1⟩=>?_);refine wpAny_Slice (bA (hl pins s1 σ H1 _ I1 q1) fun vl s2 ⟨l,H2,I2,pl,q2⟩=>bA (hu pins s2 σ H2 _ I2 q2) fun vu s3 ⟨u,H3,I3,pu,q3⟩=>?_);rw[evalPart_none];refine wpAny_pure ?_;have I4:aE X pins σ H3 { s3 with heap:=s3.heap.push { cls:=.type "slice",data:=.fields #[vl,vu,.none] } }:=I3.kept (t':=s3.toks) fun b ob q=>Heap.get?_push_of_some _ q;obtain⟨T,id,hT,ht,hg⟩:=hr pins { s3 with heap:=s3.heap.push { cls:=.type "slice",data:=.fields #[vl,vu,.none] } } σ H3 x v vl vu l u s3.heap.objs.size Q I4 r1 (Heap.IsSliceOf.new ..) pl pu q3
 show wpAny (model X.prog X.w) X.A (subscriptTail e (.Slice lo hi none p2) v (.ref s3.heap.objs.size)) (EP X pins σ Q) X.xe { s3 with heap:=s3.heap.push { cls:=.type "slice",data:=.fields #[vl,vu,.none] } }
 exact tail_any (ops:=[.ref s3.heap.objs.size,v]) ht hT hg (by with_unfolding_all rfl)
def gv (xs:List V)(lo hi:Option Int):List V:=(xs.drop (HT.sIx xs.length 0 lo)).take (HT.sIx xs.length xs.length hi-HT.sIx xs.length 0 lo)
theorem pP (xs:List V)(lo hi:Option Int):(gv xs lo hi).length<=xs.length:=by
 unfold gv;rw[List.length_take,List.length_drop];omega
def Ht (K:PySem.W.Frag):V->Option Int->Option Int->Hp->VK->Prop:=fun x lo hi H Q=>∃ a xs,x=.ref a/\eP K H a xs /\
 ¬ (HT.sIx xs.length 0 lo=0/\HT.sIx xs.length xs.length hi=xs.length)/\∀ p,H p=none->Q (.ref p) (upd H p (.tup (gv xs lo hi)))
theorem Fx:G9 X (Ht X.K):=by
 intro pins s σ H x v vl vu lo hi sl Q I rx hs pl pu h;obtain⟨a,xs,rfl,hx,hw,q⟩:=h;cases rx;obtain⟨its,r,ht,hz⟩:=I.tuple hx
 have hlen:its.toArray.size=xs.length:=by rw[List.size_toArray];exact r.length.symm
 refine⟨"tuple",_,PyProof.Rows.slot_tuple_getitem.lookup,ht.typeIs,?_⟩;refine HT.getItem_tuple_cut ht hs pl pu (by rw[hlen];exact hw) ?_ (by rw[hlen];exact hz);rw[hlen];refine⟨.ref s.heap.objs.size,_,I.laid (t':=s.toks) (o:=.tup (gv xs lo hi)) (fun b ob q=>Heap.get?_push_of_some _ q) (Nat.le_refl _) ?_,rfl,q _ (I.hok.fresh (Nat.le_refl _))⟩;exact⟨Nat.le_trans (pP xs lo hi) hz,_,(r.drop (HT.sIx xs.length 0 lo)).take (HT.sIx xs.length xs.length hi-HT.sIx xs.length 0 lo),IsTup.new _ _⟩
end
def EE (n:Nat)(i:Int):Option Nat:=if 0<=i then (if i<n then some i.toNat else none) else if -(n:Int)<=i then some (i+n).toNat else none
def xU {α:Type}(xs:List α)(i:Int):Option α:=(EE xs.length i).bind fun j=>xs[j]?
theorem DS {n:Nat}{i:Int}{j:Nat}(h:EE n i=some j):seqIndex? i n=some j/\j<n/\-(n:Int)<=i/\i<n:=by
 unfold EE at h
 by_cases h0:0<=i
 ·rw[if_pos h0]at h
  by_cases h1:i<n
  ·rw[if_pos h1]at h
   have e:i.toNat=j:=Option.some.inj h;exact⟨by rw[seqIndex_of h0 h1,e],by omega,by omega,h1⟩
  ·rw[if_neg h1]at h;cases h
 ·rw[if_neg h0]at h
  by_cases h1 : -(n:Int)<=i
  ·rw[if_pos h1]at h
   have e:(i+n).toNat=j:=Option.some.inj h;exact⟨by rw[seqIndex_neg (by omega) h1,e],by omega,h1,by omega⟩
  ·rw[if_neg h1]at h;cases h
theorem zk {α:Type}{xs:List α}{i:Int}{v:α}(h:xU xs i=some v):∃ j,seqIndex? i xs.length=some j/\xs[j]? = some v/\j<xs.length/\-(xs.length:Int)<=i/\i<xs.length:=by
 unfold xU at h
 cases e:EE xs.length i with
 | none=>rw[e]at h;cases h
 | some j =>
  rw[e]at h;obtain⟨h1,h2,h3,h4⟩:=DS e;exact⟨j,h1,h,h2,h3,h4⟩
theorem fT {α:Type}{xs:List α}{j:Nat}{v:α}(h:xs[j]? = some v):xU xs (j:Int)=some v:=by
 have hj:j<xs.length:=(List.getElem?_eq_some_iff.mp h).1
 have e:EE xs.length (j:Int)=some j:=by
  unfold EE;rw[if_pos (by omega),if_pos (by omega)];simp
 unfold xU;rw[e];exact h
theorem mF {α:Type}(xs:List α)(v:α):xU (xs++[v]) (-1)=some v:=by
 have hl:(xs++[v]).length=xs.length+1:=by simp
 have e:EE (xs++[v]).length (-1)=some xs.length:=by
  unfold EE;rw[hl,if_neg (by decide),if_pos (by omega)]
  congr 1
  omega
 unfold xU;rw[e]
 show (xs++[v])[xs.length]? = some v
 simp
def DC (b:Expr):Prop:=∀ o i,subscripted b false o i=operate [o,i] (getItem o i)
def Ga (X:Cx)(r:R2):Prop :=
 ∀ (value slice:Expr)(pins:List (Addr×Obj))(s:Shared)(σ:St)(H:Hp)(x y:V)(v u:Value)(Q:VK),aE X pins σ H s->bi x v->bi y u->r x y H Q ->
  subscripted slice false v u=operate [v,u] (getItem v u)->wpAny (model X.prog X.w) X.A (subscriptTail value slice v u) (EP X pins σ Q) X.xe s
def HV (X:Cx)(id:String)(r:V->List V->Hp->VK->Prop):Prop :=
 ∀ (pins:List (Addr×Obj))(s:Shared)(σ:St)(H:Hp)(x:V)(xs:List V)(v:Value)(us:List Value)(Q:VK),aE X pins σ H s->bi x v->bt xs us->r x xs H Q ->
  wpAny (model X.prog X.w) X.A (call (.builtin id) (v::us)) (EP X pins σ Q) X.xe s
section
variable {X:Cx}{a b:Expr}{ta tb:TE}{pos:Pos}
theorem bv {r:R2}(hr:Ga X r)(ha:PE X a ta)(hb:PE X b tb)(hs:DC b):PE X (.Subscript a b pos) (F0 r ta tb):=by
 intro pins s σ H Q I h;exact Subscript_ (E5 ha hb I h fun v u s2 x y H2 I2 rx ry q=>hr a b pins s2 σ H2 x y v u Q I2 rx ry q (hs _ _))
def GB (K:PySem.W.Frag):R2:=fun x y H Q=>∃ p xs i v,x=.ref p/\y=.int i/\aW K H p xs/\xU xs i=some v/\Q v H
def Ek (K:PySem.W.Frag):R2:=fun x y H Q=>∃ p xs i v,x=.ref p/\y=.int i/\eP K H p xs/\xU xs i=some v/\Q v H
theorem fu:Ga X (GB X.K):=by
 intro value slice pins s σ H x y v u Q I rx ry h hs;obtain⟨p,xs,i,z,rfl,rfl,hq,he,q⟩:=h;cases rx;obtain⟨t,rfl⟩:=ry;obtain⟨its,r,pl,hz⟩:=I.list hq;obtain⟨j,h1,h2,h3,h4,h5⟩:=zk he;obtain⟨w,ew,rw'⟩:=r.get h2;have hl:=r.length;have hn:=u6;have fin:EP X pins σ Q w s:=⟨z,H,I,rw',q⟩
 by_cases h0:0<=i
 ·have hj:i.toNat=j:=by
   rw[seqIndex_of h0 h5]at h1;exact Option.some.inj h1
  exact item_listR pl.isList h0 (by omega) (by rw[hj];simpa using ew) fin hs
 ·have hj:(i+(its.toArray.size:Int)).toNat=j:=by
   rw[seqIndex_neg (by omega) h4]at h1;rw[List.size_toArray,<-hl];exact Option.some.inj h1
  exact subscriptTail_builtinR (x:=w) pl.isList.typeIs slot_list_getitem.lookup
   (wpAny_getItem_list_neg (Q:=fun r s'=>r=w/\EP X pins σ Q r s') pl.isList (by omega) (by rw[List.size_toArray]<;>omega) (by omega) (by rw[hj];simpa using ew) ⟨rfl,fin⟩) hs
theorem bw:Ga X (Ek X.K):=by
 intro value slice pins s σ H x y v u Q I rx ry h hs;obtain⟨p,xs,i,z,rfl,rfl,hq,he,q⟩:=h;cases rx;obtain⟨t,rfl⟩:=ry;obtain⟨its,r,pl,hz⟩:=I.tuple hq;obtain⟨j,h1,h2,h3,h4,h5⟩:=zk he;obtain⟨w,ew,rw'⟩:=r.get h2;have hl:=r.length;have hn:=u6;have fin:EP X pins σ Q w s:=⟨z,H,I,rw',q⟩
 exact subscriptTail_builtinR (x:=w) pl.typeIs slot_tuple_getitem.lookup
  (getItem_tuple (j:=j) (Q:=fun r s'=>r=w/\EP X pins σ Q r s') pl (by omega) (by omega) (by rw[List.size_toArray,<-hl];exact h1) (by simpa using ew) ⟨rfl,fin⟩) hs
theorem vF (lo hi:Option Int)(n:Nat):(sliceBounds lo hi none n).1=((HT.sIx n 0 lo:Nat):Int)/\(sliceBounds lo hi none n).2.1=((HT.sIx n n hi:Nat):Int)/\(sliceBounds lo hi none n).2.2=1:=by
 refine⟨?_,?_,rfl⟩
 ·cases lo with
  | none=>simp[sliceBounds,HT.sIx]
  | some i =>
   simp only[sliceBounds,HT.sIx,Option.getD_none,show (1:Int)>0 by decide,if_true]
   by_cases h:i<0
   ·simp only[h,if_true]<;>omega
   ·simp only[h,if_false]<;>omega
 ·cases hi with
  | none=>simp[sliceBounds,HT.sIx]
  | some i =>
   simp only[sliceBounds,HT.sIx,Option.getD_none,show (1:Int)>0 by decide,if_true]
   by_cases h:i<0
   ·simp only[h,if_true]<;>omega
   ·simp only[h,if_false]<;>omega
theorem tM (its:List Value)(lo hi:Option Int):slicePick its.toArray lo hi none=((its.drop (HT.sIx its.length 0 lo)).take (HT.sIx its.length its.length hi-HT.sIx its.length 0 lo)).toArray:=by
 obtain⟨h1,h2,h3⟩:=vF lo hi its.toArray.size;unfold slicePick;rw[h1,h2,h3];simp only[sliceRange_one,pick_run,List.size_toArray]<;>rfl
def Hs (K:PySem.W.Frag):V->Option Int->Option Int->Hp->VK->Prop:=fun x lo hi H Q=>∃ a xs,x=.ref a/\aW K H a xs/\∀ p,H p=none->Q (.ref p) (upd H p (.lst (gv xs lo hi)))
theorem fZ:G9 X (Hs X.K):=by
 intro pins s σ H x v vl vu lo hi sl Q I rx hs pl pu h;obtain⟨a,xs,rfl,hx,q⟩:=h;cases rx;obtain⟨its,r,ht,hz⟩:=I.list hx;have hlen:=r.length;refine⟨"list",_,slot_list_getitem.lookup,ht.isList.typeIs,?_⟩;refine wpAny_getItem_list_slice ht.isList hs pl pu .none (by simp) ?_ (by rw[List.size_toArray]<;>omega);rw[tM,<-hlen];refine⟨.ref s.heap.objs.size,_,I.laid (t':=s.toks) (o:=.lst (gv xs lo hi)) (fun b ob q=>Heap.get?_push_of_some _ q) (Nat.le_refl _) ?_,rfl,q _ (I.hok.fresh (Nat.le_refl _))⟩;exact⟨Nat.le_trans (pP xs lo hi) hz,_,0,(r.drop (HT.sIx xs.length 0 lo)).take (HT.sIx xs.length xs.length hi-HT.sIx xs.length 0 lo),Heap.get?_push_size _ rfl⟩
def BT:V->Bool
 | .non=>true
 | .bl _=>true
 | .int _=>true
 | .str _=>true
 | _=>false
def GX:V->V->Bool
 | .non,.non=>true
 | .bl a,.bl b=>a == b
 | .bl a,.int b=>(if a then 1 else 0) == b
 | .int a,.bl b=>a == (if b then 1 else 0)
 | .int a,.int b=>a == b
 | .str a,.str b=>a == b
 | _,_=>false
theorem E8 {A:Around}{s:Shared}{y x:V}{u v:Value}(ry:bi y u)(rx:bi x v)(fy:BT y=true)(fx:BT x=true):SeqAt.EqAt A s u v (GX y x):=by
 cases y with
 | non =>
  cases ry
  cases x with
  | non=>cases rx;exact SeqAt.EqAt.same _
  | bl b=>cases rx;exact SeqAt.EqAt.none_bool b
  | int b=>obtain⟨t,rfl⟩:=rx;exact SeqAt.EqAt.none_int b t
  | str b=>obtain⟨t,rfl⟩:=rx;exact SeqAt.EqAt.none_str b t
  | _=>exact absurd (show false=true from fx) Bool.false_ne_true
 | bl a =>
  cases ry
  cases x with
  | non=>cases rx;exact SeqAt.EqAt.bool_none a
  | bl b=>cases rx;exact SeqAt.EqAt.bool_bool a b
  | int b=>obtain⟨t,rfl⟩:=rx;exact SeqAt.EqAt.bool_int a b t
  | str b=>obtain⟨t,rfl⟩:=rx;exact SeqAt.EqAt.bool_str a b t
  | _=>exact absurd (show false=true from fx) Bool.false_ne_true
 | int a =>
  obtain⟨t',rfl⟩:=ry
  cases x with
  | non=>cases rx;exact SeqAt.EqAt.int_none a t'
  | bl b=>cases rx;exact SeqAt.EqAt.int_bool a t' b
  | int b=>obtain⟨t,rfl⟩:=rx;exact SeqAt.EqAt.int_int a t' b t
  | str b=>obtain⟨t,rfl⟩:=rx;exact SeqAt.EqAt.int_str a t' b t
  | _=>exact absurd (show false=true from fx) Bool.false_ne_true
 | str a =>
  obtain⟨t',rfl⟩:=ry
  cases x with
  | non=>cases rx;exact SeqAt.EqAt.str_none a t'
  | bl b=>cases rx;exact SeqAt.EqAt.str_bool a t' b
  | int b=>obtain⟨t,rfl⟩:=rx;exact SeqAt.EqAt.str_int a t' b t
  | str b=>obtain⟨t,rfl⟩:=rx;exact SeqAt.EqAt.str_str a t' b t
  | _=>exact absurd (show false=true from fx) Bool.false_ne_true
 | _=>exact absurd (show false=true from fy) Bool.false_ne_true
theorem bZ:jK X (.builtin "len") (fun xs H Q=>∃ p ys,xs=[.ref p]/\(aW X.K H p ys\/eP X.K H p ys)/\Q (.int ys.length) H):=by
 intro pins s σ H xs us Q I r h;obtain⟨p,ys,rfl,hq,q⟩:=h;obtain⟨u,rfl,rx⟩:=sN r;cases rx;have hn:=u6;rcases hq with hq | hq
 ·obtain⟨its,r',pl,hz⟩:=I.list hq
  have hlen:=r'.length;exact Calls.call_len_list pl.isList (by simp only[List.size_toArray]<;>omega) ⟨.int ys.length,H,I.tok _,⟨s.toks+1,by rw[List.size_toArray,hlen]⟩,q⟩
 ·obtain⟨its,r',pl,hz⟩:=I.tuple hq
  have hlen:=r'.length;exact len_tuple pl (by simp only[List.size_toArray]<;>omega) ⟨.int ys.length,H,I.tok _,⟨s.toks+1,by rw[List.size_toArray,hlen]⟩,q⟩
theorem uK:jK X (.type "list") (fun xs H Q=>∃ p ys,xs=[.ref p]/\(aW X.K H p ys\/eP X.K H p ys)/\∀ l,H l=none->Q (.ref l) (upd H l (.lst ys))):=by
 intro pins s σ H xs us Q I r h;obtain⟨p,ys,rfl,hq,q⟩:=h;obtain⟨u,rfl,rx⟩:=sN r;cases rx
 have fin:∀ (its:List Value),bt ys its->ys.length<=sizeLine->∀ (h':Heap)(c':Nat),(∀ b o',s.heap.get? b=some o'->h'.get? b=some o') ->
   h'.get? s.heap.objs.size=some { cls:=.type "list",dict:=none,data:=.seq its.toArray c',slots:=#[] }->EP X pins σ Q (.ref s.heap.objs.size) { s with heap:=h' }:=fun its r' hz h' c' kp e =>
  ⟨.ref s.heap.objs.size,_,I.laid (t':=s.toks) kp (Nat.le_refl _) (show bC X.prog X.w _ h' _ (.lst ys) from ⟨hz,its,c',r',e⟩),rfl,q _ (I.hok.fresh (Nat.le_refl _))⟩
 rcases hq with hq | hq
 ·obtain⟨its,r',pl,hz⟩:=I.list hq
  have hlen:=r'.length;obtain⟨o,ho,hc,n,hd⟩:=pl.isList;exact call_list_seq p (.inl rfl) ho hc hd (fun h' c' kp e=>fin its r' hz h' c' kp e) (by simp only[List.size_toArray]<;>omega)
 ·obtain⟨its,r',pl,hz⟩:=I.tuple hq
  have hlen:=r'.length;obtain⟨o,ho,hc,n,hd⟩:=pl;exact call_list_seq p (.inr rfl) ho hc hd (fun h' c' kp e=>fin its r' hz h' c' kp e) (by simp only[List.size_toArray]<;>omega)
def HU (K:PySem.W.Frag)(T:String)(x:V)(H:Hp):Prop:=match x with
 | .str _=>T="str"
 | .int _=>T="int"
 | .ref p=>(T="list"/\∃ xs,aW K H p xs)\/(T="tuple"/\∃ o,K.lookup p=some o/\o.cls=.type "tuple"/\o.dict=none) \/
   (T="dict"/\((∃ kvs,H p=some (.dK kvs))\/∃ kvs,H p=some (.dT kvs)))\/(T="set"/\∃ S n,H p=some (.set S n))
 | _=>False
theorem FS {pins:List (Addr×Obj)}{σ:St}{H:Hp}{s:Shared}{T:String}{x:V}{v:Value}(I:aE X pins σ H s)(r:bi x v)(ty:HU X.K T x H) :
  s.TypeIs v T/\∀ a,v=.ref a->∃ ob,s.heap.get? a=some ob/\ob.dict=none:=by
 cases x with
 | str z =>
  obtain⟨t,rfl⟩:=r;cases (show T="str" from ty);exact⟨typeIs_str s z t,fun _ e=>nomatch e⟩
 | int i =>
  obtain⟨t,rfl⟩:=r;cases (show T="int" from ty);exact⟨typeIs_int s i t,fun _ e=>nomatch e⟩
 | ref p =>
  cases r;rcases ty with ⟨rfl,xs,hq⟩ | ⟨rfl,o,hk,hc,hd⟩ | ⟨rfl,hk⟩ | ⟨rfl,S,n,hk⟩
  ·obtain⟨its,_,pl,_⟩:=I.list hq
   refine⟨pl.isList.typeIs,fun a e=>?_⟩;cases e;obtain⟨o,n,e,c,hd,_⟩:=pl;exact⟨o,e,hd⟩
  ·refine⟨⟨o,I.kIn p o hk,hc⟩,fun a e=>?_⟩
   cases e;exact⟨o,I.kIn _ o hk,hd⟩
  ·have z:∃ o,s.heap.get? p=some o/\o.ExactDict:=by
    rcases hk with ⟨kvs,hk⟩ | ⟨kvs,hk⟩
    ·obtain⟨_,_,_,_,o,_,_,e,ex,_⟩:=I.hok p _ hk
     exact⟨o,e,ex⟩
    ·obtain⟨_,_,_,_,o,_,_,e,ex,_⟩:=I.hok p _ hk
     exact⟨o,e,ex⟩
   obtain⟨o,e,ex⟩:=z;refine⟨⟨o,e,ex.1⟩,fun a e2=>?_⟩;cases e2;exact⟨o,e,ex.2.1⟩
  ·obtain⟨o,_,_,_,e,ex,_⟩:=I.hok p _ hk
   refine⟨⟨o,e,ex.1⟩,fun a e2=>?_⟩;cases e2;exact⟨o,e,ex.2.1⟩
 | _=>exact False.elim ty
def Ie (K:PySem.W.Frag)(T:String)(r:V->List V->Hp->VK->Prop)(to:TE)(t:TA):TE:=fun σ H Q=>to σ H fun x H1=>HU K T x H1/\t σ H1 fun xs H2=>r x xs H2 Q
variable {o e:Expr}{es:List Expr}{to:TE}{t:TA}{name:Str}{apos cpos:Pos}{T id:String}{r:V->List V->Hp->VK->Prop}
theorem dZ (pa:PlainAttrs T)(slot:Slot T name id)(hty:typeOf (.builtin id)=pure (.type "method_descriptor"))(hm:HV X id r)(ho:PE X o to)(ha:PA X (e::es) t)
  (hbase:attributeBase o name X.env (eval o X.env)=eval o X.env:=by rfl)
  (hfew:((backTo cpos (starEach (e::es) X.env)).all (fun x=>!x.1)&&(backToKw cpos (keywordEach [] X.env)).all (fun x=>x.1.isSome)
   && decide ((e::es).length+([]:List Keyword).length+(if ([]:List Keyword).isEmpty then 0 else 1)<30))=true:=by rfl)
  (hline:(apos.endLine == cpos.line)=true:=by rfl) (hs:starEach (e::es) X.env=(false,eval e X.env)::starEach es X.env:=by rfl) (hplain:(backTo cpos (starEach es X.env)).any (·.1)=false:=by rfl) :
  PE X (.Call (.Attribute o name apos) (e::es) [] cpos) (Ie X.K T r to t):=by
 intro pins s σ H Q I h;refine wpAny_Call_method_late hbase hfew hline rfl (bA (ho pins s σ H _ I h) fun v s1 ⟨x,H1,I1,r1,ty,q1⟩=>?_);obtain⟨h1,h2⟩:=FS I1 r1 ty;refine⟨T,id,pa,slot,hty,h1,h2,?_⟩;have hA:=ha cpos pins s1 σ H1 _ I1 q1;rw[hs]at hA ⊢;refine Calls.callWith_builtin (by show (false||(backTo cpos (starEach es X.env)).any (·.1))=false;rw[hplain]<;>rfl) (Calls.evalArgs_plain ?_);exact bA hA fun us s2 ⟨vs,H2,I2,r2,q2⟩=>hm pins s2 σ H2 x vs v us Q I2 r1 r2 q2
end
def G7 (X:Cx)(id:String)(r:V->List V->Hp->VK->Prop):Prop :=
 ∀ (pins:List (Addr×Obj))(s:Shared)(σ:St)(H:Hp)(x:V)(xs:List V)(v:Value)(us:List Value)(Q:VK),aE X pins σ H s->bi x v->bt xs us->r x xs H Q ->
  wpAny (model X.prog X.w) X.A (call (.builtin id) (v::us)) (EP X pins σ Q) X.xe s
theorem bt.one:∀ {x:V}{us:List Value},bt [x] us->∃ u,us=[u]/\bi x u
 | _,_,.cons r .nil=>⟨_,rfl,r⟩
theorem bt.two:∀ {x y:V}{us:List Value},bt [x,y] us->∃ u v,us=[u,v]/\bi x u/\bi y v
 | _,_,_,.cons r (.cons q .nil)=>⟨_,_,rfl,r,q⟩
section
variable {X:Cx}{pins:List (Addr×Obj)}{σ:St}{H:Hp}{s:Shared}{l b:Addr}{xs ys zs:List V}
theorem aE.lset {its its':List Value}{n:Nat}{f:Array Value->Array Value}{t':Nat}(I:aE X pins σ H s)(hH:H l=some (.lst xs))
  (e:s.heap.get? l=some { cls:=.type "list",data:=.seq its.toArray n }) (hf:f its.toArray=its'.toArray) (hv:bt ys its') (hz:ys.length<=sizeLine) :
  aE X pins σ (upd H l (.lst ys)) { s with heap:=s.heap.update l (Obj.mapSeq f),toks:=t' }:=by
 have q:=PySem.IsL.update e f;rw[hf]at q;refine I.write (x:=l) (e:=l) (by rw[hH];exact trivial) (.inl rfl) (fun b' u hb hu=>(Heap.get?_update_other s.heap (Obj.mapSeq f) (Ne.symm hb)).trans hu) ⟨_,q⟩ ?_;exact⟨hz,its',_,hv,q⟩
theorem aE.lnew {its:List Value}{t':Nat}(I:aE X pins σ H s)(hv:bt ys its)(hz:ys.length<=sizeLine) :
  aE X pins σ (upd H s.heap.objs.size (.lst ys)) { s with heap:=s.heap.push { cls:=.type "list",data:=.seq its.toArray },toks:=t' } :=
 I.laid (fun _ _ q=>Heap.get?_push_of_some _ q) (Nat.le_refl _) ⟨hz,its,0,hv,Heap.get?_push_size _ rfl⟩
theorem aE.fresh (I:aE X pins σ H s):H s.heap.objs.size=none:=I.hok.fresh (Nat.le_refl _)
theorem aE.lstM (I:aE X pins σ H s)(hH:H l=some (.lst xs)):xs.length<=sizeLine/\∃ (its:List Value)(n:Nat),bt xs its/\xs.length=its.length/\s.heap.get? l=some { cls:=.type "list",data:=.seq its.toArray n }:=by
 obtain⟨z,its,n,r,e⟩:=I.hok l _ hH;exact⟨z,its,n,r,r.length,e⟩
theorem Cp {n:Nat}(h:n<=sizeLine):Builtin.List.listTooLong n=false:=by
 unfold Builtin.List.listTooLong;exact decide_eq_false (by omega)
end
section
variable {X:Cx}
def Ei:V->List V->Hp->VK->Prop:=fun x vs H Q=>∃ l xs y,x=.ref l/\vs=[y]/\H l=some (.lst xs)/\xs.length<sizeLine/\Q .non (upd H l (.lst (xs++[y])))
theorem bM:G7 X "list.append" Ei:=by
 intro pins s σ H x vs v us Q I rx rv h;obtain⟨l,xs,y,rfl,rfl,hH,hz,q⟩:=h;cases rx;obtain⟨u,rfl,ru⟩:=rv.one;obtain⟨z,its,n,r,hl,e⟩:=I.lstM hH;refine call_meets F.slot_list_append ⟨_,e,rfl⟩ F.entry_list_append (F.args_list_append_2 _ _) (PySem.list_append l its.toArray n u (by rw[List.size_toArray];omega)) ⟨e,?_⟩;refine⟨.non,_,I.lset (its':=its++[u]) hH e (by simp) (r.append (.cons ru .nil)) ?_,rfl,q⟩;rw[List.length_append,List.length_singleton];omega
def Ej:V->List V->Hp->VK->Prop:=fun x vs H Q=>∃ l b xs zs,x=.ref l/\vs=[.ref b]/\H l=some (.lst xs)/\H b=some (.lst zs)/\xs.length+zs.length<=sizeLine/\Q .non (upd H l (.lst (xs++zs)))
theorem kK:G7 X "list.extend" Ej:=by
 intro pins s σ H x vs v us Q I rx rv h;obtain⟨l,b,xs,zs,rfl,rfl,hH,hB,hz,q⟩:=h;cases rx;obtain⟨u,rfl,ru⟩:=rv.one;cases ru;obtain⟨z,its,n,r,hl,e⟩:=I.lstM hH;obtain⟨z2,its2,n2,r2,hl2,e2⟩:=I.lstM hB
 have hsz:its.toArray.size+its2.toArray.size<=sizeLine:=by rw[List.size_toArray,List.size_toArray];omega
 have hlong:¬ (!its.toArray.isEmpty&&Builtin.List.listTooLong (its.toArray.size+its2.toArray.size))=true:=by
  rw[Cp hsz,Bool.and_false];exact Bool.false_ne_true
 refine call_meets F.slot_list_extend ⟨_,e,rfl⟩ F.entry_list_extend (F.args_list_extend_2 _ _)
  (AutoSeq1.list_extend_list_list_0 l its.toArray n b its2.toArray n2 hlong (by rw[List.size_toArray];omega) (by omega)) ⟨e,e2,?_⟩
 refine⟨.non,_,I.lset (its':=its++its2) hH e (by simp) (r.append r2) ?_,rfl,q⟩;rw[List.length_append];omega
def Gz:R2:=fun x y H Q=>∃ l b xs zs,x=.ref l/\y=.ref b/\H l=some (.lst xs)/\H b=some (.lst zs)/\xs.length+zs.length<=sizeLine/\∀ p,H p=none->Q (.ref p) (upd H p (.lst (xs++zs)))
theorem i6:qO X (binaryOp .Add) Gz:=by
 intro pins s σ H x y v u Q I rx ry h;obtain⟨l,b,xs,zs,rfl,rfl,hH,hB,hz,q⟩:=h;cases rx;cases ry;obtain⟨z,its,n,r,hl,e⟩:=I.lstM hH;obtain⟨z2,its2,n2,r2,hl2,e2⟩:=I.lstM hB;refine PySem.P.add_list e e2 ?_ (by rw[List.size_toArray,List.size_toArray];omega)
 have ea:its.toArray++its2.toArray=(its++its2).toArray:=by simp
 rw[ea];exact⟨.ref _,_,I.lnew (t':=s.toks) (r.append r2) (by rw[List.length_append];omega),rfl,q _ I.fresh⟩
end
section
variable {prog:Program}{w:World}{A:Around}{E:Value->Shared->Prop}{s:Shared}
end
section
variable {X:Cx}
end
section
variable {κ:Type} [DecidableEq κ]
def dH (kvs:List (κ×V))(k:κ):Option V:=(kvs.find? fun kv=>decide (kv.1=k)).map (·.2)
def fH (kvs:List (κ×V))(k:κ)(v:V):List (κ×V) :=
 if (kvs.any fun kv=>decide (kv.1=k))=true then kvs.map (fun kv=>if kv.1=k then (kv.1,v) else kv) else kvs++[(k,v)]
def qZ (kvs:List (κ×V))(k:κ):List (κ×V):=kvs.filter fun kv=>decide (kv.1≠k)
theorem kF {p:κ×V}{r:List (κ×V)}{k:κ}(e:p.1=k):dH (p::r) k=some p.2:=by simp[dH,List.find?_cons,e]
theorem kE {p:κ×V}{r:List (κ×V)}{k:κ}(e:¬ p.1=k):dH (p::r) k=dH r k:=by simp[dH,List.find?_cons,e]
theorem kD (k:κ):∀ kvs:List (κ×V),(kvs.any fun kv=>decide (kv.1=k))=(dH kvs k).isSome
 | []=>rfl
 | p::r=>by
  rw[List.any_cons]
  by_cases e:p.1=k
  ·simp only[kF e,decide_eq_true e,Bool.true_or,Option.isSome_some]
  ·rw[kE e,decide_eq_false e,Bool.false_or];exact kD k r
theorem gX (kvs:List (κ×V))(k:κ)(v:V):(fH kvs k v).length<=kvs.length+1:=by
 unfold fH;split
 ·rw[List.length_map];omega
 ·rw[List.length_append,List.length_cons,List.length_nil];omega
theorem CT {kvs:List (κ×V)}{k:κ}(v:V)(h:dH kvs k=none):fH kvs k v=kvs++[(k,v)]:=by
 unfold fH;rw[kD,h];exact if_neg (by decide)
theorem iy.isSome_eq {o:Option V}{u:Option Value}(r:iy o u):o.isSome=u.isSome:=by
 cases o with
 | none=>cases u with
  | none=>rfl
  | some _=>exact (show False from r).elim
 | some _=>cases u with
  | none=>exact (show False from r).elim
  | some _=>rfl
theorem iy.getD {o:Option V}{u:Option Value}{d:V}{d':Value}(r:iy o u)(rd:bi d d'):bi (o.getD d) (u.getD d'):=by
 cases o with
 | none=>cases u with
  | none=>exact rd
  | some _=>exact (show False from r).elim
 | some _=>cases u with
  | none=>exact (show False from r).elim
  | some _=>exact r
theorem KV.val {kvs:List (κ×V)}{vs:List (κ×Value)}(r:KV kvs vs)(k:κ):iy (dH kvs k) (valueAt vs k):=by
 unfold KV at r
 induction r with
 | nil=>exact True.intro
 | @cons p q ps qs h t ih =>
  obtain⟨h1,h2⟩:=h
  by_cases e:p.1=k
  ·have e':q.1=k:=h1.symm.trans e
   have b:valueAt (q::qs) k=some q.2:=by simp[valueAt,List.find?_cons,e']
   rw[kF e,b];exact h2
  ·have e':¬ q.1=k:=fun z=>e (h1.trans z)
   have b:valueAt (q::qs) k=valueAt qs k:=by simp[valueAt,List.find?_cons,e']
   rw[kE e,b];exact ih
theorem KV.any {kvs:List (κ×V)}{vs:List (κ×Value)}(r:KV kvs vs)(k:κ):(kvs.any fun kv=>decide (kv.1=k))=vs.any fun kv=>decide (kv.1=k):=by
 unfold KV at r
 induction r with
 | nil=>rfl
 | cons h t ih=>rw[List.any_cons,List.any_cons,ih,h.1]
theorem KV.repl {kvs:List (κ×V)}{vs:List (κ×Value)}(r:KV kvs vs)(k:κ){y:V}{u:Value}(ry:bi y u) :
  KV (kvs.map fun kv=>if kv.1=k then (kv.1,y) else kv) (vs.map fun kv=>if kv.1=k then (kv.1,u) else kv):=by
 unfold KV at r ⊢
 induction r with
 | nil=>exact .nil
 | @cons p q ps qs h t ih =>
  rw[List.map_cons,List.map_cons];refine .cons ?_ ih;obtain⟨h1,h2⟩:=h
  by_cases e:p.1=k
  ·rw[if_pos e,if_pos (h1.symm.trans e)];exact⟨h1,ry⟩
  ·rw[if_neg e,if_neg (fun z=>e (h1.trans z))];exact⟨h1,h2⟩
theorem KV.put {kvs:List (κ×V)}{vs:List (κ×Value)}(r:KV kvs vs)(k:κ){y:V}{u:Value}(ry:bi y u):KV (fH kvs k y) (stored vs k u):=by
 unfold fH stored;rw[r.any k]
 by_cases e:(vs.any fun kv=>decide (kv.1=k))=true
 ·rw[if_pos e,if_pos e];exact r.repl k ry
 ·rw[if_neg e,if_neg e];exact Paired.snoc r ⟨rfl,ry⟩
theorem KV.drop {kvs:List (κ×V)}{vs:List (κ×Value)}(r:KV kvs vs)(k:κ):KV (qZ kvs k) (without vs k):=by
 unfold KV at r ⊢;unfold qZ without
 induction r with
 | nil=>exact .nil
 | @cons p q ps qs h t ih =>
  obtain⟨h1,h2⟩:=h;rw[List.filter_cons,List.filter_cons]
  by_cases e:p.1=k
  ·have a:¬ decide (p.1≠k)=true:=by simp[e]
   have b:¬ decide (q.1≠k)=true:=by simp[h1.symm.trans e]
   rw[if_neg a,if_neg b];exact ih
  ·have e':¬ q.1=k:=fun z=>e (h1.trans z)
   have a:decide (p.1≠k)=true:=by simp[e]
   have b:decide (q.1≠k)=true:=by simp[e']
   rw[if_pos a,if_pos b];exact .cons ⟨h1,h2⟩ ih
theorem KV.keys {kvs:List (κ×V)}{vs:List (κ×Value)}(r:KV kvs vs):kvs.map (·.1)=vs.map (·.1):=by
 unfold KV at r
 induction r with
 | nil=>rfl
 | cons h t ih=>rw[List.map_cons,List.map_cons,ih,h.1]
theorem KV.length {kvs:List (κ×V)}{vs:List (κ×Value)}(r:KV kvs vs):kvs.length=vs.length:=Paired.length r
theorem BM (kvs:List (κ×V))(k:κ):(qZ kvs k).length<=kvs.length:=List.length_filter_le _ _
end
theorem mR {P:Program}{w:World}{k:cm}{u:Value}(r:bi (kV k) u):(bH P w).is k u=true:=by
 cases k with
 | inl i=>obtain⟨t,e⟩:=(show ∃ t,u=Value.int i t from r);subst e;exact wQ P w i t
 | inr x=>obtain⟨t,e⟩:=(show ∃ t,u=Value.str x t from r);subst e;exact wT P w x t
theorem ui {P:Program}{w:World}:∀ {ks:List cm}{us:List Value},bt (ks.map kV) us->ItemsAre (bH P w) ks us
 | [],_,r=>by rw[List.map_nil]at r;cases r;exact .nil
 | k::ks,_,r=>by
  rw[List.map_cons]at r
  cases r with
  | cons h t=>exact .cons (mR h) (ui t)
abbrev KT (H:Hp):List (List cm×V)->List (List cm×Addr×Value)->Prop:=Paired fun p q=>p.1=q.1/\H q.2.1=some (.tup (p.1.map kV))/\bi p.2 q.2.2
theorem KT.val {H:Hp}{kvs:List (List cm×V)}{xs:List (List cm×Addr×Value)}(r:KT H kvs xs)(k:List cm):iy (dH kvs k) ((atKey xs k).map (·.2)):=by
 induction r with
 | nil=>exact True.intro
 | @cons p q ps qs h t ih =>
  obtain⟨h1,_,h2⟩:=h
  by_cases e:p.1=k
  ·have e':q.1=k:=h1.symm.trans e
   have b:atKey (q::qs) k=some q.2:=by simp[atKey,List.find?_cons,e']
   rw[kF e,b];exact h2
  ·have e':¬ q.1=k:=fun z=>e (h1.trans z)
   have b:atKey (q::qs) k=atKey qs k:=by simp[atKey,List.find?_cons,e']
   rw[kE e,b];exact ih
theorem KT.repl {H:Hp}{kvs:List (List cm×V)}{xs:List (List cm×Addr×Value)}(r:KT H kvs xs)(k:List cm){y:V}{u:Value}(ry:bi y u) :
  KT H (kvs.map fun kv=>if kv.1=k then (kv.1,y) else kv) (xs.map (putAt k u)):=by
 induction r with
 | nil=>exact .nil
 | @cons p q ps qs h t ih =>
  rw[List.map_cons,List.map_cons];refine .cons ?_ ih;obtain⟨h1,h2,h3⟩:=h;unfold putAt
  by_cases e:p.1=k
  ·rw[if_pos e,if_pos (h1.symm.trans e)];exact⟨h1,h2,ry⟩
  ·rw[if_neg e,if_neg (fun z=>e (h1.trans z))];exact⟨h1,h2,h3⟩
theorem KT.put {H:Hp}{kvs:List (List cm×V)}{xs:List (List cm×Addr×Value)}(r:KT H kvs xs)(k:List cm){b:Addr}{y:V}{u:Value}(hb:H b=some (.tup (k.map kV)))(ry:bi y u) :
  KT H (fH kvs k y) (storedH xs k b u):=by
 have e:(kvs.any fun kv=>decide (kv.1=k))=(atKey xs k).isSome:=by
  rw[kD,(r.val k).isSome_eq,Option.isSome_map]
 unfold fH storedH;rw[e]
 by_cases q:(atKey xs k).isSome=true
 ·rw[if_pos q,if_pos q];exact r.repl k ry
 ·rw[if_neg q,if_neg q];exact Paired.snoc r ⟨rfl,hb,ry⟩
theorem KT.keeps {H H':Hp}{kvs:List (List cm×V)}{xs:List (List cm×Addr×Value)}(r:KT H kvs xs)(ht:∀ b ys,H b=some (.tup ys)->H' b=some (.tup ys)):KT H' kvs xs :=
 Paired.mapP r fun _ _ z=>⟨z.1,ht _ _ z.2.1,z.2.2⟩
section
variable {P:Program}{w:World}{H:Hp}{h:Heap}{a:Addr}
theorem EI {u:HO}(ok:jz P w H h)(e:Rd H a u):bC P w H h a u:=e.ok ok
theorem qY {kvs:List (cm×V)}(ok:jz P w H h)(e:Rd H a (.dK kvs)):kvs.length<=sizeLine/\(a == sysModules)=false/\∃ vs,KV kvs vs/\h.DictOf (bH P w) a vs :=
 show bC P w H h a (.dK kvs) from EI ok e
theorem zw {kvs:List (cm×V)}(ok:jz P w H h)(e:H a=some (.dK kvs)):kvs.length<=sizeLine/\(a == sysModules)=false/\∃ vs,KV kvs vs/\h.DictOf (bH P w) a vs:=qY ok (.inl e)
theorem oy {ks:List cm}(ok:jz P w H h)(e:H a=some (.tup (ks.map kV))):(tupleKind (bH P w)).is h ks a:=by
 obtain⟨_,its,r,o,h1,h2,n,h3⟩:=(show bC P w H h a (.tup (ks.map kV)) from ok a _ e);exact⟨o,its.toArray,n,h1,h2,h3,by simpa using ui r⟩
theorem rg {kvs:List (List cm×V)}(ok:jz P w H h)(e:Rd H a (.dT kvs)):kvs.length<=sizeLine/\(a == sysModules)=false /\
  ∃ xs,KT H kvs xs/\h.DictOfH (tupleKind (bH P w)) a xs:=by
 obtain⟨z,y,xs,r,o,es,ep,h1,h2,h3,h4,h5⟩:=(show bC P w H h a (.dT kvs) from EI ok e);refine⟨z,y,xs,r,o,es,ep,h1,h2,h3,h4,fun x hx=>?_,h5⟩
 have all:∀ {l:List (List cm×V)}{m:List (List cm×Addr×Value)},KT H l m->∀ x∈m,(tupleKind (bH P w)).is h x.1 x.2.1:=by
  intro l m q
  induction q with
  | nil=>intro x hx;exact nomatch hx
  | @cons p q ps qs hq t ih =>
   intro x hx;rcases List.mem_cons.mp hx with e | hx
   ·subst e
    exact oy ok (by rw[<-hq.1];exact hq.2.1)
   ·exact ih x hx
 exact all r x hx
theorem Gg {kvs:List (List cm×V)}(ok:jz P w H h)(e:H a=some (.dT kvs)):kvs.length<=sizeLine/\(a == sysModules)=false /\
  ∃ xs,KT H kvs xs/\h.DictOfH (tupleKind (bH P w)) a xs:=rg ok (.inl e)
end
def da (H:Hp)(a:Addr)(y:V)(r:Option V):Prop :=
 (∃ kvs k,Rd H a (.dK kvs)/\y=kV k/\r=dH kvs k)\/∃ kvs k b,Rd H a (.dT kvs)/\y=.ref b/\H b=some (.tup (k.map kV))/\r=dH kvs k
def mi (H:Hp)(a:Addr)(y v:V)(H':Hp):Prop :=
 (∃ kvs k,H a=some (.dK kvs)/\y=kV k/\kvs.length<sizeLine/\H'=upd H a (.dK (fH kvs k v))) \/
 ∃ kvs k b,H a=some (.dT kvs)/\y=.ref b/\H b=some (.tup (k.map kV))/\kvs.length<sizeLine/\H'=upd H a (.dT (fH kvs k v))
theorem da.k {H:Hp}{a:Addr}{kvs:List (cm×V)}{k:cm}(e:H a=some (.dK kvs)):da H a (kV k) (dH kvs k):=.inl ⟨kvs,k,.inl e,rfl,rfl⟩
theorem da.t {H:Hp}{a b:Addr}{kvs:List (List cm×V)}{k:List cm}(e:H a=some (.dT kvs))(eb:H b=some (.tup (k.map kV))):da H a (.ref b) (dH kvs k):=.inr ⟨kvs,k,b,.inl e,rfl,eb,rfl⟩
theorem mi.k {H:Hp}{a:Addr}{kvs:List (cm×V)}{k:cm}{v:V}(e:H a=some (.dK kvs))(hl:kvs.length<sizeLine):mi H a (kV k) v (upd H a (.dK (fH kvs k v))):=.inl ⟨kvs,k,e,rfl,hl,rfl⟩
theorem mi.t {H:Hp}{a b:Addr}{kvs:List (List cm×V)}{k:List cm}{v:V}(e:H a=some (.dT kvs))(eb:H b=some (.tup (k.map kV)))(hl:kvs.length<sizeLine) :
  mi H a (.ref b) v (upd H a (.dT (fH kvs k v))):=.inr ⟨kvs,k,b,e,rfl,eb,hl,rfl⟩
section
variable {X:Cx}{pins:List (Addr×Obj)}{σ:St}{H:Hp}{s:Shared}{a:Addr}{y v:V}{u r:Value}{o:Option V}{A:Around}{E:Value->Shared->Prop}
theorem aE.big (I:aE X pins σ H s):sysModules<s.heap.objs.size:=by
 have h:mainGlobals<s.heap.objs.size:=(I.mod.glob.keeps I.bk).lt;exact Nat.lt_trans (by decide) h
theorem Aq {Q:Value->Shared->Prop}(hu:A.units+1<cLine)(I:aE X pins σ H s)(g:da H a y (some v))(ry:bi y u)(h:∀ w' s',aE X pins σ H s'->bi v w'->Q w' s') :
  wpAny (model X.prog X.w) A (getItem (.ref a) u) Q E s:=by
 rcases g with ⟨kvs,k,e,ey,l⟩ | ⟨kvs,k,b,e,ey,eb,l⟩
 ·subst ey
  obtain⟨z,hd,vs,rel,dd⟩:=qY I.hok e;obtain⟨w',hw,rw'⟩:=iy.some_of (v:=v) (o:=valueAt vs k) (by rw[l];exact rel.val k);exact wpAny_getItem_of (mR ry) dd.mapOf hw (h w' _ (I.tok _) rw')
 ·subst ey
  cases (show u=Value.ref b from ry);obtain⟨z,hd,xs,rel,dd⟩:=rg I.hok e;obtain⟨w',hw,rw'⟩:=iy.some_of (v:=v) (o:=(atKey xs k).map (·.2)) (by rw[l];exact rel.val k);obtain⟨p,hp,hp2⟩:=Option.map_eq_some_iff.mp hw;refine wpAny_getItem_heap (tupleKind_room_in1 hu) (oy I.hok eb) dd hp ?_;rw[hp2];exact h w' _ (I.tok _) rw'
theorem Hf {Q:Value->Shared->Prop}(hu:A.units+1<cLine)(I:aE X pins σ H s)(g:da H a y o)(ry:bi y u)(h:∀ s',aE X pins σ H s'->Q (.bool o.isSome) s') :
  wpAny (model X.prog X.w) A (compareOp .In u (.ref a)) Q E s:=by
 rcases g with ⟨kvs,k,e,ey,l⟩ | ⟨kvs,k,b,e,ey,eb,l⟩
 ·subst ey
  obtain⟨z,hd,vs,rel,dd⟩:=qY I.hok e;refine wpAny_in_of (mR ry) hd dd.mapOf ?_;rw[<-(rel.val k).isSome_eq,<-l];exact h _ (I.tok _)
 ·subst ey
  cases (show u=Value.ref b from ry);obtain⟨z,hd,xs,rel,dd⟩:=rg I.hok e;refine wpAny_in_heap (tupleKind_room_in1 hu) (oy I.hok eb) hd dd ?_;have q:=(rel.val k).isSome_eq;rw[Option.isSome_map]at q;rw[<-q,<-l];exact h _ (I.tok _)
theorem DH {Q:Value->Shared->Prop}(hu:A.units+1<cLine)(I:aE X pins σ H s)(g:da H a y o)(ry:bi y u)(h:∀ s',aE X pins σ H s'->Q (.bool (!o.isSome)) s') :
  wpAny (model X.prog X.w) A (compareOp .NotIn u (.ref a)) Q E s:=by
 rcases g with ⟨kvs,k,e,ey,l⟩ | ⟨kvs,k,b,e,ey,eb,l⟩
 ·subst ey
  obtain⟨z,hd,vs,rel,dd⟩:=qY I.hok e;refine wpAny_notIn_of (mR ry) hd dd.mapOf ?_;rw[<-(rel.val k).isSome_eq,<-l];exact h _ (I.tok _)
 ·subst ey
  cases (show u=Value.ref b from ry);obtain⟨z,hd,xs,rel,dd⟩:=rg I.hok e;refine wpAny_notIn_heap (tupleKind_room_in1 hu) (oy I.hok eb) hd dd ?_;have q:=(rel.val k).isSome_eq;rw[Option.isSome_map]at q;rw[<-q,<-l];exact h _ (I.tok _)
theorem mI {h':Heap}{t':Nat}{ob:HO}(I:aE X pins σ H s)(mu:Gb (H a))(hs:Heap.SameBut a s.heap h')(he:∃ q,h'.get? a=some q)(new:bC X.prog X.w (upd H a ob) h' a ob) :
  aE X pins σ (upd H a ob) { s with heap:=h',toks:=t' } :=
 I.write (x:=a) (e:=a) mu (.inl rfl) (fun b q hb z=>(hs.2 b hb).trans z) he new
theorem uM {P:Program}{w:World}{H':Hp}{h':Heap}{kvs:List (cm×V)}{vs:List (cm×Value)}(z:kvs.length<=sizeLine)(hd:(a == sysModules)=false)(rel:KV kvs vs)(dd:h'.DictOf (bH P w) a vs) :
  bC P w H' h' a (.dK kvs):=⟨z,hd,vs,rel,dd⟩
theorem Ar {H':Hp}{Q:Unit->Shared->Prop}(hu:A.units+1<cLine)(I:aE X pins σ H s)(g:mi H a y v H')(ry:bi y u)(rv:bi v r)(h:∀ s',aE X pins σ H' s'->Q () s') :
  wpAny (model X.prog X.w) A (setItem (.ref a) u r) Q E s:=by
 rcases g with ⟨kvs,k,e,ey,l,eH⟩ | ⟨kvs,k,b,e,ey,eb,l,eH⟩
 ·subst ey eH
  obtain⟨z,hd,vs,rel,dd⟩:=zw I.hok e
  have hz:vs.length<=sizeLine:=by rw[<-rel.length];exact z
  have hl:(fH kvs k v).length<=sizeLine:=by have:=gX kvs k v;omega
  refine wpAny_setItem_pairs (hsz:=hz) (mR ry) dd fun h' dd' hs=>h _ ?_;have he:∃ q,h'.get? a=some q:=let ⟨q,_,_,hq,_⟩:=dd';⟨q,hq⟩;exact mI I (by rw[e];exact True.intro) hs he (uM hl hd (rel.put k rv) dd')
 ·subst ey eH
  cases (show u=Value.ref b from ry);obtain⟨z,hd,xs,rel,dd⟩:=Gg I.hok e
  have hz:xs.length<=sizeLine:=by rw[<-Paired.length rel];exact z
  have hl:(fH kvs k v).length<=sizeLine:=by have:=gX kvs k v;omega
  refine wpAny_setItem_heap (hsz:=hz) (tupleKind_room_in1 hu) (oy I.hok eb) dd fun h' dd' hs=>h _ ?_;obtain⟨q,es,ep,hq,h2,h3,h4,_,h5⟩:=dd';refine mI I (by rw[e];exact True.intro) hs ⟨q,hq⟩ ⟨hl,hd,_,(rel.put k eb rv).keeps fun c ys ec=>?_,q,es,ep,hq,h2,h3,h4,h5⟩;rw[af (bz ec e (fun z=>nomatch z))];exact ec
end
section
variable {X:Cx}{pins:List (Addr×Obj)}{σ:St}{H:Hp}{s:Shared}{a:Addr}{kvs:List (cm×V)}{k:cm}{u:Value}{A:Around}{E:Value->Shared->Prop}
theorem Gf {v:V}{more:List Value}{Q:Value->Shared->Prop}(I:aE X pins σ H s)(e:H a=some (.dK kvs))(ry:bi (kV k) u)(l:dH kvs k=some v)(hm:more=[]\/∃ x,more=[x])
  (h:∀ w' s',aE X pins σ (upd H a (.dK (qZ kvs k))) s'->bi v w'->Q w' s'):wpAny (model X.prog X.w) A (call (.builtin "dict.pop") (.ref a::u::more)) Q E s:=by
 obtain⟨z,hd,vs,rel,dd⟩:=zw I.hok e;obtain⟨w',hw,rw'⟩:=iy.some_of (v:=v) (o:=valueAt vs k) (by rw[<-l];exact rel.val k)
 have hp:(keyPart u).isSome=true:=by
  cases k with
  | inl i=>obtain⟨t,q⟩:=(show ∃ t,u=Value.int i t from ry);subst q;rfl
  | inr x=>obtain⟨t,q⟩:=(show ∃ t,u=Value.str x t from ry);subst q;rfl
 have ha:argsOk "dict.pop" ⟨.ref a::u::more,[]⟩:=by
  rcases hm with q | ⟨x,q⟩
  ·subst q;exact PySem.F.args_dict_pop_2 _ _
  ·subst q;exact PySem.F.args_dict_pop_3 _ _ _
 refine call_meetsIn PySem.F.slot_dict_pop dd.typeIs PySem.F.entry_dict_pop ha (meets_dict_pop_there (bH X.prog X.w) a (mR ry) more hm hp)
  ⟨vs,w',dd,by rw[<-rel.length];exact z,hw,fun h' dd' hs=>h w' _ ?_ rw'⟩
 have he:∃ q,h'.get? a=some q:=let ⟨q,_,_,hq,_⟩:=dd';⟨q,hq⟩;exact mI I (by rw[e];exact True.intro) hs he (uM (Nat.le_trans (BM kvs k) z) hd (rel.drop k) dd')
end
def Gc (i:Expr):Prop:=∀ ov iv,subscripted i false ov iv=operate [ov,iv] (getItem ov iv)
theorem Eo {prog:Program}{w:World}{A:Around}{E:Value->Shared->Prop}{s:Shared}{env:Env}{value slice:Expr}{pos:Pos}{T id:String}{Q:Value->Shared->Prop}
  (hl:typeLookup (.type T) "__getitem__" = pure (some (.builtin id))) (hs:Gc slice)
  (h:wpAny (model prog w) A (eval value env) (fun o s₁=>wpAny (model prog w) A (eval slice env) (fun i s₂=>s₂.TypeIs o T/\wpAny (model prog w) A (getItem o i) Q E s₂) E s₁) E s) :
  wpAny (model prog w) A (eval (.Subscript value slice pos) env) Q E s:=by
 refine Subscript_ (wpAny_mono h (fun o s₁ h₁=>wpAny_mono h₁ (fun i s₂ h₂=>?_) fun _ _ x=>x) fun _ _ x=>x);obtain⟨hT,h₂⟩:=h₂;unfold subscriptTail;refine wpAny_bind ?_;rw[getitemInPython_of_ne hT.not_modules];refine wpAny_bind (wpAny_specialOf hT hl ?_)
 have fin:wpAny (model prog w) A (subscripted slice false o i) (fun r s₃=>wpAny (model prog w) A (letTemporaryGo value o r >>= fun _=>pure r) Q E s₃) E s₂:=by
  rw[hs o i];exact wpAny_operating (wpAny_mono h₂ (fun r s₃ h₃=>wpAny_bind (wpAny_letTemporaryGo (wpAny_pure h₃))) fun _ _ x=>x)
 first
  | exact wpAny_pure (wpAny_bind fin)
  | exact wpAny_bind (wpAny_pure (wpAny_bind fin))
  | exact wpAny_bind fin
theorem wu {X:Cx}{pins:List (Addr×Obj)}{σ:St}{H:Hp}{s:Shared}{a:Addr}{y:V}{o:Option V}(I:aE X pins σ H s)(g:da H a y o):s.TypeIs (.ref a) "dict":=by
 rcases g with ⟨kvs,k,e,_,_⟩ | ⟨kvs,k,b,e,_,_,_⟩
 ·obtain⟨_,_,vs,_,dd⟩:=qY I.hok e
  exact dd.typeIs
 ·obtain⟨_,_,xs,_,dd⟩:=rg I.hok e
  exact dd.typeIs
def GH (td ty:TE):TE:=fun σ H Q=>td σ H fun x H1=>ty σ H1 fun y H2=>∃ a v,x=.ref a/\da H2 a y (some v)/\Q v H2
def Hy (ty td:TE):TE:=fun σ H Q=>ty σ H fun y H1=>td σ H1 fun x H2=>∃ a o,x=.ref a/\da H2 a y o/\Q (.bl o.isSome) H2
def Ep (ty td:TE):TE:=fun σ H Q=>ty σ H fun y H1=>td σ H1 fun x H2=>∃ a o,x=.ref a/\da H2 a y o/\Q (.bl (!o.isSome)) H2
def GC (td ty tv:TE):TS:=fun D σ H=>tv σ H fun v H1=>td σ H1 fun x H2=>ty σ H2 fun y H3=>∃ a H4,x=.ref a/\mi H3 a y v H4/\D.nx σ H4
section
variable {X:Cx}{o i e value:Expr}{pos pos' tpos:Pos}{td ty tv:TE}
theorem i7 (hu:X.A.units+1<cLine)(ho:PE X o td)(hi:PE X i ty)(hs:Gc i):PE X (.Subscript o i pos) (GH td ty):=by
 intro pins s σ H Q I h;refine Eo PySem.F.slot_dict_getitem.lookup hs (bA (ho pins s σ H _ I h) fun u s1 ⟨x,H1,I1,rx,q1⟩=>bA (hi pins s1 σ H1 _ I1 q1) fun iv s2 ⟨y,H2,I2,ry,a,v,ex,g,q2⟩=>?_);subst ex;obtain rfl:u=Value.ref a:=rx;exact⟨wu I2 g,Aq hu I2 g ry fun w' s3 I3 rw'=>⟨v,H2,I3,rw',q2⟩⟩
theorem oQ (hu:X.A.units+1<cLine)(hi:PE X i ty)(ho:PE X o td):PC X .In i o (Hy ty td):=by
 intro pins s σ H Q I h;refine bA (hi pins s σ H _ I h) fun iv s1 ⟨y,H1,I1,ry,q1⟩=>bA (ho pins s1 σ H1 _ I1 q1) fun u s2 ⟨x,H2,I2,rx,a,ov,ex,g,q2⟩=>?_;subst ex;obtain rfl:u=Value.ref a:=rx;exact Hf hu I2 g ry fun s3 I3=>⟨.bl ov.isSome,H2,I3,rfl,q2⟩
theorem oR (hu:X.A.units+1<cLine)(hi:PE X i ty)(ho:PE X o td):PC X .NotIn i o (Ep ty td):=by
 intro pins s σ H Q I h;refine bA (hi pins s σ H _ I h) fun iv s1 ⟨y,H1,I1,ry,q1⟩=>bA (ho pins s1 σ H1 _ I1 q1) fun u s2 ⟨x,H2,I2,rx,a,ov,ex,g,q2⟩=>?_;subst ex;obtain rfl:u=Value.ref a:=rx;exact DH hu I2 g ry fun s3 I3=>⟨.bl (!ov.isSome),H2,I3,rfl,q2⟩
theorem ja (hu:X.A.units+1<cLine)(ho:PE X o td)(hi:PE X i ty)(hv:PE X value tv)(hs:swapsWith value (some (.Subscript o i pos')) pos.line X.env=pure false) :
  PS X (.Assign [.Subscript o i pos'] value pos) (GC td ty tv):=by
 intro pins s σ H D I h;refine wpAny_Assign_Subscript (bA (hv pins s σ H _ I h) fun r s1 ⟨v,H1,I1,rv,q1⟩=>bA (ho pins s1 σ H1 _ I1 q1) fun u s2 ⟨x,H2,I2,rx,q2⟩=>bA (hi pins s2 σ H2 _ I2 q2) fun iv s3 ⟨y,H3,I3,ry,a,H4,ex,g,q3⟩=>?_) hs;subst ex;obtain rfl:u=Value.ref a:=rx;exact Ar hu I3 g ry rv fun s4 I4=>⟨σ,H4,I4,q3⟩
end
theorem wv {P:Program}{w:World}{H:Hp}(h:Heap)(hb:sysModules<h.objs.size):bC P w H (h.push { cls:=.type "dict",data:=.dict #[] }) h.objs.size (.dK []) :=
 ⟨Nat.zero_le _,beq_eq_false_iff_ne.mpr (Ne.symm (Nat.ne_of_lt hb)),[],.nil,Heap.DictOf.new h⟩
theorem BN {P:Program}{w:World}{H:Hp}(h:Heap)(hb:sysModules<h.objs.size):bC P w H (h.push { cls:=.type "dict",data:=.dict #[] }) h.objs.size (.dT []) :=
 ⟨Nat.zero_le _,beq_eq_false_iff_ne.mpr (Ne.symm (Nat.ne_of_lt hb)),[],.nil,_,#[],0,Heap.get?_push_size _ rfl,⟨rfl,rfl,rfl⟩,rfl,rfl,List.nodup_nil⟩
def FG:TE:=fun _ H Q=>∀ p,H p=none->Q (.ref p) (upd H p (.dK []))
def FH:TE:=fun _ H Q=>∀ p,H p=none->Q (.ref p) (upd H p (.dT []))
section
variable {X:Cx}{pos:Pos}
theorem gD:PE X (.Dict [] [] pos) FG:=fun pins s σ H Q I h =>
 wpAny_Dict_empty ⟨.ref s.heap.objs.size,_,I.laid (a:=s.heap.objs.size) (o:=.dK []) (t':=s.toks) (fun _ _ q=>Heap.get?_push_of_some _ q) (Nat.le_refl _) (wv s.heap I.big),rfl,h _ (I.hok.fresh (Nat.le_refl _))⟩
theorem CH:PE X (.Dict [] [] pos) FH:=fun pins s σ H Q I h =>
 wpAny_Dict_empty ⟨.ref s.heap.objs.size,_,I.laid (a:=s.heap.objs.size) (o:=.dT []) (t':=s.toks) (fun _ _ q=>Heap.get?_push_of_some _ q) (Nat.le_refl _) (BN s.heap I.big),rfl,h _ (I.hok.fresh (Nat.le_refl _))⟩
end
structure M1 (X:Cx)(o:Expr)(m:Str)(apos:Pos)(e:Expr)(cpos:Pos):Prop where
 base:attributeBase o m X.env (eval o X.env)=eval o X.env
 few:((backTo cpos (starEach [e] X.env)).all (fun x=>!x.1)&&(backToKw cpos (keywordEach [] X.env)).all (fun x=>x.1.isSome)
  && decide (([e]:List Expr).length+([]:List Keyword).length+(if ([]:List Keyword).isEmpty then 0 else 1)<30))=true
 line:(apos.endLine == cpos.line)=true
 trees:backTo cpos (starEach [e] X.env)=[(false,eval e X.env)]
structure M2 (X:Cx)(o:Expr)(m:Str)(apos:Pos)(e f:Expr)(cpos:Pos):Prop where
 base:attributeBase o m X.env (eval o X.env)=eval o X.env
 few:((backTo cpos (starEach [e,f] X.env)).all (fun x=>!x.1)&&(backToKw cpos (keywordEach [] X.env)).all (fun x=>x.1.isSome)
  && decide (([e,f]:List Expr).length+([]:List Keyword).length+(if ([]:List Keyword).isEmpty then 0 else 1)<30))=true
 line:(apos.endLine == cpos.line)=true
 trees:backTo cpos (starEach [e,f] X.env)=[(false,eval e X.env),(false,eval f X.env)]
def GS (H:Hp)(a:Addr):Prop:=(∃ kvs,Rd H a (.dK kvs))\/∃ kvs,Rd H a (.dT kvs)
theorem yf {X:Cx}{pins:List (Addr×Obj)}{σ:St}{H:Hp}{s:Shared}{a:Addr}(I:aE X pins σ H s)(d:GS H a) :
  s.TypeIs (.ref a) "dict"/\(∀ b,Value.ref a=.ref b->∃ ob,s.heap.get? b=some ob/\ob.dict=none)/\(a == sysModules)=false:=by
 rcases d with ⟨kvs,e⟩ | ⟨kvs,e⟩
 ·obtain⟨_,hd,vs,_,dd⟩:=qY I.hok e
  refine⟨dd.typeIs,fun b q=>?_,hd⟩;cases q;obtain⟨ob,_,_,h1,h2,_⟩:=dd;exact⟨ob,h1,h2.2.1⟩
 ·obtain⟨_,hd,xs,_,dd⟩:=rg I.hok e
  refine⟨dd.typeIs,fun b q=>?_,hd⟩;cases q;obtain⟨ob,_,_,h1,h2,_⟩:=dd;exact⟨ob,h1,h2.2.1⟩
section
variable {X:Cx}{pins:List (Addr×Obj)}{σ:St}{H:Hp}{s:Shared}{a:Addr}{y d:V}{u r:Value}{o:Option V}{A:Around}{E:Value->Shared->Prop}
theorem E7 {Q:Value->Shared->Prop}(hu:A.units+1<cLine)(I:aE X pins σ H s)(g:da H a y o)(ry:bi y u)(rd:bi d r)(h:∀ w' s',aE X pins σ H s'->bi (o.getD d) w'->Q w' s') :
  wpAny (model X.prog X.w) A (call (.builtin "dict.get") [.ref a,u,r]) Q E s:=by
 rcases g with ⟨kvs,k,e,ey,l⟩ | ⟨kvs,k,b,e,ey,eb,l⟩
 ·subst ey
  obtain⟨z,hd,vs,rel,dd⟩:=qY I.hok e;refine call_meetsIn PySem.F.slot_dict_get dd.typeIs PySem.F.entry_dict_get (PySem.F.args_dict_get_3 _ _ _) (meets_dict_get_default (bH X.prog X.w) a (mR ry) hd r) ⟨_,dd.mapOf,h _ _ (I.tok _) ?_⟩;rw[l];exact (rel.val k).getD rd
 ·subst ey
  cases (show u=Value.ref b from ry);obtain⟨z,hd,xs,rel,dd⟩:=rg I.hok e;refine call_meetsIn PySem.F.slot_dict_get dd.typeIs PySem.F.entry_dict_get (PySem.F.args_dict_get_3 _ _ _) (meetsH_dict_get_default (tupleKind (bH X.prog X.w)) a b hd r) ⟨tupleKind_room_in1 hu,k,xs,oy I.hok eb,dd,h _ _ (I.tok _) ?_⟩;rw[l];exact (rel.val k).getD rd
end
def FF (td ty tx:TE):TE:=fun σ H Q=>td σ H fun x H1=>∃ a,x=.ref a/\GS H1 a/\ty σ H1 fun y H2=>tx σ H2 fun z H3=>∃ o,da H3 a y o/\Q (o.getD z) H3
def FI (td ty:TE):TE:=fun σ H Q=>td σ H fun x H1=>∃ a,x=.ref a/\GS H1 a/\ty σ H1 fun y H2=>∃ kvs k v,H2 a=some (.dK kvs)/\y=kV k/\dH kvs k=some v/\Q v (upd H2 a (.dK (qZ kvs k)))
section
variable {X:Cx}{o e f:Expr}{apos cpos:Pos}{td ty tx:TE}
theorem xx (hu:X.A.units+1<cLine)(ho:PE X o td)(he:PE X e ty)(hf:PE X f tx)(m:M2 X o "get" apos e f cpos):PE X (.Call (.Attribute o "get" apos) [e,f] [] cpos) (FF td ty tx):=by
 intro pins s σ H Q I h;refine wpAny_Call_method m.base m.few m.line PySem.F.plainAttrs_dict PySem.F.slot_dict_get PySem.F.type_dict_get (bA (ho pins s σ H _ I h) fun u s1 ⟨x,H1,I1,rx,a,ex,d,q1⟩=>?_);subst ex;obtain rfl:u=Value.ref a:=rx;obtain⟨t1,t2,_⟩:=yf I1 d;refine⟨t1,t2,?_⟩;rw[m.trees]
 refine Calls.callWith_builtin rfl (Calls.evalArgs_plain (Calls.spliced_cons (bA (he pins s1 σ H1 _ I1 q1) fun iv s2 ⟨y,H2,I2,ry,q2⟩ =>
  Calls.spliced_cons (bA (hf pins s2 σ H2 _ I2 q2) fun fv s3 ⟨z,H3,I3,rz,ov,g,q3⟩=>Calls.spliced_nil ?_))))
 exact E7 hu I3 g ry rz fun w' s4 I4 rw'=>⟨_,H3,I4,rw',q3⟩
theorem rY (ho:PE X o td)(he:PE X e ty)(m:M1 X o "pop" apos e cpos):PE X (.Call (.Attribute o "pop" apos) [e] [] cpos) (FI td ty):=by
 intro pins s σ H Q I h;refine wpAny_Call_method m.base m.few m.line PySem.F.plainAttrs_dict PySem.F.slot_dict_pop PySem.F.type_dict_pop (bA (ho pins s σ H _ I h) fun u s1 ⟨x,H1,I1,rx,a,ex,d,q1⟩=>?_);subst ex;obtain rfl:u=Value.ref a:=rx;obtain⟨t1,t2,_⟩:=yf I1 d;refine⟨t1,t2,?_⟩;rw[m.trees];refine Calls.callWith_builtin rfl (Calls.evalArgs_plain (Calls.spliced_cons (bA (he pins s1 σ H1 _ I1 q1) fun iv s2 ⟨y,H2,I2,ry,kvs,k,v,ea,ey,l,q2⟩=>Calls.spliced_nil ?_)));subst ey;exact Gf I2 ea ry l (.inl rfl) fun w' s3 I3 rw'=>⟨v,_,I3,rw',q2⟩
end
section
variable {X:Cx}{pins:List (Addr×Obj)}{σ:St}{H:Hp}{s:Shared}{a:Addr}{kvs:List (cm×V)}{A:Around}{E:Value->Shared->Prop}
end
section
variable {X:Cx}{pins:List (Addr×Obj)}{σ:St}{H:Hp}{s:Shared}{a:Addr}{y:V}{u:Value}{A:Around}{E:Value->Shared->Prop}
end
end L2
namespace Att
open PySem PySem.W PySem.Calls PyProof.Rows
theorem qb {P:Params}{h:Heap}:∀ (ns:List Int)(vs:List Value),WellAll P h vs (ns.map WData.int)->IntsAre vs ns:=by
 intro ns
 induction ns with
 | nil =>
  intro vs w;rw[List.map_nil]at w;cases w;exact .nil
 | cons n ns ih =>
  intro vs w;rw[List.map_cons]at w
  cases w with
  | cons a b =>
   cases a;exact .cons _ _ (ih _ b)
theorem Bk {l:OpenLaw}{n:Nat}(hn:l.most=some n){P:Params}{h:Heap}{args:List WData}{vals:List Value}
  (hpre:l.row.toRowW.claim.pre args=true) (hwl:WellAll P h vals args) :
  ∃ a vs ns,vals=[Value.ref a]/\args=[WData.list (ns.map WData.int)]/\h.get? a=some { cls:=.type "list",data:=.seq vs.toArray }/\IntsAre vs ns/\ns.length<=n:=by
 have hsh:WShape.hasAll [] args [.list .int]=true:=(pre_splitW hpre).1;have hc:l.pre.holds [] { args:=args }=true:=(pre_splitW hpre).2;obtain⟨d,r,rfl,h1,h2⟩:=hasAllW_cons hsh;obtain rfl:=hasAllW_nil h2;obtain⟨xs,rfl,h3⟩:=hasW_list h1;obtain⟨ns,rfl⟩:=items_int h3
 have hlen:ns.length<=n:=by
  unfold OpenLaw.pre at hc
  have h4:(WTm.not (.lt (.lit (.int (n:Int))) (.len (.arg 0)))).holds [] { args:=[.list (ns.map .int)] }=true:=by
   have h4:=(holds_andW hc).1;rw[hn]at h4;exact h4
  have h5:=condW_of h4 (w_not (w_lt w_lit (w_len_list (w_arg rfl))));rw[List.length_map]at h5;refine Nat.le_of_not_lt fun q=>?_
  have q':(n:Int)<((ns.length:Nat):Int):=by omega
  first
   | (rw[decide_eq_true q']at h5;exact absurd h5 (by decide))
   | (simp at h5;omega)
 cases hwl with
 | cons w1 w2 =>
  cases w2
  cases w1 with
  | list ho hall=>exact⟨_,_,ns,rfl,rfl,ho,qb ns _ hall,hlen⟩
theorem A9 (l:OpenLaw)(args:List WData):l.row.toRowW.claim.post args (.bool true) args=true :=
 postW_of (r:=l.row.toRowW) (X:=(true == true))
  (show WShape.has [] (.bool true) .bool=true by first | rfl | decide | simp[WShape.has,WShape.arms,WShape.armsAll])
  (show (WTm.eq .res (.lit (.bool true))).value [] { args:=args,res:=some (.bool true),after:=args }=some (.bool (true == true)) from w_eq_bool (w_res rfl) w_lit) rfl
theorem attach_call {l:OpenLaw}{n:Nat}{q:Program}{loose:List Str}{XP:(Str->Option Value)->Heap->Prop}{YP:World->Heap->Prop}{d:DefRec}
  (hn:l.most=some n) (hdf:d.params.defaults=[])
  (call:∀ (w:World)(s₀ s₁:Shared)(mg mb:Str->Option Value)(fa:Addr)(o:Obj)(pm cd doc:Value)(a:Addr)(vs:List Value)(ns:List Int),
   Ground q loose [] XP w s₀ mg mb s₁.heap->YP w s₁.heap ->
   s₁.heap.get? fa=some o->o.data=.func (docDef d.name d.params d.body d.scope pm cd doc)->s₁.heap.CodeRec cd d.name->mg d.name=some (.ref fa) ->
   s₁.heap.get? a=some { cls:=.type "list",data:=.seq vs.toArray }->IntsAre vs ns->ns.length<=n->s₁.gens = #[] ->
   codeAny (model l.prog w) callerA (.call (.ref fa) ⟨[.ref a],[]⟩) (fun r s'=>r=.ok (.ret (.bool true))/\OldK s₁.heap s'.heap/\s'.os=s₁.os/\AllBare s'.gens) s₁) :
  WalkO q loose XP YP l.row.toRowW d [] (fun f vs=>PySem.call f vs):=by
 intro w s₀ s₁ mg mb G Y fa o pm cd doc dV kV ho hd hcd hD hmg hg args vals as hpre hlay hrd hwl hlo;obtain rfl:dV=.none:=Dflts.none hD hdf;obtain rfl:kV=.none:=Dflts.noKw hD;obtain⟨a,vs,ns,rfl,rfl,hobj,hints,hlen⟩:=Bk hn hpre hwl;refine enter_call (codeAny_mono (call w s₀ s₁ mg mb fa o pm cd doc a vs ns G Y ho (fd_plain hd) hcd hmg hobj hints hlen hg) fun r s' hq=>?_);obtain⟨rfl,h2,h3,h4⟩:=hq;exact⟨.inl ⟨.bool true,.bool true,[],rfl,fun _=>rfl,.bool true,A9 l _,fun _=>⟨List.Pairwise.nil,fun _ hm=>(nomatch hm)⟩⟩,h2,h3,h4⟩
section
variable {prog:Program}{w:World}{A:Around}{E:Value->Shared->Prop}{s:Shared}{K:Frag}
def Hm (h:Heap):Heap:={ h with objs:=#[] }
def Hl (h:Heap)(L d:Addr):List (Addr×Obj):=(List.range h.objs.size).filterMap fun a=>if a=L\/a=d then none else (h.get? a).map fun o=>(a,o)
end
end Att
namespace L2
open PySem PySem.Spec PyProof.Rows
theorem uF:∀ {vs:List Value}{ns:List Int},IntsAre vs ns->bt (ns.map V.int) vs
 | _,_,.nil=>.nil
 | _,_,.cons n t h=>.cons ⟨t,rfl⟩ (uF h)
def EY (H:Hp):Prop:=∀ b,H b=none\/∃ o xs,H b=some (.frz o (.lst xs))
theorem Ca {P:Program}{w:World}{K:PySem.W.Frag}{mg mb:Str->Option Value}{CX:vW}{k:Nat}{fa a:Addr}{fd:FuncData}{x:Str}{sp:Sp}{s₁:Shared}{vs:List Value}{ns:List Int}
  (KX:K.In s₁.heap) (hns:s₁.heap.Ns mainGlobals mg) (hb:s₁.heap.Ns builtinsNs mb) (hbb:∀ x:Str,x≠"__name__"->mb x=bootBuiltins x) (hlim:s₁.heap.NoLimit) (hg:s₁.gens = #[])
  (ha:s₁.heap.get? a=some { cls:=.type "list",data:=.seq vs.toArray }) (hi:IntsAre vs ns) (hl:ns.length<=sizeLine) (hr:cQ k callerA)
  (F:∀ base:Heap,K.In base->base.Ns mainGlobals mg->bb P w K mg base CX k fa fd [x] sp) (hbind:∀ (s:Shared)(u:Value),BindsTo s fd ⟨[u],[]⟩ [(x,u)])
  (hsp:∀ H:Hp,EY H->aW K H a (ns.map V.int)->sp [.ref a] H (fun v _=>v=.bl true) fun _ _ _=>False)
  (hCX:∀ H e s',CX [] H s₁ (fun _ _ _=>False) e s'->False) :
  codeAny (model P w) callerA (.call (.ref fa) ⟨[.ref a],[]⟩) (fun r s'=>r=.ok (.ret (.bool true))/\OldK s₁.heap s'.heap/\s'.os=s₁.os/\AllBare s'.gens) s₁:=by
 have rv:=uF hi;have lenV:=hi.length
 have core:∀ H:Hp,EY H->aW K H a (ns.map V.int)->jz P w H s₁.heap->(∀ b,H b≠none->b=a)->(H a≠none->K.lookup a=none) ->
   codeAny (model P w) callerA (.call (.ref fa) ⟨[.ref a],[]⟩) (fun r s'=>r=.ok (.ret (.bool true))/\OldK s₁.heap s'.heap/\s'.os=s₁.os/\AllBare s'.gens) s₁:=by
  intro H hO hS hok hA hK;have base_of:∀ {b:Addr}{o:Obj},s₁.heap.get? b=some o->H b=none->(uV s₁.heap H).get? b=some o:=fun e n=>B6 e n
  have noA:∀ {b:Addr}{o:Obj}{es:Array DictEntry}{ep:Nat},s₁.heap.get? b=some o->o.data=.dict es ep->H b=none:=fun {b o es ep} e d=>by
   cases q:H b with
   | none=>rfl
   | some u =>
    have e':b=a:=hA b (by rw[q];simp);subst e';rw[ha]at e;cases e;have d':Data.seq vs.toArray _=Data.dict es ep:=d;cases d'
  have nsK:∀ {b:Addr}{m:Str->Option Value},s₁.heap.Ns b m->(uV s₁.heap H).Ns b m:=fun {b m} ⟨o,es,ep,e,d,r⟩=>⟨o,es,ep,base_of e (noA e d),d,r⟩
  have hKb:K.In (uV s₁.heap H):=fun b o e=>base_of (KX b o e) (by
   cases q:H b with
   | none=>rfl
   | some u =>
    have e':b=a:=hA b (by rw[q];simp);subst e'
    rw[hK (by rw[q];simp)]at e;cases e)
  have hM:Mod K mg (uV s₁.heap H):=⟨hKb,nsK hns,⟨mb,nsK hb,hbb⟩,let ⟨mc,h1,h2⟩:=hlim;⟨mc,nsK h1,h2⟩⟩;have e0:xW P w K mg (uV s₁.heap H) callerA [] s₁ H:=⟨rfl,hM,fun b o e=>D4 e,Nat.le_of_eq (Ay _ _),trivial,fun b hb=>absurd (show b∈([]:List Addr) from hb) (by simp),hok,.of_eq hg⟩;refine codeAny_mono ((F _ hKb (nsK hns)).run callerA [] s₁ H ⟨[.ref a],[]⟩ [.ref a] [.ref a] _ _ hr e0 (hbind s₁ (.ref a)) (.cons rfl .nil) (hsp H hO hS)) fun r s' h=>?_
  cases r with
  | error e=>exact (hCX H e s' h).elim
  | ok fl =>
   cases fl with
   | next=>exact False.elim h
   | brk=>exact False.elim h
   | cont=>exact False.elim h
   | ret u =>
    obtain⟨v,H',os,bare,un,hok',r',q⟩:=h;have q':v=.bl true:=q;subst q';obtain rfl:u=Value.bool true:=r';refine⟨rfl,OldK.of_keep fun b o e=>?_,os,bare⟩
    cases q:H b with
    | none=>exact un.keep b o e q (by intro z;exact absurd (show b∈([]:List Addr) from z) (by simp)) (by simp)
    | some u =>
     rcases hO b with z | ⟨ob,xs,z⟩
     ·rw[q]at z;cases z
     ·have z2:=un.frzs b ob _ z
      obtain⟨e1,_⟩:=hok b _ z;obtain⟨e2,_⟩:=hok' b _ z2;rw[e]at e1;cases e1;exact e2
 cases hk:K.lookup a with
 | some o =>
  have e:=KX a o hk;rw[ha]at e;cases e;refine core (fun _=>none) (fun _=>.inl rfl) (.inr ⟨_,vs.toArray,_,hk,rfl,rfl,rfl,by rw[List.size_toArray,lenV];exact hl,by simpa using rv⟩) (fun b u z=>by have z':(none:Option HO)=some u:=z;cases z') (fun b z=>absurd rfl z) fun z=>absurd rfl z
 | none =>
  refine core (fun b=>if b=a then some (.frz { cls:=.type "list",data:=.seq vs.toArray } (.lst (ns.map V.int))) else none) (fun b=>?_) (.inl (.inr ⟨{ cls:=.type "list",data:=.seq vs.toArray },if_pos rfl⟩)) (fun b u z=>?_) (fun b z=>?_) fun _=>hk
  ·by_cases hb:b=a
   ·exact .inr ⟨_,_,if_pos hb⟩
   ·exact .inl (if_neg hb)
  ·by_cases hb:b=a
   ·have z':=(if_pos hb).symm.trans z
    cases z';subst hb;exact⟨ha,by rw[List.length_map];exact hl,vs,_,rv,ha⟩
   ·have z':=(if_neg hb).symm.trans z
    cases z'
  ·by_cases hb:b=a
   ·exact hb
   ·exact absurd (if_neg hb) z
theorem walk_of {l:PySem.W.OpenLaw}{n k:Nat}{q:Program}{loose:List Str}{XP:(Str->Option Value)->Heap->Prop}{YP:World->Heap->Prop}{d:DefRec}{K:Params->PySem.W.Frag}{CX:World->vW}{sp:World->Sp}{x:Str}
  (hn:l.most=some n) (hn2:n<=sizeLine) (hdf:d.params.defaults=[]) (hr:cQ k callerA)
  (hY:∀ (w:World)(h:Heap),YP w h->(K w.params).In h)
  (F:∀ (w:World)(mg:Str->Option Value)(fa:Addr)(h:Heap),(K w.params).In h->h.Ns mainGlobals mg->mg d.name=some (.ref fa) ->
   ∃ fd:FuncData,(∀ (s:Shared)(u:Value),BindsTo s fd ⟨[u],[]⟩ [(x,u)]) /\
    ∀ base:Heap,(K w.params).In base->base.Ns mainGlobals mg->bb l.prog w (K w.params) mg base (CX w) k fa fd [x] (sp w))
  (hsp:∀ (w:World)(H:Hp)(a:Addr)(ns:List Int),ns.length<=n->EY H->aW (K w.params) H a (ns.map V.int)->sp w [.ref a] H (fun v _=>v=.bl true) fun _ _ _=>False)
  (hCX:∀ (w:World)(H:Hp)(s:Shared)(e:Value)(s':Shared),CX w [] H s (fun _ _ _=>False) e s'->False) :
  PySem.W.WalkO q loose XP YP l.row.toRowW d [] (fun f vs=>PySem.call f vs):=by
 refine Att.attach_call hn hdf fun w s₀ s₁ mg mb fa o pm cd doc a vs ns G Y ho hd hcd hmg hobj hints hlen hg=>?_;have KX:=hY w _ Y;obtain⟨fd,hb,hF⟩:=F w mg fa _ KX G.T.g hmg;exact Ca KX G.T.g G.T.b G.T.builtins G.T.nolimit hg hobj hints (Nat.le_trans hlen hn2) hr hF hb (fun H hO hS=>hsp w H a ns hlen hO hS) fun H e s'=>hCX w H s₁ e s'
def cE (s:Stmt)(j:Nat):Stmt:=match s with
 | .ClassDef _ _ _ body _ _ _ _ _ _ _=>body.getD j (.Pass ⟨0,0,0,0⟩)
 | _=>.Pass ⟨0,0,0,0⟩
def fU (s:Stmt):Arguments:=match s with
 | .FunctionDef _ a _ _ _ _ _ _ _ _=>a
 | _=>{ posonlyargs:=[],args:=[],vararg:=none,kwonlyargs:=[],kw_defaults:=[],kwarg:=none,defaults:=[] }
def eD (s:Stmt):List Stmt:=match s with
 | .FunctionDef _ _ b _ _ _ _ _ _ _=>b
 | _=>[]
def am (s:Stmt):Scope:=match s with
 | .FunctionDef _ _ _ _ _ _ sc _ _ _=>sc
 | _=>{ kind:=.function,names:=[],isGenerator:=false,isCoroutine:=false }
abbrev cL:vW:=fun _ _ _ _ _ _=>False
abbrev E0:XK:=fun _ _ _=>False
theorem dY {X:Cx}:fO cL X E0:=fun _ _ _ _ _ _ _ h=>h.elim
structure dv (K:PySem.W.Frag)(x qual:Str)(st:Stmt)(f:Addr)(fd:FuncData):Prop where
 ex:∃ (oc:Value)(od:Option Addr)(kV doc pm:Value)(an:Option Addr)(cdv ct:Value)(osl:Array (Option Value)),
  fd=PySem.W.fnOf x qual (fU st) (eD st) (am st) .none kV doc pm an cdv ct/\K.lookup f=some ⟨oc,od,.func fd,osl⟩/\PySem.W.codeIn K cdv qual=true
 kp:PySem.W.keepIn K (.ref f)=true
section
variable {P:Program}{w:World}{K:PySem.W.Frag}{mg:Str->Option Value}{base:Heap}
theorem dv.ok {x qual:Str}{st:Stmt}{f:Addr}{fd:FuncData}{N ps:List Str}{k:Nat}{sp:Sp}(F:dv K x qual st f fd)(S:ax N ps (am st))(len:∀ vs H Q E,sp vs H Q E->vs.length=ps.length)
  (hbody:∀ (cdv:Value)(A:Around)(outer:List Env)(s:Shared)(H:Hp)(vs:List V)(Q:VK)(E:XK),cQ k (A.deeper (envOfC qual (am st) s.heap.objs.size f cdv))->sp vs H Q E ->
   ∃ t,xT (qW cL P w K mg base N qual (am st) f cdv A outer s H E).nox (eD st) t/\t { nx:=fun _ H'=>Q .non H',rt:=Q } (nK N vs) H):bb P w K mg base cL (k+1) f fd ps sp:=by
 obtain⟨oc,od,kV,doc,pm,an,cdv,ct,osl,rfl,lk,hcd⟩:=F.ex;refine EC lk hcd S len fun A outer s H vs Q E hr hsp=>?_;obtain⟨t,h,q⟩:=hbody cdv A outer s H vs Q E hr hsp;exact⟨t,h.nox,q⟩
theorem dv.binds {x qual:Str}{st:Stmt}{f:Addr}{fd:FuncData}{ps:List Str}(F:dv K x qual st f fd)
  (h:∀ (kV doc pm:Value)(an:Option Addr)(cdv ct:Value)(us:List Value),us.length=ps.length->bindArgs (PySem.W.fnOf x qual (fU st) (eD st) (am st) .none kV doc pm an cdv ct) ⟨us,[]⟩=pure (ps.zip us)):gq K fd ps []:=by
 obtain⟨oc,od,kV,doc,pm,an,cdv,ct,osl,rfl,lk,hcd⟩:=F.ex;exact .all (h kV doc pm an cdv ct)
theorem BW {x qual:Str}{st:Stmt}{f:Addr}{oc:Value}{od an:Option Addr}{osl:Array (Option Value)}{kV doc pm cdv ct:Value}(l:K.lookup f=some ⟨oc,od,.func (PySem.W.fnOf x qual (fU st) (eD st) (am st) .none kV doc pm an cdv ct),osl⟩)
  (c:PySem.W.codeIn K cdv qual=true) (k:PySem.W.keepIn K (.ref f)=true):dv K x qual st f (PySem.W.fnOf x qual (fU st) (eD st) (am st) .none kV doc pm an cdv ct):=⟨⟨oc,od,kV,doc,pm,an,cdv,ct,osl,rfl,l,c⟩,k⟩
end
theorem cH {A:Around}{k:Nat}(hr:cQ k A):A.units+1<cLine:=Nat.lt_of_le_of_lt (Nat.add_le_add_left (by decide:1<=64) _) hr.units
theorem aD {n:Nat}(h:n<=1000):n<sizeLine:=Nat.lt_of_le_of_lt h (by decide)
section
variable {X:Cx}
theorem pv (i:Nat){x:Str}{pos:Pos}(hN:X.N[i]? = some x:=by rfl)(hv:Hc X.env.scope x:=by first | exact Or.inl rfl | exact Or.inr (Or.inl rfl) | exact Or.inr (Or.inr rfl))(hd:(x == ("__debug__" : Str))=false:=by decide)
  (hcd:(x == ("__classdict__" : Str))=false:=by decide):PE X (.Name x pos) (Bp i):=Fp hN hv hd hcd
end
theorem a7 {A B:Prop}(h:B):if false=true then A else B:=by
 rw[if_neg Bool.false_ne_true];exact h
theorem bV {A B:Prop}(h:A):if true=true then A else B:=by
 rw[if_pos rfl];exact h
theorem wC {c A B:Prop} [Decidable c] (h1:c->A)(h2:¬ c->B):if c then A else B:=by
 by_cases h:c
 ·rw[if_pos h]
  exact h1 h
 ·rw[if_neg h]
  exact h2 h
def ay (H H':Hp):Prop:=∀ b o,H b=some o->H' b=some o
theorem ay.refl (H:Hp):ay H H:=fun _ _ h=>h
theorem ay.trans {H H1 H2:Hp}(a:ay H H1)(b:ay H1 H2):ay H H2:=fun c o h=>b c o (a c o h)
theorem ay.free {H H':Hp}(e:ay H H'){l:Addr}(h:H' l=Option.none):H l=Option.none:=by
 cases q:H l with
 | none=>rfl
 | some o =>
  rw[e l o q]at h;cases h
theorem ay.seq {K:PySem.W.Frag}{H H':Hp}{a:Addr}{xs:List V}(e:ay H H')(h:aW K H a xs):aW K H' a xs:=by
 rcases h with (h | ⟨o,h⟩) | h
 ·exact .inl (.inl (e _ _ h))
 ·exact .inl (.inr ⟨o,e _ _ h⟩)
 ·exact .inr h
section
variable {κ:Type} [DecidableEq κ]
theorem qw:∀ {l:List κ}{k:κ},l.Nodup->¬ k∈l->(l++[k]).Nodup
 | [],k,_,_=>by simp
 | a::r,k,h,hk=>by
  obtain⟨h1,h2⟩:=List.nodup_cons.mp h
  show (a::(r++[k])).Nodup
  refine List.nodup_cons.mpr ⟨fun m=>?_,qw h2 fun m=>hk (List.mem_cons.mpr (Or.inr m))⟩;rcases List.mem_append.mp m with q | q
  ·exact h1 q
  ·exact hk (List.mem_cons.mpr (Or.inl (List.mem_singleton.mp q).symm))
end
end L2
set_option maxHeartbeats 4000000
namespace L2
open PySem PySem.Spec PyProof.Rows
structure tQ (so sc:Scope)(N N':List Str)(src:List (Option Nat)):Prop where
 kind:sc.kind=.function
 nocell:∀ y∈sc.names,y.2≠.cell
 loc:∀ y∈sc.names,y.2=.local->sc.names.lookup y.1=some .local
 fre:∀ y∈sc.names,y.2=.free->so.names.lookup y.1=some .cell\/so.names.lookup y.1=some .free
 nd:N'.Nodup
 len:src.length=N'.length
 cap:∀ p∈N'.zip src,(match p.2 with | none=>true | some j=>decide (N[j]? = some p.1/\sc.names.lookup p.1=some .free))=true
def iN (src:List (Option Nat))(σ:St):St:=src.map fun o=>o.bind fun j=>(σ[j]?).join
def cz (X:Cx)(sc:Scope)(cl:List (Str×Addr))(C:Addr)(N':List Str)(s:Shared)(H:Hp)(ex:List Addr):Cx where
 prog:=X.prog
 w:=X.w
 K:=X.K
 mg:=X.mg
 base:=X.base
 A:=X.A
 N:=N'
 s₀:=s
 H₀:=H
 env:=compEnvC sc cl C X.env
 outer:=X.stack
 stack:=X.stack
 ex:=ex
 fn:=fun _=>false
 calm:=X.calm
 pn:=[]
 xe:=fun _ _=>False
theorem iL {env:Env}:∀ (names:List (Str×NameKind))(cs:List (Str×Addr)),(∀ y∈names,y.2=.free->∃ c,env.cells.lookup y.1=some c) ->
  (∀ x c,cs.lookup x=some c->env.cells.lookup x=some c) ->
  ∃ cl:List (Str×Addr),(forIn names cs fun x r=>if (x.2 == NameKind.free)=true then (do let a <-cellOf env x.1;pure (ForInStep.yield ((x.1,a)::r))) else pure (ForInStep.yield r):Sem (List (Str×Addr)))=pure cl /\
   (∀ x c,cl.lookup x=some c->env.cells.lookup x=some c)/\(∀ x,(∃ c,cs.lookup x=some c)->∃ c,cl.lookup x=some c)/\∀ y∈names,y.2=.free->∃ c,cl.lookup y.1=some c
 | [],cs,_,h2=>⟨cs,by rw[List.forIn_nil],h2,fun _ h=>h,fun _ h=>nomatch h⟩
 | (n,k)::r,cs,h1,h2=>by
  by_cases hk:k=.free
  ·subst hk
   obtain⟨c,hc⟩:=h1 (n,.free) List.mem_cons_self rfl
   have h2':∀ x d,((n,c)::cs).lookup x=some d->env.cells.lookup x=some d:=fun x d e=>by
    rw[List.lookup_cons]at e;split at e
    ·rename_i hx
     cases e
     have:x=n:=by simpa using hx
     rw[this];exact hc
    ·exact h2 x d e
   obtain⟨cl,e,q1,q2,q3⟩:=iL r ((n,c)::cs) (fun y hy=>h1 y (List.mem_cons_of_mem _ hy)) h2';have has:∃ d,((n,c)::cs).lookup n=some d:=⟨c,by simp⟩;refine⟨cl,?_,q1,fun x ⟨d,hd⟩=>q2 x ?_,fun y hy hf=>?_⟩
   ·rw[List.forIn_cons,<-e]
    simp[cellOf,hc]
   ·rw[List.lookup_cons]
    split
    ·exact⟨_,rfl⟩
    ·exact⟨d,hd⟩
   ·rcases List.mem_cons.mp hy with rfl | hy
    ·exact q2 _ has
    ·exact q3 y hy hf
  ·obtain⟨cl,e,q1,q2,q3⟩:=iL r cs (fun y hy=>h1 y (List.mem_cons_of_mem _ hy)) h2
   have hb:(k == NameKind.free)=false:=by simpa using hk
   refine⟨cl,?_,q1,q2,fun y hy hf=>?_⟩
   ·rw[List.forIn_cons,<-e]
    simp[hb]
   ·rcases List.mem_cons.mp hy with rfl | hy
    ·exact absurd hf hk
    ·exact q3 y hy hf
theorem iM {sc:Scope}{env:Env}(h:∀ y∈sc.names,y.2=.free->∃ c,env.cells.lookup y.1=some c) :
  ∃ cl:List (Str×Addr),closureFor sc env=pure cl/\(∀ x c,cl.lookup x=some c->env.cells.lookup x=some c)/\∀ y∈sc.names,y.2=.free->∃ c,cl.lookup y.1=some c:=by
 obtain⟨cl,e,q1,_,q3⟩:=iL sc.names [] h (fun x c z=>by simp at z);refine⟨cl,?_,q1,q3⟩;unfold closureFor
 show (forIn sc.names [] _ >>= fun cs=>pure cs)=_
 refine Eq.trans (congrArg (fun t=>t >>= fun cs=>pure cs) (Eq.trans ?_ e)) (by simp)
 congr 1
theorem m9 {env:Env}:∀ {names:List (Str×NameKind)}{x:Str},(∀ y∈names,y.2≠.cell) ->
  ((names.map fun (n,k)=>if (k == NameKind.free&&env.scope.kind == .function&&env.kindOf n == some .cell) then (n,NameKind.cell) else (n,k)).lookup x=some .cell \/
    (names.map fun (n,k)=>if (k == NameKind.free&&env.scope.kind == .function&&env.kindOf n == some .cell) then (n,NameKind.cell) else (n,k)).lookup x=some .free)->(x,NameKind.free)∈names
 | [],_,_,h=>by simp at h
 | (n,k)::r,x,hc,h=>by
  have ih:=@m9 env r x (fun y hy=>hc y (List.mem_cons_of_mem _ hy));have h:List.lookup x ((if (k == NameKind.free&&env.scope.kind == .function&&env.kindOf n == some .cell)=true then (n,NameKind.cell) else (n,k))::_)=some .cell\/List.lookup x ((if (k == NameKind.free&&env.scope.kind == .function&&env.kindOf n == some .cell)=true then (n,NameKind.cell) else (n,k))::_)=some .free:=h
  by_cases hb:(k == NameKind.free&&env.scope.kind == .function&&env.kindOf n == some .cell)=true
  ·rw[if_pos hb]at h
   cases hx:x == n with
   | true =>
    have e:x=n:=by simpa using hx
    subst e
    have:k=NameKind.free:=by
     simp only[Bool.and_eq_true,beq_iff_eq]at hb;exact hb.1.1
    subst this;exact List.mem_cons_self
   | false =>
    simp only[List.lookup_cons,hx]at h;exact List.mem_cons_of_mem _ (ih h)
  ·rw[if_neg hb]at h
   cases hx:x == n with
   | true =>
    have e:x=n:=by simpa using hx
    subst e;have hk:=hc (x,k) List.mem_cons_self;simp only[List.lookup_cons,beq_self_eq_true,Option.some.injEq]at h;rcases h with h | h
    ·exact absurd h hk
    ·subst h;exact List.mem_cons_self
   | false =>
    simp only[List.lookup_cons,hx]at h;exact List.mem_cons_of_mem _ (ih h)
theorem lv {env:Env}:∀ {names:List (Str×NameKind)}{x:Str},names.lookup x=some .free ->
  ((names.map fun (n,k)=>if (k == NameKind.free&&env.scope.kind == .function&&env.kindOf n == some .cell) then (n,NameKind.cell) else (n,k)).lookup x=some .cell \/
    (names.map fun (n,k)=>if (k == NameKind.free&&env.scope.kind == .function&&env.kindOf n == some .cell) then (n,NameKind.cell) else (n,k)).lookup x=some .free)
 | [],_,h=>by simp at h
 | (n,k)::r,x,h=>by
  have ih:=@lv env r x
  show List.lookup x ((if (k == NameKind.free&&env.scope.kind == .function&&env.kindOf n == some .cell)=true then (n,NameKind.cell) else (n,k))::_)=some .cell\/List.lookup x ((if (k == NameKind.free&&env.scope.kind == .function&&env.kindOf n == some .cell)=true then (n,NameKind.cell) else (n,k))::_)=some .free
  cases hx:x == n with
  | true =>
   simp only[List.lookup_cons,hx,Option.some.injEq]at h;subst h
   by_cases hb:(NameKind.free == NameKind.free&&env.scope.kind == .function&&env.kindOf n == some .cell)=true
   ·rw[if_pos hb];left;simp only[List.lookup_cons,hx]
   ·rw[if_neg hb];right;simp only[List.lookup_cons,hx]
  | false =>
   simp only[List.lookup_cons,hx]at h
   by_cases hb:(k == NameKind.free&&env.scope.kind == .function&&env.kindOf n == some .cell)=true
   ·rw[if_pos hb];simp only[List.lookup_cons,hx];exact ih h
   ·rw[if_neg hb];simp only[List.lookup_cons,hx];exact ih h
theorem fC {prog:Program}{w:World}{A:Around}{R:Result->Shared->Prop}{s:Shared}{elt target iter:Expr}{ifs:List Expr}{scope:Scope}{pos:Pos}{it acc:Value}{env:Env}(I:Nat->Shared->Prop)
  (turn:∀ n s,I n s->wpAny (model prog w) A (pyNext it) (fun r s₁=>match r with
   | none=>R (.ok .next) s₁
   | some v=>wpAny (model prog w) A (letOwnedTupleGo target it v) (fun _ s₁'=>wpAny (model prog w) A (assign target env v) (fun _ s₂ =>
     wpAny (model prog w) A (forIn ifs true fun c r=>if r=true then do let ok <-isTrue c env (eval c env);pure (ForInStep.yield ok) else pure (ForInStep.yield r)) (fun ok s₃ =>
      if ok=true then wpAny (model prog w) A (eval elt env) (fun x s₄ =>
       wpAny (model prog w) A (call (.builtin "list.append") [acc,x]) (fun _ s₅=>∃ m,m<n/\I m s₅) (fun _ _=>False) s₄) (fun _ _=>False) s₃
      else ∃ m,m<n/\I m s₃) (fun _ _=>False) s₂) (fun _ _=>False) s₁') (fun _ _=>False) s₁) (fun _ _=>False) s)
  (n:Nat) (h:I n s) :
  codeAny (model prog w) A (.compLoop (.ListComp elt [⟨target,iter,ifs,0⟩] scope pos) 0 it acc env) R s:=by
 refine codeAny_loop rfl I (fun n s hI=>?_) n h
 show wpAny _ A ((compTurn (.ListComp elt [⟨target,iter,ifs,0⟩] scope pos) 0 it acc env).onRaise (fun x=>do noteFrame x env;theTreesLotGoes x)) _ _ s
 refine wpAny_noted ?_;rw[compTurn_list];refine wpAny_bind (wpAny_standAt (wpAny_bind (wpAny_mono (turn n s hI) (fun r s₁ h₁=>?_) fun _ _ h'=>h'.elim)))
 cases r with
 | none=>exact wpAny_pure h₁
 | some v =>
  refine wpAny_bind (wpAny_mono h₁ (fun _ s₁' h₁'=>?_) fun _ _ h'=>h'.elim);refine wpAny_bind (wpAny_mono h₁' (fun _ s₂ h₂=>wpAny_bind (wpAny_mono h₂ (fun ok s₃ h₃=>?_) fun _ _ h'=>h'.elim)) fun _ _ h'=>h'.elim)
  cases ok with
  | false=>exact wpAny_pure ⟨rfl,h₃⟩
  | true =>
   exact wpAny_bind (wpAny_bind (wpAny_mono h₃ (fun x s₄ h₄=>wpAny_bind (wpAny_mono h₄ (fun _ s₅ h₅=>wpAny_pure (wpAny_pure ⟨rfl,h₅⟩)) fun _ _ h'=>h'.elim)) fun _ _ h'=>h'.elim))
def Ex (X:Cx)(ifs:List Expr)(t:TT):Prop :=
 ∀ (pins:List (Addr×Obj))(s:Shared)(σ:St)(H:Hp)(Q:Bool->Hp->Prop),aE X pins σ H s->t σ H Q ->
  wpAny (model X.prog X.w) X.A (forIn ifs true fun c r=>if r=true then do let ok <-isTrue c X.env (eval c X.env);pure (ForInStep.yield ok) else pure (ForInStep.yield r)) (TP X pins σ Q) X.xe s
def tO:TT:=fun _ H Q=>Q true H
theorem c7 {X:Cx}:Ex X [] tO:=fun pins s σ H Q I h=>wpAny_tests_nil ⟨H,I,h⟩
theorem kO {X:Cx}{c:Expr}{t:TT}(h:PT X c t):Ex X [c] t:=fun pins s σ H Q I hq=>wpAny_tests_one (h pins s σ H Q I hq)
def BB (tt:TT)(te:TE)(a:Addr):TS:=fun D σ H=>tt σ H fun b H1=>if b=true then te σ H1 fun y H2=>∃ ys,H2 a=some (.lst ys)/\ys.length<sizeLine/\D.nx σ (upd H2 a (.lst (ys++[y]))) else D.nx σ H1
def jP (J:It)(g:TG)(tb:TS)(D:jE)(σ:St)(H:Hp):Prop:=∃ W:Nat->Nat->St->Hp->Prop,(∃ m,W 0 m σ H)/\∀ i m σ H,W i m σ H ->
 (J.stop i H/\D.nx σ H)\/(J.go i H/\∃ N:St->Hp->Prop,(∀ σ' H',N σ' H'->∃ m',m'<m/\W (i+1) m' σ' H')/\∀ x H',J.yld i H x H'->g x σ H' fun σ2 H2=>tb { D with nx:=N,ct:=N,bk:=D.nx } σ2 H2)
def GG (wi:TI)(g:TG)(tt:TT)(te:TE)(src:List (Option Nat)):TE:=fun σ H Q=>wi σ H fun J H1=>∀ a,H1 a=none ->
 jP J g (BB tt te a) { nx:=fun _ H'=>Q (.ref a) H',rt:=fun _ _=>False } (iN src σ) (upd H1 a (.lst []))
theorem mP {X:Cx}{pins:List (Addr×Obj)}{σ:St}{H:Hp}{s:Shared}{sc so:Scope}{N':List Str}{src:List (Option Nat)}{cl:List (Str×Addr)}{fp:List Addr}{h':Heap}
  (I:aE X pins σ H s) (hso:X.env.scope=so) (S:tQ so sc X.N N' src) (q1:∀ x c,cl.lookup x=some c->X.env.cells.lookup x=some c) (q3:∀ y∈sc.names,y.2=.free->∃ c,cl.lookup y.1=some c)
  (hf:∀ b∈fp,hW X pins H b) (hlt:∀ b∈fp,b<s.heap.objs.size) (hns:h'.Ns s.heap.objs.size fun _=>none) (hk:∀ b o,s.heap.get? b=some o->h'.get? b=some o) (tk:Nat) :
  aE (cz X sc cl s.heap.objs.size N' s H fp) [] (iN src σ) H { s with heap:=h',toks:=tk }:=by
 have hb:∀ b∈fp,b≠s.heap.objs.size/\∀ x c,cl.lookup x=some c->c≠b:=fun b z=>⟨Nat.ne_of_lt (hlt b z),fun x c e=>(hf b z).2.2.2.2.1 x c (q1 x c e)⟩
 refine⟨⟨I.ok.mod,?_,I.ok.glob,I.ok.blt,Nat.le_refl _,fun x y c h1 h2=>I.ok.inj x y c (q1 _ _ h1) (q1 _ _ h2),fun x hx=>?_,fun x c hx _=>(by cases hx),I.ok.hd,I.ok.frames,.inl rfl,hb,I.bs,Nat.le_trans I.ok.bsz I.sz,fun b o e z=>?_,fun b z hz=>?_,I.stack,I.stkFree⟩,
  rfl,I.bare,Un.kept hk,⟨_,hns,fun i x v h1 h2 h3=>?_⟩,fun x c e=>?_,I.hok.fresh (Nat.le_refl _),fun x c e=>I.freeC x c (q1 x c e),fun p hp=>absurd (show p∈([]:List (Addr×Obj)) from hp) (by simp),I.hok.kept hk,?_⟩
 ·show (relabel sc X.env).kind=_
  exact S.kind
 ·have hx':(x,NameKind.free)∈sc.names:=m9 S.nocell hx
  exact q3 _ hx' rfl
 ·rcases (hf b z).2.2.2.1 with y | y
  ·exact I.ok.noex b o e y
  ·exact absurd (Nat.lt_of_lt_of_le (Heap.lt_size e) (Nat.le_trans I.ok.bsz y)) (Nat.lt_irrefl _)
 ·rcases List.mem_cons.mp (I.stkSub b hz) with y | y
  ·exact (hf b z).2.1 y
  ·exact (hf b z).2.2.1 y
 ·-- the captured names
  have h1':N'[i]? = some x:=h1;have h2':(iN src σ)[i]? = some (some v):=h2;unfold iN at h2';rw[List.getElem?_map]at h2'
  cases hs:src[i]? with
  | none=>rw[hs]at h2';cases h2'
  | some o =>
   rw[hs]at h2';have h2'':(o.bind fun j=>(σ[j]?).join)=some v:=Option.some.inj h2'
   cases o with
   | none=>cases h2''
   | some j =>
    have hj:(σ[j]?).join=some v:=h2''
    have hσ:σ[j]? = some (some v):=by
     cases e:σ[j]? with
     | none=>rw[e]at hj;cases hj
     | some z=>rw[e]at hj;rw[show z=some v from hj]
    have hzip:(x,some j)∈N'.zip src:=by
     have:(N'.zip src)[i]? = some (x,some j):=by
      rw[List.getElem?_zip_eq_some];exact⟨h1',hs⟩
     exact List.mem_of_getElem? this
    have hc:=of_decide_eq_true (S.cap _ hzip);obtain⟨hN,hfr⟩:X.N[j]? = some x/\sc.names.lookup x=some .free:=hc;have hmem:(x,NameKind.free)∈sc.names:=PySem.mem_of_lookup hfr;have hvis:=S.fre _ hmem rfl;rw[<-hso]at hvis;obtain⟨m,hn,hl⟩:=I.loc;obtain⟨u,ru,lk⟩:=hl j x v hN hσ (.inr hvis);refine⟨u,ru,.inr ⟨lv hfr,?_⟩⟩;obtain⟨c,hcl⟩:=q3 _ hmem rfl;refine⟨c,hcl,?_⟩;rcases lk with ⟨k,_⟩ | ⟨_,c',e',z⟩
    ·have k:X.env.scope.names.lookup x=some .local:=k
     rcases hvis with y | y<;>(rw[k]at y;cases y)
    ·have:=q1 x c hcl
     rw[e']at this;cases this;obtain⟨ob,e1,e2⟩:=z;exact⟨ob,hk _ _ e1,e2⟩
 ·obtain⟨v,ob,e1,e2⟩:=I.cell x c (q1 x c e)
  exact⟨v,ob,hk _ _ e1,e2⟩
 ·show (iN src σ).length=N'.length
  unfold iN;rw[List.length_map];exact S.len
theorem jT {X:Cx}{pins:List (Addr×Obj)}{σ:St}{H:Hp}{s:Shared}{l:Addr}{xs:List V}{y:V}{u:Value}{E:Value->Shared->Prop}(I:aE X pins σ H s)(hH:H l=some (.lst xs))(hz:xs.length<sizeLine)(ru:bi y u) :
  wpAny (model X.prog X.w) X.A (call (.builtin "list.append") [.ref l,u]) (fun _ s'=>aE X pins σ (upd H l (.lst (xs++[y]))) s') E s:=by
 obtain⟨z,its,n,r,hl,e⟩:=I.lstM hH;refine call_meets F.slot_list_append ⟨_,e,rfl⟩ F.entry_list_append (F.args_list_append_2 _ _) (PySem.list_append l its.toArray n u (by rw[List.size_toArray];omega)) ⟨e,?_⟩;refine I.lset (its':=its++[u]) hH e (by simp) (r.append (.cons ru .nil)) ?_;rw[List.length_append,List.length_singleton];omega
theorem dq {X:Cx}{elt tg iter:Expr}{ifs:List Expr}{sc so:Scope}{pos:Pos}{N':List Str}{src:List (Option Nat)}{wi:TI}{g:TG}{tt:TT}{te:TE}{N:List Str}(hso:X.env.scope=so)(hXN:X.N=N)(S:tQ so sc N N' src)(hc:X.calm=true)(hi:PI X tg iter wi)
  (hb:∀ (cl:List (Str×Addr))(C:Addr)(s:Shared)(H:Hp)(ex:List Addr),PG (cz X sc cl C N' s H ex) tg g/\Ex (cz X sc cl C N' s H ex) ifs tt/\PE (cz X sc cl C N' s H ex) elt te)
  (hs:∀ x,foldedSetIterable iter X.env x=pure x:=by intro _;rfl):PE X (.ListComp elt [⟨tg,iter,ifs,0⟩] sc pos) (GG wi g tt te src):=by
 subst hXN;intro pins s σ H Q I h
 obtain⟨cl,hcl,q1,q3⟩:=iM (sc:=sc) (env:=X.env) fun y hy hf=>by
  have:=S.fre y hy hf;rw[<-hso]at this;exact I.ok.has y.1 this
 rw[eval_ListComp];refine wpAny_comprehension_free (use:=none) rfl hs hcl S.kind S.loc (bA (hi pins s σ H _ I h) fun v s1 h1=>bA h1 fun itv s2 h2=>?_);obtain⟨it,fp,tn,J,H2,e,I2,T,st2,f2,hR⟩:=h2;subst e;refine wpAny_newObj_type ?_
 have I3:aE X pins σ (upd H2 s2.heap.objs.size (.lst [])) { s2 with heap:=s2.heap.push { cls:=.type "list",dict:=none,data:=.seq ([]:List Value).toArray } } :=
  I2.laid (t':=s2.toks) (fun b u q=>Heap.get?_push_of_some _ q) (Nat.le_refl _) ⟨Nat.zero_le _,[],0,.nil,Heap.get?_push_size _ rfl⟩
 have hfr:=I2.hok.fresh (Nat.le_refl s2.heap.objs.size);obtain⟨W,⟨m0,w0⟩,turn⟩:=hR _ hfr
 have flt:∀ b∈fp,b<s2.heap.objs.size:=fun b hb=>by obtain⟨o,e,_⟩:=T.obj _ _ st2 b hb;exact Heap.lt_size e
 generalize hs3:({ s2 with heap:=s2.heap.push { cls:=.type "list",dict:=none,data:=.seq ([]:List Value).toArray } }:Shared)=s3 at I3 ⊢
 have e3:s3.heap=s2.heap.push { cls:=.type "list",dict:=none,data:=.seq ([]:List Value).toArray }:=by rw[<-hs3]
 have sz3:s3.heap.objs.size=s2.heap.objs.size+1:=by rw[e3,Heap.size_push]
 have hf3:∀ b∈fp,hW X pins (upd H2 s2.heap.objs.size (.lst [])) b:=fun b hb=>⟨by rw[af (Nat.ne_of_lt (flt b hb))];exact (f2 b hb).1,(f2 b hb).2⟩
 have flt3:∀ b∈fp,b<s3.heap.objs.size:=fun b hb=>by rw[sz3];exact Nat.lt_succ_of_lt (flt b hb)
 have st3:tn 0 s3.heap:=T.keep _ _ _ st2 fun b _ o e=>by rw[e3];exact Heap.get?_push_of_some _ e
 refine wpAny_newFunctionEnv S.nocell (by intro y hy;simp at hy) (fun h4 hns4 hsb4=>?_) S.kind;have kp4:∀ b o,s3.heap.get? b=some o->h4.get? b=some o:=fun b o e=>hsb4.extBut b o (Nat.ne_of_lt (Heap.lt_size e)) (Heap.get?_push_of_some _ e);have I4:=mP (h':=h4) I3 hso S q1 q3 hf3 flt3 (by simpa using hns4) kp4 (s3.toks+([]:List (Str×Value)).length);have st4:tn 0 h4:=T.keep _ _ _ st3 fun b _ o e=>kp4 b o e;generalize hC:s3.heap.objs.size=C at I4 hns4 hsb4 ⊢;obtain⟨hg,ht,he⟩:=hb cl C s3 (upd H2 s2.heap.objs.size (.lst [])) fp
 let Y:Cx:=cz X sc cl C N' s3 (upd H2 s2.heap.objs.size (.lst [])) fp
 have loop:∀ s5:Shared,s5={ s3 with heap:=h4,toks:=s3.toks+([]:List (Str×Value)).length }->codeAny (model X.prog X.w) X.A (.compLoop (.ListComp elt [⟨tg,iter,ifs,0⟩] sc pos) 0 (.ref it) (.ref s2.heap.objs.size) (compEnvC sc cl C X.env))
   (compPost (model X.prog X.w) X.A X.xe none (EP X pins σ Q) (.ref s2.heap.objs.size) C) s5:=by
  rintro s5 rfl
  have stat:∀ {H':Hp},(∀ b∈fp,H' b=none)->∀ b∈fp,hW Y [] H' b:=fun {H'} hn b hb=>by
   obtain⟨f0,f1,f2',f3,f4,f5⟩:=hf3 b hb;refine⟨hn b hb,?_,fun z=>?_,.inl hb,fun x c e=>f4 x c (q1 x c e),fun p hp=>absurd (show p∈([]:List (Addr×Obj)) from hp) (by simp)⟩
   ·show b≠C
    rw[<-hC];exact Nat.ne_of_lt (flt3 b hb)
   ·have z:b∈iR X.stack:=z
    rcases List.mem_cons.mp (I3.stkSub b z) with y | y
    ·exact f1 y
    ·exact f2' y
  refine fC (fun n s'=>∃ i σ' H',aE Y [] σ' H' s'/\tn i s'.heap/\(∀ b∈fp,H' b=none)/\W i n σ' H') ?_ m0 ⟨0,_,_,I4,st4,fun b hb=>(hf3 b hb).1,w0⟩;rintro n s6 ⟨i,σ6,H6,I6,st6,fr6,w6⟩;rcases turn i n σ6 H6 w6 with ⟨stop,qn⟩ | ⟨go,Nx,hN,step⟩
  ·refine bA (T.done Y rfl rfl rfl hc i [] s6 σ6 H6 _ I6 (stat fr6) st6 stop) fun r s7 ⟨hr,I7⟩=>?_
   subst hr;obtain⟨m,hn,_⟩:=id I7.loc;refine⟨m,hn,fun h' hsb=>?_⟩
   have neC:∀ b o,s3.heap.get? b=some o->b≠C:=fun b o e=>by rw[<-hC];exact Nat.ne_of_lt (Heap.lt_size e)
   have freeC:H6 C=none:=I7.free
   have un:Un (iR X.stack) fp (upd H2 s2.heap.objs.size (.lst [])) H6 s3.heap h' :=
    ⟨fun b o e n hb hx=>(hsb.2 b (neC b o e)).trans (I7.base.keep b o e n hb hx),fun b o e n hb hx=>by
      obtain⟨sl,q⟩:=I7.base.slot b o e n hb hx
      exact⟨sl,(hsb.2 b (neC b o e)).trans q⟩,I7.base.free,fun b o e hx=>by
      obtain⟨o',q⟩:=I7.base.there b o e hx
      exact⟨o',(hsb.2 b (neC b o e)).trans q⟩,I7.base.tups,I7.base.frzs,I7.base.tbls⟩
   have hok:jz X.prog X.w H6 h':=fun b ob e=>by
    refine (I7.hok b ob e).stay (fun c w' hc' q=>(hsb.2 c ?_).trans q) (fun _ q=>q) fun _ _ q=>q;rintro rfl;rcases hc' with z | z
    ·rw[<-z,freeC]at e;cases e
    ·rw[freeC]at z;cases z
   have J7:aE X pins σ H6 { s7 with heap:=h' }:=I3.call' (ch:=fp) (s':={ s7 with heap:=h' }) I7.os un hok I7.bare fun b hb=>⟨(hf3 b hb).2.2.2.1,(hf3 b hb).2.1,(hf3 b hb).2.2.2.2.1,(hf3 b hb).2.2.2.2.2⟩;exact⟨.ref s2.heap.objs.size,H6,J7,rfl,qn⟩
  ·refine bA (T.item Y rfl rfl rfl hc i [] s6 σ6 H6 _ I6 (stat fr6) st6 go) fun r s7 ⟨u,hr,h7⟩=>?_
   subst hr;refine bA h7 fun _ s8 ⟨x,H8,I8,r8,y8,st8,fr8⟩=>?_;have I8':=I8.pinned (stat fr8) (T.obj _ _ st8);refine bA (hg _ s8 σ6 H8 x u _ I8' r8 (step x H8 y8)) fun _ s9 ⟨σ9,H9,I9,q9⟩=>?_
   have again:∀ {s':Shared}{σ7:St}{H7:Hp},aE Y ([]++i9 fp s8.heap) σ7 H7 s'->Nx σ7 H7->∃ m,m<n/\∃ i σ' H',aE Y [] σ' H' s'/\tn i s'.heap/\(∀ b∈fp,H' b=none)/\W i m σ' H':=fun {s' σ7 H7} I7 n7=>by
    obtain⟨m',hm,w7⟩:=hN σ7 H7 n7;refine⟨m',hm,i+1,σ7,H7,I7.unpinned,T.keep _ _ _ st8 fun b hb o e=>(I7.pin (b,o) (List.mem_append_right _ (List.mem_append_right _ (bT hb e)))).1,fun b hb=>?_,w7⟩;obtain⟨o,e,d⟩:=T.obj _ _ st8 b hb;exact (I7.pin (b,o) (List.mem_append_right _ (List.mem_append_right _ (bT hb e)))).2.1
   refine bA (ht _ s9 σ9 H9 _ I9 q9) fun ok s10 ⟨H10,I10,q10⟩=>?_
   cases ok with
   | false =>
    rw[if_neg Bool.false_ne_true]at q10 ⊢;exact again I10 q10
   | true =>
    rw[if_pos rfl]at q10 ⊢;refine bA (he _ s10 σ9 H10 _ I10 q10) fun y s11 ⟨yv,H11,I11,ry,ys,hys,hlen,q11⟩=>?_;exact bA (jT (X:=Y) I11 hys hlen ry) fun _ s12 I12=>again I12 q11
 exact codeAny_compStart_list (loop _ rfl) (T.self _ 0 _ _ _ st4 (loop _ rfl))
def FD (wi:TI)(g:TG)(tt:TT)(te:TE)(src:List (Option Nat))(i:Nat):TS:=fun D σ H=>wi σ H fun J H1=>∀ a,H1 a=none ->
 jP J g (BB tt te a) { nx:=fun _ H'=>D.nx (σ.set i (some (.ref a))) H',rt:=fun _ _=>False } (iN src σ) (upd H1 a (.lst []))
theorem qy {X:Cx}{ix:Nat}{x:Str}{px spos:Pos}{elt tg iter:Expr}{ifs:List Expr}{sc so:Scope}{pos:Pos}{N':List Str}{src:List (Option Nat)}{wi:TI}{g:TG}{tt:TT}{te:TE}{N:List Str}(hso:X.env.scope=so)(hXN:X.N=N)(S:tQ so sc N N' src)(hc:X.calm=true)(hi:PI X tg iter wi)
  (hb:∀ (cl:List (Str×Addr))(C:Addr)(s:Shared)(H:Hp)(ex:List Addr),PG (cz X sc cl C N' s H ex) tg g/\Ex (cz X sc cl C N' s H ex) ifs tt/\PE (cz X sc cl C N' s H ex) elt te)
  (hnd:X.N.Nodup) (hix:X.N[ix]? = some x) (hx:X.env.scope.names.lookup x=some .local)
  (hsw:swapsWith (.ListComp elt [⟨tg,iter,ifs,0⟩] sc pos) (some (.Name x px)) spos.line X.env=pure true:=by rfl)
  (hs:∀ x,foldedSetIterable iter X.env x=pure x:=by intro _;rfl):PS X (.Assign [.Name x px] (.ListComp elt [⟨tg,iter,ifs,0⟩] sc pos) spos) (FD wi g tt te src ix):=by
 subst hXN;intro pins s σ H D I h
 obtain⟨cl,hcl,q1,q3⟩:=iM (sc:=sc) (env:=X.env) fun y hy hf=>by
  have:=S.fre y hy hf;rw[<-hso]at this;exact I.ok.has y.1 this
 rw[exec_Assign_Name_used _ _ _ _ hsw];refine wpAny_bind (wpAny_standAt (wpAny_bind ?_))
 show wpAny _ X.A (do let _ <-comprehension (.ListComp elt [⟨tg,iter,ifs,0⟩] sc pos) sc X.env _ (newList []) false (eval iter X.env) (some (assign (.Name x px) X.env))) _ _ s
 refine wpAny_bind (wpAny_mono (wpAny_comprehension_free (use:=some (assign (.Name x px) X.env)) (Q:=fun _ s'=>SP X pins D .next s') rfl hs hcl S.kind S.loc (bA (hi pins s σ H _ I h) fun v s1 h1=>bA h1 fun itv s2 h2=>?_)) (fun _ s' hq=>wpAny_pure (wpAny_pure hq)) fun _ _ e=>e);obtain⟨it,fp,tn,J,H2,e,I2,T,st2,f2,hR⟩:=h2;subst e;refine wpAny_newObj_type ?_
 have I3:aE X pins σ (upd H2 s2.heap.objs.size (.lst [])) { s2 with heap:=s2.heap.push { cls:=.type "list",dict:=none,data:=.seq ([]:List Value).toArray } } :=
  I2.laid (t':=s2.toks) (fun b u q=>Heap.get?_push_of_some _ q) (Nat.le_refl _) ⟨Nat.zero_le _,[],0,.nil,Heap.get?_push_size _ rfl⟩
 have hfr:=I2.hok.fresh (Nat.le_refl s2.heap.objs.size);obtain⟨W,⟨m0,w0⟩,turn⟩:=hR _ hfr
 have flt:∀ b∈fp,b<s2.heap.objs.size:=fun b hb=>by obtain⟨o,e,_⟩:=T.obj _ _ st2 b hb;exact Heap.lt_size e
 generalize hs3:({ s2 with heap:=s2.heap.push { cls:=.type "list",dict:=none,data:=.seq ([]:List Value).toArray } }:Shared)=s3 at I3 ⊢
 have e3:s3.heap=s2.heap.push { cls:=.type "list",dict:=none,data:=.seq ([]:List Value).toArray }:=by rw[<-hs3]
 have sz3:s3.heap.objs.size=s2.heap.objs.size+1:=by rw[e3,Heap.size_push]
 have hf3:∀ b∈fp,hW X pins (upd H2 s2.heap.objs.size (.lst [])) b:=fun b hb=>⟨by rw[af (Nat.ne_of_lt (flt b hb))];exact (f2 b hb).1,(f2 b hb).2⟩
 have flt3:∀ b∈fp,b<s3.heap.objs.size:=fun b hb=>by rw[sz3];exact Nat.lt_succ_of_lt (flt b hb)
 have st3:tn 0 s3.heap:=T.keep _ _ _ st2 fun b _ o e=>by rw[e3];exact Heap.get?_push_of_some _ e
 refine wpAny_newFunctionEnv S.nocell (by intro y hy;simp at hy) (fun h4 hns4 hsb4=>?_) S.kind;have kp4:∀ b o,s3.heap.get? b=some o->h4.get? b=some o:=fun b o e=>hsb4.extBut b o (Nat.ne_of_lt (Heap.lt_size e)) (Heap.get?_push_of_some _ e);have I4:=mP (h':=h4) I3 hso S q1 q3 hf3 flt3 (by simpa using hns4) kp4 (s3.toks+([]:List (Str×Value)).length);have st4:tn 0 h4:=T.keep _ _ _ st3 fun b _ o e=>kp4 b o e;generalize hC:s3.heap.objs.size=C at I4 hns4 hsb4 ⊢;obtain⟨hg,ht,he⟩:=hb cl C s3 (upd H2 s2.heap.objs.size (.lst [])) fp
 let Y:Cx:=cz X sc cl C N' s3 (upd H2 s2.heap.objs.size (.lst [])) fp
 have loop:∀ s5:Shared,s5={ s3 with heap:=h4,toks:=s3.toks+([]:List (Str×Value)).length }->codeAny (model X.prog X.w) X.A (.compLoop (.ListComp elt [⟨tg,iter,ifs,0⟩] sc pos) 0 (.ref it) (.ref s2.heap.objs.size) (compEnvC sc cl C X.env))
   (compPost (model X.prog X.w) X.A X.xe (some (assign (.Name x px) X.env)) (fun _ s'=>SP X pins D .next s') (.ref s2.heap.objs.size) C) s5:=by
  rintro s5 rfl
  have stat:∀ {H':Hp},(∀ b∈fp,H' b=none)->∀ b∈fp,hW Y [] H' b:=fun {H'} hn b hb=>by
   obtain⟨f0,f1,f2',f3,f4,f5⟩:=hf3 b hb;refine⟨hn b hb,?_,fun z=>?_,.inl hb,fun x c e=>f4 x c (q1 x c e),fun p hp=>absurd (show p∈([]:List (Addr×Obj)) from hp) (by simp)⟩
   ·show b≠C
    rw[<-hC];exact Nat.ne_of_lt (flt3 b hb)
   ·have z:b∈iR X.stack:=z
    rcases List.mem_cons.mp (I3.stkSub b z) with y | y
    ·exact f1 y
    ·exact f2' y
  refine fC (fun n s'=>∃ i σ' H',aE Y [] σ' H' s'/\tn i s'.heap/\(∀ b∈fp,H' b=none)/\W i n σ' H') ?_ m0 ⟨0,_,_,I4,st4,fun b hb=>(hf3 b hb).1,w0⟩;rintro n s6 ⟨i,σ6,H6,I6,st6,fr6,w6⟩;rcases turn i n σ6 H6 w6 with ⟨stop,qn⟩ | ⟨go,Nx,hN,step⟩
  ·refine bA (T.done Y rfl rfl rfl hc i [] s6 σ6 H6 _ I6 (stat fr6) st6 stop) fun r s7 ⟨hr,I7⟩=>?_
   subst hr;obtain⟨m,hn,_⟩:=id I7.loc;have freeC:H6 C=none:=I7.free;have J7:aE X pins σ H6 s7:=I3.call' (ch:=fp) (s':=s7) I7.os I7.base I7.hok I7.bare fun b hb=>⟨(hf3 b hb).2.2.2.1,(hf3 b hb).2.1,(hf3 b hb).2.2.2.2.1,(hf3 b hb).2.2.2.2.2⟩
   have hC3:∀ b o,s3.heap.get? b=some o->b≠C:=fun b o e=>by rw[<-hC];exact Nat.ne_of_lt (Heap.lt_size e)
   have hlC:X.env.locals≠C:=by obtain⟨m3,⟨o3,_,_,e3',_⟩,_⟩:=I3.loc;exact hC3 _ _ e3'
   have hcC:∀ y c,X.env.cells.lookup y=some c->c≠C:=fun y c e=>by obtain⟨v3,o3,e3',_⟩:=I3.cell y c e;exact hC3 _ _ e3'
   have hpC:∀ p∈X.pn++pins,p.1≠C:=fun p hp=>hC3 _ _ (I3.pin p hp).1;refine wpAny_assign_Name (uE (i:=ix) (v:=.ref s2.heap.objs.size) J7 hnd hix (.inl hx) rfl (fun s8 I8 ⟨a8,sb8,ha8⟩=>?_) (.inr hx))
   have ha8C:C≠a8:=by
    rcases ha8 with z | z
    ·rw[z];exact Ne.symm hlC
    ·exact Ne.symm (hcC _ _ z)
   refine⟨m,hn.sameBut sb8 ha8C,fun h' hsb=>?_⟩
   have I9:aE X pins (σ.set ix (some (.ref s2.heap.objs.size))) H6 { s8 with heap:=h' } :=
    I8.turned (it:=C) (t':=s8.toks) (fun b o hb e=>(hsb.2 b hb).trans e) freeC (Ne.symm hlC) (.inr (by rw[<-hC];exact I3.sz)) hcC hpC
   exact⟨_,H6,I9,qn⟩
  ·refine bA (T.item Y rfl rfl rfl hc i [] s6 σ6 H6 _ I6 (stat fr6) st6 go) fun r s7 ⟨u,hr,h7⟩=>?_
   subst hr;refine bA h7 fun _ s8 ⟨x,H8,I8,r8,y8,st8,fr8⟩=>?_;have I8':=I8.pinned (stat fr8) (T.obj _ _ st8);refine bA (hg _ s8 σ6 H8 x u _ I8' r8 (step x H8 y8)) fun _ s9 ⟨σ9,H9,I9,q9⟩=>?_
   have again:∀ {s':Shared}{σ7:St}{H7:Hp},aE Y ([]++i9 fp s8.heap) σ7 H7 s'->Nx σ7 H7->∃ m,m<n/\∃ i σ' H',aE Y [] σ' H' s'/\tn i s'.heap/\(∀ b∈fp,H' b=none)/\W i m σ' H':=fun {s' σ7 H7} I7 n7=>by
    obtain⟨m',hm,w7⟩:=hN σ7 H7 n7;refine⟨m',hm,i+1,σ7,H7,I7.unpinned,T.keep _ _ _ st8 fun b hb o e=>(I7.pin (b,o) (List.mem_append_right _ (List.mem_append_right _ (bT hb e)))).1,fun b hb=>?_,w7⟩;obtain⟨o,e,d⟩:=T.obj _ _ st8 b hb;exact (I7.pin (b,o) (List.mem_append_right _ (List.mem_append_right _ (bT hb e)))).2.1
   refine bA (ht _ s9 σ9 H9 _ I9 q9) fun ok s10 ⟨H10,I10,q10⟩=>?_
   cases ok with
   | false =>
    rw[if_neg Bool.false_ne_true]at q10 ⊢;exact again I10 q10
   | true =>
    rw[if_pos rfl]at q10 ⊢;refine bA (he _ s10 σ9 H10 _ I10 q10) fun y s11 ⟨yv,H11,I11,ry,ys,hys,hlen,q11⟩=>?_;exact bA (jT (X:=Y) I11 hys hlen ry) fun _ s12 I12=>again I12 q11
 exact codeAny_compStart_list (loop _ rfl) (T.self _ 0 _ _ _ st4 (loop _ rfl))
section
variable {X:Cx}
def F5 (i j:Int):Prop:=0<j/\j<1152921504606846976
theorem Ct:qO X (binaryOp .FloorDiv) (rI F5 fun i j=>.int (i/j)):=Gq fun i j _ _ _ _ _ hc q=>by
 have h1:(0:Int)<j:=hc.1;have h2:j<1152921504606846976:=hc.2;refine floordiv_int (by omega) (by rw[Int.fdiv_eq_ediv_of_nonneg i (by omega)];exact q) (.inl (PyProof.noPylong_of_log2 ?_))
 have h0:j.natAbs≠0:=by omega
 have:j.natAbs.log2<60:=(Nat.log2_lt h0).mpr (by omega);omega
theorem mG:jK X (.builtin "isinstance") (fun xs H Q=>∃ x T t b,xs=[x,.ty T]/\jS X.K H x t/\PySem.W.kitOne X.K t (.type T)=some b/\Q (.bl b) H):=by
 intro pins s σ H xs us Q I r h;obtain⟨x,T,t,b,rfl,ty,e,q⟩:=h
 cases r with
 | cons rx r2 =>
  cases r2 with
  | cons rt r3 =>
   cases r3;cases rt;exact AB I rx ty e fun tk=>⟨.bl b,H,I.tok tk,rfl,q⟩
theorem pZ {A:Around}{bs:List Bool}{its:List Value}(r:bt (bs.map V.bl) its) :
  TruthOf X.prog X.w A (fun i v=>its.toArray[i]? = some v) (fun i=>bs.getD i false):=by
 intro i v s Q E hv hq
 have hv':its[i]? = some v:=by simpa using hv
 have hi:i<its.length:=(List.getElem?_eq_some_iff.mp hv').1;have hl:=r.length;rw[List.length_map]at hl;obtain⟨u,hu,ru⟩:=r.get (i:=i) (x:=V.bl (bs[i]'(by omega))) (by rw[List.getElem?_map,List.getElem?_eq_getElem (by omega)];rfl);rw[hv']at hu;cases hu;cases ru
 have e:bs.getD i false=bs[i]'(by omega):=by simp[List.getD,List.getElem?_eq_getElem (show i<bs.length by omega)]
 have hq':Q (bs.getD i false) s:=hq;rw[e]at hq';exact wpAny_truthy_bool hq'
theorem Bb (bs:List Bool):(List.range bs.length).all (fun i=>bs.getD i false)=bs.all id:=by
 have h:(List.range bs.length).map (fun i=>bs.getD i false)=bs:=by
  apply List.ext_getElem
  ·simp
  ·intro i h1 h2;simp[List.getD,List.getElem?_eq_getElem h2]
 have e:(List.range bs.length).all (fun i=>bs.getD i false)=((List.range bs.length).map (fun i=>bs.getD i false)).all id:=by rw[List.all_map];rfl
 rw[e,h]
theorem Bc (bs:List Bool):(List.range bs.length).any (fun i=>bs.getD i false)=bs.any id:=by
 have h:(List.range bs.length).map (fun i=>bs.getD i false)=bs:=by
  apply List.ext_getElem
  ·simp
  ·intro i h1 h2;simp[List.getD,List.getElem?_eq_getElem h2]
 have e:(List.range bs.length).any (fun i=>bs.getD i false)=((List.range bs.length).map (fun i=>bs.getD i false)).any id:=by rw[List.any_map];rfl
 rw[e,h]
theorem uo {pins:List (Addr×Obj)}{σ:St}{H:Hp}{s:Shared}{A:Around}{E:Value->Shared->Prop}{p:Addr}{xs:List V}{its:List Value}{R:Value->Shared->Prop}(I:aE X pins σ H s)(hA:A.handled=none)(pl:PlainL s.heap p its.toArray)
  (h:∀ (I':Addr)(St:Nat->Heap->Prop)(s2:Shared),s2.heap.objs.size=s.heap.objs.size+1->I'=s.heap.objs.size->Walks X.prog X.w A I' [I',p] [I'] its.length (fun i v=>its.toArray[i]? = some v) St->St 0 s2.heap->(∀ b o,s.heap.get? b=some o->s2.heap.get? b=some o)->(∀ h' tk,(∀ b o,b∉[I']->s2.heap.get? b=some o->h'.get? b=some o)->aE X pins σ H { s2 with heap:=h',toks:=tk })->R (.ref I') s2) :
  wpAny (model X.prog X.w) A (pyIter (.ref p)) R E s:=by
 refine wpAny_pyIter_list pl.isList ?_
 have hlt:p<s.heap.objs.size:=by obtain⟨o,n,e,_⟩:=pl;exact Heap.lt_size e
 have W:=Walks.list (prog:=X.prog) (w:=X.w) hA s.heap.objs.size p (Nat.ne_of_lt hlt) its.toArray;rw[List.size_toArray]at W;refine h _ _ _ (by rw[Heap.size_push]) rfl W ⟨⟨_,Heap.get?_push_size _ rfl,rfl,rfl⟩,pl.isList.at fun o e=>Heap.get?_push_of_some _ e⟩ (fun b o e=>Heap.get?_push_of_some _ e) fun h' tk kp=>?_;exact I.kept (t':=tk) fun b o e=>kp b o (by simpa using Nat.ne_of_lt (Heap.lt_size e)) (Heap.get?_push_of_some _ e)
theorem ue (hc:X.calm=true):jK X (.builtin "all") (fun xs H Q=>∃ (p:Addr)(bs:List Bool),xs=[.ref p]/\aW X.K H p (bs.map V.bl)/\Q (.bl (bs.all id)) H):=by
 intro pins s σ H xs us Q I r h;obtain⟨p,bs,rfl,hq,q⟩:=h;obtain⟨u,rfl,rx⟩:=sN r;cases rx;obtain⟨its,rv,pl,hz⟩:=I.list hq;have hl:=rv.length;rw[List.length_map]at hl;refine call_all_walk (uo (xs:=bs.map V.bl) I (I.ok.hd hc) pl fun I' St s2 hs2 hI W st kp fin=>?_);refine⟨I',_,_,_,_,St,_,rfl,W,st,pZ rv,fun h' tk k=>⟨.bl _,H,fin h' tk k,rfl,?_⟩⟩;rw[<-hl,Bb];exact q
theorem An (hc:X.calm=true):jK X (.builtin "any") (fun xs H Q=>∃ (p:Addr)(bs:List Bool),xs=[.ref p]/\aW X.K H p (bs.map V.bl)/\Q (.bl (bs.any id)) H):=by
 intro pins s σ H xs us Q I r h;obtain⟨p,bs,rfl,hq,q⟩:=h;obtain⟨u,rfl,rx⟩:=sN r;cases rx;obtain⟨its,rv,pl,hz⟩:=I.list hq;have hl:=rv.length;rw[List.length_map]at hl;refine call_any_walk (uo (xs:=bs.map V.bl) I (I.ok.hd hc) pl fun I' St s2 hs2 hI W st kp fin=>?_);refine⟨I',_,_,_,_,St,_,rfl,W,st,pZ rv,fun h' tk k=>⟨.bl _,H,fin h' tk k,rfl,?_⟩⟩;rw[<-hl,Bc];exact q
theorem mO:∀ {ns:List Int}{us:List Value},bt (ns.map V.int) us->IntsAre us ns
 | [],_,r=>by cases r;exact IntsAre.nil
 | n::ns,_,r=>by
  cases r with
  | cons r t=>obtain⟨tk,rfl⟩:=r;exact IntsAre.cons _ _ (mO t)
theorem vR:∀ {ns:List Int}{us:List Value},IntsAre us ns->bt (ns.map V.int) us:=by
 intro ns
 induction ns with
 | nil=>intro us h;cases h;exact .nil
 | cons n ns ih =>
  intro us h
  cases h with
  | cons _ _ t=>exact .cons ⟨_,rfl⟩ (ih t)
def aZ:List Int->List Int:=fun l=>l.mergeSort (fun a b=>decide (a<=b))
theorem xE {l m:List Int}(hp:m.Perm l)(hs:m.Pairwise (·<=·)):m=aZ l:=by
 have h1:(aZ l).Pairwise (fun a b=>decide (a<=b)=true):=List.pairwise_mergeSort (by intro a b c;simp;omega) (by intro a b;simp;omega) l;have h2:(aZ l).Pairwise (·<=·):=h1.imp (by simp);have h3:m.Perm (aZ l):=hp.trans (List.mergeSort_perm l _).symm;exact h3.eq_of_pairwise (fun a b _ _ h1 h2=>Int.le_antisymm h1 h2) hs h2
theorem Ah:∀ {xs:List V}{us:List Value},xs.length=us.length->(∀ (i:Nat) x u,xs[i]? = some x->us[i]? = some u->bi x u)->bt xs us
 | [],[],_,_=>.nil
 | x::xs,u::us,hl,h=>.cons (h 0 x u rfl rfl) (Ah (by simpa using hl) fun i y v e1 e2=>h (i+1) y v (by simpa using e1) (by simpa using e2))
 | [],_::_,hl,_=>by simp at hl
 | _::_,[],hl,_=>by simp at hl
theorem eC (hc:X.calm=true):jK X (.builtin "sorted") (fun xs H Q=>∃ (p:Addr)(kvs:List (cm×V))(ns:List Int),xs=[.ref p]/\H p=some (.dK kvs)/\kvs.map (·.1)=ns.map Sum.inl/\ns.length<64/\∀ l,H l=none->Q (.ref l) (upd H l (.lst ((aZ ns).map V.int)))):=by
 intro pins s σ H xs us Q I r h;obtain⟨p,kvs,ns,rfl,hH,hk,h64,q⟩:=h;obtain⟨u,rfl,rx⟩:=sN r;cases rx;obtain⟨hz,lo,vs,rel,dd⟩:=(show bC X.prog X.w H s.heap p (.dK kvs) from I.hok p _ hH);obtain⟨ep,hat⟩:=dd.dictAt
 have hlk:kvs.length=ns.length:=by have:=congrArg List.length hk;simpa using this
 have hlv:kvs.length=vs.length:=Paired.length rel;refine PySem.Calls.call_function_entry kind_sorted plain_sorted entry_sorted (args_sorted1 _) ?_;unfold Builtin.«sorted»;refine wpAny_bind (m:=checkCount "sorted" 1 1 _) (wpAny_pure ?_);refine wpAny_bind (PySem.W.kdu_collect (A:=X.A.in1) (PySem.W.kdl_dict (knd:=bH X.prog X.w) (kvs:=vs) (ep:=ep) lo) (I.ok.hd hc) hat (by rw[<-hlv];exact hz) fun h' tk acc kp hacc=>?_)
 have hal:acc.toList.length=vs.length:=by rw[Array.length_toList];exact hacc.1
 refine wpAny_bind (wpAny_newList ?_ (by rw[hal,<-hlv];exact hz))
 have rI:bt (ns.map V.int) acc.toList:=Ah (by rw[List.length_map,hal];omega) fun i x v e1 e2=>by
  obtain⟨k,y,hx,hks⟩:=hacc.2 i v (by rw[<-Array.getElem?_toList];exact e2)
  have e3:(vs.map (·.1))[i]? = some k:=by rw[List.getElem?_map,hx];rfl
  rw[<-rel.keys,hk,List.getElem?_map]at e3;rw[List.getElem?_map]at e1
  cases en:ns[i]? with
  | none=>rw[en]at e1;cases e1
  | some n =>
   rw[en]at e1 e3;have e1':V.int n=x:=Option.some.inj e1;subst e1';have e4:(Sum.inl n:cm)=k:=Option.some.inj e3;subst e4;rcases bR (k:=Sum.inl n) (v:=v) hks with ⟨j,t,ej,ev⟩ | ⟨j,t,ej,_⟩
   ·cases ej;exact⟨t,ev⟩
   ·cases ej
 have hoL:(h'.push (seqObj "list" acc.toList.toArray 0)).get? h'.objs.size=some (seqObj "list" acc.toList.toArray 0):=Heap.get?_push_size _ rfl;refine wpAny_bind (wpAny_holding (wpAny_call_entry slot_list_sort ⟨_,hoL,rfl⟩ entry_list_sort (list_sort_tree hoL (mO rI) (by rw[hal];omega) fun out ns' a1 a2 a3=>⟨_,rfl,?_⟩) (args_list_sort _)));refine wpAny_pure ⟨_,rfl,?_⟩;have en:ns'=aZ ns:=xE a2 a3;subst en;obtain⟨e,he⟩:=sortedHeap_at (vs:=acc.toList) (out:=out) hoL;have I1:aE X pins σ H { s with heap:=h',toks:=tk }:=I.kept kp;refine⟨.ref h'.objs.size,_,I1.laid (t':=tk) (a:=h'.objs.size) (o:=.lst ((aZ ns).map V.int)) (fun b o e=>?_) (Nat.le_refl _) ⟨?_,out.toList,e,vR a1,by simpa using he⟩,rfl,q _ (I1.hok.fresh (Nat.le_refl _))⟩
 ·rw[sortedHeap_old (Nat.ne_of_lt (Heap.lt_size e)) (by rw[size_push'];exact Nat.lt_succ_of_lt (Heap.lt_size e))]
  exact Heap.get?_push_of_some _ e
 ·have:=a2.length_eq
  rw[List.length_map];omega
end
inductive Dt where
 | at (v:V)
 | sq (tup:Bool) (ds:List Dt)
def jW:V->Bool
 | .non=>true
 | .int _=>true
 | .str _=>true
 | _=>false
theorem rh {v:V}(h:jW v=true):BT v=true:=by cases v<;>first | rfl | cases h
theorem DK {x y:V}(hx:jW x=true)(hy:jW y=true):GX x y=true↔x=y:=by
 cases x<;>cases y<;>first | (cases hx;done) | (cases hy;done) | simp[GX]
def p9 (K:PySem.W.Frag)(H:Hp)(t:Bool)(a:Addr)(xs:List V):Prop:=if t=true then eP K H a xs else aW K H a xs
def RD (K:PySem.W.Frag)(H:Hp):Nat->V->Dt->Prop
 | 0,v,d=>jW v=true/\d=.at v
 | n+1,v,d=>(jW v=true/\d=.at v)\/∃ a t xs ds,v=.ref a/\d=.sq t ds/\p9 K H t a xs/\Paired (RD K H n) xs ds
theorem RD.flat {K:PySem.W.Frag}{H:Hp}{v:V}(h:jW v=true):∀ n,RD K H n v (.at v)
 | 0=>⟨h,rfl⟩
 | _+1=>.inl ⟨h,rfl⟩
theorem RD.lst {K:PySem.W.Frag}{H:Hp}{a:Addr}{xs:List V}{ds:List Dt}{n:Nat}(h:aW K H a xs)(r:Paired (RD K H n) xs ds):RD K H (n+1) (.ref a) (.sq false ds) :=
 .inr ⟨a,false,xs,ds,rfl,rfl,by unfold p9;rw[if_neg Bool.false_ne_true];exact h,r⟩
theorem RD.tup {K:PySem.W.Frag}{H:Hp}{a:Addr}{xs:List V}{ds:List Dt}{n:Nat}(h:eP K H a xs)(r:Paired (RD K H n) xs ds):RD K H (n+1) (.ref a) (.sq true ds) :=
 .inr ⟨a,true,xs,ds,rfl,rfl,by unfold p9;rw[if_pos rfl];exact h,r⟩
section
variable {X:Cx}{pins:List (Addr×Obj)}{σ:St}{H:Hp}{s:Shared}
theorem RD.inj (I:aE X pins σ H s):∀ {n m:Nat}{v:V}{d e:Dt},RD X.K H n v d->RD X.K H m v e->d=e:=by
 intro n
 induction n with
 | zero =>
  intro m v d e h1 h2;obtain⟨f,rfl⟩:=h1
  cases m with
  | zero=>exact h2.2.symm
  | succ m =>
   rcases h2 with h2 | ⟨a,t,xs,ds,rfl,_⟩
   ·exact h2.2.symm
   ·cases f
 | succ n ih =>
  intro m v d e h1 h2;rcases h1 with h1 | ⟨a,t,xs,ds,rfl,rfl,q,r⟩
  ·obtain⟨f,rfl⟩:=h1
   cases m with
   | zero=>exact h2.2.symm
   | succ m =>
    rcases h2 with h2 | ⟨a,t,xs,ds,rfl,_⟩
    ·exact h2.2.symm
    ·cases f
  ·cases m with
   | zero=>cases h2.1
   | succ m =>
    rcases h2 with h2 | ⟨a',t',xs',ds',ea,rfl,q',r'⟩
    ·cases h2.1
    ·cases ea
     have pr:∀ {l:List V}{l1 l2:List Dt},Paired (RD X.K H n) l l1->Paired (RD X.K H m) l l2->l1=l2:=by
      intro l
      induction l with
      | nil=>intro l1 l2 p1 p2;cases p1;cases p2;rfl
      | cons z l ihl =>
       intro l1 l2 p1 p2
       cases p1 with
       | cons r1 t1 =>
        cases p2 with
        | cons r2 t2=>rw[ih r1 r2,ihl t1 t2]
     cases t with
     | false =>
      have q:aW X.K H a xs:=by unfold p9 at q;rwa [if_neg Bool.false_ne_true]at q
      cases t' with
      | false =>
       have q':aW X.K H a xs':=by unfold p9 at q';rwa [if_neg Bool.false_ne_true]at q'
       have:=I.list_inj q q';subst this;rw[pr r r']
      | true =>
       have q':eP X.K H a xs':=by unfold p9 at q';rwa [if_pos rfl]at q'
       obtain⟨_,_,p1,_⟩:=I.list q;obtain⟨_,_,p2,_⟩:=I.tuple q';exact absurd rfl (SeqAt.ne_of_list_tuple p1.isList p2)
     | true =>
      have q:eP X.K H a xs:=by unfold p9 at q;rwa [if_pos rfl]at q
      cases t' with
      | false =>
       have q':aW X.K H a xs':=by unfold p9 at q';rwa [if_neg Bool.false_ne_true]at q'
       obtain⟨_,_,p1,_⟩:=I.tuple q;obtain⟨_,_,p2,_⟩:=I.list q';exact absurd rfl (SeqAt.ne_of_list_tuple p2.isList p1)
      | true =>
       have q':eP X.K H a xs':=by unfold p9 at q';rwa [if_pos rfl]at q'
       have:=I.tuple_inj q q';subst this;rw[pr r r']
theorem CZ (I:aE X pins σ H s):∀ (n:Nat){A:Around}{l b:Addr}{d e:Dt},A.units+n<cLine->RD X.K H (n+1) (.ref l) d->RD X.K H (n+1) (.ref b) e ->
  (∀ {A:Around}{y x:V}{u v:Value}{d e:Dt},A.units+n<cLine+1->RD X.K H n y d->RD X.K H n x e->bi y u->bi x v->∃ k:Bool,(k=true↔d=e)/\SeqAt.EqAt A s u v k) ->
  ∃ k:Bool,(k=true↔d=e)/\SeqAt.RcAt A s (.ref l) (.ref b) k:=by
 intro n A l b d e hu h1 h2 ih;rcases h1 with h1 | ⟨a,t,xs,ds,ea,rfl,q,r⟩
 ·cases h1.1
 cases ea;rcases h2 with h2 | ⟨a',t',xs',ds',ea,rfl,q',r'⟩
 ·cases h2.1
 cases ea
 have pw:∀ {us us':List Value},bt xs us->bt xs' us'->∃ ks:Nat->Bool,(∀ j (h1:j<us.length) (h2:j<us'.length),SeqAt.EqAt A.in1 s us[j] us'[j] (ks j)) /\
   (∀ j d1 d2,ds[j]? = some d1->ds'[j]? = some d2->(ks j=true↔d1=d2)):=by
  intro us us' rv rv'
  have ex:∀ j:Nat,∃ k:Bool,(∀ (h1:j<us.length)(h2:j<us'.length),SeqAt.EqAt A.in1 s us[j] us'[j] k)/\(∀ d1 d2,ds[j]? = some d1->ds'[j]? = some d2->(k=true↔d1=d2)):=by
   intro j
   by_cases hj:j<us.length/\j<us'.length
   ·obtain⟨h1,h2⟩:=hj
    have l1:=rv.length;have l2:=rv'.length;have l3:=Paired.length r;have l4:=Paired.length r';have gx:xs[j]? = some xs[j]:=List.getElem?_eq_getElem (by omega);have gx':xs'[j]? = some xs'[j]:=List.getElem?_eq_getElem (by omega);obtain⟨u,eu,ru⟩:=rv.get gx;obtain⟨u',eu',ru'⟩:=rv'.get gx'
    have eu2:us[j]=u:=by rw[List.getElem?_eq_getElem h1]at eu;exact Option.some.inj eu
    have eu2':us'[j]=u':=by rw[List.getElem?_eq_getElem h2]at eu';exact Option.some.inj eu'
    have pget:∀ {m:Nat}{zs:List V}{es:List Dt}(j:Nat){z:V},Paired (RD X.K H m) zs es->zs[j]? = some z->∃ f,es[j]? = some f/\RD X.K H m z f:=by
     intro m zs
     induction zs with
     | nil=>intro es j z p hz;simp at hz
     | cons z0 zs ihz =>
      intro es j z p hz
      cases p with
      | cons p1 p2 =>
       cases j with
       | zero=>simp at hz;subst hz;exact⟨_,rfl,p1⟩
       | succ j=>obtain⟨f,e1,e2⟩:=ihz j p2 (by simpa using hz);exact⟨f,by simpa using e1,e2⟩
    obtain⟨f,ef,rf⟩:=pget j r gx;obtain⟨f',ef',rf'⟩:=pget j r' gx';obtain⟨k,hk,he⟩:=ih (A:=A.in1) (by show A.units+1+n<cLine+1;omega) rf rf' ru ru';refine⟨k,fun _ _=>by rw[eu2,eu2'];exact he,fun d1 d2 e1 e2=>?_⟩;rw[ef]at e1;rw[ef']at e2;cases e1;cases e2;exact hk
   ·refine⟨false,fun h1 h2=>absurd ⟨h1,h2⟩ hj,fun d1 d2 e1 e2=>?_⟩
    have l1:=rv.length;have l2:=rv'.length;have l3:=Paired.length r;have l4:=Paired.length r';have:=(List.getElem?_eq_some_iff.mp e1).1;have:=(List.getElem?_eq_some_iff.mp e2).1;exact absurd ⟨by omega,by omega⟩ hj
  exact⟨fun j=>Classical.choose (ex j),fun j h1 h2=>(Classical.choose_spec (ex j)).1 h1 h2,fun j=>(Classical.choose_spec (ex j)).2⟩
 have allEq:∀ (ks:Nat->Bool),(∀ j d1 d2,ds[j]? = some d1->ds'[j]? = some d2->(ks j=true↔d1=d2))->ds.length=ds'.length->((List.range ds.length).all ks=true↔ds=ds'):=by
  intro ks hk hl;rw[List.all_eq_true];constructor
  ·intro h
   apply List.ext_getElem hl
   intro j h1 h2;exact (hk j _ _ (List.getElem?_eq_getElem h1) (List.getElem?_eq_getElem h2)).mp (h j (List.mem_range.mpr h1))
  ·rintro rfl j hj
   have h1:=List.mem_range.mp hj;exact (hk j _ _ (List.getElem?_eq_getElem h1) (List.getElem?_eq_getElem h1)).mpr rfl
 have l3:=Paired.length r;have l4:=Paired.length r'
 cases t with
 | false =>
  have q:aW X.K H l xs:=by unfold p9 at q;rwa [if_neg Bool.false_ne_true]at q
  obtain⟨us,rv,p1,_⟩:=I.list q;have l1:=rv.length
  cases t' with
  | true =>
   have q':eP X.K H b xs':=by unfold p9 at q';rwa [if_pos rfl]at q'
   obtain⟨us',rv',p2,_⟩:=I.tuple q';exact⟨false,by simp,SeqAt.RcAt.list_tuple p1.isList p2 (by omega)⟩
  | false =>
   have q':aW X.K H b xs':=by unfold p9 at q';rwa [if_neg Bool.false_ne_true]at q'
   obtain⟨us',rv',p2,_⟩:=I.list q';have l2:=rv'.length
   by_cases hl:us.length=us'.length
   ·obtain⟨ks,he,hk⟩:=pw rv rv'
    refine⟨(List.range us.toArray.size).all ks,?_,SeqAt.RcAt.lists p1.isList p2.isList (by simpa using hl) (by omega) fun j h1 h2=>by simpa using he j (by simpa using h1) (by simpa using h2)⟩;rw[List.size_toArray,show us.length=ds.length by omega,allEq ks hk (by omega)];constructor
    ·rintro rfl;rfl
    ·intro h;injection h
   ·refine⟨false,?_,SeqAt.RcAt.lists_lengths p1.isList p2.isList (by simpa using hl) (by omega)⟩
    constructor
    ·intro h;cases h
    ·intro h
     injection h with _ h;exact absurd (by rw[<-l1,l3,h,<-l4,l2]) hl
 | true =>
  have q:eP X.K H l xs:=by unfold p9 at q;rwa [if_pos rfl]at q
  obtain⟨us,rv,p1,_⟩:=I.tuple q;have l1:=rv.length
  cases t' with
  | false =>
   have q':aW X.K H b xs':=by unfold p9 at q';rwa [if_neg Bool.false_ne_true]at q'
   obtain⟨us',rv',p2,_⟩:=I.list q';exact⟨false,by simp,SeqAt.RcAt.tuple_list p1 p2.isList (by omega)⟩
  | true =>
   have q':eP X.K H b xs':=by unfold p9 at q';rwa [if_pos rfl]at q'
   obtain⟨us',rv',p2,_⟩:=I.tuple q';have l2:=rv'.length;obtain⟨ks,he,hk⟩:=pw rv rv';refine⟨_,?_,SeqAt.RcAt.tuples (e:=ks) (show s.heap.IsTuple l us.toArray from p1) (show s.heap.IsTuple b us'.toArray from p2) (by omega) fun j h1 h2=>by simpa using he j (by simpa using h1) (by simpa using h2)⟩
   by_cases hl:us.length=us'.length
   ·rw[List.size_toArray,List.size_toArray,<-hl,Nat.min_self,beq_self_eq_true,Bool.and_true,show us.length=ds.length by omega,allEq ks hk (by omega)]
    constructor
    ·rintro rfl;rfl
    ·intro h;injection h
   ·have:(us.toArray.size == us'.toArray.size)=false:=by simpa using hl
    rw[this,Bool.and_false];constructor
    ·intro h;cases h
    ·intro h
     injection h with _ h;exact absurd (by rw[<-l1,l3,h,<-l4,l2]) hl
theorem C0 (I:aE X pins σ H s):∀ (n:Nat){A:Around}{l b:Addr}{d e:Dt},A.units+n<cLine->RD X.K H (n+1) (.ref l) d->RD X.K H (n+1) (.ref b) e ->
  (∀ {A:Around}{y x:V}{u v:Value}{d e:Dt},A.units+n<cLine+1->RD X.K H n y d->RD X.K H n x e->bi y u->bi x v->∃ k:Bool,(k=true↔d=e)/\SeqAt.EqAt A s u v k) ->
  ∃ k:Bool,(k=true↔d=e)/\SeqAt.RcNeAt A s (.ref l) (.ref b) (!k):=by
 intro n A l b d e hu h1 h2 ih;rcases h1 with h1 | ⟨a,t,xs,ds,ea,rfl,q,r⟩
 ·cases h1.1
 cases ea;rcases h2 with h2 | ⟨a',t',xs',ds',ea,rfl,q',r'⟩
 ·cases h2.1
 cases ea
 have pw:∀ {us us':List Value},bt xs us->bt xs' us'->∃ ks:Nat->Bool,(∀ j (h1:j<us.length) (h2:j<us'.length),SeqAt.EqAt A.in1 s us[j] us'[j] (ks j)) /\
   (∀ j d1 d2,ds[j]? = some d1->ds'[j]? = some d2->(ks j=true↔d1=d2)):=by
  intro us us' rv rv'
  have ex:∀ j:Nat,∃ k:Bool,(∀ (h1:j<us.length)(h2:j<us'.length),SeqAt.EqAt A.in1 s us[j] us'[j] k)/\(∀ d1 d2,ds[j]? = some d1->ds'[j]? = some d2->(k=true↔d1=d2)):=by
   intro j
   by_cases hj:j<us.length/\j<us'.length
   ·obtain⟨h1,h2⟩:=hj
    have l1:=rv.length;have l2:=rv'.length;have l3:=Paired.length r;have l4:=Paired.length r';have gx:xs[j]? = some xs[j]:=List.getElem?_eq_getElem (by omega);have gx':xs'[j]? = some xs'[j]:=List.getElem?_eq_getElem (by omega);obtain⟨u,eu,ru⟩:=rv.get gx;obtain⟨u',eu',ru'⟩:=rv'.get gx'
    have eu2:us[j]=u:=by rw[List.getElem?_eq_getElem h1]at eu;exact Option.some.inj eu
    have eu2':us'[j]=u':=by rw[List.getElem?_eq_getElem h2]at eu';exact Option.some.inj eu'
    have pget:∀ {m:Nat}{zs:List V}{es:List Dt}(j:Nat){z:V},Paired (RD X.K H m) zs es->zs[j]? = some z->∃ f,es[j]? = some f/\RD X.K H m z f:=by
     intro m zs
     induction zs with
     | nil=>intro es j z p hz;simp at hz
     | cons z0 zs ihz =>
      intro es j z p hz
      cases p with
      | cons p1 p2 =>
       cases j with
       | zero=>simp at hz;subst hz;exact⟨_,rfl,p1⟩
       | succ j=>obtain⟨f,e1,e2⟩:=ihz j p2 (by simpa using hz);exact⟨f,by simpa using e1,e2⟩
    obtain⟨f,ef,rf⟩:=pget j r gx;obtain⟨f',ef',rf'⟩:=pget j r' gx';obtain⟨k,hk,he⟩:=ih (A:=A.in1) (by show A.units+1+n<cLine+1;omega) rf rf' ru ru';refine⟨k,fun _ _=>by rw[eu2,eu2'];exact he,fun d1 d2 e1 e2=>?_⟩;rw[ef]at e1;rw[ef']at e2;cases e1;cases e2;exact hk
   ·refine⟨false,fun h1 h2=>absurd ⟨h1,h2⟩ hj,fun d1 d2 e1 e2=>?_⟩
    have l1:=rv.length;have l2:=rv'.length;have l3:=Paired.length r;have l4:=Paired.length r';have:=(List.getElem?_eq_some_iff.mp e1).1;have:=(List.getElem?_eq_some_iff.mp e2).1;exact absurd ⟨by omega,by omega⟩ hj
  exact⟨fun j=>Classical.choose (ex j),fun j h1 h2=>(Classical.choose_spec (ex j)).1 h1 h2,fun j=>(Classical.choose_spec (ex j)).2⟩
 have allEq:∀ (ks:Nat->Bool),(∀ j d1 d2,ds[j]? = some d1->ds'[j]? = some d2->(ks j=true↔d1=d2))->ds.length=ds'.length->((List.range ds.length).all ks=true↔ds=ds'):=by
  intro ks hk hl;rw[List.all_eq_true];constructor
  ·intro h
   apply List.ext_getElem hl
   intro j h1 h2;exact (hk j _ _ (List.getElem?_eq_getElem h1) (List.getElem?_eq_getElem h2)).mp (h j (List.mem_range.mpr h1))
  ·rintro rfl j hj
   have h1:=List.mem_range.mp hj;exact (hk j _ _ (List.getElem?_eq_getElem h1) (List.getElem?_eq_getElem h1)).mpr rfl
 have l3:=Paired.length r;have l4:=Paired.length r'
 cases t with
 | false =>
  have q:aW X.K H l xs:=by unfold p9 at q;rwa [if_neg Bool.false_ne_true]at q
  obtain⟨us,rv,p1,_⟩:=I.list q;have l1:=rv.length
  cases t' with
  | true =>
   have q':eP X.K H b xs':=by unfold p9 at q';rwa [if_pos rfl]at q'
   obtain⟨us',rv',p2,_⟩:=I.tuple q';exact⟨false,by simp,SeqAt.RcNeAt.list_tuple p1.isList p2 (by omega)⟩
  | false =>
   have q':aW X.K H b xs':=by unfold p9 at q';rwa [if_neg Bool.false_ne_true]at q'
   obtain⟨us',rv',p2,_⟩:=I.list q';have l2:=rv'.length
   by_cases hl:us.length=us'.length
   ·obtain⟨ks,he,hk⟩:=pw rv rv'
    refine⟨(List.range us.toArray.size).all ks,?_,SeqAt.RcNeAt.lists p1.isList p2.isList (by simpa using hl) (by omega) fun j h1 h2=>by simpa using he j (by simpa using h1) (by simpa using h2)⟩;rw[List.size_toArray,show us.length=ds.length by omega,allEq ks hk (by omega)];constructor
    ·rintro rfl;rfl
    ·intro h;injection h
   ·refine⟨false,?_,SeqAt.RcNeAt.lists_lengths p1.isList p2.isList (by simpa using hl) (by omega)⟩
    constructor
    ·intro h;cases h
    ·intro h
     injection h with _ h;exact absurd (by rw[<-l1,l3,h,<-l4,l2]) hl
 | true =>
  have q:eP X.K H l xs:=by unfold p9 at q;rwa [if_pos rfl]at q
  obtain⟨us,rv,p1,_⟩:=I.tuple q;have l1:=rv.length
  cases t' with
  | false =>
   have q':aW X.K H b xs':=by unfold p9 at q';rwa [if_neg Bool.false_ne_true]at q'
   obtain⟨us',rv',p2,_⟩:=I.list q';exact⟨false,by simp,SeqAt.RcNeAt.tuple_list p1 p2.isList (by omega)⟩
  | true =>
   have q':eP X.K H b xs':=by unfold p9 at q';rwa [if_pos rfl]at q'
   obtain⟨us',rv',p2,_⟩:=I.tuple q';have l2:=rv'.length;obtain⟨ks,he,hk⟩:=pw rv rv';refine⟨(List.range (min us.toArray.size us'.toArray.size)).all ks&&us.toArray.size == us'.toArray.size,?_,SeqAt.RcNeAt.tuples (e:=ks) (show s.heap.IsTuple l us.toArray from p1) (show s.heap.IsTuple b us'.toArray from p2) (by omega) fun j h1 h2=>by simpa using he j (by simpa using h1) (by simpa using h2)⟩
   by_cases hl:us.length=us'.length
   ·rw[List.size_toArray,List.size_toArray,<-hl,Nat.min_self,beq_self_eq_true,Bool.and_true,show us.length=ds.length by omega,allEq ks hk (by omega)]
    constructor
    ·rintro rfl;rfl
    ·intro h;injection h
   ·have:(us.toArray.size == us'.toArray.size)=false:=by simpa using hl
    rw[this,Bool.and_false];constructor
    ·intro h;cases h
    ·intro h
     injection h with _ h;exact absurd (by rw[<-l1,l3,h,<-l4,l2]) hl
theorem BQ (I:aE X pins σ H s):∀ (n:Nat){A:Around}{y x:V}{u v:Value}{d e:Dt},A.units+n<cLine+1->RD X.K H n y d->RD X.K H n x e->bi y u->bi x v->∃ k:Bool,(k=true↔d=e)/\SeqAt.EqAt A s u v k:=by
 intro n
 have flatCase:∀ {A:Around}{y x:V}{u v:Value},jW y=true->jW x=true->bi y u->bi x v->∃ k:Bool,(k=true↔Dt.at y=Dt.at x)/\SeqAt.EqAt A s u v k:=by
  intro A y x u v fy fx ry rx;refine⟨GX y x,?_,E8 ry rx (rh fy) (rh fx)⟩;rw[DK fy fx];constructor
  ·rintro rfl;rfl
  ·intro h;injection h
 induction n with
 | zero =>
  intro A y x u v d e hu h1 h2 ry rx;obtain⟨f1,rfl⟩:=h1;obtain⟨f2,rfl⟩:=h2;exact flatCase f1 f2 ry rx
 | succ n ih =>
  intro A y x u v d e hu h1 h2 ry rx;rcases id h1 with ⟨f1,rfl⟩ | ⟨a,t,xs,ds,rfl,rfl,q,r⟩
  ·rcases id h2 with ⟨f2,rfl⟩ | ⟨a',t',xs',ds',rfl,rfl,q',r'⟩
   ·exact flatCase f1 f2 ry rx
   ·cases rx
    refine⟨false,by simp,?_⟩
    cases t' with
    | false =>
     have q':aW X.K H a' xs':=by unfold p9 at q';rwa [if_neg Bool.false_ne_true]at q'
     obtain⟨_,_,p,_⟩:=I.list q'
     cases y with
     | non=>cases ry;exact SeqAt.EqAt.none_list p.isList (by omega)
     | int _=>obtain⟨tk,rfl⟩:=ry;exact SeqAt.EqAt.int_list _ _ p.isList (by omega)
     | str _=>obtain⟨tk,rfl⟩:=ry;exact SeqAt.EqAt.str_list _ _ p.isList (by omega)
     | _=>cases f1
    | true =>
     have q':eP X.K H a' xs':=by unfold p9 at q';rwa [if_pos rfl]at q'
     obtain⟨_,_,p,_⟩:=I.tuple q'
     cases y with
     | non=>cases ry;exact SeqAt.EqAt.none_tuple p (by omega)
     | int _=>obtain⟨tk,rfl⟩:=ry;exact SeqAt.EqAt.int_tuple _ _ p (by omega)
     | str _=>obtain⟨tk,rfl⟩:=ry;exact SeqAt.EqAt.str_tuple _ _ p (by omega)
     | _=>cases f1
  ·cases ry
   rcases id h2 with ⟨f2,rfl⟩ | ⟨a',t',xs',ds',rfl,rfl,q',r'⟩
   ·refine⟨false,by simp,?_⟩
    cases t with
    | false =>
     have q:aW X.K H a xs:=by unfold p9 at q;rwa [if_neg Bool.false_ne_true]at q
     obtain⟨_,_,p,_⟩:=I.list q
     cases x with
     | non=>cases rx;exact SeqAt.EqAt.list_none p.isList (by omega)
     | int _=>obtain⟨tk,rfl⟩:=rx;exact SeqAt.EqAt.list_int _ _ p.isList (by omega)
     | str _=>obtain⟨tk,rfl⟩:=rx;exact SeqAt.EqAt.list_str _ _ p.isList (by omega)
     | _=>cases f2
    | true =>
     have q:eP X.K H a xs:=by unfold p9 at q;rwa [if_pos rfl]at q
     obtain⟨_,_,p,_⟩:=I.tuple q
     cases x with
     | non=>cases rx;exact SeqAt.EqAt.tuple_none p (by omega)
     | int _=>obtain⟨tk,rfl⟩:=rx;exact SeqAt.EqAt.tuple_int _ _ p (by omega)
     | str _=>obtain⟨tk,rfl⟩:=rx;exact SeqAt.EqAt.tuple_str _ _ p (by omega)
     | _=>cases f2
   ·cases rx
    by_cases hab:a=a'
    ·subst hab
     exact⟨true,by rw[RD.inj I h1 h2];simp,SeqAt.EqAt.same _⟩
    ·obtain⟨k,hk,hr⟩:=CZ I n (A:=A) (by omega) h1 h2 (fun hu'=>ih hu')
     exact⟨k,hk,.of_refs hab hr⟩
end
def GA (K:PySem.W.Frag)(n:Nat)(neg:Bool):R2:=fun x y H Q=>∃ a b d e,x=.ref a/\y=.ref b/\RD K H (n+1) x d/\RD K H (n+1) y e/\∀ k:Bool,(k=true↔d=e)->Q (.bl (if neg then !k else k)) H
section
variable {X:Cx}
theorem Fm (n:Nat)(hu:X.A.units+n<cLine):qO X (compareOp .Eq) (GA X.K n false):=by
 intro pins s σ H x y v u Q I rx ry h;obtain⟨a,b,d,e,rfl,rfl,h1,h2,q⟩:=h;cases rx;cases ry;obtain⟨k,hk,hr⟩:=CZ I n (A:=X.A) hu h1 h2 (fun hu'=>BQ I n hu');exact hr _ _ _ _ ⟨.bl k,H,I,rfl,q k hk⟩
theorem lO (n:Nat)(hu:X.A.units+n<cLine):qO X (compareOp .NotEq) (GA X.K n true):=by
 intro pins s σ H x y v u Q I rx ry h;obtain⟨a,b,d,e,rfl,rfl,h1,h2,q⟩:=h;cases rx;cases ry;obtain⟨k,hk,hr⟩:=C0 I n (A:=X.A) hu h1 h2 (fun hu'=>BQ I n hu');exact hr _ _ _ _ ⟨.bl (!k),H,I,rfl,q k hk⟩
end
open PySem PySem.Spec PyProof.Rows PySem.Calls
section
variable {prog:Program}{w:World}{A:Around}{E:Value->Shared->Prop}{s:Shared}{r d:Addr}{items:Array Value}
end
end L2
namespace Wz
open PySem L2
def gu (c:Int):Int:=if c<0 then -c else c
def dQ (ns:List Int)(k:Int):Int:=if k<(ns.length:Int) then ns.getD k.toNat 0 else 0
def dC (k c:Int):Int :=
 let left:=gu c
 let number:=(k*(1+left*1234567891%2147483646)+left/2147483646)%2147483647
 if left%5=4 then number+997852516353 else number
def dk (l:List (Int×Int)):List (cm×V):=l.map fun p=>(Sum.inl p.1,V.int p.2)
def look:List (Int×Int)->Int->Option Int
 | [],_=>none
 | p::r,g=>if p.1=g then some p.2 else look r g
def put (l:List (Int×Int))(g m:Int):List (Int×Int):=if (l.any fun p=>decide (p.1=g))=true then l.map (fun p=>if p.1=g then (p.1,m) else p) else l++[(g,m)]
def wr (l:List (Int×Int))(g:Int):Int:=(look l g).getD g
def sI (l:List (Int×Int))(p:Int×Int):List (Int×Int):=put (put l p.1 (wr l p.2)) p.2 (wr l p.1)
def kf (w:List (Int×Int))(ps:List (Int×Int)):List (Int×Int):=ps.foldl sI w
def aq (l:List (Int×Int)):List Int:=l.map (·.1)
def aF (l:List (Int×Int)):List Int:=(aZ (aq l)).filter fun g=>decide (wr l g≠g)
def yo (l:List (Int×Int)):List (Int×Int):=(aF l).map fun g=>(g,wr l g)
theorem dP:∀ (l:List (Int×Int))(g:Int),dH (dk l) (Sum.inl g:cm)=(look l g).map V.int
 | [],_=>rfl
 | p::r,g=>by
  by_cases h:p.1=g
  ·have e:dH (dk (p::r)) (Sum.inl g:cm)=some (V.int p.2):=kF (p:=(Sum.inl p.1,V.int p.2)) (r:=dk r) (by rw[h])
   rw[e];simp[look,h]
  ·have e:dH (dk (p::r)) (Sum.inl g:cm)=dH (dk r) (Sum.inl g):=kE (p:=(Sum.inl p.1,V.int p.2)) (r:=dk r) (fun z=>h (Sum.inl.inj z))
   rw[e,dP r g];simp[look,h]
theorem E4 (l:List (Int×Int))(g:Int):((dk l).any fun kv=>decide (kv.1=(Sum.inl g:cm)))=l.any fun p=>decide (p.1=g):=by
 unfold dk;rw[List.any_map]
 congr 1
 funext p
 simp[Function.comp]
theorem m8 (l:List (Int×Int))(g m:Int):fH (dk l) (Sum.inl g:cm) (V.int m)=dk (put l g m):=by
 unfold fH put;rw[E4]
 by_cases h:(l.any fun p=>decide (p.1=g))=true
 ·rw[if_pos h,if_pos h]
  unfold dk;rw[List.map_map,List.map_map]
  apply List.map_congr_left
  intro p _;simp only[Function.comp]
  by_cases e:p.1=g
  ·rw[if_pos (by rw[e]),if_pos e]
  ·rw[if_neg (fun z=>e (Sum.inl.inj z)),if_neg e]
 ·rw[if_neg h,if_neg h]
  unfold dk;simp
theorem rA (l:List (Int×Int))(g:Int):(l.any fun p=>decide (p.1=g))=(look l g).isSome:=by
 induction l with
 | nil=>rfl
 | cons p r ih =>
  rw[List.any_cons,ih]
  show _=(if p.1=g then some p.2 else look r g).isSome
  by_cases h:p.1=g<;>simp[h]
theorem bn {l:List (Int×Int)}{g:Int}:(look l g).isSome=true↔g∈aq l:=by
 rw[<-rA,List.any_eq_true];unfold aq;simp
theorem Cd (l:List (Int×Int))(g m h:Int):look (l.map (fun p=>if p.1=g then (p.1,m) else p)) h=if h=g then (look l g).map (fun _=>m) else look l h:=by
 induction l with
 | nil=>simp[look]
 | cons p r ih =>
  rw[List.map_cons]
  by_cases hp:p.1=g
  ·rw[if_pos hp]
   show (if p.1=h then some m else look _ h)=_
   rw[ih]
   by_cases hh:h=g
   ·subst hh;simp[hp,look]
   ·have:¬ p.1=h:=fun z=>hh (z.symm.trans hp)
    simp[hh,this,look]
  ·rw[if_neg hp]
   show (if p.1=h then some p.2 else look _ h)=_
   rw[ih]
   by_cases hh:h=g
   ·subst hh;simp[hp,look]
   ·simp[hh,look]
theorem wF (l r:List (Int×Int))(h:Int):look (l++r) h=(look l h).orElse fun _=>look r h:=by
 induction l with
 | nil=>rfl
 | cons p l ih =>
  show (if p.1=h then some p.2 else look (l++r) h)=_
  rw[ih]
  by_cases e:p.1=h<;>simp[look,e]
theorem bS (l:List (Int×Int))(g m h:Int):look (put l g m) h=if h=g then some m else look l h:=by
 unfold put;rw[rA]
 by_cases e:(look l g).isSome=true
 ·rw[if_pos e,Cd]
  obtain⟨v,hv⟩:=Option.isSome_iff_exists.mp e
  by_cases hh:h=g
  ·simp[hh,hv]
  ·simp[hh]
 ·rw[if_neg e,wF]
  have hn:look l g=none:=by simpa using e
  by_cases hh:h=g
  ·subst hh;simp[hn,look]
  ·have:¬ g=h:=fun z=>hh z.symm
   simp[hh,look,this]
theorem ro (l:List (Int×Int))(g m:Int):aq (put l g m)=if g∈aq l then aq l else aq l++[g]:=by
 unfold put;rw[rA]
 by_cases e:(look l g).isSome=true
 ·rw[if_pos e,if_pos (bn.mp e)]
  unfold aq;rw[List.map_map]
  apply List.map_congr_left
  intro p _;simp only[Function.comp];split<;>rfl
 ·rw[if_neg e,if_neg (fun z=>e (bn.mpr z))]
  simp[aq]
theorem zF {l:List (Int×Int)}{g m h:Int}:h∈aq (put l g m)↔h=g\/h∈aq l:=by
 rw[ro];split
 ·rename_i hn
  constructor
  ·exact .inr
  ·rintro (rfl | z)
   ·exact hn
   ·exact z
 ·simp[or_comm]
theorem Ds (l:List (Int×Int))(g m h:Int):wr (put l g m) h=if h=g then m else wr l h:=by
 unfold wr;rw[bS];split<;>simp_all
theorem Es (l:List (Int×Int))(p:Int×Int)(h:Int):wr (sI l p) h=if h=p.2 then wr l p.1 else if h=p.1 then wr l p.2 else wr l h:=by
 unfold sI;rw[Ds,Ds]
theorem Cj {l:List (Int×Int)}{p:Int×Int}{h:Int}:h∈aq (sI l p)↔h=p.2\/h=p.1\/h∈aq l:=by
 unfold sI;rw[zF,zF]
theorem uq:∀ (ps:List (Int×Int)){w:List (Int×Int)}{h:Int},h∈aq (kf w ps)↔h∈aq w\/∃ p∈ps,h=p.1\/h=p.2
 | [],_,_=>by simp[kf]
 | p::r,w,h=>by
  show h∈aq (kf (sI w p) r)↔_
  rw[uq r,Cj];constructor
  ·rintro ((e | e | e) | ⟨q,hq,e⟩)
   ·exact .inr ⟨p,List.mem_cons_self,.inr e⟩
   ·exact .inr ⟨p,List.mem_cons_self,.inl e⟩
   ·exact .inl e
   ·exact .inr ⟨q,List.mem_cons_of_mem _ hq,e⟩
  ·rintro (e | ⟨q,hq,e⟩)
   ·exact .inl (.inr (.inr e))
   ·rcases List.mem_cons.mp hq with rfl | hq
    ·rcases e with e | e
     ·exact .inl (.inr (.inl e))
     ·exact .inl (.inl e)
    ·exact .inr ⟨q,hq,e⟩
theorem u0 (l:List (Int×Int))(g m:Int):(put l g m).length<=l.length+1:=by
 unfold put;split<;>simp
def aA (f:Int->Int)(p:Int×Int):Int->Int:=fun h=>if h=p.2 then f p.1 else if h=p.1 then f p.2 else f h
theorem xQ:∀ (ps w:List (Int×Int)),wr (kf w ps)=ps.foldl aA (wr w)
 | [],_=>rfl
 | p::r,w=>by
  show wr (kf (sI w p) r)=r.foldl aA (aA (wr w) p)
  rw[xQ r]
  congr 1
  funext h
  exact Es w p h
theorem b6:∀ {l m:List Int},l.Nodup->(∀ x∈l,x∈m)->l.length<=m.length
 | [],_,_,_=>Nat.zero_le _
 | a::r,m,h,hs=>by
  obtain⟨h1,h2⟩:=List.nodup_cons.mp h;have ha:a∈m:=hs a List.mem_cons_self;have hl:(m.erase a).length=m.length-1:=List.length_erase_of_mem ha;have hpos:0<m.length:=List.length_pos_of_mem ha;have ih:=b6 (l:=r) (m:=m.erase a) h2 fun x hx=>(List.mem_erase_of_ne (show x≠a from fun e=>h1 (by rw[<-e];exact hx))).mpr (hs x (List.mem_cons_of_mem _ hx));rw[List.length_cons];omega
theorem gj {l:List Int}{x:Int}:x∈aZ l↔x∈l:=(List.mergeSort_perm l _).mem_iff
theorem iA (l:List Int):(aZ l).length=l.length:=(List.mergeSort_perm l _).length_eq
theorem DU (l:List (Int×Int)):(dk l).map (·.1)=(aq l).map Sum.inl:=by
 unfold dk aq;rw[List.map_map,List.map_map];rfl
theorem yk (l:List (Int×Int)):(dk l).length=l.length:=by unfold dk;simp
def au (P:Program)(w:World)(K:PySem.W.Frag)(mg:Str->Option Value)(base:Heap)(x:Str)(k:Nat)(ps:List Str)(sp:Sp):Prop :=
 ∃ (f:Addr)(fd:FuncData),bb P w K mg base cL k f fd ps sp/\mg x=some (.ref f)/\PySem.W.keepIn K (.ref f)=true/\gq K fd ps []
theorem aO {X:Cx}{x:Str}{k:Nat}{ps:List Str}{sp:Sp}{e:Expr}{es:List Expr}{t:TA}{p pos:Pos}(C:au X.prog X.w X.K X.mg X.base x k ps sp)(hr:cQ k X.A)(hg:Gl X x)(ha:PA X (e::es) t)
  (hdb:(x == ("__debug__" : Str))=false:=by decide) (he:starEach (e::es) X.env=(false,eval e X.env)::starEach es X.env:=by rfl) (hpl:(backTo pos (starEach es X.env)).any (·.1)=false:=by rfl) :
  PE X (.Call (.Name x p) (e::es) [] pos) (z6 sp [] E0 t):=by
 obtain⟨f,fd,G,hm,hk,hb⟩:=C;exact zQ G hr hg hm hk hb .nil dY ha hdb he hpl
theorem wE {X:Cx}(K:PySem.W.Frag)(hK:X.K=K:=by rfl):Ga X (GB K):=by subst hK;exact fu
theorem zC {X:Cx}(K:PySem.W.Frag)(hK:X.K=K:=by rfl):Ga X (Ek K):=by subst hK;exact bw
def cp (H:Hp)(l:Addr)(ps:List (Int×Int)):Prop:=∃ as:List Addr,H l=some (.lst (as.map V.ref))/\Paired (fun a (p:Int×Int)=>H a=some (.tup [.int p.1,.int p.2])) as ps
theorem cp.mono {H H':Hp}{l:Addr}{ps:List (Int×Int)}(r:cp H l ps)(s:ay H H'):cp H' l ps:=by
 obtain⟨as,h,p⟩:=r;exact⟨as,s _ _ h,Paired.mapP p fun a q z=>s _ _ z⟩
theorem aj {H:Hp}{l:Addr}{o:HO}(h:H l=none):ay H (upd H l o):=fun b u e=>by rw[af (ak e h)];exact e
theorem aY {H H':Hp}{l:Addr}{o:HO}(s:ay H H')(h:H l=none):ay H (upd H' l o):=fun b u e=>by rw[af (ak e h)];exact s b u e
theorem aU {α β:Type}{F:α->β->Prop}:∀ {l:List α}{m:List β}{i:Nat}{a:α},Paired F l m->l[i]? = some a->∃ b,m[i]? = some b/\F a b
 | _,_,_,_,.nil,h=>by simp at h
 | _,_,0,_,.cons r _,h=>by simp at h;subst h;exact⟨_,rfl,r⟩
 | _,_,i+1,a,.cons _ t,h=>by
  obtain⟨b,e1,e2⟩:=aU (i:=i) (a:=a) t (by simpa using h);exact⟨b,by simpa using e1,e2⟩
theorem aI {α β:Type}{F:α->β->Prop}:∀ {l l':List α}{m m':List β},Paired F l m->Paired F l' m'->Paired F (l++l') (m++m')
 | _,_,_,_,.nil,s=>s
 | _,_,_,_,.cons r t,s=>.cons r (aI t s)
theorem bo {α β:Type}{f:α->β}{l:List α}{i:Nat}{y:β}(h:(l.map f)[i]? = some y):∃ x,l[i]? = some x/\y=f x:=by
 rw[List.getElem?_map]at h
 cases e:l[i]? with
 | none=>rw[e]at h;cases h
 | some x=>rw[e]at h;exact⟨x,rfl,(Option.some.inj h).symm⟩
theorem Bq {α:Type}{l:List α}{i:Nat}{x:α}(h:l[i]? = some x):l.take (i+1)=l.take i++[x]:=by
 rw[List.take_add_one,h];rfl
theorem f9 {te:TE}{a:Addr}{D:jE}{σ:St}{H:Hp}(h:te σ H fun y H2=>∃ ys,H2 a=some (.lst ys)/\ys.length<sizeLine/\D.nx σ (upd H2 a (.lst (ys++[y])))):BB tO te a D σ H:=by
 unfold BB tO;dsimp only;rw[if_pos rfl];exact h
theorem pj {tt:TT}{te:TE}{a:Addr}{D:jE}{σ:St}{H:Hp}(h:tt σ H fun b H1=>if b=true then te σ H1 fun y H2=>∃ ys,H2 a=some (.lst ys)/\ys.length<sizeLine/\D.nx σ (upd H2 a (.lst (ys++[y]))) else D.nx σ H1):BB tt te a D σ H:=h
def sv (K:PySem.W.Frag):Sp:=fun vs H Q _=>∃ (a:Addr)(ns:List Int)(k:Int),vs=[.ref a,.int k]/\aW K H a (ns.map V.int)/\0<=k/\Q (.int (dQ ns k)) H
def vN:Sp:=fun vs H Q _=>∃ c:Int,vs=[.int c]/\Q (.int (gu c)) H
def vI:Sp:=fun vs H Q _=>∃ c m b:Int,vs=[.int c,.int m,.int b]/\(0<=m/\m<=1000)/\(0<b/\b<1073741824)/\∀ (l:Addr)(ds:List Int),H l=none->(∀ d∈ds,0<=d/\d<b)->(ds.length:Int)<=m->Q (.ref l) (upd H l (.lst (ds.map V.int)))
def y6 (K:PySem.W.Frag):Sp:=fun vs H Q _=>∃ (a:Addr)(ns:List Int)(st m b:Int),vs=[.ref a,.int st,.int m,.int b]/\aW K H a (ns.map V.int)/\(0<=st/\st<=63)/\(0<=m/\m<=1000)/\(0<b/\b<1073741824) /\
 ∀ (l:Addr)(H':Hp)(ds:List Int),H l=none->ay H H'->H' l=some (.lst (ds.map V.int))->(∀ d∈ds,0<=d/\d<b)->(ds.length:Int)<=m->Q (.ref l) H'
def nu:Sp:=fun vs H Q _=>∃ k c:Int,vs=[.int k,.int c]/\(0<=k/\k<=1000000)/\Q (.int (dC k c)) H
def vP:Sp:=fun vs H Q _=>∃ i:Int,vs=[.int i]/\Q (.bl true) H
def vL:Sp:=fun vs H Q _=>∃ (a:Addr)(p:Int×Int),vs=[.ref a]/\H a=some (.tup [.int p.1,.int p.2])/\Q (.bl true) H
def y7:Sp:=fun vs H Q _=>∃ (l:Addr)(ps:List (Int×Int)),vs=[.ref l]/\cp H l ps/\ps.length<=1000/\∀ H',ay H H'->Q (.bl true) H'
def zW (K:PySem.W.Frag):Sp:=fun vs H Q _=>∃ (a:Addr)(ns:List Int),vs=[.ref a]/\aW K H a (ns.map V.int)/\ns.length<=63/\∀ H',Q (.bl true) H'
def Gx (p:Int×Int):Dt:=.sq true [.at (.int p.1),.at (.int p.2)]
def Hu (ps:List (Int×Int)):Dt:=.sq false (ps.map Gx)
theorem C8 {K:PySem.W.Frag}{H:Hp}{l:Addr}{ps:List (Int×Int)}(r:cp H l ps):RD K H 2 (.ref l) (Hu ps):=by
 obtain⟨as,h,p⟩:=r;refine RD.lst (aW.of h) ?_;clear h
 induction p with
 | nil=>exact .nil
 | cons h _ ih=>exact .cons (RD.tup (eP.of h) (.cons (RD.flat rfl 0) (.cons (RD.flat rfl 0) .nil))) ih
def ux (ns:List Int):Dt:=.sq false (ns.map fun n=>.at (.int n))
theorem lM {σ:St}{H:Hp}{Q:Option Int->Hp->Prop}(h:Q none H):z8 σ H Q:=h
theorem AK (w:List (Int×Int)):(yo w).length<=w.length:=by
 unfold yo aF;rw[List.length_map];refine Nat.le_trans (List.length_filter_le _ _) ?_;rw[iA];unfold aq;rw[List.length_map];exact Nat.le_refl _
theorem Bz (w:List (Int×Int)):(aF w).length<=w.length:=by have:=AK w;unfold yo at this;rwa [List.length_map]at this
end Wz
namespace L2
open PySem PySem.Spec PyProof.Rows
def Ez (g B:Heap)(e:Addr)(c:Value)(od:Option Addr)(fl:Value):Prop :=
 ∃ oe us T oT ts,g.get? e=some oe/\(oe.cls=c/\oe.dict=od)/\oe.data=.fields us/\us[1]? = some (.ref T)/\B.get? T=none/\T≠e/\g.get? T=some oT/\oT.data=.fields ts/\ts[3]? = some fl
def mD (B:Heap)(l:List Env)(e:Addr)(c:Value)(od:Option Addr)(g:Heap):Prop:=B.StaysIn g/\B.get? e=none/\g.FunFrames B l/\Ez g B e c od .none
def Ew (B:Heap)(l:List Env)(e:Addr)(c:Value)(od:Option Addr)(L:Addr)(g:Heap):Prop:=B.StaysIn g/\B.get? e=none/\g.FunFrames B l/\Ez g B e c od (rawInt L)
theorem DI (f:Array Value->Array Value)(o:Obj):(Obj.mapFields f o).dict=o.dict:=by
 unfold Obj.mapFields;split<;>rfl
theorem mD.obj {B g:Heap}{l:List Env}{e:Addr}{c:Value}{od:Option Addr}(x:mD B l e c od g):∃ ob us,g.get? e=some ob/\ob.cls=c/\ob.dict=od/\ob.data=.fields us:=by
 obtain⟨_,_,_,oe,us,_,_,_,he,hc,hd,_⟩:=x;exact⟨oe,us,he,hc.1,hc.2,hd⟩
section
variable {M:Model}{A:Around}{E:Value->Shared->Prop}{s:Shared}{B:Heap}{env:Env}{outer:List Env}{L e:Addr}{od:Option Addr}{c:Value}
def GW (g g':Heap):Prop:=∀ b o,g.get? b=some o->(∀ us,o.data≠.fields us)->∃ sl,g'.get? b=some { o with slots:=sl }
theorem BP {oe:Obj}{us:Array Value}{head:Value}{hn:Bool}{Q:Unit->Shared->Prop}(fr:A.frames=some (env::outer))(hl:s.heap.FunFrames B (env::outer))(hf:env.frame=some L)
  (he:s.heap.get? e=some oe) (hk:B.StaysIn s.heap) (hb:B.get? e=none) (hd:oe.data=.fields us) (h1:1<us.size)
  (h:∀ g,B.StaysIn g->g.FunFrames B (env::outer)->Ez g B e oe.cls oe.dict (rawInt L)->GW s.heap g->Q () { s with heap:=g }) :
  wpAny M A (do let a <-frameOf env;let pl <-entryPlaceOf L hn;let b <-EntryCells.newEntry head a .none (rawInt L) .none pl;setField (.ref e) 1 b) Q E s:=by
 have hne:e∉(env::outer).filterMap (·.frame):=fun z=>by
  obtain⟨_,o,ho,nf⟩:=hl.mem z;rw[he]at ho;cases ho;exact nf us hd
 refine wpAny_bind (wpAny_frameOf_fun fr hl hf fun g1 sl1=>wpAny_bind (wpAny_entryPlaceOf fun pl hpl=>?_));unfold EntryCells.newEntry newFields;refine wpAny_bind (wpAny_newObj_type ?_ (hpl.sizeOk5 _ _ _ _ _));have e1:g1.get? e=some oe:=(sl1.2.1 e hne).trans he;have k1:B.StaysIn g1:=fun b o q=>(sl1.2.1 b fun z=>by rw[(hl.mem z).1]at q;cases q).trans (hk b o q);generalize hob:({ cls:=.type "traceback",dict:=none,data:=.fields ([head,.ref L,.none,rawInt L,.none]++(if pl.isEmpty then List.replicate 6 Value.none else pl)).toArray }:Obj)=ob
 have obd:ob.data=.fields ([head,.ref L,.none,rawInt L,.none]++(if pl.isEmpty then List.replicate 6 Value.none else pl)).toArray:=by rw[<-hob]
 have e2:=Heap.get?_push_of_some (h:=g1) ob e1;refine wpAny_setField e2 hd h1 ?_;have ne:g1.objs.size≠e:=Nat.ne_of_gt (Heap.lt_size e1);have d3:=Obj.data_mapFields hd (·.setIfInBounds 1 (Value.ref g1.objs.size));have e3:=Heap.get?_update_self (Obj.mapFields (·.setIfInBounds 1 (Value.ref g1.objs.size))) e2 (Obj.isFreed_of_fields d3)
 have keep:∀ b o,b≠e->g1.get? b=some o->((g1.push ob).update e (Obj.mapFields (·.setIfInBounds 1 (Value.ref g1.objs.size)))).get? b=some o:=fun b o n q=>by
  rw[Heap.get?_update_other _ _ (Ne.symm n)];exact Heap.get?_push_of_some _ q
 have nr:∀ b o,s.heap.get? b=some o->(∀ vs,o.data≠.fields vs)->b≠e:=fun b o q nf z=>by
  rw[z,he]at q;cases q;exact nf us hd
 refine h _ (fun b o q=>keep b o (fun z=>by rw[z,hb]at q;cases q) (k1 b o q)) (hl.of_keeps fun b o q nf=>?_) ?_ fun b o q nf=>?_
 ·obtain⟨sl,z⟩:=sl1.2.2 b o q
  exact⟨_,keep b _ (nr b o q nf) z,rfl⟩
 ·refine⟨_,_,g1.objs.size,ob,_,e3,⟨Obj.cls_mapFields _ _,DI _ _⟩,d3,by simp[h1],k1.fresh,ne,?_,obd,by first | (simp;done) | (rcases hpl with rfl | ⟨_,_,_,_,_,_,_,rfl⟩<;>simp)⟩
  rw[Heap.get?_update_other _ _ (Ne.symm ne)];exact Heap.get?_push_size g1 (by rw[<-hob];rfl)
 ·obtain⟨sl,z⟩:=sl1.2.2 b o q
  exact⟨sl,keep b _ (nr b o q nf) z⟩
theorem xi {oe:Obj}{us:Array Value}{Q:Unit->Shared->Prop}(fr:A.frames=some (env::outer))(hl:s.heap.FunFrames B (env::outer))(hf:env.frame=some L)
  (he:s.heap.get? e=some oe) (hk:B.StaysIn s.heap) (hb:B.get? e=none) (hd:oe.data=.fields us) (h1:us[1]? = some .none)
  (h:∀ g,B.StaysIn g->g.FunFrames B (env::outer)->Ez g B e oe.cls oe.dict (rawInt L)->GW s.heap g->Q () { s with heap:=g }):wpAny M A (noteFrame (.ref e) env) Q E s:=by
 unfold noteFrame;simp only[hf];refine wpAny_bind (wpAny_field he hd h1 ?_);rw[if_neg (by decide)];exact BP fr hl hf he hk hb hd (Array.getElem?_eq_some_iff.mp h1).1 h
theorem rJ {Q:Unit->Shared->Prop}(fr:A.frames=some (env::outer))(hl:s.heap.FunFrames B (env::outer))(hf:env.frame=some L)(ht:Ez s.heap B e c od .none)(hk:B.StaysIn s.heap)(hb:B.get? e=none)
  (h:∀ g,B.StaysIn g->g.FunFrames B (env::outer)->Ez g B e c od (rawInt L)->GW s.heap g->Q () { s with heap:=g }):wpAny M A (noteFrame (.ref e) env) Q E s:=by
 obtain⟨oe,us,T,oT,ts,he,⟨rfl,rfl⟩,hd,h1,nT,ne,hT,dT,h3⟩:=ht;unfold noteFrame;simp only[hf];refine wpAny_bind (wpAny_field he hd h1 ?_);rw[if_pos (show (Value.ref T != Value.none)=true by simp)];refine wpAny_bind (wpAny_field hT dT h3 ?_);rw[if_neg (show ¬((Value.none == rawInt L)=true) by simp[rawInt])];refine wpAny_bind (wpAny_setField hT dT (Array.getElem?_eq_some_iff.mp h3).1 ?_);have ot:∀ b,b≠T->(s.heap.update T (Obj.mapFields (·.setIfInBounds 3 Value.none))).get? b=s.heap.get? b:=fun b z=>Heap.get?_update_other _ _ (Ne.symm z)
 have nr:∀ b o,s.heap.get? b=some o->(∀ vs,o.data≠.fields vs)->b≠T:=fun b o q nf z=>by
  rw[z,hT]at q;cases q;exact nf ts dT
 refine BP fr (hl.of_keeps fun b o q nf=>⟨o,(ot b (nr b o q nf)).trans q,rfl⟩) hf ((ot e (Ne.symm ne)).trans he) (fun b o q=>(ot b fun z=>by rw[z,nT]at q;cases q).trans (hk b o q)) hb hd (Array.getElem?_eq_some_iff.mp h1).1 fun g a1 a2 a3 a4=>h g a1 a2 a3 fun b o q nf=>?_;exact a4 b o ((ot b (nr b o q nf)).trans q) nf
theorem qt {l:List Env}{fl:Value}{Q:Unit->Shared->Prop}(hk:B.StaysIn s.heap)(hl:s.heap.FunFrames B l)(ht:Ez s.heap B e c od fl)
  (h:∀ g,B.StaysIn g->g.FunFrames B l->Ez g B e c od .none->s.heap.UpToSlots g->Q () { s with heap:=g }):wpAny M A (setFlight (.ref e) none) Q E s:=by
 obtain⟨oe,us,T,oT,ts,he,hc,hd,h1,nT,ne,hT,dT,h3⟩:=ht;have z3:3<ts.size:=(Array.getElem?_eq_some_iff.mp h3).1;have ot:∀ b,b≠T->(s.heap.update T (Obj.mapFields (·.setIfInBounds 3 ((none:Option Addr).elim Value.none fun f=>rawInt f)))).get? b=s.heap.get? b:=fun b z=>Heap.get?_update_other _ _ (Ne.symm z)
 have nr:∀ b o,s.heap.get? b=some o->(∀ vs,o.data≠.fields vs)->b≠T:=fun b o q nf z=>by
  rw[z,hT]at q;cases q;exact nf ts dT
 unfold setFlight;refine wpAny_bind (wpAny_field he hd h1 ?_);rw[if_pos (show (Value.ref T != Value.none)=true by simp)];refine wpAny_setField hT dT z3 (h _ (fun b o q=>(ot b fun z=>by rw[z,nT]at q;cases q).trans (hk b o q)) (hl.of_keeps fun b o q nf=>⟨o,(ot b (nr b o q nf)).trans q,rfl⟩) ?_ fun b o q nf=>⟨o.slots,(ot b (nr b o q nf)).trans q⟩);exact⟨oe,us,T,_,_,(ot e (Ne.symm ne)).trans he,hc,hd,h1,nT,ne,Heap.get?_update_self _ hT (Obj.isFreed_of_fields (Obj.data_mapFields dT _)),Obj.data_mapFields dT _,by simp[z3]⟩
theorem Da {g g' g'':Heap}(a:GW g g')(b:g'.UpToSlots g''):g.UpToSlots g'':=fun x o q nf=>by
 obtain⟨sl,z⟩:=a x o q nf;obtain⟨sl2,z2⟩:=b x _ z nf;exact⟨sl2,z2⟩
theorem uZ {oe:Obj}{us:Array Value}{Q:Unit->Shared->Prop}(fr:A.frames=some (env::outer))(hf:env.frame=some L)(hk:B.StaysIn s.heap)(hl:s.heap.FunFrames B (env::outer))
  (he:s.heap.get? e=some oe) (hb:B.get? e=none) (hd:oe.data=.fields us) (h1:us[1]? = some .none)
  (hq:∀ g,mD B outer e oe.cls oe.dict g->s.heap.UpToSlots g->Q () { s with heap:=g }):wpAny M A (leaving env (.ref e)) Q E s:=by
 unfold leaving;refine wpAny_bind (xi fr hl hf he hk hb hd h1 fun g a1 a2 a3 a4=>?_);exact qt (s:={ s with heap:=g }) a1 a2 a3 fun g2 b1 b2 b3 b4=>hq g2 ⟨b1,hb,b2.2.2,b3⟩ (Da a4 b4)
theorem yj {Q:Unit->Shared->Prop}(fr:A.frames=some (env::outer))(hf:env.frame=some L)(fl:mD B (env::outer) e c od s.heap)
  (hq:∀ g,mD B outer e c od g->s.heap.UpToSlots g->Q () { s with heap:=g }):wpAny M A (leaving env (.ref e)) Q E s:=by
 obtain⟨f1,f2,f3,f4⟩:=fl;unfold leaving;refine wpAny_bind (rJ fr f3 hf f4 f1 f2 fun g a1 a2 a3 a4=>?_);exact qt (s:={ s with heap:=g }) a1 a2 a3 fun g2 b1 b2 b3 b4=>hq g2 ⟨b1,f2,b2.2.2,b3⟩ (Da a4 b4)
theorem AF {Q:Unit->Shared->Prop}(fr:A.frames=some (env::outer))(hf:env.frame=some L)(fl:mD B (env::outer) e c od s.heap)
  (hq:∀ g,Ew B (env::outer) e c od L g->s.heap.UpToSlots g->Q () { s with heap:=g }):wpAny M A (noteFrame (.ref e) env) Q E s:=by
 obtain⟨f1,f2,f3,f4⟩:=fl;exact rJ fr f3 hf f4 f1 f2 fun g a1 a2 a3 a4=>hq g ⟨a1,f2,a2,a3⟩ a4
theorem Fi {l:List Env}{Q:Unit->Shared->Prop}(hh:Ew B l e c od L s.heap)(hq:∀ g,mD B l e c od g->s.heap.UpToSlots g->Q () { s with heap:=g }):wpAny M A (setFlight (.ref e) none) Q E s:=by
 obtain⟨f1,f2,f3,f4⟩:=hh;exact qt f1 f3 f4 fun g a1 a2 a3 a4=>hq g ⟨a1,f2,a2,a3⟩ a4
theorem uY {l:List Env}{Q:Unit->Shared->Prop}(hh:mD B l e c od s.heap)(hq:∀ g,mD B l e c od g->s.heap.UpToSlots g->Q () { s with heap:=g }):wpAny M A (setFlight (.ref e) none) Q E s:=by
 obtain⟨f1,f2,f3,f4⟩:=hh;exact qt f1 f3 f4 fun g a1 a2 a3 a4=>hq g ⟨a1,f2,a2,a3⟩ a4
end
abbrev xV:List Value:=[.type "ValueError",.type "Exception",.type "BaseException",.type "object"]
def exOb (C t:Addr)(od:Option Addr):Obj:={ cls:=.ref C,dict:=od,data:=.fields #[.ref t,.none,.none,.none,.bool false,.none] }
def iC:List Value->Bool
 | .ref _::r=>iC r
 | l=>l == xV
theorem pW (self:Value):∀ {l:List Value},iC l=true->refuseLoop self "__setattr__" l=pure ()
 | .ref c::r,e=>by rw[refuseLoop_ref];exact pW self (l:=r) e
 | [],e=>by cases e
 | .type a::r,e=>by rw[show (.type a::r:List Value)=xV from beq_iff_eq.mp e];exact PySem.F.store_ValueError.passes self
 | .none::_,e=>by simp[iC,xV]at e
 | .bool _::_,e=>by simp[iC,xV]at e
 | .int _ _::_,e=>by simp[iC,xV]at e
 | .str _ _::_,e=>by simp[iC,xV]at e
 | .bytes _ _::_,e=>by simp[iC,xV]at e
 | .float _ _::_,e=>by simp[iC,xV]at e
 | .builtin _::_,e=>by simp[iC,xV]at e
 | .ellipsis::_,e=>by simp[iC,xV]at e
 | .notImplemented::_,e=>by simp[iC,xV]at e
def lF (K:PySem.W.Frag)(C fI:Addr):Bool:=match K.lookup C with
 | some ⟨.type "type",_,.cls cd,sl⟩=>(match cd.mro,sl.toList with
  | .ref D::bm,[_,_,_,_,some (.builtin n),_]=>D == C&&n == "ValueError.__new__"&&!cd.hasDel&&PySem.W.tailIn K xV bm&&PySem.W.nsOkIn K cd.ns&&PySem.W.nsIn K cd.ns "__init__" == some (some (.ref fI))
  | _,_=>false)
 | _=>false
theorem yz {K:PySem.W.Frag}{h:Heap}{N:Addr}{mg:Str->Option Value}{n:Str}{v:Value}(X:K.In h)(G:h.Ns N mg)(e:PySem.W.nsIn K N n=some (some v)):mg n=some v:=by
 obtain⟨o,es,ep,ho,hd,hk,hf⟩:=G;unfold PySem.W.nsIn at e;split at e
 ·rename_i oc od es2 n2 sl hl
  have:=X _ _ hl;rw[ho]at this;cases this;cases hd;split at e
  ·rename_i en he
   cases e;rw[<-hf n];unfold nsFind findBy;rw[<-Array.find?_toList,he];rfl
  ·split at e<;>cases e
 ·cases e
theorem wy {K:PySem.W.Frag}{h:Heap}{C fI:Addr}(X:K.In h)(q:lF K C fI=true) :
  ∃ bm N nm qn bs hdct sn sub ab col dd k0 k1 k2 k3 k5 mN,h.get? C=some (excClassObj nm qn C N bs bm hdct sn sub ab col dd k0 k1 k2 k3 k5 "ValueError.__new__")/\h.Ns N mN/\mN "__init__" = some (.ref fI)/\OwnTail h xV bm:=by
 unfold lF at q;split at q
 ·rename_i dd cd sl ho
  split at q
  ·rename_i D bm k0 k1 k2 k3 n k5 hm hs
   simp only[Bool.and_eq_true,beq_iff_eq,Bool.not_eq_true']at q;obtain⟨⟨⟨⟨⟨rfl,rfl⟩,hdel⟩,ht⟩,hok⟩,hni⟩:=q;obtain⟨nm,bs,mro,ns,qn,hd,sn,sub,ab,col,del⟩:=cd;dsimp only at hm hdel hok hni;subst hm hdel
   have hsl:sl = #[k0,k1,k2,k3,some (.builtin "ValueError.__new__"),k5]:=by
    obtain⟨l⟩:=sl;simp only at hs;rw[hs]
   subst hsl;have G:h.Ns ns _:=.of_isNs (PySem.W.isNs_of_in X hok);exact⟨bm,ns,nm,qn,bs,hd,sn,sub,ab,col,dd,k0,k1,k2,k3,k5,_,X _ _ ho,G,yz X G hni,PySem.W.tail_of_in X ht⟩
  ·cases q
 ·cases q
structure G8 (K:PySem.W.Frag)(C:Addr)(f:Str):Prop where
 ga:PySem.W.findIn K (.ref C) "__getattribute__" = some (some (.builtin "BaseException.__getattribute__"))
 gh:PySem.W.findIn K (.ref C) "__getattr__" = some none
 sa:PySem.W.findIn K (.ref C) "__setattr__" = some (some (.builtin "object.__setattr__"))
 na:PySem.W.findIn K (.ref C) f=some none
 hd:PySem.W.hasDictIn K C=true
 mb:PySem.W.mroIn K C (.type "BaseException")=some true
 mo:PySem.W.mroIn K C (.type "object")=some true
 ov:((PySem.W.clsIn K C).any fun cd=>iC cd.mro)=true
section
variable {prog:Program}{w:World}{A:Around}{E:Value->Shared->Prop}{s:Shared}{K:PySem.W.Frag}{x dx C:Addr}{mA:Str->Option Value}{f:Str}{v:Value}
theorem Fj {t:Addr}{Q:Unit->Shared->Prop}(X:K.In s.heap)(c:G8 K C f)(hx:s.heap.get? x=some (exOb C t none))
  (h:∀ h' tk,h'.get? x=some (exOb C t (some s.heap.objs.size))->h'.Ns1 s.heap.objs.size (fun y=>if y=f then some v else none)->(∀ b o,b≠x->s.heap.get? b=some o->h'.get? b=some o)->Q () { s with heap:=h',toks:=tk }) :
  wpAny (model prog w) A (setAttr (.ref x) f v) Q E s:=by
 have J:PySem.W.InstAt s.heap x (exOb C t none) C none:=⟨hx,rfl,rfl,trivial⟩;have SF:=PySem.F.store_ValueError;obtain⟨cd,hcd,ho⟩:=PySem.W.any_some c.ov;obtain⟨cd',hcd',hd'⟩:=PySem.W.any_some c.hd
 have e0:cd'=cd:=by rw[hcd]at hcd';exact (Option.some.inj hcd').symm
 subst e0;have L0:=J.type (M:=model prog w);have sub:PySem.W.Looks (model prog w) s.heap (isInstance (.ref x) (.type "object")) true:=L0.andThen (PySem.W.looks_mroIn X c.mo);have hm:PySem.W.Looks (model prog w) s.heap (mroOf (.ref C)) cd'.mro:=(PySem.W.looks_clsIn X hcd).andThen .now;refine PySem.W.set_plain X J c.sa ?_;refine codeAny_call_builtin SF.slot.plain SF.entry (@PySem.W.check_slot (model prog w) _ _ { s with toks:=s.toks+1 } "object.__setattr__" "object" "__setattr__" (.ref x) [.str f s.toks,v] [] _ SF.kind SF.split sub (SF.args (.ref x) (.str f s.toks) v) ?_);rw[PySem.W.osa_eq,refuse_eq];refine wpAny_bind (wpAny_bind (L0 _ _ _ _ (fun _ _ e=>e) (wpAny_bind (hm _ _ _ _ (fun _ _ e=>e) ?_))));rw[pW _ ho];refine wpAny_pure (wpAny_bind (L0 _ _ _ _ (fun _ _ e=>e) (wpAny_bind (PySem.W.looks_findIn X c.na _ _ _ _ (fun _ _ e=>e) (wpAny_bind (wpAny_pure ?_))))));refine wpAny_bind (wpAny_pure (wpAny_bind (wpAny_bind (wpAny_loadPart hx (wpAny_bind (PySem.W.Looks.here (s:={ s with toks:=s.toks+1 }) (PySem.W.looks_clsIn X hcd) ?_))))));rw[hd'];rw[if_neg (by decide)];have hxs:x≠s.heap.objs.size:=Nat.ne_of_lt (Heap.lt_size hx);have hx1:(s.heap.push { cls:=.type "dict",data:=.dict #[] }).get? x=some (exOb C t none):=Heap.get?_push_of_some _ hx
 show wpAny (model prog w) A.in1 (alloc { cls:=.type "dict",data:=.dict #[] } >>= fun dA=>(update x fun o=>{ cls:=o.cls,dict:=some dA,data:=o.data,slots:=o.slots }) >>= fun _=>dictMade (Value.ref C) x dA) _ _ _
 refine wpAny_bind (wpAny_alloc' (wpAny_bind (wpAny_update' hx1 (wpAny_pure ?_))));generalize hg:((s.heap.push { cls:=.type "dict",data:=.dict #[] }).update x fun o=>{ cls:=o.cls,dict:=some s.heap.objs.size,data:=o.data,slots:=o.slots })=g1
 have hgd:g1.get? s.heap.objs.size=some { cls:=.type "dict",data:=.dict #[] }:=by
  rw[<-hg,Heap.get?_update_ne _ _ _ _ hxs.symm];exact Heap.get?_push_at rfl rfl
 have hgx:g1.get? x=some (exOb C t (some s.heap.objs.size)):=by rw[<-hg];exact Heap.get?_update_self _ hx1 rfl
 have hgo:∀ b o,b≠x->s.heap.get? b=some o->g1.get? b=some o:=fun b o n q=>by rw[<-hg,Heap.get?_update_ne _ _ _ _ n];exact Heap.get?_push_of_some _ q
 have hnd:g1.Ns s.heap.objs.size (fun _=>none):=⟨_,#[],_,hgd,rfl,fun e he=>absurd he (by simp),fun _=>rfl⟩
 show wpAny _ _ (Builtin.ObjectAttr.storeInDict s.heap.objs.size (.str f s.toks) f v) _ _ _
 unfold Builtin.ObjectAttr.storeInDict Builtin.ObjectAttr.newKeyGuard;refine wpAny_bind (wpAny_pure (wpAny_bind (wpAny_nsSet1 (Heap.Ns1.of_empty hnd) fun h' hn2 hs2=>?_)));obtain⟨oD,esD,epD,hoD,hdD,hcD⟩:=hn2.count (PySem.Within.cons f v PySem.Within.nil);refine wpAny_bind (wpAny_lookBehind hoD (by rw[hdD];exact pastItsLine_dict (Nat.le_trans hcD (by rw[List.length_cons,List.length_nil,sizeLine_eq];omega))) ?_);refine wpAny_pure (h h' _ ((hs2.2 x hxs).trans hgx) hn2 fun b o n q=>?_);exact (hs2.2 b (Nat.ne_of_lt (Heap.lt_size q))).trans (hgo b o n q)
theorem Co {t fI:Addr}{u:Value}{Q:Value->Shared->Prop}(X:K.In s.heap)(c:lF K C fI=true)(hx:s.heap.get? x=some (exOb C t none))
  (h:∀ h' t',h'.get? x=some (exOb C t' none)->(∀ b o,b≠x->s.heap.get? b=some o->h'.get? b=some o)->Q .none { s with heap:=h' }) :
  wpAny (model prog w) A (call (.builtin "ValueError.__init__") [.ref x,u]) Q E s:=by
 have F:=PySem.F.excBase_ValueError;obtain⟨bm,N,nm,qn,bs,hdct,sn,sub,ab,col,dd,k0,k1,k2,k3,k5,mN,hC,hN,hni,T⟩:=wy X c;obtain⟨hp,g,d,tk,os⟩:=s;refine wpAny_call (codeAny_call_builtin F.init.plain F.initEntry (wpAny_check_init_subT F T hC hx rfl ?_));unfold Builtin.«BaseException.__init__»;dsimp only;rw[if_neg (by simp)];unfold newTuple Builtin.BaseException.bexcPut;have hx1:=Heap.get?_push_of_some (h:=hp) { cls:=.type "tuple",data:=.seq #[u] } hx;refine wpAny_bind (wpAny_newObj_type (wpAny_bind (wpAny_bind (wpAny_field hx1 rfl rfl (wpAny_bind (wpAny_setField hx1 rfl (by show 0<6;decide) ?_))))) (by size_fits));refine wpAny_letGo (wpAny_pure (h _ hp.objs.size ?_ fun b o n q=>?_))
 ·exact Heap.get?_update_self _ hx1 rfl
 ·rw[Heap.get?_update_other _ _ (Ne.symm n)];exact Heap.get?_push_of_some _ q
end
end L2
namespace PySem
open Sem (wp)
section
variable {prog:Program}{w:World}{A:Around}{E:Value->Shared->Prop}{h:Heap}{g:Array GenState}{d:Drawn}{t:Nat}{os:OsState}
variable {nm q:Str}{C N:Addr}{bs bm bmB:List Value}{hdct:Bool}{sn:List Str}{sub:List Value}{ab:Bool}{col:Option Bool}{dd:Option Addr}{k0 k1 k2 k3 k5:Option Value}{B newId initId:String}
theorem nN (F:ExcBaseFacts B newId initId bmB)(T:OwnTail h bmB bm){mN:Str->Option Value}{rest:List Value}{fI:Addr}{oI:Obj}{Q:Fin->Shared->Prop}
  (hC:h.get? C=some (excClassObj nm q C N bs bm hdct sn sub ab col dd k0 k1 k2 k3 k5 newId)) (hn:h.Ns N mN) (hi:mN "__init__" = some (.ref fI)) (hfI:h.get? fI=some oI) (hfc:oI.cls=.type "function")
  (hq:∀ h' e,Heap.MadeExcOf h h' e (.ref C) rest->wpAny (model prog w) A (call (.ref fI) (.ref e::rest)) (fun r s'=>r=.none/\Q (.done (.ret (.ref e))) s') E ⟨h',g,d,t,os⟩) (hrest:rest.length<=sizeLine) :
  wpAny (model prog w) A (Builtin.«type.__call__» ⟨.ref C::rest,[]⟩) Q E ⟨h,g,d,t,os⟩:=by
 repeat (first | with_reducible refine wpAny_loadPart_at hC ?_ | with_reducible refine wpAny_madeBy_exc hC ?_ | wp_step)
 refine codeAny_call_builtin_code (Code.quiet_builtin _ F.quiet) (wpAny_check_new_subT F T hC ?_);refine codeAny_exc_new_subT F T hC ?_ hrest
 show wpAny _ _ _ _ _ _
 have keep:∀ b o,h.get? b=some o->((h.push { cls:=.type "tuple",data:=.seq rest.toArray }).push { cls:=.ref C,data:=.fields #[.ref h.objs.size,.none,.none,.none,.bool false,.none] }).get? b=some o:=fun b o e=>Heap.get?_push_of_some _ (Heap.get?_push_of_some _ e);have hC1:=keep _ _ hC;have hn1:=hn.keeps keep
 have hget:((h.push { cls:=.type "tuple",data:=.seq rest.toArray }).push { cls:=.ref C,data:=.fields #[.ref h.objs.size,.none,.none,.none,.bool false,.none] }).get? (h.objs.size+1)=some { cls:=.ref C,data:=.fields #[.ref h.objs.size,.none,.none,.none,.bool false,.none] }:=by heap_get
 have hcC:(Value.ref C::bm).contains (.ref C)=true:=by simp
 have T1:=T.keeps keep;unfold isInstance
 repeat (first | with_reducible refine wpAny_loadPart_at hget ?_ | (with_reducible refine wpAny_isSubtype_exc hC1 ?_;rw[hcC]) | wp_step)
 show wpAny _ _ (typeLookup (.ref C) _) _ _ _
 refine wpAny_typeLookup_tail hC1 hn1 T1 F.mroIs F.init.lookup ?_;rw[hi];refine wpAny_holding (wpAny_bind ?_);unfold bindSpecial;refine wpAny_bind (wpAny_typeOf (T:="function") ⟨_,keep _ _ hfI,hfc⟩ ?_);rw[if_pos (by decide)];refine wpAny_pure (wpAny_bind (wpAny_mono (hq _ (h.objs.size+1) ⟨keep,Heap.get?_none_of_le (Nat.le_succ _),h.objs.size,hget,Heap.get?_none_of_le (Nat.le_refl _),Heap.get?_push_of_some _ (Heap.get?_push_at rfl rfl)⟩) (fun r s' hr=>?_) fun _ _ x=>x));obtain⟨rfl,hQ⟩:=hr
 wp_walk
 exact hQ
theorem vS (F:ExcBaseFacts B newId initId bmB)(T:OwnTail h bmB bm){mN:Str->Option Value}{rest:List Value}{fI:Addr}{oI:Obj}{Q:Value->Shared->Prop}
  (hC:h.get? C=some (excClassObj nm q C N bs bm hdct sn sub ab col dd k0 k1 k2 k3 k5 newId)) (hn:h.Ns N mN) (hi:mN "__init__" = some (.ref fI)) (hfI:h.get? fI=some oI) (hfc:oI.cls=.type "function")
  (hq:∀ h' e,Heap.MadeExcOf h h' e (.ref C) rest->wpAny (model prog w) (A.under (.builtin "type.__call__" ⟨.ref C::rest,[]⟩)) (call (.ref fI) (.ref e::rest)) (fun r s'=>r=.none/\Q (.ref e) s') E ⟨h',g,d,t,os⟩) (hrest:rest.length<=sizeLine) :
  wpAny (model prog w) A (call (.ref C) rest) Q E ⟨h,g,d,t,os⟩:=by
 have f1:=tc_lookup;have f2:=tc_bind (.ref C);have hT:(⟨h,g,d,t,os⟩:Shared).TypeIs (.ref C) "type":=⟨_,hC,rfl⟩;refine wpAny_call (codeAny_of_tree ?_)
 show wpAny _ _ (callAny (.ref C) _) _ _ _
 repeat (any_goals (first | assumption | with_reducible refine wpAny_loadPart_at hC ?_ | wp_step))
 refine⟨rfl,?_⟩;refine codeAny_call_builtin_at (Code.quiet_builtin _ (by decide +kernel)) entry_typeCall (wpAny_check_type_call_sub hC (nN F T hC hn hi hfI hfc (fun h' e hm=>?_) hrest));exact hq h' e hm
theorem Du {x:Sem Value}{s:Shared}{env:Env}{Q:Flow->Shared->Prop}(hbase:bm.contains (.type "BaseException")=true)(hh:A.handled=none)
  (h:wpAny (model prog w) A x (fun v s1=>∃ e t od,v=.ref e/\s1.heap.get? C=some (excClassObj nm q C N bs bm hdct sn sub ab col dd k0 k1 k2 k3 k5 newId)/\s1.heap.get? e=some (L2.exOb C t od)/\E (.ref e) s1) E s) :
  wpAny (model prog w) A (raiseStmt env (some x) none) Q E s:=by
 have hcB:(Value.ref C::bm).contains (.type "BaseException")=true:=by rw[List.contains_cons,hbase,Bool.or_true]
 unfold raiseStmt;refine wpAny_bind (wpAny_mono h (fun v s1 h1=>?_) fun _ _ x=>x);obtain⟨e,t,od,rfl,hC,he,hE⟩:=h1;obtain⟨hp,g,d,tk,os⟩:=s1;unfold L2.exOb at he
 repeat (first | with_reducible refine wpAny_loadPart_at he ?_ | with_reducible refine wpAny_loadPart_at hC ?_ | (with_reducible refine wpAny_isSubtype_exc hC ?_;rw[hcB]) | wp_step)
 exact wpAny_raiseNew_none hh hE
end
end PySem
namespace L2
open PySem PySem.Spec PyProof.Rows
abbrev eB (K:PySem.W.Frag)(C:Addr):Prop:=PySem.W.excIn K C xV "ValueError.__new__" = true
theorem DL {K:PySem.W.Frag}{h:Heap}{C:Addr}(X:K.In h)(q:eB K C) :
  ∃ bm N nm qn bs hdct sn sub ab col dd k0 k1 k2 k3 k5 mN,h.get? C=some (excClassObj nm qn C N bs bm hdct sn sub ab col dd k0 k1 k2 k3 k5 "ValueError.__new__")/\h.Ns N mN/\mN "__init__" = none/\OwnTail h xV bm:=by
 have q:PySem.W.excIn K C xV "ValueError.__new__" = true:=q;unfold PySem.W.excIn at q;split at q
 ·rename_i dd cd sl ho
  split at q
  ·rename_i C' bm k0 k1 k2 k3 n k5 hm hs
   simp only[Bool.and_eq_true,beq_iff_eq,Bool.not_eq_true']at q;obtain⟨⟨⟨⟨⟨rfl,rfl⟩,hdel⟩,ht⟩,hok⟩,hni⟩:=q;obtain⟨nm,bs,mro,ns,qn,hd,sn,sub,ab,col,del⟩:=cd;dsimp only at hm hdel hok hni;subst hm hdel
   have hsl:sl = #[k0,k1,k2,k3,some (.builtin "ValueError.__new__"),k5]:=by
    obtain⟨l⟩:=sl;simp only at hs;rw[hs]
   subst hsl;exact⟨bm,ns,nm,qn,bs,hd,sn,sub,ab,col,dd,k0,k1,k2,k3,k5,_,X _ _ ho,.of_isNs (PySem.W.isNs_of_in X hok),PySem.W.nsMap_none_of_in X hok hni,PySem.W.tail_of_in X ht⟩
  ·cases q
 ·cases q
def wx (e C:Addr)(od:Option Addr):HO:=.ext fun h=>∃ t,h.get? e=some (exOb C t od)
theorem x8 {P:Program}{w:World}{H:Hp}{h:Heap}{e C t:Addr}{od:Option Addr}(q:h.get? e=some (exOb C t od)):bC P w H h e (wx e C od):=⟨⟨t,q⟩,⟨_,q⟩,fun h1 h2 ⟨t,q⟩ k=>⟨t,k _ q⟩⟩
def tP (H:Hp)(a:Addr):Hp:=fun b=>if b=a then none else H b
theorem kS {H:Hp}{a b:Addr}(h:b≠a):tP H a b=H b:=by unfold tP;rw[if_neg h]
theorem Bx {H:Hp}{a:Addr}:tP H a a=none:=by unfold tP;rw[if_pos rfl]
theorem aE.untrack {X:Cx}{pins:List (Addr×Obj)}{σ:St}{H:Hp}{s:Shared}{a:Addr}{φ:Heap->Prop}(I:aE X pins σ H s)(e:H a=some (.ext φ)):aE X pins σ (tP H a) s:=by
 have ne:∀ b o,H b=some o->(∀ ψ,o≠.ext ψ)->b≠a:=fun b o q n z=>by rw[z,e]at q;cases q;exact n _ rfl
 have u:Un X.fs [] H (tP H a) s.heap s.heap :=
  ⟨fun b o q _ _ _=>q,fun b o q _ _ _=>⟨o.slots,q⟩,fun b o q n _=>by unfold tP;split<;>first | rfl | exact n,fun b o q _=>⟨o,q⟩,fun b xs q=>by rw[kS (ne b _ q fun ψ z=>nomatch z)];exact q,fun b o u q=>by rw[kS (ne b _ q fun ψ z=>nomatch z)];exact q,fun b ps q=>⟨#[],by rw[kS (ne b _ q fun ψ z=>nomatch z),q];simp⟩⟩
 have hk:jz X.prog X.w (tP H a) s.heap:=fun b o q=>by
  by_cases hb:b=a
  ·rw[hb,Bx]at q;cases q
  ·rw[kS hb]at q
   exact (I.hok b o q).stay (fun c v _ r=>r) (fun c r=>by rw[kS (ne c _ r fun ψ z=>nomatch z)];exact r) fun c xs r=>by rw[kS (ne c _ r fun ψ z=>nomatch z)];exact r
 exact I.un (t':=s.toks) u hk
theorem bC.has {P:Program}{w:World}{H:Hp}{h:Heap}{a:Addr}{o:HO}(x:bC P w H h a o):∃ u,h.get? a=some u:=by
 cases o with
 | lst xs=>obtain⟨_,_,_,_,e⟩:=x;exact⟨_,e⟩
 | tup xs=>obtain⟨_,_,_,u,e,_⟩:=x;exact⟨u,e⟩
 | dK kvs=>obtain⟨_,_,_,_,o,_,_,e,_⟩:=x;exact⟨o,e⟩
 | dT kvs=>obtain⟨_,_,_,_,o,_,_,e,_⟩:=x;exact⟨o,e⟩
 | set S n=>obtain⟨o,_,_,_,e,_⟩:=x;exact⟨o,e⟩
 | ins C dx fs=>obtain⟨_,_,_,e,_⟩:=x;exact⟨_,e⟩
 | own y=>exact x
 | xd fs=>obtain⟨_,⟨o,_,_,e,_⟩,_⟩:=x;exact⟨o,e⟩
 | rng lo hi=>obtain⟨_,_,_,e⟩:=x;exact⟨_,e⟩
 | frz ob u=>obtain⟨e,_⟩:=x;exact⟨ob,e⟩
 | tbl ps=>exact⟨_,(show h.get? a=some _ from x)⟩
 | met f y=>exact⟨_,(show h.get? a=some _ from x)⟩
 | ext φ=>obtain⟨_,e,_⟩:=x;exact e
def jD (P:Program)(w:World):vW:=fun outer H s E e s'=>∃ (ea C:Addr)(od:Option Addr)(H':Hp)(B:Heap),e=.ref ea/\mD B outer ea (.ref C) od s'.heap/\Un (iR outer) [] H H' s.heap s'.heap/\jz P w H' s'.heap/\s'.os=s.os/\AllBare s'.gens /\
 (∀ b o,s.heap.get? b=some o->b∉iR outer->∃ o',B.get? b=some o')/\(∀ b o,H' b=some o->∃ o',B.get? b=some o')/\E (.ref C) od H'
theorem Dm {fs:List Addr}{H H':Hp}{h h1 h2 B:Heap}(u:Un fs [] H H' h h1)(b1:B.StaysIn h1)(b2:B.StaysIn h2)(hb:∀ b o,h.get? b=some o->b∉fs->∃ o',B.get? b=some o')(sl:∀ b o,b∈fs->h.get? b=some o->H b=none->∃ sl,h2.get? b=some { o with slots:=sl })(th:∀ b o,b∈fs->h.get? b=some o->∃ o',h2.get? b=some o'):Un fs [] H H' h h2:=by
 have eq:∀ b o,h.get? b=some o->b∉fs->h2.get? b=h1.get? b:=fun b o e hf=>by
  obtain⟨o',e'⟩:=hb b o e hf;rw[b1 b o' e',b2 b o' e']
 refine⟨fun b o e n hf hx=>(eq b o e hf).trans (u.keep b o e n hf hx),fun b o e n hf hx=>sl b o hf e n,u.free,fun b o e hx=>?_,u.tups,u.frzs,u.tbls⟩
 by_cases hf:b∈fs
 ·exact th b o hf e
 ·rw[eq b o e hf];exact u.there b o e hx
theorem ye {P:Program}{w:World}{H:Hp}{h1 h2 B:Heap}(x:jz P w H h1)(b1:B.StaysIn h1)(b2:B.StaysIn h2)(hb:∀ b o,H b=some o->∃ o',B.get? b=some o'):jz P w H h2:=fun a o e =>
 (x a o e).stay (fun b u hc q=>by
  have:∃ o',B.get? b=some o':=by
   rcases hc with z | z
   ·rw[z];exact hb a o e
   ·exact hb b _ z
  obtain⟨o',e'⟩:=this;rw[b1 b o' e']at q;rw[<-q]
  exact b2 b o' e') (fun _ q=>q) fun _ _ q=>q
def zh (X:Cx)(E:XK):Prop:=∀ (pins:List (Addr×Obj))(σ:St)(H:Hp)(s:Shared)(ea C t:Addr)(od:Option Addr),aE X pins σ H s->s.heap.get? ea=some (exOb C t od)->H ea=none->X.s₀.heap.get? ea=none->E (.ref C) od H->X.xe (.ref ea) s
section
variable {P:Program}{w:World}{K:PySem.W.Frag}{mg:Str->Option Value}{base:Heap}{N:List Str}{qual:Str}{sc:Scope}{f:Addr}{cd:Value}{A:Around}{outer:List Env}{s0:Shared}{H0:Hp}{E:XK}
theorem dF:zh (qW (jD P w) P w K mg base N qual sc f cd A outer s0 H0 E) E:=by
 intro pins σ H s ea C t od I hx hn hs hE
 let X:Cx:=qW (jD P w) P w K mg base N qual sc f cd A outer s0 H0 E
 show wpAny _ _ (leaving _ _) _ _ _
 have hstk:(X.A.frames:Option (List Env))=some (X.env::outer):=I.ok.frames
 have frS:iR X.stack=X.env.locals::iR outer:=by unfold iR;rfl
 let B:Heap:=PySem.W.hideAll s.heap (ea::iR X.stack)
 have hkb:B.StaysIn s.heap:=fun b o q=>PySem.W.of_hideAll _ q;have inB:∀ b o,s.heap.get? b=some o->b≠ea->b∉iR X.stack->B.get? b=some o:=fun b o e ne hf=>PySem.W.hideAll_get _ e (fun z=>(List.mem_cons.mp z).elim ne hf);have hl:s.heap.FunFrames B (X.env::outer):=PySem.W.funFrames_hide I.stack fun env he a hf=>List.mem_cons_of_mem _ (List.mem_filterMap.mpr ⟨env,he,hf⟩);refine uZ (s:=s) hstk rfl hkb hl hx (PySem.W.hideAll_none _ List.mem_cons_self) rfl rfl fun h2 fl ups=>?_;have ltl:∀ b o,s0.heap.get? b=some o->b≠X.env.locals:=fun b o e=>Nat.ne_of_lt (Nat.lt_of_lt_of_le (Heap.lt_size e) I.ok.above)
 have h0B:∀ b o,s0.heap.get? b=some o->b∉iR outer->∃ o',B.get? b=some o':=fun b o e hf=>by
  obtain⟨o',e'⟩:=I.base.there b o e (by intro z;exact absurd (show b∈([]:List Addr) from z) (by simp));refine⟨o',inB b o' e' (fun z=>?_) ?_⟩
  ·have hs':s0.heap.get? ea=none:=hs
   rw[z,hs']at e;cases e
  ·rw[frS]
   intro z;rcases List.mem_cons.mp z with z | z
   ·exact ltl b o e z
   ·exact hf z
 have trB:∀ b o,H b=some o->∃ o',B.get? b=some o':=fun b o e=>by
  obtain⟨u,q⟩:=(I.hok b o e).has;exact⟨u,inB b u q (fun z=>by rw[z,hn]at e;cases e) fun z=>by rw[I.stkFree b z]at e;cases e⟩
 have noEx:∀ b,b∉X.ex:=fun b z=>absurd (show b∈([]:List Addr) from z) (by simp)
 have slot2:∀ b o,b∈iR outer->s0.heap.get? b=some o->H0 b=none->∃ sl,h2.get? b=some { o with slots:=sl }:=fun b o hf e n=>by
  obtain⟨sl,e1⟩:=I.base.slot b o e n hf (noEx b);obtain⟨_,o2,ho2,hnf⟩:=I.ok.funs.mem hf
  have e2:o2=o:=by
   have:s0.heap.get? b=some o2:=ho2;rw[e]at this;exact (Option.some.inj this).symm
  subst e2;obtain⟨sl2,e3⟩:=ups b _ e1 hnf;exact⟨sl2,e3⟩
 refine⟨ea,C,od,H,B,rfl,fl,?_,ye I.hok hkb fl.1 trB,I.os,I.bare,h0B,trB,hE⟩;refine Dm (h1:=s.heap) I.base hkb fl.1 h0B (fun b o hf e n=>?_) fun b o hf e=>?_
 ·exact slot2 b o hf e n
 ·obtain⟨sl,q⟩:=slot2 b o hf e (I.ok.frf b hf)
  exact⟨_,q⟩
theorem fz:fO (jD P w) (qW (jD P w) P w K mg base N qual sc f cd A outer s0 H0 E) E:=by
 intro pins σ H s e s' I hc;obtain⟨ea,C,od,H',B,rfl,fl,un,hok,os,bare,hsB,trB,hE⟩:=hc
 let X:Cx:=qW (jD P w) P w K mg base N qual sc f cd A outer s0 H0 E
 show wpAny _ _ (leaving _ _) _ _ _
 have hstk:(X.A.frames:Option (List Env))=some (X.env::outer):=I.ok.frames
 have frS:iR X.stack=X.env.locals::iR outer:=by unfold iR;rfl
 refine yj hstk rfl fl fun h2 fl2 ups=>?_;have ltl:∀ b o,s0.heap.get? b=some o->b≠X.env.locals:=fun b o e=>Nat.ne_of_lt (Nat.lt_of_lt_of_le (Heap.lt_size e) I.ok.above);have noEx:∀ b,b∉X.ex:=fun b z=>absurd (show b∈([]:List Addr) from z) (by simp)
 have h0B:∀ b o,s0.heap.get? b=some o->b∉iR outer->∃ o',B.get? b=some o':=fun b o e hf=>by
  obtain⟨o',e'⟩:=I.base.there b o e (noEx b);refine hsB b o' e' ?_;rw[frS];intro z;rcases List.mem_cons.mp z with z | z
  ·exact ltl b o e z
  ·exact hf z
 have unS:Un (iR outer) [] H0 H' s0.heap s'.heap:=by
  have u1:Un (iR outer) [] H0 H s0.heap s.heap:=I.base;refine⟨fun b o e n hf hx=>?_,fun b o e n hf hx=>?_,fun b o e n hx=>?_,fun b o e hx=>?_,fun b xs q=>un.tups b xs (u1.tups b xs q),fun b o u q=>un.frzs b o u (u1.frzs b o u q),fun b ps q=>?_⟩
  ·refine un.keep b o (u1.keep b o e n hf hx) (u1.free b o e n hx) ?_ hx
   rw[frS];intro z;rcases List.mem_cons.mp z with z | z
   ·exact ltl b o e z
   ·exact hf z
  ·obtain⟨sl,e1⟩:=u1.slot b o e n hf hx
   obtain⟨sl2,e2⟩:=un.slot b _ e1 (u1.free b o e n hx) (by rw[frS];exact List.mem_cons_of_mem _ hf) hx;exact⟨sl2,e2⟩
  ·obtain⟨o',e'⟩:=u1.there b o e hx
   exact un.free b o' e' (u1.free b o e n hx) hx
  ·obtain⟨o',e'⟩:=u1.there b o e hx
   exact un.there b o' e' hx
  ·obtain⟨m1,e1⟩:=u1.tbls b ps q
   obtain⟨m2,e2⟩:=un.tbls b _ e1;exact⟨m1++m2,by rw[e2,Array.append_assoc]⟩
 have slot2:∀ b o,b∈iR outer->s0.heap.get? b=some o->H0 b=none->∃ sl,h2.get? b=some { o with slots:=sl }:=fun b o hf e n=>by
  obtain⟨sl,e1⟩:=unS.slot b o e n hf (by simp);obtain⟨_,o2,ho2,hnf⟩:=I.ok.funs.mem hf
  have e2:o2=o:=by
   have:s0.heap.get? b=some o2:=ho2;rw[e]at this;exact (Option.some.inj this).symm
  subst e2;obtain⟨sl2,e3⟩:=ups b _ e1 hnf;exact⟨sl2,e3⟩
 refine⟨ea,C,od,H',B,rfl,fl2,?_,ye hok fl.1 fl2.1 trB,os.trans I.os,bare,h0B,trB,hE⟩;refine Dm (h1:=s'.heap) unS fl.1 fl2.1 h0B (fun b o hf e n=>slot2 b o hf e n) fun b o hf e=>?_;obtain⟨sl,q⟩:=slot2 b o hf e (I.ok.frf b hf);exact⟨_,q⟩
end
theorem aE.fresh0 {X:Cx}{pins:List (Addr×Obj)}{σ:St}{H:Hp}{s:Shared}{a:Addr}(I:aE X pins σ H s)(hx:a∉X.ex)(h:s.heap.get? a=none):X.s₀.heap.get? a=none:=by
 cases e:X.s₀.heap.get? a with
 | none=>rfl
 | some o =>
  obtain⟨o',q⟩:=I.base.there a o e hx;rw[h]at q;cases q
theorem aE.unheld {X:Cx}{pins:List (Addr×Obj)}{σ:St}{H:Hp}{s:Shared}{a:Addr}(I:aE X pins σ H s)(h:s.heap.get? a=none):H a=none:=by
 cases e:H a with
 | none=>rfl
 | some o =>
  obtain⟨u,q⟩:=(I.hok a o e).has;rw[h]at q;cases q
def FL (te:TE)(C:Addr)(E:XK):TS:=fun _ σ H=>te σ H fun _ H1=>E (.ref C) none H1
theorem gF {X:Cx}{C:Addr}{E:XK}{x:Str}{e:Expr}{te:TE}{np cpos pos:Pos}(q:eB X.K C)(hfl:zh X E)(hex:X.ex=[])(hh:X.A.handled=none)(hg:Gl X x)(hm:X.mg x=some (.ref C))(he:PE X e te)
  (hdb:(x == ("__debug__" : Str))=false:=by decide) (hs:starEach [e] X.env=[(false,eval e X.env)]:=by rfl) :
  PS X (.Raise (some (.Call (.Name x np) [e] [] cpos)) none pos) (FL te C E):=by
 intro pins s σ H D I h;obtain⟨bm,N,nm,qn,bs,hdct,sn,sub,ab,col,dd,k0,k1,k2,k3,k5,mN,hC,hN,hni,T⟩:=DL I.ok.mod.kin q
 refine wpAny_Raise_call_subT (C:=C) (nm:=nm) (q:=qn) (N:=N) (bs:=bs) (bm:=bm) (hdct:=hdct) (sn:=sn) (sub:=sub) (ab:=ab) (col:=col) (dd:=dd) (k0:=k0) (k1:=k1) (k2:=k2) (k3:=k3) (k5:=k5)
  PySem.F.excBase_ValueError (mN:=mN) (T.hasType PySem.F.excBase_ValueError.hasBase) hh (by rw[hs];rfl) hni (iW I hg hm ⟨rfl,?_⟩ hdb)
 rw[hs];refine Calls.evalArgs_plain (Calls.spliced_cons (bA (he pins s σ H _ I h) fun u s1 ⟨v,H1,I1,rv,q1⟩=>Calls.spliced_nil ?_));refine⟨rfl,(show 1<=sizeLine by decide),I1.bk _ _ hC,hN.keeps I1.bk,T.keeps I1.bk,fun h' ea hx=>?_⟩;obtain⟨t,hea,_,_⟩:=hx.there;exact hfl pins σ H1 { s1 with heap:=h' } ea C t none (I1.kept (t':=s1.toks) hx.keeps) hea (I1.unheld hx.new) (I1.fresh0 (by rw[hex];simp) hx.new) q1
section
variable {X:Cx}{pins:List (Addr×Obj)}{σ:St}{H:Hp}{s:Shared}
theorem aE.laidN {a:Addr}{o:HO}{h':Heap}{t':Nat}(I:aE X pins σ H s)(k:∀ b u,s.heap.get? b=some u->h'.get? b=some u)(hp:s.heap.get? a=none)(new:bC X.prog X.w (upd H a o) h' a o) :
  aE X pins σ (upd H a o) { s with heap:=h',toks:=t' }:=by
 have hn:=I.unheld hp
 have ne:∀ b u,s.heap.get? b=some u->b≠a:=fun b u q z=>by rw[z,hp]at q;cases q
 refine I.un ⟨fun b u q _ _ _=>k b u q,fun b u q _ _ _=>⟨u.slots,k b u q⟩,fun b u q n _=>by rw[af (ne b u q)];exact n,fun b u q _=>⟨u,k b u q⟩,fun b xs q=>by rw[af (ak q hn)];exact q,fun b u xs q=>by rw[af (ak q hn)];exact q,fun b ps q=>⟨#[],by rw[af (ak q hn),q];simp⟩⟩ fun b u e=>?_
 by_cases hb:b=a
 ·subst hb;rw[ae]at e;cases e;exact new
 ·rw[af hb]at e
  exact (I.hok b u e).stay (fun c v _ q=>k c v q) (fun c q=>by rw[af (ak q hn)];exact q) fun c xs q=>by rw[af (ak q hn)];exact q
end
def Fz (C:Addr)(f:Str):Sp:=fun vs H Q _=>∃ (ea:Addr)(g:Int),vs=[.ref ea,.int g]/\g.natAbs<10 ^ 100/\H ea=some (wx ea C none)/\∀ dx,H dx=none->Q .non (upd (upd H ea (wx ea C (some dx))) dx (.xd [(f,.int g)]))
theorem CD {X:Cx}{pl:Sem Bool}{W fI:Addr}{x:Str}{e:Expr}{es:List Expr}{t:TA}{np apos pos:Pos}(hg:Gl X x)(hm:X.mg x=some (.ref W))(hsp:PySem.W.specialIn X.K (.ref W) "__getattribute__" = some (some (.builtin "type.__getattribute__")))
  (hrd:PySem.W.readsIn X.K W (.type "type")=true) (hfc:PySem.W.findCls X.K (.ref W) (.type "type") "__init__" = some (.val (.builtin "ValueError.__init__"))) (ha:PA X (e::es) t)
  (hdb:(x == ("__debug__" : Str))=false:=by decide) (he:starEach (e::es) X.env=(false,eval e X.env)::starEach es X.env:=by rfl) (hpl:(backTo pos (starEach es X.env)).any (·.1)=false:=by rfl)
  (ht:eval (.Call (.Attribute (.Name x np) "__init__" apos) (e::es) [] pos) X.env=(do
   let ov <-eval (.Name x np) X.env
   standAt apos.atName
   let (f,first) <-holding [ov] (getMethod ov "__init__" pl)
   callWith pos f first (backTo pos (starEach (e::es) X.env)) (backToKw pos (keywordEach [] X.env))):=by rfl) :
  PE X (.Call (.Attribute (.Name x np) "__init__" apos) (e::es) [] pos) (fun σ H Q=>t σ H fun vs H1=>∃ ea C u,vs=[.ref ea,u]/\H1 ea=some (wx ea C none)/\lF X.K C fI=true/\Q .non H1):=by
 intro pins s σ H Q I h;refine PySem.W.methodCall_KW (pl:=pl) (iW I hg hm ?_ hdb) ht;refine PySem.W.method_cls I.kIn hsp (PySem.W.cls_value I.kIn hrd hfc rfl ?_);refine PyProof.Rows.callWith_builtin1 (bA (ha pos pins _ σ H _ (I.tok _) h) fun us s1 ⟨vs,H1,I1,r1,ea,C,v,ev,hx,c,q1⟩=>?_) he hpl;subst ev;obtain⟨u1,u2,rfl,ru1,ru2⟩:=r1.two;cases ru1;obtain⟨⟨t0,hx0⟩,_,_⟩:=(show bC X.prog X.w H1 s1.heap ea (wx ea C none) from I1.hok ea _ hx);refine Co I1.kIn c hx0 fun h' t' q k=>?_
 have e:upd H1 ea (wx ea C none)=H1:=by funext b;unfold upd;split<;>rename_i z<;>first | (rw[z,hx]) | rfl
 refine⟨.non,H1,?_,rfl,q1⟩;have:=I1.write (x:=ea) (e:=ea) (o:=wx ea C none) (h':=h') (t':=s1.toks) (by rw[hx];exact True.intro) (.inl rfl) (fun b o n z=>k b o n z) ⟨_,q⟩ (x8 q)
 rwa [e]at this
theorem CQ {X:Cx}{o value:Expr}{f:Str}{pos pos':Pos}{ta tv:TE}(ha:PE X o ta)(hv:PE X value tv)(hs:swapsWith value (some (.Attribute o f pos')) pos.line X.env=pure false) :
  PS X (.Assign [.Attribute o f pos'] value pos) (fun D σ H=>tv σ H fun y H1=>ta σ H1 fun x H2=>∃ ea C,x=.ref ea/\H2 ea=some (wx ea C none)/\G8 X.K C f/\∀ dx,H2 dx=none->D.nx σ (upd (upd H2 ea (wx ea C (some dx))) dx (.xd [(f,y)]))):=by
 intro pins s σ H D I h;refine plainObj_wpAny_Assign_Attribute (bA (hv pins s σ H _ I h) fun u s1 ⟨y,H1,I1,ry,q⟩=>bA (ha pins s1 σ H1 _ I1 q) fun ov s2 ⟨x,H2,I2,rx,ea,C,ex,hx,c,q2⟩=>?_) hs;subst ex;obtain rfl:ov=Value.ref ea:=rx;obtain⟨⟨t0,hx0⟩,_,_⟩:=(show bC X.prog X.w H2 s2.heap ea (wx ea C none) from I2.hok ea _ hx);refine Fj I2.kIn c hx0 fun h' tk hx1 hns k=>⟨σ,_,?_,q2 s2.heap.objs.size I2.fresh⟩;have hd:=I2.fresh
 have ned:s2.heap.objs.size≠ea:=fun z=>by rw[z,hx]at hd;cases hd
 have ne1:∀ b u,H2 b=some u->(∀ ψ,u≠.ext ψ)->b≠ea:=fun b u q n z=>by rw[z,hx]at q;cases q;exact n _ rfl
 have ned2:∀ b u,s2.heap.get? b=some u->b≠s2.heap.objs.size:=fun b u q=>Nat.ne_of_lt (Heap.lt_size q)
 have up:∀ b u,H2 b=some u->(∀ ψ,u≠.ext ψ)->upd (upd H2 ea (wx ea C (some s2.heap.objs.size))) s2.heap.objs.size (.xd [(f,y)]) b=some u:=fun b u q n=>by
  rw[af (ak q hd),af (ne1 b u q n)];exact q
 refine I2.un ⟨fun b u q n _ _=>k b u (fun z=>by rw[z,hx]at n;cases n) q,fun b u q n _ _=>⟨u.slots,k b u (fun z=>by rw[z,hx]at n;cases n) q⟩,fun b u q n _=>?_,fun b u q _=>?_,fun b xs q=>up b _ q (fun ψ z=>nomatch z),fun b u xs q=>up b _ q (fun ψ z=>nomatch z),fun b ps q=>⟨#[],by rw[up b _ q (fun ψ z=>nomatch z)];simp⟩⟩ fun b u q=>?_
 ·rw[af (ned2 b u q),af (fun z=>by rw[z,hx]at n;cases n)];exact n
 ·by_cases hb:b=ea
  ·exact⟨_,by rw[hb];exact hx1⟩
  ·exact⟨u,k b u hb q⟩
 ·by_cases hb:b=s2.heap.objs.size
  ·rw[hb,ae]at q
   cases q;rw[hb];refine⟨_,hns,fun g=>?_⟩
   show iy (List.lookup g [(f,y)]) (if g=f then some _ else none)
   by_cases hgf:g=f
   ·rw[if_pos hgf,hgf];simp only[List.lookup,beq_self_eq_true];exact ry
   ·have hb:(g == f)=false:=beq_eq_false_iff_ne.mpr hgf
    rw[if_neg hgf];simp only[List.lookup,hb];trivial
  ·rw[af hb]at q
   by_cases hb2:b=ea
   ·rw[hb2,ae]at q
    cases q;rw[hb2];exact x8 hx1
   ·rw[af hb2]at q
    refine (I2.hok b u q).stay (fun c v hc r=>k c v ?_ r) (fun c r=>up c _ r fun ψ z=>nomatch z) fun c xs r=>up c _ r fun ψ z=>nomatch z
    rcases hc with z | z
    ·rw[z];exact hb2
    ·exact ne1 c _ z fun ψ z=>nomatch z
def z9 (te:TE)(C:Addr)(f:Str)(E:XK):TS:=fun _ σ H=>te σ H fun v H1=>∃ g:Int,v=.int g/\g.natAbs<10 ^ 100/\∀ dx,H1 dx=none->E (.ref C) (some dx) (upd H1 dx (.xd [(f,.int g)]))
theorem Ba {X:Cx}{C fI:Addr}{k:Nat}{fd:FuncData}{E:XK}{x f sl gp:Str}{e:Expr}{te:TE}{np cpos pos:Pos}(c:lF X.K C fI=true)(hfn:PySem.W.typeIn X.K (.ref fI)=some (.type "function"))
  (G:bb X.prog X.w X.K X.mg X.base cL k fI fd [sl,gp] (Fz C f)) (hr:cQ (k+1) X.A) (hb:gq X.K fd [sl,gp] [])
  (hfl:zh X E) (hex:X.ex=[]) (hh:X.A.handled=none) (hg:Gl X x) (hm:X.mg x=some (.ref C)) (he:PE X e te)
  (hdb:(x == ("__debug__" : Str))=false:=by decide) (hs:starEach [e] X.env=[(false,eval e X.env)]:=by rfl) :
  PS X (.Raise (some (.Call (.Name x np) [e] [] cpos)) none pos) (z9 te C f E):=by
 intro pins s σ H D I h;obtain⟨bm,N,nm,qn,bs,hdct,sn,sub,ab,col,dd,k0,k1,k2,k3,k5,mN,hC,hN,hni,T⟩:=wy I.ok.mod.kin c;have F:=PySem.F.excBase_ValueError;have hbase:=T.hasType F.hasBase;rw[arm_exec_Raise];refine wpAny_bind (wpAny_standAt (Du (C:=C) (nm:=nm) (q:=qn) (N:=N) (bs:=bs) (bm:=bm) (hdct:=hdct) (sn:=sn) (sub:=sub) (ab:=ab) (col:=col) (dd:=dd) (k0:=k0) (k1:=k1) (k2:=k2) (k3:=k3) (k5:=k5) (newId:="ValueError.__new__") hbase hh (wpAny_bind (wpAny_mono (wpAny_Call_ofName (iW I hg hm ?_ hdb)) (fun v s3 h3=>wpAny_bind (wpAny_standAt (wpAny_pure h3))) fun _ _ x=>x))));rw[hs];unfold callWith;refine wpAny_bind (wpAny_holding (Calls.evalArgs_plain (Calls.spliced_cons (bA (he pins s σ H _ I h) fun u s1 ⟨v,H1,I1,rv,g,ev,hgb,q1⟩=>Calls.spliced_nil (wpAny_bind (wpAny_standAt ?_))))));subst ev;dsimp only;have hC1:=I1.bk _ _ hC;have hN1:=hN.keeps I1.bk;have T1:=T.keeps I1.bk
 have hf1:∃ oI,s1.heap.get? fI=some oI/\oI.cls=.type "function":=by
  unfold PySem.W.typeIn at hfn;obtain⟨o,ho,hc⟩:=Option.map_eq_some_iff.mp hfn;exact⟨o,I1.kIn _ _ ho,hc⟩
 obtain⟨oI,hfI,hfc⟩:=hf1;obtain⟨hp,gs,d,tk,os⟩:=s1;refine wpAny_bind (wpAny_keeperOf_exc hC1 ?_);refine wpAny_bind (vS (rest:=[u]) F T1 hC1 hN1 hni hfI hfc (fun h' ea hx=>?_) (show 1<=sizeLine by decide));obtain⟨t0,hea,_,_⟩:=hx.there;have hfr:=I1.fresh0 (by rw[hex];simp) hx.new;have B7:=I1.unheld hx.new;have I2:aE X pins σ (upd H1 ea (wx ea C none)) ⟨h',gs,d,tk,os⟩:=I1.laidN (a:=ea) (o:=wx ea C none) (h':=h') (t':=tk) hx.keeps hx.new (x8 hea);have r2:bt [V.ref ea,V.int g] [Value.ref ea,u]:=.cons rfl (.cons rv .nil)
 refine wpAny_call (codeAny_mono (G.run _ X.stack _ _ ⟨[Value.ref ea,u],[]⟩ [Value.ref ea,u] [V.ref ea,V.int g] (fun v H3=>v=.non/\∃ dx,H1 dx=none/\dx≠ea/\H3=upd (upd (upd H1 ea (wx ea C none)) ea (wx ea C (some dx))) dx (.xd [(f,.int g)])) E0 (hr.make C [u] [])
  (I2.env0.make C [u] []) (hb _ [Value.ref ea,u] I2.kIn rfl) r2 ⟨ea,g,rfl,hgb,ae,fun dx hdx=>⟨rfl,dx,?_,?_,rfl⟩⟩) fun r s' hq'=>?_)
 ·by_cases z:dx=ea
  ·rw[z,ae]at hdx;cases hdx
  ·rwa [af z]at hdx
 ·intro z;rw[z,ae]at hdx;cases hdx
 cases r with
 | error e=>exact hq'.elim
 | ok fl =>
  cases fl with
  | ret u2 =>
   obtain⟨v,H3,I3,rv3,ev,dx,hdx,hne,eH⟩:=I2.after hq';subst ev;refine⟨rv3,wpAny_bind (wpAny_holding (wpAny_point (wpAny_pure ?_)))⟩
   have h3:H3 ea=some (wx ea C (some dx)):=by rw[eH,af (Ne.symm hne),ae]
   obtain⟨⟨t3,hx3⟩,_,_⟩:=(show bC X.prog X.w H3 s'.heap ea (wx ea C (some dx)) from I3.hok ea _ h3);have I4:=I3.untrack (φ:=fun h=>∃ t,h.get? ea=some (exOb C t (some dx))) h3
   have e4:tP H3 ea=upd H1 dx (.xd [(f,.int g)]):=by
    funext b
    unfold tP
    by_cases hb:b=ea
    ·rw[if_pos hb,hb,af (Ne.symm hne),B7]
    ·rw[if_neg hb,eH]
     by_cases hd:b=dx
     ·rw[hd,ae,ae]
     ·rw[af hd,af hb,af hb,af hd]
   rw[e4]at I4;exact⟨ea,t3,some dx,rfl,I4.bk _ _ hC,hx3,hfl pins σ _ s' ea C t3 (some dx) I4 hx3 (by rw[af (Ne.symm hne)];exact B7) hfr (q1 dx hdx)⟩
  | next=>exact hq'.elim
  | brk=>exact hq'.elim
  | cont=>exact hq'.elim
def EX (X:Cx)(pins:List (Addr×Obj))(σ:St)(H:Hp)(ea C:Addr)(od:Option Addr)(B:Heap)(s':Shared):Prop:=H ea=none/\∀ h2,mD B X.stack ea (.ref C) od h2->s'.heap.UpToSlots h2->aE X pins σ H { s' with heap:=h2 }
theorem DV {X:Cx}{pins:List (Addr×Obj)}{σ:St}{H H':Hp}{s s':Shared}{ea C:Addr}{od:Option Addr}{B:Heap}(I:aE X pins σ H s)(fl:mD B X.stack ea (.ref C) od s'.heap)(un:Un (iR X.stack) [] H H' s.heap s'.heap)(hok:jz X.prog X.w H' s'.heap)(os:s'.os=s.os)(bare:AllBare s'.gens)
  (hsB:∀ b o,s.heap.get? b=some o->b∉iR X.stack->∃ o',B.get? b=some o') (trB:∀ b o,H' b=some o->∃ o',B.get? b=some o'):EX X pins σ H' ea C od B s':=by
 refine⟨?_,fun h2 fl2 ups=>?_⟩
 ·cases e:H' ea with
  | none=>rfl
  | some o =>
   obtain⟨o',q⟩:=trB ea o e;rw[fl.2.1]at q;cases q
 have slot2:∀ b o,b∈iR X.stack->s.heap.get? b=some o->H b=none->∃ sl,h2.get? b=some { o with slots:=sl }:=fun b o hf e n=>by
  obtain⟨sl,e1⟩:=un.slot b o e n hf (by simp);obtain⟨_,o2,ho2,hnf⟩:=I.stack.mem hf
  have e2:o2=o:=by
   have:s.heap.get? b=some o2:=ho2;rw[e]at this;exact (Option.some.inj this).symm
  subst e2;obtain⟨sl2,e3⟩:=ups b _ e1 hnf;exact⟨sl2,e3⟩
 refine I.call' (ch:=[]) (s':={ s' with heap:=h2 }) os ?_ (ye hok fl.1 fl2.1 trB) bare fun b z=>absurd z (by simp);refine Dm (h1:=s'.heap) un fl.1 fl2.1 hsB (fun b o hf e n=>slot2 b o hf e n) fun b o hf e=>?_;obtain⟨sl,q⟩:=slot2 b o hf e (I.stkFree b hf);exact⟨_,q⟩
def Cx.marked (X:Cx)(ea:Addr)(oe:Obj):Cx:={ X with A:=X.A.mark (some (.ref ea)),calm:=false,xe:=fun _ _=>False,pn:=(ea,oe)::X.pn }
theorem aE.marked {X:Cx}{pins:List (Addr×Obj)}{σ:St}{H:Hp}{s:Shared}{ea:Addr}{oe:Obj}{us:Array Value}(I:aE X pins σ H s)(he:s.heap.get? ea=some oe)(hd:oe.data=.fields us)(hn:H ea=none):aE (X.marked ea oe) pins σ H s:=by
 refine⟨⟨I.ok.mod,I.ok.kind,I.ok.glob,I.ok.blt,I.ok.above,I.ok.inj,I.ok.has,I.ok.cab,fun z=>(by cases z),I.ok.frames,I.ok.stk,I.ok.exf,I.ok.bs,I.ok.bsz,I.ok.noex,I.ok.exfs,I.ok.funs,I.ok.frf⟩,I.os,I.bare,I.base,I.loc,I.cell,I.free,I.freeC,fun p hp=>?_,I.hok,I.len⟩;rcases List.mem_cons.mp (show p∈(ea,oe)::(X.pn++pins) from hp) with z | z
 ·subst z
  refine⟨he,hn,fun z=>?_,fun z=>?_,fun v z=>?_⟩
  ·obtain⟨m,⟨o,es,ep,ho,hdd,_⟩,_⟩:=I.loc
   have z:ea=X.env.locals:=z;rw[<-z,he]at ho;cases ho;rw[hd]at hdd;cases hdd
  ·obtain⟨_,o,ho,nf⟩:=I.funs.mem z
   rw[he]at ho;cases ho;exact nf us hd
  ·have z:oe.data=.cell v:=z
   rw[hd]at z;cases z
 ·exact I.pin p z
theorem aE.unmarked {X:Cx}{pins:List (Addr×Obj)}{σ:St}{H:Hp}{s:Shared}{ea:Addr}{oe:Obj}(ok:X.Ok)(I:aE (X.marked ea oe) pins σ H s):aE X pins σ H s :=
 ⟨ok,I.os,I.bare,I.base,I.loc,I.cell,I.free,I.freeC,fun p hp=>I.pin p (show p∈(ea,oe)::(X.pn++pins) from List.mem_cons_of_mem _ hp),I.hok,I.len⟩
theorem SP.unmarked {X:Cx}{pins:List (Addr×Obj)}{D:jE}{f:Flow}{s':Shared}{ea:Addr}{oe:Obj}(ok:X.Ok)(h:SP (X.marked ea oe) pins D f s'):SP X pins D f s':=by
 cases f with
 | next=>obtain⟨σ',H',I,q⟩:=h;exact⟨σ',H',I.unmarked ok,q⟩
 | brk=>obtain⟨σ',H',I,q⟩:=h;exact⟨σ',H',I.unmarked ok,q⟩
 | cont=>obtain⟨σ',H',I,q⟩:=h;exact⟨σ',H',I.unmarked ok,q⟩
 | ret u=>obtain⟨v,σ',H',I,r,q⟩:=h;exact⟨v,σ',H',I.unmarked ok,r,q⟩
def GU (X:Cx)(hdl:List ExceptHandler)(th:Value->Option Addr->TS):Prop:=∀ (pins:List (Addr×Obj))(σ:St)(H:Hp)(D:jE)(ea C:Addr)(od:Option Addr)(B:Heap)(s':Shared)(h:Heap),EX X pins σ H ea C od B s'->mD B X.stack ea (.ref C) od h->s'.heap.UpToSlots h->th (.ref C) od D σ H ->
 wpAny (model X.prog X.w) X.A (handleBy (.ref ea) X.env hdl) (SP X pins D) X.xe { s' with heap:=h }
theorem Eb {X:Cx}{y:Str}{C1:Addr}{b0:Stmt}{suite:List Stmt}{t1:TS}{th:Value->Option Addr->TS}{np pos:Pos}{rest:List ExceptHandler}(hg:Gl X y)(hm:X.mg y=some (.ref C1))(hs:∀ ea oe,xT (X.marked ea oe) (b0::suite) t1)(hr:GU X rest th)
  (hdb:(y == ("__debug__" : Str))=false:=by decide):GU X (.ExceptHandler (some (.Name y np)) none (b0::suite) pos::rest) (fun cls od D σ H=>∃ b,PySem.W.exmOne X.K cls (.ref C1)=some b/\if b=true then t1 D σ H else th cls od D σ H):=by
 intro pins σ H D ea C od B s' h ld fl ups ht;obtain⟨b,hb,ht⟩:=ht;have I:=ld.2 h fl ups;obtain⟨ob,us,hob,hobc,hobd,hobf⟩:=fl.obj;have Im:=I.marked (ea:=ea) hob hobf ld.1
 have LT:PySem.W.Looks (model X.prog X.w) h (typeOf (.ref ea)) (.ref C):=by
  rw[<-hobc];exact (PySem.W.Looks.ld hob).andThen .now
 refine wpAny_handleBy_cons (codeAny_handlers_test (iW (X:=X.marked ea ob) Im hg hm ?_ hdb)) (by intro z;cases z);refine (PySem.W.exm_one (K:=X.K) I.kIn LT hb).here ?_
 cases b with
 | true =>
  rw[if_pos rfl]at ht;refine codeAny_handlers_suite ?_;refine uY fl fun h6 fl6 ups6=>?_;obtain⟨oe,us6,hoe,hoec,hoed,hoef⟩:=fl6.obj;have I6:=(ld.2 h6 fl6 (ups.trans ups6)).marked (ea:=ea) hoe hoef ld.1;exact wpAny_mono (hs ea oe pins _ σ H D I6 ht) (fun f s2 hq=>hq.unmarked I.ok) fun _ _ z=>z.elim
 | false =>
  rw[if_neg Bool.false_ne_true]at ht;exact hr pins σ H D ea C od B s' h ld fl ups ht
theorem Fq {X:Cx}:GU X [] (fun _ _ _ _ _=>False):=fun _ _ _ _ _ _ _ _ _ _ _ _ _ h=>h.elim
theorem dv.okX {P:Program}{w:World}{K:PySem.W.Frag}{mg:Str->Option Value}{base:Heap}{x qual:Str}{st:Stmt}{f:Addr}{fd:FuncData}{N ps:List Str}{k:Nat}{sp:Sp}(F:dv K x qual st f fd)(S:ax N ps (am st))(len:∀ vs H Q E,sp vs H Q E->vs.length=ps.length)
  (hbody:∀ (cdv:Value)(A:Around)(outer:List Env)(s:Shared)(H:Hp)(vs:List V)(Q:VK)(E:XK),cQ k (A.deeper (envOfC qual (am st) s.heap.objs.size f cdv))->sp vs H Q E ->
   ∃ t,xT (qW (jD P w) P w K mg base N qual (am st) f cdv A outer s H E) (eD st) t/\t { nx:=fun _ H'=>Q .non H',rt:=Q } (nK N vs) H):bb P w K mg base (jD P w) (k+1) f fd ps sp:=by
 obtain⟨oc,od,kV,doc,pm,an,cdv,ct,osl,rfl,lk,hcd⟩:=F.ex;exact EC lk hcd S len fun A outer s H vs Q E hr hsp=>hbody cdv A outer s H vs Q E hr hsp
def PJ (X:Cx)(es:List Expr)(t:TA):Prop:=∀ (out:Str)(m:Nat)(pins:List (Addr×Obj))(s:Shared)(σ:St)(H:Hp)(Q:VK),out.length<=1000*m->m+es.length<=100->aE X pins σ H s->t σ H (fun _ H'=>∀ x:Str,Q (.str x) H')->wpAny (model X.prog X.w) X.A (joinParts out (evalEach es X.env)) (EP X pins σ Q) X.xe s
theorem oS {X:Cx}:PJ X [] qo:=by
 intro out m pins s σ H Q ho hm I h;refine joinParts_nil ⟨.str out,H,I.tok _,⟨_,rfl⟩,h out⟩ ?_;exact Nat.le_trans ho (Nat.le_trans (Nat.mul_le_mul_left 1000 (show m<=100 by simpa using hm)) (by decide))
def tJ (te:TE)(t:TA):TA:=fun σ H Q=>te σ H fun x H1=>∃ y:Str,x=.str y/\y.length<=1000/\t σ H1 Q
theorem cR {X:Cx}{e:Expr}{es:List Expr}{te:TE}{t:TA}(he:PE X e te)(h:PJ X es t):PJ X (e::es) (tJ te t):=by
 intro out m pins s σ H Q ho hm I hq
 show wpAny _ _ (joinParts out (eval e X.env::evalEach es X.env)) _ _ s
 refine joinParts_cons (bA (he pins s σ H _ I hq) fun u s1 ⟨x,H1,I1,rx,y,ex,hy,q1⟩=>?_);subst ex;obtain⟨tk,rfl⟩:=rx
 have hl:(out++y).length<=1000*(m+1):=by rw[strLen_append];omega
 rw[List.length_cons]at hm;refine⟨Nat.le_trans hl (Nat.le_trans (Nat.mul_le_mul_left 1000 (show m+1<=100 by omega)) (by decide)),?_⟩;exact h (out++y) (m+1) pins s1 σ H1 Q hl (by omega) I1 q1
def Ih (t:TA):TE:=fun σ H Q=>t σ H fun _ H'=>∀ x:Str,Q (.str x) H'
theorem kL {X:Cx}{e1 e2:Expr}{es:List Expr}{t:TA}{pos:Pos}(h:PJ X (e1::e2::es) t)(hn:(e1::e2::es).length<=100:=by decide):PE X (.JoinedStr (e1::e2::es) pos) (Ih t):=by
 intro pins s σ H Q I hq;refine JoinedStr_many ?_;exact h Str.empty 0 pins s σ H Q (by show 0<=_;exact Nat.zero_le _) (by simpa using hn) I hq
def Ig (te:TE):TE:=fun σ H Q=>te σ H fun x H1=>∃ i:Int,x=.int i/\i.natAbs<10 ^ 100/\∀ y:Str,y.length<=1000->Q (.str y) H1
theorem gZ {X:Cx}{e:Expr}{te:TE}{pos:Pos}(he:PE X e te):PE X (.FormattedValue e (-1) none pos) (Ig te):=by
 intro pins s σ H Q I h;refine FormattedValue_plain (bA (he pins s σ H _ I h) fun u s1 ⟨x,H1,I1,rx,i,ex,hi,q⟩=>?_);subst ex;obtain⟨tk,rfl⟩:=rx
 have hd:i.natAbs.log2<1920:=by
  by_cases h0:i.natAbs=0
  ·rw[h0];decide
  ·exact (Nat.log2_lt h0).mpr (Nat.lt_of_lt_of_le hi (by decide +kernel))
 refine wpAny_formatField_int hd ⟨.str (toString i),H1,I1.tok _,⟨_,rfl⟩,q _ ?_⟩;have:=PySem.int_text_length_le10 (a:=i) (k:=100) (by decide) hi
 show (Str.ofString (toString i)).length<=1000
 rw[PySem.ofString_length];omega
end L2
namespace Wz
open PySem L2
def aP (P:Program)(w:World)(K:PySem.W.Frag)(mg:Str->Option Value)(base:Heap)(CX:vW)(C:Addr)(m:Str)(k:Nat)(ps:List Str)(sp:Sp):Prop :=
 ∃ (f:Addr)(fd:FuncData),bb P w K mg base CX k f fd ps sp/\DB K C m f/\gq K fd ps []
def XCallee (P:Program)(w:World)(K:PySem.W.Frag)(mg:Str->Option Value)(base:Heap)(x:Str)(k:Nat)(ps:List Str)(sp:Sp):Prop :=
 ∃ (f:Addr)(fd:FuncData),bb P w K mg base (jD P w) k f fd ps sp/\mg x=some (.ref f)/\PySem.W.keepIn K (.ref f)=true/\gq K fd ps []
section
variable {X:Cx}{CX:vW}{k:Nat}{C:Addr}{ps:List Str}{sp:Sp}{E:XK}{m x:Str}{p pos apos:Pos}{e o:Expr}{es:List Expr}{ta:TE}{t:TA}
theorem c6 {pl:Sem Bool}(M:aP X.prog X.w X.K X.mg X.base CX C m k ps sp)(he:PE X o ta)(c:Al X.K C)(hr:cQ k X.A)(hx:fO CX X E)(ha:PA X (e::es) t)
  (hst:starEach (e::es) X.env=(false,eval e X.env)::starEach es X.env:=by rfl) (hpl:(backTo pos (starEach es X.env)).any (·.1)=false:=by rfl)
  (ht:eval (.Call (.Attribute o m apos) (e::es) [] pos) X.env=(do
   let ov <-eval o X.env
   standAt apos.atName
   let (f,first) <-holding [ov] (getMethod ov m pl)
   callWith pos f first (backTo pos (starEach (e::es) X.env)) (backToKw pos (keywordEach [] X.env))):=by rfl) :
  PE X (.Call (.Attribute o m apos) (e::es) [] pos) (z7 C m sp [] E ta t):=by
 obtain⟨f,fd,G,hm,hb⟩:=M;exact Ea he c hm G hr hb .nil hx ha hst hpl ht
theorem oU {pl:Sem Bool}(M:aP X.prog X.w X.K X.mg X.base CX C m k ps sp)(he:PE X o ta)(c:Al X.K C)(hr:cQ k X.A)(hx:fO CX X E)
  (ht:eval (.Call (.Attribute o m apos) [] [] pos) X.env=(do
   let ov <-eval o X.env
   standAt apos.atName
   let (f,first) <-holding [ov] (getMethod ov m pl)
   callWith pos f first (backTo pos (starEach [] X.env)) (backToKw pos (keywordEach [] X.env))):=by rfl) :
  PE X (.Call (.Attribute o m apos) [] [] pos) (z7 C m sp [] E ta qo):=by
 obtain⟨f,fd,G,hm,hb⟩:=M;exact CK he c hm G hr hb .nil hx ht
theorem oW (M:XCallee X.prog X.w X.K X.mg X.base x k ps sp)(hr:cQ k X.A)(hg:Gl X x)(hx:fO (jD X.prog X.w) X E)(ha:PA X (e::es) t)
  (hdb:(x == ("__debug__" : Str))=false:=by decide) (he:starEach (e::es) X.env=(false,eval e X.env)::starEach es X.env:=by rfl) (hpl:(backTo pos (starEach es X.env)).any (·.1)=false:=by rfl) :
  PE X (.Call (.Name x p) (e::es) [] pos) (z6 sp [] E t):=by
 obtain⟨f,fd,G,hm,hk,hb⟩:=M;exact zQ G hr hg hm hk hb .nil hx ha hdb he hpl
end
inductive aN where
 | come (g:Int) | go (g:Int) | exch (a b:Int)
 deriving DecidableEq
def bN:aN->HO
 | .come g=>.tup [.str "come",.int g]
 | .go g=>.tup [.str "go",.int g]
 | .exch a b=>.tup [.str "exchange",.int a,.int b]
structure bQ where
 worn:List (Int×Int)
 hold:List (Int×Int)
 circ:List (Int×List Int)
 deeds:List aN
def dD:List Addr->List (Int×List Int)->List (cm×V)
 | a::as,x::xs=>(Sum.inl x.1,V.ref a)::dD as xs
 | _,_=>[]
def qv (ks:List Int):List (cm×V):=ks.map fun k=>(Sum.inl k,V.bl true)
structure HA where
 dx:Addr
 w:Addr
 h:Addr
 c:Addr
 d:Addr
 cs:List Addr
def HA.fp (A:HA):List Addr:=A.w::A.h::A.c::A.d::A.cs
def bx (A:HA):List (Str×V):=iD "deeds" (.ref A.d) (iD "circles" (.ref A.c) (iD "holders" (.ref A.h) (iD "worn" (.ref A.w) [])))
theorem s1:¬ (("worn" : Str)="holders"):=by decide +kernel
theorem s2:¬ (("worn" : Str)="circles"):=by decide +kernel
theorem s3:¬ (("worn" : Str)="deeds"):=by decide +kernel
theorem s4:¬ (("holders" : Str)="circles"):=by decide +kernel
theorem s5:¬ (("holders" : Str)="deeds"):=by decide +kernel
theorem s6:¬ (("circles" : Str)="deeds"):=by decide +kernel
theorem yd (A:HA):(bx A).lookup ("worn" : Str)=some (.ref A.w):=by
 unfold bx;rw[bj,if_neg s3,bj,if_neg s2,bj,if_neg s1,bj,if_pos rfl]
theorem DR (A:HA):(bx A).lookup ("holders" : Str)=some (.ref A.h):=by
 unfold bx;rw[bj,if_neg s5,bj,if_neg s4,bj,if_pos rfl]
theorem DQ (A:HA):(bx A).lookup ("circles" : Str)=some (.ref A.c):=by
 unfold bx;rw[bj,if_neg s6,bj,if_pos rfl]
theorem B0 (A:HA):(bx A).lookup ("deeds" : Str)=some (.ref A.d):=by
 unfold bx;rw[bj,if_pos rfl]
theorem rm (A:HA){m:Str}(h1:¬ m="worn")(h2:¬ m="holders")(h3:¬ m="circles")(h4:¬ m="deeds"):(bx A).lookup m=none:=by
 unfold bx;rw[bj,if_neg h4,bj,if_neg h3,bj,if_neg h2,bj,if_neg h1];rfl
theorem om (A:HA) {m:Str} (h:¬ m="worn"/\¬ m="holders"/\¬ m="circles"/\¬ m="deeds"):(bx A).lookup m=none:=rm A h.1 h.2.1 h.2.2.1 h.2.2.2
def bg (H:Hp)(d:Addr)(ds:List aN):Prop:=∃ as:List Addr,H d=some (.lst (as.map V.ref))/\Paired (fun a x=>H a=some (bN x)) as ds
structure aM (C:Addr)(H:Hp)(p:Addr)(A:HA)(st:bQ):Prop where
 ob:H p=some (.ins C A.dx (bx A))
 nd:A.fp.Nodup
 w:H A.w=some (.dK (dk st.worn))
 h:H A.h=some (.dK (dk st.hold))
 c:H A.c=some (.dK (dD A.cs st.circ))
 cs:Paired (fun a (x:Int×List Int)=>H a=some (.dK (qv x.2))) A.cs st.circ
 d:bg H A.d st.deeds
def Kp (fp:List Addr)(H H':Hp):Prop:=∀ b o,H b=some o->b∉fp->H' b=some o
theorem Kp.of_same {fp:List Addr}{H H':Hp}(s:ay H H'):Kp fp H H':=fun b o e _=>s b o e
theorem Kp.trans {fp fp':List Addr}{H H1 H2:Hp}(a:Kp fp H H1)(b:Kp fp' H1 H2)(h:∀ x∈fp',x∈fp\/H x=none):Kp fp H H2:=fun x o e n =>
 b x o (a x o e n) fun z=>(h x z).elim n fun y=>by rw[e]at y;cases y
theorem bL {H H':Hp}{d:Addr}{ds:List aN}(r:bg H d ds)(s:ay H H'):bg H' d ds:=by
 obtain⟨as,h,p⟩:=r;exact⟨as,s _ _ h,Paired.mapP p fun a q z=>s _ _ z⟩
theorem aM.mono {C:Addr}{H H':Hp}{p:Addr}{A:HA}{st:bQ}(x:aM C H p A st)(s:ay H H'):aM C H' p A st :=
 ⟨s _ _ x.ob,x.nd,s _ _ x.w,s _ _ x.h,s _ _ x.c,Paired.mapP x.cs fun a q z=>s _ _ z,bL x.d s⟩
theorem aM.kept {C:Addr}{H H':Hp}{p:Addr}{A:HA}{st:bQ}{fp:List Addr}(x:aM C H p A st)(k:Kp fp H H')(hp:p∉fp)(hd:∀ b∈A.fp,b∉fp)(ht:∀ b xs,H b=some (.tup xs)->b∉fp):aM C H' p A st:=by
 have m:∀ b∈A.fp,∀ o,H b=some o->H' b=some o:=fun b hb o e=>k b o e (hd b hb);refine⟨k _ _ x.ob hp,x.nd,m _ (by simp[HA.fp]) _ x.w,m _ (by simp[HA.fp]) _ x.h,m _ (by simp[HA.fp]) _ x.c,?_,?_⟩
 ·have:∀ (cs:List Addr)(ci:List (Int×List Int)),(∀ b∈cs,b∈A.fp)->Paired (fun a (x:Int×List Int)=>H a=some (.dK (qv x.2))) cs ci->Paired (fun a (x:Int×List Int)=>H' a=some (.dK (qv x.2))) cs ci:=by
   intro cs ci hc hp
   induction hp with
   | nil=>exact .nil
   | cons e _ ih=>exact .cons (m _ (hc _ List.mem_cons_self) _ e) (ih fun b hb=>hc b (List.mem_cons_of_mem _ hb))
  exact this _ _ (fun b hb=>by simp[HA.fp,hb]) x.cs
 ·obtain⟨as,h,hp⟩:=x.d
  refine⟨as,m _ (by simp[HA.fp]) _ h,Paired.mapP hp fun a q z=>?_⟩
  cases q with
  | come g=>exact k _ _ z (ht _ _ z)
  | go g=>exact k _ _ z (ht _ _ z)
  | exch a b=>exact k _ _ z (ht _ _ z)
def cG (l:List (Int×Int))(g:Int):List (Int×Int):=l.filter fun p=>decide (p.1≠g)
theorem rc (l:List (Int×Int))(g:Int):qZ (dk l) (Sum.inl g:cm)=dk (cG l g):=by
 unfold qZ dk cG;rw[List.filter_map]
 congr 1
 apply List.filter_congr
 intro p _;simp[Function.comp]
theorem dW (l:List (Int×Int))(g h:Int):look (cG l g) h=if h=g then none else look l h:=by
 induction l with
 | nil=>simp[cG,look]
 | cons p r ih =>
  unfold cG at ih ⊢;rw[List.filter_cons]
  by_cases e:p.1=g
  ·rw[if_neg (by simp[e]),ih]
   by_cases hh:h=g
   ·simp[hh]
   ·have:¬ p.1=h:=fun z=>hh (z.symm.trans e)
    simp[hh,look,this]
  ·rw[if_pos (by simp[e])]
   show (if p.1=h then some p.2 else look _ h)=_
   rw[ih]
   by_cases hh:h=g
   ·subst hh;simp[e]
   ·simp[hh,look]
theorem oC {l:List (Int×Int)}{g h:Int}:h∈aq (cG l g)↔h∈aq l/\h≠g:=by
 rw[<-bn,dW,<-bn]
 by_cases e:h=g<;>simp[e]
inductive BA where
 | done | already | masked | same | met | noguest (g:Int)
 deriving DecidableEq
def cD:List (Int×List Int)->Int->List Int
 | [],_=>[]
 | x::r,g=>if x.1=g then x.2 else cD r g
def cC (c:List (Int×List Int))(a b:Int):Bool:=decide (b∈cD c a)
def eQ (ks:List Int)(b:Int):List Int:=if b∈ks then ks else ks++[b]
def bY:List (Int×List Int)->Int->Int->List (Int×List Int)
 | [],a,b=>[(a,[b])]
 | x::r,a,b=>if x.1=a then (x.1,eQ x.2 b)::r else x::bY r a b
def ba (st:bQ):aN->BA
 | .come g=>if (look st.worn g).isSome then .already else .done
 | .go g=>match look st.worn g with | none=>.noguest g | some m=>if m=g then .done else .masked
 | .exch a b=>match look st.worn a with
  | none=>.noguest a
  | some _=>match look st.worn b with
   | none=>.noguest b
   | some _=>if a=b then .same else if cC st.circ a b then .met else .done
def after (st:bQ):aN->bQ
 | .come g=>{ worn:=put st.worn g g,hold:=put st.hold g g,circ:=st.circ,deeds:=st.deeds++[.come g] }
 | .go g=>{ worn:=cG st.worn g,hold:=cG st.hold g,circ:=st.circ,deeds:=st.deeds++[.go g] }
 | .exch a b=>{ worn:=put (put st.worn a (wr st.worn b)) b (wr st.worn a),hold:=put (put st.hold (wr st.worn b) a) (wr st.worn a) b,circ:=bY (bY st.circ a b) b a,deeds:=st.deeds++[.exch a b] }
def names:aN->List Int
 | .come g=>[g]
 | .go g=>[g]
 | .exch a b=>[a,b]
def aV (g:Int):Prop:=g.natAbs<10 ^ 100
structure xX (st:bQ):Prop where
 w:st.worn.length<1000
 h:st.hold.length<1000
 c:st.circ.length<1000
 k:∀ x∈st.circ,x.2.length<1000
 d:st.deeds.length<1000
structure HX where
 C:Addr
 cW:Addr
 cA:Addr
 cM:Addr
 cS:Addr
 cT:Addr
 cN:Addr
 fN:Addr
def uG (c:HX)(E:XK)(H:Hp):BA->Prop
 | .done=>False
 | .already=>∀ H',ay H H'->E (.ref c.cA) none H'
 | .masked=>∀ H',ay H H'->E (.ref c.cM) none H'
 | .same=>∀ H',ay H H'->E (.ref c.cS) none H'
 | .met=>∀ H',ay H H'->E (.ref c.cT) none H'
 | .noguest g=>∀ dx H',ay H H'->H' dx=some (.xd [("guest",.int g)])->E (.ref c.cN) (some dx) H'
def Tr (H H':Hp):Prop:=∀ b o,H b=some o->∃ o',H' b=some o'
theorem Tr.refl {H:Hp}:Tr H H:=fun _ o e=>⟨o,e⟩
theorem Tr.trans {H H1 H2:Hp}(a:Tr H H1)(b:Tr H1 H2):Tr H H2:=fun x o e=>let ⟨o',e'⟩:=a x o e;b x o' e'
theorem Tr.of_same {H H':Hp}(s:ay H H'):Tr H H':=fun b o e=>⟨o,s b o e⟩
theorem Tr.upd {H H1:Hp}(a:Tr H H1)(x:Addr)(u:HO):Tr H (upd H1 x u):=fun b o e=>by
 by_cases h:b=x
 ·exact⟨u,by rw[h,ae]⟩
 ·obtain⟨o',e'⟩:=a b o e
  exact⟨o',by rw[af h];exact e'⟩
def v7 (C:Addr)(H:Hp)(p:Addr)(A:HA)(st':bQ)(H':Hp):Prop:=∃ A':HA,aM C H' p A' st'/\Kp A.fp H H'/\(∀ b∈A'.fp,b∈A.fp\/H b=none)/\Tr H H'
def sR (c:HX)(H:Hp)(p:Addr)(A:HA)(st:bQ)(d:aN)(Q:VK)(E:XK):Prop :=
 if ba st d=.done then ∀ H',v7 c.C H p A (after st d) H'->Q .non H' else uG c E H (ba st d)
def Di (C:Addr):Sp:=fun vs H Q _=>∃ (p dx:Addr),vs=[.ref p]/\H p=some (.ins C dx [])/\∀ (A:HA)(H':Hp),aM C H' p A ⟨[],[],[],[]⟩->(∀ b o,H b=some o->b≠p->H' b=some o)->(∀ b∈A.fp,H b=none)->Q .non H'
def y3 (c:HX):Sp:=fun vs H Q E=>∃ (p:Addr)(A:HA)(st:bQ)(g:Int),vs=[.ref p,.int g]/\aM c.C H p A st/\xX st/\aV g/\sR c H p A st (.come g) Q E
def Fy (c:HX):Sp:=fun vs H Q E=>∃ (p:Addr)(A:HA)(st:bQ)(g:Int),vs=[.ref p,.int g]/\aM c.C H p A st/\xX st/\aV g/\(∀ m,look st.worn g=some m->aV m/\(m=g->(look st.hold g).isSome))/\sR c H p A st (.go g) Q E
def y4 (c:HX):Sp:=fun vs H Q E=>∃ (p:Addr)(A:HA)(st:bQ)(a b:Int),vs=[.ref p,.int a,.int b]/\aM c.C H p A st/\xX st/\aV a/\aV b/\sR c H p A st (.exch a b) Q E
def qA (C:Addr):Sp:=fun vs H Q _=>∃ (p:Addr)(A:HA)(st:bQ)(g m:Int),vs=[.ref p,.int g,.int m]/\aM C H p A st/\st.worn.length<2000/\st.hold.length<2000/\Q .non (upd (upd H A.w (.dK (dk (put st.worn g m)))) A.h (.dK (dk (put st.hold m g))))
def ji (c:HX):Sp:=fun vs H Q E=>∃ (p:Addr)(A:HA)(st:bQ)(g:Int),vs=[.ref p,.int g]/\aM c.C H p A st/\aV g /\
 match look st.worn g with
 | some m=>Q (.int m) H
 | none=>uG c E H (.noguest g)
def sG (c:HX):Sp:=fun vs H Q E=>∃ (p:Addr)(A:HA)(st:bQ)(g:Int),vs=[.ref p,.int g]/\aM c.C H p A st/\aV g /\
 match look st.hold g with
 | some m=>Q (.int m) H
 | none=>uG c E H (.noguest g)
def ny (C:Addr):Sp:=fun vs H Q _=>∃ (p:Addr)(A:HA)(st:bQ)(g:Int),vs=[.ref p,.int g]/\aM C H p A st/\Q (.bl (look st.worn g).isSome) H
def kj (C:Addr):Sp:=fun vs H Q _=>∃ (p:Addr)(A:HA)(st:bQ),vs=[.ref p]/\aM C H p A st/\st.worn.length<64/\∀ l,H l=none->Q (.ref l) (upd H l (.lst ((aZ (aq st.worn)).map V.int)))
def zX (C:Addr):Sp:=fun vs H Q _=>∃ (p:Addr)(A:HA)(st:bQ)(a b:Int),vs=[.ref p,.int a,.int b]/\aM C H p A st/\∀ H',ay H H'->Q (.bl (cC st.circ a b)) H'
def Dg (C:Addr):Sp:=fun vs H Q _=>∃ (p:Addr)(A:HA)(st:bQ)(a b:Int),vs=[.ref p,.int a,.int b]/\aM C H p A st/\st.circ.length<2000/\(∀ x∈st.circ,x.2.length<2000)/\∀ H',v7 C H p A { st with circ:=bY st.circ a b } H'->Q .non H'
def sE (C:Addr):Sp:=fun vs H Q _=>∃ (p:Addr)(A:HA)(st:bQ),vs=[.ref p]/\aM C H p A st/\Q (.int st.deeds.length) H
structure HT (K:PySem.W.Frag)(mg:Str->Option Value)(c:HX):Prop where
 cl:Al K c.C
 nW:h8 K c.C "worn"
 nH:h8 K c.C "holders"
 nC:h8 K c.C "circles"
 nD:h8 K c.C "deeds"
 mC:mg "Hall" = some (.ref c.C)
 eA:eB K c.cA
 eM:eB K c.cM
 eS:eB K c.cS
 eT:eB K c.cT
 mA:mg "AlreadyIn" = some (.ref c.cA)
 mM:mg "Masked" = some (.ref c.cM)
 mS:mg "Same" = some (.ref c.cS)
 mT:mg "Met" = some (.ref c.cT)
 mN:mg "NoGuest" = some (.ref c.cN)
 mW:mg "WaltzError" = some (.ref c.cW)
 eN:lF K c.cN c.fN=true
 gN:G8 K c.cN "guest"
 tN:PySem.W.typeIn K (.ref c.fN)=some (.type "function")
 wS:PySem.W.specialIn K (.ref c.cW) "__getattribute__" = some (some (.builtin "type.__getattribute__"))
 wR:PySem.W.readsIn K c.cW (.type "type")=true
 wI:PySem.W.findCls K (.ref c.cW) (.type "type") "__init__" = some (.val (.builtin "ValueError.__init__"))
structure HM (K:PySem.W.Frag)(c:HX):Prop where
 aa:PySem.W.exmOne K (.ref c.cA) (.ref c.cA)=some true
 ma:PySem.W.exmOne K (.ref c.cM) (.ref c.cA)=some false
 mm:PySem.W.exmOne K (.ref c.cM) (.ref c.cM)=some true
 sa:PySem.W.exmOne K (.ref c.cS) (.ref c.cA)=some false
 sm:PySem.W.exmOne K (.ref c.cS) (.ref c.cM)=some false
 ss:PySem.W.exmOne K (.ref c.cS) (.ref c.cS)=some true
 ta:PySem.W.exmOne K (.ref c.cT) (.ref c.cA)=some false
 tm:PySem.W.exmOne K (.ref c.cT) (.ref c.cM)=some false
 ts:PySem.W.exmOne K (.ref c.cT) (.ref c.cS)=some false
 tt:PySem.W.exmOne K (.ref c.cT) (.ref c.cT)=some true
 na:PySem.W.exmOne K (.ref c.cN) (.ref c.cA)=some false
 nm:PySem.W.exmOne K (.ref c.cN) (.ref c.cM)=some false
 ns:PySem.W.exmOne K (.ref c.cN) (.ref c.cS)=some false
 nt:PySem.W.exmOne K (.ref c.cN) (.ref c.cT)=some false
 nn:PySem.W.exmOne K (.ref c.cN) (.ref c.cN)=some true
def jR (P:Program)(w:World)(K:PySem.W.Frag)(mg:Str->Option Value)(base:Heap)(c:HX):Prop:=∃ fd:FuncData,bb P w K mg base cL 1 c.fN fd ["self","guest"] (Fz c.cN "guest")/\gq K fd ["self","guest"] []
theorem rX {X:Cx}{c:HX}{E:XK}{e:Expr}{te:TE}{np cpos pos:Pos}(N:jR X.prog X.w X.K X.mg X.base c)(U:HT X.K X.mg c)(hr:cQ 2 X.A)(hfl:zh X E)(hex:X.ex=[])(hh:X.A.handled=none)(hg:Gl X "NoGuest")(he:PE X e te)
  (hs:starEach [e] X.env=[(false,eval e X.env)]:=by rfl):PS X (.Raise (some (.Call (.Name "NoGuest" np) [e] [] cpos)) none pos) (z9 te c.cN "guest" E):=by
 obtain⟨fd,G,hb⟩:=N;exact Ba U.eN U.tN G hr hb hfl hex hh hg U.mN he (by decide) hs
section
variable {C:Addr}{H:Hp}{p t:Addr}{A:HA}{st:bQ}
structure zg (A:HA):Prop where
 wh:A.w≠A.h
 wc:A.w≠A.c
 wd:A.w≠A.d
 hc:A.h≠A.c
 hd:A.h≠A.d
 cd:A.c≠A.d
 w:A.w∉A.cs
 h:A.h∉A.cs
 c:A.c∉A.cs
 d:A.d∉A.cs
 cs:A.cs.Nodup
theorem aM.apart (S:aM C H p A st):zg A:=by
 have:=S.nd;simp only[HA.fp,List.nodup_cons,List.mem_cons,not_or]at this;obtain⟨⟨a1,a2,a3,a4⟩,⟨b1,b2,b3⟩,⟨c1,c2⟩,d1,e⟩:=this;exact⟨a1,a2,a3,b1,b2,c1,a4,b3,c2,d1,e⟩
theorem aM.pne (S:aM C H p A st):p∉A.fp:=by
 have n1:p≠A.w:=bz S.ob S.w (by intro z;cases z);have n2:p≠A.h:=bz S.ob S.h (by intro z;cases z);have n3:p≠A.c:=bz S.ob S.c (by intro z;cases z);obtain⟨as,hd,_⟩:=S.d;have n4:p≠A.d:=bz S.ob hd (by intro z;cases z)
 have n5:p∉A.cs:=fun z=>by
  obtain⟨i,hi,e⟩:=List.getElem_of_mem z;obtain⟨b,_,q⟩:=aU S.cs (List.getElem?_eq_getElem hi);rw[e,S.ob]at q;cases q
 simp[HA.fp,n1,n2,n3,n4,n5]
theorem mH {H H':Hp}:∀ {cs:List Addr}{ci:List (Int×List Int)},Paired (fun a (x:Int×List Int)=>H a=some (.dK (qv x.2))) cs ci->(∀ b∈cs,∀ o,H b=some o->H' b=some o)->Paired (fun a (x:Int×List Int)=>H' a=some (.dK (qv x.2))) cs ci:=by
 intro cs ci hp k
 induction hp with
 | nil=>exact .nil
 | cons e _ ih=>exact .cons (k _ List.mem_cons_self _ e) (ih fun b hb=>k b (List.mem_cons_of_mem _ hb))
theorem dE (x:aN):∃ xs,bN x=.tup xs:=by cases x<;>exact⟨_,rfl⟩
theorem aM.tup (S:aM C H p A st){b:Addr}{xs:List V}(e:H b=some (.tup xs)):b∉A.fp:=by
 have n1:b≠A.w:=bz e S.w (by intro z;cases z);have n2:b≠A.h:=bz e S.h (by intro z;cases z);have n3:b≠A.c:=bz e S.c (by intro z;cases z);obtain⟨as,hd,_⟩:=S.d;have n4:b≠A.d:=bz e hd (by intro z;cases z)
 have n5:b∉A.cs:=fun z=>by
  obtain⟨i,hi,e'⟩:=List.getElem_of_mem z;obtain⟨y,_,q⟩:=aU S.cs (List.getElem?_eq_getElem hi);rw[e',e]at q;cases q
 simp[HA.fp,n1,n2,n3,n4,n5]
theorem aM.tracked (S:aM C H p A st){b:Addr}(h:b∈A.fp):∃ o,H b=some o:=by
 simp only[HA.fp,List.mem_cons]at h;rcases h with rfl | rfl | rfl | rfl | h
 ·exact⟨_,S.w⟩
 ·exact⟨_,S.h⟩
 ·exact⟨_,S.c⟩
 ·obtain⟨as,hd,_⟩:=S.d;exact⟨_,hd⟩
 ·obtain⟨i,hi,rfl⟩:=List.getElem_of_mem h
  obtain⟨y,_,q⟩:=aU S.cs (List.getElem?_eq_getElem hi);exact⟨_,q⟩
theorem zg.fp {A:HA}(a:zg A):A.fp.Nodup:=by
 simp only[HA.fp,List.nodup_cons,List.mem_cons,not_or];exact⟨⟨a.wh,a.wc,a.wd,a.w⟩,⟨a.hc,a.hd,a.h⟩,⟨a.cd,a.c⟩,a.d,a.cs⟩
theorem gz {fp:List Addr}{a:Addr}{o:HO}(h:a∈fp):Kp fp H (upd H a o):=fun b u e n=>by
 rw[af (fun z:b=a=>n (by rw[z];exact h))];exact e
theorem yi {fp:List Addr}{a:Addr}{o:HO}(h:H a=none):Kp fp H (upd H a o):=fun b u e n=>by
 rw[af (ak e h)];exact e
theorem Kp.on {fp:List Addr}{H1 H2:Hp}(a:Kp fp H H1)(b:Kp fp H1 H2):Kp fp H H2:=fun x o e n=>b x o (a x o e n) n
theorem uU (S:aM C H p A st)(w':List (Int×Int)):aM C (upd H A.w (.dK (dk w'))) p A { st with worn:=w' }:=by
 have a:=S.apart;have np:=S.pne;simp only[HA.fp,List.mem_cons,not_or]at np;refine⟨by rw[af np.1];exact S.ob,S.nd,ae,by rw[af (Ne.symm a.wh)];exact S.h,by rw[af (Ne.symm a.wc)];exact S.c,mH S.cs fun b hb o e=>by rw[af (fun z:b=A.w=>a.w (by rw[<-z];exact hb))];exact e,?_⟩;obtain⟨as,hd,hp⟩:=S.d;refine⟨as,by rw[af (Ne.symm a.wd)];exact hd,Paired.mapP hp fun b x e=>?_⟩;obtain⟨xs,ex⟩:=dE x;rw[af (fun z=>S.tup (xs:=xs) (by rw[<-ex];exact e) (by rw[z];simp[HA.fp]))];exact e
theorem uT (S:aM C H p A st)(w':List (Int×Int)):aM C (upd H A.h (.dK (dk w'))) p A { st with hold:=w' }:=by
 have a:=S.apart;have np:=S.pne;simp only[HA.fp,List.mem_cons,not_or]at np;refine⟨by rw[af np.2.1];exact S.ob,S.nd,by rw[af a.wh];exact S.w,ae,by rw[af (Ne.symm a.hc)];exact S.c,mH S.cs fun b hb o e=>by rw[af (fun z:b=A.h=>a.h (by rw[<-z];exact hb))];exact e,?_⟩;obtain⟨as,hd,hp⟩:=S.d;refine⟨as,by rw[af (Ne.symm a.hd)];exact hd,Paired.mapP hp fun b x e=>?_⟩;obtain⟨xs,ex⟩:=dE x;rw[af (fun z=>S.tup (xs:=xs) (by rw[<-ex];exact e) (by rw[z];simp[HA.fp]))];exact e
theorem oj (S:aM C H p A st){as:List Addr}(hd:H A.d=some (.lst (as.map V.ref)))(hp:Paired (fun a x=>H a=some (bN x)) as st.deeds)(x:aN)(ht:H t=none) :
  aM C (upd (upd H t (bN x)) A.d (.lst (as.map V.ref++[.ref t]))) p A { st with deeds:=st.deeds++[x] }:=by
 have a:=S.apart;have np:=S.pne;simp only[HA.fp,List.mem_cons,not_or]at np;have n:∀ b o,H b=some o->b≠t:=fun b o e=>ak e ht
 have e1:∀ b o,H b=some o->b≠A.d->(upd (upd H t (bN x)) A.d (.lst (as.map V.ref++[.ref t]))) b=some o:=fun b o e h=>by rw[af h,af (n b o e)];exact e
 have td:t≠A.d:=fun z=>by rw[z,hd]at ht;cases ht
 refine⟨e1 _ _ S.ob np.2.2.2.1,S.nd,e1 _ _ S.w a.wd,e1 _ _ S.h a.hd,e1 _ _ S.c a.cd,mH S.cs fun b hb o e=>e1 b o e (fun z=>a.d (by rw[<-z];exact hb)),as++[t],by rw[ae,List.map_append];rfl,?_⟩;refine aI (Paired.mapP hp fun b y e=>?_) (.cons (by rw[af td,ae]) .nil);obtain⟨xs,ex⟩:=dE y;exact e1 b _ e (fun z=>S.tup (xs:=xs) (by rw[<-ex];exact e) (by rw[z];simp[HA.fp]))
theorem zG:A.w∈A.fp:=by simp[HA.fp]
theorem zE:A.h∈A.fp:=by simp[HA.fp]
theorem EF:A.c∈A.fp:=by simp[HA.fp]
theorem Ci:A.d∈A.fp:=by simp[HA.fp]
end
theorem oh {c:HX}{H:Hp}{p:Addr}{A:HA}{st:bQ}{d:aN}{Q:VK}{E:XK}(k:sR c H p A st d Q E)(h:ba st d=.done):∀ H',v7 c.C H p A (after st d) H'->Q .non H':=by
 unfold sR at k;rwa [if_pos h]at k
theorem gy {c:HX}{H:Hp}{p:Addr}{A:HA}{st:bQ}{d:aN}{Q:VK}{E:XK}{o:BA}(k:sR c H p A st d Q E)(h:ba st d=o)(ho:o≠.done):uG c E H o:=by
 unfold sR at k;rwa [h,if_neg ho]at k
theorem mU:∀ (ci:List (Int×List Int))(a b:Int),(bY ci a b).length<=ci.length+1
 | [],_,_=>by simp[bY]
 | x::r,a,b=>by
  unfold bY;split
  ·simp
  ·have:=mU r a b;simp;omega
theorem Cb (ks:List Int)(b:Int):(eQ ks b).length<=ks.length+1:=by unfold eQ;split<;>simp
theorem qS {ci:List (Int×List Int)}{a b:Int}{n:Nat}(h:∀ x∈ci,x.2.length<=n)(hn:0<n+1):∀ x∈bY ci a b,x.2.length<=n+1:=by
 induction ci with
 | nil=>intro x hx;simp[bY]at hx;subst hx;simp
 | cons y r ih =>
  intro x hx;unfold bY at hx;split at hx
  ·rcases List.mem_cons.mp hx with z | z
   ·subst z;have:=Cb y.2 b;have:=h y List.mem_cons_self;simp only;omega
   ·have:=h x (List.mem_cons_of_mem _ z);omega
  ·rcases List.mem_cons.mp hx with z | z
   ·subst z;have:=h x List.mem_cons_self;omega
   ·exact ih (fun x hx=>h x (List.mem_cons_of_mem _ hx)) x z
theorem zR (ks:List Int)(b:Int):fH (qv ks) (Sum.inl b:cm) (V.bl true)=qv (eQ ks b):=by
 unfold fH eQ qv
 have e:((ks.map fun k=>((Sum.inl k:cm),V.bl true)).any fun kv=>decide (kv.1=(Sum.inl b:cm)))=decide (b∈ks):=by
  rw[List.any_map]
  induction ks with
  | nil=>rfl
  | cons x r ih=>rw[List.any_cons,ih];by_cases h:x=b<;>simp[h,eq_comm]
 rw[e]
 by_cases h:b∈ks
 ·rw[if_pos (decide_eq_true h),if_pos h,List.map_map]
  apply List.map_congr_left
  intro k _;simp only[Function.comp];split<;>rfl
 ·rw[if_neg (by simp[h]),if_neg h,List.map_append]
  rfl
theorem Ag (ks:List Int)(b:Int):(dH (qv ks) (Sum.inl b:cm)).isSome=decide (b∈ks):=by
 rw[<-kD];unfold qv;rw[List.any_map]
 induction ks with
 | nil=>rfl
 | cons x r ih=>rw[List.any_cons,ih];by_cases h:x=b<;>simp[h,eq_comm]
section
variable {H:Hp}
abbrev G3 (H:Hp)(cs:List Addr)(ci:List (Int×List Int)):Prop:=Paired (fun a (x:Int×List Int)=>H a=some (.dK (qv x.2))) cs ci
theorem iz:∀ {cs:List Addr}{ci:List (Int×List Int)}(a:Int),G3 H cs ci ->
  (dH (dD cs ci) (Sum.inl a:cm)=none/\cD ci a=[]/\∀ b,bY ci a b=ci++[(a,[b])]) \/
  ∃ ad,ad∈cs/\dH (dD cs ci) (Sum.inl a:cm)=some (.ref ad)/\H ad=some (.dK (qv (cD ci a))) /\
   ∀ b (H':Hp),cs.Nodup->(∀ x∈cs,x≠ad->∀ o,H x=some o->H' x=some o)->H' ad=some (.dK (qv (eQ (cD ci a) b)))->G3 H' cs (bY ci a b)/\dD cs (bY ci a b)=dD cs ci
 | _,_,a,.nil=>.inl ⟨rfl,rfl,fun b=>rfl⟩
 | c::cs,x::ci,a,.cons e r=>by
  by_cases h:x.1=a
  ·refine .inr ⟨c,List.mem_cons_self,kF (p:=((Sum.inl x.1:cm),V.ref c)) (by rw[h]),by simp only[cD,if_pos h];exact e,fun b H' nd k k'=>?_⟩
   simp only[cD,if_pos h]at k';simp only[bY,if_pos h];refine⟨.cons k' (mH r fun y hy o z=>k y (List.mem_cons_of_mem _ hy) (fun q=>(List.nodup_cons.mp nd).1 (by rw[<-q];exact hy)) o z),rfl⟩
  ·have hk:dH (dD (c::cs) (x::ci)) (Sum.inl a:cm)=dH (dD cs ci) (Sum.inl a:cm):=kE (p:=((Sum.inl x.1:cm),V.ref c)) (fun z=>h (Sum.inl.inj z))
   have hc:cD (x::ci) a=cD ci a:=by simp only[cD,if_neg h]
   rcases iz a r with ⟨h1,h2,h3⟩ | ⟨ad,h1,h2,h3,h4⟩
   ·exact .inl ⟨by rw[hk];exact h1,by rw[hc];exact h2,fun b=>by simp only[bY,if_neg h,h3 b,List.cons_append]⟩
   ·refine .inr ⟨ad,List.mem_cons_of_mem _ h1,by rw[hk];exact h2,by rw[hc];exact h3,fun b H' nd k k'=>?_⟩
    rw[hc]at k';obtain⟨n1,n2⟩:=List.nodup_cons.mp nd;obtain⟨q1,q2⟩:=h4 b H' n2 (fun y hy=>k y (List.mem_cons_of_mem _ hy)) k';simp only[bY,if_neg h];refine⟨.cons (k c List.mem_cons_self (fun z=>n1 (by rw[z];exact h1)) _ e) q1,?_⟩
    show _::dD cs (bY ci a b)=_::dD cs ci
    rw[q2]
theorem qV:∀ {cs:List Addr}{ci:List (Int×List Int)}(a:Int)(ks:List Int)(l:Addr),cs.length=ci.length->dD (cs++[l]) (ci++[(a,ks)])=dD cs ci++[(Sum.inl a,V.ref l)]
 | [],[],_,_,_,_=>rfl
 | c::cs,x::ci,a,ks,l,h=>by
  show _::dD (cs++[l]) (ci++[(a,ks)])=_
  rw[qV a ks l (by simpa using h)];rfl
theorem uk:∀ {cs:List Addr}{ci:List (Int×List Int)},cs.length=ci.length->(dD cs ci).length=ci.length
 | [],[],_=>rfl
 | c::cs,x::ci,h=>by show (dD cs ci).length+1=_;rw[uk (by simpa using h)];rfl
end
end Wz
namespace L2
open PySem PySem.Spec PyProof.Rows
def FJ (td ty tx:TE):TE:=fun σ H Q=>td σ H fun x H1=>∃ a,x=.ref a/\GS H1 a/\ty σ H1 fun y H2=>tx σ H2 fun z H3=>∃ kvs k,H3 a=some (.dK kvs)/\y=kV k/\kvs.length<sizeLine /\
 (∀ v,dH kvs k=some v->Q v H3)/\(dH kvs k=none->Q z (upd H3 a (.dK (fH kvs k z))))
theorem CI {X:Cx}{o e f:Expr}{apos cpos:Pos}{td ty tx:TE}(ho:PE X o td)(he:PE X e ty)(hf:PE X f tx)(m:M2 X o "setdefault" apos e f cpos):PE X (.Call (.Attribute o "setdefault" apos) [e,f] [] cpos) (FJ td ty tx):=by
 intro pins s σ H Q I h;refine wpAny_Call_method m.base m.few m.line PySem.F.plainAttrs_dict PySem.F.slot_dict_setdefault PySem.F.type_dict_setdefault (bA (ho pins s σ H _ I h) fun u s1 ⟨x,H1,I1,rx,a,ex,d,q1⟩=>?_);subst ex;obtain rfl:u=Value.ref a:=rx;obtain⟨t1,t2,_⟩:=yf I1 d;refine⟨t1,t2,?_⟩;rw[m.trees]
 refine Calls.callWith_builtin rfl (Calls.evalArgs_plain (Calls.spliced_cons (bA (he pins s1 σ H1 _ I1 q1) fun iv s2 ⟨y,H2,I2,ry,q2⟩ =>
  Calls.spliced_cons (bA (hf pins s2 σ H2 _ I2 q2) fun fv s3 ⟨z,H3,I3,rz,kvs,k,ea,ey,hlt,q3,q4⟩=>Calls.spliced_nil ?_))))
 subst ey;obtain⟨hz,hd,vs,rel,dd⟩:=zw I3.hok ea
 refine call_meetsIn PySem.F.slot_dict_setdefault dd.typeIs PySem.F.entry_dict_setdefault (PySem.F.args_dict_setdefault_3 _ _ _) (kt_meets_setdefault (bH X.prog X.w) a (mR ry) hd fv)
  ⟨vs,dd,by rw[<-rel.length];exact hz,fun v' hv'=>?_,fun hn h' dd' hs=>?_⟩
 ·cases l:dH kvs k with
  | none=>have:=rel.val k;rw[l,hv']at this;exact this.elim
  | some v =>
   have:=rel.val k;rw[l,hv']at this;exact⟨v,H3,I3.tok _,this,q3 v l⟩
 ·cases l:dH kvs k with
  | some v=>have:=rel.val k;rw[l,hn]at this;exact this.elim
  | none =>
   have he:∃ q,h'.get? a=some q:=let ⟨q,_,_,hq,_⟩:=dd';⟨q,hq⟩;exact⟨z,_,mI I3 (by rw[ea];exact True.intro) hs he (uM (by have:=gX kvs k z;omega) hd (rel.put k rz) dd'),rz,q4 l⟩
section
variable {X:Cx}
theorem Ao:jK X (.type "set") (fun xs H Q=>xs=[]/\∀ p,H p=none->Q (.ref p) (upd H p (.set (fun _=>false) 0))):=by
 intro pins s σ H xs us Q I r h;obtain⟨rfl,q⟩:=h;cases r;refine call_set_0 fun led=>?_;refine⟨.ref s.heap.objs.size,_,I.laid (t':=s.toks) (fun b u e=>Heap.get?_push_of_some _ e) (Nat.le_refl _) ?_,rfl,q _ (I.hok.fresh (Nat.le_refl _))⟩
 show Heap.SetOf (intKind X.prog X.w) _ _ _ _
 exact ((intSetOf_fresh led).kind X.prog X.w).setOf (Heap.get?_push_size _ rfl) (by decide)
def Hq (neg:Bool):R2:=fun x y H Q=>∃ (p:Addr)(S:Int->Bool)(n:Nat)(i:Int),x=.int i/\y=.ref p/\H p=some (.set S n)/\Q (.bl (if neg then !S i else S i)) H
theorem A4:qO X (compareOp .NotIn) (Hq true):=by
 intro pins s σ H x y v u Q I rx ry h;obtain⟨p,S,n,i,rfl,rfl,hp,q⟩:=h;obtain⟨t,rfl⟩:=rx;cases ry;have hS:s.heap.SetOf (intKind X.prog X.w) p S n:=I.hok p _ hp;exact wpAny_notInSet_of (k:=i) (by show Value.isInt i (.int i t)=true;simp[Value.isInt]) rfl hS ⟨.bl (!S i),H,I.tok _,rfl,q⟩
def Gy:V->List V->Hp->VK->Prop:=fun x vs H Q=>∃ (p:Addr)(S:Int->Bool)(n:Nat)(i:Int),x=.ref p/\vs=[.int i]/\H p=some (.set S n)/\n+1<4096/\Q .non (upd H p (.set (fun k=>S k||decide (k=i)) (if S i then n else n+1)))
theorem D2:G7 X "set.add" Gy:=by
 intro pins s σ H x vs v us Q I rx rv h;obtain⟨p,S,n,i,rfl,rfl,hp,hn,q⟩:=h;cases rx;obtain⟨u,rfl,ru⟩:=rv.one;obtain⟨t,rfl⟩:=ru;have hS:s.heap.SetOf (intKind X.prog X.w) p S n:=I.hok p _ hp;refine call_set_add (k:=i) (by show Value.isInt i (.int i t)=true;simp[Value.isInt]) rfl hS hn fun h' hsb hS'=>?_;obtain⟨o,_,_,_,ho,_⟩:=id hS';exact⟨.non,_,I.write (t':=s.toks+1) (o:=.set (fun k=>S k||decide (k=i)) (if S i then n else n+1)) (by rw[hp];trivial) (.inl rfl) (fun b u hb e=>(hsb.2 b hb).trans e) ⟨o,ho⟩ hS',rfl,q⟩
end
end L2
namespace Wz
open PySem L2
theorem B7 {A:Around}{k n:Nat}(hr:cQ k A)(h:n<=200):A.units+n<cLine:=by have:=hr.un;omega
theorem cc:decide (V.str "come" = V.str "come")=true:=by decide +kernel
theorem cg:decide (V.str "come" = V.str "go")=false:=by decide +kernel
theorem ce:decide (V.str "come" = V.str "exchange")=false:=by decide +kernel
theorem gc:decide (V.str "go" = V.str "come")=false:=by decide +kernel
theorem gg:decide (V.str "go" = V.str "go")=true:=by decide +kernel
theorem ge:decide (V.str "go" = V.str "exchange")=false:=by decide +kernel
theorem ec:decide (V.str "exchange" = V.str "come")=false:=by decide +kernel
theorem eg:decide (V.str "exchange" = V.str "go")=false:=by decide +kernel
theorem ee:decide (V.str "exchange" = V.str "exchange")=true:=by decide +kernel
def eR:aN->Str
 | .come _=>"come"
 | .go _=>"go"
 | .exch _ _=>"exchange"
def dw (d:aN):List V:=V.str (eR d)::(names d).map V.int
theorem iO (d:aN):bN d=.tup (dw d):=by cases d<;>rfl
theorem BI (d:aN):gv (dw d) (some 1) none=(names d).map V.int:=by cases d<;>rfl
theorem DF (d:aN):¬ (HT.sIx (dw d).length 0 (some 1)=0/\HT.sIx (dw d).length (dw d).length none=(dw d).length):=by cases d<;>(intro h;have h1:=h.1;simp[dw,names,HT.sIx]at h1)
def b9 (w:List (Int×Int))(m:Int->Int->Bool):aN->BA
 | .come g=>if (look w g).isSome then .already else .done
 | .go g=>match look w g with | none=>.noguest g | some x=>if x=g then .done else .masked
 | .exch a b=>match look w a with
  | none=>.noguest a
  | some _=>match look w b with
   | none=>.noguest b
   | some _=>if a=b then .same else if m a b then .met else .done
theorem DT (st:bQ)(d:aN):ba st d=b9 st.worn (cC st.circ) d:=by cases d<;>rfl
theorem uX {w:List (Int×Int)}{m m':Int->Int->Bool}(h:∀ a b,m a b=m' a b)(d:aN):b9 w m d=b9 w m' d:=by cases d<;>simp only[b9,h]
def bW (a b:Int):Int×Int:=if b<a then (b,a) else (a,b)
def iY (ml:List (Int×Int))(a b:Int):Bool:=decide (bW a b∈ml)
def sX (ml:List (Int×Int)):List (List cm×V):=ml.map fun p=>([Sum.inl p.1,Sum.inl p.2],V.bl true)
def nY (ml:List (Int×Int))(p:Int×Int):List (Int×Int):=if p∈ml then ml else ml++[p]
def xv:BA->List V
 | .done=>[.str "done",.non]
 | .already=>[.str "AlreadyIn",.non]
 | .masked=>[.str "Masked",.non]
 | .same=>[.str "Same",.non]
 | .met=>[.str "Met",.non]
 | .noguest g=>[.str "NoGuest",.int g]
def uI (w:List (Int×Int)):aN->List (Int×Int)
 | .come g=>put w g g
 | .go g=>cG w g
 | .exch a b=>put (put w a (wr w b)) b (wr w a)
def nZ (ml:List (Int×Int)):aN->List (Int×Int)
 | .come _=>ml
 | .go _=>ml
 | .exch a b=>nY ml (bW a b)
theorem iK (st:bQ)(d:aN):(after st d).worn=uI st.worn d:=by cases d<;>rfl
theorem zK (ml:List (Int×Int))(p:Int×Int):((sX ml).any fun kv=>decide (kv.1=([Sum.inl p.1,Sum.inl p.2]:List cm)))=decide (p∈ml):=by
 unfold sX;rw[List.any_map]
 induction ml with
 | nil=>rfl
 | cons x r ih =>
  rw[List.any_cons,ih]
  have:(decide ((([Sum.inl x.1,Sum.inl x.2]:List cm))=[Sum.inl p.1,Sum.inl p.2]))=decide (p=x):=by
   by_cases h:p=x
   ·subst h;simp
   ·rw[decide_eq_false h,decide_eq_false]
    intro z;simp only[List.cons.injEq,Sum.inl.injEq,and_true]at z;exact h (Prod.ext z.1.symm z.2.symm)
  simp only[Function.comp];rw[this]
  by_cases h:p=x<;>simp[h]
theorem D1 (ml:List (Int×Int))(p:Int×Int):(dH (sX ml) ([Sum.inl p.1,Sum.inl p.2]:List cm)).isSome=decide (p∈ml):=by rw[<-kD,zK]
theorem D0 (ml:List (Int×Int))(p:Int×Int):fH (sX ml) ([Sum.inl p.1,Sum.inl p.2]:List cm) (V.bl true)=sX (nY ml p):=by
 unfold fH nY;rw[zK]
 by_cases h:p∈ml
 ·rw[if_pos (decide_eq_true h),if_pos h]
  unfold sX;rw[List.map_map]
  apply List.map_congr_left
  intro x _;simp only[Function.comp];split<;>rfl
 ·rw[if_neg (by simp[h]),if_neg h]
  unfold sX;rw[List.map_append];rfl
theorem B8 {w:List (Int×Int)}{m:Int->Int->Bool}{d:aN}{i:Nat}{x:Int}(hc:eR d≠"come")(hp:∀ y∈(names d).take i,(look w y).isSome=true)(hi:(names d)[i]? = some x)(hx:look w x=none):b9 w m d=.noguest x:=by
 cases d with
 | come g=>exact absurd rfl hc
 | go g =>
  cases i with
  | zero=>simp[names]at hi;subst hi;simp[b9,hx]
  | succ i=>simp[names]at hi
 | exch a b =>
  cases i with
  | zero=>simp[names]at hi;subst hi;simp[b9,hx]
  | succ i =>
   cases i with
   | zero =>
    simp[names]at hi;subst hi;have:=hp a (by simp[names]);obtain⟨v,hv⟩:=Option.isSome_iff_exists.mp this;simp[b9,hv,hx]
   | succ i=>simp[names]at hi
def zV:Sp:=fun vs H Q _=>∃ a b:Int,vs=[.int a,.int b]/\∀ t,H t=none->Q (.ref t) (upd H t (.tup [.int (bW a b).1,.int (bW a b).2]))
def zU:Sp:=fun vs H Q _=>∃ (w m t:Addr)(wl ml:List (Int×Int))(d:aN),vs=[.ref w,.ref m,.ref t]/\H w=some (.dK (dk wl))/\H m=some (.dT (sX ml))/\H t=some (bN d) /\
 ∀ (r:Addr)(H':Hp),H r=none->ay H H'->H' r=some (.tup (xv (b9 wl (iY ml) d)))->Q (.ref r) H'
def nj:Sp:=fun vs H Q _=>∃ (w m t:Addr)(wl ml:List (Int×Int))(d:aN),vs=[.ref w,.ref m,.ref t]/\H w=some (.dK (dk wl))/\H m=some (.dT (sX ml))/\H t=some (bN d)/\wl.length<=1000/\ml.length<=4000/\b9 wl (iY ml) d=.done /\
 ∀ H',H' w=some (.dK (dk (uI wl d)))->H' m=some (.dT (sX (nZ ml d)))->(∀ b o,H b=some o->b≠w->b≠m->H' b=some o)->Q .non H'
structure cZ (st:bQ):Prop where
 wn:(aq st.worn).Nodup
 wh:∀ g m,look st.worn g=some m↔look st.hold m=some g
 ow:∀ g m,look st.worn g=some m->m∈aq st.worn
 sm:∀ g m,look st.worn g=some m->aV m
 cy:∀ a b,cC st.circ a b=cC st.circ b a
def c5 (st:bQ)(d:aN):bQ:=if ba st d=.done then after st d else st
def En (c:HX):Sp:=fun vs H Q E=>∃ (p t:Addr)(A:HA)(st:bQ)(d:aN),vs=[.ref p,.ref t]/\H t=some (bN d)/\aM c.C H p A st/\xX st/\cZ st/\(∀ g∈names d,aV g)/\sR c H p A st d Q E
def a9 (m c:Int):List Int:=(List.range m.toNat).map fun (k:Nat)=>dC (k:Int) c
theorem oi (k c:Int):aV (dC k c):=by
 unfold aV dC;have h:∀ x:Int,0<=x%2147483647/\x%2147483647<2147483647:=fun x=>⟨Int.emod_nonneg _ (by decide),Int.emod_lt_of_pos _ (by decide)⟩;dsimp only;generalize hx:(k*(1+gu c*1234567891%2147483646)+gu c/2147483646)%2147483647=x;have:=h (k*(1+gu c*1234567891%2147483646)+gu c/2147483646);rw[hx]at this
 have e:(10:Nat) ^ 100=10 ^ 15*10 ^ 85:=by rw[<-Nat.pow_add]
 have e2:(0:Nat)<10 ^ 85:=Nat.pow_pos (by decide)
 have:x.natAbs<10 ^ 15/\(x+997852516353).natAbs<10 ^ 15:=by constructor<;>omega
 split
 ·calc _<10 ^ 15:=this.2
   _<=10 ^ 15*10 ^ 85:=Nat.le_mul_of_pos_right _ e2
   _=10 ^ 100:=e.symm
 ·calc _<10 ^ 15:=this.1
   _<=10 ^ 15*10 ^ 85:=Nat.le_mul_of_pos_right _ e2
   _=10 ^ 100:=e.symm
theorem kG (x:Int):∀ (c:List (Int×List Int))(a b:Int),cD (bY c a b) x=if x=a then eQ (cD c a) b else cD c x
 | [],a,b=>by
  by_cases h:x=a
  ·subst h;simp[bY,cD,eQ]
  ·simp[bY,cD,h,Ne.symm h]
 | y::r,a,b=>by
  unfold bY
  by_cases h:y.1=a
  ·rw[if_pos h]
   by_cases hx:x=a
   ·subst hx;simp[cD,h]
   ·have:¬ y.1=x:=fun z=>hx (z.symm.trans h)
    simp[cD,hx,this]
  ·rw[if_neg h]
   by_cases hx:x=a
   ·subst hx
    simp only[cD,if_neg h,if_true];rw[kG x r x b,if_pos rfl]
   ·simp only[cD,kG x r a b,if_neg hx]
theorem wK {ks:List Int}{b y:Int}:y∈eQ ks b↔y∈ks\/y=b:=by
 unfold eQ;split
 ·rename_i h
  constructor
  ·exact .inl
  ·rintro (z | z)
   ·exact z
   ·rw[z];exact h
 ·simp
theorem zH (c:List (Int×List Int))(a b x y:Int):cC (bY c a b) x y=(cC c x y||(decide (x=a)&&decide (y=b))):=by
 unfold cC;rw[kG]
 by_cases h:x=a
 ·subst h
  rw[if_pos rfl]
  by_cases hy:y=b
  ·have:y∈eQ (cD c x) b:=wK.mpr (.inr hy)
   simp[hy,this];rw[hy]at this;exact this
  ·have:(y∈eQ (cD c x) b)↔y∈cD c x:=by rw[wK];simp[hy]
   simp[hy,this]
 ·rw[if_neg h];simp[h]
theorem u9 (c:List (Int×List Int))(a b x y:Int):cC (bY (bY c a b) b a) x y=(cC c x y||(decide (x=a)&&decide (y=b))||(decide (x=b)&&decide (y=a))):=by rw[zH,zH]
theorem oF {l:List (Int×Int)}(h:(aq l).Nodup)(g m:Int):(aq (put l g m)).Nodup:=by
 rw[ro];split
 ·exact h
 ·rename_i n
  exact qw h n
theorem zN {l:List (Int×Int)}(h:(aq l).Nodup)(g:Int):(aq (cG l g)).Nodup:=by
 unfold aq cG at *;exact (List.filter_sublist.map _).nodup h
theorem rk:cZ ⟨[],[],[],[]⟩:=by
 refine⟨List.nodup_nil,fun g m=>?_,fun g m h=>?_,fun g m h=>?_,fun a b=>rfl⟩
 ·simp[look]
 ·simp[look]at h
 ·simp[look]at h
theorem ug {st:bQ}{d:aN}(G:cZ st)(sm:∀ g∈names d,aV g):cZ (c5 st d):=by
 unfold c5
 by_cases hd:ba st d=.done
 ·rw[if_pos hd]
  have kw:∀ g m,look st.worn g=some m->g∈aq st.worn:=fun g m h=>bn.mp (by rw[h];rfl)
  cases d with
  | come g =>
   have hn:look st.worn g=none:=by
    cases e:look st.worn g with
    | none=>rfl
    | some m=>simp[ba,e]at hd
   have hh:look st.hold g=none:=by
    cases e:look st.hold g with
    | none=>rfl
    | some m =>
     have:=G.ow m g ((G.wh m g).mpr e);rw[<-bn,hn]at this;cases this
   refine⟨oF G.wn g g,fun x m=>?_,fun x m h=>?_,fun x m h=>?_,G.cy⟩
   ·show look (put st.worn g g) x=some m↔look (put st.hold g g) m=some x
    rw[bS,bS]
    by_cases hx:x=g
    ·subst hx
     by_cases hm:m=x
     ·subst hm;simp
     ·rw[if_pos rfl,if_neg hm]
      constructor
      ·intro z;exact absurd (Option.some.inj z).symm hm
      ·intro z
       have:=(G.wh x m).mpr z;rw[hn]at this;cases this
    ·rw[if_neg hx]
     by_cases hm:m=g
     ·subst hm
      rw[if_pos rfl];constructor
      ·intro z
       have:=(G.wh x m).mp z;rw[hh]at this;cases this
      ·intro z;exact absurd (Option.some.inj z).symm hx
     ·rw[if_neg hm];exact G.wh x m
   ·have h:look (put st.worn g g) x=some m:=h
    show m∈aq (put st.worn g g)
    rw[bS]at h;rw[<-bn,bS]
    by_cases hx:x=g
    ·rw[if_pos hx]at h;cases h;rw[if_pos rfl];rfl
    ·rw[if_neg hx]at h
     have:=G.ow x m h;rw[<-bn]at this;split
     ·rfl
     ·exact this
   ·have h:look (put st.worn g g) x=some m:=h
    rw[bS]at h
    by_cases hx:x=g
    ·rw[if_pos hx]at h;cases h;exact sm g (by simp[names])
    ·rw[if_neg hx]at h;exact G.sm x m h
  | go g =>
   have hg:look st.worn g=some g:=by
    cases e:look st.worn g with
    | none=>simp[ba,e]at hd
    | some m =>
     by_cases z:m=g
     ·rw[z]
     ·simp[ba,e,z]at hd
   have hh:look st.hold g=some g:=(G.wh g g).mp hg;refine⟨zN G.wn g,fun x m=>?_,fun x m h=>?_,fun x m h=>?_,G.cy⟩
   ·show look (cG st.worn g) x=some m↔look (cG st.hold g) m=some x
    rw[dW,dW]
    by_cases hx:x=g
    ·subst hx
     rw[if_pos rfl]
     by_cases hm:m=x
     ·rw[if_pos hm];simp
     ·rw[if_neg hm]
      constructor
      ·intro z;cases z
      ·intro z
       have:=(G.wh x m).mpr z;rw[hg]at this;exact absurd (Option.some.inj this).symm hm
    ·rw[if_neg hx]
     by_cases hm:m=g
     ·subst hm
      rw[if_pos rfl];constructor
      ·intro z
       have:=(G.wh x m).mp z;rw[hh]at this;exact absurd (Option.some.inj this).symm hx
      ·intro z;cases z
     ·rw[if_neg hm];exact G.wh x m
   ·have h:look (cG st.worn g) x=some m:=h
    show m∈aq (cG st.worn g)
    rw[dW]at h
    by_cases hx:x=g
    ·rw[if_pos hx]at h;cases h
    ·rw[if_neg hx]at h
     refine oC.mpr ⟨G.ow x m h,fun z=>?_⟩;rw[z]at h;have:=(G.wh x g).mp h;rw[hh]at this;exact hx (Option.some.inj this).symm
   ·have h:look (cG st.worn g) x=some m:=h
    rw[dW]at h
    by_cases hx:x=g
    ·rw[if_pos hx]at h;cases h
    ·rw[if_neg hx]at h;exact G.sm x m h
  | exch a b =>
   obtain⟨ma,ea⟩:∃ m,look st.worn a=some m:=by
    cases e:look st.worn a with
    | none=>simp[ba,e]at hd
    | some m=>exact⟨m,rfl⟩
   obtain⟨mb,eb⟩:∃ m,look st.worn b=some m:=by
    cases e:look st.worn b with
    | none=>simp[ba,ea,e]at hd
    | some m=>exact⟨m,rfl⟩
   have hab:a≠b:=fun z=>by simp[ba,ea,eb,z]at hd
   have wa:wr st.worn a=ma:=by unfold wr;rw[ea];rfl
   have wb:wr st.worn b=mb:=by unfold wr;rw[eb];rfl
   have ha:=(G.wh a ma).mp ea;have hb:=(G.wh b mb).mp eb
   have hmm:ma≠mb:=fun z=>by rw[z,hb]at ha;exact hab (Option.some.inj ha).symm
   have lw:∀ x,look (put (put st.worn a mb) b ma) x=if x=b then some ma else if x=a then some mb else look st.worn x:=fun x=>by rw[bS,bS]
   have lh:∀ x,look (put (put st.hold mb a) ma b) x=if x=ma then some b else if x=mb then some a else look st.hold x:=fun x=>by rw[bS,bS]
   show cZ { worn:=put (put st.worn a (wr st.worn b)) b (wr st.worn a),hold:=put (put st.hold (wr st.worn b) a) (wr st.worn a) b,circ:=bY (bY st.circ a b) b a,deeds:=st.deeds++[.exch a b] }
   rw[wa,wb];refine⟨oF (oF G.wn a mb) b ma,fun x m=>?_,fun x m h=>?_,fun x m h=>?_,fun x y=>?_⟩
   ·show look (put (put st.worn a mb) b ma) x=some m↔look (put (put st.hold mb a) ma b) m=some x
    rw[lw,lh]
    by_cases hxb:x=b
    ·subst hxb
     rw[if_pos rfl]
     by_cases hm:m=ma
     ·rw[if_pos hm,hm];simp
     ·rw[if_neg hm]
      constructor
      ·intro z;exact absurd (Option.some.inj z).symm hm
      ·intro z
       by_cases hm2:m=mb
       ·rw[if_pos hm2]at z;exact absurd (Option.some.inj z) hab
       ·rw[if_neg hm2]at z
        have:=(G.wh x m).mpr z;rw[eb]at this;exact absurd (Option.some.inj this).symm hm2
    ·rw[if_neg hxb]
     by_cases hxa:x=a
     ·subst hxa
      rw[if_pos rfl]
      by_cases hm:m=ma
      ·rw[if_pos hm]
       constructor
       ·intro z;exact absurd ((Option.some.inj z).trans hm).symm hmm
       ·intro z;exact absurd (Option.some.inj z).symm hab
      ·rw[if_neg hm]
       by_cases hm2:m=mb
       ·rw[if_pos hm2,hm2];simp
       ·rw[if_neg hm2]
        constructor
        ·intro z;exact absurd (Option.some.inj z).symm hm2
        ·intro z
         have:=(G.wh x m).mpr z;rw[ea]at this;exact absurd (Option.some.inj this).symm hm
     ·rw[if_neg hxa]
      by_cases hm:m=ma
      ·rw[if_pos hm]
       constructor
       ·intro z
        have:=(G.wh x m).mp z;rw[hm,ha]at this;exact absurd (Option.some.inj this).symm hxa
       ·intro z;exact absurd (Option.some.inj z).symm hxb
      ·rw[if_neg hm]
       by_cases hm2:m=mb
       ·rw[if_pos hm2]
        constructor
        ·intro z
         have:=(G.wh x m).mp z;rw[hm2,hb]at this;exact absurd (Option.some.inj this).symm hxb
        ·intro z;exact absurd (Option.some.inj z).symm hxa
       ·rw[if_neg hm2];exact G.wh x m
   ·have h:look (put (put st.worn a mb) b ma) x=some m:=h
    show m∈aq (put (put st.worn a mb) b ma)
    have key:∀ y,y∈aq st.worn->y∈aq (put (put st.worn a mb) b ma):=fun y hy=>by
     rw[<-bn]at hy ⊢;rw[lw];split
     ·rfl
     ·split
      ·rfl
      ·exact hy
    rw[lw]at h;split at h
    ·cases h;exact key _ (G.ow a _ ea)
    ·split at h
     ·cases h;exact key _ (G.ow b _ eb)
     ·exact key _ (G.ow x m h)
   ·have h:look (put (put st.worn a mb) b ma) x=some m:=h
    rw[lw]at h;split at h
    ·cases h;exact G.sm a _ ea
    ·split at h
     ·cases h;exact G.sm b _ eb
     ·exact G.sm x m h
   ·show cC (bY (bY st.circ a b) b a) x y=cC (bY (bY st.circ a b) b a) y x
    rw[u9,u9,G.cy x y];cases decide (x=a)<;>cases decide (x=b)<;>cases decide (y=a)<;>cases decide (y=b)<;>simp
 ·rw[if_neg hd];exact G
theorem fA {K:PySem.W.Frag}{H:Hp}{l:Addr}{ns:List Int}(h:aW K H l (ns.map V.int)):RD K H 2 (.ref l) (ux ns):=by
 refine RD.lst h ?_;clear h
 induction ns with
 | nil=>exact .nil
 | cons n r ih=>exact .cons (RD.flat rfl 1) ih
theorem Cq {ms ns:List Int}:ux ms=ux ns↔ms=ns:=by
 constructor
 ·intro h
  unfold ux at h;injection h with _ h;revert ns
  induction ms with
  | nil=>intro ns h;cases ns with | nil=>rfl | cons _ _=>cases h
  | cons m ms ih =>
   intro ns h
   cases ns with
   | nil=>cases h
   | cons n ns =>
    rw[List.map_cons,List.map_cons]at h;injection h with h1 h2;injection h1 with h1;injection h1 with h1;rw[h1,ih h2]
 ·intro h;rw[h]
def FQ (xs:List V):Dt:=.sq true (xs.map fun v=>.at v)
theorem C6 {K:PySem.W.Frag}{H:Hp}{l:Addr}{xs:List V}(h:H l=some (.tup xs))(hf:∀ x∈xs,jW x=true):RD K H 2 (.ref l) (FQ xs):=by
 refine RD.tup (eP.of h) ?_;clear h
 induction xs with
 | nil=>exact .nil
 | cons n r ih=>exact .cons (RD.flat (hf n List.mem_cons_self) 1) (ih fun x hx=>hf x (List.mem_cons_of_mem _ hx))
theorem Cy (o:BA):∀ x∈xv o,jW x=true:=by
 cases o<;>(intro x hx;simp[xv]at hx;rcases hx with rfl | rfl<;>rfl)
theorem C7 {K:PySem.W.Frag}{H:Hp}{l:Addr}{o:BA}(h:H l=some (.tup (xv o))):RD K H 2 (.ref l) (FQ (xv o)):=C6 h (Cy o)
def G4 (P:Program)(w:World)(K:PySem.W.Frag)(mg:Str->Option Value)(base:Heap)(c:HX):Prop:=∃ (fI:Addr)(fd:FuncData),Mk K c.C fI/\bb P w K mg base cL 1 fI fd ["self"] (Di c.C)/\gq K fd ["self"] []
theorem Gw {X:Cx}{c:HX}{p pos:Pos}(M:G4 X.prog X.w X.K X.mg X.base c)(U:HT X.K X.mg c)(hr:cQ 2 X.A)(hg:Gl X "Hall"):PE X (.Call (.Name "Hall" p) [] [] pos) (EJ c.C (Di c.C) [] E0 qo):=by
 obtain⟨fI,fd,M,G,hb⟩:=M;exact CJ M G hr hg U.mC hb .nil dY
structure Ev (c:HX)(H0 H:Hp)(x:Addr)(B:HA)(st:bQ):Prop where
 same:ay H0 H
 hall:aM c.C H x B st
 good:cZ st
 nfp:∀ b∈B.fp,H0 b=none
theorem Ev.on {c:HX}{H0 H H':Hp}{x:Addr}{B:HA}{st:bQ}(e:Ev c H0 H x B st)(s:ay H H'):Ev c H0 H' x B st:=⟨e.same.trans s,e.hall.mono s,e.good,e.nfp⟩
theorem Ev.moved {c:HX}{H0 H H':Hp}{x:Addr}{B:HA}{st st':bQ}(e:Ev c H0 H x B st)(m:v7 c.C H x B st' H')(g:cZ st') :
  ∃ B',Ev c H0 H' x B' st'/\(∀ y o,H y=some o->y∉B.fp->H' y=some o/\y∉B'.fp)/\Tr H H':=by
 obtain⟨B',S,k,f,t⟩:=m;refine⟨B',⟨fun b o q=>k b o (e.same b o q) (fun z=>by rw[e.nfp b z]at q;cases q),S,g,fun b hb=>?_⟩,fun y o q n=>⟨k y o q n,fun z=>?_⟩,t⟩
 ·rcases f b hb with z | z
  ·exact e.nfp b z
  ·exact e.same.free z
 ·rcases f y z with z | z
  ·exact n z
  ·rw[q]at z;cases z
theorem Ev.write {c:HX}{H0 H H':Hp}{x:Addr}{B:HA}{st:bQ}{ws:List Addr}(e:Ev c H0 H x B st)(k:Kp ws H H')(h1:∀ y∈ws,y∉B.fp)(h2:x∉ws)(h3:∀ y∈ws,H0 y=none)(h4:∀ b xs,H b=some (.tup xs)->b∉ws):Ev c H0 H' x B st :=
 ⟨fun b o q=>k b o (e.same b o q) (fun z=>by rw[h3 b z]at q;cases q),e.hall.kept k h2 (fun b hb z=>h1 b z hb) h4,e.good,e.nfp⟩
theorem Ev.fits {st:bQ}(h1:st.worn.length<=100)(h2:st.hold.length<=100)(h3:st.circ.length<=900)(h4:∀ x∈st.circ,x.2.length<=900)(h5:st.deeds.length<=900):xX st:=⟨by omega,by omega,by omega,fun x hx=>by have:=h4 x hx;omega,by omega⟩
def Of (L:List Int)(st:bQ):Prop:=(∀ g∈aq st.worn,g∈L)/\(∀ g∈aq st.hold,g∈L)/\(aq st.hold).Nodup
theorem of_empty {L:List Int}:Of L ⟨[],[],[],[]⟩:=⟨fun g h=>by simp[aq]at h,fun g h=>by simp[aq]at h,List.nodup_nil⟩
theorem iB {l:List (Int×Int)}{g m x:Int}:x∈aq (put l g m)↔x∈aq l\/x=g:=by
 rw[ro];split
 ·rename_i h
  constructor
  ·exact .inl
  ·rintro (z | z)
   ·exact z
   ·rw[z];exact h
 ·simp
theorem zP {L:List Int}{st:bQ}{d:aN}(G:cZ st)(o:Of L st)(hn:∀ g∈names d,g∈L):Of L (c5 st d):=by
 unfold c5
 by_cases hd:ba st d=.done
 ·rw[if_pos hd]
  obtain⟨o1,o2,o3⟩:=o
  cases d with
  | come g =>
   refine⟨fun x hx=>?_,fun x hx=>?_,oF o3 g g⟩
   ·rcases iB.mp (show x∈aq (put st.worn g g) from hx) with z | z
    ·exact o1 x z
    ·rw[z];exact hn g (by simp[names])
   ·rcases iB.mp (show x∈aq (put st.hold g g) from hx) with z | z
    ·exact o2 x z
    ·rw[z];exact hn g (by simp[names])
  | go g =>
   exact⟨fun x hx=>o1 x (oC.mp (show x∈aq (cG st.worn g) from hx)).1,fun x hx=>o2 x (oC.mp (show x∈aq (cG st.hold g) from hx)).1,zN o3 g⟩
  | exch a b =>
   obtain⟨ma,ea⟩:∃ m,look st.worn a=some m:=by
    cases e:look st.worn a with
    | none=>simp[ba,e]at hd
    | some m=>exact⟨m,rfl⟩
   obtain⟨mb,eb⟩:∃ m,look st.worn b=some m:=by
    cases e:look st.worn b with
    | none=>simp[ba,ea,e]at hd
    | some m=>exact⟨m,rfl⟩
   have wa:wr st.worn a=ma:=by unfold wr;rw[ea];rfl
   have wb:wr st.worn b=mb:=by unfold wr;rw[eb];rfl
   refine⟨fun x hx=>?_,fun x hx=>?_,oF (oF o3 _ _) _ _⟩
   ·rcases iB.mp (show x∈aq (put (put st.worn a (wr st.worn b)) b (wr st.worn a)) from hx) with z | z
    ·rcases iB.mp z with z | z
     ·exact o1 x z
     ·rw[z];exact hn a (by simp[names])
    ·rw[z];exact hn b (by simp[names])
   ·rcases iB.mp (show x∈aq (put (put st.hold (wr st.worn b) a) (wr st.worn a) b) from hx) with z | z
    ·rcases iB.mp z with z | z
     ·exact o2 x z
     ·rw[z,wb];exact o1 _ (G.ow b mb eb)
    ·rw[z,wa];exact o1 _ (G.ow a ma ea)
 ·rw[if_neg hd];exact o
theorem j8 {L:List Int}{st:bQ}(G:cZ st)(o:Of L st):st.worn.length<=L.length/\st.hold.length<=L.length:=by
 have e1:st.worn.length=(aq st.worn).length:=by simp[aq]
 have e2:st.hold.length=(aq st.hold).length:=by simp[aq]
 exact⟨by rw[e1];exact b6 G.wn o.1,by rw[e2];exact b6 o.2.2 o.2.1⟩
theorem yy (st:bQ)(d:aN):(c5 st d).deeds.length<=st.deeds.length+1:=by
 unfold c5;split
 ·cases d<;>simp[after]
 ·omega
theorem AT (st:bQ)(d:aN):(c5 st d).worn=if ba st d=.done then uI st.worn d else st.worn:=by
 unfold c5;split
 ·exact iK st d
 ·rfl
def Gv:BA->Str
 | .done=>"done"
 | .already=>"AlreadyIn"
 | .masked=>"Masked"
 | .same=>"Same"
 | .met=>"Met"
 | .noguest _=>"NoGuest"
theorem Hn (o:BA):(xv o)[0]? = some (V.str (Gv o)):=by cases o<;>rfl
theorem A6 (o:BA):decide (V.str (Gv o)=V.str "done")=decide (o=.done):=by
 cases o with
 | done=>exact (show decide (V.str "done" = V.str "done")=true by decide +kernel)
 | already=>exact (show decide (V.str "AlreadyIn" = V.str "done")=false by decide +kernel)
 | masked=>exact (show decide (V.str "Masked" = V.str "done")=false by decide +kernel)
 | same=>exact (show decide (V.str "Same" = V.str "done")=false by decide +kernel)
 | met=>exact (show decide (V.str "Met" = V.str "done")=false by decide +kernel)
 | noguest g =>
  rw[decide_eq_false (show ¬ BA.noguest g=.done by simp)];exact (show decide (V.str "NoGuest" = V.str "done")=false by decide +kernel)
theorem oA (m c:Int):(a9 m c).length=m.toNat:=by unfold a9;simp
theorem GE:aZ (aq [])=[]:=by unfold aZ aq;simp
theorem Ev.track {c:HX}{H0 H:Hp}{x:Addr}{B:HA}{st:bQ}(e:Ev c H0 H x B st){y:Addr}(h:H y=none):y∉B.fp:=fun z=>by
 obtain⟨o,q⟩:=e.hall.tracked z;rw[h]at q;cases q
def vH:Sp:=fun vs H Q _=>∃ dr m c:Int,vs=[.int dr,.int m,.int c]/\(0<=dr/\dr<=100000)/\(2<=m/\m<=40)/\∀ (t:Addr)(d:aN),H t=none->(∀ g∈names d,g∈a9 40 c)->Q (.ref t) (upd H t (bN d))
def vG:Sp:=fun vs H Q _=>∃ c:Int,vs=[.int c]/\∀ m:Int,2<=m/\m<=40->Q (.int m) H
theorem yc {k c:Int}(h:0<=k/\k<40):dC k c∈a9 40 c:=by
 unfold a9;rw[List.mem_map];exact⟨k.toNat,List.mem_range.mpr (by omega),by rw[Int.toNat_of_nonneg h.1]⟩
theorem iP {H:Hp}{l t:Addr}{as:List Addr}{ds:List aN}(hl:H l=some (.lst (as.map V.ref)))(hp:Paired (fun a x=>H a=some (bN x)) as ds)(ht:H t=none)(d:aN):bg (upd (upd H t (bN d)) l (.lst (as.map V.ref++[.ref t]))) l (ds++[d]):=by
 have tl:t≠l:=fun z=>by rw[z,hl]at ht;cases ht
 refine⟨as++[t],by rw[ae,List.map_append];rfl,aI (Paired.mapP hp fun b y e=>?_) (.cons (by rw[af tl,ae]) .nil)⟩;obtain⟨xs,ex⟩:=dE y;rw[af (fun z=>by rw[z,hl,ex]at e;cases e),af (ak e ht)];exact e
def vO (C:Addr):Sp:=fun vs H Q _=>∃ (p:Addr)(A:HA)(st:bQ),vs=[.ref p]/\aM C H p A st/\∀ (l:Addr)(H':Hp),H l=none->ay H H'->bg H' l st.deeds->Q (.ref l) H'
theorem fw {a b x y:Int}:bW x y=bW a b↔(x=a/\y=b)\/(x=b/\y=a):=by
 unfold bW
 by_cases h1:y<x<;>by_cases h2:b<a
 ·rw[if_pos h1,if_pos h2,Prod.mk.injEq];omega
 ·rw[if_pos h1,if_neg h2,Prod.mk.injEq];omega
 ·rw[if_neg h1,if_pos h2,Prod.mk.injEq];omega
 ·rw[if_neg h1,if_neg h2,Prod.mk.injEq];omega
theorem Cg {ml:List (Int×Int)}{p q:Int×Int}:q∈nY ml p↔q∈ml\/q=p:=by
 unfold nY;split
 ·rename_i h
  constructor
  ·exact .inl
  ·rintro (z | z)
   ·exact z
   ·rw[z];exact h
 ·simp
def gS (st:bQ)(ml:List (Int×Int)):Prop:=∀ a b,cC st.circ a b=iY ml a b
theorem wj:gS ⟨[],[],[],[]⟩ []:=fun a b=>by unfold cC iY;simp[cD]
def lu (st:bQ)(ml:List (Int×Int))(d:aN):List (Int×Int):=if ba st d=.done then nZ ml d else ml
theorem x3 {st:bQ}{ml:List (Int×Int)}{d:aN}(h:gS st ml):gS (c5 st d) (lu st ml d):=by
 unfold c5 lu
 by_cases hd:ba st d=.done
 ·rw[if_pos hd,if_pos hd]
  cases d with
  | come g=>exact h
  | go g=>exact h
  | exch a b =>
   intro x y
   show cC (bY (bY st.circ a b) b a) x y=iY (nY ml (bW a b)) x y
   rw[u9,h x y];unfold iY
   have e:decide (bW x y∈nY ml (bW a b))=(decide (bW x y∈ml)||decide ((x=a/\y=b)\/(x=b/\y=a))):=by
    rw[<-Bool.decide_or]
    congr 1
    rw[Cg,fw]
   rw[e,Bool.decide_or,Bool.decide_and,Bool.decide_and,Bool.or_assoc]
 ·rw[if_neg hd,if_neg hd];exact h
theorem jX {st:bQ}{ml:List (Int×Int)}(h:gS st ml)(d:aN):b9 st.worn (iY ml) d=ba st d:=by rw[DT];exact uX (fun a b=>(h a b).symm) d
structure Sz (n:Nat)(st:bQ):Prop where
 c:st.circ.length<=2*n
 k:∀ x∈st.circ,x.2.length<=2*n
 d:st.deeds.length<=n
theorem GY:Sz 0 ⟨[],[],[],[]⟩:=⟨Nat.le_refl _,(fun x hx=>nomatch hx),Nat.le_refl _⟩
theorem zZ {n:Nat}{st:bQ}(h:Sz n st)(d:aN):Sz (n+1) (c5 st d):=by
 have keep:Sz (n+1) st:=⟨by have:=h.c;omega,fun x hx=>by have:=h.k x hx;omega,by have:=h.d;omega⟩;refine⟨?_,?_,by have:=yy st d;have:=h.d;omega⟩
 ·unfold c5
  split
  ·cases d with
   | come g=>exact keep.c
   | go g=>exact keep.c
   | exch a b =>
    show (bY (bY st.circ a b) b a).length<=_
    have:=mU (bY st.circ a b) b a;have:=mU st.circ a b;have:=h.c;omega
  ·exact keep.c
 ·unfold c5
  split
  ·cases d with
   | come g=>exact keep.k
   | go g=>exact keep.k
   | exch a b =>
    intro x hx;have:=qS (n:=2*n+1) (qS (n:=2*n) (a:=a) (b:=b) h.k (by omega)) (by omega) x hx;omega
  ·exact keep.k
theorem DM {L:List Int}{n:Nat}{st:bQ}(G:cZ st)(o:Of L st)(hL:L.length<=100)(z:Sz n st)(hn:n<=400):xX st:=by
 have:=j8 G o;exact Ev.fits (by omega) (by omega) (by have:=z.c;omega) (fun x hx=>by have:=z.k x hx;omega) (by have:=z.d;omega)
def HW (ds:List aN):Dt:=.sq false (ds.map fun d=>FQ (dw d))
theorem As (d:aN):∀ x∈dw d,jW x=true:=by
 cases d<;>(intro x hx;simp[dw,names]at hx)
 ·rcases hx with rfl | rfl<;>rfl
 ·rcases hx with rfl | rfl<;>rfl
 ·rcases hx with rfl | rfl | rfl<;>rfl
theorem xz {K:PySem.W.Frag}{H:Hp}{l:Addr}{ds:List aN}(h:bg H l ds):RD K H 2 (.ref l) (HW ds):=by
 obtain⟨as,hl,hp⟩:=h;refine RD.lst (aW.of hl) ?_;clear hl
 induction hp with
 | nil=>exact .nil
 | cons e _ ih =>
  rename_i a d _ _ _
  refine .cons ?_ ih;rw[iO]at e;refine RD.tup (eP.of e) ?_;have hf:=As d;generalize dw d=xs at hf;clear e ih
  induction xs with
  | nil=>exact .nil
  | cons n r ih2=>exact .cons (RD.flat (hf n List.mem_cons_self) 0) (ih2 fun x hx=>hf x (List.mem_cons_of_mem _ hx))
theorem At {H:Hp}{l t:Addr}{as:List Addr}{ds:List aN}{d:aN}(hl:H l=some (.lst (as.map V.ref)))(hp:Paired (fun a x=>H a=some (bN x)) as ds)(ht:H t=some (bN d)):bg (upd H l (.lst (as.map V.ref++[.ref t]))) l (ds++[d]):=by
 have nt:∀ b y,H b=some (bN y)->b≠l:=fun b y e z=>by obtain⟨xs,ex⟩:=dE y;rw[z,hl,ex]at e;cases e
 refine⟨as++[t],by rw[ae,List.map_append];rfl,aI (Paired.mapP hp fun b y e=>?_) (.cons (by rw[af (nt t d ht)];exact ht) .nil)⟩;rw[af (nt b y e)];exact e
theorem D3 (st:bQ)(d:aN):(c5 st d).deeds=if ba st d=.done then st.deeds++[d] else st.deeds:=by
 unfold c5;split
 ·cases d<;>rfl
 ·rfl
theorem cv {m c g:Int}(h:g∈a9 m c):aV g:=by
 unfold a9 at h;obtain⟨k,_,rfl⟩:=List.mem_map.mp h;exact oi _ _
theorem BK {xs:List V}(n:Nat):gv xs none (some (n:Int))=xs.take n:=by
 unfold gv;rw[HT.sIx_none,HT.sIx_nat,List.drop_zero,Nat.sub_zero]
 by_cases h:n<=xs.length
 ·rw[Nat.min_eq_left h]
 ·rw[Nat.min_eq_right (by omega),List.take_of_length_le (Nat.le_refl _),List.take_of_length_le (by omega)]
end Wz
namespace L2
open PySem PySem.Spec PyProof.Rows
theorem pV {X:Cx}{P:Program}{w:World}:fO (jD P w) X (fun _ _ _=>False):=by
 intro pins σ H s e s' I hc;obtain⟨ea,C,od,H',B,rfl,fl,un,hok,os,bare,hsB,trB,hE⟩:=hc;exact hE.elim
def Cx.tried (X:Cx)(pins:List (Addr×Obj))(E:Value->Shared->Prop):Cx:={ X with xe:=E,pn:=X.pn++pins }
theorem aE.tried {X:Cx}{pins:List (Addr×Obj)}{σ:St}{H:Hp}{s:Shared}{E:Value->Shared->Prop}(I:aE X pins σ H s):aE (X.tried pins E) [] σ H s :=
 ⟨⟨I.ok.mod,I.ok.kind,I.ok.glob,I.ok.blt,I.ok.above,I.ok.inj,I.ok.has,I.ok.cab,I.ok.hd,I.ok.frames,I.ok.stk,I.ok.exf,I.ok.bs,I.ok.bsz,I.ok.noex,I.ok.exfs,I.ok.funs,I.ok.frf⟩,I.os,I.bare,I.base,I.loc,I.cell,I.free,I.freeC,fun p hp=>I.pin p (by
  have hp:p∈(X.pn++pins)++[]:=hp
  rwa [List.append_nil]at hp),I.hok,I.len⟩
theorem aE.untried {X:Cx}{pins qins:List (Addr×Obj)}{σ:St}{H:Hp}{s:Shared}{E:Value->Shared->Prop}(I:aE (X.tried pins E) qins σ H s):aE X pins σ H s :=
 ⟨⟨I.ok.mod,I.ok.kind,I.ok.glob,I.ok.blt,I.ok.above,I.ok.inj,I.ok.has,I.ok.cab,I.ok.hd,I.ok.frames,I.ok.stk,I.ok.exf,I.ok.bs,I.ok.bsz,I.ok.noex,I.ok.exfs,I.ok.funs,I.ok.frf⟩,I.os,I.bare,I.base,I.loc,I.cell,I.free,I.freeC,fun p hp=>I.pin p (by
  show p∈(X.pn++pins)++qins
  exact List.mem_append_left _ hp),I.hok,I.len⟩
def F6 (d:Addr)(o:Obj)(kvs:List (cm×V)):It :=
 ⟨fun i H=>H d=some (.frz o (.dK kvs))/\i<kvs.length,fun i H x H'=>H'=H/\∃ p,kvs[i]? = some p/\x=kV p.1,fun i H=>H d=some (.frz o (.dK kvs))/\kvs.length<=i⟩
theorem zv {P:Program}{w:World}{H:Hp}{h:Heap}{d:Addr}{o:Obj}{kvs:List (cm×V)}{ep:Nat}(hep:∀ es ep',o.data=.dict es ep'->ep'=ep)(x:bC P w H h d (.frz o (.dK kvs))):(d == sysModules)=false/\∃ vs,KV kvs vs/\h.DictAt (bH P w) d vs ep:=by
 obtain⟨hg,hz,lo,vs,rel,dd⟩:=x;obtain⟨ep',hat⟩:=dd.dictAt;refine⟨lo,vs,rel,?_⟩;obtain⟨od,es,hod,hcd,hdd,r⟩:=id hat;rw[hg]at hod;cases hod;rw[<-hep _ _ hdd];exact hat
theorem Br {P:Program}{w:World}{K:PySem.W.Frag}{tg:Expr}(d it:Addr)(o:Obj)(kvs:List (cm×V))(ep:Nat)(hep:∀ es ep',o.data=.dict es ep'->ep'=ep):wf P w K tg (F6 d o kvs) [it] it (fun i h=>h.IsKeyIter it d i kvs.length ep) where
 mem:=by simp
 obj:=fun i h st b hb=>by
  have e:b=it:=by simpa using hb
  subst e;obtain⟨o,e,c,d⟩:=st;exact⟨o,e,fun v z=>by rw[d]at z;cases z⟩
 keep:=fun i h h' st k=>st.at fun o e=>k it (by simp) o e
 item:=by
  intro X hP hw hK hc i pins s σ H E I hf st hg;subst hP hw hK;obtain⟨hH,hi⟩:=hg;obtain⟨lo,vs,rel,hat⟩:=zv hep (I.hok d _ hH);obtain⟨f0,f1,f2,f3,f4,f5⟩:=hf it (by simp);have hl:kvs.length=vs.length:=Paired.length rel;obtain⟨p,hp⟩:∃ p,kvs[i]? = some p:=⟨kvs[i],by simp[hi]⟩;obtain⟨q,hq⟩:∃ q,vs[i]? = some q:=⟨vs[i]'(by omega),by simp[show i<vs.length by omega]⟩;obtain⟨k,v⟩:=q
  have ek:p.1=k:=by
   have e1:(kvs.map (·.1))[i]? = some p.1:=by rw[List.getElem?_map,hp];rfl
   rw[rel.keys,List.getElem?_map,hq]at e1;exact (Option.some.inj e1).symm
  rw[hl]at st;refine wpAny_pyNext_dict_item (knd:=bH X.prog X.w) st hat hq fun key h' hk st' sb=>?_;have I1:aE X pins σ H { s with heap:=h' }:=I.turned (t':=s.toks) (fun b o hb e=>(sb.2 b hb).trans e) f0 f1 f3 f4 f5;obtain⟨o2,e,c,d2⟩:=id st';refine⟨key,rfl,wz (s:={ s with heap:=h' }) e c d2 (by decide) ⟨kV k,H,I1,?_,⟨rfl,p,hp,by rw[ek]⟩,by rw[hl];exact st',fun b hb=>(hf b hb).1⟩⟩;rcases bR (k:=k) (v:=key) hk with ⟨j,t,ej,ev⟩ | ⟨j,t,ej,ev⟩
  ·subst ej;exact⟨t,ev⟩
  ·subst ej;exact⟨t,ev⟩
 done:=by
  intro X hP hw hK hc i pins s σ H E I hf st hg;subst hP hw hK;obtain⟨hH,hi⟩:=hg;obtain⟨lo,vs,rel,hat⟩:=zv hep (I.hok d _ hH);have hl:kvs.length=vs.length:=Paired.length rel;obtain⟨f0,f1,f2,f3,f4,f5⟩:=hf it (by simp);rw[hl]at st;exact wpAny_pyNext_dict_end (knd:=bH X.prog X.w) (I.ok.hd hc) st hat (by simp;omega) fun h' eb=>⟨rfl,I.turned (t':=s.toks) (fun b o hb e=>eb b o hb e) f0 f1 f3 f4 f5⟩
 self:=fun _ _ _ _ _ st h=>wpAny_pyIter_keyiter st h
def Gi (tl:TE):TI:=fun σ H R=>tl σ H fun x H1=>∃ d kvs,x=.ref d/\H1 d=some (.dK kvs)/\∀ o:Obj,R (F6 d o kvs) (upd H1 d (.frz o (.dK kvs)))
theorem Ec {X:Cx}{tg l:Expr}{tl:TE}(hl:PE X l tl):PI X tg l (Gi tl):=by
 intro pins s σ H R I h;refine bA (hl pins s σ H _ I h) fun v s1 ⟨x,H1,I1,r1,q1⟩=>?_;obtain⟨d,kvs,e,hH,q⟩:=q1;subst e;cases r1;obtain⟨hz,lo,vs,rel,dd⟩:=(show bC X.prog X.w H1 s1.heap d (.dK kvs) from I1.hok d _ hH);obtain⟨ep,hat⟩:=dd.dictAt;obtain⟨o,es,ho,hc,hdat,r⟩:=id hat;have hl2:kvs.length=vs.length:=Paired.length rel;refine wpAny_pyIter_dict (knd:=bH X.prog X.w) lo hat ?_;have I2:aE X pins σ (upd H1 d (.frz o (.dK kvs))) { s1 with heap:=s1.heap,toks:=s1.toks }:=I1.write (by rw[hH];trivial) (.inl rfl) (fun b u _ e=>e) ⟨_,ho⟩ ⟨ho,hz,lo,vs,rel,dd⟩;refine⟨s1.heap.objs.size,[s1.heap.objs.size],_,_,_,rfl,I2.kept (t':=s1.toks) fun b o e=>Heap.get?_push_of_some _ e,Br d _ o kvs ep (fun es' ep' e=>?_),⟨_,Heap.get?_push_size _ rfl,rfl,by rw[hl2];rfl⟩,fun b hb=>?_,q o⟩
 ·rw[hdat]at e;cases e;rfl
 ·have e:b=s1.heap.objs.size:=by simpa using hb
  subst e;exact I2.fpOk (Nat.le_refl _) (I2.hok.fresh (Nat.le_refl _))
theorem BU {d:Addr}{o:Obj}{kvs:List (cm×V)}{g:TG}{tb:TS}{D:jE}{σ:St}{H:Hp}(Pv:Nat->St->Hp->Prop)(h0:Pv 0 σ H)(hl:∀ i σ H,i<=kvs.length->Pv i σ H->H d=some (.frz o (.dK kvs)))
  (hs:∀ i p σ H,kvs[i]? = some p->Pv i σ H->g (kV p.1) σ H fun σ2 H2=>tb { D with nx:=Pv (i+1),ct:=Pv (i+1),bk:=D.nx } σ2 H2) (hd:∀ σ H,Pv kvs.length σ H->D.nx σ H) :
  ∃ W:Nat->Nat->St->Hp->Prop,(∃ m,W 0 m σ H)/\∀ i m σ H,W i m σ H ->
   ((F6 d o kvs).stop i H/\D.nx σ H)\/((F6 d o kvs).go i H/\∃ N:St->Hp->Prop,(∀ σ' H',N σ' H'->∃ m',m'<m/\W (i+1) m' σ' H')/\∀ x H',(F6 d o kvs).yld i H x H'->g x σ H' fun σ2 H2=>tb { D with nx:=N,ct:=N,bk:=D.nx } σ2 H2):=by
 refine⟨fun i m σ H=>m=kvs.length-i/\i<=kvs.length/\Pv i σ H,⟨kvs.length,by simp,Nat.zero_le _,h0⟩,?_⟩;rintro i m σ H ⟨rfl,hi,p⟩;have q:=hl i σ H hi p
 by_cases hlt:i<kvs.length
 ·refine .inr ⟨⟨q,hlt⟩,Pv (i+1),fun σ' H' p'=>⟨kvs.length-(i+1),by omega,rfl,hlt,p'⟩,fun x H' y=>?_⟩
  obtain⟨e,p2,hp,ex⟩:=y;subst e ex;exact hs i p2 σ _ hp p
 ·have e:i=kvs.length:=by omega
  subst e;exact .inl ⟨⟨q,Nat.le_refl _⟩,hd σ H p⟩
end L2
namespace Wz
open PySem L2
def aw (ds:List aN):bQ:=ds.foldl after ⟨[],[],[],[]⟩
theorem dt (ds:List aN)(d:aN):aw (ds++[d])=after (aw ds) d:=by unfold aw;rw[List.foldl_append];rfl
def bO (ds:List aN):Prop:=∀ i d,ds[i]? = some d->ba (aw (ds.take i)) d=.done
theorem ww:bO []:=fun i d h=>by simp at h
theorem cr {ds:List aN}{d:aN}(h:bO ds)(hd:ba (aw ds) d=.done):bO (ds++[d]):=by
 intro i e he
 by_cases hi:i<ds.length
 ·rw[List.getElem?_append_left hi]at he
  rw[List.take_append_of_le_length (by omega)];exact h i e he
 ·have hl:=(List.getElem?_eq_some_iff.mp he).1
  rw[List.length_append,List.length_singleton]at hl
  have e1:i=ds.length:=by omega
  subst e1;simp at he;subst he;simpa using hd
theorem wg (st:bQ)(d:aN):(after st d).deeds=st.deeds++[d]:=by cases d<;>rfl
structure sS (H0 H:Hp)(w m ls:Addr)(st:bQ)(ml:List (Int×Int)):Prop where
 hw:H w=some (.dK (dk st.worn))
 hm:H m=some (.dT (sX ml))
 hs:bg H ls st.deeds
 w0:H0 w=none
 m0:H0 m=none
 s0:H0 ls=none
theorem sS.on {H0 H H':Hp}{w m ls:Addr}{st:bQ}{ml:List (Int×Int)}(e:sS H0 H w m ls st ml)(s:ay H H'):sS H0 H' w m ls st ml:=⟨s _ _ e.hw,s _ _ e.hm,bL e.hs s,e.w0,e.m0,e.s0⟩
theorem sS.wm {H0 H:Hp}{w m ls:Addr}{st:bQ}{ml:List (Int×Int)}(e:sS H0 H w m ls st ml):w≠m:=bz e.hw e.hm (by intro z;cases z)
theorem sS.ws {H0 H:Hp}{w m ls:Addr}{st:bQ}{ml:List (Int×Int)}(e:sS H0 H w m ls st ml):w≠ls:=by obtain⟨as,h,_⟩:=e.hs;exact bz e.hw h (by intro z;cases z)
theorem sS.ms {H0 H:Hp}{w m ls:Addr}{st:bQ}{ml:List (Int×Int)}(e:sS H0 H w m ls st ml):m≠ls:=by obtain⟨as,h,_⟩:=e.hs;exact bz e.hm h (by intro z;cases z)
theorem sS.done {H0 H H1:Hp}{w m ls:Addr}{st:bQ}{ml:List (Int×Int)}{d:aN}(e:sS H0 H w m ls st ml)(hj:ba st d=.done)
  (h1:H1 w=some (.dK (dk (uI st.worn d)))) (h2:H1 m=some (.dT (sX (nZ ml d)))) (k:∀ b o,H b=some o->b≠w->b≠m->H1 b=some o)
  {as:List Addr} (hl:H ls=some (.lst (as.map V.ref))) (hp:Paired (fun a x=>H a=some (bN x)) as st.deeds) {t:Addr} (ht:H t=some (bN d)) :
  sS H0 (upd H1 ls (.lst (as.map V.ref++[.ref t]))) w m ls (c5 st d) (lu st ml d)/\H1 ls=some (.lst (as.map V.ref)):=by
 have nt:∀ b y,H b=some (bN y)->b≠w/\b≠m:=fun b y q=>by
  obtain⟨xs,ex⟩:=dE y;rw[ex]at q;exact⟨bz q e.hw (by intro z;cases z),bz q e.hm (by intro z;cases z)⟩
 have hl1:=k _ _ hl (Ne.symm e.ws) (Ne.symm e.ms);have d1:bg (upd H1 ls (.lst (as.map V.ref++[.ref t]))) ls (st.deeds++[d]):=At hl1 (Paired.mapP hp fun b y q=>k _ _ q (nt b y q).1 (nt b y q).2) (k _ _ ht (nt t d ht).1 (nt t d ht).2);refine⟨⟨?_,?_,?_,e.w0,e.m0,e.s0⟩,hl1⟩
 ·rw[af e.ws,AT,if_pos hj];exact h1
 ·rw[af e.ms];unfold lu;rw[if_pos hj];exact h2
 ·rw[D3,if_pos hj];exact d1
theorem pR:∀ {l:List (Int×Int)}{g m:Int},(aq l).Nodup->(g,m)∈l->look l g=some m
 | p::l,g,m,nd,h=>by
  unfold aq at nd;rw[List.map_cons,List.nodup_cons]at nd;unfold look;rcases List.mem_cons.mp h with z | z
  ·rw[<-z,if_pos rfl]
  ·rw[if_neg (fun e=>nd.1 (by rw[e];exact List.mem_map_of_mem (f:=(·.1)) z))]
   exact pR nd.2 z
end Wz
namespace L2
open PySem PySem.Spec PyProof.Rows
theorem aE.turned2 {X:Cx}{pins:List (Addr×Obj)}{σ:St}{H:Hp}{s:Shared}{h':Heap}{t':Nat}{e it:Addr}(I:aE X pins σ H s)(k:∀ b o,b≠e->b≠it->s.heap.get? b=some o->h'.get? b=some o)(fe:hW X pins H e)(fi:hW X pins H it):aE X pins σ H { s with heap:=h',toks:=t' }:=by
 obtain⟨e0,e1,e2,e3,e4,e5⟩:=fe;obtain⟨i0,i1,i2,i3,i4,i5⟩:=fi;have nit:∀ b u,H b=some u->b≠e/\b≠it:=fun b u q=>⟨(fun z=>by rw[z,e0]at q;cases q),(fun z=>by rw[z,i0]at q;cases q)⟩
 have nn:∀ b,b∉[e,it]->b≠e/\b≠it:=fun b hb=>by simpa using hb
 refine I.step (g':=s.gens) (d':=s.drawn) (ch:=[e,it]) (fun b hb=>?_) (fun b o _ _ hc q _=>k b o (nn b hc).1 (nn b hc).2 q) (fun b o _ _ hc q _=>⟨o.slots,k b o (nn b hc).1 (nn b hc).2 q⟩) (fun _ _ _ _ n=>n)
  (fun b o hc q=>⟨o,k b o (nn b hc).1 (nn b hc).2 q⟩) (fun _ _ q=>q) (fun _ _ _ q=>q) (fun b ps q=>⟨#[],by rw[q];simp⟩) (fun m hm=>?_) (fun b u q=>?_) I.bare
 ·have hb:b=e\/b=it:=by simpa using hb
  rcases hb with rfl | rfl
  ·exact⟨e3,e1,e4,e5⟩
  ·exact⟨i3,i1,i4,i5⟩
 ·obtain⟨o,es,ep,ho,r⟩:=hm
  exact⟨o,es,ep,k _ o (Ne.symm e1) (Ne.symm i1) ho,r⟩
 ·refine (I.hok b u q).stay (fun c v hc z=>k c v ?_ ?_ z) (fun _ z=>z) fun _ _ z=>z
  ·rcases hc with z | z
   ·rw[z];exact (nit b u q).1
   ·exact (nit c _ z).1
  ·rcases hc with z | z
   ·rw[z];exact (nit b u q).2
   ·exact (nit c _ z).2
def F7 (K:PySem.W.Frag)(l:Addr):It :=
 ⟨fun i H=>∃ xs x,aW K H l xs/\xs[i]? = some x,fun i H y H'=>∃ T x,H T=none/\y=.ref T/\H'=upd H T (.tup [.int i,x])/\∀ xs,aW K H l xs->xs[i]? = some x,fun i H=>∃ xs,aW K H l xs/\xs.length<=i⟩
theorem Bs {P:Program}{w:World}{K:PySem.W.Frag}{elts:List Expr} {kk}{pos:Pos}(e it l:Addr)(hne:e≠it):wf P w K (.Tuple elts kk pos) (F7 K l) [e,it] e (fun i h=>(∃ old,IsEnum h e it (i:Nat) old)/\h.IsListIter it l i) where
 mem:=by simp
 obj:=fun i h st b hb=>by
  obtain⟨⟨old,he⟩,⟨o,eo,c,d⟩⟩:=st
  have hb:b=e\/b=it:=by simpa using hb
  rcases hb with rfl | rfl
  ·exact⟨_,he,fun v z=>by cases z⟩
  ·exact⟨o,eo,fun v z=>by rw[d]at z;cases z⟩
 keep:=fun i h h' st k=>⟨st.1.elim fun old he=>⟨old,k e (by simp) _ he⟩,st.2.at fun o x=>k it (by simp) o x⟩
 item:=by
  intro X hP hw hK hc i pins s σ H E I hf st hg;subst hP hw hK;obtain⟨xs,x,hq,hx⟩:=hg;obtain⟨its,rv,p,hz⟩:=I.list hq;obtain⟨u,hu,ru⟩:=rv.get hx;obtain⟨⟨old,he⟩,hit⟩:=st;have fe:=hf e (by simp);have fi:=hf it (by simp);have lte:e<s.heap.objs.size:=Heap.lt_size he
  have lti:it<s.heap.objs.size:=by obtain⟨_,q,_⟩:=id hit;exact Heap.lt_size q
  refine wpAny_pyNext_enum_item he hit p.isList (x:=u) (by simpa using hu) hne fun h' ho hit' hT hsz hk=>⟨.ref s.heap.objs.size,rfl,?_⟩;refine wpAny_letOwnedTupleGo_enum (s:={ s with heap:=h',toks:=s.toks+1 }) ho fun h2 he2 sb2=>?_;have hfr:H s.heap.objs.size=none:=I.hok.fresh (Nat.le_refl _)
  have IL:aE X pins σ (upd H s.heap.objs.size (.tup [.int i,x])) { s with heap:=s.heap.push { cls:=.type "tuple",data:=.seq #[.int i s.toks,u] },toks:=s.toks } :=
   I.laid (fun b o q=>Heap.get?_push_of_some _ q) (Nat.le_refl _) ⟨by show 2<=sizeLine;decide,[.int i s.toks,u],.cons ⟨_,rfl⟩ (.cons ru .nil),⟨_,Heap.get?_push_size _ rfl,rfl,_,rfl⟩⟩
  have fp':∀ b,b<s.heap.objs.size->hW X pins H b->hW X pins (upd H s.heap.objs.size (.tup [.int i,x])) b:=fun b hb ⟨f0,f1,f2,f3,f4,f5⟩=>⟨by rw[af (Nat.ne_of_lt hb)];exact f0,f1,f2,f3,f4,f5⟩
  have I2:aE X pins σ (upd H s.heap.objs.size (.tup [.int i,x])) { s with heap:=h2,toks:=s.toks+1 }:=IL.turned2 (t':=s.toks+1) (h':=h2) (fun b o n1 n2 q=>by
   refine (sb2.2 b n1).trans ?_
   show h'.get? b=some o
   by_cases hb:b=s.heap.objs.size
   ·subst hb
    have q:(s.heap.push { cls:=.type "tuple",data:=.seq #[.int i s.toks,u] }).get? s.heap.objs.size=some o:=q;rw[Heap.get?_push_size _ rfl]at q;cases q;exact hT
   ·have q:(s.heap.push { cls:=.type "tuple",data:=.seq #[.int i s.toks,u] }).get? b=some o:=q
    refine hk b o n1 n2 ?_;rw[Heap.get?_push_ne _ _ _ hb]at q
    exact q) (fp' e lte fe) (fp' it lti fi)
  refine⟨.ref s.heap.objs.size,_,I2,rfl,⟨s.heap.objs.size,x,hfr,rfl,rfl,fun ys hy=>by rw[I.list_inj hy hq];exact hx⟩,⟨⟨_,by simpa using he2⟩,hit'.at fun o q=>(sb2.2 it (Ne.symm hne)).trans q⟩,fun b hb=>?_⟩
  have hb':b=e\/b=it:=by simpa using hb
  rcases hb' with rfl | rfl
  ·exact (fp' _ lte fe).1
  ·exact (fp' _ lti fi).1
 done:=by
  intro X hP hw hK hc i pins s σ H E I hf st hg;subst hP hw hK;obtain⟨xs,hq,hx⟩:=hg;obtain⟨its,rv,p,hz⟩:=I.list hq;obtain⟨⟨old,he⟩,hit⟩:=st;obtain⟨f0,f1,f2,f3,f4,f5⟩:=hf it (by simp);have hl:=rv.length;exact wpAny_pyNext_enum_end (I.ok.hd hc) he hit p.isList (by simp;omega) fun h' eb=>⟨rfl,I.turned (t':=s.toks) (fun b o hb q=>eb b o hb q) f0 f1 f3 f4 f5⟩
 self:=fun _ _ _ _ _ st h=>st.1.elim fun old he=>wpAny_pyIter_enum he h
def Gj (K:PySem.W.Frag)(t:TA):TI:=fun σ H R=>t σ H fun vs H1=>∃ l,vs=[.ref l]/\(∃ xs,aW K H1 l xs)/\R (F7 K l) H1
theorem Ed {X:Cx}{elts:List Expr} {kk}{tpos:Pos}{a:Expr}{ta:TA}{p pos:Pos}(hg:Gl X "enumerate")(hm:X.mg "enumerate" = none)(ha:PA X [a] ta)
  (he:starEach [a] X.env=(false,eval a X.env)::starEach [] X.env:=by rfl) (hpl:(backTo pos (starEach [] X.env)).any (·.1)=false:=by rfl):PI X (.Tuple elts kk tpos) (.Call (.Name "enumerate" p) [a] [] pos) (Gj X.K ta):=by
 intro pins s σ H R I h;refine wpAny_Call_Name_kw (lI I hg hm boot_enumerate ?_ (by decide) (by decide));refine PyProof.Rows.callWith_type1 (bA (ha pos pins s σ H _ I h) fun us s1 ⟨vs,H1,I1,r1,l,e1,⟨xs,hq⟩,q⟩=>?_) he hpl;subst e1;obtain⟨u,rfl,rx⟩:=sN r1;cases rx;obtain⟨its,rv,pl,hz⟩:=I1.list hq;refine call_enumerate_list pl.isList fun h' hE hI hsz hk=>?_;have I2:aE X pins σ H1 { s1 with heap:=h',toks:=s1.toks }:=I1.kept hk;refine wpAny_pyIter_enum (s:={ s1 with heap:=h' }) hE ?_;refine⟨s1.heap.objs.size+1,[s1.heap.objs.size+1,s1.heap.objs.size],_,_,H1,rfl,I2,Bs _ _ l (Nat.succ_ne_self _),⟨⟨_,hE⟩,hI⟩,fun b hb=>?_,q⟩
 have hb:b=s1.heap.objs.size+1\/b=s1.heap.objs.size:=by simpa using hb
 rcases hb with rfl | rfl
 ·exact I1.fpOk (Nat.le_succ _) (I1.hok.fresh (Nat.le_succ _))
 ·exact I1.fpOk (Nat.le_refl _) (I1.hok.fresh (Nat.le_refl _))
theorem BV {K:PySem.W.Frag}{a:Addr}{xs:List V}{g:TG}{tb:TS}{D:jE}{σ:St}{H:Hp}(Pv:Nat->St->Hp->Prop)(h0:Pv 0 σ H)(hl:∀ i σ H,i<=xs.length->Pv i σ H->aW K H a xs)
  (hs:∀ i x σ H T,xs[i]? = some x->Pv i σ H->H T=none->g (.ref T) σ (upd H T (.tup [.int i,x])) fun σ2 H2=>tb { D with nx:=Pv (i+1),ct:=Pv (i+1),bk:=D.nx } σ2 H2) (hd:∀ σ H,Pv xs.length σ H->D.nx σ H) :
  ∃ W:Nat->Nat->St->Hp->Prop,(∃ m,W 0 m σ H)/\∀ i m σ H,W i m σ H ->
   ((F7 K a).stop i H/\D.nx σ H)\/((F7 K a).go i H/\∃ N:St->Hp->Prop,(∀ σ' H',N σ' H'->∃ m',m'<m/\W (i+1) m' σ' H')/\∀ x H',(F7 K a).yld i H x H'->g x σ H' fun σ2 H2=>tb { D with nx:=N,ct:=N,bk:=D.nx } σ2 H2):=by
 refine⟨fun i m σ H=>m=xs.length-i/\i<=xs.length/\Pv i σ H,⟨xs.length,by simp,Nat.zero_le _,h0⟩,?_⟩;rintro i m σ H ⟨rfl,hi,p⟩;have q:=hl i σ H hi p
 by_cases hlt:i<xs.length
 ·refine .inr ⟨⟨xs,xs[i],q,by simp[hlt]⟩,Pv (i+1),fun σ' H' p'=>⟨xs.length-(i+1),by omega,rfl,hlt,p'⟩,fun y H' z=>?_⟩
  obtain⟨T,x,hT,e1,e2,hx⟩:=z;subst e1 e2;exact hs i x σ _ T (hx xs q) p hT
 ·have e:i=xs.length:=by omega
  subst e;exact .inl ⟨⟨xs,q,Nat.le_refl _⟩,hd σ H p⟩
end L2
namespace Wz
open PySem L2
theorem y0 (l:List Int):(aZ l).Pairwise (·<=·):=by
 have h1:(aZ l).Pairwise (fun a b=>decide (a<=b)=true):=List.pairwise_mergeSort (by intro a b c;simp;omega) (by intro a b;simp;omega) l;exact h1.imp (by simp)
theorem b7 (l:List Int):(aZ l).Perm l:=List.mergeSort_perm l _
end Wz
namespace L2
open PySem PySem.Spec PyProof.Rows
theorem sU (elt t0 i0:Expr)(c0:List Expr)(t1 i1:Expr)(c1:List Expr)(scope:Scope)(pos:Pos)(it acc:Value)(env:Env) :
  compTurn (.ListComp elt [⟨t0,i0,c0,0⟩,⟨t1,i1,c1,0⟩] scope pos) 0 it acc env=(do
   standAt i0.pos
   match <-pyNext it with
   | none=>pure (.done .next)
   | some v =>
    letOwnedTupleGo t0 it v
    assign t0 env v
    let mut ok:=true
    for c in c0 do
     if ok then ok <-isTrue c env (eval c env)
    if ok then
     let x <-eval i1 env
     standAt i1.pos
     let x <-foldedSetIterable i1 env x
     let it1 <-holding [x] (pyIter x)
     let _ <-runOwn (.compStart (.ListComp elt [⟨t0,i0,c0,0⟩,⟨t1,i1,c1,0⟩] scope pos) 1 it1 acc env) env
     again (.compLoop (.ListComp elt [⟨t0,i0,c0,0⟩,⟨t1,i1,c1,0⟩] scope pos) 0 it acc env)
    else
     again (.compLoop (.ListComp elt [⟨t0,i0,c0,0⟩,⟨t1,i1,c1,0⟩] scope pos) 0 it acc env)):=by rfl
theorem sV (elt t0 i0:Expr)(c0:List Expr)(t1 i1:Expr)(c1:List Expr)(scope:Scope)(pos:Pos)(it acc:Value)(env:Env) :
  compTurn (.ListComp elt [⟨t0,i0,c0,0⟩,⟨t1,i1,c1,0⟩] scope pos) 1 it acc env=(do
   standAt i1.pos
   match <-pyNext it with
   | none=>pure (.done .next)
   | some v =>
    letOwnedTupleGo t1 it v
    assign t1 env v
    let mut ok:=true
    for c in c1 do
     if ok then ok <-isTrue c env (eval c env)
    if ok then
     (do let _ <-call (.builtin "list.append") [acc,<-eval elt env])
    again (.compLoop (.ListComp elt [⟨t0,i0,c0,0⟩,⟨t1,i1,c1,0⟩] scope pos) 1 it acc env)):=by rfl
section
variable {prog:Program}{w:World}{A:Around}{R:Result->Shared->Prop}{s:Shared}{elt t0 i0 t1 i1:Expr}{c0 c1:List Expr}{scope:Scope}{pos:Pos}{it acc:Value}{env:Env}
theorem kT (I:Nat->Shared->Prop)
  (turn:∀ n s,I n s->wpAny (model prog w) A (pyNext it) (fun r s₁=>match r with
   | none=>R (.ok .next) s₁
   | some v=>wpAny (model prog w) A (letOwnedTupleGo t1 it v) (fun _ s₁'=>wpAny (model prog w) A (assign t1 env v) (fun _ s₂ =>
     wpAny (model prog w) A (forIn c1 true fun c r=>if r=true then do let ok <-isTrue c env (eval c env);pure (ForInStep.yield ok) else pure (ForInStep.yield r)) (fun ok s₃ =>
      if ok=true then wpAny (model prog w) A (eval elt env) (fun x s₄ =>
       wpAny (model prog w) A (call (.builtin "list.append") [acc,x]) (fun _ s₅=>∃ m,m<n/\I m s₅) (fun _ _=>False) s₄) (fun _ _=>False) s₃
      else ∃ m,m<n/\I m s₃) (fun _ _=>False) s₂) (fun _ _=>False) s₁') (fun _ _=>False) s₁) (fun _ _=>False) s)
  (n:Nat) (h:I n s) :
  codeAny (model prog w) A (.compLoop (.ListComp elt [⟨t0,i0,c0,0⟩,⟨t1,i1,c1,0⟩] scope pos) 1 it acc env) R s:=by
 refine codeAny_loop rfl I (fun n s hI=>?_) n h
 show wpAny _ A ((compTurn (.ListComp elt [⟨t0,i0,c0,0⟩,⟨t1,i1,c1,0⟩] scope pos) 1 it acc env).onRaise (fun x=>do noteFrame x env;theTreesLotGoes x)) _ _ s
 refine wpAny_noted ?_;rw[sV];refine wpAny_bind (wpAny_standAt (wpAny_bind (wpAny_mono (turn n s hI) (fun r s₁ h₁=>?_) fun _ _ h'=>h'.elim)))
 cases r with
 | none=>exact wpAny_pure h₁
 | some v =>
  refine wpAny_bind (wpAny_mono h₁ (fun _ s₁' h₁'=>?_) fun _ _ h'=>h'.elim);refine wpAny_bind (wpAny_mono h₁' (fun _ s₂ h₂=>wpAny_bind (wpAny_mono h₂ (fun ok s₃ h₃=>?_) fun _ _ h'=>h'.elim)) fun _ _ h'=>h'.elim)
  cases ok with
  | false=>exact wpAny_pure ⟨rfl,h₃⟩
  | true =>
   exact wpAny_bind (wpAny_bind (wpAny_mono h₃ (fun x s₄ h₄=>wpAny_bind (wpAny_mono h₄ (fun _ s₅ h₅=>wpAny_pure (wpAny_pure ⟨rfl,h₅⟩)) fun _ _ h'=>h'.elim)) fun _ _ h'=>h'.elim))
theorem jU (hs:∀ x,foldedSetIterable i1 env x=pure x)(I:Nat->Shared->Prop)
  (turn:∀ n s,I n s->wpAny (model prog w) A (pyNext it) (fun r s₁=>match r with
   | none=>R (.ok .next) s₁
   | some v=>wpAny (model prog w) A (letOwnedTupleGo t0 it v) (fun _ s₁'=>wpAny (model prog w) A (assign t0 env v) (fun _ s₂ =>
     wpAny (model prog w) A (forIn c0 true fun c r=>if r=true then do let ok <-isTrue c env (eval c env);pure (ForInStep.yield ok) else pure (ForInStep.yield r)) (fun ok s₃ =>
      if ok=true then wpAny (model prog w) A (eval i1 env) (fun x s₄ =>
       wpAny (model prog w) A (pyIter x) (fun it1 s₅=>codeAny (model prog w) A (.compStart (.ListComp elt [⟨t0,i0,c0,0⟩,⟨t1,i1,c1,0⟩] scope pos) 1 it1 acc env) (fun r s₆=>r=.ok .next/\∃ m,m<n/\I m s₆) s₅) (fun _ _=>False) s₄) (fun _ _=>False) s₃
      else ∃ m,m<n/\I m s₃) (fun _ _=>False) s₂) (fun _ _=>False) s₁') (fun _ _=>False) s₁) (fun _ _=>False) s)
  (n:Nat) (h:I n s) :
  codeAny (model prog w) A (.compLoop (.ListComp elt [⟨t0,i0,c0,0⟩,⟨t1,i1,c1,0⟩] scope pos) 0 it acc env) R s:=by
 refine codeAny_loop rfl I (fun n s hI=>?_) n h
 show wpAny _ A ((compTurn (.ListComp elt [⟨t0,i0,c0,0⟩,⟨t1,i1,c1,0⟩] scope pos) 0 it acc env).onRaise (fun x=>do noteFrame x env;theTreesLotGoes x)) _ _ s
 refine wpAny_noted ?_;rw[sU];refine wpAny_bind (wpAny_standAt (wpAny_bind (wpAny_mono (turn n s hI) (fun r s₁ h₁=>?_) fun _ _ h'=>h'.elim)))
 cases r with
 | none=>exact wpAny_pure h₁
 | some v =>
  refine wpAny_bind (wpAny_mono h₁ (fun _ s₁' h₁'=>?_) fun _ _ h'=>h'.elim);refine wpAny_bind (wpAny_mono h₁' (fun _ s₂ h₂=>wpAny_bind (wpAny_mono h₂ (fun ok s₃ h₃=>?_) fun _ _ h'=>h'.elim)) fun _ _ h'=>h'.elim)
  cases ok with
  | false=>exact wpAny_pure ⟨rfl,h₃⟩
  | true =>
   refine wpAny_bind (wpAny_mono h₃ (fun x s₄ h₄=>?_) fun _ _ h'=>h'.elim);refine wpAny_bind (wpAny_standAt (wpAny_bind (wpAny_of_eq (hs x) ?_)));refine wpAny_bind (wpAny_holding (wpAny_mono h₄ (fun it1 s₅ h₅=>?_) fun _ _ h'=>h'.elim));refine wpAny_bind (wpAny_runOwn (codeAny_mono h₅ fun r s₆ h₆=>?_));obtain⟨rfl,h₆⟩:=h₆;exact wpAny_pure ⟨rfl,h₆⟩
theorem jV
  (h0:codeAny (model prog w) A (.compLoop (.ListComp elt [⟨t0,i0,c0,0⟩,⟨t1,i1,c1,0⟩] scope pos) 1 it acc env) R s)
  (h:wpAny (model prog w) A (pyIter it) (fun it' s'=>codeAny (model prog w) A (.compLoop (.ListComp elt [⟨t0,i0,c0,0⟩,⟨t1,i1,c1,0⟩] scope pos) 1 it' acc env) R s')
   (notedBy (model prog w) A env fun x s'=>R (.error x) s') s) :
  codeAny (model prog w) A (.compStart (.ListComp elt [⟨t0,i0,c0,0⟩,⟨t1,i1,c1,0⟩] scope pos) 1 it acc env) R s:=by
 refine codeAny_of_tree ?_
 show wpAny _ _ ((compStart (.ListComp elt [⟨t0,i0,c0,0⟩,⟨t1,i1,c1,0⟩] scope pos) 1 it acc env).onRaise (fun x=>do noteFrame x env;standAt theWindowsPlace)) _ _ s
 refine wpAny_notedAt ?_;unfold compStart
 show wpAny _ _ (ask >>= _) _ _ s
 refine wpAny_bind (wpAny_askSetting (wpAny_ite ?_));split
 ·first
   | exact wpAny_bind (wpAny_pure (wpAny_pure (And.intro rfl h0)))
   | exact wpAny_pure (And.intro rfl h0)
 ·first
   | exact wpAny_bind (wpAny_rule (wpAny_bind (wpAny_standAt (wpAny_bind (wpAny_mono h (fun it' s' h'=>wpAny_pure (And.intro rfl h')) fun _ _ x=>x)))))
   | (refine wpAny_bind (wpAny_rule ?_);show wpAny _ _ (standAt i1.pos >>= _) _ _ s;exact wpAny_bind (wpAny_standAt (wpAny_bind (wpAny_mono h (fun it' s' h'=>wpAny_pure (And.intro rfl h')) fun _ _ x=>x))))
end
theorem x5 {Y:Cx}{P:List (Addr×Obj)}{σ:St}{H:Hp}{s:Shared}{elt t0 i0 t1 i1:Expr}{c0 c1:List Expr}{sc:Scope}{pos:Pos}{it a:Addr}{fp:List Addr}{tn:Nat->Heap->Prop}{J:It}{g:TG}{tt:TT}{te:TE}{nx:St->Hp->Prop}{rt:VK}{bk ct:St->Hp->Prop}
  (hc:Y.calm=true) (hxe:Y.xe=fun _ _=>False) (I:aE Y P σ H s) (T:wf Y.prog Y.w Y.K t1 J fp it tn) (st:tn 0 s.heap) (f:∀ b∈fp,hW Y P H b) (hL:jP J g (BB tt te a) ⟨nx,rt,bk,ct⟩ σ H) (hg:PG Y t1 g) (ht:Ex Y c1 tt) (he:PE Y elt te) :
  codeAny (model Y.prog Y.w) Y.A (.compLoop (.ListComp elt [⟨t0,i0,c0,0⟩,⟨t1,i1,c1,0⟩] sc pos) 1 (.ref it) (.ref a) Y.env) (fun r s'=>r=.ok .next/\∃ σ' H',aE Y P σ' H' s'/\nx σ' H') s:=by
 obtain⟨W,⟨m0,w0⟩,turn⟩:=hL;have stat:∀ {H':Hp},(∀ b∈fp,H' b=none)->∀ b∈fp,hW Y P H' b:=fun {H'} hn b hb=>⟨hn b hb,(f b hb).2⟩;refine kT (fun n s'=>∃ i σ' H',aE Y P σ' H' s'/\tn i s'.heap/\(∀ b∈fp,H' b=none)/\W i n σ' H') ?_ m0 ⟨0,_,_,I,st,fun b hb=>(f b hb).1,w0⟩;rintro n s6 ⟨i,σ6,H6,I6,st6,fr6,w6⟩;rcases turn i n σ6 H6 w6 with ⟨stop,qn⟩ | ⟨go,Nx,hN,step⟩
 ·refine bA (T.done Y rfl rfl rfl hc i P s6 σ6 H6 _ I6 (stat fr6) st6 stop) fun r s7 ⟨hr,I7⟩=>?_
  subst hr;exact⟨rfl,σ6,H6,I7,qn⟩
 ·refine bA (T.item Y rfl rfl rfl hc i P s6 σ6 H6 _ I6 (stat fr6) st6 go) fun r s7 ⟨u,hr,h7⟩=>?_
  subst hr;refine bA h7 fun _ s8 ⟨x,H8,I8,r8,y8,st8,fr8⟩=>?_;have I8':=I8.pinned (stat fr8) (T.obj _ _ st8);have hgx:=hg _ s8 σ6 H8 x u _ I8' r8 (step x H8 y8);rw[hxe]at hgx;refine bA hgx fun _ s9 ⟨σ9,H9,I9,q9⟩=>?_
  have again:∀ {s':Shared}{σ7:St}{H7:Hp},aE Y (P++i9 fp s8.heap) σ7 H7 s'->Nx σ7 H7->∃ m,m<n/\∃ i σ' H',aE Y P σ' H' s'/\tn i s'.heap/\(∀ b∈fp,H' b=none)/\W i m σ' H':=fun {s' σ7 H7} I7 n7=>by
   obtain⟨m',hm,w7⟩:=hN σ7 H7 n7;refine⟨m',hm,i+1,σ7,H7,I7.unpinned,T.keep _ _ _ st8 fun b hb o e=>(I7.pin (b,o) (List.mem_append_right _ (List.mem_append_right _ (bT hb e)))).1,fun b hb=>?_,w7⟩;obtain⟨o,e,d⟩:=T.obj _ _ st8 b hb;exact (I7.pin (b,o) (List.mem_append_right _ (List.mem_append_right _ (bT hb e)))).2.1
  have htx:=ht _ s9 σ9 H9 _ I9 q9;rw[hxe]at htx;refine bA htx fun ok s10 ⟨H10,I10,q10⟩=>?_
  cases ok with
  | false =>
   rw[if_neg Bool.false_ne_true]at q10 ⊢;exact again I10 q10
  | true =>
   rw[if_pos rfl]at q10 ⊢;have hex:=he _ s10 σ9 H10 _ I10 q10;rw[hxe]at hex;refine bA hex fun y s11 ⟨yv,H11,I11,ry,ys,hys,hlen,q11⟩=>?_;exact bA (jT (X:=Y) I11 hys hlen ry) fun _ s12 I12=>again I12 q11
def FO (tt0:TT)(wi1:TI)(g1:TG)(tt1:TT)(te:TE)(a:Addr):TS:=fun D σ H=>tt0 σ H fun b H1=>if b=true then wi1 σ H1 fun J1 H2=>jP J1 g1 (BB tt1 te a) { nx:=D.nx,rt:=fun _ _=>False } σ H2 else D.nx σ H1
def FC (wi:TI)(g0:TG)(tt0:TT)(wi1:TI)(g1:TG)(tt1:TT)(te:TE)(src:List (Option Nat)):TE:=fun σ H Q=>wi σ H fun J H1=>∀ a,H1 a=none ->
 jP J g0 (FO tt0 wi1 g1 tt1 te a) { nx:=fun _ H'=>Q (.ref a) H',rt:=fun _ _=>False } (iN src σ) (upd H1 a (.lst []))
theorem CF {X:Cx}{elt tg iter t1 i1:Expr}{ifs c1:List Expr}{sc so:Scope}{pos:Pos}{N':List Str}{src:List (Option Nat)}{wi wi1:TI}{g g1:TG}{tt tt1:TT}{te:TE}{N:List Str}(hso:X.env.scope=so)(hXN:X.N=N)(S:tQ so sc N N' src)(hc:X.calm=true)(hi:PI X tg iter wi)
  (hb:∀ (cl:List (Str×Addr))(C:Addr)(s:Shared)(H:Hp)(ex:List Addr),PG (cz X sc cl C N' s H ex) tg g/\Ex (cz X sc cl C N' s H ex) ifs tt/\PI (cz X sc cl C N' s H ex) t1 i1 wi1/\PG (cz X sc cl C N' s H ex) t1 g1/\Ex (cz X sc cl C N' s H ex) c1 tt1/\PE (cz X sc cl C N' s H ex) elt te)
  (hs:∀ x,foldedSetIterable iter X.env x=pure x:=by intro _;rfl) (hs1:∀ env x,foldedSetIterable i1 env x=pure x:=by intro _ _;rfl):PE X (.ListComp elt [⟨tg,iter,ifs,0⟩,⟨t1,i1,c1,0⟩] sc pos) (FC wi g tt wi1 g1 tt1 te src):=by
 subst hXN;intro pins s σ H Q I h
 obtain⟨cl,hcl,q1,q3⟩:=iM (sc:=sc) (env:=X.env) fun y hy hf=>by
  have:=S.fre y hy hf;rw[<-hso]at this;exact I.ok.has y.1 this
 rw[eval_ListComp];refine wpAny_comprehension_free (use:=none) rfl hs hcl S.kind S.loc (bA (hi pins s σ H _ I h) fun v s1 h1=>bA h1 fun itv s2 h2=>?_);obtain⟨it,fp,tn,J,H2,e,I2,T,st2,f2,hR⟩:=h2;subst e;refine wpAny_newObj_type ?_
 have I3:aE X pins σ (upd H2 s2.heap.objs.size (.lst [])) { s2 with heap:=s2.heap.push { cls:=.type "list",dict:=none,data:=.seq ([]:List Value).toArray } } :=
  I2.laid (t':=s2.toks) (fun b u q=>Heap.get?_push_of_some _ q) (Nat.le_refl _) ⟨Nat.zero_le _,[],0,.nil,Heap.get?_push_size _ rfl⟩
 have hfr:=I2.hok.fresh (Nat.le_refl s2.heap.objs.size);obtain⟨W,⟨m0,w0⟩,turn⟩:=hR _ hfr
 have flt:∀ b∈fp,b<s2.heap.objs.size:=fun b hb=>by obtain⟨o,e,_⟩:=T.obj _ _ st2 b hb;exact Heap.lt_size e
 generalize hs3:({ s2 with heap:=s2.heap.push { cls:=.type "list",dict:=none,data:=.seq ([]:List Value).toArray } }:Shared)=s3 at I3 ⊢
 have e3:s3.heap=s2.heap.push { cls:=.type "list",dict:=none,data:=.seq ([]:List Value).toArray }:=by rw[<-hs3]
 have sz3:s3.heap.objs.size=s2.heap.objs.size+1:=by rw[e3,Heap.size_push]
 have hf3:∀ b∈fp,hW X pins (upd H2 s2.heap.objs.size (.lst [])) b:=fun b hb=>⟨by rw[af (Nat.ne_of_lt (flt b hb))];exact (f2 b hb).1,(f2 b hb).2⟩
 have flt3:∀ b∈fp,b<s3.heap.objs.size:=fun b hb=>by rw[sz3];exact Nat.lt_succ_of_lt (flt b hb)
 have st3:tn 0 s3.heap:=T.keep _ _ _ st2 fun b _ o e=>by rw[e3];exact Heap.get?_push_of_some _ e
 refine wpAny_newFunctionEnv S.nocell (by intro y hy;simp at hy) (fun h4 hns4 hsb4=>?_) S.kind;have kp4:∀ b o,s3.heap.get? b=some o->h4.get? b=some o:=fun b o e=>hsb4.extBut b o (Nat.ne_of_lt (Heap.lt_size e)) (Heap.get?_push_of_some _ e);have I4:=mP (h':=h4) I3 hso S q1 q3 hf3 flt3 (by simpa using hns4) kp4 (s3.toks+([]:List (Str×Value)).length);have st4:tn 0 h4:=T.keep _ _ _ st3 fun b _ o e=>kp4 b o e;generalize hC:s3.heap.objs.size=C at I4 hns4 hsb4 ⊢;obtain⟨hg,ht,hi1,hg1,ht1,he⟩:=hb cl C s3 (upd H2 s2.heap.objs.size (.lst [])) fp
 let Y:Cx:=cz X sc cl C N' s3 (upd H2 s2.heap.objs.size (.lst [])) fp
 have loop:∀ s5:Shared,s5={ s3 with heap:=h4,toks:=s3.toks+([]:List (Str×Value)).length }->codeAny (model X.prog X.w) X.A (.compLoop (.ListComp elt [⟨tg,iter,ifs,0⟩,⟨t1,i1,c1,0⟩] sc pos) 0 (.ref it) (.ref s2.heap.objs.size) (compEnvC sc cl C X.env))
   (compPost (model X.prog X.w) X.A X.xe none (EP X pins σ Q) (.ref s2.heap.objs.size) C) s5:=by
  rintro s5 rfl
  have stat:∀ {H':Hp},(∀ b∈fp,H' b=none)->∀ b∈fp,hW Y [] H' b:=fun {H'} hn b hb=>by
   obtain⟨f0,f1,f2',f3,f4,f5⟩:=hf3 b hb;refine⟨hn b hb,?_,fun z=>?_,.inl hb,fun x c e=>f4 x c (q1 x c e),fun p hp=>absurd (show p∈([]:List (Addr×Obj)) from hp) (by simp)⟩
   ·show b≠C
    rw[<-hC];exact Nat.ne_of_lt (flt3 b hb)
   ·have z:b∈iR X.stack:=z
    rcases List.mem_cons.mp (I3.stkSub b z) with y | y
    ·exact f1 y
    ·exact f2' y
  refine jU (fun x=>hs1 _ x) (fun n s'=>∃ i σ' H',aE Y [] σ' H' s'/\tn i s'.heap/\(∀ b∈fp,H' b=none)/\W i n σ' H') ?_ m0 ⟨0,_,_,I4,st4,fun b hb=>(hf3 b hb).1,w0⟩;rintro n s6 ⟨i,σ6,H6,I6,st6,fr6,w6⟩;rcases turn i n σ6 H6 w6 with ⟨stop,qn⟩ | ⟨go,Nx,hN,step⟩
  ·refine bA (T.done Y rfl rfl rfl hc i [] s6 σ6 H6 _ I6 (stat fr6) st6 stop) fun r s7 ⟨hr,I7⟩=>?_
   subst hr;obtain⟨m,hn,_⟩:=id I7.loc;refine⟨m,hn,fun h' hsb=>?_⟩
   have neC:∀ b o,s3.heap.get? b=some o->b≠C:=fun b o e=>by rw[<-hC];exact Nat.ne_of_lt (Heap.lt_size e)
   have freeC:H6 C=none:=I7.free
   have un:Un (iR X.stack) fp (upd H2 s2.heap.objs.size (.lst [])) H6 s3.heap h' :=
    ⟨fun b o e n hb hx=>(hsb.2 b (neC b o e)).trans (I7.base.keep b o e n hb hx),fun b o e n hb hx=>by
      obtain⟨sl,q⟩:=I7.base.slot b o e n hb hx
      exact⟨sl,(hsb.2 b (neC b o e)).trans q⟩,I7.base.free,fun b o e hx=>by
      obtain⟨o',q⟩:=I7.base.there b o e hx
      exact⟨o',(hsb.2 b (neC b o e)).trans q⟩,I7.base.tups,I7.base.frzs,I7.base.tbls⟩
   have hok:jz X.prog X.w H6 h':=fun b ob e=>by
    refine (I7.hok b ob e).stay (fun c w' hc' q=>(hsb.2 c ?_).trans q) (fun _ q=>q) fun _ _ q=>q;rintro rfl;rcases hc' with z | z
    ·rw[<-z,freeC]at e;cases e
    ·rw[freeC]at z;cases z
   have J7:aE X pins σ H6 { s7 with heap:=h' }:=I3.call' (ch:=fp) (s':={ s7 with heap:=h' }) I7.os un hok I7.bare fun b hb=>⟨(hf3 b hb).2.2.2.1,(hf3 b hb).2.1,(hf3 b hb).2.2.2.2.1,(hf3 b hb).2.2.2.2.2⟩;exact⟨.ref s2.heap.objs.size,H6,J7,rfl,qn⟩
  ·refine bA (T.item Y rfl rfl rfl hc i [] s6 σ6 H6 _ I6 (stat fr6) st6 go) fun r s7 ⟨u,hr,h7⟩=>?_
   subst hr;refine bA h7 fun _ s8 ⟨x,H8,I8,r8,y8,st8,fr8⟩=>?_;have I8':=I8.pinned (stat fr8) (T.obj _ _ st8);refine bA (hg _ s8 σ6 H8 x u _ I8' r8 (step x H8 y8)) fun _ s9 ⟨σ9,H9,I9,q9⟩=>?_
   have again:∀ {s':Shared}{σ7:St}{H7:Hp},aE Y ([]++i9 fp s8.heap) σ7 H7 s'->Nx σ7 H7->∃ m,m<n/\∃ i σ' H',aE Y [] σ' H' s'/\tn i s'.heap/\(∀ b∈fp,H' b=none)/\W i m σ' H':=fun {s' σ7 H7} I7 n7=>by
    obtain⟨m',hm,w7⟩:=hN σ7 H7 n7;refine⟨m',hm,i+1,σ7,H7,I7.unpinned,T.keep _ _ _ st8 fun b hb o e=>(I7.pin (b,o) (List.mem_append_right _ (List.mem_append_right _ (bT hb e)))).1,fun b hb=>?_,w7⟩;obtain⟨o,e,d⟩:=T.obj _ _ st8 b hb;exact (I7.pin (b,o) (List.mem_append_right _ (List.mem_append_right _ (bT hb e)))).2.1
   refine bA (ht _ s9 σ9 H9 _ I9 q9) fun ok s10 ⟨H10,I10,q10⟩=>?_
   cases ok with
   | false =>
    rw[if_neg Bool.false_ne_true]at q10 ⊢;exact again I10 q10
   | true =>
    rw[if_pos rfl]at q10 ⊢;refine bA (hi1 _ s10 σ9 H10 _ I10 q10) fun x1 s11 h11=>bA h11 fun it1 s12 h12=>?_;obtain⟨ia,fp1,tn1,J1,H12,e1,I12,T1,st12,f12,hR1⟩:=h12;subst e1;have inner:=x5 (Y:=Y) (t0:=tg) (i0:=iter) (c0:=ifs) (i1:=i1) (sc:=sc) (pos:=pos) hc rfl I12 T1 st12 f12 hR1 hg1 ht1 he;have inner':=codeAny_mono inner (R':=fun r s₆=>r=.ok .next/\∃ m,m<n/\∃ i σ' H',aE Y [] σ' H' s₆/\tn i s₆.heap/\(∀ b∈fp,H' b=none)/\W i m σ' H') fun r s6 ⟨er,σ7,H7,I7,n7⟩=>⟨er,again I7 n7⟩;exact jV inner' (T1.self _ 0 _ _ _ st12 inner')
 exact codeAny_compStart_list (loop _ rfl) (T.self _ 0 _ _ _ st4 (loop _ rfl))
end L2
namespace Qs
open PySem PySem.W PyProof.Rows
structure Io (n:Nat)(lt:Nat->Nat->Bool):Prop where
 irr:∀ i,lt i i=false
 tot:∀ i j,i<n->j<n->i≠j->lt i j=true\/lt j i=true
 tr:∀ i j k,lt i j=true->lt j k=true->lt i k=true
def ask {α:Type}(lt:Nat->Nat->Bool):KasT α->α
 | .ret a=>a
 | .ask i j k=>ask lt (k (lt i j))
def HP {α:Type}(n:Nat)(lt:Nat->Nat->Bool):KasT α->Prop
 | .ret _=>True
 | .ask i j k=>i<n/\j<n/\HP n lt (k (lt i j))
def Ip {α:Type}(n:Nat)(lt:Nat->Nat->Bool)(t:KasT α)(R:α->Prop):Prop:=HP n lt t/\R (ask lt t)
section
variable {n:Nat}{lt:Nat->Nat->Bool}{p:Array Nat}
def Pm (n:Nat)(p:Array Nat):Prop:=p.Perm (List.toArray (List.range n))
def Up (lt:Nat->Nat->Bool)(p:Array Nat)(k:Nat):Prop:=∀ i j,i<j->j<k->lt (p.getD i 0) (p.getD j 0)=true
def Dn (lt:Nat->Nat->Bool)(p:Array Nat)(k:Nat):Prop:=∀ i j,i<j->j<k->lt (p.getD j 0) (p.getD i 0)=true
end
def ltP (p q:Int×Int):Bool:=decide (p.1<q.1\/(p.1=q.1/\p.2<q.2))
theorem ltP_irr (p:Int×Int):ltP p p=false:=by unfold ltP;simp
theorem ltP_tr {p q r:Int×Int}(h1:ltP p q=true)(h2:ltP q r=true):ltP p r=true:=by
 unfold ltP at *;have h1:=of_decide_eq_true h1;have h2:=of_decide_eq_true h2;exact decide_eq_true (by omega)
theorem DX {p q:Int×Int}(h:p≠q):ltP p q=true\/ltP q p=true:=by
 unfold ltP
 by_cases h1:p.1<q.1
 ·exact .inl (decide_eq_true (.inl h1))
 ·by_cases h2:q.1<p.1
  ·exact .inr (decide_eq_true (.inl h2))
  ·have e:p.1=q.1:=by omega
   have n:p.2≠q.2:=fun z=>h (Prod.ext e z)
   by_cases h3:p.2<q.2
   ·exact .inl (decide_eq_true (.inr ⟨e,h3⟩))
   ·exact .inr (decide_eq_true (.inr ⟨e.symm,by omega⟩))
def HY (ps:List (Int×Int))(i j:Nat):Bool:=ltP (ps.getD i (0,0)) (ps.getD j (0,0))
def PairAt (h:Heap)(v:Value)(p:Int×Int):Prop:=∃ (b:Addr)(o:Obj)(n:Nat)(t u:Tok),v=.ref b/\h.get? b=some o/\o.cls=.type "tuple"/\o.data=.seq #[.int p.1 t,.int p.2 u] n
section
variable {prog:Program}{w:World}{A:Around}{E:Value->Shared->Prop}{s:Shared}
theorem DY {x y:Value}{p q:Int×Int}{Q:Bool->Shared->Prop}(hx:PairAt s.heap x p)(hy:PairAt s.heap y q)(h:Q (ltP p q) s):wpAny (model prog w) A (keyLt' (tuples' true) x y) Q E s:=by
 obtain⟨b,o,n,t,u,rfl,ho,hc,hd⟩:=hx;obtain⟨b',o',n',t',u',rfl,ho',hc',hd'⟩:=hy;refine kat_lt ho hd ho' hd' ?_
 show KatLex prog w A true (decide (2<2)) Q [(.int p.1 t,.int q.1 t'),(.int p.2 u,.int q.2 u')] 0 s
 refine kat_cons (wpAny_eqBool_int ?_)
 by_cases h1:p.1=q.1
 ·rw[show (p.1 == q.1)=true by simpa using h1]
  refine kat_yes (kat_cons (wpAny_eqBool_int ?_))
  by_cases h2:p.2=q.2
  ·rw[show (p.2 == q.2)=true by simpa using h2]
   refine kat_yes (kat_nil ?_)
   have e:ltP p q=decide (2<2):=by rw[show p=q from Prod.ext h1 h2,ltP_irr];rfl
   rw[<-e];exact h
  ·rw[show (p.2 == q.2)=false by simpa using h2]
   refine kat_no ?_
   show wpAny (model prog w) A (oneLt' false (.int p.2 u) (.int q.2 u')) Q _ s
   refine kat_one _ _ (wpAny_lt_int ?_)
   show Q (decide (p.2<q.2)) s
   have e:ltP p q=decide (p.2<q.2):=by unfold ltP;simp[h1]
   rw[<-e];exact h
 ·rw[show (p.1 == q.1)=false by simpa using h1]
  refine kat_no ?_
  show wpAny (model prog w) A (oneLt' true (.int p.1 t) (.int q.1 t')) Q _ s
  refine oneLt_int ?_
  have e:ltP p q=decide (p.1<q.1):=by unfold ltP;simp[h1]
  rw[<-e];exact h
theorem Ab {h:Heap}:∀ {vs:List Value}{ps:List (Int×Int)},Paired (PairAt h) vs ps->∃ fs:List Value,KatTups h vs fs/\fs.length=vs.length/\∀ v∈fs,∃ i t,v=Value.int i t
 | [],[],.nil=>⟨[],KatTups.nil,rfl,fun v h=>by cases h⟩
 | v::vs,p::ps,.cons hv r=>by
  obtain⟨fs,k,hl,hi⟩:=Ab r;obtain⟨b,o,n,t,u,rfl,ho,hc,hd⟩:=hv;refine⟨.int p.1 t::fs,KatTups.cons ho hc hd rfl k,by simp[hl],fun v hv=>?_⟩;rcases List.mem_cons.mp hv with z | z
  ·exact⟨_,_,z⟩
  ·exact hi v z
theorem yh {vs:List Value}{ps:List (Int×Int)}{Q:SortKind->Shared->Prop}(hp:Paired (PairAt s.heap) vs ps)(h2:0<vs.length)(h:Q (tuples' true) s):wpAny (model prog w) A (keyKind' vs.toArray) Q E s:=by
 obtain⟨fs,k,hl,hi⟩:=Ab hp;refine kat_kind (T:=.type "int") k (by omega) (fun v hv=>?_) (by decide) h;obtain⟨i,t,rfl⟩:=hi v hv;exact .now
theorem pU {α β:Type}{F:α->β->Prop}{d:α}{e:β}:∀ {l:List α}{m:List β},Paired F l m->∀ i,i<l.length->F (l.getD i d) (m.getD i e)
 | _::_,_::_,.cons h _,0,_=>h
 | _::l,_::m,.cons _ r,i+1,hi=>pU r i (by simpa using hi)
def xZ (vs:List Value)(ps:List (Int×Int))(out:List Value):Prop:=∃ ix:List Nat,ix.Perm (List.range vs.length)/\out=ix.map (fun i=>vs.getD i Value.none)/\(ix.map fun i=>ps.getD i (0,0)).Pairwise (fun a b=>ltP a b=true)
end
section
variable {prog:Program}{w:World}{A:Around}{E:Value->Shared->Prop}{s:Shared}
end
def RawAt (h:Heap)(d:Addr)(es:Array DictEntry)(ep:Nat):Prop:=∃ o,h.get? d=some o/\o.ExactDict/\o.data=.dict es ep
section
variable {prog:Program}{w:World}{A:Around}{E:Value->Shared->Prop}{s:Shared}{d it:Addr}{es:Array DictEntry}{ep i:Nat}
theorem RawAt.typeIs (h:RawAt s.heap d es ep):s.TypeIs (.ref d) "dict":=let ⟨o,ho,hc,_⟩:=h;⟨o,ho,hc.1⟩
theorem RawAt.lt {h:Heap}(x:RawAt h d es ep):d<h.objs.size:=let ⟨_,ho,_⟩:=x;Heap.lt_size ho
theorem RawAt.at {h h':Heap}(x:RawAt h d es ep)(e:∀ o,h.get? d=some o->h'.get? d=some o):RawAt h' d es ep:=let ⟨o,ho,r⟩:=x;⟨o,e _ ho,r⟩
theorem CY {Q:Value->Shared->Prop}(lo:(d == sysModules)=false)(hm:RawAt s.heap d es ep)
  (hQ:Q (.ref s.heap.objs.size) { s with heap:=s.heap.push { cls:=.type "dict_keyiterator",data:=.fields #[.ref d,.int 0 0,.int es.size 0,.int ep 0] } }):wpAny (model prog w) A (pyIter (.ref d)) Q E s:=by
 have hT:=hm.typeIs;obtain⟨o,ho,hc,hdat⟩:=hm;refine wpAny_pyIter_slot hT F.slot_dict_iter (wpAny_call_entry F.slot_dict_iter hT F.entry_dict_iter ?go (F.args_dict_iter_1 _))
 case go =>
  unfold Builtin.«dict.__iter__»;refine wpAny_bind ?_;unfold Builtin.Dict.dictSlotNone;refine wpAny_bind (wpAny_notOrdered_dict hT (?_:wpAny (model prog w) A.in1 (pure (Value.ref d)) _ _ s));refine wpAny_pure ?_
  show wpAny _ _ (Builtin.Dict.showsAll d >>= _) _ _ s;unfold Builtin.Dict.showsAll;rw[if_neg (by rw[lo];simp)]
  refine wpAny_bind (wpAny_pure (wpAny_bind (wpAny_dictEntries ho hdat (wpAny_bind (wpAny_dictEpoch ho hdat ?_)))));refine wpAny_bind (wpAny_newObj_type (wpAny_pure ⟨_,rfl,"dict_keyiterator",_,⟨_,Heap.get?_push_size _ rfl,rfl⟩,F.slot_dict_keyiterator_next.lookup,?_⟩));simpa [rawInt] using hQ
theorem CW {Q:Option Value->Shared->Prop}{e:DictEntry}(hit:s.heap.IsKeyIter it d i es.size ep)(hm:RawAt s.heap d es ep)(hx:es[i]? = some e)
  (hQ:∀ h',h'.IsKeyIter it d (i+1) es.size ep->Heap.SameBut it s.heap h'->Q (some e.key) { s with heap:=h' }):wpAny (model prog w) A (pyNext (.ref it)) Q E s:=by
 obtain⟨o,ho,hc,hd⟩:=id hit;obtain⟨od,hod,hcd,hdd⟩:=id hm
 have hlt:i<es.size:=by
  by_cases h:i<es.size
  ·exact h
  ·rw[Array.getElem?_eq_none (by omega)]at hx;cases hx
 have he:es[i]=e:=by rw[Array.getElem?_eq_getElem hlt]at hx;exact Option.some.inj hx
 unfold pyNext;refine wpAny_bind (wpAny_attempt (wpAny_callSpecial?_slot (name:=Str.ofString "__next__") hit.typeIs F.slot_dict_keyiterator_next (wpAny_call_entry F.slot_dict_keyiterator_next hit.typeIs F.entry_dict_keyiterator_next ?go (F.args_dict_keyiterator_next_1 _))))
 case go =>
  refine wpAny_bind (wpAny_pure (wpAny_bind (wpAny_bind ?_)))
  first | refine wpAny_bind (wpAny_typeNameOfWhole_keyiter hit.typeIs (wpAny_pure (wpAny_bind (wpAny_fieldsOf ho hd ?_)))) | refine wpAny_bind (wpAny_typeNameOf_keyiter hit.typeIs (wpAny_pure (wpAny_bind (wpAny_fieldsOf ho hd ?_))))
  simp only[show Builtin.Dict_items.ownsTuple "dict_keyiterator" = false by decide,Bool.false_eq_true,if_false]
  show wpAny _ _ (if (Value.ref d == Value.none)=true then _ else _) _ _ s;rw[if_neg (show ¬ ((Value.ref d == Value.none)=true) from Bool.false_ne_true)]
  refine wpAny_bind (wpAny_pure (wpAny_bind (wpAny_dictEntries hod hdd ?_)));rw[if_neg (by simp)];refine wpAny_bind (wpAny_pure (wpAny_bind (wpAny_dictEpoch hod hdd ?_)));rw[if_neg (by simp)];refine wpAny_pure ?_;simp only[show ¬ ((i:Int)<0) from by omega,if_false,Int.toNat_natCast,Array.getElem?_eq_getElem hlt];refine wpAny_bind ?_
  first | refine wpAny_bind (wpAny_typeNameOfWhole_keyiter hit.typeIs (wpAny_pure (wpAny_bind (wpAny_isOneOf_keyiter hit.typeIs ?_)))) | refine wpAny_bind (wpAny_typeNameOf_keyiter hit.typeIs (wpAny_pure (wpAny_bind (wpAny_isOneOf_keyiter hit.typeIs ?_)))) | (first | refine wpAny_bind (wpAny_typeNameOfWhole_keyiter hit.typeIs (wpAny_pure ?_)) | refine wpAny_bind (wpAny_typeNameOf_keyiter hit.typeIs (wpAny_pure ?_));refine wpAny_bind (wpAny_isOneOf_keyiter hit.typeIs ?_))
  show wpAny _ _ (setField (.ref it) 1 (rawInt ((i:Int)+1)) >>= _) _ _ s;refine wpAny_bind (wpAny_setField ho hd (by simp) ?_)
  have hit':(s.heap.update it (Obj.mapFields (·.setIfInBounds 1 (rawInt ((i:Int)+1))))).IsKeyIter it d (i+1) es.size ep:=⟨_,Heap.get?_update_self _ ho (Obj.isFreed_of_fields (Obj.data_mapFields hd _)),(Obj.cls_mapFields ..).trans hc,by rw[Obj.data_mapFields hd];simp[rawInt]⟩;refine wpAny_bind (wpAny_holding (wpAny_bind (wpAny_isOneOf_keyiter (s:={ s with heap:=s.heap.update it (Obj.mapFields (·.setIfInBounds 1 (rawInt ((i:Int)+1)))) }) hit'.typeIs ?_)))
  show wpAny _ _ (pure es[i].key) _ _ _;rw[he];exact wpAny_pure (wpAny_pure ⟨_,rfl,wpAny_pure (hQ _ hit' (Heap.SameBut.update ..))⟩)
theorem El {Q:Option Value->Shared->Prop}(hh:A.handled=none)(hit:s.heap.IsKeyIter it d i es.size ep)(hm:RawAt s.heap d es ep)(hx:es.size<=i)
  (hQ:∀ h',Heap.ExtBut it s.heap h'->Q none { s with heap:=h' }):wpAny (model prog w) A (pyNext (.ref it)) Q E s:=by
 obtain⟨o,ho,hc,hd⟩:=id hit;obtain⟨od,hod,hcd,hdd⟩:=id hm;unfold pyNext;refine wpAny_bind (wpAny_attempt (wpAny_callSpecial?_slot (name:=Str.ofString "__next__") hit.typeIs F.slot_dict_keyiterator_next (wpAny_call_entry F.slot_dict_keyiterator_next hit.typeIs F.entry_dict_keyiterator_next ?go (F.args_dict_keyiterator_next_1 _))))
 case go =>
  refine wpAny_bind (wpAny_pure (wpAny_bind (wpAny_bind ?_)))
  first | refine wpAny_bind (wpAny_typeNameOfWhole_keyiter hit.typeIs (wpAny_pure (wpAny_bind (wpAny_fieldsOf ho hd ?_)))) | refine wpAny_bind (wpAny_typeNameOf_keyiter hit.typeIs (wpAny_pure (wpAny_bind (wpAny_fieldsOf ho hd ?_))))
  simp only[show Builtin.Dict_items.ownsTuple "dict_keyiterator" = false by decide,Bool.false_eq_true,if_false]
  show wpAny _ _ (if (Value.ref d == Value.none)=true then _ else _) _ _ s;rw[if_neg (show ¬ ((Value.ref d == Value.none)=true) from Bool.false_ne_true)]
  refine wpAny_bind (wpAny_pure (wpAny_bind (wpAny_dictEntries hod hdd ?_)));rw[if_neg (by simp)];refine wpAny_bind (wpAny_pure (wpAny_bind (wpAny_dictEpoch hod hdd ?_)));rw[if_neg (by simp)];refine wpAny_pure ?_;simp only[show ¬ ((i:Int)<0) from by omega,if_false,Int.toNat_natCast,Array.getElem?_eq_none hx];refine wpAny_bind ?_
  first | refine wpAny_bind (wpAny_typeNameOfWhole_keyiter hit.typeIs (wpAny_pure ?_)) | refine wpAny_bind (wpAny_typeNameOf_keyiter hit.typeIs (wpAny_pure ?_))
  show wpAny _ _ (setField (.ref it) 0 .none >>= _) _ _ s;refine wpAny_bind (wpAny_setField ho hd (by simp) ?_)
  show wpAny _ _ (newExc (.type "StopIteration") [] >>= _) _ _ _;refine wpAny_bind ?_;simp only[newExc,newTuple]
  refine wpAny_bind (wpAny_newObj_type ?_ (by size_fits));refine wpAny_bind (m:=firstArgMember _ _) (wpAny_of_eq (a:=Value.none) (by first | rfl | (simp only[firstArgMember];rfl)) ?_);refine wpAny_newObj_type ?_ (by size_fits);simp only[raiseNew];refine wpAny_bind (wpAny_handled ?_);rw[show A.in1.handled=none from hh];refine wpAny_bind (wpAny_pure (wpAny_throw ?_));refine wpAny_bind (wpAny_isInstance (T:="StopIteration") (b:=true) ⟨_,Heap.get?_push_size _ rfl,rfl⟩ isSubtype_stop ?_);exact wpAny_pure (hQ _ (((Heap.SameBut.update ..).extBut.push _).push _))
end
theorem Bd {prog:Program}{w:World}{A:Around}(hh:A.handled=none)(I d:Addr)(hne:d≠I)(es:Array DictEntry)(ep:Nat) :
  Walks prog w A I [I,d] [I] es.size (fun i v=>∃ e,es[i]? = some e/\v=e.key) (fun i h=>h.IsKeyIter I d i es.size ep/\RawAt h d es ep) where
 sub:=fun b hb=>by simp at hb;simp[hb]
 frame:=fun _ _ _ st hk=>⟨st.1.at fun o e=>hk I (by simp) o e,st.2.at fun o e=>hk d (by simp) o e⟩
 item:=fun i s Q E hi st hQ=>CW st.1 st.2 (Array.getElem?_eq_getElem hi) fun h' hit' hs'=>hQ _ h' s.toks ⟨_,Array.getElem?_eq_getElem hi,rfl⟩ ⟨hit',st.2.at fun o e=>hs'.extBut d o hne e⟩ fun b o hb e=>hs'.extBut b o (fun h=>hb (by simp[h])) e
 done:=fun s Q E st hQ=>El hh st.1 st.2 (Nat.le_refl _) fun h' he'=>hQ h' s.toks fun b o hb e=>he' b o (fun h=>hb (by simp[h])) e
 self:=fun _ _ _ _ st hQ=>wpAny_pyIter_keyiter st.1 hQ
theorem raw_src {prog:Program}{w:World}{d:Addr}{es:Array DictEntry}{ep:Nat}(lo:(d == sysModules)=false):KdlSrc prog w "dict" d d es.size (fun i v=>∃ e,es[i]? = some e/\v=e.key) (fun h=>RawAt h d es ep) where
 type:=fun _ hm=>hm.typeIs
 there:=fun _ hm=>⟨hm.lt,hm.lt⟩
 keep:=fun _ _ hm hk=>hm.at fun o e=>hk d (.inl rfl) o e
 notList:=by decide
 notTuple:=by decide
 hint:=fun _ _ _ _ hm hq=>kdl_hint_dict hm.typeIs hq
 iter:=fun _ _ hh hm=>⟨_,_,(fun _ _ hq=>CY lo hm hq),Bd hh _ d (Nat.ne_of_lt hm.lt) es ep,⟨⟨_,Heap.get?_push_size _ rfl,rfl,rfl⟩,hm.at fun o e=>Heap.get?_push_of_some _ e⟩⟩
end Qs
namespace Wz
open PySem PySem.Spec PyProof.Rows L2
theorem ka {α β γ:Type}{F:β->γ->Prop}{f:α->β}{g:α->γ}:∀ (l:List α),(∀ x∈l,F (f x) (g x))->Paired F (l.map f) (l.map g)
 | [],_=>.nil
 | x::l,h=>.cons (h x List.mem_cons_self) (ka l fun y hy=>h y (List.mem_cons_of_mem _ hy))
theorem lH {α:Type}(d:α)(l:List α):(List.range l.length).map (fun i=>l.getD i d)=l:=by
 apply List.ext_getElem?
 intro i;rw[List.getElem?_map]
 by_cases hi:i<l.length
 ·rw[List.getElem?_range hi];simp[hi]
 ·rw[List.getElem?_eq_none (by simp;omega),List.getElem?_eq_none (by omega)];rfl
end Wz
namespace L2
open PySem PySem.Spec PyProof.Rows
theorem aE.thaw {X:Cx}{pins:List (Addr×Obj)}{σ:St}{H:Hp}{s:Shared}{d:Addr}{o:Obj}{u:HO}(I:aE X pins σ H s)(hd:H d=some (.frz o u))(h0:∀ o' u',X.H₀ d≠some (.frz o' u')):aE X pins σ (upd H d u) s:=by
 have up:∀ b,upd H d u b=none->H b=none:=fun b e=>by
  by_cases hb:b=d
  ·rw[hb,ae]at e;cases e
  ·rw[af hb]at e;exact e
 have dn:∀ b,H b=none->upd H d u b=none:=fun b e=>by rw[af (fun z=>by rw[z,hd]at e;cases e)];exact e
 have ne:∀ b v,H b=some v->(∀ o' u',v≠.frz o' u')->b≠d:=fun b v e n z=>by rw[z,hd]at e;exact n _ _ (Option.some.inj e).symm
 refine⟨I.ok,I.os,I.bare,⟨I.base.keep,I.base.slot,fun b ob e n hx=>dn _ (I.base.free b ob e n hx),I.base.there,fun b xs e=>?_,fun b ob v e=>?_,fun b ps e=>?_⟩,I.loc,I.cell,dn _ I.free,fun x c e=>dn _ (I.freeC x c e),fun p hp=>?_,fun b ob e=>?_,I.len⟩
 ·have e1:=I.base.tups b xs e
  rw[af (ne b _ e1 (fun _ _ z=>by cases z))];exact e1
 ·have nb:b≠d:=fun z=>h0 ob v (by rw[<-z];exact e)
  rw[af nb];exact I.base.frzs b ob v e
 ·obtain⟨more,e1⟩:=I.base.tbls b ps e
  exact⟨more,by rw[af (ne b _ e1 (fun _ _ z=>by cases z))];exact e1⟩
 ·obtain⟨a1,a2,a3⟩:=I.pin p hp
  exact⟨a1,dn _ a2,a3⟩
 ·have tr:∀ v,bC X.prog X.w H s.heap b v->bC X.prog X.w (upd H d u) s.heap b v:=fun v x=>x.stay (fun c w' hc q=>q) (fun c q=>(by rw[af (ne c _ q (fun _ _ z=>by cases z))];exact q)) (fun c y q=>(by rw[af (ne c _ q (fun _ _ z=>by cases z))];exact q))
  by_cases hb:b=d
  ·rw[hb,ae]at e
   cases e;obtain⟨_,x⟩:=(show bC X.prog X.w H s.heap d (.frz o u) from I.hok d _ hd);rw[hb];rw[hb]at tr;exact tr u x
  ·rw[af hb]at e
   exact tr ob (I.hok b ob e)
def GO (H0:Hp)(nx:St->Hp->Prop):St->Hp->Prop:=fun σ H=>∃ d o u,H d=some (.frz o u)/\(∀ o' u',H0 d≠some (.frz o' u'))/\nx σ (upd H d u)
theorem Ef {X:Cx}{st:Stmt}{t:TS}(h:PS X st t):PS X st (fun D σ H=>t { D with nx:=GO X.H₀ D.nx } σ H):=by
 intro pins s σ H D I ht;refine bA (h pins s σ H _ I ht) fun f s' hq=>?_
 cases f with
 | next=>obtain⟨σ',H',I',d,o,u,hd,h0,q⟩:=hq;exact⟨σ',_,I'.thaw hd h0,q⟩
 | brk=>exact hq
 | cont=>exact hq
 | ret v=>exact hq
end L2
namespace Wz
open PySem L2
structure sQ (L:List Int)(st:bQ):Prop where
 kn:(st.circ.map (·.1)).Nodup
 kl:∀ x∈st.circ,x.1∈L/\x.2.Nodup/\∀ b∈x.2,b∈L
theorem He {L:List Int}:sQ L ⟨[],[],[],[]⟩:=⟨List.nodup_nil,fun x h=>by cases h⟩
theorem DD {L ks:List Int}{b:Int}(h:ks.Nodup/\∀ x∈ks,x∈L)(hb:b∈L):(eQ ks b).Nodup/\∀ x∈eQ ks b,x∈L:=by
 unfold eQ;split
 ·exact h
 ·rename_i n
  refine⟨qw h.1 n,fun x hx=>?_⟩;rcases List.mem_append.mp hx with z | z
  ·exact h.2 x z
  ·rw[List.mem_singleton.mp z];exact hb
theorem uH {L:List Int}{a b:Int}(ha:a∈L)(hb:b∈L):∀ {ci:List (Int×List Int)},(ci.map (·.1)).Nodup->(∀ x∈ci,x.1∈L/\x.2.Nodup/\∀ y∈x.2,y∈L) ->
  ((bY ci a b).map (·.1)).Nodup/\(∀ x∈bY ci a b,x.1∈L/\x.2.Nodup/\∀ y∈x.2,y∈L)/\∀ k,k∈(bY ci a b).map (·.1)->k∈ci.map (·.1)\/k=a
 | [],_,_=>by
  refine⟨by simp[bY],fun x hx=>?_,fun k hk=>?_⟩
  ·simp[bY]at hx
   subst hx;exact⟨ha,by simp,fun y hy=>by simp at hy;rw[hy];exact hb⟩
  ·simp[bY]at hk
   exact .inr hk
 | x::r,hn,hl=>by
  rw[List.map_cons,List.nodup_cons]at hn;unfold bY
  by_cases h:x.1=a
  ·rw[if_pos h]
   refine⟨by rw[List.map_cons,List.nodup_cons];exact hn,fun y hy=>?_,fun k hk=>.inl (by simpa using hk)⟩;rcases List.mem_cons.mp hy with z | z
   ·subst z
    obtain⟨h1,h2,h3⟩:=hl x List.mem_cons_self;exact⟨h1,DD ⟨h2,h3⟩ hb⟩
   ·exact hl y (List.mem_cons_of_mem _ z)
  ·rw[if_neg h]
   obtain⟨i1,i2,i3⟩:=uH ha hb (ci:=r) hn.2 (fun y hy=>hl y (List.mem_cons_of_mem _ hy));refine⟨?_,fun y hy=>?_,fun k hk=>?_⟩
   ·rw[List.map_cons,List.nodup_cons]
    refine⟨fun z=>?_,i1⟩;rcases i3 _ z with z | z
    ·exact hn.1 z
    ·exact h z
   ·rcases List.mem_cons.mp hy with z | z
    ·subst z;exact hl _ List.mem_cons_self
    ·exact i2 y z
   ·rw[List.map_cons]at hk
    rcases List.mem_cons.mp hk with z | z
    ·exact .inl (by rw[z];simp)
    ·rcases i3 k z with z | z
     ·exact .inl (List.mem_cons_of_mem _ z)
     ·exact .inr z
theorem BG {L:List Int}{st:bQ}{d:aN}(h:sQ L st)(hn:∀ g∈names d,g∈L):sQ L (c5 st d):=by
 unfold c5;split
 ·cases d with
  | come g=>exact⟨h.kn,h.kl⟩
  | go g=>exact⟨h.kn,h.kl⟩
  | exch a b =>
   have ha:=hn a (by simp[names]);have hb:=hn b (by simp[names]);obtain⟨j1,j2,_⟩:=uH ha hb h.kn h.kl;obtain⟨k1,k2,_⟩:=uH hb ha j1 j2;exact⟨k1,k2⟩
 ·exact h
theorem n8 {L:List Int}{a:Int}:∀ {ci:List (Int×List Int)},(∀ x∈ci,x.1∈L/\x.2.Nodup/\∀ y∈x.2,y∈L)->(cD ci a).Nodup/\(∀ y∈cD ci a,y∈L)/\∀ y,y∈cD ci a->a∈ci.map (·.1)
 | [],_=>⟨List.nodup_nil,(fun y h=>by cases h),fun y h=>by cases h⟩
 | x::r,hl=>by
  unfold cD
  by_cases h:x.1=a
  ·rw[if_pos h]
   obtain⟨_,h2,h3⟩:=hl x List.mem_cons_self;exact⟨h2,h3,fun y _=>by rw[<-h];simp⟩
  ·rw[if_neg h]
   obtain⟨i1,i2,i3⟩:=n8 (ci:=r) (a:=a) fun y hy=>hl y (List.mem_cons_of_mem _ hy);exact⟨i1,i2,fun y hy=>List.mem_cons_of_mem _ (i3 y hy)⟩
theorem sQ.cl {L:List Int}{st:bQ}(h:sQ L st)(a:Int):(cD st.circ a).length<=L.length:=by obtain⟨h1,h2,_⟩:=n8 (a:=a) h.kl;exact b6 h1 h2
theorem sQ.kk {L:List Int}{st:bQ}(h:sQ L st):st.circ.length<=L.length:=by
 have:=b6 h.kn (m:=L) fun x hx=>by obtain⟨y,hy,e⟩:=List.mem_map.mp hx;rw[<-e];exact (h.kl y hy).1
 rwa [List.length_map]at this
def dR (ci:List (Int×List Int))(a:Int):List (Int×Int):=((aZ (cD ci a)).filter fun b=>decide (a<b)).map fun b=>(a,b)
def eF (ci:List (Int×List Int)):List (Int×Int):=(aZ (ci.map (·.1))).flatMap (dR ci)
structure p8 (ml:List (Int×Int)):Prop where
 nd:ml.Nodup
 lo:∀ p∈ml,p.1<p.2
theorem HZ:p8 []:=⟨List.nodup_nil,fun p h=>by cases h⟩
theorem DZ {st:bQ}{ml:List (Int×Int)}(h:p8 ml)(d:aN):p8 (lu st ml d):=by
 unfold lu;split
 ·rename_i hj
  cases d with
  | come g=>exact h
  | go g=>exact h
  | exch a b =>
   have hab:a≠b:=fun e=>by
    subst e
    cases e:look st.worn a with
    | none=>simp[ba,e]at hj
    | some m=>simp[ba,e]at hj
   show p8 (nY ml (bW a b))
   unfold nY;split
   ·exact h
   ·rename_i n
    refine⟨?_,fun p hp=>?_⟩
    ·rw[List.nodup_append]
     exact⟨h.nd,by simp,fun x hx y hy e=>n (by rw[List.mem_singleton.mp hy]at e;rw[<-e];exact hx)⟩
    ·rcases List.mem_append.mp hp with z | z
     ·exact h.lo p z
     ·rw[List.mem_singleton.mp z]
      unfold bW;split
      ·assumption
      ·show a<b
       omega
 ·exact h
theorem m6 {L:List Int}{st:bQ}(h:sQ L st):(eF st.circ).Pairwise fun a b=>Qs.ltP a b=true:=by
 have ss:∀ l:List Int,l.Nodup->(aZ l).Pairwise (· < ·):=fun l nd=>by
  have h1:=y0 l;have h2:(aZ l).Nodup:=(b7 l).nodup_iff.mpr nd
  exact (h1.and h2).imp fun {a b} ⟨x,y⟩=>by have:a≠b:=y;omega
 unfold eF;rw[List.pairwise_flatMap];refine⟨fun a ha=>?_,(ss _ h.kn).imp fun {a b} hab x hx y hy=>?_⟩
 ·unfold dR
  rw[List.pairwise_map];refine ((ss _ (n8 h.kl).1).filter _).imp fun {x y} hxy=>?_;unfold Qs.ltP;exact decide_eq_true (.inr ⟨rfl,hxy⟩)
 ·unfold dR at hx hy
  obtain⟨x',_,rfl⟩:=List.mem_map.mp hx;obtain⟨y',_,rfl⟩:=List.mem_map.mp hy;unfold Qs.ltP;exact decide_eq_true (.inl hab)
theorem uz {L:List Int}{st:bQ}{ml:List (Int×Int)}(h:sQ L st)(al:gS st ml)(ok:p8 ml)(p:Int×Int):p∈eF st.circ↔p∈ml:=by
 obtain⟨a,b⟩:=p
 have hm:b∈cD st.circ a↔bW a b∈ml:=by
  have:=al a b;unfold cC iY at this;constructor
  ·intro z;rw[decide_eq_true z]at this;exact of_decide_eq_true this.symm
  ·intro z;rw[decide_eq_true z]at this;exact of_decide_eq_true this
 unfold eF;rw[List.mem_flatMap];constructor
 ·rintro⟨a',ha',hb⟩
  unfold dR at hb;obtain⟨b',hb',e⟩:=List.mem_map.mp hb;cases e;obtain⟨h1,h2⟩:=List.mem_filter.mp hb';have h2:=of_decide_eq_true h2;have:=hm.mp (gj.mp h1);unfold bW at this;rw[if_neg (by omega)]at this;exact this
 ·intro hp
  have hlt:=ok.lo _ hp;have hb:b∈cD st.circ a:=hm.mpr (by unfold bW;rw[if_neg (by show ¬ b<a;have:a<b:=hlt;omega)];exact hp);refine⟨a,gj.mpr ((n8 h.kl).2.2 b hb),?_⟩;unfold dR;exact List.mem_map.mpr ⟨b,List.mem_filter.mpr ⟨gj.mpr hb,decide_eq_true hlt⟩,rfl⟩
theorem CA {L:List Int}{st:bQ}{ml qs:List (Int×Int)}(h:sQ L st)(al:gS st ml)(ok:p8 ml)(hp:qs.Perm ml)(hs:qs.Pairwise fun a b=>Qs.ltP a b=true):eF st.circ=qs:=by
 have p1:=m6 h
 have irr:∀ a b:Int×Int,Qs.ltP a b=true->a≠b:=fun a b z e=>by rw[e,Qs.ltP_irr]at z;cases z
 have nd1:(eF st.circ).Nodup:=p1.imp fun {a b} z=>irr a b z;have nd2:qs.Nodup:=hp.nodup_iff.mpr ok.nd
 have pm:(eF st.circ).Perm qs:=(List.perm_ext_iff_of_nodup nd1 nd2).mpr fun x=>by rw[uz h al ok,hp.mem_iff]
 exact pm.eq_of_pairwise (fun a b _ _ z1 z2=>by have:=Qs.ltP_tr z1 z2;rw[Qs.ltP_irr]at this;cases this) p1 hs
def gH (C:Addr):Sp:=fun vs H Q _=>∃ (p:Addr)(A:HA)(st:bQ)(g:Int),vs=[.ref p,.int g]/\aM C H p A st/\(cD st.circ g).length<64/\∀ (l:Addr)(H':Hp),H l=none->ay H H'->H' l=some (.lst ((aZ (cD st.circ g)).map V.int))->Q (.ref l) H'
def sy (C:Addr):Sp:=fun vs H Q _=>∃ (p:Addr)(A:HA)(st:bQ)(L:List Int),vs=[.ref p]/\aM C H p A st/\sQ L st/\L.length<64/\(eF st.circ).length<=1000/\∀ (l:Addr)(H':Hp),H l=none->ay H H'->cp H' l (eF st.circ)->Q (.ref l) H'
end Wz
namespace L2
open PySem PySem.Spec PyProof.Rows
def Hr (neg:Bool):R2:=fun x y H Q=>∃ a b:Bool,x=.bl a/\y=.bl b/\Q (.bl (if neg then !decide (a=b) else decide (a=b))) H
theorem A3 {X:Cx}:qO X (compareOp .IsNot) (Hr true):=by
 intro pins s σ H x y v u Q I rx ry h;obtain⟨a,b,rfl,rfl,q⟩:=h;cases rx;cases ry;refine wpAny_isNot_plain rfl ⟨.bl _,H,I,?_,q⟩;cases a<;>cases b<;>rfl
theorem CM {X:Cx}{tg:Expr}(K:PySem.W.Frag){l:Expr}{tl:TE}(hl:PE X l tl)(hK:X.K=K:=by rfl):PI X tg l (ED K tl):=by subst hK;exact bq hl
theorem Dk {wi1:TI}{g1:TG}{tt1:TT}{te:TE}{a:Addr}{D:jE}{σ:St}{H:Hp}(h:wi1 σ H fun J1 H2=>jP J1 g1 (BB tt1 te a) { nx:=D.nx,rt:=fun _ _=>False } σ H2):FO tO wi1 g1 tt1 te a D σ H:=by
 unfold FO tO;dsimp only;rw[if_pos rfl];exact h
end L2
namespace Wz
open PySem L2
end Wz
namespace L2
open PySem PySem.Spec PyProof.Rows
end L2
namespace Wz
open PySem L2
def iU:aN->Bool
 | .exch _ _=>true
 | _=>false
def sx (K:PySem.W.Frag):Sp:=fun vs H Q _=>∃ (a:Addr)(ns:List Int),vs=[.ref a]/\aW K H a (ns.map V.int) /\
 ∀ (l:Addr)(H':Hp)(ds:List aN),H l=none->ay H H'->bg H' l ds->(∀ d∈ds,∀ g∈names d,g∈a9 40 (dQ ns 1))->ds.length<=88->(ds.filter iU).length<=48->Q (.ref l) H'
theorem yl (st:bQ)(ml:List (Int×Int))(d:aN):(lu st ml d).length<=ml.length+(if iU d then 1 else 0):=by
 unfold lu;split
 ·cases d with
  | come g=>exact Nat.le_refl _
  | go g=>exact Nat.le_refl _
  | exch a b=>show (nY ml _).length<=_;unfold nY;split<;>simp[iU]
 ·omega
end Wz
namespace L2
open PySem PySem.Spec PyProof.Rows
end L2
namespace Wz
open PySem L2
def fF (ds:List aN):List (Int×Int):=ds.foldl nZ []
theorem uv (ds:List aN)(d:aN):fF (ds++[d])=nZ (fF ds) d:=by unfold fF;rw[List.foldl_append];rfl
theorem ri:∀ (ds:List aN)(st:bQ),(ds.foldl after st).deeds=st.deeds++ds
 | [],st=>by simp
 | d::ds,st=>by rw[List.foldl_cons,ri ds,wg,List.append_assoc];rfl
theorem gI (ds:List aN):(aw ds).deeds=ds:=by unfold aw;rw[ri];rfl
structure Ey (L:List Int)(ds:List aN):Prop where
 good:cZ (aw ds)
 of:Of L (aw ds)
 sz:Sz ds.length (aw ds)
 al:gS (aw ds) (fF ds)
 ci:sQ L (aw ds)
 mo:p8 (fF ds)
 ml:(fF ds).length<=(ds.filter iU).length
theorem Ho {L:List Int}:Ey L []:=⟨rk,of_empty,GY,wj,He,HZ,Nat.le_refl _⟩
theorem lL {ds:List aN}{d:aN}(hj:ba (aw ds) d=.done):c5 (aw ds) d=aw (ds++[d]):=by unfold c5;rw[if_pos hj,dt]
theorem lK {ds:List aN}{d:aN}(hj:ba (aw ds) d=.done):lu (aw ds) (fF ds) d=fF (ds++[d]):=by unfold lu;rw[if_pos hj,uv]
theorem Ey.next {L:List Int}{ds:List aN}{d:aN}(h:Ey L ds)(hj:ba (aw ds) d=.done)(hn:∀ g∈names d,g∈L/\aV g):Ey L (ds++[d]):=by
 have e1:=lL hj;have e2:=lK hj;refine⟨?_,?_,?_,?_,?_,?_,?_⟩
 ·rw[<-e1];exact ug h.good fun g hg=>(hn g hg).2
 ·rw[<-e1];exact zP h.good h.of fun g hg=>(hn g hg).1
 ·rw[<-e1,List.length_append];exact zZ h.sz d
 ·rw[<-e1,<-e2];exact x3 h.al
 ·rw[<-e1];exact BG h.ci fun g hg=>(hn g hg).1
 ·rw[<-e2];exact DZ h.mo d
 ·rw[<-e2,List.filter_append,List.length_append]
  have h1:=yl (aw ds) (fF ds) d;have h2:=h.ml;cases e:iU d<;>simp[e]at h1 ⊢<;>omega
theorem lP {L:List Int}{ds:List aN}(hd:bO ds)(hn:∀ d∈ds,∀ g∈names d,g∈L/\aV g):∀ i,Ey L (ds.take i)
 | 0=>Ho
 | i+1=>by
  have ih:=lP hd hn i;rw[List.take_add_one]
  cases e:ds[i]? with
  | none=>simpa using ih
  | some d=>rw[Option.toList_some];exact ih.next (hd i d e) (hn d (List.mem_of_getElem? e))
def lS (K:PySem.W.Frag):Sp:=fun vs H Q _=>∃ (a:Addr)(ns:List Int),vs=[.ref a]/\aW K H a (ns.map V.int) /\
 ∀ (t w m ls:Addr)(H':Hp)(es:List aN),ay H H'->H' t=some (.tup [.ref w,.ref m,.ref ls])->sS H H' w m ls (aw es) (fF es)->bO es->(∀ d∈es,∀ g∈names d,g∈a9 40 (dQ ns 1))->es.length<=88->(es.filter iU).length<=48->Q (.ref t) H'
end Wz
namespace L2
open PySem PySem.Spec PyProof.Rows
end L2
namespace Wz
open PySem L2
theorem uR {i j c:Int}(hi:0<=i/\i<100)(hj:0<=j/\j<100)(h:dC i c=dC j c):i=j:=by
 have ht0:0<=gu c*1234567891%2147483646:=Int.emod_nonneg _ (by decide);have ht1:gu c*1234567891%2147483646<2147483646:=Int.emod_lt_of_pos _ (by decide);unfold dC at h;dsimp only at h;generalize gu c*1234567891%2147483646=t0 at *;generalize gu c/2147483646=q at *
 have h2:(i*(1+t0)+q)%2147483647=(j*(1+t0)+q)%2147483647:=by
  by_cases e:gu c%5=4
  ·rw[if_pos e,if_pos e]at h;omega
  ·rw[if_neg e,if_neg e]at h;exact h
 have h3:(2147483647:Int) ∣ (i-j)*(1+t0):=by
  have h5:=Int.dvd_of_emod_eq_zero (Int.emod_eq_emod_iff_emod_sub_eq_zero.mp h2)
  have e:i*(1+t0)+q-(j*(1+t0)+q)=(i-j)*(1+t0):=by rw[Int.sub_mul];omega
  rw[e]at h5;exact h5
 have key:∀ d:Nat,d<100->d≠0->Nat.gcd 2147483647 d=1:=by decide +kernel
 by_cases hij:i=j
 ·exact hij
 exfalso
 have h6:2147483647 ∣ (i-j).natAbs*(1+t0).natAbs:=by
  have:=Int.natAbs_dvd_natAbs.mpr h3;rw[Int.natAbs_mul]at this;exact this
 have h7:2147483647 ∣ (1+t0).natAbs:=Nat.Coprime.dvd_of_dvd_mul_left (key _ (by omega) (by omega)) h6;have:=Nat.le_of_dvd (by omega) h7;omega
def qC (c:HX):Sp:=fun vs H Q E=>∃ (p:Addr)(A:HA)(st:bQ)(g:Int),vs=[.ref p,.int g]/\aM c.C H p A st/\aV g/\(cD st.circ g).length<64 /\
 (if (look st.worn g).isSome=true then ∀ H',ay H H'->Q (.bl (decide (cD st.circ g=[]))) H' else ∀ dx H',ay H H'->H' dx=some (.xd [("guest",.int g)])->E (.ref c.cN) (some dx) H')
def vK:Sp:=fun vs H Q _=>∃ k c:Int,vs=[.int k,.int c]/\(0<=k/\k<=1000)/\Q (.int (dC (60+k) c)) H
def vJ:Sp:=fun vs H Q _=>∃ (t ld w m ls:Addr)(H0:Hp)(es ds:List aN)(L:List Int),vs=[.ref t,.ref ld]/\H t=some (.tup [.ref w,.ref m,.ref ls])/\sS H0 H w m ls (aw es) (fF es)/\bg H ld ds/\ld≠ls/\bO (es++ds)/\L.length<=100/\(∀ d∈es++ds,∀ g∈names d,g∈L/\aV g)/\(es++ds).length<=300 /\
 ∀ H',sS H0 H' w m ls (aw (es++ds)) (fF (es++ds))->(∀ b o,H b=some o->b≠w->b≠m->b≠ls->H' b=some o)->Q (.ref t) H'
def o6 (c:HX):Sp:=fun vs H Q _=>∃ (l:Addr)(ds:List aN)(L:List Int),vs=[.ref l]/\bg H l ds/\bO ds/\ds.length<=300/\L.length<=100/\(∀ d∈ds,∀ g∈names d,g∈L/\aV g) /\
 ∀ (x:Addr)(B:HA)(H':Hp),H x=none->Ev c H H' x B (aw ds)->Q (.ref x) H'
structure GV (n:Int)(es:List aN):Prop where
 dn:bO es
 nm:∀ d∈es,∀ g∈names d,g∈a9 62 n/\aV g
 len:es.length<=92
 ex:(es.filter iU).length<=48
 l0:look (aw es).worn (dC 60 n)=some (dC 60 n)
 l1:look (aw es).worn (dC 61 n)=some (dC 61 n)
 m1:∀ x,cC (aw es).circ x (dC 61 n)=false
 m0:∀ x,cC (aw es).circ x (dC 60 n)=false
def vM (K:PySem.W.Frag):Sp:=fun vs H Q _=>∃ (a:Addr)(ns:List Int),vs=[.ref a]/\aW K H a (ns.map V.int) /\
 ∀ (t w m ls:Addr)(H':Hp)(es:List aN),ay H H'->H' t=some (.tup [.ref w,.ref m,.ref ls])->sS H H' w m ls (aw es) (fF es)->GV (dQ ns 1) es->Q (.ref t) H'
theorem uQ {k c m:Int}(h:0<=k/\k<m):dC k c∈a9 m c:=by
 unfold a9;rw[List.mem_map];exact⟨k.toNat,List.mem_range.mpr (by omega),by rw[Int.toNat_of_nonneg h.1]⟩
theorem rH {m c g:Int}(h:g∈a9 m c):∃ k:Int,(0<=k/\k<m)/\g=dC k c:=by
 unfold a9 at h;obtain⟨k,hk,rfl⟩:=List.mem_map.mp h;have:=List.mem_range.mp hk;exact⟨k,by omega,rfl⟩
theorem yx {m n c g:Int}(h:g∈a9 m c)(hmn:m<=n):g∈a9 n c:=by
 obtain⟨k,hk,rfl⟩:=rH h;exact uQ ⟨hk.1,by omega⟩
theorem iS {k m c:Int}(hm:m<=k)(hk:k<100)(h0:0<=k):dC k c∉a9 m c:=fun z=>by
 obtain⟨j,hj,e⟩:=rH z;have:=uR ⟨h0,hk⟩ ⟨hj.1,by omega⟩ e;omega
theorem wG {st:bQ}{L:List Int}{g:Int}(o:Of L st)(h:g∉L):look st.worn g=none:=by
 cases e:look st.worn g with
 | none=>rfl
 | some m=>exact absurd (o.1 g (bn.mp (by rw[e];rfl))) h
theorem C9 {n:Int}{es:List aN}(dn:bO es)(nm:∀ d∈es,∀ g∈names d,g∈a9 40 n)(len:es.length<=88)(ex:(es.filter iU).length<=48) :
  GV n (es++[.come (dC 60 n),.come (dC 61 n)])/\GV n (es++[.come (dC 60 n),.come (dC 61 n),.go (dC 60 n),.come (dC 60 n)]):=by
 have nmS:∀ d∈es,∀ g∈names d,g∈a9 40 n/\aV g:=fun d hd g hg=>⟨nm d hd g hg,cv (nm d hd g hg)⟩;have P:=lP dn nmS es.length;rw[List.take_length]at P;have q0:=wG P.of (iS (k:=60) (m:=40) (c:=n) (by decide) (by decide) (by decide));have q1:=wG P.of (iS (k:=61) (m:=40) (c:=n) (by decide) (by decide) (by decide))
 have mm:∀ x,cC (aw es).circ x (dC 61 n)=false:=fun x=>by
  unfold cC;exact decide_eq_false fun z=>iS (k:=61) (m:=40) (c:=n) (by decide) (by decide) (by decide) ((n8 (a:=x) P.ci.kl).2.1 _ z)
 have mn:∀ x,cC (aw es).circ x (dC 60 n)=false:=fun x=>by
  unfold cC;exact decide_eq_false fun z=>iS (k:=60) (m:=40) (c:=n) (by decide) (by decide) (by decide) ((n8 (a:=x) P.ci.kl).2.1 _ z)
 have ne:dC 60 n≠dC 61 n:=fun z=>by have:=uR (by decide) (by decide) z;omega
 have h0:dC 60 n∈a9 62 n:=uQ (by decide);have h1:dC 61 n∈a9 62 n:=uQ (by decide);generalize e0:dC 60 n=g0 at *;generalize e1:dC 61 n=g1 at *;have s0:aV g0:=cv h0;have s1:aV g1:=cv h1
 have jc:∀ (st:bQ)(g:Int),look st.worn g=none->ba st (.come g)=.done:=fun st g h=>by simp[ba,h]
 have lc:∀ (st:bQ)(g x:Int),look (after st (.come g)).worn x=if x=g then some g else look st.worn x:=fun st g x=>bS _ _ _ _
 have lg:∀ (st:bQ)(g x:Int),look (after st (.go g)).worn x=if x=g then none else look st.worn x:=fun st g x=>dW _ _ _
 have d1:=cr dn (jc _ g0 q0);have t1:=dt es (.come g0)
 have a1:look (aw (es++[.come g0])).worn g1=none:=by rw[t1,lc,if_neg (Ne.symm ne)];exact q1
 have d2:=cr d1 (jc _ g1 a1);have t2:=dt (es++[.come g0]) (.come g1)
 have b0:look (aw (es++[.come g0]++[.come g1])).worn g0=some g0:=by rw[t2,lc,if_neg ne,t1,lc,if_pos rfl]
 have b1:look (aw (es++[.come g0]++[.come g1])).worn g1=some g1:=by rw[t2,lc,if_pos rfl]
 have c2:(aw (es++[.come g0]++[.come g1])).circ=(aw es).circ:=by rw[t2,t1];rfl
 have jg:∀ (st:bQ)(g:Int),look st.worn g=some g->ba st (.go g)=.done:=fun st g h=>by simp[ba,h]
 have d3:=cr d2 (jg _ g0 b0);have t3:=dt (es++[.come g0]++[.come g1]) (.go g0)
 have a3:look (aw (es++[.come g0]++[.come g1]++[.go g0])).worn g0=none:=by rw[t3,lg,if_pos rfl]
 have d4:=cr d3 (jc _ g0 a3);have t4:=dt (es++[.come g0]++[.come g1]++[.go g0]) (.come g0)
 have f0:look (aw (es++[.come g0]++[.come g1]++[.go g0]++[.come g0])).worn g0=some g0:=by rw[t4,lc,if_pos rfl]
 have f1:look (aw (es++[.come g0]++[.come g1]++[.go g0]++[.come g0])).worn g1=some g1:=by rw[t4,lc,if_neg (Ne.symm ne),t3,lg,if_neg (Ne.symm ne)];exact b1
 have c4:(aw (es++[.come g0]++[.come g1]++[.go g0]++[.come g0])).circ=(aw es).circ:=by rw[t4,t3];exact c2
 have big:∀ d∈es,∀ g∈names d,g∈a9 62 n/\aV g:=fun d hd g hg=>⟨yx (nm d hd g hg) (by decide),cv (nm d hd g hg)⟩
 have x1:es++[.come g0,.come g1]=es++[.come g0]++[.come g1]:=by simp
 have x2:es++[.come g0,.come g1,.go g0,.come g0]=es++[.come g0]++[.come g1]++[.go g0]++[.come g0]:=by simp
 constructor
 ·rw[x1]
  refine⟨d2,fun d hd=>?_,by simp;omega,?_,by rw[e0];exact b0,by rw[e1];exact b1,(fun x=>by rw[c2,e1];exact mm x),fun x=>by rw[c2,e0];exact mn x⟩
  ·rw[List.append_assoc]at hd
   rcases List.mem_append.mp hd with z | z
   ·exact big d z
   ·simp at z
    intro g hg;rcases z with rfl | rfl<;>(simp[names]at hg;subst hg)
    ·exact⟨h0,s0⟩
    ·exact⟨h1,s1⟩
  ·rw[List.filter_append,List.filter_append]
   simp[iU];exact ex
 ·rw[x2]
  refine⟨d4,fun d hd=>?_,by simp;omega,?_,by rw[e0];exact f0,by rw[e1];exact f1,(fun x=>by rw[c4,e1];exact mm x),fun x=>by rw[c4,e0];exact mn x⟩
  ·rw[<-x2]at hd
   rcases List.mem_append.mp hd with z | z
   ·exact big d z
   ·simp at z
    intro g hg;rcases z with rfl | rfl | rfl | rfl<;>(simp[names]at hg;subst hg)
    ·exact⟨h0,s0⟩
    ·exact⟨h1,s1⟩
    ·exact⟨h0,s0⟩
    ·exact⟨h0,s0⟩
  ·rw[List.filter_append,List.filter_append,List.filter_append,List.filter_append]
   simp[iU];exact ex
def Dz (f:Int->Int):Prop:=∀ a b,f a=f b->a=b
theorem sO {w:List (Int×Int)}{g:Int}(h:g∉aq w):wr w g=g:=by
 unfold wr
 cases e:look w g with
 | none=>rfl
 | some m=>exact absurd (bn.mp (by rw[e];rfl)) h
def iter (f:Int->Int):Nat->Int->Int
 | 0,g=>g
 | n+1,g=>f (iter f n g)
theorem cJ (f:Int->Int)(m:Nat):∀ (n:Nat)(g:Int),iter f (n+m) g=iter f n (iter f m g)
 | 0,_=>by rw[Nat.zero_add];rfl
 | n+1,g=>by
  rw[Nat.add_right_comm]
  show f (iter f (n+m) g)=f (iter f n (iter f m g))
  rw[cJ f m n g]
theorem mQ {f:Int->Int}(h:Dz f):∀ (n:Nat){a b:Int},iter f n a=iter f n b->a=b
 | 0,_,_,e=>e
 | n+1,_,_,e=>mQ h n (h _ _ e)
theorem kI {f:Int->Int}{ks:List Int}(hk:∀ g∈ks,f g∈ks){g:Int}(hg:g∈ks):∀ n,iter f n g∈ks
 | 0=>hg
 | n+1=>hk _ (kI hk hg n)
theorem oH:∀ {l:List Int},¬ l.Nodup->∃ i j:Nat,i<j/\∃ x,l[i]? = some x/\l[j]? = some x
 | [],h=>absurd List.nodup_nil h
 | a::r,h=>by
  by_cases ha:a∈r
  ·obtain⟨n,hn,e⟩:=List.getElem_of_mem ha
   exact⟨0,n+1,Nat.succ_pos _,a,rfl,by rw[List.getElem?_cons_succ,List.getElem?_eq_getElem hn,e]⟩
  ·have hr:¬ r.Nodup:=fun z=>h (List.nodup_cons.mpr ⟨ha,z⟩)
   obtain⟨i,j,hij,x,e1,e2⟩:=oH hr;exact⟨i+1,j+1,Nat.succ_lt_succ hij,x,by simpa using e1,by simpa using e2⟩
theorem x4 {f:Int->Int}(hf:Dz f){ks:List Int}(hk:∀ g∈ks,f g∈ks){g:Int}(hg:g∈ks):∃ n,0<n/\n<=ks.length/\iter f n g=g:=by
 have h:¬ ((List.range (ks.length+1)).map fun n=>iter f n g).Nodup:=fun nd=>by
  have:=b6 nd (m:=ks) fun x hx=>by
   obtain⟨n,_,rfl⟩:=List.mem_map.mp hx;exact kI hk hg n
  rw[List.length_map,List.length_range]at this;omega
 obtain⟨i,j,hij,x,e1,e2⟩:=oH h;rw[List.getElem?_map]at e1 e2
 have hj:j<ks.length+1:=by
  have:=(List.getElem?_eq_some_iff.mp (show ((List.range (ks.length+1)).map fun n=>iter f n g)[j]? = some x by rw[List.getElem?_map];exact e2)).1;simpa using this
 have hi:i<ks.length+1:=by omega
 rw[List.getElem?_range hi]at e1;rw[List.getElem?_range hj]at e2;have e1':iter f i g=x:=Option.some.inj e1;have e2':iter f j g=x:=Option.some.inj e2;refine⟨j-i,by omega,by omega,?_⟩
 have e3:iter f (i+(j-i)) g=iter f i g:=by rw[show i+(j-i)=j by omega,e2',e1']
 rw[cJ]at e3;exact mQ hf i e3
theorem x9 {f:Int->Int}{g:Int}:∀ (n:Nat),0<n->iter f n g=g->∃ m,0<m/\m<=n/\iter f m g=g/\∀ k,0<k->k<m->iter f k g≠g:=by
 intro n
 induction n using Nat.strongRecOn with
 | _ n ih =>
  intro hn he
  by_cases h:∃ k,0<k/\k<n/\iter f k g=g
  ·obtain⟨k,k0,kn,ke⟩:=h
   obtain⟨m,m0,mk,me,mf⟩:=ih k kn k0 ke;exact⟨m,m0,by omega,me,mf⟩
  ·exact⟨n,hn,Nat.le_refl _,he,fun k k0 kn ke=>h ⟨k,k0,kn,ke⟩⟩
def aB (f:Int->Int)(g:Int)(m:Nat):List Int:=(List.range m).map fun i=>iter f i g
theorem dU {f:Int->Int}(hf:Dz f){g:Int}{m:Nat}(hm:∀ k,0<k->k<m->iter f k g≠g):(aB f g m).Nodup:=by
 cases Classical.em (aB f g m).Nodup with
 | inl h=>exact h
 | inr h =>
  obtain⟨i,j,hij,x,e1,e2⟩:=oH h;unfold aB at e1 e2
  have hj:j<m:=by
   have:=(List.getElem?_eq_some_iff.mp e2).1;simpa using this
  rw[List.getElem?_map,List.getElem?_range (by omega)]at e1;rw[List.getElem?_map,List.getElem?_range hj]at e2;have e1':iter f i g=x:=Option.some.inj e1;have e2':iter f j g=x:=Option.some.inj e2
  have e3:iter f (i+(j-i)) g=iter f i g:=by rw[show i+(j-i)=j by omega,e2',e1']
  rw[cJ]at e3;exact absurd (mQ hf i e3) (hm (j-i) (by omega) (by omega))
theorem kh {f:Int->Int}{g:Int}{m:Nat}(hm:0<m)(he:iter f m g=g){x:Int}(hx:x∈aB f g m):f x∈aB f g m:=by
 unfold aB at hx ⊢;obtain⟨i,hi,rfl⟩:=List.mem_map.mp hx;have hi:=List.mem_range.mp hi
 by_cases h:i+1<m
 ·exact List.mem_map.mpr ⟨i+1,List.mem_range.mpr h,rfl⟩
 ·refine List.mem_map.mpr ⟨0,List.mem_range.mpr hm,?_⟩
  have:i+1=m:=by omega
  rw[<-this]at he;exact he.symm
theorem su (l:List Int):(aZ l).Perm l:=List.mergeSort_perm l _
def cF (f:Int->Int)(g:Int)(m:Nat):Prop:=0<m/\iter f m g=g/\∀ k,0<k->k<m->iter f k g≠g
def j9 (f:Int->Int)(N:Nat)(g:Int):Nat:=((List.range N).find? fun i=>decide (iter f (i+1) g=g)).getD 0+1
def b8 (f:Int->Int)(N:Nat)(g:Int):List Int:=aB f g (j9 f N g)
theorem lG (p:Nat->Bool):∀ (N m:Nat),m<N->p m=true->(∀ k,k<m->p k=false)->(List.range N).find? p=some m
 | 0,m,h,_,_=>by omega
 | N+1,m,h,hm,hk=>by
  rw[List.range_succ,List.find?_append]
  by_cases e:m<N
  ·rw[lG p N m e hm hk];rfl
  ·have e:m=N:=by omega
   subst e;rw[List.find?_eq_none.mpr fun x hx=>by rw[hk x (List.mem_range.mp hx)];simp];simp[hm]
theorem Cw {f:Int->Int}{g:Int}{m N:Nat}(h:cF f g m)(hN:m<=N):j9 f N g=m:=by
 obtain⟨h0,h1,h2⟩:=h;unfold j9;rw[lG _ N (m-1) (by omega) (by rw[show m-1+1=m by omega];exact decide_eq_true h1) fun k hk=>decide_eq_false (h2 (k+1) (by omega) (by omega))];simp;omega
theorem uh {f:Int->Int}(hf:Dz f){K:List Int}(hk:∀ g∈K,f g∈K){g:Int}(hg:g∈K){N:Nat}(hN:K.length<=N):cF f g (j9 f N g):=by
 obtain⟨n,n0,n1,n2⟩:=x4 hf hk hg;obtain⟨m,m0,m1,m2,m3⟩:=x9 n n0 n2;have R:cF f g m:=⟨m0,m2,m3⟩;rw[Cw R (by omega)];exact R
theorem cx {f:Int->Int}{g x:Int}{m:Nat}:x∈aB f g m↔∃ i,i<m/\x=iter f i g:=by
 unfold aB;rw[List.mem_map];constructor
 ·rintro⟨i,hi,rfl⟩;exact⟨i,List.mem_range.mp hi,rfl⟩
 ·rintro⟨i,hi,rfl⟩;exact⟨i,List.mem_range.mpr hi,rfl⟩
theorem pO {f:Int->Int}{S:List Int}(h:∀ x∈S,f x∈S):∀ (n:Nat){x:Int},x∈S->iter f n x∈S
 | 0,_,hx=>hx
 | n+1,_,hx=>h _ (pO h n hx)
theorem yP {f:Int->Int}{g:Int}{m:Nat}(R:cF f g m){S:List Int}(hS:∀ x∈S,f x∈S)(hg:g∉S):∀ x∈aB f g m,x∉S:=fun x hx z=>by
 obtain⟨i,hi,rfl⟩:=cx.mp hx;have:=pO hS (m-i) z;rw[<-cJ,show m-i+i=m by omega,R.2.1]at this;exact hg this
def cY (f:Int->Int)(N:Nat):List Int->List Int->List (List Int)
 | [],_=>[]
 | g::ks,S=>if g∈S then cY f N ks S else b8 f N g::cY f N ks (S++b8 f N g)
theorem bX {f:Int->Int}(hf:Dz f){K:List Int}(hk:∀ g∈K,f g∈K){N:Nat}(hN:K.length<=N):∀ (ks S:List Int),(∀ x∈ks,x∈K)->(∀ x∈S,f x∈S) ->
  (cY f N ks S).flatten.Nodup/\(∀ x∈(cY f N ks S).flatten,x∉S/\x∈K)/\(∀ x∈ks,x∈S\/x∈(cY f N ks S).flatten)/\∀ r∈cY f N ks S,∃ g∈ks,r=b8 f N g/\cF f g (j9 f N g)
 | [],S,_,_=>by simp[cY]
 | g::ks,S,h1,h2=>by
  have hgK:=h1 g List.mem_cons_self;have h1':∀ x∈ks,x∈K:=fun x hx=>h1 x (List.mem_cons_of_mem _ hx);unfold cY
  by_cases hg:g∈S
  ·rw[if_pos hg]
   obtain⟨a,b,c,d⟩:=bX hf hk hN ks S h1' h2;refine⟨a,b,fun x hx=>?_,fun r hr=>?_⟩
   ·rcases List.mem_cons.mp hx with rfl | z
    ·exact .inl hg
    ·exact c x z
   ·obtain⟨q,hq,e⟩:=d r hr
    exact⟨q,List.mem_cons_of_mem _ hq,e⟩
  ·rw[if_neg hg]
   have R:=uh hf hk hgK hN;have ap:=yP R h2 hg;have cl:∀ x∈b8 f N g,f x∈b8 f N g:=fun x hx=>kh R.1 R.2.1 hx
   have inK:∀ x∈b8 f N g,x∈K:=fun x hx=>by
    obtain⟨i,hi,rfl⟩:=cx.mp hx;exact kI hk hgK i
   have g0:g∈b8 f N g:=cx.mpr ⟨0,R.1,rfl⟩
   obtain⟨a,b,c,d⟩:=bX hf hk hN ks (S++b8 f N g) h1' fun x hx=>by
    rcases List.mem_append.mp hx with z | z
    ·exact List.mem_append.mpr (.inl (h2 x z))
    ·exact List.mem_append.mpr (.inr (cl x z))
   rw[List.flatten_cons];refine⟨?_,fun x hx=>?_,fun x hx=>?_,fun r hr=>?_⟩
   ·rw[List.nodup_append]
    exact⟨dU hf R.2.2,a,fun x hx y hy e=>(b y hy).1 (List.mem_append.mpr (.inr (by rw[<-e];exact hx)))⟩
   ·rcases List.mem_append.mp hx with z | z
    ·exact⟨ap x z,inK x z⟩
    ·exact⟨fun q=>(b x z).1 (List.mem_append.mpr (.inl q)),(b x z).2⟩
   ·rcases List.mem_cons.mp hx with rfl | z
    ·exact .inr (List.mem_append.mpr (.inl g0))
    ·rcases c x z with q | q
     ·rcases List.mem_append.mp q with q | q
      ·exact .inl q
      ·exact .inr (List.mem_append.mpr (.inl q))
     ·exact .inr (List.mem_append.mpr (.inr q))
   ·rcases List.mem_cons.mp hr with rfl | z
    ·exact⟨g,List.mem_cons_self,rfl,R⟩
    ·obtain⟨q,hq,e⟩:=d r z
     exact⟨q,List.mem_cons_of_mem _ hq,e⟩
theorem eZ {f:Int->Int}{N:Nat}{g:Int}:(b8 f N g).length=j9 f N g:=by unfold b8 aB;rw[List.length_map,List.length_range]
theorem A5 {f:Int->Int}{N:Nat}{g:Int}(h:f g≠g)(R:cF f g (j9 f N g)):2<=j9 f N g:=by
 have h0:=R.1
 by_cases e:j9 f N g=1
 ·have:=R.2.1
  rw[e]at this;exact absurd this h
 ·omega
theorem Paired.mapP' {α β:Type}{F G:α->β->Prop}:∀ {l₁:List α}{l₂:List β},Paired F l₁ l₂->(∀ a b,a∈l₁->F a b->G a b)->Paired G l₁ l₂
 | _,_,.nil,_=>.nil
 | _,_,.cons e r,h=>.cons (h _ _ List.mem_cons_self e) (Paired.mapP' r fun a b ha=>h a b (List.mem_cons_of_mem _ ha))
structure gR (W:List (Int×Int)):Prop where
 inj:Dz (wr W)
 cl:∀ g∈aq W,wr W g∈aq W
 nd:(aq W).Nodup
theorem iX {W:List (Int×Int)}{g:Int}(h:g∈aq W):look W g=some (wr W g):=by
 obtain⟨m,e⟩:=Option.isSome_iff_exists.mp (bn.mpr h);unfold wr;rw[e];rfl
theorem cw {st:bQ}(G:cZ st):gR st.worn:=by
 refine⟨fun a b e=>?_,fun g hg=>G.ow g _ (iX hg),G.wn⟩
 by_cases ha:a∈aq st.worn
 ·have ea:=iX ha
  by_cases hb:b∈aq st.worn
  ·have eb:=iX hb
   have h1:=(G.wh a _).mp ea;have h2:=(G.wh b _).mp eb;rw[e,h2]at h1;exact (Option.some.inj h1).symm
  ·have:=G.ow a _ ea
   rw[e,sO hb]at this;exact absurd this hb
 ·by_cases hb:b∈aq st.worn
  ·have:=G.ow b _ (iX hb)
   rw[<-e,sO ha]at this;exact absurd this ha
  ·rw[sO ha,sO hb]at e
   exact e
theorem rq (W:List (Int×Int)):(aq W).length=W.length:=by unfold aq;rw[List.length_map]
theorem gR.ring {W:List (Int×Int)}(P:gR W){g:Int}(hg:g∈aq W):cF (wr W) g (j9 (wr W) W.length g):=uh P.inj P.cl hg (by rw[rq];exact Nat.le_refl _)
theorem gR.ord_le {W:List (Int×Int)}(P:gR W){g:Int}(hg:g∈aq W):j9 (wr W) W.length g<=W.length:=by
 have h:=b6 (dU P.inj (P.ring hg).2.2) (m:=aq W) fun x hx=>by
  obtain⟨i,_,rfl⟩:=cx.mp hx;exact kI P.cl hg i
 rw[rq]at h;unfold aB at h
 rwa [List.length_map,List.length_range]at h
def ar (W:List (Int×Int)):List (List Int):=cY (wr W) W.length (aF W) []
theorem gR.wrong {W:List (Int×Int)}(P:gR W):(∀ g∈aF W,g∈aq W/\wr W g≠g)/\(aF W).Nodup/\(∀ g∈aF W,wr W g∈aF W)/\(aF W).length<=W.length:=by
 have m:∀ g,g∈aF W↔g∈aq W/\wr W g≠g:=fun g=>by
  unfold aF;rw[List.mem_filter,(su _).mem_iff];simp
 refine⟨fun g hg=>(m g).mp hg,((su _).nodup_iff.mpr P.nd).filter _,fun g hg=>(m _).mpr ⟨P.cl g ((m g).mp hg).1,fun z=>((m g).mp hg).2 (P.inj _ _ z)⟩,Bz W⟩
theorem lR (f:Int->Int)(g:Int)(i:Nat):aB f g (i+1)=aB f g i++[iter f i g]:=by unfold aB;rw[List.range_succ,List.map_append];rfl
theorem bD (f:Int->Int)(g:Int)(i:Nat):(aB f g i).length=i:=by unfold aB;rw[List.length_map,List.length_range]
def sH (f:Int->Int)(N:Nat)(q:List Int×List (List Int))(g:Int):List Int×List (List Int):=if g∈q.1 then q else (q.1++b8 f N g,q.2++[b8 f N g])
theorem iQ (f:Int->Int)(N:Nat):∀ (ks S:List Int)(rs:List (List Int)),ks.foldl (sH f N) (S,rs)=(S++(cY f N ks S).flatten,rs++cY f N ks S)
 | [],S,rs=>by simp[cY]
 | g::ks,S,rs=>by
  rw[List.foldl_cons];unfold sH cY
  by_cases h:g∈S
  ·rw[if_pos h,if_pos h];exact iQ f N ks S rs
  ·rw[if_neg h,if_neg h]
   have:=iQ f N ks (S++b8 f N g) (rs++[b8 f N g]);unfold sH at this;rw[this,List.flatten_cons];simp
def qR (W:List (Int×Int))(i:Nat):List Int×List (List Int):=((aF W).take i).foldl (sH (wr W) W.length) ([],[])
theorem CU (W:List (Int×Int)){n:Nat}(h:(aF W).length<=n):(qR W n).2=ar W:=by unfold qR;rw[List.take_of_length_le h,iQ];rfl
theorem Eh {W:List (Int×Int)}{i:Nat}{g:Int}(h:(aF W)[i]? = some g):qR W (i+1)=sH (wr W) W.length (qR W i) g:=by unfold qR;rw[List.take_add_one,h,Option.toList_some,List.foldl_append];rfl
theorem EH {W:List (Int×Int)}(P:gR W)(i:Nat):(qR W i).1.Nodup/\(∀ x∈(qR W i).1,x∈aF W)/\(∀ x∈(qR W i).1,wr W x∈(qR W i).1)/\(qR W i).1.length<=W.length/\(qR W i).2.length<=i:=by
 obtain⟨w1,w2,w3,w4⟩:=P.wrong;have sub:∀ x∈(aF W).take i,x∈aF W:=fun x hx=>List.mem_of_mem_take hx;obtain⟨a,b,c,d⟩:=bX P.inj w3 w4 ((aF W).take i) [] sub (fun x h=>by cases h)
 have e:qR W i=((cY (wr W) W.length ((aF W).take i) []).flatten,cY (wr W) W.length ((aF W).take i) []):=by unfold qR;rw[iQ];rfl
 rw[e];refine⟨a,fun x hx=>(b x hx).2,fun x hx=>?_,Nat.le_trans (b6 a fun x hx=>(b x hx).2) w4,?_⟩
 ·obtain⟨r,hr,hxr⟩:=List.mem_flatten.mp hx
  obtain⟨g,_,rfl,R⟩:=d r hr;exact List.mem_flatten.mpr ⟨_,hr,kh R.1 R.2.1 hxr⟩
 ·have:∀ (ks S:List Int),(cY (wr W) W.length ks S).length<=ks.length:=by
   intro ks
   induction ks with
   | nil=>intro S;exact Nat.le_refl _
   | cons g ks ih =>
    intro S;unfold cY;split
    ·exact Nat.le_succ_of_le (ih S)
    ·rw[List.length_cons,List.length_cons]
     have:=ih (S++b8 (wr W) W.length g);omega
  have h1:=this ((aF W).take i) [];rw[List.length_take]at h1
  show (cY (wr W) W.length ((aF W).take i) []).length<=i
  omega
def G5 (H:Hp)(l:Addr)(rs:List (List Int)):Prop:=∃ as:List Addr,H l=some (.lst (as.map V.ref))/\Paired (fun a (r:List Int)=>H a=some (.lst (r.map V.int))) as rs
def nA (c:HX):Sp:=fun vs H Q _=>∃ (p:Addr)(A:HA)(st:bQ),vs=[.ref p]/\aM c.C H p A st/\cZ st/\st.worn.length<64/\(∀ g∈aq st.worn,aV g) /\
 ∀ (l:Addr)(H':Hp),H l=none->ay H H'->H' l=some (.lst ((aF st.worn).map V.int))->Q (.ref l) H'
def qE (c:HX):Sp:=fun vs H Q E=>∃ (p:Addr)(A:HA)(st:bQ)(g:Int),vs=[.ref p,.int g]/\aM c.C H p A st/\cZ st/\st.worn.length<64/\(∀ g∈aq st.worn,aV g)/\aV g /\
 (if (look st.worn g).isSome=true then ∀ (l:Addr)(H':Hp),H l=none->ay H H'->H' l=some (.lst ((b8 (wr st.worn) st.worn.length g).map V.int))->Q (.ref l) H' else ∀ dx H',ay H H'->H' dx=some (.xd [("guest",.int g)])->E (.ref c.cN) (some dx) H')
def f6 (c:HX):Sp:=fun vs H Q _=>∃ (p:Addr)(A:HA)(st:bQ),vs=[.ref p]/\aM c.C H p A st/\cZ st/\st.worn.length<64/\(∀ g∈aq st.worn,aV g) /\
 ∀ (l:Addr)(as:List Addr)(H':Hp),H l=none->ay H H'->H' l=some (.lst (as.map V.ref))->Paired (fun a (r:List Int)=>H' a=some (.lst (r.map V.int))) as (ar st.worn)->(∀ a∈as,H a=none)->Q (.ref l) H'
theorem cO {W:List (Int×Int)}(P:gR W):(ar W).length<=W.length/\∀ r∈ar W,r.length<=W.length:=by
 obtain⟨w1,w2,w3,w4⟩:=P.wrong;have h:=EH P (aF W).length;rw[CU W (Nat.le_refl _)]at h;refine⟨by omega,fun r hr=>?_⟩;obtain⟨g,hg,rfl,R⟩:=(bX P.inj w3 w4 (aF W) [] (fun x h=>h) (fun x h=>by cases h)).2.2.2 r hr;rw[eZ];exact P.ord_le (w1 g hg).1
end Wz
namespace L2
open PySem PySem.Spec PyProof.Rows
theorem BH (xs:List V):gv xs (some 1) none=xs.drop 1:=by
 unfold gv;rw[show HT.sIx xs.length 0 (some 1)=min 1 xs.length from HT.sIx_nat _ _ 1,HT.sIx_none]
 by_cases h:xs=[]
 ·subst h;rfl
 ·have:0<xs.length:=List.length_pos_iff.mpr h
  rw[show min 1 xs.length=1 by omega,List.take_of_length_le (by rw[List.length_drop];omega)]
end L2
namespace Wz
open PySem L2
def fS (r:List Int):List (Int×Int):=(r.drop 1).map fun x=>(r.headD 0,x)
def cu (rs:List (List Int)):List (Int×Int):=rs.flatMap fS
def jB (f:Int->Int)(g:Int):Nat->List (Int×Int)
 | 0=>[]
 | n+1=>jB f g n++[(g,iter f (n+1) g)]
theorem Bo (f:Int->Int)(g:Int)(n:Nat):fS (aB f g (n+1))=jB f g n:=by
 have h0:(aB f g (n+1)).headD 0=g:=by unfold aB;rw[List.range_succ_eq_map];rfl
 unfold fS;rw[h0];clear h0
 induction n with
 | zero=>rfl
 | succ n ih =>
  have e:aB f g (n+1+1)=aB f g (n+1)++[iter f (n+1) g]:=by unfold aB;rw[List.range_succ,List.map_append];rfl
  rw[e,List.drop_append_of_le_length (by unfold aB;rw[List.length_map,List.length_range];omega),List.map_append,ih];rfl
theorem Bm {f h:Int->Int}{g:Int}{m:Nat}(nd:(aB f g (m+1)).Nodup)(hh:∀ i,i<=m->h (iter f i g)=iter f (i+1) g) :
  ∀ n,n<=m->(∀ i,1<=i->i<=n->(jB f g n).foldl aA h (iter f i g)=iter f i g)/\(jB f g n).foldl aA h g=iter f (n+1) g/\(∀ i,n<i->i<=m->(jB f g n).foldl aA h (iter f i g)=iter f (i+1) g)/\∀ x,(∀ i,i<=m->x≠iter f i g)->(jB f g n).foldl aA h x=h x:=by
 have apart:∀ i j,i<=m->j<=m->iter f i g=iter f j g->i=j:=fun i j hi hj e=>by
  have e1:(aB f g (m+1))[i]? = some (iter f i g):=by unfold aB;rw[List.getElem?_map,List.getElem?_range (by omega)];rfl
  have e2:(aB f g (m+1))[j]? = some (iter f i g):=by unfold aB;rw[List.getElem?_map,List.getElem?_range (by omega),e];rfl
  obtain⟨h1,q1⟩:=List.getElem?_eq_some_iff.mp e1;obtain⟨h2,q2⟩:=List.getElem?_eq_some_iff.mp e2;exact (List.getElem_inj nd).mp (q1.trans q2.symm)
 intro n
 induction n with
 | zero =>
  intro _;exact⟨fun i h1 h2=>by omega,hh 0 (Nat.zero_le _),fun i _ hi=>hh i hi,fun x _=>rfl⟩
 | succ n ih =>
  intro hn;obtain⟨i1,i2,i3,i4⟩:=ih (by omega)
  have fold:∀ x,(jB f g (n+1)).foldl aA h x=aA ((jB f g n).foldl aA h) (g,iter f (n+1) g) x:=fun x=>by
   show (jB f g n++[(g,iter f (n+1) g)]).foldl aA h x=_
   rw[List.foldl_append];rfl
  generalize (jB f g n).foldl aA h=F at i1 i2 i3 i4 fold
  have ng:g≠iter f (n+1) g:=fun e=>by have:=apart 0 (n+1) (by omega) hn e;omega
  refine⟨fun i h1 h2=>?_,?_,fun i h1 h2=>?_,fun x hx=>?_⟩
  ·rw[fold]
   unfold aA;dsimp only
   by_cases e:i=n+1
   ·subst e;rw[if_pos rfl,i2]
   ·rw[if_neg fun z=>e (apart i (n+1) (by omega) hn z),if_neg fun z=>by have:=apart i 0 (by omega) (by omega) z;omega]
    exact i1 i h1 (by omega)
  ·rw[fold]
   unfold aA;dsimp only;rw[if_neg ng,if_pos rfl];exact i3 (n+1) (by omega) hn
  ·rw[fold]
   unfold aA;dsimp only;rw[if_neg fun z=>by have:=apart i (n+1) h2 hn z;omega,if_neg fun z=>by have:=apart i 0 h2 (by omega) z;omega];exact i3 i (by omega) h2
  ·rw[fold]
   unfold aA;dsimp only;rw[if_neg (hx (n+1) hn),if_neg (show x≠g from hx 0 (Nat.zero_le _))];exact i4 x hx
theorem Dj (r:List Int):(fS r).length=r.length-1:=by unfold fS;rw[List.length_map,List.length_drop]
theorem mL:∀ (rs:List (List Int)),(∀ r∈rs,0<r.length)->(cu rs).length+rs.length=rs.flatten.length
 | [],_=>rfl
 | r::rs,h=>by
  have ih:=mL rs fun q hq=>h q (List.mem_cons_of_mem _ hq);have h0:=h r List.mem_cons_self
  have e:(cu (r::rs)).length=(r.length-1)+(cu rs).length:=by unfold cu;rw[List.flatMap_cons,List.length_append,Dj]
  rw[e,List.flatten_cons,List.length_append,List.length_cons];omega
theorem nJ {r:List Int}{p:Int×Int}(nd:r.Nodup)(hp:p∈fS r):p.1∈r/\p.2∈r/\p.1≠p.2:=by
 unfold fS at hp;obtain⟨x,hx,rfl⟩:=List.mem_map.mp hp
 cases r with
 | nil=>cases hx
 | cons a r =>
  have hx:x∈r:=hx;refine⟨List.mem_cons_self,List.mem_cons_of_mem _ hx,fun z=>?_⟩;have z:a=x:=z;exact (List.nodup_cons.mp nd).1 (by rw[z];exact hx)
theorem yJ {W:List (Int×Int)}{ps:List (Int×Int)}(h:ps.foldl aA (wr W)=id):aF (kf W ps)=[]:=by
 unfold aF;rw[xQ,h];simp
def lT:Sp:=fun vs H Q _=>∃ (l:Addr)(r:List Int),vs=[.ref l]/\H l=some (.lst (r.map V.int))/\r≠[]/\r.length<=1000/\∀ (l2:Addr)(H':Hp),H l2=none->ay H H'->cp H' l2 (fS r)->Q (.ref l2) H'
theorem wD {f:Int->Int}{g:Int}{m:Nat}(R:cF f g m):∀ n,iter f n g∈aB f g m:=by
 intro n
 induction n with
 | zero=>exact cx.mpr ⟨0,R.1,rfl⟩
 | succ n ih=>exact kh R.1 R.2.1 ih
theorem Db {f:Int->Int}{g g':Int}{m m':Nat}(R:cF f g m)(R':cF f g' m')(h:g∈aB f g' m')(x:Int):x∈aB f g m↔x∈aB f g' m':=by
 obtain⟨j,hj,e⟩:=cx.mp h
 have back:iter f (m'-j) g=g':=by rw[e,<-cJ,show m'-j+j=m' by omega];exact R'.2.1
 constructor
 ·intro z
  obtain⟨i,_,rfl⟩:=cx.mp z;rw[e,<-cJ];exact wD R' _
 ·intro z
  obtain⟨i,_,rfl⟩:=cx.mp z;rw[<-back,<-cJ];exact wD R _
end Wz
namespace L2
open PySem PySem.Spec PyProof.Rows PySem.Calls
section
variable {X:Cx}{pins:List (Addr×Obj)}{σ:St}{H H':Hp}{s:Shared}
end
section
variable {prog:Program}{w:World}{A:Around}{E:Value->Shared->Prop}{s:Shared}
end
end L2
namespace Wz
open PySem L2
end Wz
namespace L2
open PySem PySem.Spec PyProof.Rows
end L2
namespace Wz
open PySem L2
theorem pz {W:List (Int×Int)}{x:Int}(h:x∉aF W):wr W x=x:=by
 by_cases hx:x∈aq W
 ·by_cases e:wr W x=x
  ·exact e
  ·exact absurd (List.mem_filter.mpr ⟨(su _).mem_iff.mpr hx,decide_eq_true e⟩) h
 ·exact sO hx
end Wz
namespace L2
open PySem PySem.Spec PyProof.Rows
end L2
namespace Wz
open PySem L2
end Wz
namespace L2
open PySem PySem.Spec PyProof.Rows
theorem Ap {X:Cx}{pins:List (Addr×Obj)}{σ:St}{H:Hp}{s:Shared}{a:Addr}{v:V}{u r:Value}{A:Around}{E:Value->Shared->Prop}{kvs:List (cm×V)}{k:cm}{Q:Unit->Shared->Prop}(I:aE X pins σ H s)(e:H a=some (.dK kvs))(l:kvs.length<sizeLine)(ry:bi (kV k) u)(rv:bi v r)(h:∀ s',aE X pins σ (upd H a (.dK (fH kvs k v))) s'->Q () s') :
  wpAny (model X.prog X.w) A (dictSet a u r) Q E s:=by
 obtain⟨z,hd,vs,rel,dd⟩:=zw I.hok e
 have hz:vs.length<=sizeLine:=by rw[<-rel.length];exact z
 have hl:(fH kvs k v).length<=sizeLine:=by have:=gX kvs k v;omega
 refine wpAny_dictSet_pairs (hsz:=hz) (mR ry) dd fun h' dd' hs=>h _ ?_;have he:∃ q,h'.get? a=some q:=let ⟨q,_,_,hq,_⟩:=dd';⟨q,hq⟩;exact mI I (by rw[e];exact True.intro) hs he (uM hl hd (rel.put k rv) dd')
theorem jF {prog:Program}{w:World}{A:Around}{R:Result->Shared->Prop}{s:Shared}{kx vx target iter:Expr}{ifs:List Expr}{scope:Scope}{pos:Pos}{it:Value}{acc:Addr}{env:Env}(I:Nat->Shared->Prop)
  (turn:∀ n s,I n s->wpAny (model prog w) A (pyNext it) (fun r s₁=>match r with
   | none=>R (.ok .next) s₁
   | some v=>wpAny (model prog w) A (letOwnedTupleGo target it v) (fun _ s₁'=>wpAny (model prog w) A (assign target env v) (fun _ s₂ =>
     wpAny (model prog w) A (forIn ifs true fun c r=>if r=true then do let ok <-isTrue c env (eval c env);pure (ForInStep.yield ok) else pure (ForInStep.yield r)) (fun ok s₃ =>
      if ok=true then wpAny (model prog w) A (eval kx env) (fun kv s₄=>wpAny (model prog w) A (eval vx env) (fun vv s₅ =>
       wpAny (model prog w) A (dictSet acc kv vv) (fun _ s₆=>∃ m,m<n/\I m s₆) (fun _ _=>False) s₅) (fun _ _=>False) s₄) (fun _ _=>False) s₃
      else ∃ m,m<n/\I m s₃) (fun _ _=>False) s₂) (fun _ _=>False) s₁') (fun _ _=>False) s₁) (fun _ _=>False) s)
  (n:Nat) (h:I n s) :
  codeAny (model prog w) A (.compLoop (.DictComp kx vx [⟨target,iter,ifs,0⟩] scope pos) 0 it (.ref acc) env) R s:=by
 refine codeAny_loop rfl I (fun n s hI=>?_) n h
 show wpAny _ A ((compTurn (.DictComp kx vx [⟨target,iter,ifs,0⟩] scope pos) 0 it (.ref acc) env).onRaise (fun x=>do noteFrame x env;theTreesLotGoes x)) _ _ s
 refine wpAny_noted ?_;rw[compTurn_dict];refine wpAny_bind (wpAny_standAt (wpAny_bind (wpAny_mono (turn n s hI) (fun r s₁ h₁=>?_) fun _ _ h'=>h'.elim)))
 cases r with
 | none=>exact wpAny_pure h₁
 | some v =>
  refine wpAny_bind (wpAny_mono h₁ (fun _ s₁' h₁'=>?_) fun _ _ h'=>h'.elim);refine wpAny_bind (wpAny_mono h₁' (fun _ s₂ h₂=>wpAny_bind (wpAny_mono h₂ (fun ok s₃ h₃=>?_) fun _ _ h'=>h'.elim)) fun _ _ h'=>h'.elim)
  cases ok with
  | false=>exact wpAny_pure ⟨rfl,h₃⟩
  | true =>
   exact wpAny_bind (wpAny_bind (wpAny_mono h₃ (fun kv s₄ h₄=>wpAny_bind (wpAny_holding (wpAny_mono h₄ (fun vv s₅ h₅=>wpAny_bind (wpAny_standAt (wpAny_holding (wpAny_mono h₅ (fun _ s₆ h₆=>wpAny_pure ⟨rfl,h₆⟩) fun _ _ h'=>h'.elim)))) fun _ _ h'=>h'.elim))) fun _ _ h'=>h'.elim))
def HL (tt:TT)(tk tv:TE)(a:Addr):TS:=fun D σ H=>tt σ H fun b H1=>if b=true then tk σ H1 fun y H2=>tv σ H2 fun z H3=>∃ kvs k,H3 a=some (.dK kvs)/\y=kV k/\kvs.length<sizeLine/\D.nx σ (upd H3 a (.dK (fH kvs k z))) else D.nx σ H1
def FE (wi:TI)(g:TG)(tt:TT)(tk tv:TE)(src:List (Option Nat)):TE:=fun σ H Q=>wi σ H fun J H1=>∀ a,H1 a=none ->
 jP J g (HL tt tk tv a) { nx:=fun _ H'=>Q (.ref a) H',rt:=fun _ _=>False } (iN src σ) (upd H1 a (.dK []))
theorem CG {X:Cx}{kx vx tg iter:Expr}{ifs:List Expr}{sc so:Scope}{pos:Pos}{N':List Str}{src:List (Option Nat)}{wi:TI}{g:TG}{tt:TT}{tk tv:TE}{N:List Str}(hso:X.env.scope=so)(hXN:X.N=N)(S:tQ so sc N N' src)(hc:X.calm=true)(hi:PI X tg iter wi)
  (hb:∀ (cl:List (Str×Addr))(C:Addr)(s:Shared)(H:Hp)(ex:List Addr),PG (cz X sc cl C N' s H ex) tg g/\Ex (cz X sc cl C N' s H ex) ifs tt/\PE (cz X sc cl C N' s H ex) kx tk/\PE (cz X sc cl C N' s H ex) vx tv)
  (hs:∀ x,foldedSetIterable iter X.env x=pure x:=by intro _;rfl):PE X (.DictComp kx vx [⟨tg,iter,ifs,0⟩] sc pos) (FE wi g tt tk tv src):=by
 subst hXN;intro pins s σ H Q I h
 obtain⟨cl,hcl,q1,q3⟩:=iM (sc:=sc) (env:=X.env) fun y hy hf=>by
  have:=S.fre y hy hf;rw[<-hso]at this;exact I.ok.has y.1 this
 rw[arm_eval_DictComp];refine wpAny_comprehension_free (use:=none) rfl hs hcl S.kind S.loc (bA (hi pins s σ H _ I h) fun v s1 h1=>bA h1 fun itv s2 h2=>?_);obtain⟨it,fp,tn,J,H2,e,I2,T,st2,f2,hR⟩:=h2;subst e;refine wpAny_newObj_type ?_
 have I3:aE X pins σ (upd H2 s2.heap.objs.size (.dK [])) { s2 with heap:=s2.heap.push { cls:=.type "dict",dict:=none,data:=.dict #[] } } :=
  I2.laid (t':=s2.toks) (fun b u q=>Heap.get?_push_of_some _ q) (Nat.le_refl _) (wv s2.heap I2.big)
 have hfr:=I2.hok.fresh (Nat.le_refl s2.heap.objs.size);obtain⟨W,⟨m0,w0⟩,turn⟩:=hR _ hfr
 have flt:∀ b∈fp,b<s2.heap.objs.size:=fun b hb=>by obtain⟨o,e,_⟩:=T.obj _ _ st2 b hb;exact Heap.lt_size e
 generalize hs3:({ s2 with heap:=s2.heap.push { cls:=.type "dict",dict:=none,data:=.dict #[] } }:Shared)=s3 at I3 ⊢
 have e3:s3.heap=s2.heap.push { cls:=.type "dict",dict:=none,data:=.dict #[] }:=by rw[<-hs3]
 have sz3:s3.heap.objs.size=s2.heap.objs.size+1:=by rw[e3,Heap.size_push]
 have hf3:∀ b∈fp,hW X pins (upd H2 s2.heap.objs.size (.dK [])) b:=fun b hb=>⟨by rw[af (Nat.ne_of_lt (flt b hb))];exact (f2 b hb).1,(f2 b hb).2⟩
 have flt3:∀ b∈fp,b<s3.heap.objs.size:=fun b hb=>by rw[sz3];exact Nat.lt_succ_of_lt (flt b hb)
 have st3:tn 0 s3.heap:=T.keep _ _ _ st2 fun b _ o e=>by rw[e3];exact Heap.get?_push_of_some _ e
 refine wpAny_newFunctionEnv S.nocell (by intro y hy;simp at hy) (fun h4 hns4 hsb4=>?_) S.kind;have kp4:∀ b o,s3.heap.get? b=some o->h4.get? b=some o:=fun b o e=>hsb4.extBut b o (Nat.ne_of_lt (Heap.lt_size e)) (Heap.get?_push_of_some _ e);have I4:=mP (h':=h4) I3 hso S q1 q3 hf3 flt3 (by simpa using hns4) kp4 (s3.toks+([]:List (Str×Value)).length);have st4:tn 0 h4:=T.keep _ _ _ st3 fun b _ o e=>kp4 b o e;generalize hC:s3.heap.objs.size=C at I4 hns4 hsb4 ⊢;obtain⟨hg,ht,hek,hev⟩:=hb cl C s3 (upd H2 s2.heap.objs.size (.dK [])) fp
 let Y:Cx:=cz X sc cl C N' s3 (upd H2 s2.heap.objs.size (.dK [])) fp
 have loop:∀ s5:Shared,s5={ s3 with heap:=h4,toks:=s3.toks+([]:List (Str×Value)).length }->codeAny (model X.prog X.w) X.A (.compLoop (.DictComp kx vx [⟨tg,iter,ifs,0⟩] sc pos) 0 (.ref it) (.ref s2.heap.objs.size) (compEnvC sc cl C X.env))
   (compPost (model X.prog X.w) X.A X.xe none (EP X pins σ Q) (.ref s2.heap.objs.size) C) s5:=by
  rintro s5 rfl
  have stat:∀ {H':Hp},(∀ b∈fp,H' b=none)->∀ b∈fp,hW Y [] H' b:=fun {H'} hn b hb=>by
   obtain⟨f0,f1,f2',f3,f4,f5⟩:=hf3 b hb;refine⟨hn b hb,?_,fun z=>?_,.inl hb,fun x c e=>f4 x c (q1 x c e),fun p hp=>absurd (show p∈([]:List (Addr×Obj)) from hp) (by simp)⟩
   ·show b≠C
    rw[<-hC];exact Nat.ne_of_lt (flt3 b hb)
   ·have z:b∈iR X.stack:=z
    rcases List.mem_cons.mp (I3.stkSub b z) with y | y
    ·exact f1 y
    ·exact f2' y
  refine jF (fun n s'=>∃ i σ' H',aE Y [] σ' H' s'/\tn i s'.heap/\(∀ b∈fp,H' b=none)/\W i n σ' H') ?_ m0 ⟨0,_,_,I4,st4,fun b hb=>(hf3 b hb).1,w0⟩;rintro n s6 ⟨i,σ6,H6,I6,st6,fr6,w6⟩;rcases turn i n σ6 H6 w6 with ⟨stop,qn⟩ | ⟨go,Nx,hN,step⟩
  ·refine bA (T.done Y rfl rfl rfl hc i [] s6 σ6 H6 _ I6 (stat fr6) st6 stop) fun r s7 ⟨hr,I7⟩=>?_
   subst hr;obtain⟨m,hn,_⟩:=id I7.loc;refine⟨m,hn,fun h' hsb=>?_⟩
   have neC:∀ b o,s3.heap.get? b=some o->b≠C:=fun b o e=>by rw[<-hC];exact Nat.ne_of_lt (Heap.lt_size e)
   have freeC:H6 C=none:=I7.free
   have un:Un (iR X.stack) fp (upd H2 s2.heap.objs.size (.dK [])) H6 s3.heap h' :=
    ⟨fun b o e n hb hx=>(hsb.2 b (neC b o e)).trans (I7.base.keep b o e n hb hx),fun b o e n hb hx=>by
      obtain⟨sl,q⟩:=I7.base.slot b o e n hb hx
      exact⟨sl,(hsb.2 b (neC b o e)).trans q⟩,I7.base.free,fun b o e hx=>by
      obtain⟨o',q⟩:=I7.base.there b o e hx
      exact⟨o',(hsb.2 b (neC b o e)).trans q⟩,I7.base.tups,I7.base.frzs,I7.base.tbls⟩
   have hok:jz X.prog X.w H6 h':=fun b ob e=>by
    refine (I7.hok b ob e).stay (fun c w' hc' q=>(hsb.2 c ?_).trans q) (fun _ q=>q) fun _ _ q=>q;rintro rfl;rcases hc' with z | z
    ·rw[<-z,freeC]at e;cases e
    ·rw[freeC]at z;cases z
   have J7:aE X pins σ H6 { s7 with heap:=h' }:=I3.call' (ch:=fp) (s':={ s7 with heap:=h' }) I7.os un hok I7.bare fun b hb=>⟨(hf3 b hb).2.2.2.1,(hf3 b hb).2.1,(hf3 b hb).2.2.2.2.1,(hf3 b hb).2.2.2.2.2⟩;exact⟨.ref s2.heap.objs.size,H6,J7,rfl,qn⟩
  ·refine bA (T.item Y rfl rfl rfl hc i [] s6 σ6 H6 _ I6 (stat fr6) st6 go) fun r s7 ⟨u,hr,h7⟩=>?_
   subst hr;refine bA h7 fun _ s8 ⟨x,H8,I8,r8,y8,st8,fr8⟩=>?_;have I8':=I8.pinned (stat fr8) (T.obj _ _ st8);refine bA (hg _ s8 σ6 H8 x u _ I8' r8 (step x H8 y8)) fun _ s9 ⟨σ9,H9,I9,q9⟩=>?_
   have again:∀ {s':Shared}{σ7:St}{H7:Hp},aE Y ([]++i9 fp s8.heap) σ7 H7 s'->Nx σ7 H7->∃ m,m<n/\∃ i σ' H',aE Y [] σ' H' s'/\tn i s'.heap/\(∀ b∈fp,H' b=none)/\W i m σ' H':=fun {s' σ7 H7} I7 n7=>by
    obtain⟨m',hm,w7⟩:=hN σ7 H7 n7;refine⟨m',hm,i+1,σ7,H7,I7.unpinned,T.keep _ _ _ st8 fun b hb o e=>(I7.pin (b,o) (List.mem_append_right _ (List.mem_append_right _ (bT hb e)))).1,fun b hb=>?_,w7⟩;obtain⟨o,e,d⟩:=T.obj _ _ st8 b hb;exact (I7.pin (b,o) (List.mem_append_right _ (List.mem_append_right _ (bT hb e)))).2.1
   refine bA (ht _ s9 σ9 H9 _ I9 q9) fun ok s10 ⟨H10,I10,q10⟩=>?_
   cases ok with
   | false =>
    rw[if_neg Bool.false_ne_true]at q10 ⊢;exact again I10 q10
   | true =>
    rw[if_pos rfl]at q10 ⊢;refine bA (hek _ s10 σ9 H10 _ I10 q10) fun kv s11 ⟨y,H11,I11,ry,q11⟩=>?_;refine bA (hev _ s11 σ9 H11 _ I11 q11) fun vv s12 ⟨z,H12,I12,rz,kvs,kk,hkv,ey,hlen,q12⟩=>?_;subst ey;exact Ap (X:=Y) I12 hkv hlen ry rz fun s13 I13=>again I13 q12
 exact codeAny_compStart_dict (loop _ rfl) (T.self _ 0 _ _ _ st4 (loop _ rfl))
open PySem
theorem Er {tk tv:TE}{a:Addr}{D:jE}{σ:St}{H:Hp}(h:tk σ H fun y H2=>tv σ H2 fun z H3=>∃ kvs k,H3 a=some (.dK kvs)/\y=kV k/\kvs.length<sizeLine/\D.nx σ (upd H3 a (.dK (fH kvs k z)))):HL tO tk tv a D σ H:=by
 unfold HL tO;dsimp only;rw[if_pos rfl];exact h
end L2
namespace Wz
open PySem L2
theorem zz {f:Int->Bool}:∀ {r:List Int}{i:Nat}{g:Int},(∀ x∈r.take i,f x=false)->r[i]? = some g->f g=true->r.find? f=some g
 | [],_,_,_,h,_=>by simp at h
 | x::r,0,g,_,h,hg=>by simp at h;subst h;rw[List.find?_cons,hg]
 | x::r,i+1,g,h0,h,hg=>by
  rw[List.find?_cons,h0 x (by simp)];exact zz (fun y hy=>h0 y (by rw[List.take_succ_cons];exact List.mem_cons_of_mem _ hy)) (by simpa using h) hg
theorem qQ:∀ (r ks:List Int)(y:Int),y∈r.foldl eQ ks↔y∈ks\/y∈r
 | [],ks,y=>by simp
 | x::r,ks,y=>by
  rw[List.foldl_cons,qQ r];unfold eQ;split
  ·rename_i h
   constructor
   ·rintro (z | z)
    ·exact .inl z
    ·exact .inr (List.mem_cons_of_mem _ z)
   ·rintro (z | z)
    ·exact .inl z
    ·rcases List.mem_cons.mp z with z | z
     ·rw[z];exact .inl h
     ·exact .inr z
  ·rw[List.mem_append,List.mem_singleton,List.mem_cons,or_assoc]
theorem qP:∀ (r ks:List Int),(r.foldl eQ ks).length<=ks.length+r.length
 | [],ks=>by simp
 | x::r,ks=>by
  have:=qP r (eQ ks x)
  have h:(eQ ks x).length<=ks.length+1:=by unfold eQ;split<;>simp
  rw[List.foldl_cons,List.length_cons];omega
def e7 (circ:List (Int×List Int))(r:List Int)(g:Int):Bool:=(aZ (cD circ g)).any fun p=>decide (p∈r)
def cU (circ:List (Int×List Int))(r:List Int):Option Int:=r.find? fun g=>!e7 circ r g
def ur (ml:List (Int×Int))(r:List Int)(h:Int):Bool:=(r.filter fun g=>decide (g≠h)).any fun g=>iY ml h g
theorem Ck {ml:List (Int×Int)}(ok:p8 ml)(g:Int):iY ml g g=false:=by
 unfold iY bW;rw[if_neg (by omega)]
 exact decide_eq_false fun z=>by have:=ok.lo _ z;dsimp only at this;omega
theorem wJ {st:bQ}{ml:List (Int×Int)}(al:gS st ml)(ok:p8 ml)(r:List Int)(g:Int):e7 st.circ r g=ur ml r g:=by
 have key:e7 st.circ r g=true↔ur ml r g=true:=by
  unfold e7 ur;rw[List.any_eq_true,List.any_eq_true];constructor
  ·rintro⟨p,hp,hr⟩
   have hm:iY ml g p=true:=by rw[<-al g p];exact decide_eq_true (gj.mp hp)
   refine⟨p,List.mem_filter.mpr ⟨of_decide_eq_true hr,decide_eq_true fun z=>?_⟩,hm⟩;rw[z,Ck ok]at hm;cases hm
  ·rintro⟨p,hp,hm⟩
   have hm:cC st.circ g p=true:=by rw[al g p];exact hm
   exact⟨p,gj.mpr (of_decide_eq_true hm),decide_eq_true (List.mem_filter.mp hp).1⟩
 cases h1:e7 st.circ r g<;>cases h2:ur ml r g
 ·rfl
 ·rw[key.mpr h2]at h1;cases h1
 ·rw[key.mp h1]at h2;cases h2
 ·rfl
def gE (r:List Int)(i:Nat):Int:=(r[if i=0 then r.length-1 else i-1]?).getD 0
def gW (r:List Int)(i:Nat):Int:=(r[i]?).getD 0
def br (circ:List (Int×List Int))(r:List Int):Option Nat:=(List.range r.length).find? fun i=>!cC circ (gE r i) (gW r i)
def D5:Option Int->V
 | some g=>.int g
 | none=>.non
def nv (c:HX):Sp:=fun vs H Q _=>∃ (p l:Addr)(A:HA)(st:bQ)(L r:List Int),vs=[.ref p,.ref l]/\aM c.C H p A st/\H l=some (.lst (r.map V.int))/\r.length<=64/\sQ L st/\L.length<64/\∀ H',ay H H'->Q (D5 (cU st.circ r)) H'
def qD (c:HX):Sp:=fun vs H Q _=>∃ (p l:Addr)(A:HA)(st:bQ)(r:List Int),vs=[.ref p,.ref l]/\aM c.C H p A st/\H l=some (.lst (r.map V.int))/\r.length<=64 /\
 match br st.circ r with
 | none=>∀ H',ay H H'->Q .non H'
 | some i=>∀ l' H',H l'=none->ay H H'->H' l'=some (.lst ((r.drop i++r.take i).map V.int))->Q (.ref l') H'
theorem BJ (xs:List V)(n:Nat):gv xs (some (n:Int)) none=xs.drop n:=by
 unfold gv;rw[HT.sIx_nat,HT.sIx_none]
 by_cases h:n<=xs.length
 ·rw[Nat.min_eq_left h,List.take_of_length_le (by rw[List.length_drop];exact Nat.le_refl _)]
 ·rw[Nat.min_eq_right (by omega),List.drop_length,List.drop_of_length_le (by omega)];simp
theorem Ee {r:List Int}{i:Nat}(h:i<r.length):xU (r.map V.int) ((i:Int)-1)=some (V.int (gE r i)):=by
 by_cases h0:i=0
 ·subst h0
  have e:r=r.dropLast++[r.getLast (by intro z;rw[z]at h;simp at h)]:=(List.dropLast_concat_getLast _).symm
  have hl:gE r 0=r.getLast (by intro z;rw[z]at h;simp at h):=by
   unfold gE;rw[if_pos rfl,<-List.getLast?_eq_getElem?,List.getLast?_eq_some_getLast];rfl
  rw[hl]
  have:r.map V.int=r.dropLast.map V.int++[V.int (r.getLast (by intro z;rw[z]at h;simp at h))]:=by
   have:=congrArg (List.map V.int) e;rw[List.map_append]at this;exact this
  rw[this];exact mF _ _
 ·rw[show (i:Int)-1=((i-1:Nat):Int) by omega]
  refine fT ?_;unfold gE;rw[if_neg h0,List.getElem?_map,List.getElem?_eq_getElem (by omega)];rfl
theorem DP {r:List Int}{i:Nat}(h:i<r.length):xU (r.map V.int) (i:Int)=some (V.int (gW r i)):=by
 refine fT ?_;unfold gW;rw[List.getElem?_map,List.getElem?_eq_getElem h];rfl
theorem BR {f:Nat->Bool}{n i:Nat}(h:i<n)(h0:∀ x,x<i->f x=false)(hf:f i=true):(List.range n).find? f=some i:=lG f n i h hf h0
def Dh (c:HX)(f:bQ->List Int->Bool):Sp:=fun vs H Q _=>∃ (p:Addr)(A:HA)(st:bQ)(L:List Int),vs=[.ref p]/\aM c.C H p A st/\cZ st/\st.worn.length<64/\(∀ g∈aq st.worn,aV g)/\sQ L st/\L.length<64 /\
 ∀ (l:Addr)(as:List Addr)(H':Hp),H l=none->ay H H'->H' l=some (.lst (as.map V.ref))->Paired (fun a (r:List Int)=>H' a=some (.lst (r.map V.int))) as ((ar st.worn).filter fun r=>f st r)->(∀ a∈as,H a=none)->Q (.ref l) H'
def kQ (c:HX):Sp:=Dh c fun st r=>(cU st.circ r).isNone
def nE (c:HX):Sp:=Dh c fun st r=>(br st.circ r).isNone
theorem Aw {K:PySem.W.Frag}{tt:TT}{Qf:Hp->Prop}{lr q:Addr}{as:List Addr}{rs:List (List Int)}{f:List Int->Bool}{rest:St}{H:Hp}(hq:H q=none)(h1:H lr=some (.lst (as.map V.ref)))(pa:Paired (fun a (r:List Int)=>H a=some (.lst (r.map V.int))) as rs)(hlen:as.length<=64)
  (ht:∀ (a:Addr)(r:List Int)(HK:Hp)(Q':Bool->Hp->Prop),r∈rs->ay H HK->HK a=some (.lst (r.map V.int))->(∀ H5,ay HK H5->Q' (f r) H5)->tt (some (.ref a)::rest) HK Q')
  (k:∀ (bs:List Addr)(HK:Hp),ay H HK->HK q=some (.lst (bs.map V.ref))->Paired (fun a (r:List Int)=>HK a=some (.lst (r.map V.int))) bs (rs.filter f)->(∀ b∈bs,b∈as)->Qf HK) :
  jP (DA K lr) (mJ 0) (BB tt (Bp 0) q) { nx:=fun _ H'=>Qf H',rt:=fun _ _=>False } (none::rest) (upd H q (.lst [])):=by
 have hpl:=Paired.length pa
 have noq:∀ b∈as,b≠q:=fun b hb z=>by
  obtain⟨j,hj⟩:=List.getElem?_of_mem hb;obtain⟨r',_,e⟩:=aU pa hj;rw[z,hq]at e;cases e
 refine bd (K:=K) (a:=lr) (xs:=as.map V.ref) (fun i σ HK=>∃ (v:Option V)(bs:List Addr),σ=v::rest/\ay H HK/\HK q=some (.lst (bs.map V.ref))/\Paired (fun a (r:List Int)=>HK a=some (.lst (r.map V.int))) bs ((rs.take i).filter f)/\(∀ b∈bs,b∈as)/\bs.length<=i)
  ⟨none,[],rfl,aj hq,ae,.nil,(fun b h=>nomatch h),Nat.le_refl _⟩ (fun i σ HK _ ⟨_,_,_,s2,_⟩=>aW.of (s2 _ _ h1)) ?_ ?_
 ·rintro i y σ HK hi ⟨v,bs,rfl,t1,hq2,pb,sub,bl⟩
  obtain⟨a,ha,rfl⟩:=bo hi;have hil:i<as.length:=(List.getElem?_eq_some_iff.mp ha).1;obtain⟨r,hr0,hA⟩:=aU pa ha
  have ex:(rs.take (i+1)).filter f=(rs.take i).filter f++[r].filter f:=by rw[List.take_add_one,hr0,Option.toList_some,List.filter_append]
  refine pj (ht a r HK _ (List.mem_of_getElem? hr0) t1 (t1 _ _ hA) fun H5 s5=>?_)
  cases e:f r with
  | true =>
   rw[if_pos rfl];refine⟨_,rfl,_,s5 _ _ hq2,by rw[List.length_map];exact aD (by omega),_,bs++[a],rfl,aY (t1.trans s5) hq,by rw[ae,List.map_append];rfl,?_,fun b hb=>?_,by rw[List.length_append,List.length_singleton];omega⟩
   ·rw[ex,show [r].filter f=[r] by simp[e]]
    exact aI (Wz.Paired.mapP' pb fun b z hb e=>by rw[af (noq b (sub b hb))];exact s5 _ _ e) (.cons (by rw[af (noq a (List.mem_of_getElem? ha))];exact s5 _ _ (t1 _ _ hA)) .nil)
   ·rcases List.mem_append.mp hb with z | z
    ·exact sub b z
    ·rw[List.mem_singleton.mp z];exact List.mem_of_getElem? ha
  | false =>
   rw[if_neg Bool.false_ne_true];exact⟨_,bs,rfl,t1.trans s5,s5 _ _ hq2,by rw[ex,show [r].filter f=[] by simp[e],List.append_nil];exact Paired.mapP pb fun b z e=>s5 _ _ e,sub,by omega⟩
 ·rintro σ HK ⟨v,bs,rfl,t1,hq2,pb,sub,bl⟩
  rw[List.length_map,hpl,List.take_length]at pb;exact k bs HK t1 hq2 pb sub
theorem oq {f:Int->Int}(hf:Dz f):∀ (rs:List (List Int))(S:List Int)(h:Int->Int),(∀ r∈rs,∃ g m,r=aB f g m/\cF f g m)->rs.flatten.Nodup->(∀ x∈rs.flatten,x∉S)->(∀ x,h x=if x∈S then x else f x) ->
  ∀ x,(cu rs).foldl aA h x=if x∈S\/x∈rs.flatten then x else f x
 | [],S,h,_,_,_,hh=>fun x=>by simp[cu];rw[hh]
 | r::rs,S,h,h1,nd,ap,hh=>fun x=>by
  obtain⟨g,m,rfl,R⟩:=h1 r List.mem_cons_self;rw[List.flatten_cons]at nd ap;obtain⟨nd1,nd2,nd3⟩:=List.nodup_append.mp nd
  have sh:cu (aB f g m::rs)=fS (aB f g m)++cu rs:=by unfold cu;rw[List.flatMap_cons]
  rw[sh,List.foldl_append]
  rw[oq hf rs (S++aB f g m) _ (fun r hr=>h1 r (List.mem_cons_of_mem _ hr)) nd2 (fun x hx z=>by
   rcases List.mem_append.mp z with z | z
   ·exact ap x (List.mem_append.mpr (.inr hx)) z
   ·exact nd3 x z x hx rfl) (fun x=>?_) x]
  ·rw[List.flatten_cons]
   by_cases q1:x∈S
   ·simp[q1]
   ·by_cases q2:x∈aB f g m
    ·simp[q2]
    ·simp[q1,q2]
  ·have m0:=R.1
   have eo:m=m-1+1:=by omega
   have ec:fS (aB f g m)=jB f g (m-1):=by rw[eo];exact Bo f g _
   have nd':=dU hf R.2.2;rw[eo]at nd';obtain⟨c1,c2,_,c3⟩:=Bm (h:=h) nd' (fun i hi=>by rw[hh,if_neg (ap _ (List.mem_append.mpr (.inl (cx.mpr ⟨i,by omega,rfl⟩))))];rfl) _ (Nat.le_refl _);rw[ec]
   by_cases q2:x∈aB f g m
   ·rw[if_pos (List.mem_append.mpr (.inr q2))]
    obtain⟨i,hi,rfl⟩:=cx.mp q2
    by_cases hi0:i=0
    ·subst hi0
     show (jB f g (m-1)).foldl aA h g=g
     rw[c2];have r2:=R.2.1;rw[eo]at r2;exact r2
    ·exact c1 i (by omega) (by omega)
   ·have n2:∀ i,i<=m-1->x≠iter f i g:=fun i hi e=>q2 (cx.mpr ⟨i,by omega,e⟩)
    rw[c3 x n2,hh];simp[q2]
def r6 (W:List (Int×Int))(ch:List Int->Int):List (List Int):=(ar W).map fun r=>b8 (wr W) W.length (ch r)
theorem fP {W:List (Int×Int)}(P:gR W){r:List Int}(hr:r∈ar W){c:Int}(hc:c∈r):(b8 (wr W) W.length c).Perm r/\cF (wr W) c (j9 (wr W) W.length c):=by
 obtain⟨w1,w2,w3,w4⟩:=P.wrong;obtain⟨g,hg,rfl,R⟩:=(bX P.inj w3 w4 (aF W) [] (fun x h=>h) (fun x h=>by cases h)).2.2.2 r hr;have gk:=(w1 g hg).1
 have ck:c∈aq W:=by obtain⟨i,_,rfl⟩:=cx.mp hc;exact kI P.cl gk i
 have Rc:=P.ring ck;refine⟨(List.perm_ext_iff_of_nodup (dU P.inj Rc.2.2) (dU P.inj R.2.2)).mpr fun x=>Db Rc R hc x,Rc⟩
theorem gA {rs:List (List Int)}{φ:List Int->List Int}(h:∀ r∈rs,(φ r).Perm r):(rs.map φ).flatten.Perm rs.flatten:=by
 induction rs with
 | nil=>exact List.Perm.refl _
 | cons r rs ih =>
  rw[List.map_cons,List.flatten_cons,List.flatten_cons];exact (h r List.mem_cons_self).append (ih fun q hq=>h q (List.mem_cons_of_mem _ hq))
theorem gR.rot {W:List (Int×Int)}(P:gR W){ch:List Int->Int}(hc:∀ r∈ar W,ch r∈r) :
  (cu (r6 W ch)).length+(ar W).length=(ar W).flatten.length/\(∀ p∈cu (r6 W ch),∃ r∈ar W,p.1=ch r/\p.2∈r/\p.1∈r/\p.1≠p.2/\p.1∈aq W/\p.2∈aq W)/\(cu (r6 W ch)).foldl aA (wr W)=id:=by
 obtain⟨w1,w2,w3,w4⟩:=P.wrong;obtain⟨a,b,c,d⟩:=bX P.inj w3 w4 (aF W) [] (fun x h=>h) (fun x h=>by cases h);have mem:∀ x,x∈(ar W).flatten↔x∈aF W:=fun x=>⟨fun z=>(b x z).2,fun z=>(c x z).elim (fun q=>by cases q) id⟩;have pf:(r6 W ch).flatten.Perm (ar W).flatten:=gA fun r hr=>(fP P hr (hc r hr)).1;refine⟨?_,fun p hp=>?_,?_⟩
 ·have h:=mL (r6 W ch) fun r hr=>by
   obtain⟨r0,h0,rfl⟩:=List.mem_map.mp hr;rw[eZ];exact (fP P h0 (hc r0 h0)).2.1
  rw[show (r6 W ch).length=(ar W).length by unfold r6;rw[List.length_map],pf.length_eq]at h;exact h
 ·unfold cu at hp
  obtain⟨r,hr,hpr⟩:=List.mem_flatMap.mp hp;obtain⟨r0,h0,rfl⟩:=List.mem_map.mp hr;obtain⟨pr,R⟩:=fP P h0 (hc r0 h0);obtain⟨h1,h2,h3⟩:=nJ (dU P.inj R.2.2) hpr
  have hd:p.1=ch r0:=by
   unfold fS at hpr;obtain⟨y,_,rfl⟩:=List.mem_map.mp hpr
   show (b8 (wr W) W.length (ch r0)).headD 0=ch r0
   have m0:=R.1;unfold b8 aB;rw[show j9 (wr W) W.length (ch r0)=j9 (wr W) W.length (ch r0)-1+1 by omega,List.range_succ_eq_map];rfl
  have inK:∀ x∈r0,x∈aq W:=fun x hx=>(w1 x ((mem x).mp (List.mem_flatten.mpr ⟨r0,h0,hx⟩))).1;have q1:=pr.mem_iff.mp h1;have q2:=pr.mem_iff.mp h2;exact⟨r0,h0,hd,q2,q1,h3,inK _ q1,inK _ q2⟩
 ·funext x
  have:=oq P.inj (r6 W ch) [] (wr W) (fun r hr=>by
   obtain⟨r0,h0,rfl⟩:=List.mem_map.mp hr
   exact⟨_,_,rfl,(fP P h0 (hc r0 h0)).2⟩) (pf.nodup_iff.mpr a) (fun x _ h=>by cases h) (fun x=>by simp) x
  rw[this]
  by_cases hx:x∈aF W
  ·rw[if_pos (.inr (pf.mem_iff.mpr ((mem x).mpr hx)))];rfl
  ·rw[if_neg (by rintro (z | z);cases z;exact hx ((mem x).mp (pf.mem_iff.mp z)))]
   exact pz hx
def dy (circ:List (Int×List Int))(r:List Int):Int:=(cU circ r).getD 0
theorem iT {circ:List (Int×List Int)}{r:List Int}(h:(cU circ r).isNone=false):dy circ r∈r/\e7 circ r (dy circ r)=false:=by
 cases e:cU circ r with
 | none=>rw[e]at h;cases h
 | some g =>
  have h1:=List.mem_of_find?_eq_some e;have h2:=List.find?_some e;unfold dy;rw[e];exact⟨h1,by simpa using h2⟩
end Wz
namespace L2
open PySem PySem.Spec PyProof.Rows
end L2
namespace Wz
open PySem L2
def iV (p:Int×Int):Int×Int:=bW p.1 p.2
theorem Bn {r:List Int}(nd:r.Nodup):((fS r).map iV).Nodup:=by
 unfold fS;rw[List.map_map];refine List.pairwise_map.mpr ((nd.sublist (List.drop_sublist 1 r)).imp fun {x y} hne e=>hne ?_);have e:bW (r.headD 0) x=bW (r.headD 0) y:=e;rcases fw.mp e with ⟨_,z⟩ | ⟨z1,z2⟩
 ·exact z
 ·rw[z2,z1]
theorem oo:∀ (rs:List (List Int)),rs.flatten.Nodup->((cu rs).map iV).Nodup
 | [],_=>List.nodup_nil
 | r::rs,nd=>by
  rw[List.flatten_cons]at nd;obtain⟨n1,n2,n3⟩:=List.nodup_append.mp nd
  have sh:cu (r::rs)=fS r++cu rs:=by unfold cu;rw[List.flatMap_cons]
  rw[sh,List.map_append];refine List.nodup_append.mpr ⟨Bn n1,oo rs n2,fun a ha b hb e=>?_⟩;obtain⟨p,hp,rfl⟩:=List.mem_map.mp ha;obtain⟨q,hq,rfl⟩:=List.mem_map.mp hb;obtain⟨h1,_,_⟩:=nJ n1 hp;unfold cu at hq;obtain⟨r2,hr2,hq2⟩:=List.mem_flatMap.mp hq
  have nd2:r2.Nodup:=by
   have:r2.Sublist rs.flatten:=List.sublist_flatten_of_mem hr2;exact n2.sublist this
  obtain⟨g1,g2,_⟩:=nJ nd2 hq2;have e:bW p.1 p.2=bW q.1 q.2:=e;rcases fw.mp e with ⟨z,_⟩ | ⟨z,_⟩
  ·exact n3 p.1 h1 q.1 (List.mem_flatten.mpr ⟨r2,hr2,g1⟩) z
  ·exact n3 p.1 h1 q.2 (List.mem_flatten.mpr ⟨r2,hr2,g2⟩) z
theorem gR.rotkeys {W:List (Int×Int)}(P:gR W){ch:List Int->Int}(hc:∀ r∈ar W,ch r∈r):((cu (r6 W ch)).map iV).Nodup:=by
 obtain⟨w1,w2,w3,w4⟩:=P.wrong;have a:=(bX P.inj w3 w4 (aF W) [] (fun x h=>h) (fun x h=>by cases h)).1;exact oo _ ((gA fun r hr=>(fP P hr (hc r hr)).1).nodup_iff.mpr a)
def v6 (W ml:List (Int×Int))(ps:List (Int×Int)):Prop:=(∀ p∈ps,p.1≠p.2/\p.1∈aq W/\p.2∈aq W/\iV p∉ml)/\(ps.map iV).Nodup
def sD (c:HX)(o:Addr):Sp:=fun vs H Q E=>∃ (p:Addr)(A:HA)(st:bQ)(L:List Int),vs=[.ref p]/\aM c.C H p A st/\cZ st/\st.worn.length<64/\(∀ g∈aq st.worn,aV g)/\sQ L st/\L.length<64 /\
 (if ((ar st.worn).filter fun r=>(cU st.circ r).isNone)=[] then ∀ (l':Addr)(H':Hp),H l'=none->ay H H'->cp H' l' (cu (r6 st.worn (dy st.circ)))->Q (.ref l') H' else ∀ H',ay H H'->E (.ref o) none H')
def lN (f:Int->Int)(g one:Int):Nat->List (Int×Int)
 | 0=>[]
 | n+1=>lN f g one n++[(one,iter f n g)]
theorem pX {f:Int->Int}{g:Int}{m:Nat}(nd:(aB f g (m+1)).Nodup):∀ i j,i<=m->j<=m->iter f i g=iter f j g->i=j:=fun i j hi hj e=>by
 have e1:(aB f g (m+1))[i]? = some (iter f i g):=by unfold aB;rw[List.getElem?_map,List.getElem?_range (by omega)];rfl
 have e2:(aB f g (m+1))[j]? = some (iter f i g):=by unfold aB;rw[List.getElem?_map,List.getElem?_range (by omega),e];rfl
 obtain⟨h1,q1⟩:=List.getElem?_eq_some_iff.mp e1;obtain⟨h2,q2⟩:=List.getElem?_eq_some_iff.mp e2;exact (List.getElem_inj nd).mp (q1.trans q2.symm)
theorem A2 {f h:Int->Int}{g one:Int}{m:Nat}(nd:(aB f g (m+1)).Nodup)(ho:∀ i,i<=m->one≠iter f i g)(hh:∀ i,i<=m->h (iter f i g)=iter f (i+1) g)(h1:h one=one) :
  ∀ n,1<=n->n<=m->(lN f g one n).foldl aA h one=iter f n g/\(lN f g one n).foldl aA h g=one/\(∀ i,1<=i->i<n->(lN f g one n).foldl aA h (iter f i g)=iter f i g) /\
   (∀ i,n<=i->i<=m->(lN f g one n).foldl aA h (iter f i g)=iter f (i+1) g)/\∀ x,x≠one->(∀ i,i<=m->x≠iter f i g)->(lN f g one n).foldl aA h x=h x:=by
 have apart:=pX nd;intro n
 induction n with
 | zero=>intro h;omega
 | succ n ih =>
  intro _ hn
  have fold:∀ x,(lN f g one (n+1)).foldl aA h x=aA ((lN f g one n).foldl aA h) (one,iter f n g) x:=fun x=>by
   show (lN f g one n++[(one,iter f n g)]).foldl aA h x=_
   rw[List.foldl_append];rfl
  by_cases h0:n=0
  ·subst h0
   have e0:(lN f g one 0).foldl aA h=h:=rfl;rw[e0]at fold;have n0:=ho 0 (Nat.zero_le _);refine⟨?_,?_,fun i a b=>by omega,fun i a b=>?_,fun x a b=>?_⟩
   ·rw[fold];unfold aA;dsimp only
    rw[if_neg n0,if_pos rfl];exact hh 0 (Nat.zero_le _)
   ·rw[fold];unfold aA;dsimp only
    rw[if_pos (show g=iter f 0 g from rfl)];exact h1
   ·rw[fold];unfold aA;dsimp only
    rw[if_neg fun z=>by have:=apart i 0 b (Nat.zero_le _) z;omega,if_neg fun z=>ho i b z.symm];exact hh i b
   ·rw[fold];unfold aA;dsimp only
    rw[if_neg (b 0 (Nat.zero_le _)),if_neg a]
  ·obtain⟨i1,i2,i3,i4,i5⟩:=ih (by omega) (by omega)
   generalize (lN f g one n).foldl aA h=F at i1 i2 i3 i4 i5 fold;have nn:=ho n (by omega);refine⟨?_,?_,fun i a b=>?_,fun i a b=>?_,fun x a b=>?_⟩
   ·rw[fold];unfold aA;dsimp only
    rw[if_neg nn,if_pos rfl];exact i4 n (Nat.le_refl _) (by omega)
   ·rw[fold];unfold aA;dsimp only
    rw[if_neg fun z=>by have:=apart 0 n (Nat.zero_le _) (by omega) z;omega,if_neg fun z=>ho 0 (Nat.zero_le _) z.symm];exact i2
   ·rw[fold];unfold aA;dsimp only
    by_cases e:i=n
    ·subst e;rw[if_pos rfl];exact i1
    ·rw[if_neg fun z=>e (apart i n (by omega) (by omega) z),if_neg fun z=>ho i (by omega) z.symm]
     exact i3 i a (by omega)
   ·rw[fold];unfold aA;dsimp only
    rw[if_neg fun z=>by have:=apart i n b (by omega) z;omega,if_neg fun z=>ho i b z.symm];exact i4 i (by omega) b
   ·rw[fold];unfold aA;dsimp only
    rw[if_neg (b n (by omega)),if_neg a];exact i5 x a b
def e8 (one:Int)(r:List Int):List (Int×Int):=(r.dropLast.map fun x=>(one,x))++[(r.getLastD 0,r.headD 0),(one,r.getLastD 0)]
theorem Cs (f:Int->Int)(g one:Int)(m:Nat):e8 one (aB f g (m+1))=lN f g one m++[(iter f m g,g),(one,iter f m g)]:=by
 have e:aB f g (m+1)=aB f g m++[iter f m g]:=lR f g m
 have hl:∀ n,(aB f g n).map (fun x=>(one,x))=lN f g one n:=fun n=>by
  induction n with
  | zero=>rfl
  | succ n ih=>rw[lR,List.map_append,ih];rfl
 have hd:(aB f g (m+1)).headD 0=g:=by unfold aB;rw[List.range_succ_eq_map];rfl
 unfold e8;rw[hd,e,List.dropLast_concat,hl];simp
theorem Cr {f h:Int->Int}{g one:Int}{m:Nat}(m1:1<=m)(nd:(aB f g (m+1)).Nodup)(hb:iter f (m+1) g=g)(ho:∀ i,i<=m->one≠iter f i g)(hh:∀ i,i<=m->h (iter f i g)=iter f (i+1) g)(h1:h one=one) :
  (∀ i,i<=m->(e8 one (aB f g (m+1))).foldl aA h (iter f i g)=iter f i g)/\(e8 one (aB f g (m+1))).foldl aA h one=one/\∀ x,x≠one->(∀ i,i<=m->x≠iter f i g)->(e8 one (aB f g (m+1))).foldl aA h x=h x:=by
 have apart:=pX nd;obtain⟨i1,i2,i3,i4,i5⟩:=A2 nd ho hh h1 m m1 (Nat.le_refl _)
 have fold:∀ x,(e8 one (aB f g (m+1))).foldl aA h x=aA (aA ((lN f g one m).foldl aA h) (iter f m g,g)) (one,iter f m g) x:=fun x=>by
  rw[Cs,List.foldl_append];rfl
 generalize (lN f g one m).foldl aA h=F at i1 i2 i3 i4 i5 fold
 have im:F (iter f m g)=g:=by rw[i4 m (Nat.le_refl _) (Nat.le_refl _),hb]
 have nm:=ho m (Nat.le_refl _);have n0:=ho 0 (Nat.zero_le _)
 have gm:iter f m g≠g:=fun z=>by have:=apart m 0 (Nat.le_refl _) (Nat.zero_le _) z;omega
 have e1:∀ x,aA F (iter f m g,g) x=if x=g then g else if x=iter f m g then one else F x:=fun x=>by
  unfold aA;dsimp only;rw[im,i2]
 have G1:aA F (iter f m g,g) one=iter f m g:=by rw[e1,if_neg (show one≠g from n0),if_neg nm,i1]
 have Gm:aA F (iter f m g,g) (iter f m g)=one:=by rw[e1,if_neg gm,if_pos rfl]
 have e2:∀ x,(e8 one (aB f g (m+1))).foldl aA h x=if x=iter f m g then iter f m g else if x=one then one else if x=g then g else F x:=fun x=>by
  rw[fold]
  show (if x=iter f m g then aA F (iter f m g,g) one else if x=one then aA F (iter f m g,g) (iter f m g) else aA F (iter f m g,g) x)=_
  rw[G1,Gm,e1]
  by_cases hx:x=iter f m g
  ·rw[if_pos hx,if_pos hx]
  ·rw[if_neg hx,if_neg hx,if_neg hx]
 refine⟨fun i hi=>?_,?_,fun x a b=>?_⟩
 ·rw[e2]
  by_cases h1:i=m
  ·rw[h1,if_pos rfl]
  ·rw[if_neg fun z=>h1 (apart i m hi (Nat.le_refl _) z),if_neg fun z=>ho i hi z.symm]
   by_cases h2:i=0
   ·rw[h2,if_pos (show iter f 0 g=g from rfl)];rfl
   ·rw[if_neg (show iter f i g≠g from fun z=>h2 (apart i 0 hi (Nat.zero_le _) z))]
    exact i3 i (by omega) (by omega)
 ·rw[e2,if_neg nm,if_pos rfl]
 ·rw[e2,if_neg (b m (Nat.le_refl _)),if_neg a,if_neg (show x≠g from b 0 (Nat.zero_le _))]
  exact i5 x a b
theorem hG (f:Int->Int)(g:Int){m j:Nat}(h:j<m):(aB f g m)[j]? = some (iter f j g):=by unfold aB;rw[List.getElem?_map,List.getElem?_range h];rfl
theorem Dc {f:Int->Int}{g:Int}{m i:Nat}(R:cF f g m)(hi:i<m):(aB f g m).drop i++(aB f g m).take i=aB f (iter f i g) m:=by
 refine List.ext_getElem? fun j=>?_
 by_cases hj:j<m
 ·rw[hG f (iter f i g) hj,<-cJ]
  rw[List.getElem?_append];split
  ·rename_i h
   rw[List.length_drop,bD]at h;rw[List.getElem?_drop,hG f g (by omega),Nat.add_comm]
  ·rename_i h
   rw[List.length_drop,bD]at h;rw[List.length_drop,bD,List.getElem?_take_of_lt (by omega),hG f g (by omega)];rw[show j+i=(j-(m-i))+m by omega,cJ,R.2.1]
 ·have h1:((aB f g m).drop i++(aB f g m).take i).length=m:=by rw[List.length_append,List.length_drop,List.length_take,bD];omega
  rw[List.getElem?_eq_none (by omega),List.getElem?_eq_none (by rw[bD];omega)]
theorem rV {f:Int->Int}(hf:Dz f){one:Int}(fo:f one=one):∀ (rs:List (List Int))(S:List Int)(h:Int->Int),(∀ r∈rs,∃ g m,r=aB f g m/\cF f g m/\2<=m)->rs.flatten.Nodup->(∀ x∈rs.flatten,x∉S/\x≠one)->(∀ x,h x=if x∈S then x else f x) ->
  ∀ x,(rs.flatMap (e8 one)).foldl aA h x=if x∈S\/x∈rs.flatten then x else f x
 | [],S,h,_,_,_,hh=>fun x=>by simp;rw[hh]
 | r::rs,S,h,h1,nd,ap,hh=>fun x=>by
  obtain⟨g,m,rfl,R,m2⟩:=h1 r List.mem_cons_self;rw[List.flatten_cons]at nd ap;obtain⟨nd1,nd2,nd3⟩:=List.nodup_append.mp nd;rw[List.flatMap_cons,List.foldl_append]
  rw[rV hf fo rs (S++aB f g m) _ (fun r hr=>h1 r (List.mem_cons_of_mem _ hr)) nd2 (fun x hx=>⟨fun z=>by
   rcases List.mem_append.mp z with z | z
   ·exact (ap x (List.mem_append.mpr (.inr hx))).1 z
   ·exact nd3 x z x hx rfl,(ap x (List.mem_append.mpr (.inr hx))).2⟩) (fun x=>?_) x]
  ·rw[List.flatten_cons]
   by_cases q1:x∈S
   ·simp[q1]
   ·by_cases q2:x∈aB f g m
    ·simp[q2]
    ·simp[q1,q2]
  ·obtain⟨k,rfl⟩:∃ k,m=k+1:=⟨m-1,by omega⟩
   have inr:∀ i,i<=k->iter f i g∈aB f g (k+1):=fun i hi=>cx.mpr ⟨i,by omega,rfl⟩
   have h1':h one=one:=by
    rw[hh];split
    ·rfl
    ·exact fo
   obtain⟨c1,c2,c3⟩:=Cr (by omega) nd1 R.2.1 (fun i hi z=>(ap _ (List.mem_append.mpr (.inl (inr i hi)))).2 z.symm) (fun i hi=>by rw[hh,if_neg (ap _ (List.mem_append.mpr (.inl (inr i hi)))).1];rfl) h1'
   by_cases q2:x∈aB f g (k+1)
   ·rw[if_pos (List.mem_append.mpr (.inr q2))]
    obtain⟨i,hi,rfl⟩:=cx.mp q2;exact c1 i (by omega)
   ·by_cases q3:x=one
    ·rw[q3,c2]
     by_cases q4:one∈S++aB f g (k+1)
     ·rw[if_pos q4]
     ·rw[if_neg q4,fo]
    ·rw[c3 x q3 fun i hi e=>q2 (by rw[e];exact inr i hi),hh]
     simp[q2]
theorem wA {f:Int->Int}(hf:Dz f){g:Int}{m:Nat}(R:cF f g m)(i:Nat):cF f (iter f i g) m:=by
 have sw:∀ a b x,iter f a (iter f b x)=iter f b (iter f a x):=fun a b x=>by rw[<-cJ,<-cJ,Nat.add_comm]
 refine⟨R.1,by rw[sw,R.2.1],fun k h1 h2 z=>R.2.2 k h1 h2 (mQ hf i ?_)⟩;rw[sw]at z;exact z
def bJ (circ:List (Int×List Int))(r:List Int):List Int:=match br circ r with
 | some i=>r.drop i++r.take i
 | none=>r
def iZ (W:List (Int×Int))(circ:List (Int×List Int))(one:Int):List (Int×Int):=((ar W).map (bJ circ)).flatMap (e8 one)
theorem rS (one:Int){r:List Int}(h:0<r.length):(e8 one r).length=r.length+1:=by
 unfold e8;rw[List.length_append,List.length_map,List.length_dropLast]
 show r.length-1+2=_
 omega
theorem fE {f:Int->Int}(hf:Dz f){circ:List (Int×List Int)}{g:Int}{m:Nat}(R:cF f g m)(m2:2<=m)(hs:(br circ (aB f g m)).isSome=true) :
  ∃ g',bJ circ (aB f g m)=aB f g' m/\cF f g' m/\(aB f g' m).Perm (aB f g m)/\cC circ (iter f (m-1) g') g'=false:=by
 obtain⟨i,e⟩:=Option.isSome_iff_exists.mp hs
 have hi:i<m:=by
  have:=List.mem_range.mp (List.mem_of_find?_eq_some e);rw[bD]at this;exact this
 have hp:=List.find?_some e;have rot:=Dc R hi;refine⟨iter f i g,?_,wA hf R i,?_,?_⟩
 ·unfold bJ
  rw[e];exact rot
 ·rw[<-rot]
  exact (List.perm_append_comm).trans (by rw[List.take_append_drop])
 ·have e1:gE (aB f g m) i=iter f (m-1) (iter f i g):=by
   unfold gE;rw[bD]
   by_cases h0:i=0
   ·rw[if_pos h0,hG f g (by omega),h0];rfl
   ·rw[if_neg h0,hG f g (by omega),<-cJ,show m-1+i=(i-1)+m by omega,cJ,R.2.1];rfl
  have e2:gW (aB f g m) i=iter f i g:=by unfold gW;rw[hG f g hi];rfl
  have hp:(!cC circ (gE (aB f g m) i) (gW (aB f g m) i))=true:=hp;rw[e1,e2]at hp;simpa using hp
theorem gR.ring2 {W:List (Int×Int)}(P:gR W){r:List Int}(hr:r∈ar W):∃ g m,r=aB (wr W) g m/\cF (wr W) g m/\2<=m:=by
 obtain⟨w1,w2,w3,w4⟩:=P.wrong;obtain⟨g,hg,rfl,R⟩:=(bX P.inj w3 w4 (aF W) [] (fun x h=>h) (fun x h=>by cases h)).2.2.2 r hr;exact⟨g,_,rfl,R,A5 (w1 g hg).2 R⟩
theorem gR.one {W:List (Int×Int)}(P:gR W){circ:List (Int×List Int)}(hs:∀ r∈ar W,(br circ r).isSome=true){one:Int}(fo:wr W one=one) :
  (iZ W circ one).length=(ar W).flatten.length+(ar W).length/\(iZ W circ one).foldl aA (wr W)=id:=by
 obtain⟨w1,w2,w3,w4⟩:=P.wrong;obtain⟨a,b,c,d⟩:=bX P.inj w3 w4 (aF W) [] (fun x h=>h) (fun x h=>by cases h);have mem:∀ x,x∈(ar W).flatten↔x∈aF W:=fun x=>⟨fun z=>(b x z).2,fun z=>(c x z).elim (fun q=>by cases q) id⟩
 have lp:∀ r∈ar W,(bJ circ r).Perm r:=fun r hr=>by
  obtain⟨g,m,rfl,R,m2⟩:=P.ring2 hr;obtain⟨g',e,_,p,_⟩:=fE P.inj R m2 (hs _ hr);rw[e];exact p
 have pf:((ar W).map (bJ circ)).flatten.Perm (ar W).flatten:=gA lp
 have ol:∀ (rs:List (List Int)),(∀ r∈rs,0<r.length)->(rs.flatMap (e8 one)).length=rs.flatten.length+rs.length:=fun rs=>by
  induction rs with
  | nil=>intro _;rfl
  | cons r rs ih =>
   intro h;rw[List.flatMap_cons,List.length_append,ih fun q hq=>h q (List.mem_cons_of_mem _ hq),rS one (h r List.mem_cons_self),List.flatten_cons,List.length_append,List.length_cons];omega
 refine⟨?_,?_⟩
 ·unfold iZ
  rw[ol _ fun r hr=>?_,pf.length_eq,List.length_map];obtain⟨r0,h0,rfl⟩:=List.mem_map.mp hr;rw[(lp r0 h0).length_eq];obtain⟨g,m,rfl,R,m2⟩:=P.ring2 h0;rw[bD];omega
 ·have out:∀ x∈((ar W).map (bJ circ)).flatten,x≠one:=fun x hx z=>by
   have:=(mem x).mp (pf.mem_iff.mp hx);rw[z]at this;exact (w1 one this).2 fo
  funext x
  have:=rV P.inj fo ((ar W).map (bJ circ)) [] (wr W) (fun r hr=>by
   obtain⟨r0,h0,rfl⟩:=List.mem_map.mp hr;obtain⟨g,m,rfl,R,m2⟩:=P.ring2 h0;obtain⟨g',e,R',_,_⟩:=fE P.inj R m2 (hs _ h0)
   exact⟨g',m,e,R',m2⟩) (pf.nodup_iff.mpr a) (fun x hx=>⟨(fun h=>nomatch h),out x hx⟩) (fun x=>by simp) x
  unfold iZ;rw[this]
  by_cases hx:x∈aF W
  ·rw[if_pos (.inr (pf.mem_iff.mpr ((mem x).mpr hx)))];rfl
  ·rw[if_neg (by rintro (z | z);cases z;exact hx ((mem x).mp (pf.mem_iff.mp z)))]
   exact pz hx
theorem uy (one:Int){r:List Int}(h:r≠[]):(e8 one r).Perm (r.map (fun x=>(one,x))++[(r.getLastD 0,r.headD 0)]):=by
 have e:r.map (fun x=>(one,x))=r.dropLast.map (fun x=>(one,x))++[(one,r.getLastD 0)]:=by
  have e0:r=r.dropLast++[r.getLast h]:=(List.dropLast_concat_getLast h).symm
  have e1:r.getLastD 0=r.getLast h:=by rw[List.getLastD_eq_getLast?,List.getLast?_eq_some_getLast h];rfl
  have:=congrArg (List.map fun x=>(one,x)) e0;rw[List.map_append]at this;rw[e1];exact this
 rw[e];unfold e8;rw[List.append_assoc];exact List.Perm.append_left _ (List.Perm.swap _ _ _)
theorem mZ {one:Int}{r:List Int}(h:2<=r.length){p:Int×Int}(hp:p∈e8 one r):p.2∈r/\((p.1=one)\/(p.1∈r/\p=(r.getLastD 0,r.headD 0))):=by
 have hne:r≠[]:=by intro z;rw[z]at h;simp at h
 have:=(uy one hne).mem_iff.mp hp
 have hl:r.getLastD 0∈r:=by rw[List.getLastD_eq_getLast?,List.getLast?_eq_some_getLast hne];exact List.getLast_mem hne
 have hd:r.headD 0∈r:=by cases r with | nil=>exact absurd rfl hne | cons a t=>exact List.mem_cons_self
 rcases List.mem_append.mp this with z | z
 ·obtain⟨x,hx,rfl⟩:=List.mem_map.mp z
  exact⟨hx,.inl rfl⟩
 ·rw[List.mem_singleton.mp z]
  exact⟨hd,.inr ⟨hl,rfl⟩⟩
theorem rT {one:Int}:∀ (rs:List (List Int)),rs.flatten.Nodup->(∀ x∈rs.flatten,x≠one)->(∀ r∈rs,2<=r.length)->((rs.flatMap (e8 one)).map iV).Nodup
 | [],_,_,_=>List.nodup_nil
 | r::rs,nd,no,h2=>by
  rw[List.flatten_cons]at nd no;obtain⟨n1,n2,n3⟩:=List.nodup_append.mp nd;have hr2:=h2 r List.mem_cons_self
  have hne:r≠[]:=by intro z;rw[z]at hr2;simp at hr2
  rw[List.flatMap_cons,List.map_append];refine List.nodup_append.mpr ⟨?_,rT rs n2 (fun x hx=>no x (List.mem_append.mpr (.inr hx))) fun q hq=>h2 q (List.mem_cons_of_mem _ hq),fun a ha b hb e=>?_⟩
  ·refine ((uy one hne).map iV).nodup_iff.mpr ?_
   rw[List.map_append,List.map_map]
   have inj:∀ x y:Int,bW one x=bW one y->x=y:=fun x y e=>by
    rcases fw.mp e with ⟨_,z⟩ | ⟨z1,z2⟩
    ·exact z
    ·rw[z2,z1]
   refine List.nodup_append.mpr ⟨List.pairwise_map.mpr (n1.imp fun {x y} hxy e=>hxy (inj x y e)),by simp,fun a ha b hb e=>?_⟩
   ·obtain⟨x,hx,rfl⟩:=List.mem_map.mp ha
    rw[List.map_singleton,List.mem_singleton]at hb;rw[hb]at e;have e:bW one x=bW (r.getLastD 0) (r.headD 0):=e
    have hl:r.getLastD 0∈r:=by rw[List.getLastD_eq_getLast?,List.getLast?_eq_some_getLast hne];exact List.getLast_mem hne
    have hd:r.headD 0∈r:=by cases r with | nil=>exact absurd rfl hne | cons a t=>exact List.mem_cons_self
    rcases fw.mp e with ⟨z,_⟩ | ⟨z,_⟩
    ·exact no _ (List.mem_append.mpr (.inl hl)) z.symm
    ·exact no _ (List.mem_append.mpr (.inl hd)) z.symm
  ·obtain⟨p,hp,rfl⟩:=List.mem_map.mp ha
   obtain⟨q,hq,rfl⟩:=List.mem_map.mp hb;obtain⟨r2,hr,hq2⟩:=List.mem_flatMap.mp hq;obtain⟨p2,_⟩:=mZ hr2 hp;obtain⟨q2,q1⟩:=mZ (h2 r2 (List.mem_cons_of_mem _ hr)) hq2;have inF:∀ x∈r2,x∈rs.flatten:=fun x hx=>List.mem_flatten.mpr ⟨r2,hr,hx⟩;have e:bW p.1 p.2=bW q.1 q.2:=e;rcases fw.mp e with ⟨_,z⟩ | ⟨_,z⟩
   ·exact n3 p.2 p2 q.2 (inF _ q2) z
   ·rcases q1 with y | ⟨y,_⟩
    ·exact no p.2 (List.mem_append.mpr (.inl p2)) (z.trans y)
    ·exact n3 p.2 p2 q.1 (inF _ y) z
theorem zn (xs:List V):gv xs none (some (-1))=xs.dropLast:=by
 unfold gv;rw[HT.sIx_none,List.drop_zero,Nat.sub_zero,List.dropLast_eq_take]
 congr 1
 unfold HT.sIx;dsimp only;rw[if_pos (by decide)];omega
structure HN (K:PySem.W.Frag)(mg:Str->Option Value)(c:HX)(o q:Addr):Prop where
 e:eB K o
 m:mg "NoWay" = some (.ref o)
 eN:eB K q
 mN:mg "NotNew" = some (.ref q)
 x:PySem.W.exmOne K (.ref o) (.ref o)=some true
 xN:PySem.W.exmOne K (.ref o) (.ref q)=some false
 xG:PySem.W.exmOne K (.ref o) (.ref c.cN)=some false
 y:PySem.W.exmOne K (.ref q) (.ref q)=some true
 yG:PySem.W.exmOne K (.ref q) (.ref c.cN)=some false
def sF (c:HX)(o q:Addr):Sp:=fun vs H Q E=>∃ (p:Addr)(A:HA)(st:bQ)(L:List Int)(one:Int),vs=[.ref p,.int one]/\aM c.C H p A st/\cZ st/\st.worn.length<64/\(∀ g∈aq st.worn,aV g)/\sQ L st/\L.length<64/\aV one /\
 (if (look st.worn one).isSome=true then
  (if cD st.circ one=[] then
   (if ((ar st.worn).filter fun r=>(br st.circ r).isNone)=[] then ∀ (l':Addr)(H':Hp),H l'=none->ay H H'->cp H' l' (iZ st.worn st.circ one)->Q (.ref l') H' else ∀ H',ay H H'->E (.ref o) none H')
  else ∀ H',ay H H'->E (.ref q) none H')
 else ∀ dx H',ay H H'->H' dx=some (.xd [("guest",.int one)])->E (.ref c.cN) (some dx) H')
theorem zj (ks:List Int)(b:Int):eQ ks b≠[]:=by
 unfold eQ;split
 ·rename_i h;intro z;rw[z]at h;cases h
 ·simp
theorem Cz {st:bQ}(h:∀ g,cD st.circ g=[]->wr st.worn g=g)(d:aN):∀ g,cD (after st d).circ g=[]->wr (after st d).worn g=g:=by
 intro g hg
 cases d with
 | come x =>
  show (look (put st.worn x x) g).getD g=g
  rw[bS];split
  ·rename_i e;rw[e];rfl
  ·exact h g hg
 | go x =>
  show (look (cG st.worn x) g).getD g=g
  rw[dW];split
  ·rfl
  ·exact h g hg
 | exch a b =>
  have hg:cD (bY (bY st.circ a b) b a) g=[]:=hg;rw[kG,kG,kG]at hg
  by_cases e1:g=b
  ·rw[if_pos e1]at hg;exact absurd hg (zj _ _)
  ·rw[if_neg e1]at hg
   by_cases e2:g=a
   ·rw[if_pos e2]at hg;exact absurd hg (zj _ _)
   ·rw[if_neg e2]at hg
    show (look (put (put st.worn a (wr st.worn b)) b (wr st.worn a)) g).getD g=g
    rw[bS,if_neg e1,bS,if_neg e2];exact h g hg
theorem xw:∀ (ds:List aN)(st:bQ),(∀ g,cD st.circ g=[]->wr st.worn g=g)->∀ g,cD (ds.foldl after st).circ g=[]->wr (ds.foldl after st).worn g=g
 | [],_,h=>h
 | d::ds,st,h=>xw ds (after st d) (Cz h d)
theorem D7 (ds:List aN){g:Int}(h:cD (aw ds).circ g=[]):wr (aw ds).worn g=g:=xw ds _ (fun g _=>rfl) g h
theorem gR.mem_ring {W:List (Int×Int)}(P:gR W){r:List Int}(hr:r∈ar W){x:Int}(hx:x∈r):x∈aq W/\wr W x≠x:=by
 obtain⟨w1,w2,w3,w4⟩:=P.wrong;exact w1 _ ((bX P.inj w3 w4 (aF W) [] (fun x h=>h) (fun x h=>by cases h)).2.1 _ (List.mem_flatten.mpr ⟨r,hr,hx⟩)).2
theorem uD (f:Int->Int)(g:Int){m:Nat}(h:1<=m):(aB f g m).getLastD 0=iter f (m-1) g:=by
 rw[List.getLastD_eq_getLast?,List.getLast?_eq_getElem?,bD,hG f g (by omega)];rfl
theorem uC (f:Int->Int)(g:Int){m:Nat}(h:1<=m):(aB f g m).headD 0=g:=by
 rw[List.headD_eq_head?_getD,List.head?_eq_getElem?,hG f g (by omega)];rfl
theorem A1 {W:List (Int×Int)}(P:gR W){circ:List (Int×List Int)}(hs:∀ r∈ar W,(br circ r).isSome=true){one:Int}{p:Int×Int}(hp:p∈iZ W circ one) :
  ∃ r∈ar W,p.2∈r/\((p.1=one)\/(p.1∈r/\p.1≠p.2/\cC circ p.1 p.2=false)):=by
 unfold iZ at hp;obtain⟨q,hq,hpq⟩:=List.mem_flatMap.mp hp;obtain⟨r,hr,rfl⟩:=List.mem_map.mp hq;refine⟨r,hr,?_⟩;obtain⟨g,m,rfl,R,m2⟩:=P.ring2 hr;obtain⟨g',e,R',pp,mt⟩:=fE P.inj R m2 (hs _ hr);rw[e]at hpq;obtain⟨h1,h2⟩:=mZ (by rw[bD];exact m2) hpq;refine⟨pp.mem_iff.mp h1,?_⟩;rcases h2 with z | ⟨z1,z2⟩
 ·exact .inl z
 ·rw[uD _ _ (by omega),uC _ _ (by omega)]at z2
  refine .inr ⟨pp.mem_iff.mp z1,?_,by rw[z2];exact mt⟩;rw[z2];exact R'.2.2 (m-1) (by omega) (by omega)
theorem A0 {L:List Int}{st:bQ}{ml:List (Int×Int)}(P:gR st.worn)(al:gS st ml)(ci:sQ L st)(hs:∀ r∈ar st.worn,(br st.circ r).isSome=true){one:Int}(ho:one∈aq st.worn)(fo:wr st.worn one=one)(hn:cD st.circ one=[]) :
  v6 st.worn ml (iZ st.worn st.circ one):=by
 refine⟨fun p hp=>?_,?_⟩
 ·obtain⟨r,hr,h2,h1⟩:=A1 P hs hp
  obtain⟨k2,n2⟩:=P.mem_ring hr h2
  have key:cC st.circ p.1 p.2=false->iV p∉ml:=fun e z=>by
   have e2:iY ml p.1 p.2=true:=decide_eq_true z;rw[al,e2]at e;cases e
  rcases h1 with z | ⟨z1,z2,z3⟩
  ·refine⟨fun e=>n2 (by rw[<-e,z];exact fo),by rw[z];exact ho,k2,key ?_⟩
   unfold cC;rw[z,hn];rfl
  ·exact⟨z2,(P.mem_ring hr z1).1,k2,key z3⟩
 ·have lp:∀ r∈ar st.worn,(bJ st.circ r).Perm r:=fun r hr=>by
   obtain⟨g,m,rfl,R,m2⟩:=P.ring2 hr;obtain⟨g',e,_,p,_⟩:=fE P.inj R m2 (hs _ hr);rw[e];exact p
  have pf:((ar st.worn).map (bJ st.circ)).flatten.Perm (ar st.worn).flatten:=gA lp;obtain⟨w1,w2,w3,w4⟩:=P.wrong;have a:=(bX P.inj w3 w4 (aF st.worn) [] (fun x h=>h) (fun x h=>by cases h)).1;refine rT _ (pf.nodup_iff.mpr a) (fun x hx z=>?_) fun q hq=>?_
  ·obtain⟨r,hr,hxr⟩:=List.mem_flatten.mp (pf.mem_iff.mp hx)
   exact (P.mem_ring hr hxr).2 (by rw[z];exact fo)
  ·obtain⟨r,hr,rfl⟩:=List.mem_map.mp hq
   rw[(lp r hr).length_eq];obtain⟨g,m,rfl,R,m2⟩:=P.ring2 hr;rw[bD];exact m2
open L2
theorem Bl {xs:List Int}:aZ xs=[]↔xs=[]:=by
 have:=(b7 xs).length_eq;constructor
 ·intro z;rw[z]at this;exact List.eq_nil_of_length_eq_zero this.symm
 ·intro z;rw[z]at this;rw[z];exact List.eq_nil_of_length_eq_zero this
end Wz
namespace L2
open PySem PySem.Spec PyProof.Rows
end L2
namespace Wz
open PySem L2
def fL (h:Int->Int):List Int->Int->Prop
 | [],_=>True
 | x::xs,y=>h x=xs.headD y/\fL h xs y
theorem fL.congr {h h':Int->Int}:∀ {xs:List Int}{y:Int},(∀ x∈xs,h' x=h x)->fL h xs y->fL h' xs y
 | [],_,_,_=>True.intro
 | x::xs,y,e,l=>⟨(e x List.mem_cons_self).trans l.1,fL.congr (fun z hz=>e z (List.mem_cons_of_mem _ hz)) l.2⟩
theorem mK (xs ys:List Int)(y:Int):(xs++ys).headD y=xs.headD (ys.headD y):=by cases xs<;>rfl
theorem fL.append {h:Int->Int}:∀ {xs ys:List Int}{y:Int},fL h xs (ys.headD y)->fL h ys y->fL h (xs++ys) y
 | [],_,_,_,l=>l
 | x::xs,ys,y,l1,l2=>⟨l1.1.trans (mK xs ys y).symm,fL.append l1.2 l2⟩
theorem BF {z:Int}:∀ (xs:List Int)(h:Int->Int)(y:Int),xs.Nodup->z∉xs->h z=xs.headD y->fL h xs y ->
  (xs.map fun x=>(z,x)).foldl aA h z=y/\(∀ x∈xs,(xs.map fun x=>(z,x)).foldl aA h x=x)/\∀ x,x≠z->x∉xs->(xs.map fun x=>(z,x)).foldl aA h x=h x
 | [],h,y,_,_,e,_=>⟨e,(fun x hx=>nomatch hx),fun x _ _=>rfl⟩
 | a::xs,h,y,nd,nz,e,l=>by
  obtain⟨n1,n2⟩:=List.nodup_cons.mp nd;have za:z≠a:=fun q=>nz (by rw[q];exact List.mem_cons_self);have zx:z∉xs:=fun q=>nz (List.mem_cons_of_mem _ q)
  have sa:aA h (z,a) a=a:=by unfold aA;dsimp only;rw[if_pos rfl];exact e
  have sz:aA h (z,a) z=h a:=by unfold aA;dsimp only;rw[if_neg za,if_pos rfl]
  have so:∀ x,x≠z->x≠a->aA h (z,a) x=h x:=fun x q1 q2=>by unfold aA;dsimp only;rw[if_neg q2,if_neg q1]
  obtain⟨c1,c2,c3⟩:=BF xs (aA h (z,a)) y n2 zx (by rw[sz];exact l.1) (fL.congr (fun x hx=>so x (fun q=>zx (by rw[<-q];exact hx)) (fun q=>n1 (by rw[<-q];exact hx))) l.2);rw[List.map_cons,List.foldl_cons];refine⟨c1,fun x hx=>?_,fun x q1 q2=>?_⟩
  ·rcases List.mem_cons.mp hx with q | q
   ·rw[q,c3 a (Ne.symm za) n1];exact sa
   ·exact c2 x q
  ·rw[c3 x q1 fun q=>q2 (List.mem_cons_of_mem _ q)]
   exact so x q1 fun q=>q2 (by rw[q];exact List.mem_cons_self)
def we (f:Int->Int)(r:List Int):Prop:=∃ g t,r=g::t/\t≠[]/\f g=t.headD 0/\fL f t g
theorem ul {f:Int->Int}{g:Int}:∀ (m i:Nat),fL f ((List.range m).map fun j=>iter f (i+j) g) (iter f (i+m) g)
 | 0,_=>True.intro
 | m+1,i=>by
  rw[List.range_succ_eq_map,List.map_cons,List.map_map]
  have e:((List.range m).map ((fun j=>iter f (i+j) g) ∘ Nat.succ))=(List.range m).map fun j=>iter f (i+1+j) g:=List.map_congr_left fun j _=>by show iter f (i+(j+1)) g=_;rw[show i+(j+1)=i+1+j by omega]
  rw[e,show i+(m+1)=i+1+m by omega];refine⟨?_,ul m (i+1)⟩
  cases m with
  | zero=>rfl
  | succ m=>rw[List.range_succ_eq_map];rfl
theorem Be (f:Int->Int)(g:Int)(m:Nat):aB f g (m+1)=g::(List.range m).map fun j=>iter f (1+j) g:=by
 unfold aB;rw[List.range_succ_eq_map,List.map_cons,List.map_map];refine congrArg (List.cons _) (List.map_congr_left fun j _=>?_)
 show iter f (j+1) g=_
 rw[Nat.add_comm]
theorem xA {f:Int->Int}{g:Int}{m:Nat}(R:cF f g m)(m2:2<=m):we f (aB f g m):=by
 obtain⟨k,rfl⟩:∃ k,m=k+2:=⟨m-2,by omega⟩;refine⟨g,_,Be f g (k+1),by rw[List.range_succ_eq_map];simp,by rw[List.range_succ_eq_map];rfl,?_⟩;have:=ul (f:=f) (g:=g) (k+1) 1;rw[show 1+(k+1)=k+2 by omega,R.2.1]at this;exact this
def fK (r:List Int):Int:=r.headD 0
def zO (f:Int->Int)(one:Int):List (List Int)->Int
 | []=>one
 | r::_=>f (fK r)
def HC (f h:Int->Int)(one:Int):List (List Int)->Prop
 | []=>True
 | r::rr=>h (fK r)=zO f one rr/\HC f h one rr
theorem HC.congr {f h h':Int->Int}{one:Int}:∀ {rr:List (List Int)},(∀ r∈rr,h' (fK r)=h (fK r))->HC f h one rr->HC f h' one rr
 | [],_,_=>True.intro
 | r::rr,e,c=>⟨(e r List.mem_cons_self).trans c.1,HC.congr (fun z hz=>e z (List.mem_cons_of_mem _ hz)) c.2⟩
theorem EG {f:Int->Int}{one:Int}(fo:f one=one):∀ (rr:List (List Int)),(rr.map fK).Nodup->one∉rr.map fK ->
  (rr.reverse.map fun r=>(one,fK r)).foldl aA f one=zO f one rr/\HC f ((rr.reverse.map fun r=>(one,fK r)).foldl aA f) one rr/\∀ x,x≠one->x∉rr.map fK->(rr.reverse.map fun r=>(one,fK r)).foldl aA f x=f x
 | [],_,_=>⟨fo,True.intro,fun x _ _=>rfl⟩
 | r::rr,nd,no=>by
  rw[List.map_cons]at nd no;obtain⟨n1,n2⟩:=List.nodup_cons.mp nd;have o1:one≠fK r:=fun q=>no (by rw[<-q];exact List.mem_cons_self);obtain⟨c1,c2,c3⟩:=EG fo rr n2 fun q=>no (List.mem_cons_of_mem _ q)
  have fold:((r::rr).reverse.map fun r=>(one,fK r)).foldl aA f=aA ((rr.reverse.map fun r=>(one,fK r)).foldl aA f) (one,fK r):=by
   rw[List.reverse_cons,List.map_append,List.foldl_append];rfl
  rw[fold];generalize (rr.reverse.map fun r=>(one,fK r)).foldl aA f=F at c1 c2 c3
  have so:∀ x,x≠one->x≠fK r->aA F (one,fK r) x=F x:=fun x q1 q2=>by unfold aA;dsimp only;rw[if_neg q2,if_neg q1]
  refine⟨?_,⟨?_,HC.congr (fun q hq=>so _ (fun z=>no ?_) (fun z=>n1 ?_)) c2⟩,fun x q1 q2=>?_⟩
  ·unfold aA;dsimp only
   rw[if_neg o1,if_pos rfl];exact c3 _ (Ne.symm o1) n1
  ·unfold aA;dsimp only
   rw[if_pos rfl];exact c1
  ·rw[<-z];exact List.mem_cons_of_mem _ (List.mem_map.mpr ⟨q,hq,rfl⟩)
  ·rw[<-z];exact List.mem_map.mpr ⟨q,hq,rfl⟩
  ·rw[so x q1 fun z=>q2 (by rw[z];exact List.mem_cons_self)]
   exact c3 x q1 fun z=>q2 (List.mem_cons_of_mem _ z)
def xH (rr:List (List Int)):List Int:=rr.flatMap fun r=>r.tail++r.take 1
theorem sJ {g:Int}{t:List Int}(rr:List (List Int)):xH ((g::t)::rr)=(t++[g])++xH rr:=rfl
theorem xI {f:Int->Int}{one:Int}:∀ {rr:List (List Int)},(∀ r∈rr,we f r)->(xH rr).headD one=zO f one rr
 | [],_=>rfl
 | r::rr,h=>by
  obtain⟨g,t,rfl,tn,fg,_⟩:=h r List.mem_cons_self;rw[sJ]
  cases t with
  | nil=>exact absurd rfl tn
  | cons a t=>exact fg.symm
theorem xJ {f h:Int->Int}{one:Int}:∀ {rr:List (List Int)},(∀ r∈rr,we f r)->HC f h one rr->(∀ r∈rr,∀ x∈r.tail,h x=f x)->fL h (xH rr) one
 | [],_,_,_=>True.intro
 | r::rr,hr,hc,ht=>by
  have ih:=xJ (rr:=rr) (fun q hq=>hr q (List.mem_cons_of_mem _ hq)) hc.2 fun q hq=>ht q (List.mem_cons_of_mem _ hq);have th:=xI (one:=one) (rr:=rr) fun q hq=>hr q (List.mem_cons_of_mem _ hq);have ht0:=ht r List.mem_cons_self;obtain⟨g,t,rfl,tn,fg,lt⟩:=hr r List.mem_cons_self;rw[sJ];refine fL.append (fL.append (fL.congr ht0 lt) ⟨?_,True.intro⟩) ih
  show h g=(xH rr).headD one
  rw[th];exact hc.1
theorem nL:∀ (rr:List (List Int)),(∀ r∈rr,r≠[])->(xH rr).Perm rr.flatten
 | [],_=>List.Perm.refl _
 | r::rr,h=>by
  have hr:=h r List.mem_cons_self
  cases r with
  | nil=>exact absurd rfl hr
  | cons g t =>
   rw[sJ,List.flatten_cons];exact (List.perm_append_comm (l₁:=t) (l₂:=[g])).append (nL rr fun q hq=>h q (List.mem_cons_of_mem _ hq))
def kU (one other:Int):List (List Int)->List (Int×Int)
 | []=>[]
 | last::rest=>((last::rest).reverse.map fun r=>(one,fK r))++((other,last.getLastD 0)::((last.tail.map fun x=>(one,x))++(((fK last::xH rest).map fun x=>(other,x))++[(one,other)])))
theorem rp {t:List Int}(h:t≠[])(g:Int):(g::t).getLastD 0=t.getLast h/\t=t.dropLast++[t.getLast h]:=by
 refine⟨?_,(List.dropLast_concat_getLast h).symm⟩;rw[List.getLastD_eq_getLast?,List.getLast?_cons,List.getLast?_eq_some_getLast h];rfl
theorem oB {h:Int->Int}:∀ {xs:List Int}{z y:Int},fL h (xs++[z]) y->fL h xs z/\h z=y
 | [],z,y,l=>⟨True.intro,l.1⟩
 | x::xs,z,y,l=>by
  obtain⟨i1,i2⟩:=oB l.2;exact⟨⟨l.1.trans (mK xs [z] y),i1⟩,i2⟩
theorem xK {f:Int->Int}{one other:Int}(fo:f one=one)(fe:f other=other)(ne:one≠other):∀ (rr:List (List Int)),(∀ r∈rr,we f r)->rr.flatten.Nodup->one∉rr.flatten->other∉rr.flatten ->
  ∀ x,(kU one other rr).foldl aA f x=if x∈rr.flatten then x else f x
 | [],_,_,_,_=>fun x=>by simp[kU]
 | last::rest,hr,nd,no,ne2=>by
  have hm:∀ r∈last::rest,fK r∈r:=fun r hq=>by obtain⟨g,t,rfl,_⟩:=hr r hq;exact List.mem_cons_self
  have hdn:∀ (rr:List (List Int)),(∀ r∈rr,fK r∈r)->rr.flatten.Nodup->(rr.map fK).Nodup/\∀ x∈rr.map fK,x∈rr.flatten:=fun rr=>by
   induction rr with
   | nil=>intro _ _;exact⟨List.nodup_nil,fun x h=>by cases h⟩
   | cons r rr ih =>
    intro h n;rw[List.flatten_cons]at n;obtain⟨a1,a2,a3⟩:=List.nodup_append.mp n;obtain⟨i1,i2⟩:=ih (fun q hq=>h q (List.mem_cons_of_mem _ hq)) a2;have h0:=h r List.mem_cons_self;refine⟨List.nodup_cons.mpr ⟨fun z=>a3 _ h0 _ (i2 _ z) rfl,i1⟩,fun x hx=>?_⟩;rw[List.flatten_cons,List.mem_append];rcases List.mem_cons.mp hx with z | z
    ·exact .inl (by rw[z];exact h0)
    ·exact .inr (i2 x z)
  obtain⟨hn,hsub⟩:=hdn _ hm nd;obtain⟨m1,m2,m3⟩:=EG fo (last::rest) hn fun z=>no (hsub _ z);obtain⟨g,t,rfl,tn,fg,lt⟩:=hr last List.mem_cons_self;rw[List.flatten_cons]at nd no ne2;obtain⟨nd1,nd2,nd3⟩:=List.nodup_append.mp nd;obtain⟨gt,ndt⟩:=List.nodup_cons.mp nd1;obtain⟨el,es⟩:=rp tn g;have oG:∀ x∈(g::t)++rest.flatten,x≠one/\x≠other:=fun x hx=>⟨fun z=>no (by rw[<-z];exact hx),fun z=>ne2 (by rw[<-z];exact hx)⟩;have tin:∀ x∈t,x∈(g::t)++rest.flatten:=fun x hx=>List.mem_append.mpr (.inl (List.mem_cons_of_mem _ hx));have gin:g∈(g::t)++rest.flatten:=List.mem_append.mpr (.inl List.mem_cons_self)
  have thd:∀ x∈t,x∉((g::t)::rest).map fK:=fun x hx z=>by
   rcases List.mem_cons.mp z with z | z
   ·exact gt (by have:x=g:=z;rw[<-this];exact hx)
   ·obtain⟨r,hrr,e⟩:=List.mem_map.mp z
    exact nd3 x (List.mem_cons_of_mem _ hx) x (List.mem_flatten.mpr ⟨r,hrr,by rw[<-e];exact hm r (List.mem_cons_of_mem _ hrr)⟩) rfl
  have rtl:∀ r∈rest,∀ x∈r.tail,x∉((g::t)::rest).map fK:=fun r hrr x hx z=>by
   have xr:x∈r:=List.mem_of_mem_tail hx;have xf:x∈rest.flatten:=List.mem_flatten.mpr ⟨r,hrr,xr⟩;rcases List.mem_cons.mp z with z | z
   ·exact nd3 g List.mem_cons_self x xf z.symm
   ·obtain⟨q,hq,e⟩:=List.mem_map.mp z
    obtain⟨i,hi⟩:=List.getElem?_of_mem hrr;obtain⟨j,hj⟩:=List.getElem?_of_mem hq
    by_cases ij:i=j
    ·subst ij
     rw[hi]at hj;cases hj;obtain⟨g2,t2,e2,_⟩:=hr r (List.mem_cons_of_mem _ hrr);subst e2;have ndr:(g2::t2).Nodup:=(List.pairwise_flatten.mp nd2).1 _ hrr;exact (List.nodup_cons.mp ndr).1 (by have:g2=x:=e;rw[this];exact hx)
    ·have pw:=(List.pairwise_flatten.mp nd2).2
     have hxq:x∈q:=by rw[<-e];exact hm q (List.mem_cons_of_mem _ hq)
     rw[List.pairwise_iff_getElem]at pw;obtain⟨hi1,hi2⟩:=List.getElem?_eq_some_iff.mp hi;obtain⟨hj1,hj2⟩:=List.getElem?_eq_some_iff.mp hj;rcases Nat.lt_or_gt_of_ne ij with z | z
     ·have:=pw i j hi1 hj1 z
      rw[hi2,hj2]at this;exact this x xr x hxq rfl
     ·have:=pw j i hj1 hi1 z
      rw[hi2,hj2]at this;exact this x hxq x xr rfl
  have onf:∀ r∈rest,∀ x∈r,x∈(g::t)++rest.flatten:=fun r hrr x hx=>List.mem_append.mpr (.inr (List.mem_flatten.mpr ⟨r,hrr,hx⟩));intro x
  show (kU one other ((g::t)::rest)).foldl aA f x=_
  unfold kU;rw[List.foldl_append,List.foldl_cons,List.foldl_append,List.foldl_append,el];have e0:fK (g::t)=g:=rfl;rw[e0];have m1':(((g::t)::rest).reverse.map fun r=>(one,fK r)).foldl aA f one=f g:=m1;have m2a:(((g::t)::rest).reverse.map fun r=>(one,fK r)).foldl aA f g=zO f one rest:=m2.1;have m2b:=m2.2;clear m1 m2;generalize (((g::t)::rest).reverse.map fun r=>(one,fK r)).foldl aA f=F1 at m1' m2a m2b m3 ⊢;generalize hz:t.getLast tn=z at es ⊢
  have zt:z∈t:=by rw[es];simp
  have zo:=oG z (tin z zt)
  have F1z:F1 z=g:=by
   rw[m3 z zo.1 (thd z zt)];rw[es]at lt;exact (oB lt).2
  have F1o:F1 other=other:=by rw[m3 other (Ne.symm ne) fun q=>?_,fe];exact ne2 (by have:=hsub _ q;rw[List.flatten_cons]at this;exact this)
  have s_z:aA F1 (other,z) z=other:=by unfold aA;dsimp only;rw[if_pos rfl];exact F1o
  have s_o:aA F1 (other,z) other=g:=by unfold aA;dsimp only;rw[if_neg (Ne.symm zo.2),if_pos rfl];exact F1z
  have s_x:∀ x,x≠other->x≠z->aA F1 (other,z) x=F1 x:=fun x q1 q2=>by unfold aA;dsimp only;rw[if_neg q2,if_neg q1]
  generalize aA F1 (other,z)=F2 at s_z s_o s_x ⊢
  have lk2:fL F2 t other:=by
   have l0:=lt;rw[es]at l0 ⊢;obtain⟨l1,_⟩:=oB l0;rw[es]at ndt;refine fL.append (fL.congr (fun x hx=>?_) l1) ⟨s_z,True.intro⟩
   have xt:x∈t:=by rw[es];exact List.mem_append.mpr (.inl hx)
   rw[s_x x (oG x (tin x xt)).2 fun q=>(List.nodup_append.mp ndt).2.2 x hx z (by simp) q];exact m3 x (oG x (tin x xt)).1 (thd x xt)
  have one2:F2 one=t.headD other:=by
   rw[s_x one ne (fun q=>zo.1 q.symm),m1',fg]
   cases t with
   | nil=>exact absurd rfl tn
   | cons a t=>rfl
  obtain⟨c1,c2,c3⟩:=BF t F2 other ndt (fun q=>(oG one (tin one q)).1 rfl) one2 lk2;have et:(g::t).tail=t:=rfl;rw[et];generalize (t.map fun x=>(one,x)).foldl aA F2=F3 at c1 c2 c3 ⊢
  have up:∀ x,x≠one->x≠other->x∉t->F3 x=F1 x:=fun x q1 q2 q3=>by rw[c3 x q1 q3,s_x x q2 fun q=>q3 (by rw[q];exact zt)]
  have gne:=oG g gin;have hrest:∀ r∈rest,we f r:=fun r hrr=>hr r (List.mem_cons_of_mem _ hrr);have ntr:∀ r∈rest,∀ x∈r,x∉t:=fun r hrr x hx q=>nd3 x (List.mem_cons_of_mem _ q) x (List.mem_flatten.mpr ⟨r,hrr,hx⟩) rfl
  have lk3:fL F3 (g::xH rest) one:=by
   refine⟨?_,xJ hrest (HC.congr (fun r hrr=>?_) m2b) fun r hrr x hx=>?_⟩
   ·rw[up g gne.1 gne.2 gt,m2a,xI hrest]
   ·have hx:=hm r (List.mem_cons_of_mem _ hrr)
    exact up _ (oG _ (onf r hrr _ hx)).1 (oG _ (onf r hrr _ hx)).2 (ntr r hrr _ hx)
   ·have xr:x∈r:=List.mem_of_mem_tail hx
    rw[up x (oG x (onf r hrr x xr)).1 (oG x (onf r hrr x xr)).2 (ntr r hrr x xr)];exact m3 x (oG x (onf r hrr x xr)).1 (rtl r hrr x hx)
  have pm:=nL rest fun r hrr=>by obtain⟨g2,t2,e2,_⟩:=hrest r hrr;rw[e2];simp
  have ndx:(g::xH rest).Nodup:=List.nodup_cons.mpr ⟨fun q=>nd3 g List.mem_cons_self g (pm.mem_iff.mp q) rfl,pm.nodup_iff.mpr nd2⟩
  have ox:other∉g::xH rest:=fun q=>by
   rcases List.mem_cons.mp q with q | q
   ·exact gne.2 q.symm
   ·exact ne2 (List.mem_append.mpr (.inr (pm.mem_iff.mp q)))
  have oth3:F3 other=g:=by rw[c3 other (Ne.symm ne) fun q=>?_];exact s_o;exact (oG other (tin other q)).2 rfl
  obtain⟨d1,d2,d3⟩:=BF (g::xH rest) F3 one ndx ox oth3 lk3;generalize ((g::xH rest).map fun x=>(other,x)).foldl aA F3=F4 at d1 d2 d3 ⊢
  have o1x:one∉g::xH rest:=fun q=>by
   rcases List.mem_cons.mp q with q | q
   ·exact gne.1 q.symm
   ·exact no (List.mem_append.mpr (.inr (pm.mem_iff.mp q)))
  have F4o:F4 one=other:=by rw[d3 one ne o1x];exact c1
  show aA F4 (one,other) x=_
  rw[List.flatten_cons];unfold aA;dsimp only
  by_cases q1:x=other
  ·rw[if_pos q1,F4o,q1,if_neg ne2,fe]
  ·rw[if_neg q1]
   by_cases q2:x=one
   ·rw[if_pos q2,d1,q2,if_neg no,fo]
   ·rw[if_neg q2]
    by_cases q3:x∈(g::t)++rest.flatten
    ·rw[if_pos q3]
     by_cases q4:x∈g::xH rest
     ·exact d2 x q4
     ·rw[d3 x q1 q4]
      have xt:x∈t:=by
       rcases List.mem_append.mp q3 with z | z
       ·rcases List.mem_cons.mp z with y | y
        ·exact absurd (by rw[y];exact List.mem_cons_self) q4
        ·exact y
       ·exact absurd (List.mem_cons_of_mem _ (pm.mem_iff.mpr z)) q4
      exact c2 x xt
    ·rw[if_neg q3]
     have n4:x∉g::xH rest:=fun z=>by
      rcases List.mem_cons.mp z with y | y
      ·exact q3 (by rw[y];exact gin)
      ·exact q3 (List.mem_append.mpr (.inr (pm.mem_iff.mp y)))
     have n5:x∉t:=fun z=>q3 (tin x z);rw[d3 x q1 n4,up x q2 q1 n5];exact m3 x q2 fun z=>q3 (by have:=hsub _ z;rw[List.flatten_cons]at this;exact this)
def Bu (rr:List (List Int)):List Int:=match rr with
 | []=>[]
 | last::rest=>(last::rest).reverse.map fK++last.tail
def Bv (rr:List (List Int)):List Int:=match rr with
 | []=>[]
 | last::rest=>last.getLastD 0::fK last::xH rest
theorem sM (one other:Int)(last:List Int)(rest:List (List Int)):(kU one other (last::rest)).Perm (((Bu (last::rest)).map fun x=>(one,x))++(((Bv (last::rest)).map fun x=>(other,x))++[(one,other)])):=by
 unfold kU Bu Bv;dsimp only;rw[List.map_append,List.map_map,List.append_assoc];refine List.Perm.append_left _ ?_;rw[List.map_cons,List.cons_append];exact List.perm_middle.symm
theorem B9 {one other:Int}(ne:one≠other){A B:List Int}(na:A.Nodup)(nb:B.Nodup)(a1:one∉A)(a2:other∉A)(b1:one∉B)(b2:other∉B):(((A.map fun x=>(one,x))++((B.map fun x=>(other,x))++[(one,other)])).map iV).Nodup:=by
 have inj:∀ o x y:Int,bW o x=bW o y->x=y:=fun o x y e=>by
  rcases fw.mp e with ⟨_,z⟩ | ⟨z1,z2⟩
  ·exact z
  ·rw[z2,z1]
 rw[List.map_append,List.map_append,List.map_map,List.map_map];refine List.nodup_append.mpr ⟨List.pairwise_map.mpr (na.imp fun {x y} hxy e=>hxy (inj one x y e)),List.nodup_append.mpr ⟨List.pairwise_map.mpr (nb.imp fun {x y} hxy e=>hxy (inj other x y e)),by simp,fun a ha b hb e=>?_⟩,fun a ha b hb e=>?_⟩
 ·obtain⟨x,hx,rfl⟩:=List.mem_map.mp ha
  rw[List.map_singleton,List.mem_singleton]at hb;rw[hb]at e;have e:bW other x=bW one other:=e;rcases fw.mp e with ⟨z,_⟩ | ⟨_,z⟩
  ·exact ne z.symm
  ·exact b1 (by rw[<-z];exact hx)
 ·obtain⟨x,hx,rfl⟩:=List.mem_map.mp ha
  rcases List.mem_append.mp hb with z | z
  ·obtain⟨y,hy,rfl⟩:=List.mem_map.mp z
   have e:bW one x=bW other y:=e;rcases fw.mp e with ⟨z,_⟩ | ⟨_,z⟩
   ·exact ne z
   ·exact a2 (by rw[<-z];exact hx)
  ·rw[List.map_singleton,List.mem_singleton]at z
   rw[z]at e;have e:bW one x=bW one other:=e;exact a2 (by rw[<-inj one x other e];exact hx)
theorem BZ:∀ {rr:List (List Int)},(∀ r∈rr,r≠[])->rr.flatten.Nodup->(rr.map fK).Nodup/\∀ x∈rr.map fK,x∈rr.flatten:=fun {rr}=>by
 induction rr with
 | nil=>intro _ _;exact⟨List.nodup_nil,fun x h=>by cases h⟩
 | cons r rr ih =>
  intro h n;rw[List.flatten_cons]at n;obtain⟨a1,a2,a3⟩:=List.nodup_append.mp n;obtain⟨i1,i2⟩:=ih (fun q hq=>h q (List.mem_cons_of_mem _ hq)) a2
  have h0:fK r∈r:=by
   have:=h r List.mem_cons_self
   cases r with
   | nil=>exact absurd rfl this
   | cons g t=>exact List.mem_cons_self
  refine⟨List.nodup_cons.mpr ⟨fun z=>a3 _ h0 _ (i2 _ z) rfl,i1⟩,fun x hx=>?_⟩;rw[List.flatten_cons,List.mem_append];rcases List.mem_cons.mp hx with z | z
  ·exact .inl (by rw[z];exact h0)
  ·exact .inr (i2 x z)
theorem Ac:∀ {rr:List (List Int)},(∀ r∈rr,2<=r.length)->rr.flatten.Nodup->(Bu rr).Nodup/\∀ x∈Bu rr,x∈rr.flatten
 | [],_,_=>⟨List.nodup_nil,fun x h=>by cases h⟩
 | last::rest,h,nd=>by
  obtain⟨h1,h2⟩:=BZ (rr:=last::rest) (fun r hr z=>by have:=h r hr;rw[z]at this;simp at this) nd;have hl:=h last List.mem_cons_self;unfold Bu;dsimp only;have nd0:=nd;rw[List.flatten_cons]at nd;obtain⟨n1,n2,n3⟩:=List.nodup_append.mp nd
  have rv:∀ x,x∈(last::rest).reverse.map fK↔x∈(last::rest).map fK:=fun x=>by rw[List.map_reverse,List.mem_reverse]
  refine⟨List.nodup_append.mpr ⟨by rw[List.map_reverse];exact (List.reverse_perm _).nodup_iff.mpr h1,?_,fun a ha b hb e=>?_⟩,fun x hx=>?_⟩
  ·cases last with
   | nil=>simp at hl
   | cons g t=>exact (List.nodup_cons.mp n1).2
  ·subst e
   have ha:=(rv a).mp ha
   cases last with
   | nil=>simp at hl
   | cons g t =>
    rcases List.mem_cons.mp ha with z | z
    ·exact (List.nodup_cons.mp n1).1 (by have:a=g:=z;rw[<-this];exact hb)
    ·obtain⟨r,hr,e⟩:=List.mem_map.mp z
     have hr0:fK r∈r:=by
      have:=h r (List.mem_cons_of_mem _ hr)
      cases r with
      | nil=>simp at this
      | cons g2 t2=>exact List.mem_cons_self
     exact n3 a (List.mem_cons_of_mem _ hb) a (List.mem_flatten.mpr ⟨r,hr,by rw[<-e];exact hr0⟩) rfl
  ·rcases List.mem_append.mp hx with z | z
   ·exact h2 x ((rv x).mp z)
   ·rw[List.flatten_cons];exact List.mem_append.mpr (.inl (List.mem_of_mem_tail z))
theorem Ad:∀ {rr:List (List Int)},(∀ r∈rr,2<=r.length)->rr.flatten.Nodup->(Bv rr).Nodup/\∀ x∈Bv rr,x∈rr.flatten
 | [],_,_=>⟨List.nodup_nil,fun x h=>by cases h⟩
 | last::rest,h,nd=>by
  have hl:=h last List.mem_cons_self
  have pm:=nL rest fun r hr z=>by have:=h r (List.mem_cons_of_mem _ hr);rw[z]at this;simp at this
  unfold Bv;dsimp only;rw[List.flatten_cons]at nd;obtain⟨n1,n2,n3⟩:=List.nodup_append.mp nd
  cases last with
  | nil=>simp at hl
  | cons g t =>
   have tn:t≠[]:=fun z=>by rw[z]at hl;simp at hl
   obtain⟨el,_⟩:=rp tn g;have lt:t.getLast tn∈t:=List.getLast_mem tn;rw[el];have e0:fK (g::t)=g:=rfl;rw[e0];refine⟨List.nodup_cons.mpr ⟨fun z=>?_,List.nodup_cons.mpr ⟨fun z=>n3 g List.mem_cons_self g (pm.mem_iff.mp z) rfl,pm.nodup_iff.mpr n2⟩⟩,fun x hx=>?_⟩
   ·rcases List.mem_cons.mp z with y | y
    ·exact (List.nodup_cons.mp n1).1 (by rw[<-y];exact lt)
    ·exact n3 _ (List.mem_cons_of_mem _ lt) _ (pm.mem_iff.mp y) rfl
   ·rw[List.flatten_cons]
    rcases List.mem_cons.mp hx with z | z
    ·exact List.mem_append.mpr (.inl (by rw[z];exact List.mem_cons_of_mem _ lt))
    ·rcases List.mem_cons.mp z with y | y
     ·exact List.mem_append.mpr (.inl (by rw[y];exact List.mem_cons_self))
     ·exact List.mem_append.mpr (.inr (pm.mem_iff.mp y))
theorem Ae {one other:Int}:∀ {rr:List (List Int)},(∀ r∈rr,2<=r.length)->(kU one other rr).length=if rr=[] then 0 else rr.flatten.length+rr.length+2
 | [],_=>rfl
 | last::rest,h=>by
  have hl:=h last List.mem_cons_self
  have pm:=nL rest fun r hr z=>by have:=h r (List.mem_cons_of_mem _ hr);rw[z]at this;simp at this
  rw[if_neg (by simp),(sM one other last rest).length_eq];unfold Bu Bv;dsimp only;rw[List.length_append,List.length_append,List.length_map,List.length_map,List.length_append,List.length_map,List.length_reverse,List.length_tail,List.length_cons,List.length_cons,List.length_cons,pm.length_eq,List.flatten_cons,List.length_append,List.length_singleton];omega
theorem sL {one other:Int}:∀ {rr:List (List Int)},(∀ r∈rr,2<=r.length)->rr.flatten.Nodup->∀ {p:Int×Int},p∈kU one other rr->(p.1=one\/p.1=other)/\(p.2∈rr.flatten\/p=(one,other))
 | [],_,_,p,hp=>by cases hp
 | last::rest,h,nd,p,hp=>by
  have:=(sM one other last rest).mem_iff.mp hp;rcases List.mem_append.mp this with z | z
  ·obtain⟨x,hx,rfl⟩:=List.mem_map.mp z
   exact⟨.inl rfl,.inl ((Ac h nd).2 x hx)⟩
  ·rcases List.mem_append.mp z with z | z
   ·obtain⟨x,hx,rfl⟩:=List.mem_map.mp z
    exact⟨.inr rfl,.inl ((Ad h nd).2 x hx)⟩
   ·rw[List.mem_singleton.mp z]
    exact⟨.inl rfl,.inr rfl⟩
theorem xL {one other:Int}(ne:one≠other):∀ {rr:List (List Int)},(∀ r∈rr,2<=r.length)->rr.flatten.Nodup->one∉rr.flatten->other∉rr.flatten->((kU one other rr).map iV).Nodup
 | [],_,_,_,_=>List.nodup_nil
 | last::rest,h,nd,n1,n2=>by
  obtain⟨a1,a2⟩:=Ac h nd;obtain⟨b1,b2⟩:=Ad h nd;exact ((sM one other last rest).map iV).nodup_iff.mpr (B9 ne a1 b1 (fun z=>n1 (a2 _ z)) (fun z=>n2 (a2 _ z)) (fun z=>n1 (b2 _ z)) (fun z=>n2 (b2 _ z)))
theorem gR.two {st:bQ}{ml:List (Int×Int)}(P:gR st.worn)(al:gS st ml){one other:Int}(ne:one≠other)(k1:one∈aq st.worn)(k2:other∈aq st.worn)(f1:wr st.worn one=one)(f2:wr st.worn other=other)(c1:cD st.circ one=[])(c2:cD st.circ other=[]) :
  let ps:=kU one other (ar st.worn).reverse
  v6 st.worn ml ps/\ps.foldl aA (wr st.worn)=id/\ps.length=(if ar st.worn=[] then 0 else (ar st.worn).flatten.length+(ar st.worn).length+2)/\∀ p∈ps,p.1=one\/p.1=other:=by
 intro ps;obtain⟨w1,w2,w3,w4⟩:=P.wrong;obtain⟨a,b,c,d⟩:=bX P.inj w3 w4 (aF st.worn) [] (fun x h=>h) (fun x h=>by cases h);have mem:∀ x,x∈(ar st.worn).flatten↔x∈aF st.worn:=fun x=>⟨fun z=>(b x z).2,fun z=>(c x z).elim (fun q=>by cases q) id⟩;have pf:(ar st.worn).reverse.flatten.Perm (ar st.worn).flatten:=(List.reverse_perm _).flatten;have nd:(ar st.worn).reverse.flatten.Nodup:=pf.nodup_iff.mpr a
 have h2:∀ r∈(ar st.worn).reverse,2<=r.length:=fun r hr=>by
  obtain⟨g,m,rfl,R,m2⟩:=P.ring2 (List.mem_reverse.mp hr);rw[bD];exact m2
 have no:∀ o,wr st.worn o=o->o∉(ar st.worn).reverse.flatten:=fun o fo z=>(w1 o ((mem o).mp (pf.mem_iff.mp z))).2 fo
 have met:∀ o,cD st.circ o=[]->∀ x,bW o x∉ml:=fun o co x z=>by
  have e2:iY ml o x=true:=decide_eq_true z;have:=al o x;rw[e2]at this;unfold cC at this;rw[co]at this;cases this
 refine⟨⟨fun p hp=>?_,xL ne h2 nd (no _ f1) (no _ f2)⟩,?_,?_,fun p hp=>(sL h2 nd hp).1⟩
 ·obtain⟨q1,q2⟩:=sL h2 nd hp
  have kk:p.1∈aq st.worn/\wr st.worn p.1=p.1/\cD st.circ p.1=[]:=by
   rcases q1 with z | z<;>rw[z]
   ·exact⟨k1,f1,c1⟩
   ·exact⟨k2,f2,c2⟩
  have kb:p.1≠p.2/\p.2∈aq st.worn:=by
   rcases q2 with z | z
   ·have:=w1 p.2 ((mem _).mp (pf.mem_iff.mp z))
    exact⟨fun e=>this.2 (by rw[<-e];exact kk.2.1),this.1⟩
   ·rw[z];exact⟨ne,k2⟩
  exact⟨kb.1,kk.1,kb.2,met _ kk.2.2 _⟩
 ·funext x
  have:=xK f1 f2 ne (ar st.worn).reverse (fun r hr=>by
   obtain⟨g,m,rfl,R,m2⟩:=P.ring2 (List.mem_reverse.mp hr)
   exact xA R m2) nd (no _ f1) (no _ f2) x
  rw[this];split
  ·rfl
  ·rename_i h
   show wr st.worn x=x
   refine Classical.byContradiction fun z=>h (pf.mem_iff.mpr ((mem x).mpr ?_))
   by_cases hk:x∈aq st.worn
   ·unfold aF
    exact List.mem_filter.mpr ⟨(b7 _).mem_iff.mpr hk,decide_eq_true z⟩
   ·exact absurd (by unfold wr;cases e:look st.worn x with | none=>rfl | some m=>exact absurd (bn.mp (by rw[e];rfl)) hk) z
 ·rw[Ae h2,pf.length_eq,List.length_reverse]
  by_cases e:ar st.worn=[]
  ·rw[if_pos e,if_pos (by rw[e];rfl)]
  ·rw[if_neg e,if_neg (by intro z;exact e (by simpa using z))]
def qz:Sp:=fun vs H Q _=>∃ (l:Addr)(rs:List (List Int))(one other:Int),vs=[.ref l,.int one,.int other]/\G5 H l rs/\rs.length<=64/\rs.flatten.length<=64/\(∀ r∈rs,2<=r.length)/\∀ (l':Addr)(H':Hp),H l'=none->ay H H'->cp H' l' (kU one other rs.reverse)->Q (.ref l') H'
def jh (c:HX):Sp:=fun vs H Q _=>∃ (p:Addr)(A:HA)(st:bQ)(L:List Int)(one other:Int),vs=[.ref p,.int one,.int other]/\aM c.C H p A st/\aV one/\aV other/\sQ L st/\L.length<64/\(look st.worn one).isSome=true/\(look st.worn other).isSome=true/\cD st.circ one=[]/\cD st.circ other=[]/\one≠other/\∀ H',ay H H'->Q .non H'
def nF (c:HX):Sp:=fun vs H Q _=>∃ (p:Addr)(A:HA)(st:bQ)(L:List Int)(one other:Int),vs=[.ref p,.int one,.int other]/\aM c.C H p A st/\cZ st/\st.worn.length<64/\(∀ g∈aq st.worn,aV g)/\aV one/\aV other/\sQ L st/\L.length<64/\(look st.worn one).isSome=true/\(look st.worn other).isSome=true/\cD st.circ one=[]/\cD st.circ other=[]/\one≠other /\
 ∀ (l':Addr)(H':Hp),H l'=none->ay H H'->cp H' l' (kU one other (ar st.worn).reverse)->Q (.ref l') H'
def nU (p:Int×Int):aN:=.exch p.1 p.2
end Wz
namespace L2
open PySem PySem.Spec PyProof.Rows PySem.Calls
def F9 (K:PySem.W.Frag)(a:Addr)(xs:List V):It :=
 ⟨fun i H=>aW K H a xs/\i<xs.length,fun i H x H'=>H'=H/\xs.reverse[i]? = some x,fun i H=>aW K H a xs/\xs.length<=i⟩
theorem Dl {P:Program}{w:World}{K:PySem.W.Frag}{tg:Expr}(a it:Addr)(hne:a≠it)(xs:List V):wf P w K tg (F9 K a xs) [it] it (fun i h=>i<=xs.length/\h.IsRevIter it a ((xs.length:Int)-1-i)) where
 mem:=by simp
 obj:=fun i h st b hb=>by
  have e:b=it:=by simpa using hb
  subst e;obtain⟨_,o,e,c,d⟩:=st;exact⟨o,e,fun v z=>by rw[d]at z;cases z⟩
 keep:=fun i h h' st k=>⟨st.1,st.2.at fun o e=>k it (by simp) o e⟩
 item:=by
  intro X hP hw hK hc i pins s σ H E I hf st hg;subst hP hw hK;obtain⟨hq,hi⟩:=hg;obtain⟨its,rv,pl,hz⟩:=I.list hq;obtain⟨f0,f1,f2,f3,f4,f5⟩:=hf it (by simp);have hl:=rv.length;have W:=Walks.listRev (prog:=X.prog) (w:=X.w) (A:=X.A) (I.ok.hd hc) it a hne its.toArray;refine W.item i s _ _ (by rw[List.size_toArray];omega) ⟨by rw[List.size_toArray];omega,by rw[List.size_toArray,<-hl];exact st.2,pl.isList⟩ fun v h' tk hv st' hk=>?_;obtain⟨s1,s2,s3⟩:=st';rw[List.size_toArray]at s1 s2 hv;have I1:aE X pins σ H { s with heap:=h',toks:=tk }:=I.turned (t':=tk) (fun b o hb e=>hk b o (by simpa using hb) e) f0 f1 f3 f4 f5;obtain⟨o,e,c,d⟩:=id s2;have er:xs.reverse[i]? = xs[xs.length-1-i]?:=List.getElem?_reverse hi;obtain⟨x,hx⟩:∃ x,xs[xs.length-1-i]? = some x:=⟨_,List.getElem?_eq_getElem (by omega)⟩;obtain⟨u,hu,ru⟩:=rv.get hx
  have hv':its[its.length-1-i]? = some v:=by simpa using hv
  rw[hl]at hu;rw[hu]at hv';have euv:u=v:=Option.some.inj hv';subst euv;refine⟨u,rfl,wz (s:={ s with heap:=h',toks:=tk }) e c d (by decide) ⟨x,H,I1,ru,⟨rfl,er.trans hx⟩,⟨by omega,?_⟩,fun b hb=>(hf b hb).1⟩⟩;rw[hl];exact s2
 done:=by
  intro X hP hw hK hc i pins s σ H E I hf st hg;subst hP hw hK;obtain⟨hq,hi⟩:=hg;obtain⟨its,rv,pl,hz⟩:=I.list hq;obtain⟨f0,f1,f2,f3,f4,f5⟩:=hf it (by simp);have hl:=rv.length;have ei:i=xs.length:=Nat.le_antisymm st.1 hi;subst ei;have W:=Walks.listRev (prog:=X.prog) (w:=X.w) (A:=X.A) (I.ok.hd hc) it a hne its.toArray;refine W.done s _ _ ⟨by rw[List.size_toArray];omega,by rw[List.size_toArray,<-hl];exact st.2,pl.isList⟩ fun h' tk hk=>⟨rfl,I.turned (t':=tk) (fun b o hb e=>hk b o (by simpa using hb) e) f0 f1 f3 f4 f5⟩
 self:=fun _ _ _ _ _ st h=>wpAny_pyIter_revIter st.2 h
def Hi (K:PySem.W.Frag)(te:TE):TI:=fun σ H R=>te σ H fun x H1=>∃ a xs,x=.ref a/\aW K H1 a xs/\R (F9 K a xs) H1
theorem Fr {X:Cx}{tg e:Expr}{te:TE}{p pos:Pos}(he:PE X e te)(hg:Gl X "reversed")(hm:X.mg "reversed" = none)(hs:starEach [e] X.env=[(false,eval e X.env)]:=by rfl):PI X tg (.Call (.Name "reversed" p) [e] [] pos) (Hi X.K te):=by
 intro pins s σ H R I h;refine wpAny_Call_Name_kw (lI I hg hm boot_reversed ?_ (by decide) (by decide));refine PyProof.Rows.callWith_type1 ?_ hs rfl;rw[hs];refine spliced_cons (bA (he pins s σ H _ I h) fun u s1 ⟨x,H1,I1,rx,a,xs,ex,hq,q⟩=>spliced_nil ?_);subst ex;cases rx;obtain⟨its,rv,pl,hz⟩:=I1.list hq
 have hlt:a<s1.heap.objs.size:=by obtain⟨o,n,e,_⟩:=pl;exact Heap.lt_size e
 have hl:=rv.length;refine call_reversed_list pl.isList ?_;refine wpAny_pyIter_revIter (s:={ s1 with heap:=s1.heap.push (revObj a ((its.toArray.size:Int)-1)) }) (i:=(its.toArray.size:Int)-1) ⟨_,Heap.get?_push_size _ rfl,rfl,rfl⟩ ?_;refine⟨s1.heap.objs.size,[s1.heap.objs.size],_,_,H1,rfl,I1.kept (t':=s1.toks) fun b o e=>Heap.get?_push_of_some _ e,Dl a _ (Nat.ne_of_lt hlt) xs,⟨Nat.zero_le _,?_⟩,fun b hb=>?_,q⟩
 ·rw[show ((xs.length:Int)-1-((0:Nat):Int))=(its.toArray.size:Int)-1 by rw[List.size_toArray,hl];simp]
  exact⟨_,Heap.get?_push_size _ rfl,rfl,rfl⟩
 ·have e:b=s1.heap.objs.size:=by simpa using hb
  subst e;exact I1.fpOk (Nat.le_refl _) (I1.hok.fresh (Nat.le_refl _))
theorem DN {K:PySem.W.Frag}{a:Addr}{xs:List V}{g:TG}{tb:TS}{D:jE}{σ:St}{H:Hp}(Pv:Nat->St->Hp->Prop)(h0:Pv 0 σ H)(hl:∀ i σ H,i<=xs.length->Pv i σ H->aW K H a xs)
  (hs:∀ i x σ H,xs.reverse[i]? = some x->Pv i σ H->g x σ H fun σ2 H2=>tb { D with nx:=Pv (i+1),ct:=Pv (i+1),bk:=D.nx } σ2 H2) (hd:∀ σ H,Pv xs.length σ H->D.nx σ H) :
  ∃ W:Nat->Nat->St->Hp->Prop,(∃ m,W 0 m σ H)/\∀ i m σ H,W i m σ H ->
   ((F9 K a xs).stop i H/\D.nx σ H)\/((F9 K a xs).go i H/\∃ N:St->Hp->Prop,(∀ σ' H',N σ' H'->∃ m',m'<m/\W (i+1) m' σ' H')/\∀ x H',(F9 K a xs).yld i H x H'->g x σ H' fun σ2 H2=>tb { D with nx:=N,ct:=N,bk:=D.nx } σ2 H2):=by
 refine⟨fun i m σ H=>m=xs.length-i/\i<=xs.length/\Pv i σ H,⟨xs.length,by simp,Nat.zero_le _,h0⟩,?_⟩;rintro i m σ H ⟨rfl,hi,p⟩;have q:=hl i σ H hi p
 by_cases hlt:i<xs.length
 ·refine .inr ⟨⟨q,hlt⟩,Pv (i+1),fun σ' H' p'=>⟨xs.length-(i+1),by omega,rfl,hlt,p'⟩,fun x H' y=>?_⟩
  obtain⟨e,hx⟩:=y;subst e;exact hs i x σ _ hx p
 ·have e:i=xs.length:=by omega
  subst e;exact .inl ⟨⟨q,Nat.le_refl _⟩,hd σ H p⟩
end L2
namespace Wz
open PySem L2
theorem nc {HH:Hp}{q t:Addr}{ds:List Addr}{ps:List (Int×Int)}{a b:Int}(h1:HH q=some (.lst (ds.map V.ref)))(h2:Paired (fun b (e:Int×Int)=>HH b=some (.tup [.int e.1,.int e.2])) ds ps)(ht:HH t=none) :
  cp (upd (upd HH t (.tup [.int a,.int b])) q (.lst (ds.map V.ref++[V.ref t]))) q (ps++[(a,b)]):=by
 refine⟨ds++[t],by rw[ae,List.map_append];rfl,?_⟩;exact aI (Paired.mapP h2 fun b e y=>by rw[af (bz y h1 (by intro u;cases u))];exact (aj ht) _ _ y) (.cons (by rw[af ((ak h1 ht).symm),ae]) .nil)
theorem zT {HH:Hp}{q:Addr}{ds cs:List Addr}{ps ps':List (Int×Int)}(h1:HH q=some (.lst (ds.map V.ref)))(h2:Paired (fun b (e:Int×Int)=>HH b=some (.tup [.int e.1,.int e.2])) ds ps)(h3:Paired (fun b (e:Int×Int)=>HH b=some (.tup [.int e.1,.int e.2])) cs ps') :
  cp (upd HH q (.lst (ds.map V.ref++cs.map V.ref))) q (ps++ps'):=by
 refine⟨ds++cs,by rw[ae,List.map_append],?_⟩;exact aI (Paired.mapP h2 fun b e y=>by rw[af (bz y h1 (by intro u;cases u))];exact y) (Paired.mapP h3 fun b e y=>by rw[af (bz y h1 (by intro u;cases u))];exact y)
theorem oP {K:PySem.W.Frag}{te:TE}{Qf:Hp->Prop}{lr q:Addr}{α:Type}{f:α->V}{pr:α->Int×Int}{zs:List α}{rest:St}{H:Hp}(hq:H q=none)(h1:H lr=some (.lst (zs.map f)))(hlen:zs.length<=1000)
  (ht:∀ (i:Nat)(z:α)(HK:Hp)(Q':VK),zs[i]? = some z->ay H HK->(∀ (t:Addr),HK t=none->Q' (.ref t) (upd HK t (.tup [.int (pr z).1,.int (pr z).2])))->te (some (f z)::rest) HK Q')
  (k:∀ (HK:Hp),ay H HK->cp HK q (zs.map pr)->Qf HK) :
  jP (DA K lr) (mJ 0) (BB tO te q) { nx:=fun _ H'=>Qf H',rt:=fun _ _=>False } (none::rest) (upd H q (.lst [])):=by
 refine bd (K:=K) (a:=lr) (xs:=zs.map f) (fun i σ HK=>∃ v:Option V,σ=v::rest/\ay H HK/\cp HK q ((zs.take i).map pr))
  ⟨none,rfl,aj hq,[],ae,.nil⟩ (fun i σ HK _ ⟨_,_,s2,_⟩=>aW.of (s2 _ _ h1)) ?_ ?_
 ·rintro i y σ HK hi ⟨v,rfl,t1,ds,hq2,pd⟩
  obtain⟨z,hz,rfl⟩:=bo hi;have hil:i<zs.length:=(List.getElem?_eq_some_iff.mp hz).1;have dl:=Paired.length pd;rw[List.length_map,List.length_take]at dl;refine f9 (ht i z HK _ hz t1 fun t ht=>?_);refine⟨_,(aj ht) _ _ hq2,by rw[List.length_map];exact aD (by omega),_,rfl,aY (t1.trans (aj ht)) hq,?_⟩;rw[List.take_add_one,hz,Option.toList_some,List.map_append];exact nc hq2 pd ht
 ·rintro σ HK ⟨v,rfl,t1,row⟩
  rw[List.length_map,List.take_length]at row;exact k HK t1 row
theorem Dy {as:List Addr}{rs:List (List Int)}(h:as.length=rs.length):(as.zip rs).map (fun z=>V.ref z.1)=as.map V.ref:=by
 have:(as.zip rs).map (fun z=>V.ref z.1)=((as.zip rs).map (·.1)).map V.ref:=by rw[List.map_map];rfl
 rw[this,List.map_fst_zip (by omega)]
theorem Et {as:List Addr}{rs:List (List Int)}(h:as.length=rs.length)(f:List Int->Int×Int):(as.zip rs).map (fun z=>f z.2)=rs.map f:=by
 have:(as.zip rs).map (fun z=>f z.2)=((as.zip rs).map (·.2)).map f:=by rw[List.map_map];rfl
 rw[this,List.map_snd_zip (by omega)]
theorem E6 (xs:List V)(n:Nat):gv xs none (some (n:Int))=xs.take n:=by
 unfold gv;rw[HT.sIx_none,HT.sIx_nat,List.drop_zero,Nat.sub_zero]
 by_cases h:n<=xs.length
 ·rw[Nat.min_eq_left h]
 ·rw[Nat.min_eq_right (by omega),List.take_of_length_le (by omega),List.take_of_length_le (by omega)]
theorem DG (xs:List V):gv xs none (some 1)=xs.take 1:=E6 xs 1
theorem Bw (one other:Int)(init:List (List Int))(last:List Int) :
  ((init++[last]).map fun r=>(one,fK r))++[(other,last.getLastD 0)]++(last.tail.map fun x=>(one,x))++[(other,fK last)]++(init.reverse.flatMap fun r=>(r.tail++r.take 1).map fun x=>(other,x))++[(one,other)]=kU one other (init++[last]).reverse:=by
 rw[List.reverse_append,List.reverse_singleton,List.singleton_append];unfold kU xH;dsimp only;rw[List.reverse_cons,List.reverse_reverse,List.map_cons,List.map_flatMap];simp only[List.append_assoc,List.cons_append,List.nil_append,List.singleton_append]
theorem mV {r:List Int}:∀ {rs:List (List Int)},r∈rs->r.length<=rs.flatten.length
 | q::rs,h=>by
  rw[List.flatten_cons,List.length_append];rcases List.mem_cons.mp h with z | z
  ·rw[z];omega
  ·have:=mV z
   omega
theorem xO:∀ (ps:List (Int×Int))(st:bQ),((ps.map nU).foldl after st).worn=kf st.worn ps
 | [],_=>rfl
 | p::ps,st=>by
  rw[List.map_cons,List.foldl_cons,xO ps];rfl
theorem xM (es:List aN)(ps:List (Int×Int)):(aw (es++ps.map nU)).worn=kf (aw es).worn ps:=by
 unfold aw;rw[List.foldl_append,xO]
theorem wH:∀ (ps:List (Int×Int))(st:bQ)(x:Int),(look st.worn x).isSome=true->(look ((ps.map nU).foldl after st).worn x).isSome=true
 | [],_,_,h=>h
 | p::ps,st,x,h=>by
  rw[List.map_cons,List.foldl_cons];refine wH ps _ x ?_
  show (look (put (put st.worn p.1 (wr st.worn p.2)) p.2 (wr st.worn p.1)) x).isSome=true
  rw[bS];split
  ·rfl
  ·rw[bS]
   split
   ·rfl
   ·exact h
theorem zI:∀ (ps:List (Int×Int))(ml:List (Int×Int))(x:Int×Int),x∈(ps.map nU).foldl nZ ml->x∈ml\/x∈ps.map iV
 | [],_,_,h=>.inl h
 | p::ps,ml,x,h=>by
  rw[List.map_cons,List.foldl_cons]at h;rcases zI ps _ x h with z | z
  ·have z:x∈nY ml (bW p.1 p.2):=z
   unfold nY at z;split at z
   ·exact .inl z
   ·rcases List.mem_append.mp z with y | y
    ·exact .inl y
    ·exact .inr (by rw[List.mem_singleton.mp y];exact List.mem_cons_self)
  ·exact .inr (List.mem_cons_of_mem _ z)
theorem ya {L:List Int}{es:List aN}(dn:bO es)(nm:∀ d∈es,∀ g∈names d,g∈L/\aV g){ps:List (Int×Int)}(fr:v6 (aw es).worn (fF es) ps)(kn:∀ g∈aq (aw es).worn,g∈L/\aV g) :
  bO (es++ps.map nU)/\∀ d∈es++ps.map nU,∀ g∈names d,g∈L/\aV g:=by
 have nmA:∀ d∈es++ps.map nU,∀ g∈names d,g∈L/\aV g:=fun d hd g hg=>by
  rcases List.mem_append.mp hd with z | z
  ·exact nm d z g hg
  ·obtain⟨p,hp,rfl⟩:=List.mem_map.mp z
   have:=fr.1 p hp;simp[nU,names]at hg;rcases hg with y | y<;>rw[y]
   ·exact kn _ this.2.1
   ·exact kn _ this.2.2.1
 refine⟨?_,nmA⟩
 have go:∀ n,n<=ps.length->bO (es++(ps.take n).map nU):=fun n=>by
  induction n with
  | zero=>intro _;simpa using dn
  | succ n ih =>
   intro hn;have ih:=ih (by omega);have hp:ps[n]? = some ps[n]:=List.getElem?_eq_getElem (by omega)
   have en:es++(ps.take (n+1)).map nU=(es++(ps.take n).map nU)++[nU ps[n]]:=by rw[List.take_add_one,hp,Option.toList_some,List.map_append,List.append_assoc];rfl
   rw[en];refine cr ih ?_
   have P:=lP ih (fun d hd=>nmA d (by
    rcases List.mem_append.mp hd with z | z
    ·exact List.mem_append.mpr (.inl z)
    ·obtain⟨p,hp,rfl⟩:=List.mem_map.mp z
     exact List.mem_append.mpr (.inr (List.mem_map.mpr ⟨p,List.mem_of_mem_take hp,rfl⟩)))) (es++(ps.take n).map nU).length
   rw[List.take_length]at P;obtain⟨f1,f2,f3,f4⟩:=fr.1 ps[n] (List.getElem_mem _)
   have lk:∀ x,x∈aq (aw es).worn->(look (aw (es++(ps.take n).map nU)).worn x).isSome=true:=fun x hx=>by
    have:=wH (ps.take n) (aw es) x (bn.mpr hx);unfold aw at this ⊢;rw[List.foldl_append];exact this
   obtain⟨m1,e1⟩:=Option.isSome_iff_exists.mp (lk _ f2);obtain⟨m2,e2⟩:=Option.isSome_iff_exists.mp (lk _ f3)
   have nm2:cC (aw (es++(ps.take n).map nU)).circ ps[n].1 ps[n].2=false:=by
    rw[P.al];refine decide_eq_false fun z=>?_;have z:iV ps[n]∈fF (es++(ps.take n).map nU):=z;unfold fF at z;rw[List.foldl_append]at z;rcases zI _ _ _ z with y | y
    ·exact f4 y
    ·rw[List.map_take]at y
     obtain⟨j,hj⟩:=List.getElem?_of_mem y;have hj2:=(List.getElem?_eq_some_iff.mp hj).1;rw[List.length_take,List.length_map]at hj2;rw[List.getElem?_take_of_lt (by omega)]at hj
     have hk:(ps.map iV)[n]? = some (iV ps[n]):=by rw[List.getElem?_map,hp];rfl
     have:=(List.getElem?_inj (by rw[List.length_map];omega) fr.2).mp (hj.trans hk.symm);omega
   show ba _ (.exch ps[n].1 ps[n].2)=.done
   unfold ba;dsimp only;rw[e1];dsimp only;rw[e2];dsimp only;rw[if_neg f1,nm2];rfl
 have:=go ps.length (Nat.le_refl _)
 rwa [List.take_length]at this
theorem gR.flat_len {W:List (Int×Int)}(P:gR W):(ar W).flatten.length=(aF W).length:=by
 obtain⟨w1,w2,w3,w4⟩:=P.wrong;obtain⟨a,b,c,d⟩:=bX P.inj w3 w4 (aF W) [] (fun x h=>h) (fun x h=>by cases h);have h1:=b6 a fun x hx=>(b x hx).2
 have nw:(aF W).Nodup:=by unfold aF;exact ((b7 _).nodup_iff.mpr P.nd).filter _
 have h2:=b6 nw fun x hx=>(c x hx).elim (fun q=>by cases q) id;exact Nat.le_antisymm h1 h2
open L2
def cI (st:bQ):List (List Int):=(ar st.worn).filter fun r=>!(cU st.circ r).isNone
def bG (st:bQ):List (List Int):=(ar st.worn).filter fun r=>(cU st.circ r).isNone
def kC (st:bQ):List (List Int):=(ar st.worn).filter fun r=>(br st.circ r).isNone
def jf (W:List (Int×Int))(ch:List Int->Int)(rs:List (List Int)):List (List Int):=rs.map fun r=>b8 (wr W) W.length (ch r)
def AZ (circ:List (Int×List Int))(one:Int)(rs:List (List Int)):List (Int×Int):=(rs.map (bJ circ)).flatMap (e8 one)
def sW (st:bQ):List (Int×Int):=cu (jf st.worn (dy st.circ) (cI st))
def qc (st:bQ)(one other:Int):List (Int×Int):=if kC st=[] then AZ st.circ one (bG st) else kU one other (bG st).reverse
def wU (st:bQ)(one other:Int):List (Int×Int):=sW st++qc st one other
section
variable {st:bQ}
theorem gR.flat (P:gR st.worn):(ar st.worn).flatten.Nodup/\(∀ x,x∈(ar st.worn).flatten->x∈aq st.worn/\wr st.worn x≠x)/\∀ x,x∉(ar st.worn).flatten->wr st.worn x=x:=by
 obtain⟨w1,w2,w3,w4⟩:=P.wrong;obtain⟨a,b,c,d⟩:=bX P.inj w3 w4 (aF st.worn) [] (fun x h=>h) (fun x h=>by cases h);exact⟨a,fun x hx=>w1 x (b x hx).2,fun x hx=>pz fun z=>hx ((c x z).elim (fun q=>by cases q) id)⟩
theorem db {rs:List (List Int)}(nd:rs.flatten.Nodup)(f:List Int->Bool):(rs.filter f).flatten.Nodup:=by
 obtain⟨h1,h2⟩:=List.pairwise_flatten.mp nd;exact List.pairwise_flatten.mpr ⟨fun l hl=>h1 l (List.mem_filter.mp hl).1,h2.filter f⟩
theorem Bg {rs:List (List Int)}(nd:rs.flatten.Nodup){r q:List Int}(hr:r∈rs)(hq:q∈rs){x:Int}(h1:x∈r)(h2:x∈q):r=q:=by
 obtain⟨i,hi⟩:=List.getElem?_of_mem hr;obtain⟨j,hj⟩:=List.getElem?_of_mem hq;have pw:=(List.pairwise_flatten.mp nd).2;rw[List.pairwise_iff_getElem]at pw;obtain⟨hi1,hi2⟩:=List.getElem?_eq_some_iff.mp hi;obtain⟨hj1,hj2⟩:=List.getElem?_eq_some_iff.mp hj;rcases Nat.lt_trichotomy i j with z | z | z
 ·have:=pw i j hi1 hj1 z
  rw[hi2,hj2]at this;exact absurd rfl (this x h1 x h2)
 ·subst z;rw[hi]at hj;exact Option.some.inj hj
 ·have:=pw j i hj1 hi1 z
  rw[hi2,hj2]at this;exact absurd rfl (this x h2 x h1)
theorem dc {r:List Int}:r∈cI st↔r∈ar st.worn/\(cU st.circ r).isNone=false:=by unfold cI;rw[List.mem_filter];simp
theorem bE {r:List Int}:r∈bG st↔r∈ar st.worn/\(cU st.circ r).isNone=true:=by unfold bG;rw[List.mem_filter]
theorem ou (P:gR st.worn){x:Int}(h1:x∈(cI st).flatten)(h2:x∈(bG st).flatten):False:=by
 obtain⟨r,hr,xr⟩:=List.mem_flatten.mp h1;obtain⟨q,hq,xq⟩:=List.mem_flatten.mp h2;obtain⟨r1,r2⟩:=dc.mp hr;obtain⟨q1,q2⟩:=bE.mp hq;rw[Bg P.flat.1 r1 q1 xr xq,q2]at r2;cases r2
theorem uW {x:Int}(h:x∈(cI st).flatten):x∈(ar st.worn).flatten:=by
 obtain⟨r,hr,xr⟩:=List.mem_flatten.mp h;exact List.mem_flatten.mpr ⟨r,(dc.mp hr).1,xr⟩
theorem gU {x:Int}(h:x∈(bG st).flatten):x∈(ar st.worn).flatten:=by
 obtain⟨r,hr,xr⟩:=List.mem_flatten.mp h;exact List.mem_flatten.mpr ⟨r,(bE.mp hr).1,xr⟩
theorem Az {x:Int}(h:x∈(ar st.worn).flatten):x∈(cI st).flatten\/x∈(bG st).flatten:=by
 obtain⟨r,hr,xr⟩:=List.mem_flatten.mp h
 cases e:(cU st.circ r).isNone with
 | false=>exact .inl (List.mem_flatten.mpr ⟨r,dc.mpr ⟨hr,e⟩,xr⟩)
 | true=>exact .inr (List.mem_flatten.mpr ⟨r,bE.mpr ⟨hr,e⟩,xr⟩)
theorem iE (P:gR st.worn):(jf st.worn (dy st.circ) (cI st)).flatten.Perm (cI st).flatten :=
 gA fun r hr=>(fP P (dc.mp hr).1 (iT (dc.mp hr).2).1).1
theorem uu (P:gR st.worn){ml:List (Int×Int)}(al:gS st ml)(mo:p8 ml){p:Int×Int}(hp:p∈sW st):∃ r∈cI st,p.1∈r/\p.2∈r/\p.1≠p.2/\iV p∉ml:=by
 unfold sW cu at hp;obtain⟨r,hr,hpr⟩:=List.mem_flatMap.mp hp;obtain⟨r0,h0,rfl⟩:=List.mem_map.mp hr;obtain⟨hh1,hh2⟩:=dc.mp h0;obtain⟨hc1,hc2⟩:=iT hh2;obtain⟨pr,R⟩:=fP P hh1 hc1;obtain⟨h1,h2,h3⟩:=nJ (dU P.inj R.2.2) hpr
 have hd:p.1=dy st.circ r0:=by
  unfold fS at hpr;obtain⟨y,_,rfl⟩:=List.mem_map.mp hpr
  show (b8 (wr st.worn) st.worn.length (dy st.circ r0)).headD 0=dy st.circ r0
  have m0:=R.1;unfold b8 aB;rw[show j9 (wr st.worn) st.worn.length (dy st.circ r0)=j9 (wr st.worn) st.worn.length (dy st.circ r0)-1+1 by omega,List.range_succ_eq_map];rfl
 refine⟨r0,h0,pr.mem_iff.mp h1,pr.mem_iff.mp h2,h3,fun z=>?_⟩;rw[<-hd,wJ al mo]at hc2;have:ur ml r0 p.1=true:=List.any_eq_true.mpr ⟨p.2,List.mem_filter.mpr ⟨pr.mem_iff.mp h2,decide_eq_true (Ne.symm h3)⟩,decide_eq_true z⟩;rw[hc2]at this;cases this
theorem AI (P:gR st.worn):((sW st).map iV).Nodup:=oo _ ((iE P).nodup_iff.mpr (db P.flat.1 _))
theorem wP (P:gR st.worn):(sW st).length+(cI st).length=(cI st).flatten.length:=by
 have h:=mL (jf st.worn (dy st.circ) (cI st)) fun r hr=>by
  obtain⟨r0,h0,rfl⟩:=List.mem_map.mp hr;rw[eZ];exact (fP P (dc.mp h0).1 (iT (dc.mp h0).2).1).2.1
 rw[show (jf st.worn (dy st.circ) (cI st)).length=(cI st).length by unfold jf;rw[List.length_map],(iE P).length_eq]at h;exact h
theorem AH (P:gR st.worn)(x:Int):(sW st).foldl aA (wr st.worn) x=if x∈(cI st).flatten then x else wr st.worn x:=by
 have:=oq P.inj (jf st.worn (dy st.circ) (cI st)) [] (wr st.worn) (fun r hr=>by
  obtain⟨r0,h0,rfl⟩:=List.mem_map.mp hr
  exact⟨_,_,rfl,(fP P (dc.mp h0).1 (iT (dc.mp h0).2).1).2⟩) ((iE P).nodup_iff.mpr (db P.flat.1 _)) (fun x _ h=>by cases h) (fun x=>by simp) x
 unfold sW;rw[this]
 by_cases hx:x∈(cI st).flatten
 ·rw[if_pos hx,if_pos (.inr ((iE P).mem_iff.mpr hx))]
 ·rw[if_neg hx,if_neg (by rintro (z | z);cases z;exact hx ((iE P).mem_iff.mp z))]
theorem zc {r:List Int}(h2:2<=r.length)(h:(br st.circ r).isNone=true):(cU st.circ r).isNone=true:=by
 unfold br at h;rw[Option.isNone_iff_eq_none,List.find?_eq_none]at h;unfold cU;rw[Option.isNone_iff_eq_none,List.find?_eq_none];intro g hg z;obtain⟨j,hj⟩:=List.getElem?_of_mem hg;have jl:=(List.getElem?_eq_some_iff.mp hj).1
 have key:∀ i,i<r.length->gE r i=g->e7 st.circ r g=true:=fun i hi e=>by
  have m:=h i (List.mem_range.mpr hi);have m:¬ (!cC st.circ (gE r i) (gW r i))=true:=m;rw[e]at m
  have m2:cC st.circ g (gW r i)=true:=by simpa using m
  have hin:gW r i∈r:=by unfold gW;rw[List.getElem?_eq_getElem hi];exact List.getElem_mem _
  unfold cC at m2;refine List.any_eq_true.mpr ⟨gW r i,(b7 _).mem_iff.mpr (of_decide_eq_true m2),decide_eq_true hin⟩
 have hm:e7 st.circ r g=true:=by
  by_cases e:j+1<r.length
  ·refine key (j+1) e ?_
   unfold gE;rw[if_neg (by omega),show j+1-1=j by omega,hj];rfl
  ·refine key 0 (by omega) ?_
   unfold gE;rw[if_pos rfl,show r.length-1=j by omega,hj];rfl
 rw[hm]at z;cases z
theorem gR.len2 (P:gR st.worn){r:List Int}(hr:r∈ar st.worn):2<=r.length:=by
 obtain⟨g,m,rfl,R,m2⟩:=P.ring2 hr;rw[bD];exact m2
theorem lJ (P:gR st.worn){r:List Int}(hr:r∈ar st.worn)(hs:(br st.circ r).isSome=true):(bJ st.circ r).Perm r:=by
 obtain⟨g,m,rfl,R,m2⟩:=P.ring2 hr;obtain⟨g',e,_,p,_⟩:=fE P.inj R m2 hs;rw[e];exact p
theorem pk {r:List Int}(h:kC st=[])(hr:r∈ar st.worn):(br st.circ r).isSome=true:=by
 cases e:br st.circ r with
 | some i=>rfl
 | none =>
  have:r∈kC st:=List.mem_filter.mpr ⟨hr,by rw[e];rfl⟩;rw[h]at this;cases this
theorem n6 (P:gR st.worn)(h:kC st=[]):((bG st).map (bJ st.circ)).flatten.Perm (bG st).flatten:=gA fun r hr=>lJ P (bE.mp hr).1 (pk h (bE.mp hr).1)
theorem ut (P:gR st.worn){ml:List (Int×Int)}(al:gS st ml){one other:Int}(ne:one≠other)(f1:wr st.worn one=one)(f2:wr st.worn other=other)(c1:cD st.circ one=[])(c2:cD st.circ other=[]){p:Int×Int}(hp:p∈qc st one other) :
  (p.2∈(bG st).flatten\/p=(one,other))/\(p.1=one\/p.1=other\/∃ r∈bG st,p.1∈r/\p.2∈r)/\p.1≠p.2/\iV p∉ml:=by
 have met:∀ o,cD st.circ o=[]->∀ x,bW o x∉ml:=fun o co x z=>by
  have e2:iY ml o x=true:=decide_eq_true z;have:=al o x;rw[e2]at this;unfold cC at this;rw[co]at this;cases this
 have out:∀ o,wr st.worn o=o->o∉(ar st.worn).flatten:=fun o fo z=>(P.flat.2.1 o z).2 fo;unfold qc at hp
 by_cases ht:kC st=[]
 ·rw[if_pos ht]at hp
  unfold AZ at hp;obtain⟨q,hq,hpq⟩:=List.mem_flatMap.mp hp;obtain⟨r,hr,rfl⟩:=List.mem_map.mp hq;obtain⟨hr1,hr2⟩:=bE.mp hr;have hs:=pk ht hr1;obtain⟨g,m,e0,R,m2⟩:=P.ring2 hr1;subst e0;obtain⟨g',e,R',pp,mt⟩:=fE P.inj R m2 hs;rw[e]at hpq;obtain⟨h1,h2⟩:=mZ (by rw[bD];exact m2) hpq;have p2:=pp.mem_iff.mp h1;have p2f:p.2∈(bG st).flatten:=List.mem_flatten.mpr ⟨_,hr,p2⟩;refine⟨.inl p2f,?_⟩;rcases h2 with z | ⟨z1,z2⟩
  ·refine⟨.inl z,fun q=>out one f1 (by rw[<-z,q];exact gU p2f),?_⟩
   show bW p.1 p.2∉ml
   rw[z];exact met one c1 _
  ·rw[uD _ _ (by omega),uC _ _ (by omega)]at z2
   refine⟨.inr (.inr ⟨_,hr,pp.mem_iff.mp z1,p2⟩),?_,fun z=>?_⟩
   ·rw[z2]
    exact R'.2.2 (m-1) (by omega) (by omega)
   ·have e2:iY ml p.1 p.2=true:=decide_eq_true z
    have:=al p.1 p.2;rw[e2,z2]at this;rw[mt]at this;cases this
 ·rw[if_neg ht]at hp
  have nd:(bG st).reverse.flatten.Nodup:=((List.reverse_perm _).flatten).nodup_iff.mpr (db P.flat.1 _);have pf:∀ x,x∈(bG st).reverse.flatten↔x∈(bG st).flatten:=fun x=>((List.reverse_perm (bG st)).flatten).mem_iff;obtain⟨q1,q2⟩:=sL (fun r hr=>P.len2 (bE.mp (List.mem_reverse.mp hr)).1) nd hp;have q2:p.2∈(bG st).flatten\/p=(one,other):=q2.imp (pf _).mp id
  have ko:wr st.worn p.1=p.1/\cD st.circ p.1=[]:=by
   rcases q1 with z | z<;>rw[z]
   ·exact⟨f1,c1⟩
   ·exact⟨f2,c2⟩
  refine⟨q2,q1.elim .inl (fun z=>.inr (.inl z)),?_,met _ ko.2 _⟩;rcases q2 with z | z
  ·exact fun q=>out p.1 ko.1 (by rw[q];exact gU z)
  ·rw[z];exact ne
theorem AG (P:gR st.worn){one other:Int}(ne:one≠other)(f1:wr st.worn one=one)(f2:wr st.worn other=other):((qc st one other).map iV).Nodup:=by
 have out:∀ o,wr st.worn o=o->o∉(bG st).flatten:=fun o fo z=>(P.flat.2.1 o (gU z)).2 fo;unfold qc;split
 ·rename_i ht
  unfold AZ;have pm:=n6 P ht;refine rT _ (pm.nodup_iff.mpr (db P.flat.1 _)) (fun x hx z=>out one f1 (by rw[<-z];exact pm.mem_iff.mp hx)) fun q hq=>?_;obtain⟨r,hr,rfl⟩:=List.mem_map.mp hq;rw[(lJ P (bE.mp hr).1 (pk ht (bE.mp hr).1)).length_eq];exact P.len2 (bE.mp hr).1
 ·have pf:=(List.reverse_perm (bG st)).flatten
  exact xL ne (fun r hr=>P.len2 (bE.mp (List.mem_reverse.mp hr)).1) (pf.nodup_iff.mpr (db P.flat.1 _)) (fun z=>out one f1 (pf.mem_iff.mp z)) (fun z=>out other f2 (pf.mem_iff.mp z))
theorem wO (P:gR st.worn)(one other:Int):(qc st one other).length=(bG st).flatten.length+(bG st).length+(if kC st=[] then 0 else 2):=by
 unfold qc;split
 ·rename_i ht
  unfold AZ
  have ol:∀ (rs:List (List Int)),(∀ r∈rs,0<r.length)->(rs.flatMap (e8 one)).length=rs.flatten.length+rs.length:=fun rs=>by
   induction rs with
   | nil=>intro _;rfl
   | cons r rs ih =>
    intro h;rw[List.flatMap_cons,List.length_append,ih fun q hq=>h q (List.mem_cons_of_mem _ hq),rS one (h r List.mem_cons_self),List.flatten_cons,List.length_append,List.length_cons];omega
  have h0:∀ q∈(bG st).map (bJ st.circ),0<q.length:=fun q hq=>by
   obtain⟨r,hr,rfl⟩:=List.mem_map.mp hq;rw[(lJ P (bE.mp hr).1 (pk ht (bE.mp hr).1)).length_eq];have:=P.len2 (bE.mp hr).1;omega
  rw[ol _ h0,(n6 P ht).length_eq,List.length_map];rfl
 ·rename_i ht
  rw[Ae (fun r hr=>P.len2 (bE.mp (List.mem_reverse.mp hr)).1),if_neg,((List.reverse_perm (bG st)).flatten).length_eq,List.length_reverse];intro z
  have z:bG st=[]:=by simpa using z
  obtain⟨r,hr⟩:=List.exists_mem_of_ne_nil _ ht;obtain⟨h1,h2⟩:=List.mem_filter.mp hr;have:r∈bG st:=bE.mpr ⟨h1,zc (P.len2 h1) h2⟩;rw[z]at this;cases this
theorem Cl (P:gR st.worn){one other:Int}(ne:one≠other)(f1:wr st.worn one=one)(f2:wr st.worn other=other):(wU st one other).foldl aA (wr st.worn)=id:=by
 funext x
 have out:∀ o,wr st.worn o=o->o∉(ar st.worn).flatten:=fun o fo z=>(P.flat.2.1 o z).2 fo
 have fin:(if x∈(cI st).flatten\/x∈(bG st).flatten then x else wr st.worn x)=x:=by
  split
  ·rfl
  ·rename_i h
   exact P.flat.2.2 x fun z=>h (Az z)
 unfold wU;rw[List.foldl_append];have hF:=AH P;generalize (sW st).foldl aA (wr st.worn)=F1 at hF
 show _=x
 unfold qc;split
 ·rename_i ht
  have pm:=n6 P ht;unfold AZ;rw[rV P.inj f1 ((bG st).map (bJ st.circ)) (cI st).flatten F1 (fun r hr=>?_) (pm.nodup_iff.mpr (db P.flat.1 _)) (fun x hx=>⟨fun z=>ou P z (pm.mem_iff.mp hx),fun z=>out one f1 (by rw[<-z];exact gU (pm.mem_iff.mp hx))⟩) hF x]
  ·by_cases h:x∈(cI st).flatten\/x∈((bG st).map (bJ st.circ)).flatten
   ·rw[if_pos h]
   ·rw[if_neg h]
    rw[if_neg fun z=>h (z.imp id pm.mem_iff.mpr)]at fin;exact fin
  ·obtain⟨r0,h0,rfl⟩:=List.mem_map.mp hr
   have hr1:=(bE.mp h0).1;obtain⟨g,m,rfl,R,m2⟩:=P.ring2 hr1;obtain⟨g',e,R',_,_⟩:=fE P.inj R m2 (pk ht hr1);exact⟨g',m,e,R',m2⟩
 ·have pf:=(List.reverse_perm (bG st)).flatten
  have g1:F1 one=one:=by rw[hF];split;rfl;exact f1
  have g2:F1 other=other:=by rw[hF];split;rfl;exact f2
  have same:∀ r∈bG st,∀ y∈r,F1 y=wr st.worn y:=fun r hr y hy=>by
   rw[hF,if_neg fun z=>ou P z (List.mem_flatten.mpr ⟨r,hr,hy⟩)]
  rw[xK g1 g2 ne (bG st).reverse (fun r hr=>?_) (pf.nodup_iff.mpr (db P.flat.1 _)) (fun z=>out one f1 (gU (pf.mem_iff.mp z))) (fun z=>out other f2 (gU (pf.mem_iff.mp z))) x,hF]
  ·by_cases h1:x∈(bG st).reverse.flatten
   ·rw[if_pos h1]
   ·rw[if_neg h1]
    by_cases h2:x∈(cI st).flatten
    ·rw[if_pos h2]
    ·rw[if_neg h2]
     rw[if_neg fun z=>z.elim h2 fun y=>h1 (pf.mem_iff.mpr y)]at fin;exact fin
  ·have hrb:=List.mem_reverse.mp hr
   have sm:=same r hrb;obtain⟨g,m,e0,R,m2⟩:=P.ring2 (bE.mp hrb).1;obtain⟨g3,t,e1,tn,fg,lt⟩:=xA R m2;rw[<-e0]at e1;refine⟨g3,t,e1,tn,?_,fL.congr (fun y hy=>sm y (by rw[e1];exact List.mem_cons_of_mem _ hy)) lt⟩;rw[sm g3 (by rw[e1];exact List.mem_cons_self)];exact fg
theorem AJ (P:gR st.worn){ml:List (Int×Int)}(al:gS st ml)(mo:p8 ml){one other:Int}(ne:one≠other)(k1:one∈aq st.worn)(k2:other∈aq st.worn)(f1:wr st.worn one=one)(f2:wr st.worn other=other)(c1:cD st.circ one=[])(c2:cD st.circ other=[]):v6 st.worn ml (wU st one other):=by
 have kr:∀ x∈(ar st.worn).flatten,x∈aq st.worn:=fun x hx=>(P.flat.2.1 x hx).1;refine⟨fun p hp=>?_,?_⟩
 ·rcases List.mem_append.mp hp with z | z
  ·obtain⟨r,hr,h1,h2,h3,h4⟩:=uu P al mo z
   exact⟨h3,kr _ (uW (List.mem_flatten.mpr ⟨r,hr,h1⟩)),kr _ (uW (List.mem_flatten.mpr ⟨r,hr,h2⟩)),h4⟩
  ·obtain⟨h1,h2,h3,h4⟩:=ut P al ne f1 f2 c1 c2 z
   refine⟨h3,?_,?_,h4⟩
   ·rcases h2 with y | y | ⟨r,hr,y,_⟩
    ·rw[y];exact k1
    ·rw[y];exact k2
    ·exact kr _ (gU (List.mem_flatten.mpr ⟨r,hr,y⟩))
   ·rcases h1 with y | y
    ·exact kr _ (gU y)
    ·rw[y];exact k2
 ·unfold wU
  rw[List.map_append];refine List.nodup_append.mpr ⟨AI P,AG P ne f1 f2,fun a ha b hb e=>?_⟩;obtain⟨p,hp,rfl⟩:=List.mem_map.mp ha;obtain⟨q,hq,rfl⟩:=List.mem_map.mp hb;obtain⟨r,hr,h1,h2,_,_⟩:=uu P al mo hp;obtain⟨g1,_,_,_⟩:=ut P al ne f1 f2 c1 c2 hq;have p1:p.1∈(cI st).flatten:=List.mem_flatten.mpr ⟨r,hr,h1⟩;have p2:p.2∈(cI st).flatten:=List.mem_flatten.mpr ⟨r,hr,h2⟩
  have q2:q.2∉(cI st).flatten:=fun z=>by
   rcases g1 with y | y
   ·exact ou P z y
   ·rw[y]at z;exact (P.flat.2.1 _ (uW z)).2 f2
  have e:bW p.1 p.2=bW q.1 q.2:=e;rcases fw.mp e with ⟨_,z⟩ | ⟨z,_⟩
  ·exact q2 (by rw[<-z];exact p2)
  ·exact q2 (by rw[<-z];exact p1)
end
theorem dj {rs qs:List (List Int)}(h:rs.Sublist qs):rs.flatten.length<=qs.flatten.length:=by
 induction h with
 | slnil=>exact Nat.le_refl _
 | cons a _ ih=>rw[List.flatten_cons,List.length_append];omega
 | cons_cons a _ ih=>rw[List.flatten_cons,List.length_append,List.flatten_cons,List.length_append];omega
theorem gR.flat64 {W:List (Int×Int)}(P:gR W)(h:W.length<64):(ar W).flatten.length<=64:=by
 obtain⟨w1,w2,w3,w4⟩:=P.wrong;obtain⟨a1,b1,_,_⟩:=bX P.inj w3 w4 (aF W) [] (fun x h=>h) (fun x h=>by cases h);have:(ar W).flatten.length<=(aq W).length:=b6 a1 fun x hx=>(w1 x (b1 x hx).2).1;unfold aq at this;rw[List.length_map]at this;omega
def kP (c:HX):Sp:=fun vs H Q _=>∃ (p l:Addr)(A:HA)(st:bQ)(as:List Addr)(L:List Int)(rs:List (List Int)),vs=[.ref p,.ref l]/\aM c.C H p A st/\cZ st/\st.worn.length<64/\(∀ g∈aq st.worn,aV g)/\sQ L st/\L.length<64/\H l=some (.lst (as.map V.ref))/\Paired (fun a (r:List Int)=>H a=some (.lst (r.map V.int))) as rs/\rs.Sublist (ar st.worn)/\(∀ r∈rs,(cU st.circ r).isNone=false) /\
 ∀ (l':Addr)(H':Hp),H l'=none->ay H H'->cp H' l' (cu (jf st.worn (dy st.circ) rs))->Q (.ref l') H'
def nk (c:HX):Sp:=fun vs H Q _=>∃ (p l:Addr)(A:HA)(st:bQ)(as:List Addr)(one:Int)(rs:List (List Int)),vs=[.ref p,.ref l,.int one]/\aM c.C H p A st/\cZ st/\st.worn.length<64/\H l=some (.lst (as.map V.ref))/\Paired (fun a (r:List Int)=>H a=some (.lst (r.map V.int))) as rs/\rs.Sublist (ar st.worn)/\(∀ r∈rs,(br st.circ r).isSome=true) /\
 ∀ (l':Addr)(H':Hp),H l'=none->ay H H'->cp H' l' (AZ st.circ one rs)->Q (.ref l') H'
def o7 (c:HX):Sp:=fun vs H Q _=>∃ (p:Addr)(A:HA)(st:bQ)(L:List Int)(one other:Int),vs=[.ref p,.int one,.int other]/\aM c.C H p A st/\cZ st/\st.worn.length<64/\(∀ g∈aq st.worn,aV g)/\aV one/\aV other/\sQ L st/\L.length<64/\(look st.worn one).isSome=true/\(look st.worn other).isSome=true/\cD st.circ one=[]/\cD st.circ other=[]/\one≠other /\
 ∀ (l':Addr)(H':Hp),H l'=none->ay H H'->cp H' l' (wU st one other)->Q (.ref l') H'
section
variable {st:bQ}{ml:List (Int×Int)}
end
end Wz
namespace L2
open PySem
theorem cQ.m {j k:Nat}{A:Around}(r:cQ k A)(h:j<=k:=by decide):cQ j A:=r.mono h
theorem dX {X:Cx}{e:Expr}{t:TE}(h:PE X e t)(hs:starEach [e] X.env=(false,eval e X.env)::starEach [] X.env:=by rfl):PA X [e] (jC t qo):=av h aJ hs
theorem c9 {X:Cx}{e e2:Expr}{t t2:TE}(h:PE X e t)(h2:PE X e2 t2)(hs:starEach [e,e2] X.env=(false,eval e X.env)::starEach [e2] X.env:=by rfl)(hs2:starEach [e2] X.env=(false,eval e2 X.env)::starEach [] X.env:=by rfl):PA X [e,e2] (jC t (jC t2 qo)):=av h (av h2 aJ hs2) hs
theorem vV {X:Cx}{e e2 e3:Expr}{t t2 t3:TE}(h:PE X e t)(h2:PE X e2 t2)(h3:PE X e3 t3)(hs:starEach [e,e2,e3] X.env=(false,eval e X.env)::starEach [e2,e3] X.env:=by rfl)(hs2:starEach [e2,e3] X.env=(false,eval e2 X.env)::starEach [e3] X.env:=by rfl)(hs3:starEach [e3] X.env=(false,eval e3 X.env)::starEach [] X.env:=by rfl):PA X [e,e2,e3] (jC t (jC t2 (jC t3 qo))):=av h (av h2 (av h3 aJ hs3) hs2) hs
theorem bK {X:Cx}{pos:Pos}(i:Nat){x:Str}{e:Expr}{te:TE}{pos':Pos}(hN:X.N.Nodup)(he:PE X e te)(hi:X.N[i]? = some x:=by rfl)(hx:FY X.env.scope x:=by first | exact Or.inl rfl | exact Or.inr rfl)(hs:swapsWith e (some (.Name x pos')) pos.line X.env=pure false:=by rfl)(hf:X.fn x=true\/X.env.scope.names.lookup x=some .local:=by first | exact .inl rfl | exact .inr rfl | assumption) :
  PS X (.Assign [.Name x pos'] e pos) (FB te (mJ i)):=dz hN hi hx he hs hf
theorem i8 {X:Cx}{pos:Pos}(i:Nat){x:Str}(hN:X.N.Nodup)(hi:X.N[i]? = some x:=by rfl)(hx:FY X.env.scope x:=by first | exact Or.inl rfl | exact Or.inr rfl)(hf:X.fn x=true\/X.env.scope.names.lookup x=some .local:=by first | exact .inl rfl | exact .inr rfl | assumption):PG X (.Name x pos) (mJ i):=kM hN hi hx hf
theorem vU {so sc:Scope}{N N':List Str}{src:List (Option Nat)}(a:sc.kind=.function:=by rfl)(b:∀ y∈sc.names,y.2≠.cell:=by decide +kernel)(c:∀ y∈sc.names,y.2=.local->sc.names.lookup y.1=some .local:=by decide +kernel)(d:∀ y∈sc.names,y.2=.free->so.names.lookup y.1=some .cell\/so.names.lookup y.1=some .free:=by decide +kernel)(e:N'.Nodup:=by decide +kernel)(f:src.length=N'.length:=by rfl)
  (g:∀ p∈N'.zip src,(match p.2 with | none=>true | some j=>decide (N[j]? = some p.1/\sc.names.lookup p.1=some .free))=true:=by decide +kernel):tQ so sc N N' src:=⟨a,b,c,d,e,f,g⟩
theorem eU {N P:List Str}{sc:Scope}(a:sc.kind=.function:=by rfl)(b:sc.isCoroutine=false:=by rfl)(c:sc.isGenerator=false:=by rfl)(d:N.Nodup:=by decide +kernel)(e:N.take P.length=P:=by rfl)(f:∀ x∈P,sc.names.lookup x=some .local\/sc.names.lookup x=some .cell:=by decide +kernel)(g:∀ y∈sc.names,y.2≠.free:=by decide +kernel):ax N P sc:=⟨a,b,c,d,e,f,g⟩
end L2
namespace Wz
open PySem L2
def aX (K:PySem.W.Frag)(x:Str)(st:Stmt):Prop:=∃ (f:Addr)(fd:FuncData),PySem.W.nsIn K mainGlobals x=some (some (.ref f))/\dv K x x st f fd
theorem fact_mk {K:PySem.W.Frag}{x:Str}{st:Stmt}{f:Addr}{oc:Value}{od an:Option Addr}{osl:Array (Option Value)}{kV doc pm cdv ct:Value}(a:PySem.W.nsIn K mainGlobals x=some (some (.ref f)))(l:K.lookup f=some ⟨oc,od,.func (PySem.W.fnOf x x (fU st) (eD st) (am st) .none kV doc pm an cdv ct),osl⟩)
  (c:PySem.W.codeIn K cdv x=true) (k:PySem.W.keepIn K (.ref f)=true):aX K x st:=⟨f,_,a,BW l c k⟩
def cX (K:PySem.W.Frag)(C:Addr)(m q:Str)(st:Stmt):Prop:=∃ (f:Addr)(fd:FuncData),PySem.W.findIn K (.ref C) m=some (some (.ref f))/\PySem.W.isFn K (.ref f)=true/\dv K m q st f fd
theorem mfact_mk {K:PySem.W.Frag}{C:Addr}{m q:Str}{st:Stmt}{f:Addr}{oc:Value}{od an:Option Addr}{osl:Array (Option Value)}{kV doc pm cdv ct:Value}(a:PySem.W.findIn K (.ref C) m=some (some (.ref f)))(i:PySem.W.isFn K (.ref f)=true)(l:K.lookup f=some ⟨oc,od,.func (PySem.W.fnOf m q (fU st) (eD st) (am st) .none kV doc pm an cdv ct),osl⟩)
  (c:PySem.W.codeIn K cdv q=true) (k:PySem.W.keepIn K (.ref f)=true):cX K C m q st:=⟨f,_,a,i,BW l c k⟩
section
variable {P:Program}{w:World}{K:PySem.W.Frag}{h base:Heap}{mg:Str->Option Value}{x m q:Str}{st:Stmt}{k:Nat}{ps:List Str}{sp:Sp}{C:Addr}{CX:vW}
theorem Cc {n:Nat}{P:List Value->Prop}(h:∀ (a:Value)(vs:List Value),vs.length=n->P (a::vs)):∀ us:List Value,us.length=n+1->P us
 | a::vs,e=>h a vs (Nat.succ.inj e)
theorem Gn {P:List Value->Prop}(h:P []):∀ us:List Value,us.length=0->P us
 | [],_=>h
theorem kJ (X:K.In h)(G:h.Ns mainGlobals mg)(F:aX K x st)(ok:∀ f fd,dv K x x st f fd->bb P w K mg base cL k f fd ps sp)
  (hb:∀ (kV doc pm:Value)(an:Option Addr)(cdv ct:Value)(us:List Value),us.length=ps.length->bindArgs (PySem.W.fnOf x x (fU st) (eD st) (am st) .none kV doc pm an cdv ct) ⟨us,[]⟩=pure (ps.zip us):=by intro _ _ _ _ _ _;(repeat refine Cc fun _=>?_);exact Gn rfl):au P w K mg base x k ps sp:=by
 obtain⟨f,fd,a,g⟩:=F;exact⟨f,fd,ok f fd g,PySem.W.mg_of X G a,g.kp,g.binds hb⟩
theorem Go (X:K.In h)(G:h.Ns mainGlobals mg)(F:aX K x st)(ok:∀ f fd,dv K x x st f fd->bb P w K mg base (jD P w) k f fd ps sp)
  (hb:∀ (kV doc pm:Value)(an:Option Addr)(cdv ct:Value)(us:List Value),us.length=ps.length->bindArgs (PySem.W.fnOf x x (fU st) (eD st) (am st) .none kV doc pm an cdv ct) ⟨us,[]⟩=pure (ps.zip us):=by intro _ _ _ _ _ _;(repeat refine Cc fun _=>?_);exact Gn rfl):XCallee P w K mg base x k ps sp:=by
 obtain⟨f,fd,a,g⟩:=F;exact⟨f,fd,ok f fd g,PySem.W.mg_of X G a,g.kp,g.binds hb⟩
theorem zJ (F:cX K C m q st)(ok:∀ f fd,dv K m q st f fd->bb P w K mg base CX k f fd ps sp)
  (hb:∀ (kV doc pm:Value)(an:Option Addr)(cdv ct:Value)(us:List Value),us.length=ps.length->bindArgs (PySem.W.fnOf m q (fU st) (eD st) (am st) .none kV doc pm an cdv ct) ⟨us,[]⟩=pure (ps.zip us):=by intro _ _ _ _ _ _;(repeat refine Cc fun _=>?_);exact Gn rfl):aP P w K mg base CX C m k ps sp:=by
 obtain⟨f,fd,a,i,g⟩:=F;exact⟨f,fd,ok f fd g,⟨a,i,g.kp⟩,g.binds hb⟩
end
end Wz
namespace L2
open PySem PySem.Spec PyProof.Rows
end L2
namespace Wz
open PySem L2
open L2
end Wz
namespace PySem
open Sem (wp)
section
variable {M:Model}{A:Around}{E:Value->Shared->Prop}{s:Shared}{env:Env}
def FZ (M:Model)(A:Around)(E:Value->Shared->Prop)(use:Option (Value->Sem Unit))(Q:Value->Shared->Prop)(acc:Value)(C:Addr)(fr:Option Addr)(r:Result)(s':Shared):Prop :=
 match r,use with
 | .ok _,none=>∃ m,s'.heap.Ns C m/\∀ h',Heap.SameBut C s'.heap h'->Q acc { s' with heap:=h' }
 | .ok _,some u=>wpAny M A (u acc) (fun _ s''=>∃ m,s''.heap.Ns C m/\∀ h',Heap.SameBut C s''.heap h'->Q .none { s'' with heap:=h' }) E s'
 | .error x,_=>∃ m,s'.heap.Ns C m/\∀ h',Heap.SameBut C s'.heap h'->∀ cenv:Env,cenv.frame=fr->wpAny M A (passOn "comprehension.variables-let-go" x cenv:Sem Value) (fun _ _=>False) E { s' with heap:=h' }
end
end PySem
namespace L2
open PySem PySem.Spec PyProof.Rows
section
variable {M:Model}{A:Around}{E:Value->Shared->Prop}{s:Shared}{B:Heap}{env:Env}{outer:List Env}{L e:Addr}{od:Option Addr}{c:Value}
end
section
variable {P:Program}{w:World}{K:PySem.W.Frag}{mg:Str->Option Value}{base:Heap}{N:List Str}{qual:Str}{sc:Scope}{f:Addr}{cd:Value}{A:Around}{outer:List Env}{s0:Shared}{H0:Hp}{E:XK}
end
def v8 (CX:vW)(X:Cx)(σ:St)(E:XK):Prop:=∀ (pins:List (Addr×Obj))(H:Hp)(s:Shared)(e:Value)(s':Shared),aE X pins σ H s->CX X.stack H s E e s'->X.xe e s'
theorem zS {X:Cx}{k:Nat}{ps:List Str}{sp:Sp}{E:St->XK}{x:Str}{p pos:Pos}{e:Expr}{es:List Expr}{t:TA}(M:Wz.XCallee X.prog X.w X.K X.mg X.base x k ps sp)(hr:cQ k X.A)(hg:Gl X x)(hx:∀ σ,v8 (jD X.prog X.w) X σ (E σ))(ha:PA X (e::es) t)
  (hdb:(x == ("__debug__" : Str))=false:=by decide) (he:starEach (e::es) X.env=(false,eval e X.env)::starEach es X.env:=by rfl) (hpl:(backTo pos (starEach es X.env)).any (·.1)=false:=by rfl) :
  PE X (.Call (.Name x p) (e::es) [] pos) (fun σ H Q=>z6 sp [] (E σ) t σ H Q):=by
 obtain⟨f,fd,F,hm,hk,hb⟩:=M;intro pins s σ H Q I h;refine wpAny_Call_Name_kw (iW I hg hm ?_ hdb);refine PySem.W.callWith_K (h₀:=X.base) I.ok.mod.kin hk (bA (ha pos pins s σ H _ I h) fun us s1 ⟨vs,H1,I1,r,q⟩=>⟨I1.kIn,?_⟩) he hpl;have r2:bt (vs++[]) (us++[]):=r.append .nil
 have hl:(us++[]).length=ps.length:=by rw[<-r2.length];exact F.len _ _ _ _ q
 refine wpAny_call (codeAny_mono (F.run X.A X.stack s1 H1 ⟨us,[]⟩ (us++[]) (vs++[]) Q (E σ) hr I1.env0 (hb s1 us I1.kIn hl) r2 q) fun r s' hq=>?_)
 cases r with
 | error e=>exact hx σ pins H1 s1 e s' I1 hq
 | ok fl =>
  cases fl with
  | ret u=>exact I1.after hq
  | next=>exact False.elim hq
  | brk=>exact False.elim hq
  | cont=>exact False.elim hq
def HS (X:Cx)(pins:List (Addr×Obj))(E:St->XK)(e:Value)(s':Shared):Prop:=∃ (σ:St)(H:Hp)(ea C:Addr)(od:Option Addr)(B:Heap),e=.ref ea/\EX X pins σ H ea C od B s'/\mD B X.stack ea (.ref C) od s'.heap/\σ.length=X.N.length/\E σ (.ref C) od H
theorem CB {X:Cx}{pins:List (Addr×Obj)}{E:St->XK}(σ:St):v8 (jD X.prog X.w) (X.tried pins (HS X pins E)) σ (E σ):=by
 intro qins H s e s' I hc;obtain⟨ea,C,od,H',B,rfl,fl,un,hok,os,bare,hsB,trB,hE⟩:=hc;exact⟨σ,H',ea,C,od,B,rfl,DV I.untried fl un hok os bare hsB trB,fl,I.len,hE⟩
theorem Eg {X:Cx}{b0:Stmt}{bs:List Stmt}{fK:ExceptHandler}{hdl:List ExceptHandler}{tb:(St->XK)->TS}{th:Value->Option Addr->TS}{pos:Pos}
  (hst:X.stack=X.env::X.outer) (hfr:X.env.frame=some X.env.locals) (hb:∀ pins E,xT (X.tried pins (HS X pins E)) (b0::bs) (tb E)) (hh:GU X (fK::hdl) th) :
  PS X (.Try (b0::bs) (fK::hdl) [] [] pos) (fun D σ H=>tb (fun σ' cls od H2=>th cls od D σ' H2) D σ H):=by
 intro pins s σ H D I h;refine wpAny_Try_except ?_;refine wpAny_mono (hb pins _ [] s σ H D I.tried h) (fun f s1 hq=>?_) fun e s' hx=>?_
 ·cases f with
  | next=>obtain⟨σ',H',I1,q⟩:=hq;exact wpAny_execs_nil ⟨σ',H',I1.untried,q⟩
  | brk=>obtain⟨σ',H',I1,q⟩:=hq;exact⟨σ',H',I1.untried,q⟩
  | cont=>obtain⟨σ',H',I1,q⟩:=hq;exact⟨σ',H',I1.untried,q⟩
  | ret u=>obtain⟨v,σ',H',I1,r,q⟩:=hq;exact⟨v,σ',H',I1.untried,r,q⟩
 ·obtain⟨σ',H',ea,C,od,B,rfl,ld,fl,hl,hE⟩:=hx
  have fl':=fl;rw[hst]at fl';refine AF (by rw[I.ok.frames,hst]) hfr fl' fun h4 held ups4=>?_;refine Fi held fun h5 fl5 ups5=>?_;rw[<-hst]at fl5;exact hh pins σ' H' D ea C od B s' h5 ld fl5 (ups4.trans ups5) hE
end L2
namespace Wz
open PySem L2
end Wz
namespace L2
open PySem PySem.Spec PyProof.Rows
section
variable {P:Program}{w:World}{A:Around}{E:Value->Shared->Prop}{s:Shared}
end
end L2
namespace Wz
open PySem L2
end Wz
namespace L2
open PySem PySem.Spec PyProof.Rows
open AutoSeq1 (wpAny_loadPart')
section
variable {prog:Program}{w:World}{A:Around}{E:Value->Shared->Prop}{s:Shared}
end
section
variable {X:Cx}{pins:List (Addr×Obj)}{σ:St}{H:Hp}{s:Shared}
end
section
variable {X:Cx}{CX:vW}{k:Nat}{E:XK}{x y:Str}{p pos:Pos}{e e1 e2:Expr}{es:List Expr}{te t1 t2:TE}{t:TA}
end
end L2
namespace Wz
open PySem L2
end Wz
namespace L2
open PySem PySem.Spec PyProof.Rows
end L2
namespace Wz
open PySem L2
end Wz
namespace L2
open PySem PySem.Spec PyProof.Rows
end L2
namespace Wz
open PySem L2
inductive E3 (R:Int->Int->Bool) (gs:List Int):Int->Int->Nat->Prop
 | nil (x:Int):E3 R gs x x 0
 | snoc {x y z:Int} {k:Nat}:E3 R gs x y k->R y z=true->z∈gs->E3 R gs x z (k+1)
end Wz
namespace L2
open PySem PySem.Spec PyProof.Rows
end L2
namespace Wz
open PySem L2
open PySem PySem.SetTable
open PySem PySem.Spec PyProof.Rows L2 PySem.SetTable
section
variable {P:Program}{w:World}{A:Around}{E:Value->Shared->Prop}{s:Shared}{a:Addr}{es:Array (Int×Value)}{ep:Nat}{t:SetTable}{L:List Int}
end
section
variable {P:Program}{w:World}{A:Around}{E:Value->Shared->Prop}{s:Shared}{a d I:Addr}{es:Array (Int×Value)}{ep:Nat}{t:SetTable}{L:List Int}
end
end Wz
set_option maxRecDepth 1000000
set_option maxHeartbeats 8000000
namespace Wz
open PySem PySem.Spec PyProof.Rows L2 PySem.SetTable
section
variable {P:Program}{w:World}{A:Around}{E:Value->Shared->Prop}{s:Shared}
end
section
variable {X:Cx}
end
open PySem L2
section
variable {P:Program}{w:World}{A:Around}{E:Value->Shared->Prop}{s:Shared}{a b:Addr}{es:Array (Int×Value)}{ep:Nat}{t:SetTable}{ps:List (Int×Int)}{p:Int×Int}
end
section
variable {P:Program}{w:World}{A:Around}{E:Value->Shared->Prop}{s:Shared}{a b:Addr}{es:Array (Int×Value)}{ep:Nat}{t:SetTable}{ps:List (Int×Int)}{p:Int×Int}
end
section
variable {X:Cx}
end
end Wz
namespace L2
open PySem PySem.Spec PyProof.Rows
end L2
namespace Wz
open PySem L2
theorem Fv {P:St->Hp->Prop}{G:Prop}(C:St->Hp->Prop)(main:(∀ σ HH,C σ HH->P σ HH)->G)(key:∀ σ HH,C σ HH->P σ HH):G:=main key
theorem Df {P:Hp->Prop}{G:Prop}(C:Hp->Prop)(main:(∀ HH,C HH->P HH)->G)(key:∀ HH,C HH->P HH):G:=main key
end Wz
set_option maxRecDepth 1000000
set_option maxHeartbeats 8000000
namespace Wz
open PySem PySem.Spec PyProof.Rows L2 PySem.SetTable
section
variable {P:Program}{w:World}{A:Around}{E:Value->Shared->Prop}{s:Shared}
end
section
variable {X:Cx}
end
open PySem L2
end Wz
namespace Tm
open PySem PyProof.Rows
def el (xs:Array Keyed)(i:Nat):Keyed:=xs.getD i (.none,.none)
theorem fq {xs:Array Keyed}{i:Nat}(h:i<xs.size):xs[i]? = some (el xs i):=by unfold el;simp[Array.getD,h]
theorem BO {xs:Array Keyed}{i:Nat}(h:i<xs.size):el xs i∈xs:=by
 have:=fq h;exact Array.mem_of_getElem? this
theorem fD {xs ys:Array Keyed}{i j:Nat}(h:xs[i]? = ys[j]?):el xs i=el ys j:=by
 unfold el;rw[Array.getD_eq_getD_getElem?,Array.getD_eq_getD_getElem?,h]
structure Ord (P:Program)(w:World)(A:Around)(s:Shared)(κ:SortKind)(a0:Array Keyed)(lt:Keyed->Keyed->Bool):Prop where
 cmp:∀ {x y:Keyed}{E:Value->Shared->Prop}{Q:Bool->Prop},x∈a0->y∈a0->Q (lt x y)->wpAny (model P w) A (keyLt' κ x.1 y.1) (fun b s'=>s'=s/\Q b) E s
 irr:∀ x,lt x x=false
 tr:∀ x y z,lt x y=true->lt y z=true->lt x z=true
 tot:∀ x y,x∈a0->y∈a0->x≠y->lt x y=true\/lt y x=true
 nd:a0.toList.Nodup
structure di (κ:SortKind)(a0:Array Keyed)(st:SortSt):Prop where
 pm:(arrOf st).Perm a0
 fl:failedOf st=none
 kd:kindOf st=κ
section
variable {P:Program}{w:World}{A:Around}{E:Value->Shared->Prop}{s:Shared}{κ:SortKind}{a0:Array Keyed}{lt:Keyed->Keyed->Bool}{st:SortSt}
theorem di.sz (B:di κ a0 st):(arrOf st).size=a0.size:=B.pm.size_eq
theorem di.mem (B:di κ a0 st){i:Nat}(h:i<a0.size):el (arrOf st) i∈a0:=B.pm.mem_iff.mp (BO (by rw[B.sz];exact h))
theorem Gp {xs:Array Keyed}(nd:xs.toList.Nodup){i j:Nat}(hi:i<xs.size)(hj:j<xs.size)(h:i≠j):el xs i≠el xs j:=fun e=>by
 have h1:xs.toList[i]? = some (el xs i):=by rw[Array.getElem?_toList];exact fq hi
 have h2:xs.toList[j]? = some (el xs i):=by rw[Array.getElem?_toList,e];exact fq hj
 exact h ((List.getElem?_inj (by simpa using hi) nd).mp (h1.trans h2.symm))
theorem di.ne (O:Ord P w A s κ a0 lt)(B:di κ a0 st){i j:Nat}(hi:i<a0.size)(hj:j<a0.size)(h:i≠j):el (arrOf st) i≠el (arrOf st) j :=
 Gp (B.pm.toList.nodup_iff.mpr O.nd) (by rw[B.sz];exact hi) (by rw[B.sz];exact hj) h
theorem Ord.not (O:Ord P w A s κ a0 lt){x y:Keyed}(hx:x∈a0)(hy:y∈a0)(n:x≠y)(h:lt x y=false):lt y x=true:=by
 rcases O.tot x y hx hy n with z | z
 ·rw[h]at z;cases z
 ·exact z
theorem Ord.asym (O:Ord P w A s κ a0 lt){x y:Keyed}(h:lt x y=true):lt y x=false:=by
 cases e:lt y x with
 | false=>rfl
 | true=>have:=O.tr _ _ _ h e;rw[O.irr]at this;cases this
theorem Ai (O:Ord P w A s κ a0 lt)(kd:kindOf st=κ){x y:Keyed}(hx:x∈a0)(hy:y∈a0){Q:Option Bool->SortSt->Prop}(h:Q (some (lt x y)) st):wpS (model P w) A E s (lt' x y) Q st:=by
 rw[lt'_eq];refine wpS_bind (wpS_get ?_);rw[kd];exact wpS_bind (wpS_lift (wpAny_attempt (O.cmp hx hy (wpS_pure h))))
theorem p0 {xs:Array Keyed}{i:Nat}(hi:i<xs.size){Q:Keyed->SortSt->Prop}(h:Q (el xs i) st):wpS (model P w) A E s (elem' xs i) Q st:=by
 rw[elem'_eq,fq hi];exact wpS_pure h
theorem xP (O:Ord P w A s κ a0 lt)(B:di κ a0 st){i j:Nat}(hi:i<a0.size)(hj:j<a0.size){Q:Option Bool->SortSt->Prop}(h:Q (some (lt (el (arrOf st) i) (el (arrOf st) j))) st):wpS (model P w) A E s (ltAt' i j) Q st:=by
 rw[ltAt'_eq];refine wpS_bind (wpS_get ?_);exact wpS_bind (p0 (by rw[B.sz];exact hi) (wpS_bind (p0 (by rw[B.sz];exact hj) (Ai O B.kd (B.mem hi) (B.mem hj) h))))
def Up (lt:Keyed->Keyed->Bool)(xs:Array Keyed)(lo hi:Nat):Prop:=∀ i j,lo<=i->i<j->j<hi->lt (el xs i) (el xs j)=true
def Dn (lt:Keyed->Keyed->Bool)(xs:Array Keyed)(lo hi:Nat):Prop:=∀ i j,lo<=i->i<j->j<hi->lt (el xs j) (el xs i)=true
def zi (xs ys:Array Keyed)(lo hi:Nat):Prop:=∀ i,i<lo\/hi<=i->el ys i=el xs i
theorem zi.refl (xs:Array Keyed)(lo hi:Nat):zi xs xs lo hi:=fun _ _=>rfl
theorem Up.snoc (O:Ord P w A s κ a0 lt){xs:Array Keyed}{lo n:Nat}(h1:1<=n)(h:Up lt xs lo (lo+n))(z:lt (el xs (lo+n-1)) (el xs (lo+n))=true):Up lt xs lo (lo+(n+1)):=fun i j hi hij hj=>by
 by_cases e:j=lo+n
 ·by_cases e2:i=lo+n-1
  ·rw[e,e2];exact z
  ·rw[e];exact O.tr _ _ _ (h i (lo+n-1) hi (by omega) (by omega)) z
 ·exact h i j hi hij (by omega)
theorem Dn.snoc (O:Ord P w A s κ a0 lt){xs:Array Keyed}{lo n:Nat}(h1:1<=n)(h:Dn lt xs lo (lo+n))(z:lt (el xs (lo+n)) (el xs (lo+n-1))=true):Dn lt xs lo (lo+(n+1)):=fun i j hi hij hj=>by
 by_cases e:j=lo+n
 ·by_cases e2:i=lo+n-1
  ·rw[e,e2];exact z
  ·rw[e];exact O.tr _ _ _ z (h i (lo+n-1) hi (by omega) (by omega))
 ·exact h i j hi hij (by omega)
def BC (st st':SortSt):Prop:=pendingOf st'=pendingOf st/\gallopOf st'=gallopOf st
theorem Av {xs:Array Keyed}{i j:Nat}(hj:j<=xs.size)(k:Nat):el (mirror xs i j ((j-i)/2)) k=if i<=k/\k<j then el xs (i+j-1-k) else el xs k:=by
 have e:=getElem?_mirror_all (i:=i) hj k
 by_cases h1:i<=k/\k<j
 ·rw[if_pos h1]at e ⊢;exact fD e
 ·rw[if_neg h1]at e ⊢;exact fD e
theorem FU (B:di κ a0 st){lo hi:Nat}(h:hi<=a0.size){Q:Unit->SortSt->Prop}(k:∀ st',di κ a0 st'->BC st st'->(∀ i,el (arrOf st') i=if lo<=i/\i<hi then el (arrOf st) (lo+hi-1-i) else el (arrOf st) i)->Q () st'):wpS (model P w) A E s (reverseSlice' lo hi) Q st:=by
 rw[reverseSlice'_eq];refine wpS_modify (k _ ⟨(mirror_perm _ _ _ _).trans B.pm,B.fl,B.kd⟩ ⟨rfl,rfl⟩ fun i=>?_);exact Av (by rw[B.sz];exact h) i
theorem Do (O:Ord P w A s κ a0 lt)(B:di κ a0 st){lo a m:Nat}(ha:1<=a)(ham:a<=m)(hs:lo+m<=a0.size)(u:Up lt (arrOf st) lo (lo+a)){Q:Option (Option Nat)×Nat->SortSt->Prop}
  (k:∀ n,a<=n->n<=m->Up lt (arrOf st) lo (lo+n)->(n<m->lt (el (arrOf st) (lo+n)) (el (arrOf st) (lo+n-1))=true)->Q (none,n) st) :
  wpS (model P w) A E s (forIn [a:m] ((none,a):Option (Option Nat)×Nat) fun x __s=>do
   let __x <-ltAt' (lo+__s.snd) (lo+__s.snd-1)
   match __x with
    | some smaller=>if smaller=true then pure (ForInStep.done (none,__s.snd)) else pure (ForInStep.yield (none,__s.snd+1))
    | x=>pure (ForInStep.done (some none,__s.snd))) Q st:=by
 refine wpS_forRange (I:=fun x c st'=>st'=st/\c=(none,x)/\Up lt (arrOf st) lo (lo+x)) ?step ?fin ⟨rfl,rfl,u⟩
 case fin =>
  rintro c st' ⟨rfl,rfl,h3⟩;rw[show max a m=m by omega]at h3 ⊢;exact k m ham (Nat.le_refl _) h3 (fun z=>by omega)
 case step =>
  rintro x c st' hx1 hx2 ⟨rfl,rfl,h3⟩;dsimp only;refine wpS_bind (xP O B (by omega) (by omega) ?_)
  cases e:lt (el (arrOf st') (lo+x)) (el (arrOf st') (lo+x-1)) with
  | true=>exact wpS_pure (k x hx1 (by omega) h3 fun _=>e)
  | false=>exact wpS_pure ⟨rfl,rfl,h3.snoc O (by omega) (O.not (B.mem (by omega)) (B.mem (by omega)) (B.ne O (by omega) (by omega) (by omega)) e)⟩
theorem Dq (O:Ord P w A s κ a0 lt)(B:di κ a0 st){lo m:Nat}(hm:1<=m)(hs:lo+m<=a0.size){Q:Option Nat->SortSt->Prop}
  (k:∀ n st',di κ a0 st'->BC st st'->1<=n->n<=m->Up lt (arrOf st') lo (lo+n)->zi (arrOf st) (arrOf st') lo (lo+m)->Q (some n) st'):wpS (model P w) A E s (countRun' lo m) Q st:=by
 rw[countRun'_eq];dsimp only;refine wpS_bind (Do O B (Nat.le_refl 1) hm hs (fun i j h1 h2 h3=>by omega) fun n n1 n2 u1 d1=>?_);dsimp only
 by_cases e1:n=m
 ·rw[if_pos (by simpa using e1)]
  exact wpS_pure (k n st B ⟨rfl,rfl⟩ n1 n2 u1 (zi.refl _ _ _))
 rw[if_neg (by simpa using e1)]
 by_cases e2:n>1
 ·rw[if_pos e2]
  refine wpS_bind (xP O B (by omega) (by omega) ?_);rw[u1 lo (lo+n-1) (Nat.le_refl _) (by omega) (by omega)];exact wpS_pure (k n st B ⟨rfl,rfl⟩ n1 n2 u1 (zi.refl _ _ _))
 rw[if_neg e2]
 have en:n=1:=by omega
 subst en;refine wpS_bind (wpS_lift (wpAny_rule ⟨rfl,?_⟩));have d2:=d1 (by omega);refine wpS_bind (wpS_mono (wpS_forRange (I:=fun x c st'=>st'=st/\c=(none,x,0)/\Dn lt (arrOf st) lo (lo+x)) (Q:=fun c st'=>st'=st/\∃ n,c=(none,n,0)/\2<=n/\n<=m/\Dn lt (arrOf st) lo (lo+n)) ?step ?fin ⟨rfl,rfl,?ini⟩) ?post)
 case ini =>
  intro i j h1 h2 h3
  have ei:i=lo:=by omega
  have ej:j=lo+1:=by omega
  rw[ei,ej];exact d2
 case fin =>
  rintro c st' ⟨rfl,rfl,h3⟩;exact⟨rfl,_,rfl,by omega,by omega,h3⟩
 case step =>
  rintro x c st' hx1 hx2 ⟨rfl,rfl,h3⟩;dsimp only;refine wpS_bind (xP O B (by omega) (by omega) ?_)
  cases e:lt (el (arrOf st') (lo+x)) (el (arrOf st') (lo+x-1)) with
  | true=>exact wpS_pure ⟨rfl,rfl,h3.snoc O (by omega) e⟩
  | false =>
   refine wpS_bind (xP O B (by omega) (by omega) ?_);rw[O.not (B.mem (by omega)) (B.mem (by omega)) (B.ne O (by omega) (by omega) (by omega)) e];exact wpS_pure ⟨rfl,x,rfl,hx1,by omega,h3⟩
 case post =>
  rintro c st' ⟨rfl,n,rfl,n2,n3,d3⟩;dsimp only;rw[if_neg (by omega)];refine wpS_bind (FU B (by omega) fun st2 B2 R2 e2=>?_)
  have u2:Up lt (arrOf st2) lo (lo+n):=fun i j h1 h2 h3=>by
   rw[e2,e2,if_pos (by omega),if_pos (by omega)];exact d3 _ _ (by omega) (by omega) (by omega)
  refine wpS_bind (Do O B2 (by omega) n3 hs u2 fun q q1 q2 u3 _=>?_);refine wpS_pure (k q st2 B2 R2 (by omega) q2 u3 fun i hi=>?_);rw[e2,if_neg (by omega)]
theorem Au {xs:Array Keyed}{src d:Nat}(hs:src<xs.size)(hd:d<=src)(k:Nat):el (bubble xs src d) k=if k=src-d then el xs src else if src-d<k/\k<=src then el xs (k-1) else el xs k:=by
 have e:=getElem?_bubble hs d hd k
 by_cases h1:k=src-d
 ·rw[if_pos h1]at e ⊢;exact fD e
 ·rw[if_neg h1]at e ⊢
  by_cases h2:src-d<k/\k<=src
  ·rw[if_pos h2]at e ⊢;exact fD e
  ·rw[if_neg h2]at e ⊢;exact fD e
theorem FT (O:Ord P w A s κ a0 lt)(B:di κ a0 st){lo n ok:Nat}(h1:1<=ok)(hok:ok<=n)(hs:lo+n<=a0.size)(u:Up lt (arrOf st) lo (lo+ok)){Q:Bool->SortSt->Prop}
  (k:∀ st',di κ a0 st'->BC st st'->Up lt (arrOf st') lo (lo+n)->zi (arrOf st) (arrOf st') lo (lo+n)->Q true st'):wpS (model P w) A E s (binarySort' lo n ok) Q st:=by
 rw[binarySort'_eq];refine wpS_bind (wpS_mono (wpS_forRange (I:=fun x c st'=>c=(none,())/\di κ a0 st'/\BC st st'/\Up lt (arrOf st') lo (lo+min x n)/\zi (arrOf st) (arrOf st') lo (lo+n)) (Q:=fun c st'=>c=(none,())/\di κ a0 st'/\BC st st'/\Up lt (arrOf st') lo (lo+n)/\zi (arrOf st) (arrOf st') lo (lo+n)) ?step ?fin ⟨rfl,B,⟨rfl,rfl⟩,by rw[show min (max ok 1) n=ok by omega];exact u,zi.refl _ _ _⟩) ?post)
 case post =>
  rintro c st' ⟨rfl,B',R',u',o'⟩;exact wpS_pure (k st' B' R' u' o')
 case fin =>
  rintro c st' ⟨hc,B',R',u',o'⟩;exact⟨hc,B',R',by rw[show min (max (max ok 1) n) n=n by omega]at u';exact u',o'⟩
 case step =>
  rintro x c st1 hx1 hx2 ⟨rfl,B1,R1,u1,o1⟩;rw[show min x n=x by omega]at u1
  refine wpS_bind (wpS_mono (wpS_forRange (I:=fun y c st'=>st'=st1/\∃ l r,c=(none,l,r)/\l<=r/\r<=x/\r-l<=x-y/\(∀ i,i<l->lt (el (arrOf st1) (lo+i)) (el (arrOf st1) (lo+x))=true)/\(∀ i,r<=i->i<x->lt (el (arrOf st1) (lo+x)) (el (arrOf st1) (lo+i))=true))
   (Q:=fun c st'=>st'=st1/\∃ l,c=(none,l,l)/\l<=x/\(∀ i,i<l->lt (el (arrOf st1) (lo+i)) (el (arrOf st1) (lo+x))=true)/\(∀ i,l<=i->i<x->lt (el (arrOf st1) (lo+x)) (el (arrOf st1) (lo+i))=true)) ?istep ?ifin ⟨rfl,0,x,rfl,by omega,by omega,by omega,fun i hi=>by omega,fun i h1 h2=>by omega⟩) ?ipost)
  case ifin =>
   rintro c st' ⟨rfl,l,r,rfl,a1,a2,a3,a4,a5⟩
   have e:l=r:=by omega
   subst e;exact⟨rfl,l,rfl,a2,a4,a5⟩
  case istep =>
   rintro y c st' _ hy ⟨rfl,l,r,rfl,a1,a2,a3,a4,a5⟩;dsimp only
   by_cases g:l>=r
   ·rw[if_pos g]
    have e:l=r:=by omega
    subst e;exact wpS_pure ⟨rfl,l,rfl,a2,a4,a5⟩
   rw[if_neg g];refine wpS_bind (xP O B1 (by omega) (by omega) ?_)
   cases e:lt (el (arrOf st') (lo+x)) (el (arrOf st') (lo+(l+r)/2)) with
   | true =>
    simp only[if_true];refine wpS_pure ⟨rfl,l,(l+r)/2,rfl,by omega,by omega,by omega,a4,fun i i1 i2=>?_⟩
    by_cases z:i=(l+r)/2
    ·rw[z];exact e
    ·exact O.tr _ _ _ e (u1 _ _ (by omega) (by omega) (by omega))
   | false =>
    simp only[Bool.false_eq_true,if_false];have e':=O.not (B1.mem (by omega)) (B1.mem (by omega)) (B1.ne O (by omega) (by omega) (by omega)) e;refine wpS_pure ⟨rfl,(l+r)/2+1,r,rfl,by omega,by omega,by omega,fun i i1=>?_,a5⟩
    by_cases z:i=(l+r)/2
    ·rw[z];exact e'
    ·exact O.tr _ _ _ (u1 _ _ (by omega) (by omega) (by omega)) e'
  case ipost =>
   rintro c st' ⟨rfl,l,rfl,a2,a4,a5⟩
   show wpS _ _ _ _ (do moveDown' (lo+x) (lo+l);pure (ForInStep.yield (none,()))) _ _
   rw[moveDown'_eq]
   have hks:lo+x<(arrOf st').size:=by rw[B1.sz];omega
   have eb:∀ i,el (bubble (arrOf st') (lo+x) (lo+x-(lo+l))) i=if i=lo+l then el (arrOf st') (lo+x) else if lo+l<i/\i<=lo+x then el (arrOf st') (i-1) else el (arrOf st') i:=fun i=>by
    rw[Au hks (by omega),show lo+x-(lo+x-(lo+l))=lo+l by omega]
   refine wpS_bind (wpS_modify (wpS_pure ⟨rfl,⟨(bubble_perm _ _ _).trans B1.pm,B1.fl,B1.kd⟩,R1,?_,fun i hi=>?_⟩))
   ·rw[show min (x+1) n=x+1 by omega]
    intro i j hi hij hj
    show lt (el (bubble (arrOf st') (lo+x) (lo+x-(lo+l))) i) (el (bubble (arrOf st') (lo+x) (lo+x-(lo+l))) j)=true
    rw[eb,eb]
    by_cases c1:i=lo+l
    ·rw[if_pos c1,if_neg (by omega),if_pos (by omega)]
     have:=a5 (j-1-lo) (by omega) (by omega)
     rwa [show lo+(j-1-lo)=j-1 by omega]at this
    ·rw[if_neg c1]
     by_cases c2:j=lo+l
     ·rw[if_pos c2,if_neg (by omega)]
      have:=a4 (i-lo) (by omega)
      rwa [show lo+(i-lo)=i by omega]at this
     ·rw[if_neg c2]
      by_cases c3:lo+l<i/\i<=lo+x
      ·rw[if_pos c3,if_pos (by omega)];exact u1 _ _ (by omega) (by omega) (by omega)
      ·rw[if_neg c3]
       by_cases c4:lo+l<j/\j<=lo+x
       ·rw[if_pos c4];exact u1 _ _ (by omega) (by omega) (by omega)
       ·rw[if_neg c4];exact u1 _ _ (by omega) (by omega) (by omega)
   ·show el (bubble (arrOf st') (lo+x) (lo+x-(lo+l))) i=_
    rw[eb,if_neg (by omega),if_neg (by omega)];exact o1 i hi
end
def uP:Bool->Keyed->Array Keyed->Nat->Nat->Nat->StateT SortSt Sem (Option Nat):=sortPriv% PySem.Builtin.gallop
def Bf (lt:Keyed->Keyed->Bool)(left:Bool)(key:Keyed)(xs:Array Keyed)(b i:Nat):Bool:=if left=true then lt (el xs (b+i)) key else !lt key (el xs (b+i))
section
variable {P:Program}{w:World}{A:Around}{E:Value->Shared->Prop}{s:Shared}{κ:SortKind}{a0:Array Keyed}{lt:Keyed->Keyed->Bool}{st:SortSt}
theorem By (O:Ord P w A s κ a0 lt)(kd:kindOf st=κ){left:Bool}{key:Keyed}{xs:Array Keyed}{b i:Nat}(hk:key∈a0)(hi:b+i<xs.size)(hx:el xs (b+i)∈a0){Q:Option Bool->SortSt->Prop}(h:Q (some (Bf lt left key xs b i)) st) :
  wpS (model P w) A E s (elem' xs (b+i) >>= fun x=>if left=true then lt' x key else lt' key x >>= fun r=>pure (r.map (!·))) Q st:=by
 refine wpS_bind (p0 hi ?_);unfold Bf at h
 by_cases hl:left=true
 ·rw[if_pos hl]at h ⊢
  exact Ai O kd hx hk h
 ·rw[if_neg hl]at h ⊢
  exact wpS_bind (Ai O kd hk hx (wpS_pure h))
theorem qp (O:Ord P w A s κ a0 lt){left:Bool}{key:Keyed}{xs:Array Keyed}{b n i j:Nat}(u:Up lt xs b (b+n))(hij:i<=j)(hj:j<n)(h:Bf lt left key xs b j=true):Bf lt left key xs b i=true:=by
 by_cases e:i=j
 ·rw[e];exact h
 have z:=u (b+i) (b+j) (by omega) (by omega) (by omega);unfold Bf at h ⊢
 by_cases hl:left=true
 ·rw[if_pos hl]at h ⊢
  exact O.tr _ _ _ z h
 ·rw[if_neg hl]at h ⊢
  cases q:lt key (el xs (b+i)) with
  | false=>rfl
  | true=>rw[O.tr _ _ _ q z]at h;cases h
theorem uJ (O:Ord P w A s κ a0 lt){left:Bool}{key:Keyed}{xs:Array Keyed}{b n i j:Nat}(u:Up lt xs b (b+n))(hij:i<=j)(hj:j<n)(h:Bf lt left key xs b i=false):Bf lt left key xs b j=false:=by
 cases e:Bf lt left key xs b j with
 | false=>rfl
 | true=>rw[qp O u hij hj e]at h;cases h
theorem py (O:Ord P w A s κ a0 lt)(kd:kindOf st=κ){left:Bool}{key:Keyed}{xs:Array Keyed}{b n hint:Nat}(hk:key∈a0)(hz:b+n<=xs.size)(hm:∀ i,i<n->el xs (b+i)∈a0)(u:Up lt xs b (b+n))(hh:hint<n){Q:Option Nat->SortSt->Prop}
  (k:∀ r,r<=n->(∀ i,i<r->Bf lt left key xs b i=true)->(∀ i,r<=i->i<n->Bf lt left key xs b i=false)->Q (some r) st):wpS (model P w) A E s (uP left key xs b n hint) Q st:=by
 have ask:∀ {i:Nat}{R:Option Bool->SortSt->Prop},i<n->R (some (Bf lt left key xs b i)) st->wpS (model P w) A E s (elem' xs (b+i) >>= fun x=>if left=true then lt' x key else lt' key x >>= fun r=>pure (r.map (!·))) R st:=fun hi h=>By O kd hk (by omega) (hm _ hi) h
 have fin:∀ lo hi:Nat,lo<=hi->hi<=n->(∀ i,i<lo->Bf lt left key xs b i=true)->(∀ i,hi<=i->i<n->Bf lt left key xs b i=false) ->
   ∀ {f:Nat->Option (Option Nat)×Nat×Nat->StateT SortSt Sem (ForInStep (Option (Option Nat)×Nat×Nat))} {g:Option (Option Nat)×Nat×Nat->StateT SortSt Sem (Option Nat)},
   (∀ x l h (R:ForInStep (Option (Option Nat)×Nat×Nat)->SortSt->Prop),h<=n->(l>=h->R (.done (none,l,h)) st)->(¬ l>=h->(Bf lt left key xs b (l+(h-l)/2)=true->R (.yield (none,l+(h-l)/2+1,h)) st)/\(Bf lt left key xs b (l+(h-l)/2)=false->R (.yield (none,l,l+(h-l)/2)) st))->wpS (model P w) A E s (f x (none,l,h)) R st) ->
   (∀ l h,g (none,l,h)=pure (some h))->wpS (model P w) A E s (forIn [0:n] ((none,lo,hi):Option (Option Nat)×Nat×Nat) f >>= g) Q st:=by
  intro lo hi h1 h2 h3 h4 f g ef eg
  refine wpS_bind (wpS_mono (wpS_forRange (I:=fun x c st'=>st'=st/\∃ l h,c=(none,l,h)/\l<=h/\h<=n/\h-l<=n-x/\(∀ i,i<l->Bf lt left key xs b i=true)/\(∀ i,h<=i->i<n->Bf lt left key xs b i=false))
   (Q:=fun c st'=>st'=st/\∃ h,c=(none,h,h)/\h<=n/\(∀ i,i<h->Bf lt left key xs b i=true)/\(∀ i,h<=i->i<n->Bf lt left key xs b i=false)) ?step ?fin ⟨rfl,lo,hi,rfl,h1,h2,by omega,h3,h4⟩) ?post)
  case fin =>
   rintro c st' ⟨rfl,l,h,rfl,a1,a2,a3,a4,a5⟩
   have e:l=h:=by omega
   subst e;exact⟨rfl,l,rfl,a2,a4,a5⟩
  case step =>
   rintro x c st' _ hx ⟨rfl,l,h,rfl,a1,a2,a3,a4,a5⟩;refine ef x l h _ a2 (fun g=>?_) (fun g=>⟨fun e=>?_,fun e=>?_⟩)
   ·have e:l=h:=by omega
    subst e;exact⟨rfl,l,rfl,a2,a4,a5⟩
   ·exact⟨rfl,_,h,rfl,by omega,a2,by omega,fun i hi=>qp O u (by omega) (by omega) e,a5⟩
   ·exact⟨rfl,l,_,rfl,by omega,by omega,by omega,a4,fun i i1 i2=>uJ O u i1 i2 e⟩
  case post =>
   rintro c st' ⟨rfl,h,rfl,a2,a4,a5⟩;rw[eg];exact wpS_pure (k h a2 a4 a5)
 unfold uP;refine wpS_bind ?_;refine ask hh ?_;dsimp only
 cases eh:Bf lt left key xs b hint with
 | true =>
  rw[if_pos rfl]
  refine wpS_bind (wpS_mono (wpS_forRange (I:=fun x c st'=>st'=st/\∃ la o,c=(none,la,o)/\x+1<=o/\la<o/\hint+la<n/\Bf lt left key xs b (hint+la)=true)
   (Q:=fun c st'=>st'=st/\∃ la o,c=(none,la,o)/\la<o/\hint+la<n/\Bf lt left key xs b (hint+la)=true/\(n-hint<=o\/(hint+o<n/\Bf lt left key xs b (hint+o)=false))) ?step ?fin ⟨rfl,0,1,rfl,by omega,by omega,by omega,eh⟩) ?post)
  case fin =>
   rintro c st' ⟨rfl,la,o,rfl,a1,a2,a3,a4⟩;exact⟨rfl,la,o,rfl,a2,a3,a4,.inl (by omega)⟩
  case step =>
   rintro x c st' _ hx ⟨rfl,la,o,rfl,a1,a2,a3,a4⟩;dsimp only
   by_cases g:o>=n-hint
   ·rw[if_pos g]
    exact wpS_pure ⟨rfl,la,o,rfl,a2,a3,a4,.inl g⟩
   rw[if_neg g];refine wpS_bind ?_;refine ask (i:=hint+o) (by omega) ?_
   cases e:Bf lt left key xs b (hint+o) with
   | true=>exact wpS_pure ⟨rfl,o,2*o+1,rfl,by omega,by omega,by omega,e⟩
   | false=>exact wpS_pure ⟨rfl,la,o,rfl,a2,a3,a4,.inr ⟨by omega,e⟩⟩
  case post =>
   rintro c st' ⟨rfl,la,o,rfl,a2,a3,a4,a5⟩;dsimp only
   refine fin _ _ (by omega) (by omega) (fun i hi=>qp O u (by omega) a3 a4) (fun i i1 i2=>?_) (fun x l h R hn r1 r2=>by
    dsimp only
    by_cases g:l>=h
    ·rw[if_pos g];exact wpS_pure (r1 g)
    rw[if_neg g];refine wpS_bind ?_;refine ask (i:=l+(h-l)/2) (by omega) ?_
    cases e:Bf lt left key xs b (l+(h-l)/2) with
    | true=>exact wpS_pure ((r2 g).1 e)
    | false=>exact wpS_pure ((r2 g).2 e)) (fun l h=>rfl)
   rcases a5 with z | ⟨z,e⟩
   ·omega
   ·exact uJ O u (by omega) i2 e
 | false =>
  rw[if_neg Bool.false_ne_true]
  refine wpS_bind (wpS_mono (wpS_forRange (I:=fun x c st'=>st'=st/\∃ la o,c=(none,la,o)/\x+1<=o/\la<o/\la<=hint/\Bf lt left key xs b (hint-la)=false)
   (Q:=fun c st'=>st'=st/\∃ la o,c=(none,la,o)/\la<o/\la<=hint/\Bf lt left key xs b (hint-la)=false/\(hint+1<=o\/(o<=hint/\Bf lt left key xs b (hint-o)=true))) ?step ?fin ⟨rfl,0,1,rfl,by omega,by omega,by omega,eh⟩) ?post)
  case fin =>
   rintro c st' ⟨rfl,la,o,rfl,a1,a2,a3,a4⟩;exact⟨rfl,la,o,rfl,a2,a3,a4,.inl (by omega)⟩
  case step =>
   rintro x c st' _ hx ⟨rfl,la,o,rfl,a1,a2,a3,a4⟩;dsimp only
   by_cases g:o>=hint+1
   ·rw[if_pos g]
    exact wpS_pure ⟨rfl,la,o,rfl,a2,a3,a4,.inl g⟩
   rw[if_neg g];refine wpS_bind ?_;refine ask (i:=hint-o) (by omega) ?_
   cases e:Bf lt left key xs b (hint-o) with
   | true=>exact wpS_pure ⟨rfl,la,o,rfl,a2,a3,a4,.inr ⟨by omega,e⟩⟩
   | false=>exact wpS_pure ⟨rfl,o,2*o+1,rfl,by omega,by omega,by omega,e⟩
  case post =>
   rintro c st' ⟨rfl,la,o,rfl,a2,a3,a4,a5⟩;dsimp only
   refine fin _ _ (by omega) (by omega) (fun i hi=>?_) (fun i i1 i2=>uJ O u (by omega) i2 a4) (fun x l h R hn r1 r2=>by
    dsimp only
    by_cases g:l>=h
    ·rw[if_pos g];exact wpS_pure (r1 g)
    rw[if_neg g];refine wpS_bind ?_;refine ask (i:=l+(h-l)/2) (by omega) ?_
    cases e:Bf lt left key xs b (l+(h-l)/2) with
    | true=>exact wpS_pure ((r2 g).1 e)
    | false=>exact wpS_pure ((r2 g).2 e)) (fun l h=>rfl)
   rcases a5 with z | ⟨z,e⟩
   ·omega
   ·exact qp O u (by omega) (by omega) e
end
def Fn (R:Keyed->Keyed->Prop)(T r:List Keyed):Prop:=r.Perm T/\r.Pairwise R
structure J (R:Keyed->Keyed->Prop)(T out ra rb:List Keyed):Prop where
 pm:(out++(ra++rb)).Perm T
 so:out.Pairwise R
 oa:∀ x,x∈out->∀ y,y∈ra->R x y
 ob:∀ x,x∈out->∀ y,y∈rb->R x y
 sa:ra.Pairwise R
 sb:rb.Pairwise R
 la:∀ x,x∈rb->∀ z,ra.getLast? = some z->R x z
section
variable {R:Keyed->Keyed->Prop}{T out ra rb p:List Keyed}
theorem J.mvA (j:J R T out (p++ra) rb)(h:∀ x,x∈p->∀ y,y∈rb->R x y):J R T (out++p) ra rb where
 pm:=by have:=j.pm;simpa [List.append_assoc] using this
 so:=List.pairwise_append.mpr ⟨j.so,(List.pairwise_append.mp j.sa).1,fun x hx y hy=>j.oa x hx y (List.mem_append_left _ hy)⟩
 oa:=fun x hx y hy=>by
  rcases List.mem_append.mp hx with q | q
  ·exact j.oa x q y (List.mem_append_right _ hy)
  ·exact (List.pairwise_append.mp j.sa).2.2 x q y hy
 ob:=fun x hx y hy=>by
  rcases List.mem_append.mp hx with q | q
  ·exact j.ob x q y hy
  ·exact h x q y hy
 sa:=(List.pairwise_append.mp j.sa).2.1
 sb:=j.sb
 la:=fun x hx z hz=>j.la x hx z (by rw[List.getLast?_append,hz];rfl)
theorem J.mvB (j:J R T out ra (p++rb))(h:∀ x,x∈p->∀ y,y∈ra->R x y):J R T (out++p) ra rb where
 pm:=by
  refine List.Perm.trans ?_ j.pm;rw[List.append_assoc];refine List.Perm.append_left _ ?_;rw[<-List.append_assoc,<-List.append_assoc];exact List.Perm.append_right _ List.perm_append_comm
 so:=List.pairwise_append.mpr ⟨j.so,(List.pairwise_append.mp j.sb).1,fun x hx y hy=>j.ob x hx y (List.mem_append_left _ hy)⟩
 oa:=fun x hx y hy=>by
  rcases List.mem_append.mp hx with q | q
  ·exact j.oa x q y hy
  ·exact h x q y hy
 ob:=fun x hx y hy=>by
  rcases List.mem_append.mp hx with q | q
  ·exact j.ob x q y (List.mem_append_right _ hy)
  ·exact (List.pairwise_append.mp j.sb).2.2 x q y hy
 sa:=j.sa
 sb:=(List.pairwise_append.mp j.sb).2.1
 la:=fun x hx z hz=>j.la x (List.mem_append_right _ hx) z hz
theorem J.done (j:J R T out ra []):Fn R T (out++ra):=⟨by simpa using j.pm,List.pairwise_append.mpr ⟨j.so,j.sa,j.oa⟩⟩
theorem J.lst {z:Keyed}(j:J R T out [z] rb):Fn R T (out++rb++[z]):=by
 refine⟨?_,List.pairwise_append.mpr ⟨List.pairwise_append.mpr ⟨j.so,j.sb,j.ob⟩,List.pairwise_singleton _ _,fun x hx y hy=>?_⟩⟩
 ·refine List.Perm.trans ?_ j.pm
  rw[List.append_assoc];exact List.Perm.append_left _ List.perm_append_comm
 ·rw[List.mem_singleton]at hy
  subst hy;rcases List.mem_append.mp hx with q | q
  ·exact j.oa x q y (List.mem_singleton.mpr rfl)
  ·exact j.la x q y rfl
theorem Fn.rev (h:Fn (fun x y=>R y x) T out):Fn R T out.reverse:=⟨(List.reverse_perm _).trans h.1,List.pairwise_reverse.mpr h.2⟩
end
theorem uN {a:Array Keyed}{i:Nat}(h:i<a.size):a.toList.drop i=el a i::a.toList.drop (i+1):=by
 have e:=fq h;rw[<-Array.getElem?_toList]at e
 have hl:i<a.toList.length:=by simpa using h
 rw[List.drop_eq_getElem_cons hl];rw[List.getElem?_eq_getElem hl]at e;injection e with e;rw[e]
theorem zy {a:Array Keyed}{i k:Nat}:a.toList.drop i=(a.extract i (i+k)).toList++a.toList.drop (i+k):=by
 rw[Array.toList_extract,List.extract_eq_take_drop,show i+k-i=k by omega,<-List.drop_drop,List.take_append_drop]
theorem u8 {a:Array Keyed}{i k:Nat}{x:Keyed}(h:x∈(a.extract i (i+k)).toList):∃ j,j<k/\i+j<a.size/\x=el a (i+j):=by
 rw[Array.mem_toList_iff,Array.mem_iff_getElem]at h;obtain⟨j,hj,e⟩:=h
 have hs:j<min (i+k) a.size-i:=by simpa using hj
 have h2:i+j<a.size:=by omega
 refine⟨j,by omega,h2,?_⟩;rw[<-e,Array.getElem_extract];unfold el;simp[Array.getD,h2]
theorem jZ {a:Array Keyed}{i:Nat}{x:Keyed}(h:x∈a.toList.drop i):∃ j,i<=j/\j<a.size/\x=el a j:=by
 obtain⟨j,hj⟩:=List.mem_iff_getElem?.mp h;rw[List.getElem?_drop,Array.getElem?_toList]at hj
 have hl:i+j<a.size:=by
  obtain⟨q,_⟩:=Array.getElem?_eq_some_iff.mp hj;exact q
 rw[fq hl]at hj;injection hj with hj;exact⟨i+j,by omega,hl,hj.symm⟩
theorem re {a:Array Keyed}{i:Nat}(h:a.size<=i):a.toList.drop i=[]:=List.drop_eq_nil_of_le (by simpa using h)
theorem uf {a:Array Keyed}{i:Nat}(h:i+1=a.size):a.toList.drop i=[el a i]:=by
 rw[uN (by omega),re (by omega)]
theorem up_pw {lt:Keyed->Keyed->Bool}{a:Array Keyed}(u:Up lt a 0 a.size):a.toList.Pairwise (fun x y=>lt x y=true):=by
 rw[List.pairwise_iff_getElem];intro i j hi hj hij
 have h1:i<a.size:=by simpa using hi
 have h2:j<a.size:=by simpa using hj
 have:=u i j (by omega) hij h2;unfold el at this;simpa [Array.getD,h1,h2] using this
def wN:Array Keyed->Array Keyed->StateT SortSt Sem (Array Keyed):=sortPriv% PySem.Builtin.mergeLo
def ig:Nat->StateT SortSt Sem Unit:=sortPriv% PySem.Builtin.setMinGallop
structure vT (a0:Array Keyed)(lt:Keyed->Keyed->Bool)(a b:Array Keyed):Prop where
 ma:∀ i,i<a.size->el a i∈a0
 mb:∀ i,i<b.size->el b i∈a0
 ne:∀ i j,i<a.size->j<b.size->el a i≠el b j
 ua:Up lt a 0 a.size
 ub:Up lt b 0 b.size
 za:0<a.size
 zb:0<b.size
 h0:lt (el b 0) (el a 0)=true
 hl:lt (el b (b.size-1)) (el a (a.size-1))=true
def ay (st st':SortSt):Prop:=arrOf st'=arrOf st/\failedOf st'=failedOf st/\kindOf st'=kindOf st/\pendingOf st'=pendingOf st
def Jl (lt:Keyed->Keyed->Bool)(a b:Array Keyed)(out:Array Keyed)(ia ib:Nat):Prop:=J (fun x y=>lt x y=true) (a.toList++b.toList) out.toList (a.toList.drop ia) (b.toList.drop ib)
def Sl (lt:Keyed->Keyed->Bool)(a b:Array Keyed)(n:Nat)(r:Option (Array Keyed))(out:Array Keyed)(ia ib:Nat):Prop :=
 (∃ q,r=some q/\Fn (fun x y=>lt x y=true) (a.toList++b.toList) q.toList)\/(r=none/\Jl lt a b out ia ib/\ia+1<a.size/\ib<b.size/\n<=out.size)
section
variable {P:Program}{w:World}{A:Around}{E:Value->Shared->Prop}{s:Shared}{κ:SortKind}{a0:Array Keyed}{lt:Keyed->Keyed->Bool}{st:SortSt}{a b out:Array Keyed}{ia ib k n:Nat}
theorem FW {st0:SortSt}{g:Nat}(hs:ay st0 st){Q:Unit->SortSt->Prop}(h:∀ st2,ay st0 st2->Q () st2):wpS (model P w) A E s (ig g) Q st:=by
 unfold ig;exact wpS_modify (h _ hs)
theorem dB {β:Type}{xs:Array Keyed}{i:Nat}(hi:i<xs.size){f:Keyed->StateT SortSt Sem β}{Q:β->SortSt->Prop}(h:wpS (model P w) A E s (f (el xs i)) Q st):wpS (model P w) A E s (elem' xs i >>= f) Q st:=wpS_bind (p0 hi h)
theorem Dp {β:Type}(O:Ord P w A s κ a0 lt)(kd:kindOf st=κ){x y:Keyed}(hx:x∈a0)(hy:y∈a0){f:Option Bool->StateT SortSt Sem β}{Q:β->SortSt->Prop}(h:wpS (model P w) A E s (f (some (lt x y))) Q st):wpS (model P w) A E s (lt' x y >>= f) Q st:=wpS_bind (Ai O kd hx hy h)
theorem qG {β:Type}{st0:SortSt}{g:Nat}(hs:ay st0 st){f:Unit->StateT SortSt Sem β}{Q:β->SortSt->Prop}(h:∀ st2,ay st0 st2->wpS (model P w) A E s (f ()) Q st2):wpS (model P w) A E s (ig g >>= f) Q st:=wpS_bind (FW hs h)
theorem qF {β:Type}(O:Ord P w A s κ a0 lt)(kd:kindOf st=κ){left:Bool}{key:Keyed}{xs:Array Keyed}{b n hint:Nat}(hk:key∈a0)(hz:b+n<=xs.size)(hm:∀ i,i<n->el xs (b+i)∈a0)(u:Up lt xs b (b+n))(hh:hint<n){f:Option Nat->StateT SortSt Sem β}{Q:β->SortSt->Prop}
  (k:∀ r,r<=n->(∀ i,i<r->Bf lt left key xs b i=true)->(∀ i,r<=i->i<n->Bf lt left key xs b i=false)->wpS (model P w) A E s (f (some r)) Q st):wpS (model P w) A E s (uP left key xs b n hint >>= f) Q st:=wpS_bind (py O kd hk hz hm u hh k)
theorem GP (u:Up lt a 0 a.size){x:Keyed}(h:x∈a.toList.drop ia):x=el a ia\/lt (el a ia) x=true:=by
 obtain⟨j,h1,h2,rfl⟩:=jZ h
 by_cases e:ia=j
 ·exact .inl (by rw[e])
 ·exact .inr (u _ _ (by omega) (by omega) h2)
theorem u7 (O:Ord P w A s κ a0 lt)(u:Up lt a 0 a.size){x:Keyed}(h:lt x (el a ia)=true){y:Keyed}(hy:y∈a.toList.drop ia):lt x y=true:=by
 rcases GP u hy with rfl | q
 ·exact h
 ·exact O.tr _ _ _ h q
theorem Jl.pB (O:Ord P w A s κ a0 lt)(W:vT a0 lt a b)(j:Jl lt a b out ia ib)(hb:ib<b.size)(h:lt (el b ib) (el a ia)=true):Jl lt a b (out.push (el b ib)) ia (ib+1):=by
 unfold Jl at j ⊢;rw[uN hb,show el b ib::b.toList.drop (ib+1)=[el b ib]++b.toList.drop (ib+1) from rfl]at j;rw[Array.toList_push]
 exact j.mvB fun x hx y hy=>by
  rw[List.mem_singleton]at hx;subst hx;exact u7 O W.ua h hy
theorem Jl.pA (O:Ord P w A s κ a0 lt)(W:vT a0 lt a b)(j:Jl lt a b out ia ib)(ha:ia<a.size)(h:lt (el a ia) (el b ib)=true):Jl lt a b (out.push (el a ia)) (ia+1) ib:=by
 unfold Jl at j ⊢;rw[uN ha,show el a ia::a.toList.drop (ia+1)=[el a ia]++a.toList.drop (ia+1) from rfl]at j;rw[Array.toList_push]
 exact j.mvA fun x hx y hy=>by
  rw[List.mem_singleton]at hx;subst hx;exact u7 O W.ub h hy
theorem Jl.mA (O:Ord P w A s κ a0 lt)(W:vT a0 lt a b)(j:Jl lt a b out ia ib)(h:∀ i,i<k->lt (el a (ia+i)) (el b ib)=true):Jl lt a b (out++a.extract ia (ia+k)) (ia+k) ib:=by
 unfold Jl at j ⊢;rw[zy (k:=k)]at j;rw[Array.toList_append]
 exact j.mvA fun x hx y hy=>by
  obtain⟨i,h1,_,rfl⟩:=u8 hx;exact u7 O W.ub (h i h1) hy
theorem Jl.mB (O:Ord P w A s κ a0 lt)(W:vT a0 lt a b)(j:Jl lt a b out ia ib)(h:∀ i,i<k->lt (el b (ib+i)) (el a ia)=true):Jl lt a b (out++b.extract ib (ib+k)) ia (ib+k):=by
 unfold Jl at j ⊢;rw[zy (a:=b) (k:=k)]at j;rw[Array.toList_append]
 exact j.mvB fun x hx y hy=>by
  obtain⟨i,h1,_,rfl⟩:=u8 hx;exact u7 O W.ua (h i h1) hy
theorem qq {a:Array Keyed}{i:Nat}:(a.extract i a.size).toList=a.toList.drop i:=by
 rw[Array.toList_extract,List.extract_eq_take_drop];exact List.take_of_length_le (by simp)
theorem Jl.dn (j:Jl lt a b out ia ib)(hb:ib=b.size):Fn (fun x y=>lt x y=true) (a.toList++b.toList) (out++a.extract ia a.size++b.extract ib b.size).toList:=by
 unfold Jl at j;rw[Array.toList_append,Array.toList_append,qq,qq,re (i:=ib) (by omega),List.append_nil];rw[re (i:=ib) (by omega)]at j;exact j.done
theorem Jl.ls (j:Jl lt a b out ia ib)(ha:ia+1=a.size):Fn (fun x y=>lt x y=true) (a.toList++b.toList) (out++b.extract ib b.size++a.extract ia a.size).toList:=by
 unfold Jl at j;rw[Array.toList_append,Array.toList_append,qq,qq,uf ha];rw[uf ha]at j;exact j.lst
theorem vT.abv (O:Ord P w A s κ a0 lt)(W:vT a0 lt a b){i:Nat}(hi:i<b.size):lt (el b i) (el a (a.size-1))=true:=by
 by_cases c:i=b.size-1
 ·rw[c];exact W.hl
 ·exact O.tr _ _ _ (W.ub i (b.size-1) (by omega) (by omega) (by omega)) W.hl
theorem Jl.ini (O:Ord P w A s κ a0 lt)(W:vT a0 lt a b):Jl lt a b #[el b 0] 0 1:=by
 have j:Jl lt a b #[] 0 0:=by
  refine⟨by simp,List.Pairwise.nil,(fun x hx=>nomatch hx),(fun x hx=>nomatch hx),by simpa using up_pw W.ua,by simpa using up_pw W.ub,fun x hx z hz=>?_⟩;obtain⟨i,_,hi,rfl⟩:=jZ hx
  have e:z=el a (a.size-1):=by
   rw[List.drop_zero,List.getLast?_eq_getElem?,Array.getElem?_toList,Array.length_toList,fq (by have:=W.za;omega)]at hz;injection hz with hz;exact hz.symm
  rw[e];exact W.abv O hi
 exact j.pB O W W.zb W.h0
theorem Jl.len (j:Jl lt a b out ia ib):out.size<=a.size+b.size:=by
 have:=j.pm.length_eq;simp only[List.length_append,Array.length_toList]at this;omega
end
theorem De {P:Nat->Prop}{G:Prop}(main:(∀ n,P n)->G)(key:∀ n,P n):G:=main key
theorem vE {P:Array Keyed->Nat->Prop}{G:Prop}(C:Array Keyed->Nat->Prop)(main:(∀ o i,C o i->P o i)->G)(key:∀ o i,C o i->P o i):G:=main key
section
variable {P:Program}{w:World}{A:Around}{E:Value->Shared->Prop}{s:Shared}{κ:SortKind}{a0:Array Keyed}{lt:Keyed->Keyed->Bool}{st:SortSt}{a b out:Array Keyed}{ia ib k n:Nat}
theorem GR (O:Ord P w A s κ a0 lt)(kd:kindOf st=κ)(W:vT a0 lt a b){Q:Array Keyed->SortSt->Prop}
  (fin:∀ q st',ay st st'->Fn (fun x y=>lt x y=true) (a.toList++b.toList) q.toList->Q q st'):wpS (model P w) A E s (wN a b) Q st:=by
 have sm:ay st st:=⟨rfl,rfl,rfl,rfl⟩;unfold wN;refine wpS_bind (wpS_lift (wpAny_rule ⟨rfl,?_⟩));refine wpS_bind (p0 W.zb ?_);dsimp only;have j0:=Jl.ini O W
 by_cases e1:1=b.size
 ·rw[if_pos (by simpa using e1)]
  exact wpS_pure (fin _ _ sm (j0.dn e1))
 rw[if_neg (by simpa using e1)]
 by_cases e2:0+1=a.size
 ·rw[if_pos (by simpa using e2)]
  exact wpS_pure (fin _ _ sm (j0.ls e2))
 rw[if_neg (by simpa using e2)];have za:=W.za;have zb:=W.zb;refine wpS_bind (wpS_get ?_)
 refine wpS_bind (wpS_mono (wpS_forRange (I:=fun x c st'=>ay st st'/\∃ out ia ib g,c=(none,out,ia,ib,g)/\Jl lt a b out ia ib/\ia+1<a.size/\ib<b.size/\x+1<=out.size)
  (Q:=fun c st'=>ay st st'/\∃ r o,c=(some r,o)/\Fn (fun x y=>lt x y=true) (a.toList++b.toList) r.toList) ?step ?fin ⟨sm,_,_,_,_,rfl,j0,by omega,by omega,by simp⟩) ?post)
 case post =>
  rintro c st' ⟨hs,r,o,rfl,hr⟩;exact wpS_pure (fin _ _ hs hr)
 case fin =>
  rintro c st' ⟨hs,out,ia,ib,g,rfl,j,ha,hb,hn⟩;have:=j.len;omega
 case step =>
  rintro x c st' _ hx ⟨hs,out,ia,ib,g,rfl,j,ha,hb,hn⟩;dsimp only
  refine wpS_bind (wpS_mono (wpS_forRange (I:=fun y c st'=>ay st st'/\∃ out ia ib ac bc,c=(none,out,ia,ib,ac,bc)/\Jl lt a b out ia ib/\ia+1<a.size/\ib<b.size/\x+1<=out.size)
   (Q:=fun c st'=>ay st st'/\∃ r out ia ib ac bc,c=(r,out,ia,ib,ac,bc)/\Sl lt a b (x+1) r out ia ib) ?step1 ?fin1 ⟨hs,_,_,_,_,_,rfl,j,ha,hb,hn⟩) ?post1)
  case fin1 =>
   rintro c st' ⟨hs,out,ia,ib,ac,bc,rfl,j,ha,hb,hn⟩;exact⟨hs,_,_,_,_,_,_,rfl,.inr ⟨rfl,j,ha,hb,hn⟩⟩
  case step1 =>
   rintro y c st' _ hy ⟨hs,out,ia,ib,ac,bc,rfl,j,ha,hb,hn⟩;dsimp only;refine dB hb ?_;refine dB (by omega) ?_;refine Dp O (hs.2.2.1.trans kd) (W.mb _ hb) (W.ma _ (by omega)) ?_
   cases el:lt (el b ib) (el a ia) with
   | true =>
    dsimp only;rw[if_pos rfl];refine dB hb ?_;have j3:=j.pB O W hb el
    by_cases e:ib+1=b.size
    ·rw[if_pos (by simpa using e)]
     exact wpS_pure ⟨hs,_,_,_,_,_,_,rfl,.inl ⟨_,rfl,j3.dn e⟩⟩
    rw[if_neg (by simpa using e)]
    by_cases e3:bc+1>=g
    ·rw[if_pos e3]
     exact wpS_pure ⟨hs,_,_,_,_,_,_,rfl,.inr ⟨rfl,j3,ha,by omega,by rw[Array.size_push];omega⟩⟩
    ·rw[if_neg e3]
     exact wpS_pure ⟨hs,_,_,_,_,_,rfl,j3,ha,by omega,by rw[Array.size_push];omega⟩
   | false =>
    dsimp only;rw[if_neg Bool.false_ne_true];refine dB (by omega) ?_;have j3:=j.pA O W (by omega) (O.not (W.mb _ hb) (W.ma _ (by omega)) (fun e=>W.ne _ _ (by omega) hb e.symm) el)
    by_cases e:ia+1+1=a.size
    ·rw[if_pos (by simpa using e)]
     exact wpS_pure ⟨hs,_,_,_,_,_,_,rfl,.inl ⟨_,rfl,j3.ls e⟩⟩
    rw[if_neg (by simpa using e)]
    by_cases e3:ac+1>=g
    ·rw[if_pos e3]
     exact wpS_pure ⟨hs,_,_,_,_,_,_,rfl,.inr ⟨rfl,j3,by omega,by omega,by rw[Array.size_push];omega⟩⟩
    ·rw[if_neg e3]
     exact wpS_pure ⟨hs,_,_,_,_,_,rfl,j3,by omega,by omega,by rw[Array.size_push];omega⟩
  case post1 =>
   rintro c st' ⟨hs,r,out,ia,ib,ac,bc,rfl,⟨q,rfl,hq⟩ | ⟨rfl,j,ha,hb,hn⟩⟩
   ·exact wpS_pure ⟨hs,_,_,rfl,hq⟩
   dsimp only;refine wpS_bind (wpS_lift (wpAny_rule ⟨rfl,?_⟩))
   refine wpS_bind (wpS_mono (wpS_forRange (I:=fun y c st'=>ay st st'/\∃ out ia ib g ac bc,c=(none,out,ia,ib,g,ac,bc)/\Jl lt a b out ia ib/\ia+1<a.size/\ib<b.size/\x+1+y<=out.size)
    (Q:=fun c st'=>ay st st'/\∃ r out ia ib g ac bc,c=(r,out,ia,ib,g,ac,bc)/\Sl lt a b (x+1+1) r out ia ib) ?step2 ?fin2 ⟨hs,_,_,_,_,_,_,rfl,j,ha,hb,hn⟩) ?post2)
   case fin2 =>
    rintro c st' ⟨hs,out,ia,ib,g,ac,bc,rfl,j,ha,hb,hn⟩;exact⟨hs,_,_,_,_,_,_,_,rfl,.inr ⟨rfl,j,ha,hb,by omega⟩⟩
   case post2 =>
    rintro c st' ⟨hs,r,out,ia,ib,g,ac,bc,rfl,⟨q,rfl,hq⟩ | ⟨rfl,j,ha,hb,hn⟩⟩
    ·exact wpS_pure ⟨hs,_,_,rfl,hq⟩
    dsimp only;refine qG hs fun st2 hs=>?_;exact wpS_pure ⟨hs,_,_,_,_,rfl,j,ha,hb,hn⟩
   case step2 =>
    rintro y c st' _ hy ⟨hs,out,ia,ib,g,ac,bc,rfl,j,ha,hb,hn⟩;dsimp only
    apply De
    ·intro rest
     by_cases gg:g>1
     ·rw[if_pos gg]
      generalize g-1=g';exact rest g'
     ·rw[if_neg gg]
      exact rest g
    intro g';refine qG hs fun st2 hs=>?_;refine dB hb ?_;refine qF (xs:=a) (b:=ia) (n:=a.size-ia) (hint:=0) O (hs.2.2.1.trans kd) (W.mb ib hb) (by omega) (fun i hi=>W.ma _ (by omega)) (fun i j h1 h2 h3=>W.ua i j (by omega) h2 (by omega)) (by omega) fun k k1 k2 k3=>?_;dsimp only
    have q1:∀ i,i<k->lt (el a (ia+i)) (el b ib)=true:=fun i hi=>by
     have:=k2 i hi;unfold Bf at this;rw[if_neg Bool.false_ne_true,Bool.not_eq_true']at this;exact O.not (W.mb _ hb) (W.ma _ (by omega)) (fun e=>W.ne _ _ (by omega) hb e.symm) this
    have q2:ia+k<a.size:=by
     rcases Nat.lt_or_ge (ia+k) a.size with q | q
     ·exact q
     ·have q4:=q1 (a.size-1-ia) (by omega)
      rw[show ia+(a.size-1-ia)=a.size-1 by omega,O.asym (W.abv O hb)]at q4;cases q4
    have q3:lt (el b ib) (el a (ia+k))=true:=by
     have:=k3 k (Nat.le_refl _) (by omega);unfold Bf at this
     rwa [if_neg Bool.false_ne_true,Bool.not_eq_false']at this
    apply vE (fun o i=>Jl lt a b o i ib/\x+1+y<=o.size/\lt (el b ib) (el a i)=true/\i+1<a.size)
    ·intro rest
     by_cases gk:k>0
     ·rw[if_pos gk]
      have j2:=j.mA O W q1
      by_cases e1:ia+k+1=a.size
      ·rw[if_pos (by simpa using e1)]
       exact wpS_pure ⟨hs,_,_,_,_,_,_,_,rfl,.inl ⟨_,rfl,j2.ls e1⟩⟩
      rw[if_neg (by simpa using e1),if_neg (by simp only[beq_iff_eq];omega)]
      have z3:x+1+y<=(out++a.extract ia (ia+k)).size:=by
       rw[Array.size_append];exact Nat.le_add_right_of_le hn
      generalize out++a.extract ia (ia+k)=o at j2 z3 ⊢;have q2':=q2;have q3':=q3;generalize ia+k=i at j2 q2' q3' e1 ⊢;exact rest o i ⟨j2,z3,q3',by omega⟩
     ·rw[if_neg gk]
      exact rest out ia ⟨j,hn,by rw[show ia=ia+k by omega];exact q3,ha⟩
    rintro o i ⟨j,z3,q3,hi⟩;refine dB hb ?_;have j3:=j.pB O W hb q3
    by_cases e2:ib+1=b.size
    ·rw[if_pos (by simpa using e2)]
     exact wpS_pure ⟨hs,_,_,_,_,_,_,_,rfl,.inl ⟨_,rfl,j3.dn e2⟩⟩
    rw[if_neg (by simpa using e2)];refine dB (i:=i) (by omega) ?_;refine qF (xs:=b) (b:=ib+1) (n:=b.size-(ib+1)) (hint:=0) O (hs.2.2.1.trans kd) (W.ma i (by omega)) (by omega) (fun i hi=>W.mb _ (by omega)) (fun i j h1 h2 h3=>W.ub i j (by omega) h2 (by omega)) (by omega) fun l l1 l2 l3=>?_;dsimp only
    have r1:∀ h,h<l->lt (el b (ib+1+h)) (el a i)=true:=fun h hh=>by
     have:=l2 h hh;unfold Bf at this
     rwa [if_pos rfl]at this
    have r3:ib+1+l<b.size->lt (el a i) (el b (ib+1+l))=true:=fun hl=>by
     have:=l3 l (Nat.le_refl _) (by omega);unfold Bf at this;rw[if_pos rfl]at this;exact O.not (W.mb _ hl) (W.ma _ (by omega)) (fun e=>W.ne _ _ (by omega) hl e.symm) this
    have z3':x+1+y+1<=(o.push (el b ib)).size:=by
     rw[Array.size_push];exact Nat.succ_le_succ z3
    apply vE (fun o m=>Jl lt a b o i m/\x+1+y+1<=o.size/\lt (el a i) (el b m)=true/\m<b.size)
    ·intro rest
     by_cases gl:l>0
     ·rw[if_pos gl]
      have j4:=j3.mB O W r1
      by_cases e5:ib+1+l=b.size
      ·rw[if_pos (by simpa using e5)]
       exact wpS_pure ⟨hs,_,_,_,_,_,_,_,rfl,.inl ⟨_,rfl,j4.dn e5⟩⟩
      rw[if_neg (by simpa using e5)];have r4:=r3 (by omega)
      have z4:x+1+y+1<=(o.push (el b ib)++b.extract (ib+1) (ib+1+l)).size:=by
       rw[Array.size_append];exact Nat.le_add_right_of_le z3'
      generalize o.push (el b ib)++b.extract (ib+1) (ib+1+l)=o' at j4 z4 ⊢
      have m4:ib+1+l<b.size:=by omega
      generalize ib+1+l=m at j4 r4 m4 ⊢;exact rest o' m ⟨j4,z4,r4,m4⟩
     ·rw[if_neg gl]
      have r4:=r3 (by omega);rw[show l=0 by omega,Nat.add_zero]at r4;exact rest _ _ ⟨j3,z3',r4,by omega⟩
    rintro o m ⟨j,z4,r3,hm⟩;refine dB (i:=i) (by omega) ?_;have j5:=j.pA O W (by omega) r3
    by_cases e3:i+1+1=a.size
    ·rw[if_pos (by simpa using e3)]
     exact wpS_pure ⟨hs,_,_,_,_,_,_,_,rfl,.inl ⟨_,rfl,j5.ls e3⟩⟩
    rw[if_neg (by simpa using e3)]
    have z5:x+1+y+1<=(o.push (el a i)).size:=by
     rw[Array.size_push];exact Nat.le_succ_of_le z4
    by_cases e4:(decide (k<7)&&decide (l<7))=true
    ·rw[if_pos e4]
     exact wpS_pure ⟨hs,_,_,_,_,_,_,_,rfl,.inr ⟨rfl,j5,by omega,hm,by omega⟩⟩
    ·rw[if_neg e4]
     exact wpS_pure ⟨hs,_,_,_,_,_,_,rfl,j5,by omega,hm,by omega⟩
end
def wM:Array Keyed->Array Keyed->StateT SortSt Sem (Array Keyed):=sortPriv% PySem.Builtin.mergeHi
def Jh (lt:Keyed->Keyed->Bool)(a b:Array Keyed)(out:Array Keyed)(na nb:Nat):Prop:=J (fun x y=>lt y x=true) (a.toList++b.toList) out.toList (b.toList.take nb).reverse (a.toList.take na).reverse
def Sh (lt:Keyed->Keyed->Bool)(a b:Array Keyed)(n:Nat)(r:Option (Array Keyed))(out:Array Keyed)(na nb:Nat):Prop :=
 (∃ q,r=some q/\Fn (fun x y=>lt x y=true) (a.toList++b.toList) q.toList)\/(r=none/\Jh lt a b out na nb/\0<na/\na<a.size/\1<nb/\nb<=b.size/\n<=out.size)
theorem vQ {a:Array Keyed}{i:Nat}(h:0<i)(hi:i<=a.size):(a.toList.take i).reverse=el a (i-1)::(a.toList.take (i-1)).reverse:=by
 obtain⟨m,rfl⟩:∃ m,i=m+1:=⟨i-1,by omega⟩;have e:=fq (xs:=a) (i:=m) (by omega);rw[<-Array.getElem?_toList]at e;rw[List.take_add_one,e,Nat.add_sub_cancel];simp
theorem Aa {a:Array Keyed}{i n:Nat}(h:i<=n):(a.toList.take n).reverse=(a.extract i n).reverse.toList++(a.toList.take i).reverse:=by
 rw[Array.toList_reverse,Array.toList_extract,List.extract_eq_take_drop,<-List.reverse_append]
 congr 1
 have e:=List.take_append_drop i (a.toList.take n);rw[List.take_take,Nat.min_eq_left h,List.drop_take]at e;exact e.symm
theorem wL {a:Array Keyed}{n:Nat}{x:Keyed}(h:x∈(a.toList.take n).reverse):∃ j,j<n/\j<a.size/\x=el a j:=by
 rw[List.mem_reverse]at h;obtain⟨j,hj⟩:=List.mem_iff_getElem?.mp h;rw[List.getElem?_take]at hj
 by_cases c:j<n
 ·rw[if_pos c,Array.getElem?_toList]at hj
  obtain⟨hl,_⟩:=Array.getElem?_eq_some_iff.mp hj;rw[fq hl]at hj;injection hj with hj;exact⟨j,c,hl,hj.symm⟩
 ·rw[if_neg c]at hj;cases hj
theorem zD {a:Array Keyed}{i n:Nat}{x:Keyed}(h:x∈(a.extract i n).reverse.toList):∃ j,i<=j/\j<n/\j<a.size/\x=el a j:=by
 rw[Array.toList_reverse,List.mem_reverse,Array.mem_toList_iff,Array.mem_iff_getElem]at h;obtain⟨j,hj,e⟩:=h
 have hs:j<min n a.size-i:=by simpa using hj
 have h2:i+j<a.size:=by omega
 refine⟨i+j,by omega,by omega,h2,?_⟩;rw[<-e,Array.getElem_extract];unfold el;simp[Array.getD,h2]
section
variable {P:Program}{w:World}{A:Around}{E:Value->Shared->Prop}{s:Shared}{κ:SortKind}{a0:Array Keyed}{lt:Keyed->Keyed->Bool}{st:SortSt}{a b out:Array Keyed}{na nb k n:Nat}
theorem uS (O:Ord P w A s κ a0 lt)(u:Up lt a 0 a.size){x:Keyed}(h:lt (el a (na-1)) x=true){y:Keyed}(hn:na<=a.size)(hy:y∈(a.toList.take na).reverse):lt y x=true:=by
 obtain⟨j,h1,h2,rfl⟩:=wL hy
 by_cases e:j=na-1
 ·rw[e];exact h
 ·exact O.tr _ _ _ (u _ _ (by omega) (by omega) (by omega)) h
theorem Jh.pA (O:Ord P w A s κ a0 lt)(W:vT a0 lt a b)(j:Jh lt a b out na nb)(ha:0<na)(ha2:na<=a.size)(hb:nb<=b.size)(h:lt (el b (nb-1)) (el a (na-1))=true):Jh lt a b (out.push (el a (na-1))) (na-1) nb:=by
 unfold Jh at j ⊢;rw[vQ ha ha2,show el a (na-1)::(a.toList.take (na-1)).reverse=[el a (na-1)]++(a.toList.take (na-1)).reverse from rfl]at j;rw[Array.toList_push]
 exact j.mvB fun x hx y hy=>by
  rw[List.mem_singleton]at hx;subst hx;exact uS O W.ub h hb hy
theorem Jh.pB (O:Ord P w A s κ a0 lt)(W:vT a0 lt a b)(j:Jh lt a b out na nb)(hb:0<nb)(hb2:nb<=b.size)(ha:na<=a.size)(h:lt (el a (na-1)) (el b (nb-1))=true):Jh lt a b (out.push (el b (nb-1))) na (nb-1):=by
 unfold Jh at j ⊢;rw[vQ hb hb2,show el b (nb-1)::(b.toList.take (nb-1)).reverse=[el b (nb-1)]++(b.toList.take (nb-1)).reverse from rfl]at j;rw[Array.toList_push]
 exact j.mvA fun x hx y hy=>by
  rw[List.mem_singleton]at hx;subst hx;exact uS O W.ua h ha hy
theorem Jh.mA (O:Ord P w A s κ a0 lt)(W:vT a0 lt a b)(j:Jh lt a b out na nb)(hk:k<=na)(hb:nb<=b.size)(h:∀ i,k<=i->i<na->lt (el b (nb-1)) (el a i)=true):Jh lt a b (out++(a.extract k na).reverse) k nb:=by
 unfold Jh at j ⊢;rw[Aa (a:=a) hk]at j;rw[Array.toList_append]
 exact j.mvB fun x hx y hy=>by
  obtain⟨i,h1,h2,_,rfl⟩:=zD hx;exact uS O W.ub (h i h1 h2) hb hy
theorem Jh.mB (O:Ord P w A s κ a0 lt)(W:vT a0 lt a b)(j:Jh lt a b out na nb)(hk:k<=nb)(ha:na<=a.size)(h:∀ i,k<=i->i<nb->lt (el a (na-1)) (el b i)=true):Jh lt a b (out++(b.extract k nb).reverse) na k:=by
 unfold Jh at j ⊢;rw[Aa (a:=b) hk]at j;rw[Array.toList_append]
 exact j.mvA fun x hx y hy=>by
  obtain⟨i,h1,h2,_,rfl⟩:=zD hx;exact uS O W.ua (h i h1 h2) ha hy
theorem qr {a:Array Keyed}{i:Nat}:(a.extract 0 i).toList=a.toList.take i:=by
 rw[Array.toList_extract,List.extract_eq_take_drop,List.drop_zero,Nat.sub_zero]
theorem Jh.dn (j:Jh lt a b out na nb)(ha:na=0):Fn (fun x y=>lt x y=true) (a.toList++b.toList) (a.extract 0 na++b.extract 0 nb++out.reverse).toList:=by
 unfold Jh at j;subst ha;rw[List.take_zero,List.reverse_nil]at j;have q:=j.done.rev;rw[List.reverse_append,List.reverse_reverse]at q;rw[Array.toList_append,Array.toList_append,qr,qr,Array.toList_reverse,List.take_zero,List.nil_append];exact q
theorem Jh.ls (j:Jh lt a b out na nb)(hb:nb=1)(zb:0<b.size):Fn (fun x y=>lt x y=true) (a.toList++b.toList) (b.extract 0 nb++a.extract 0 na++out.reverse).toList:=by
 unfold Jh at j;subst hb;have e:=vQ (a:=b) (i:=1) (by omega) (by omega);rw[Nat.sub_self,List.take_zero,List.reverse_nil]at e;rw[e]at j;have q:=j.lst.rev;rw[List.reverse_append,List.reverse_append,List.reverse_reverse,<-List.append_assoc,List.reverse_singleton]at q;rw[Array.toList_append,Array.toList_append,qr,qr,Array.toList_reverse];rw[<-List.reverse_reverse (b.toList.take 1),e,List.reverse_singleton];exact q
theorem vT.blw (O:Ord P w A s κ a0 lt)(W:vT a0 lt a b){i:Nat}(hi:i<a.size):lt (el b 0) (el a i)=true:=by
 by_cases c:i=0
 ·rw[c];exact W.h0
 ·exact O.tr _ _ _ W.h0 (W.ua 0 i (by omega) (by omega) (by omega))
theorem Jh.ini (O:Ord P w A s κ a0 lt)(W:vT a0 lt a b):Jh lt a b #[el a (a.size-1)] (a.size-1) b.size:=by
 have j:Jh lt a b #[] a.size b.size:=by
  unfold Jh;rw[List.take_of_length_le (l:=a.toList) (i:=a.size) (by rw[Array.length_toList];exact Nat.le_refl _),List.take_of_length_le (l:=b.toList) (i:=b.size) (by rw[Array.length_toList];exact Nat.le_refl _)];refine⟨?_,List.Pairwise.nil,(fun x hx=>nomatch hx),(fun x hx=>nomatch hx),List.pairwise_reverse.mpr (up_pw W.ub),List.pairwise_reverse.mpr (up_pw W.ua),fun x hx z hz=>?_⟩
  ·show (b.toList.reverse++a.toList.reverse).Perm _
   rw[<-List.reverse_append];exact List.reverse_perm _
  rw[show a.toList=a.toList.drop 0 from rfl,List.mem_reverse]at hx;obtain⟨i,_,hi,rfl⟩:=jZ hx
  have e:z=el b 0:=by
   rw[List.getLast?_reverse,List.head?_eq_getElem?,Array.getElem?_toList,fq W.zb]at hz;injection hz with hz;exact hz.symm
  rw[e];exact W.blw O hi
 exact j.pA O W W.za (Nat.le_refl _) (Nat.le_refl _) W.hl
theorem Jh.len (j:Jh lt a b out na nb):out.size<=a.size+b.size:=by
 have:=j.pm.length_eq;simp only[List.length_append,Array.length_toList]at this;omega
end
section
variable {P:Program}{w:World}{A:Around}{E:Value->Shared->Prop}{s:Shared}{κ:SortKind}{a0:Array Keyed}{lt:Keyed->Keyed->Bool}{st:SortSt}{a b out:Array Keyed}{na nb k n:Nat}
theorem GQ (O:Ord P w A s κ a0 lt)(kd:kindOf st=κ)(W:vT a0 lt a b){Q:Array Keyed->SortSt->Prop}
  (fin:∀ q st',ay st st'->Fn (fun x y=>lt x y=true) (a.toList++b.toList) q.toList->Q q st'):wpS (model P w) A E s (wM a b) Q st:=by
 have sm:ay st st:=⟨rfl,rfl,rfl,rfl⟩;have za:=W.za;have zb:=W.zb;unfold wM;refine wpS_bind (wpS_lift (wpAny_rule ⟨rfl,?_⟩));refine wpS_bind (p0 (i:=a.size-1) (by omega) ?_);dsimp only;have j0:=Jh.ini O W
 by_cases e1:a.size-1=0
 ·rw[if_pos (by simpa using e1)]
  exact wpS_pure (fin _ _ sm (j0.dn e1))
 rw[if_neg (by simpa using e1)]
 by_cases e2:b.size=1
 ·rw[if_pos (by simpa using e2)]
  exact wpS_pure (fin _ _ sm (j0.ls e2 zb))
 rw[if_neg (by simpa using e2)];refine wpS_bind (wpS_get ?_)
 refine wpS_bind (wpS_mono (wpS_forRange (I:=fun x c st'=>ay st st'/\∃ na nb out g,c=(none,na,nb,out,g)/\Jh lt a b out na nb/\0<na/\na<a.size/\1<nb/\nb<=b.size/\x+1<=out.size)
  (Q:=fun c st'=>ay st st'/\∃ r o,c=(some r,o)/\Fn (fun x y=>lt x y=true) (a.toList++b.toList) r.toList) ?step ?fin ⟨sm,_,_,_,_,rfl,j0,by omega,by omega,by omega,by omega,by simp⟩) ?post)
 case post =>
  rintro c st' ⟨hs,r,o,rfl,hr⟩;exact wpS_pure (fin _ _ hs hr)
 case fin =>
  rintro c st' ⟨hs,na,nb,out,g,rfl,j,ha,ha2,hb,hb2,hn⟩;have:=j.len;omega
 case step =>
  rintro x c st' _ hx ⟨hs,na,nb,out,g,rfl,j,ha,ha2,hb,hb2,hn⟩;dsimp only
  refine wpS_bind (wpS_mono (wpS_forRange (I:=fun y c st'=>ay st st'/\∃ na nb out ac bc,c=(none,na,nb,out,ac,bc)/\Jh lt a b out na nb/\0<na/\na<a.size/\1<nb/\nb<=b.size/\x+1<=out.size)
   (Q:=fun c st'=>ay st st'/\∃ r na nb out ac bc,c=(r,na,nb,out,ac,bc)/\Sh lt a b (x+1) r out na nb) ?step1 ?fin1 ⟨hs,_,_,_,_,_,rfl,j,ha,ha2,hb,hb2,hn⟩) ?post1)
  case fin1 =>
   rintro c st' ⟨hs,na,nb,out,ac,bc,rfl,j,ha,ha2,hb,hb2,hn⟩;exact⟨hs,_,_,_,_,_,_,rfl,.inr ⟨rfl,j,ha,ha2,hb,hb2,hn⟩⟩
  case step1 =>
   rintro y c st' _ hy ⟨hs,na,nb,out,ac,bc,rfl,j,ha,ha2,hb,hb2,hn⟩;dsimp only;refine dB (i:=nb-1) (by omega) ?_;refine dB (i:=na-1) (by omega) ?_;refine Dp O (hs.2.2.1.trans kd) (W.mb _ (by omega)) (W.ma _ (by omega)) ?_
   cases el:lt (el b (nb-1)) (el a (na-1)) with
   | true =>
    dsimp only;rw[if_pos rfl];refine dB (i:=na-1) (by omega) ?_;have j3:=j.pA O W (by omega) (by omega) (by omega) el
    by_cases e:na-1=0
    ·rw[if_pos (by simpa using e)]
     exact wpS_pure ⟨hs,_,_,_,_,_,_,rfl,.inl ⟨_,rfl,j3.dn e⟩⟩
    rw[if_neg (by simpa using e)]
    by_cases e3:ac+1>=g
    ·rw[if_pos e3]
     exact wpS_pure ⟨hs,_,_,_,_,_,_,rfl,.inr ⟨rfl,j3,by omega,by omega,by omega,by omega,by rw[Array.size_push];omega⟩⟩
    ·rw[if_neg e3]
     exact wpS_pure ⟨hs,_,_,_,_,_,rfl,j3,by omega,by omega,by omega,by omega,by rw[Array.size_push];omega⟩
   | false =>
    dsimp only;rw[if_neg Bool.false_ne_true];refine dB (i:=nb-1) (by omega) ?_;have j3:=j.pB O W (by omega) (by omega) (by omega) (O.not (W.mb _ (by omega)) (W.ma _ (by omega)) (fun e=>W.ne _ _ (by omega) (by omega) e.symm) el)
    by_cases e:nb-1=1
    ·rw[if_pos (by simpa using e)]
     exact wpS_pure ⟨hs,_,_,_,_,_,_,rfl,.inl ⟨_,rfl,j3.ls e zb⟩⟩
    rw[if_neg (by simpa using e)]
    by_cases e3:bc+1>=g
    ·rw[if_pos e3]
     exact wpS_pure ⟨hs,_,_,_,_,_,_,rfl,.inr ⟨rfl,j3,by omega,by omega,by omega,by omega,by rw[Array.size_push];omega⟩⟩
    ·rw[if_neg e3]
     exact wpS_pure ⟨hs,_,_,_,_,_,rfl,j3,by omega,by omega,by omega,by omega,by rw[Array.size_push];omega⟩
  case post1 =>
   rintro c st' ⟨hs,r,na,nb,out,ac,bc,rfl,⟨q,rfl,hq⟩ | ⟨rfl,j,ha,ha2,hb,hb2,hn⟩⟩
   ·exact wpS_pure ⟨hs,_,_,rfl,hq⟩
   dsimp only;refine wpS_bind (wpS_lift (wpAny_rule ⟨rfl,?_⟩))
   refine wpS_bind (wpS_mono (wpS_forRange (I:=fun y c st'=>ay st st'/\∃ na nb out g ac bc,c=(none,na,nb,out,g,ac,bc)/\Jh lt a b out na nb/\0<na/\na<a.size/\1<nb/\nb<=b.size/\x+1+y<=out.size)
    (Q:=fun c st'=>ay st st'/\∃ r na nb out g ac bc,c=(r,na,nb,out,g,ac,bc)/\Sh lt a b (x+1+1) r out na nb) ?step2 ?fin2 ⟨hs,_,_,_,_,_,_,rfl,j,ha,ha2,hb,hb2,hn⟩) ?post2)
   case fin2 =>
    rintro c st' ⟨hs,na,nb,out,g,ac,bc,rfl,j,ha,ha2,hb,hb2,hn⟩;exact⟨hs,_,_,_,_,_,_,_,rfl,.inr ⟨rfl,j,ha,ha2,hb,hb2,by omega⟩⟩
   case post2 =>
    rintro c st' ⟨hs,r,na,nb,out,g,ac,bc,rfl,⟨q,rfl,hq⟩ | ⟨rfl,j,ha,ha2,hb,hb2,hn⟩⟩
    ·exact wpS_pure ⟨hs,_,_,rfl,hq⟩
    dsimp only;refine qG hs fun st2 hs=>?_;exact wpS_pure ⟨hs,_,_,_,_,rfl,j,ha,ha2,hb,hb2,hn⟩
   case step2 =>
    rintro y c st' _ hy ⟨hs,na,nb,out,g,ac,bc,rfl,j,ha,ha2,hb,hb2,hn⟩;dsimp only
    apply De
    ·intro rest
     by_cases gg:g>1
     ·rw[if_pos gg]
      generalize g-1=g';exact rest g'
     ·rw[if_neg gg]
      exact rest g
    intro g';refine qG hs fun st2 hs=>?_;refine dB (i:=nb-1) (by omega) ?_;refine qF (xs:=a) (b:=0) (n:=na) (hint:=na-1) O (hs.2.2.1.trans kd) (W.mb (nb-1) (by omega)) (by omega) (fun i hi=>W.ma _ (by omega)) (fun i j h1 h2 h3=>W.ua i j (by omega) h2 (by omega)) (by omega) fun k k1 k2 k3=>?_;dsimp only
    have q1:∀ i,k<=i->i<na->lt (el b (nb-1)) (el a i)=true:=fun i h1 h2=>by
     have:=k3 i h1 h2;unfold Bf at this
     rwa [if_neg Bool.false_ne_true,Bool.not_eq_false',Nat.zero_add]at this
    have q3:0<k->lt (el a (k-1)) (el b (nb-1))=true:=fun hk=>by
     have:=k2 (k-1) (by omega);unfold Bf at this;rw[if_neg Bool.false_ne_true,Bool.not_eq_true',Nat.zero_add]at this;exact O.not (W.mb _ (by omega)) (W.ma _ (by omega)) (fun e=>W.ne _ _ (by omega) (by omega) e.symm) this
    generalize hd:na-k=d
    apply vE (fun o i=>Jh lt a b o i nb/\x+1+y<=o.size/\lt (el a (i-1)) (el b (nb-1))=true/\0<i/\i<=na)
    ·intro rest
     by_cases gk:d>0
     ·rw[if_pos gk]
      have j2:=j.mA O W k1 (by omega) q1
      by_cases e1:k=0
      ·rw[if_pos (by simpa using e1)]
       exact wpS_pure ⟨hs,_,_,_,_,_,_,_,rfl,.inl ⟨_,rfl,j2.dn e1⟩⟩
      rw[if_neg (by simpa using e1)]
      have z3:x+1+y<=(out++(a.extract k na).reverse).size:=by
       rw[Array.size_append];exact Nat.le_add_right_of_le hn
      generalize out++(a.extract k na).reverse=o at j2 z3 ⊢;have q4:=q3 (by omega);have q5:0<k/\k<=na:=⟨by omega,k1⟩;generalize k=i at j2 q4 q5 ⊢;exact rest o i ⟨j2,z3,q4,q5⟩
     ·rw[if_neg gk]
      exact rest out na ⟨j,hn,by rw[show na=k by omega];exact q3 (by omega),by omega,by omega⟩
    rintro o i ⟨j,z3,q3,i1,i2⟩;refine dB (i:=nb-1) (by omega) ?_;have j3:=j.pB O W (by omega) (by omega) (by omega) q3
    by_cases e2:nb-1=1
    ·rw[if_pos (by simpa using e2)]
     exact wpS_pure ⟨hs,_,_,_,_,_,_,_,rfl,.inl ⟨_,rfl,j3.ls e2 W.zb⟩⟩
    rw[if_neg (by simpa using e2)];refine dB (i:=i-1) (by omega) ?_;refine qF (xs:=b) (b:=0) (n:=nb-1) (hint:=nb-1-1) O (hs.2.2.1.trans kd) (W.ma (i-1) (by omega)) (by omega) (fun i hi=>W.mb _ (by omega)) (fun i j h1 h2 h3=>W.ub i j (by omega) h2 (by omega)) (by omega) fun l l1 l2 l3=>?_;dsimp only
    have r1:∀ h,l<=h->h<nb-1->lt (el a (i-1)) (el b h)=true:=fun h h1 h2=>by
     have:=l3 h h1 h2;unfold Bf at this;rw[if_pos rfl,Nat.zero_add]at this;exact O.not (W.mb _ (by omega)) (W.ma _ (by omega)) (fun e=>W.ne _ _ (by omega) (by omega) e.symm) this
    have r2:0<l:=by
     rcases Nat.eq_zero_or_pos l with q | q
     ·have q4:=r1 0 (by omega) (by omega)
      rw[O.asym (W.blw O (by omega))]at q4;cases q4
     ·exact q
    have r3:lt (el b (l-1)) (el a (i-1))=true:=by
     have:=l2 (l-1) (by omega);unfold Bf at this
     rwa [if_pos rfl,Nat.zero_add]at this
    have z3':x+1+y+1<=(o.push (el b (nb-1))).size:=by
     rw[Array.size_push];exact Nat.succ_le_succ z3
    generalize hf:nb-1-l=f
    apply vE (fun o m=>Jh lt a b o i m/\x+1+y+1<=o.size/\lt (el b (m-1)) (el a (i-1))=true/\1<m/\m<=b.size)
    ·intro rest
     by_cases gl:f>0
     ·rw[if_pos gl]
      have j4:=j3.mB O W l1 (by omega) r1
      by_cases e5:l=1
      ·rw[if_pos (by simpa using e5)]
       exact wpS_pure ⟨hs,_,_,_,_,_,_,_,rfl,.inl ⟨_,rfl,j4.ls e5 W.zb⟩⟩
      rw[if_neg (by simpa using e5),if_neg (by simp only[beq_iff_eq];omega)]
      have z4:x+1+y+1<=(o.push (el b (nb-1))++(b.extract l (nb-1)).reverse).size:=by
       rw[Array.size_append];exact Nat.le_add_right_of_le z3'
      generalize o.push (el b (nb-1))++(b.extract l (nb-1)).reverse=o' at j4 z4 ⊢;have r4:=r3;have m4:1<l/\l<=b.size:=⟨by omega,by omega⟩;generalize l=m at j4 r4 m4 ⊢;exact rest o' m ⟨j4,z4,r4,m4⟩
     ·rw[if_neg gl]
      exact rest _ _ ⟨j3,z3',by rw[show nb-1=l by omega];exact r3,by omega,by omega⟩
    rintro o m ⟨j,z4,r3,m1,m2⟩;refine dB (i:=i-1) (by omega) ?_;have j5:=j.pA O W (by omega) (by omega) (by omega) r3
    by_cases e3:i-1=0
    ·rw[if_pos (by simpa using e3)]
     exact wpS_pure ⟨hs,_,_,_,_,_,_,_,rfl,.inl ⟨_,rfl,j5.dn e3⟩⟩
    rw[if_neg (by simpa using e3)]
    have z5:x+1+y+1<=(o.push (el a (i-1))).size:=by
     rw[Array.size_push];exact Nat.le_succ_of_le z4
    by_cases e4:(decide (d<7)&&decide (f<7))=true
    ·rw[if_pos e4]
     exact wpS_pure ⟨hs,_,_,_,_,_,_,_,rfl,.inr ⟨rfl,j5,by omega,by omega,by omega,by omega,by omega⟩⟩
    ·rw[if_neg e4]
     exact wpS_pure ⟨hs,_,_,_,_,_,_,rfl,j5,by omega,by omega,by omega,by omega,by omega⟩
end
def back (q:Nat)(m arr:Array Keyed):Array Keyed:=m.toList.zipIdx.foldl (fun a (p,j)=>a.setIfInBounds (q+j) p) arr
theorem BD (q:Nat):∀ (l:List Keyed)(k:Nat)(arr:Array Keyed),q+k+l.length<=arr.size->((l.zipIdx k).foldl (fun (a:Array Keyed)(x:Keyed×Nat)=>a.setIfInBounds (q+x.2) x.1) arr).size=arr.size/\∀ i,((l.zipIdx k).foldl (fun (a:Array Keyed)(x:Keyed×Nat)=>a.setIfInBounds (q+x.2) x.1) arr)[i]? = if q+k<=i/\i<q+k+l.length then l[i-(q+k)]? else arr[i]?:=by
 intro l
 induction l with
 | nil =>
  intro k arr h;refine⟨rfl,fun i=>?_⟩;rw[if_neg (by simp only[List.length_nil];omega)];rfl
 | cons x r ih =>
  intro k arr h;rw[List.length_cons]at h;rw[List.zipIdx_cons,List.foldl_cons];dsimp only;have hs:(arr.setIfInBounds (q+k) x).size=arr.size:=Array.size_setIfInBounds;obtain⟨h1,h2⟩:=ih (k+1) (arr.setIfInBounds (q+k) x) (by rw[hs];omega);refine⟨h1.trans hs,fun i=>?_⟩;rw[h2 i,List.length_cons]
  by_cases c:q+(k+1)<=i/\i<q+(k+1)+r.length
  ·rw[if_pos c,if_pos (by omega),show i-(q+k)=(i-(q+(k+1)))+1 by omega,List.getElem?_cons_succ]
  ·rw[if_neg c]
   by_cases e:i=q+k
   ·rw[if_pos (by omega),e,Nat.sub_self,List.getElem?_cons_zero,Array.getElem?_setIfInBounds_self_of_lt (by omega)]
   ·rw[if_neg (by omega),Array.getElem?_setIfInBounds_ne (fun z=>e z.symm)]
theorem tZ {q:Nat}{m arr:Array Keyed}(h:q+m.size<=arr.size)(i:Nat):(back q m arr)[i]? = if q<=i/\i<q+m.size then m[i-q]? else arr[i]?:=by
 have:=(BD q m.toList 0 arr (by simpa using h)).2 i;simpa [back] using this
theorem DJ {q:Nat}{m arr:Array Keyed}(h:q+m.size<=arr.size)(i:Nat):el (back q m arr) i=if q<=i/\i<q+m.size then el m (i-q) else el arr i:=by
 have:=tZ h i
 by_cases c:q<=i/\i<q+m.size
 ·rw[if_pos c]at this ⊢;exact fD this
 ·rw[if_neg c]at this ⊢;exact fD this
theorem Am {q:Nat}{m arr:Array Keyed}(h:q+m.size<=arr.size)(p:m.toList.Perm ((arr.toList.drop q).take m.size)):(back q m arr).Perm arr:=by
 rw[Array.perm_iff_toList_perm]
 have e:(back q m arr).toList=arr.toList.take q++(m.toList++arr.toList.drop (q+m.size)):=by
  apply List.ext_getElem?
  intro i;rw[Array.getElem?_toList,tZ h]
  by_cases c1:i<q
  ·rw[if_neg (by omega),List.getElem?_append_left (by simp;omega),List.getElem?_take,if_pos c1,Array.getElem?_toList]
  ·rw[List.getElem?_append_right (by simp;omega),show (arr.toList.take q).length=q by simp;omega]
   by_cases c2:i<q+m.size
   ·rw[if_pos (by omega),List.getElem?_append_left (by simp;omega),Array.getElem?_toList]
   ·rw[if_neg (by omega),List.getElem?_append_right (by simp;omega),List.getElem?_drop,Array.getElem?_toList,Array.length_toList]
    congr 1
    omega
 rw[e];refine List.Perm.trans ((p.append_right _).append_left _) (List.Perm.of_eq ?_);rw[<-List.drop_drop,List.take_append_drop,List.take_append_drop]
theorem EB {a:Array Keyed}{p q i:Nat}(h:p+i<q)(hq:q<=a.size):el (a.extract p q) i=el a (p+i):=by
 refine fD ?_;rw[Array.getElem?_extract];rw[if_pos (by omega)]
theorem zY {a:Array Keyed}{p q:Nat}(hq:q<=a.size):(a.extract p q).size=q-p:=by
 rw[Array.size_extract];omega
section
variable {P:Program}{w:World}{A:Around}{E:Value->Shared->Prop}{s:Shared}{κ:SortKind}{a0:Array Keyed}{lt:Keyed->Keyed->Bool}{st:SortSt}
theorem FR (O:Ord P w A s κ a0 lt)(B:di κ a0 st){p q r:Nat}(h1:p<q)(h2:q<r)(h3:r<=a0.size)(u1:Up lt (arrOf st) p q)(u2:Up lt (arrOf st) q r)(g0:lt (el (arrOf st) q) (el (arrOf st) p)=true)(gl:lt (el (arrOf st) (r-1)) (el (arrOf st) (q-1))=true) :
  vT a0 lt ((arrOf st).extract p q) ((arrOf st).extract q r):=by
 have hz:=B.sz;have s1:((arrOf st).extract p q).size=q-p:=zY (by omega);have s2:((arrOf st).extract q r).size=r-q:=zY (by omega);have e1:∀ i,i<q-p->el ((arrOf st).extract p q) i=el (arrOf st) (p+i):=fun i hi=>EB (by omega) (by omega);have e2:∀ i,i<r-q->el ((arrOf st).extract q r) i=el (arrOf st) (q+i):=fun i hi=>EB (by omega) (by omega);refine⟨fun i hi=>?_,fun i hi=>?_,fun i j hi hj=>?_,fun i j _ hij hj=>?_,fun i j _ hij hj=>?_,by omega,by omega,?_,?_⟩
 ·rw[s1]at hi;rw[e1 i hi];exact B.mem (by omega)
 ·rw[s2]at hi;rw[e2 i hi];exact B.mem (by omega)
 ·rw[s1]at hi;rw[s2]at hj;rw[e1 i hi,e2 j hj];exact B.ne O (by omega) (by omega) (by omega)
 ·rw[s1]at hj;rw[e1 i (by omega),e1 j hj];exact u1 _ _ (by omega) (by omega) (by omega)
 ·rw[s2]at hj;rw[e2 i (by omega),e2 j hj];exact u2 _ _ (by omega) (by omega) (by omega)
 ·rw[e1 0 (by omega),e2 0 (by omega)];exact g0
 ·rw[s1,s2,e1 _ (by omega),e2 _ (by omega),show q+(r-q-1)=r-1 by omega,show p+(q-p-1)=q-1 by omega];exact gl
theorem FV {st':SortSt}{Q:PUnit->SortSt->Prop}(h:Q ⟨⟩ st'):wpS (model P w) A E s (set st':StateT SortSt Sem PUnit) Q st:=by
 unfold wpS;rw[StateT.run_set];exact wpAny_pure ⟨rfl,h⟩
theorem Ia (O:Ord P w A s κ a0 lt)(B:di κ a0 st){sa na nb k l:Nat}(hk:k<na)(hl:0<l)(hl2:l<=nb)(hz:sa+na+nb<=a0.size)(u1:Up lt (arrOf st) sa (sa+na))(u2:Up lt (arrOf st) (sa+na) (sa+na+nb))
  (q1:∀ i,sa<=i->i<sa+k->lt (el (arrOf st) i) (el (arrOf st) (sa+na))=true) (q2:∀ i,sa+na+l<=i->i<sa+na+nb->lt (el (arrOf st) (sa+na-1)) (el (arrOf st) i)=true) {m:Array Keyed}
  (F:Fn (fun x y=>lt x y=true) (((arrOf st).extract (sa+k) (sa+na)).toList++((arrOf st).extract (sa+na) (sa+na+l)).toList) m.toList) :
  (back (sa+k) m (arrOf st)).Perm a0/\Up lt (back (sa+k) m (arrOf st)) sa (sa+(na+nb))/\zi (arrOf st) (back (sa+k) m (arrOf st)) sa (sa+(na+nb)):=by
 have hs:=B.sz
 have hm:m.size=na-k+l:=by
  have:=F.1.length_eq;rw[List.length_append,Array.length_toList,Array.length_toList,Array.length_toList,zY (by omega),zY (by omega)]at this;omega
 have hb:sa+k+m.size<=(arrOf st).size:=by omega
 have eT:((arrOf st).extract (sa+k) (sa+na)).toList++((arrOf st).extract (sa+na) (sa+na+l)).toList=((arrOf st).toList.drop (sa+k)).take m.size:=by
  rw[Array.toList_extract,Array.toList_extract,List.extract_eq_take_drop,List.extract_eq_take_drop,show sa+na-(sa+k)=na-k by omega,show sa+na+l-(sa+na)=l by omega,hm,List.take_add,List.drop_drop,show sa+k+(na-k)=sa+na by omega]
 have eb:=DJ hb;have p:=Am hb (F.1.trans (List.Perm.of_eq eT))
 have mid:∀ i,i<m.size->∃ j,sa+k<=j/\j<sa+na+l/\el m i=el (arrOf st) j:=fun i hi=>by
  have h1:el m i∈m.toList:=Array.mem_toList_iff.mpr (BO hi);rcases List.mem_append.mp (F.1.mem_iff.mp h1) with z | z
  ·rw[show sa+na=sa+k+(na-k) by omega]at z
   obtain⟨j,j1,_,j3⟩:=u8 z;exact⟨_,by omega,by omega,j3⟩
  ·obtain⟨j,j1,_,j3⟩:=u8 z
   exact⟨_,by omega,by omega,j3⟩
 have lo:∀ i j,sa<=i->i<sa+k->sa+k<=j->j<sa+na+nb->lt (el (arrOf st) i) (el (arrOf st) j)=true:=fun i j i1 i2 j1 j2=>by
  by_cases c:j<sa+na
  ·exact u1 i j i1 (by omega) c
  ·by_cases c2:j=sa+na
   ·rw[c2];exact q1 i i1 i2
   ·exact O.tr _ _ _ (q1 i i1 i2) (u2 _ _ (by omega) (by omega) (by omega))
 have hi:∀ i j,sa+k<=i->i<sa+na+l->sa+na+l<=j->j<sa+na+nb->lt (el (arrOf st) i) (el (arrOf st) j)=true:=fun i j i1 i2 j1 j2=>by
  by_cases c:sa+na<=i
  ·exact u2 i j c (by omega) j2
  ·by_cases c2:i=sa+na-1
   ·rw[c2];exact q2 j j1 j2
   ·exact O.tr _ _ _ (u1 i (sa+na-1) (by omega) (by omega) (by omega)) (q2 j j1 j2)
 have um:∀ i j,i<j->j<m.size->lt (el m i) (el m j)=true:=fun i j hij hj=>by
  have h1:=(List.pairwise_iff_getElem.mp F.2) i j (by rw[Array.length_toList];omega) (by rw[Array.length_toList];omega) hij
  have h2:i<m.size:=by omega
  unfold el;simpa [Array.getD,h2,hj] using h1
 refine⟨p.trans B.pm,fun i j i1 hij j1=>?_,fun i hi=>?_⟩
 ·rw[eb,eb]
  by_cases c1:i<sa+k
  ·rw[if_neg (by omega)]
   by_cases c2:j<sa+k
   ·rw[if_neg (by omega)];exact u1 i j i1 hij (by omega)
   ·by_cases c3:j<sa+k+m.size
    ·rw[if_pos (by omega)]
     obtain⟨q,z1,z2,z3⟩:=mid (j-(sa+k)) (by omega);rw[z3];exact lo i q i1 c1 z1 (by omega)
    ·rw[if_neg (by omega)]
     exact lo i j i1 c1 (by omega) (by omega)
  ·by_cases c3:i<sa+k+m.size
   ·rw[if_pos (by omega)]
    by_cases c4:j<sa+k+m.size
    ·rw[if_pos (by omega)]
     exact um _ _ (by omega) (by omega)
    ·rw[if_neg (by omega)]
     obtain⟨q,z1,z2,z3⟩:=mid (i-(sa+k)) (by omega);rw[z3];exact hi q j z1 z2 (by omega) (by omega)
   ·rw[if_neg (by omega),if_neg (by omega)]
    exact u2 i j (by omega) hij (by omega)
 ·rw[eb,if_neg (by omega)]
theorem Dr (O:Ord P w A s κ a0 lt)(B:di κ a0 st){i sa na sb nb pw pq:Nat}(h1:(pendingOf st)[i]? = some (sa,na,pw))(h2:(pendingOf st)[i+1]? = some (sb,nb,pq))(eb:sb=sa+na)(ha:1<=na)(hb:1<=nb)(hz:sb+nb<=a0.size)
  (u1:Up lt (arrOf st) sa sb) (u2:Up lt (arrOf st) sb (sb+nb)) {Q:Bool->SortSt->Prop}
  (fin:∀ st',di κ a0 st'->pendingOf st'=((pendingOf st).setIfInBounds i (sa,na+nb,pw)).eraseIdxIfInBounds (i+1)->Up lt (arrOf st') sa (sa+(na+nb))->zi (arrOf st) (arrOf st') sa (sa+(na+nb))->Q true st'):wpS (model P w) A E s (mergeAt' i) Q st:=by
 subst eb;have hs:=B.sz;unfold mergeAt';refine wpS_bind (wpS_get ?_);have h1':=h1;have h2':=h2;unfold pendingOf at h1' h2';rw[h1',h2'];dsimp only;refine wpS_bind (FV ?_)
 let st1:SortSt:=SortSt.mk' (kindOf st) (arrOf st) (((pendingOf st).setIfInBounds i (sa,na+nb,pw)).eraseIdxIfInBounds (i+1)) (gallopOf st) (failedOf st)
 have B1:di κ a0 st1:=⟨B.pm,B.fl,B.kd⟩
 show wpS (model P w) A E s _ Q st1
 refine wpS_bind ?_;refine p0 (xs:=arrOf st) (i:=sa+na) (by omega) ?_;refine wpS_bind ?_;refine py (xs:=arrOf st) (b:=sa) (n:=na) (hint:=0) O B1.kd (B.mem (by omega)) (by omega) (fun i hi=>B.mem (by omega)) u1 (by omega) fun k k1 k2 k3=>?_;dsimp only
 have q1:∀ i,sa<=i->i<sa+k->lt (el (arrOf st) i) (el (arrOf st) (sa+na))=true:=fun i i1 i2=>by
  have:=k2 (i-sa) (by omega);unfold Bf at this;rw[if_neg Bool.false_ne_true,Bool.not_eq_true',show sa+(i-sa)=i by omega]at this;exact O.not (B.mem (by omega)) (B.mem (by omega)) (B.ne O (by omega) (by omega) (by omega)) this
 have whole:lt (el (arrOf st) (sa+na-1)) (el (arrOf st) (sa+na))=true->Up lt (arrOf st) sa (sa+(na+nb)):=fun g i j i1 hij j1=>by
  by_cases c1:j<sa+na
  ·exact u1 i j i1 hij c1
  ·by_cases c2:sa+na<=i
   ·exact u2 i j c2 hij (by omega)
   ·have z:lt (el (arrOf st) i) (el (arrOf st) (sa+na))=true:=by
     by_cases c3:i=sa+na-1
     ·rw[c3];exact g
     ·exact O.tr _ _ _ (u1 i (sa+na-1) i1 (by omega) (by omega)) g
    by_cases c4:j=sa+na
    ·rw[c4];exact z
    ·exact O.tr _ _ _ z (u2 _ _ (by omega) (by omega) (by omega))
 by_cases e1:na-k=0
 ·rw[if_pos (by simpa using e1)]
  exact wpS_pure (fin st1 B1 rfl (whole (q1 _ (by omega) (by omega))) (zi.refl _ _ _))
 rw[if_neg (by simpa using e1)]
 have q3:lt (el (arrOf st) (sa+na)) (el (arrOf st) (sa+k))=true:=by
  have:=k3 k (Nat.le_refl _) (by omega);unfold Bf at this
  rwa [if_neg Bool.false_ne_true,Bool.not_eq_false']at this
 refine wpS_bind ?_;refine p0 (xs:=arrOf st) (i:=sa+k+(na-k)-1) (by omega) ?_;rw[show sa+k+(na-k)-1=sa+na-1 by omega];refine wpS_bind ?_;refine py (xs:=arrOf st) (b:=sa+na) (n:=nb) (hint:=nb-1) O B1.kd (B.mem (by omega)) (by omega) (fun i hi=>B.mem (by omega)) u2 (by omega) fun l l1 l2 l3=>?_;dsimp only
 have q2:∀ i,sa+na+l<=i->i<sa+na+nb->lt (el (arrOf st) (sa+na-1)) (el (arrOf st) i)=true:=fun i i1 i2=>by
  have:=l3 (i-(sa+na)) (by omega) (by omega);unfold Bf at this;rw[if_pos rfl,show sa+na+(i-(sa+na))=i by omega]at this;exact O.not (B.mem (by omega)) (B.mem (by omega)) (B.ne O (by omega) (by omega) (by omega)) this
 by_cases e2:l=0
 ·rw[if_pos (by simpa using e2)]
  exact wpS_pure (fin st1 B1 rfl (whole (q2 _ (by omega) (by omega))) (zi.refl _ _ _))
 rw[if_neg (by simpa using e2)]
 have q4:lt (el (arrOf st) (sa+na+l-1)) (el (arrOf st) (sa+na-1))=true:=by
  have:=l2 (l-1) (by omega);unfold Bf at this
  rwa [if_pos rfl,show sa+na+(l-1)=sa+na+l-1 by omega]at this
 have W:vT a0 lt ((arrOf st).extract (sa+k) (sa+na)) ((arrOf st).extract (sa+na) (sa+na+l)):=FR O B (by omega) (by omega) (by omega) (fun i j h1 h2 h3=>u1 i j (by omega) h2 h3) (fun i j h1 h2 h3=>u2 i j h1 h2 (by omega)) q3 q4
 have last:∀ (m:Array Keyed)(st2:SortSt),ay st1 st2->Fn (fun x y=>lt x y=true) (((arrOf st).extract (sa+k) (sa+na)).toList++((arrOf st).extract (sa+na) (sa+na+l)).toList) m.toList ->
   wpS (model P w) A E s (do modify (fun s=>setArr s (back (sa+k) m (arrOf s)));return (failedOf (<-get)).isNone) Q st2:=fun m st2 S F=>by
  refine wpS_bind (wpS_modify ?_);refine wpS_bind (wpS_get ?_);have hf:failedOf st2=none:=S.2.1.trans B1.fl;refine wpS_pure ?_
  show Q (failedOf st2).isNone _
  rw[hf];obtain⟨z1,z2,z3⟩:=Ia O B (sa:=sa) (na:=na) (nb:=nb) (k:=k) (l:=l) (by omega) (by omega) l1 hz u1 u2 q1 q2 F;have ea:arrOf st2=arrOf st:=S.1;refine fin _ ⟨?_,hf,S.2.2.1.trans B1.kd⟩ S.2.2.2 ?_ ?_
  ·show (back (sa+k) m (arrOf st2)).Perm a0
   rw[ea];exact z1
  ·show Up lt (back (sa+k) m (arrOf st2)) _ _
   rw[ea];exact z2
  ·show zi _ (back (sa+k) m (arrOf st2)) _ _
   rw[ea];exact z3
 by_cases e3:na-k<=l
 ·rw[if_pos e3]
  refine wpS_bind ?_;exact GR O B1.kd W fun m st2 S F=>last m st2 S F
 ·rw[if_neg e3]
  refine wpS_bind ?_;exact GQ O B1.kd W fun m st2 S F=>last m st2 S F
end
def Ch (lt:Keyed->Keyed->Bool)(xs:Array Keyed):Nat->List (Nat×Nat×Nat)->Nat->Prop
 | f,[],u=>f=u
 | f,t::r,u=>t.1=f/\1<=t.2.1/\Up lt xs f (f+t.2.1)/\Ch lt xs (f+t.2.1) r u
section
variable {lt:Keyed->Keyed->Bool}{xs ys:Array Keyed}
theorem qT:∀ {l1 l2:List (Nat×Nat×Nat)}{f u:Nat},Ch lt xs f (l1++l2) u↔∃ m,Ch lt xs f l1 m/\Ch lt xs m l2 u
 | [],l2,f,u=>⟨fun h=>⟨f,rfl,h⟩,fun ⟨m,e,h⟩=>by cases e;exact h⟩
 | t::r,l2,f,u=>by
  constructor
  ·rintro⟨a1,a2,a3,a4⟩
   obtain⟨m,m1,m2⟩:=qT.mp a4;exact⟨m,⟨a1,a2,a3,m1⟩,m2⟩
  ·rintro⟨m,⟨a1,a2,a3,a4⟩,m2⟩
   exact⟨a1,a2,a3,qT.mpr ⟨m,a4,m2⟩⟩
theorem wt:∀ {l:List (Nat×Nat×Nat)}{f u:Nat},Ch lt xs f l u->f+l.length<=u
 | [],f,u,h=>by cases h;exact Nat.le_refl _
 | t::r,f,u,⟨_,a2,_,a4⟩=>by have:=wt a4;rw[List.length_cons];omega
theorem qU:∀ {l:List (Nat×Nat×Nat)}{f u:Nat},(∀ i,f<=i->i<u->el ys i=el xs i)->Ch lt xs f l u->Ch lt ys f l u
 | [],f,u,_,h=>h
 | t::r,f,u,e,⟨a1,a2,a3,a4⟩=>by
  have z:=wt a4;refine⟨a1,a2,fun i j i1 hij j1=>?_,qU (fun i i1 i2=>e i (by omega) i2) a4⟩;rw[e i i1 (by omega),e j (by omega) (by omega)];exact a3 i j i1 hij j1
theorem BE {g:Nat×Nat×Nat->Nat×Nat×Nat}(hg:∀ t,(g t).1=t.1/\(g t).2.1=t.2.1):∀ {l:List (Nat×Nat×Nat)}{j f u:Nat},Ch lt xs f l u->Ch lt xs f (l.modify j g) u
 | [],j,f,u,h=>by cases j<;>exact h
 | t::r,0,f,u,⟨a1,a2,a3,a4⟩=>by
  rw[List.modify_zero_cons];exact⟨(hg t).1.trans a1,by rw[(hg t).2];exact a2,by rw[(hg t).2];exact a3,by rw[(hg t).2];exact a4⟩
 | t::r,j+1,f,u,⟨a1,a2,a3,a4⟩=>by
  rw[List.modify_succ_cons];exact⟨a1,a2,a3,BE hg a4⟩
theorem FA {α:Type}{l:List α}{i:Nat}(h:i+1<l.length):∃ l1 x y l2,l=l1++x::y::l2/\l1.length=i:=by
 refine⟨l.take i,l[i],l[i+1],l.drop (i+1+1),?_,by rw[List.length_take];omega⟩;rw[List.getElem_cons_drop,List.getElem_cons_drop,List.take_append_drop]
end
theorem Fd {c:Prop} [Decidable c] {p:Nat}(h:1<p):(if c then p-2-1 else p-2)+1<p:=by split<;>omega
theorem Fw {P:Nat->SortSt->Prop}{G:Prop}(C:Nat->SortSt->Prop)(main:(∀ n t,C n t->P n t)->G)(key:∀ n t,C n t->P n t):G:=main key
section
variable {P:Program}{w:World}{A:Around}{E:Value->Shared->Prop}{s:Shared}{κ:SortKind}{a0:Array Keyed}{lt:Keyed->Keyed->Bool}{st:SortSt}
theorem EK (O:Ord P w A s κ a0 lt)(B:di κ a0 st){i u:Nat}(hu:u<=a0.size)(C:Ch lt (arrOf st) 0 (pendingOf st).toList u)(hi:i+1<(pendingOf st).size){Q:Bool->SortSt->Prop}
  (fin:∀ st',di κ a0 st'->Ch lt (arrOf st') 0 (pendingOf st').toList u->(pendingOf st').size+1=(pendingOf st).size->(∀ i,u<=i->el (arrOf st') i=el (arrOf st) i)->Q true st'):wpS (model P w) A E s (mergeAt' i) Q st:=by
 obtain⟨l1,⟨sa,na,pw⟩,⟨sb,nb,pq⟩,l2,e,el⟩:=FA (l:=(pendingOf st).toList) (i:=i) (by simpa using hi);rw[e]at C;obtain⟨m,c1,a1,a2,a3,b1,b2,b3,b4⟩:=qT.mp C;dsimp only at a1 a2 a3 b1 b2 b3 b4;subst a1;subst b1;have zl:=wt c1;have zr:=wt b4
 have g1:(pendingOf st)[i]? = some (sa,na,pw):=by
  rw[<-Array.getElem?_toList,e,List.getElem?_append_right (by omega),el,Nat.sub_self];rfl
 have g2:(pendingOf st)[i+1]? = some (sa+na,nb,pq):=by
  rw[<-Array.getElem?_toList,e,List.getElem?_append_right (by omega),el,show i+1-i=1 by omega];rfl
 refine Dr O B g1 g2 rfl a2 b2 (by omega) a3 b3 fun st' B' p' u' o'=>?_
 have ep:(pendingOf st').toList=l1++(sa,na+nb,pw)::l2:=by
  rw[p',Array.toList_eraseIdxIfInBounds,Array.toList_setIfInBounds,e];rw[List.set_append_right _ _ (by omega),el,Nat.sub_self,List.set_cons_zero,List.eraseIdx_append_of_length_le (by omega),el,show i+1-i=1 by omega];rfl
 refine fin st' B' ?_ ?_ fun j hj=>?_
 ·rw[ep]
  refine qT.mpr ⟨sa,qU (fun j j1 j2=>o' j (by omega)) c1,rfl,by show 1<=na+nb;omega,u',?_⟩
  show Ch lt _ (sa+(na+nb)) l2 u
  rw[<-Nat.add_assoc];exact qU (fun j j1 j2=>o' j (by omega)) b4
 ·have q1:=congrArg List.length ep
  have q2:=congrArg List.length e;simp only[Array.length_toList,List.length_append,List.length_cons]at q1 q2;omega
 ·exact o' j (by omega)
theorem wp_runs (O:Ord P w A s κ a0 lt)(B:di κ a0 st)(hp:pendingOf st = #[])(h1:1<=a0.size){Q:Unit->SortSt->Prop}
  (fin:∀ st',di κ a0 st'->Up lt (arrOf st') 0 a0.size->Q () st'):wpS (model P w) A E s sortRuns' Q st:=by
 rw[sortRuns'_eq];refine wpS_bind (wpS_get ?_);dsimp only;simp only[B.sz];generalize minRun' a0.size a0.size 0=mr
 refine wpS_bind (wpS_mono (wpS_forRange (I:=fun x c st'=>∃ lo,c=(none,lo)/\x<=lo/\lo<=a0.size/\di κ a0 st'/\Ch lt (arrOf st') 0 (pendingOf st').toList lo)
  (Q:=fun c st'=>c=(none,a0.size)/\di κ a0 st'/\Ch lt (arrOf st') 0 (pendingOf st').toList a0.size) ?step ?fin1 ⟨0,rfl,by omega,by omega,B,by rw[hp];rfl⟩) ?post)
 case fin1 =>
  rintro c st' ⟨lo,rfl,x1,x2,B',C'⟩
  have e:lo=a0.size:=by omega
  subst e;exact⟨rfl,B',C'⟩
 case post =>
  rintro c st' ⟨rfl,B',C'⟩;dsimp only
  refine wpS_bind (wpS_mono (wpS_forRange (I:=fun x c st'=>c=(none,())/\di κ a0 st'/\Ch lt (arrOf st') 0 (pendingOf st').toList a0.size/\(pendingOf st').size+x<=a0.size)
   (Q:=fun c st'=>c=(none,())/\di κ a0 st'/\Ch lt (arrOf st') 0 (pendingOf st').toList a0.size/\(pendingOf st').size<=1) ?step2 ?fin2 ⟨rfl,B',C',by have:=wt C';simp only[Array.length_toList]at this;omega⟩) ?post2)
  case fin2 =>
   rintro c st' ⟨rfl,B',C',z⟩;exact⟨rfl,B',C',by omega⟩
  case post2 =>
   rintro c st' ⟨rfl,B',C',z⟩;refine wpS_pure (fin st' B' ?_)
   have q1:(pendingOf st').toList.length<=1:=by simpa using z
   match hl:(pendingOf st').toList,q1 with
   | [],_=>rw[hl]at C';have:0=a0.size:=C';omega
   | [t],_ =>
    rw[hl]at C';obtain⟨a1,a2,a3,a4⟩:=C';have a5:0+t.2.1=a0.size:=a4;rw[a5]at a3;exact a3
  case step2 =>
   rintro x c st' _ hx ⟨rfl,B',C',z⟩;refine wpS_bind (wpS_get ?_)
   by_cases g:(pendingOf st').size<=1
   ·rw[if_pos g]
    exact wpS_pure ⟨rfl,B',C',g⟩
   rw[if_neg g];refine wpS_bind (EK O B' (Nat.le_refl _) C' ?_ fun st2 B2 C2 z2 _=>?_)
   ·exact Fd (by omega)
   ·simp only[Bool.not_true,Bool.false_eq_true,if_false]
    exact wpS_pure ⟨rfl,B2,C2,by omega⟩
 case step =>
  rintro x c st' _ hx ⟨lo,rfl,x1,x2,B',C'⟩;dsimp only
  by_cases g:lo>=a0.size
  ·rw[if_pos g]
   have e:lo=a0.size:=by omega
   subst e;exact wpS_pure ⟨rfl,B',C'⟩
  rw[if_neg g]
  have push:∀ (n:Nat)(st2:SortSt),1<=n->lo+n<=a0.size->di κ a0 st2->Ch lt (arrOf st2) 0 (pendingOf st2).toList lo->Up lt (arrOf st2) lo (lo+n) ->
    ∃ q,(none,lo+n)=((none,q):Option Unit×Nat)/\x+1<=q/\q<=a0.size/\di κ a0 (setPending st2 ((pendingOf st2).push (lo,n,0)))/\Ch lt (arrOf (setPending st2 ((pendingOf st2).push (lo,n,0)))) 0 (pendingOf (setPending st2 ((pendingOf st2).push (lo,n,0)))).toList q:=by
   intro n st2 n1 n2 B2 C2 u2;refine⟨lo+n,rfl,by omega,n2,⟨B2.pm,B2.fl,B2.kd⟩,?_⟩
   show Ch lt (arrOf st2) 0 ((pendingOf st2).push (lo,n,0)).toList (lo+n)
   rw[Array.toList_push];exact qT.mpr ⟨lo,C2,rfl,n1,u2,rfl⟩
  refine wpS_bind (Dq O B' (by omega) (by omega) fun n st2 B2 R2 n1 n2 u2 o2=>?_)
  have C2:Ch lt (arrOf st2) 0 (pendingOf st2).toList lo:=by
   rw[R2.1];exact qU (fun i i1 i2=>o2 i (by omega)) C'
  dsimp only
  apply Fw (fun n st2=>1<=n/\lo+n<=a0.size/\di κ a0 st2/\Ch lt (arrOf st2) 0 (pendingOf st2).toList lo/\Up lt (arrOf st2) lo (lo+n))
  ·intro rest
   by_cases g1:n<mr
   ·rw[if_pos g1]
    refine wpS_bind (wpS_lift (wpAny_rule ⟨rfl,?_⟩));refine wpS_bind (FT O B2 n1 (by omega) (by omega) u2 fun st5 B5 R5 u5 o5=>?_);simp only[Bool.not_true,Bool.false_eq_true,if_false]
    have C5:Ch lt (arrOf st5) 0 (pendingOf st5).toList lo:=by
     rw[R5.1];exact qU (fun i i1 i2=>o5 i (by omega)) C2
    have m1:1<=min (a0.size-lo) mr/\lo+min (a0.size-lo) mr<=a0.size:=⟨by omega,by omega⟩;generalize min (a0.size-lo) mr=n5 at m1 u5 ⊢;exact rest n5 st5 ⟨m1.1,m1.2,B5,C5,u5⟩
   ·rw[if_neg g1]
    exact rest n st2 ⟨n1,by omega,B2,C2,u2⟩
  clear B2 C2 u2 n1 n2 R2 o2;rintro n st2 ⟨n1,n2,B2,C2,u2⟩;refine wpS_bind (wpS_get ?_)
  cases hb:(pendingOf st2).back? with
  | none =>
   dsimp only;exact wpS_bind (wpS_modify (wpS_pure (push n st2 n1 n2 B2 C2 u2)))
  | some t =>
   obtain⟨t1,t2,t3⟩:=t;dsimp only
   refine wpS_bind (wpS_mono (wpS_forRange (I:=fun x c st'=>c=(none,())/\di κ a0 st'/\Ch lt (arrOf st') 0 (pendingOf st').toList lo/\Up lt (arrOf st') lo (lo+n))
    (Q:=fun c st'=>c=(none,())/\di κ a0 st'/\Ch lt (arrOf st') 0 (pendingOf st').toList lo/\Up lt (arrOf st') lo (lo+n)) ?stepx (fun _ _ h=>h) ⟨rfl,B2,C2,u2⟩) ?postx)
   case postx =>
    rintro c st3 ⟨rfl,B3,C3,u3⟩;dsimp only;refine wpS_bind (wpS_modify (wpS_bind (wpS_modify (wpS_pure (push n (setPending st3 _) n1 n2 ⟨B3.pm,B3.fl,B3.kd⟩ ?_ u3)))))
    show Ch lt (arrOf st3) 0 (Array.modify (pendingOf st3) _ _).toList lo
    rw[Array.toList_modify];refine BE ?_ C3;exact fun t=>⟨rfl,rfl⟩
   case stepx =>
    rintro y c st3 _ hy ⟨rfl,B3,C3,u3⟩;refine wpS_bind (wpS_get ?_)
    by_cases g2:(pendingOf st3).size>1
    ·rw[if_pos g2]
     cases hq:(pendingOf st3)[(pendingOf st3).size-2]? with
     | none=>exact wpS_pure ⟨rfl,B3,C3,u3⟩
     | some t =>
      obtain⟨v1,v2,v3⟩:=t;dsimp only
      by_cases g3:v3<=power' a0.size (2*t1+t2) (2*t1+t2+t2+n) a0.size
      ·rw[if_pos g3]
       exact wpS_pure ⟨rfl,B3,C3,u3⟩
      rw[if_neg g3];refine wpS_bind (EK O B3 (by omega) C3 (by omega) fun st4 B4 C4 z4 o4=>?_);simp only[Bool.not_true,Bool.false_eq_true,if_false];refine wpS_pure ⟨rfl,B4,C4,fun i j i1 hij j1=>?_⟩;rw[o4 i i1,o4 j (by omega)];exact u3 i j i1 hij j1
    ·rw[if_neg g2]
     exact wpS_pure ⟨rfl,B3,C3,u3⟩
end
end Tm
namespace Qs
open PySem PySem.W PyProof.Rows
theorem A8 {α β:Type}{f:α->β}{l m:List β}(h:l.Perm m):∀ {r:List α},m=r.map f->∃ ix:List α,ix.Perm r/\l=ix.map f:=by
 induction h with
 | nil =>
  intro r e
  have:r=[]:=by simpa using e.symm
  exact⟨[],by rw[this],rfl⟩
 | @cons x l1 l2 _ ih =>
  intro r e
  match r,e with
  | a::r',e =>
   rw[List.map_cons]at e;injection e with e1 e2;obtain⟨ix,p,q⟩:=ih e2;exact⟨a::ix,p.cons a,by rw[List.map_cons,<-e1,<-q]⟩
 | swap x y l =>
  intro r e
  match r,e with
  | [a],e=>simp at e
  | a::b::r',e =>
   rw[List.map_cons,List.map_cons]at e;injection e with e1 e2;injection e2 with e2 e3;exact⟨b::a::r',List.Perm.swap a b r',by rw[List.map_cons,List.map_cons,<-e1,<-e2,<-e3]⟩
 | trans _ _ ih1 ih2 =>
  intro r e;obtain⟨ix2,p2,q2⟩:=ih2 e;obtain⟨ix1,p1,q1⟩:=ih1 q2;exact⟨ix1,p1.trans p2,q1⟩
theorem xS {α:Type}:∀ l:List α,l.zip l=l.map fun v=>(v,v)
 | []=>rfl
 | a::l=>by rw[List.zip_cons_cons,xS l,List.map_cons]
theorem PairAt.uniq {h:Heap}{v:Value}{p q:Int×Int}(a:PairAt h v p)(b:PairAt h v q):p=q:=by
 obtain⟨b1,o1,n1,t1,u1,rfl,h1,_,d1⟩:=a;obtain⟨b2,o2,n2,t2,u2,e,h2,_,d2⟩:=b;injection e with e;subst e;rw[h1]at h2;injection h2 with h2;subst h2;rw[d1]at d2;injection d2 with d2 _;have d3:=congrArg Array.toList d2;simp only[List.cons.injEq,Value.int.injEq]at d3;exact Prod.ext d3.1.1 d3.2.1.1
open Classical in
noncomputable def dec (h:Heap) (v:Value):Int×Int:=if z:∃ p,PairAt h v p then choose z else (0,0)
theorem n9 {h:Heap}{v:Value}{p:Int×Int}(a:PairAt h v p):dec h v=p:=by
 unfold dec;rw[dif_pos ⟨p,a⟩];exact (Classical.choose_spec (⟨p,a⟩:∃ p,PairAt h v p)).uniq a
section
variable {prog:Program}{w:World}{A:Around}{E:Value->Shared->Prop}{s:Shared}
theorem yR {vs:List Value}{ps:List (Int×Int)}{Q:SortSt->Shared->Prop}(hp:Paired (PairAt s.heap) vs ps)(nd:ps.Nodup)(h2:2<=vs.length)
  (h:∀ st':SortSt,failedOf st'=none->(∃ out:List Value,(arrOf st').map (·.2)=out.toArray/\xZ vs ps out)->Q st' s) :
  wpAny (model prog w) A ((sortRuns').run (SortSt.mk' (tuples' true) (vs.toArray.zip vs.toArray) #[] 7 none)) (fun r s'=>Q r.2 s') E s:=by
 have hl:vs.length=ps.length:=Paired.length hp
 let f:Nat->Keyed:=fun i=>(vs.getD i Value.none,vs.getD i Value.none)
 have ea:(vs.toArray.zip vs.toArray).toList=(List.range vs.length).map f:=by
  apply List.ext_getElem?
  intro i;rw[Array.toList_zip,xS,List.getElem?_map,List.getElem?_map]
  by_cases hi:i<vs.length
  ·rw[List.getElem?_range hi];simp[hi,f]
  ·rw[List.getElem?_eq_none (l:=List.range vs.length) (by simp;omega),List.getElem?_eq_none (by simp;omega)];rfl
 have fp:∀ i,i<vs.length->PairAt s.heap (f i).1 (ps.getD i (0,0)):=fun i hi=>pU hp i hi
 have mem:∀ {x:Keyed},x∈vs.toArray.zip vs.toArray->∃ i,i<vs.length/\x=f i:=fun {x} hx=>by
  rw[<-Array.mem_toList_iff,ea]at hx;obtain⟨i,hi,e⟩:=List.mem_map.mp hx;exact⟨i,by simpa using hi,e.symm⟩
 have inj:∀ i j,i<vs.length->j<vs.length->f i=f j->i=j:=fun i j hi hj e=>by
  have e1:=fp i hi;rw[e]at e1;have e2:=e1.uniq (fp j hj);rw[hl]at hi hj
  have e3:ps.getD i (0,0)=ps[i]:=by simp[hi]
  have e4:ps.getD j (0,0)=ps[j]:=by simp[hj]
  rw[e3,e4]at e2;exact (List.getElem_inj nd).mp e2
 have O:Tm.Ord prog w A s (tuples' true) (vs.toArray.zip vs.toArray) (fun x y=>ltP (dec s.heap x.1) (dec s.heap y.1)):=by
  refine⟨fun {x y E Q} hx hy hq=>?_,fun x=>ltP_irr _,fun x y z=>ltP_tr,fun x y hx hy n=>?_,?_⟩
  ·obtain⟨i,hi,rfl⟩:=mem hx
   obtain⟨j,hj,rfl⟩:=mem hy;rw[n9 (fp i hi),n9 (fp j hj)]at hq;exact DY (fp i hi) (fp j hj) ⟨rfl,hq⟩
  ·obtain⟨i,hi,rfl⟩:=mem hx
   obtain⟨j,hj,rfl⟩:=mem hy;refine DX fun e=>n ?_;rw[n9 (fp i hi),n9 (fp j hj)]at e;rw[hl]at hi hj
   have e3:ps.getD i (0,0)=ps[i]:=by simp[hi]
   have e4:ps.getD j (0,0)=ps[j]:=by simp[hj]
   rw[e3,e4]at e;rw[(List.getElem_inj nd).mp e]
  ·rw[ea]
   refine List.pairwise_map.mpr ?_;rw[List.pairwise_iff_getElem];intro i j hi hj hij e;rw[List.getElem_range,List.getElem_range]at e;have:=inj i j (by simpa using hi) (by simpa using hj) e;omega
 have GY:(vs.toArray.zip vs.toArray).size=vs.length:=by simp
 refine wpAny_mono (Tm.wp_runs (st:=SortSt.mk' (tuples' true) (vs.toArray.zip vs.toArray) #[] 7 none) O ⟨Array.Perm.refl _,rfl,rfl⟩ rfl (by rw[GY];omega) (Q:=fun _ st'=>Q st' s) fun st' B u=>?_) (fun r s' hr=>by obtain⟨e,hq⟩:=hr;subst e;exact hq) fun _ _ e=>e;refine h st' B.fl ?_;obtain⟨ix,px,ex⟩:=A8 (f:=f) (Array.perm_iff_toList_perm.mp B.pm) ea;refine⟨ix.map fun i=>vs.getD i Value.none,?_,ix,px,rfl,?_⟩
 ·apply Array.ext'
  rw[Array.toList_map,ex,List.map_map];rfl
 ·have hin:∀ i∈ix,i<vs.length:=fun i hi=>by have:=px.mem_iff.mp hi;simpa using this
  rw[<-B.sz]at u;have pw:=Tm.up_pw u;rw[ex,List.pairwise_map]at pw;rw[List.pairwise_map];refine pw.imp_of_mem fun {i j} hi hj hlt=>?_;rw[n9 (fp i (hin i hi)),n9 (fp j (hin j hj))]at hlt;exact hlt
theorem sort_pairsU {a:Addr}{vs:List Value}{ps:List (Int×Int)}{n:Nat}{P:Fin->Shared->Prop}(ho:s.heap.get? a=some (seqObj "list" vs.toArray n))(hp:Paired (PairAt s.heap) vs ps)(nd:ps.Nodup)(h64:vs.length<=1000)
  (h:∀ out:List Value,xZ vs ps out->P (.done (.ret .none)) { s with heap:=sortedHeap s.heap a vs out.toArray }):wpAny (model prog w) A (Builtin.«list.sort» ⟨[.ref a],[]⟩) P E s:=by
 have ha:a<s.heap.objs.size:=Heap.lt_size ho;have hl:vs.length=ps.length:=Paired.length hp;obtain⟨e1,ho1⟩:∃ e1,(s.heap.update a (Obj.mapSeq fun _=>#[])).get? a=some (seqObj "list" #[] e1):=⟨_,get?_update_seq ho (fun _=>#[])⟩
 have ho6:(((s.heap.update a (Obj.mapSeq fun _=>#[])).push (seqObj "tuple" vs.toArray 0)).push (seqObj "list" #[] 0)).get? a=some (seqObj "list" #[] e1):=by
  rw[Heap.get?_push_ne _ _ _ (by rw[size_push',Heap.size_update];exact Nat.ne_of_lt (Nat.lt_succ_of_lt ha)),Heap.get?_push_ne _ _ _ (by rw[Heap.size_update];exact Nat.ne_of_lt ha)];exact ho1
 have sz:vs.toArray.size<=sizeLine:=by rw[List.size_toArray,sizeLine_eq];omega
 rw[list_sort_plain];refine wpAny_bind (listItems_at ho rfl (wpAny_bind (listUpdate_at ho rfl ?_ sz (Nat.zero_le _))));refine wpAny_bind (seqEpoch_at ho1 rfl (wpAny_bind (wpAny_newTuple ?_ (by show vs.length<=_;rw[sizeLine_eq];omega))));refine wpAny_bind (wpAny_newList (wpAny_holding ?_) (Nat.zero_le _))
 show wpAny (model prog w) A _ P E { s with heap:=((s.heap.update a (Obj.mapSeq fun _=>#[])).push (seqObj "tuple" vs.toArray 0)).push (seqObj "list" #[] 0) }
 dsimp only
 by_cases h2:vs.toArray.size<2
 ·rw[if_pos h2,if_pos h2]
  refine wpAny_bind (wpAny_pure ?_);rw[StateT.run_pure];refine wpAny_bind (wpAny_pure ?_);dsimp only
  have e:((vs.toArray.zip vs.toArray).map (·.2))=vs.toArray:=by
   apply Array.ext';simp[List.map_snd_zip]
  refine wpAny_bind (seqEpoch_at ho6 rfl (wpAny_bind (listUpdate_at ho6 rfl ?_ (Nat.zero_le _) ?_)))
  ·simp only[bne_self_eq_false,Bool.false_eq_true,if_false]
   refine wpAny_pure ?_
   show P _ { s with heap:=(((s.heap.update a _).push _).push _).update a (Obj.mapSeq fun _=>(vs.toArray.zip vs.toArray).map (·.2)) }
   rw[e];refine h vs ⟨List.range vs.length,List.Perm.refl _,?_,?_⟩
   ·apply List.ext_getElem?
    intro i;rw[List.getElem?_map]
    by_cases hi:i<vs.length
    ·rw[List.getElem?_range hi];simp[hi]
    ·rw[List.getElem?_eq_none (by omega),List.getElem?_eq_none (by simp;omega)];rfl
   ·have hv:vs.length<2:=by simpa using h2
    rw[List.pairwise_map,List.pairwise_iff_getElem];intro i j hi hj hij;rw[List.length_range]at hi hj;omega
  ·show ((vs.toArray.zip vs.toArray).map (·.2)).size<=_
   rw[e];omega
 ·rw[if_neg h2,if_neg h2]
  have h2':2<=vs.length:=by rw[List.size_toArray]at h2;omega
  have hp':Paired (PairAt (((s.heap.update a (Obj.mapSeq fun _=>#[])).push (seqObj "tuple" vs.toArray 0)).push (seqObj "list" #[] 0))) vs ps:=L2.Paired.mapP hp fun v q ⟨b,o,m,t,u,ev,hb,hc,hd⟩=>by
   refine⟨b,o,m,t,u,ev,?_,hc,hd⟩
   have nb:b≠a:=fun z=>by
    rw[z,ho]at hb;cases hb;exact absurd hc (by show ¬ (Value.type "list" = .type "tuple");decide)
   have hlt:=Heap.lt_size hb;rw[Heap.get?_push_ne _ _ _ (by rw[size_push',Heap.size_update];exact Nat.ne_of_lt (Nat.lt_succ_of_lt hlt)),Heap.get?_push_ne _ _ _ (by rw[Heap.size_update];exact Nat.ne_of_lt hlt),Heap.get?_update_ne _ _ _ _ nb];exact hb
  refine wpAny_bind (yh (s:={ s with heap:=((s.heap.update a (Obj.mapSeq fun _=>#[])).push (seqObj "tuple" vs.toArray 0)).push (seqObj "list" #[] 0) }) hp' (by omega) ?_);refine wpAny_bind (yR (Q:=fun st' s'=>failedOf st'=none/\(∃ out:List Value,(arrOf st').map (·.2)=out.toArray/\xZ vs ps out)/\s'={ s with heap:=((s.heap.update a (Obj.mapSeq fun _=>#[])).push (seqObj "tuple" vs.toArray 0)).push (seqObj "list" #[] 0) }) hp' nd h2' (fun st' hf ho=>⟨hf,ho,rfl⟩) |> fun q=>wpAny_mono q (fun r s' hr=>?_) fun _ _ x=>x);obtain⟨⟨⟩,st'⟩:=r;obtain⟨hf,⟨out,hout,so⟩,rfl⟩:=hr;dsimp only at hf hout ⊢
  have hol:out.length=vs.length:=by
   obtain⟨ix,hx,rfl,_⟩:=so;rw[List.length_map,hx.length_eq,List.length_range]
  rw[hout];refine wpAny_bind (seqEpoch_at ho6 rfl (wpAny_bind (listUpdate_at ho6 rfl ?_ (Nat.zero_le _) (by show out.toArray.size<=_;rw[List.size_toArray,hol,sizeLine_eq];omega))));rw[hf];simp only[bne_self_eq_false,Bool.false_eq_true,if_false];exact wpAny_pure (h out so)
end
end Qs
namespace Wz
open PySem PySem.Spec PyProof.Rows L2
theorem uL {X:Cx}(hc:X.calm=true):jK X (.builtin "sorted") (fun xs H Q=>∃ (p:Addr)(ml:List (Int×Int)),xs=[.ref p]/\H p=some (.dT (sX ml))/\ml.Nodup/\ml.length<=1000 /\
  ∀ (l:Addr)(qs:List (Int×Int))(H':Hp),H l=none->ay H H'->cp H' l qs->qs.Perm ml->qs.Pairwise (fun a b=>Qs.ltP a b=true)->Q (.ref l) H'):=by
 intro pins s σ H xs us Q I r h;obtain⟨p,ml,rfl,hH,nd,h64,q⟩:=h;obtain⟨u,rfl,rx⟩:=sN r;cases rx;obtain⟨hz,lo,ks,rel,o,es,ep,ho,hex,hd,hes,hnd⟩:=(show bC X.prog X.w H s.heap p (.dT (sX ml)) from I.hok p _ hH);have raw:Qs.RawAt s.heap p es ep:=⟨o,ho,hex,hd⟩
 have l1:ks.length=ml.length:=by
  have:=Paired.length rel;unfold sX at this;rw[List.length_map]at this;exact this.symm
 have l2:es.size=ml.length:=by
  have:=congrArg List.length hes;rw[List.length_map,Array.length_toList]at this;omega
 have tup:∀ i,i<ml.length->H ((ks.map fun x=>x.2.1).getD i 0)=some (.tup [.int (ml.getD i (0,0)).1,.int (ml.getD i (0,0)).2]):=fun i hi=>by
  have hk:ks[i]? = some (ks[i]'(by omega)):=by simp[show i<ks.length by omega]
  have hm:(sX ml)[i]? = some ([Sum.inl (ml[i]).1,Sum.inl (ml[i]).2],V.bl true):=by unfold sX;rw[List.getElem?_map];simp[hi]
  obtain⟨b,hb,e1,e2,e3⟩:=aU rel hm;rw[hk]at hb;cases hb
  have e4:(ks.map fun x=>x.2.1).getD i 0=(ks[i]'(by omega)).2.1:=by simp[show i<ks.length by omega]
  have e5:ml.getD i (0,0)=ml[i]:=by simp[hi]
  rw[e4,e5,e2];rfl
 refine PySem.Calls.call_function_entry kind_sorted plain_sorted entry_sorted (args_sorted1 _) ?_;unfold Builtin.«sorted»;refine wpAny_bind (m:=checkCount "sorted" 1 1 _) (wpAny_pure (wpAny_bind (PySem.W.kdu_collect (A:=X.A.in1) (Qs.raw_src lo) (I.ok.hd hc) raw (by rw[l2,sizeLine_eq];omega) fun h' tk acc kp hacc=>?_)));have I1:aE X pins σ H { s with heap:=h',toks:=tk }:=I.kept kp
 have al:acc.toList.length=ml.length:=by rw[Array.length_toList,hacc.1,l2]
 have ea:acc.toList=(ks.map fun x=>x.2.1).map Value.ref:=by
  apply List.ext_getElem?
  intro i
  by_cases hi:i<ml.length
  ·have hv:acc.toList[i]? = some (acc.toList[i]'(by omega)):=by simp[show i<acc.size by rw[hacc.1,l2];exact hi]
   obtain⟨e,he,hk⟩:=hacc.2 i _ (by rw[<-Array.getElem?_toList];exact hv);rw[hv,hk,List.getElem?_map,List.getElem?_map]
   have:es.toList[i]? = some e:=by rw[Array.getElem?_toList];exact he
   rw[hes,List.getElem?_map]at this
   cases ek:ks[i]? with
   | none=>rw[ek]at this;cases this
   | some x =>
    rw[ek]at this;have e2:=Option.some.inj this;rw[<-e2];rfl
  ·rw[List.getElem?_eq_none (by omega),List.getElem?_eq_none (by simp;omega)]
 have pa:Paired (Qs.PairAt h') acc.toList ml:=by
  rw[ea,<-lH (0,0) ml,<-lH 0 (ks.map fun x=>x.2.1),List.length_map,l1,List.map_map];refine ka _ fun i hi=>?_
  have hi:i<ml.length:=by simpa using hi
  obtain⟨_,its,rv,ob,hob,hcl,n,hdt⟩:=(show bC X.prog X.w H h' _ (.tup _) from I1.hok _ _ (tup i hi))
  cases rv with
  | cons r1 r2 =>
   cases r2 with
   | cons r3 r4 =>
    cases r4;obtain⟨t,rfl⟩:=r1;obtain⟨t',rfl⟩:=r3;exact⟨_,ob,n,t,t',rfl,hob,hcl,hdt⟩
 refine wpAny_bind (wpAny_newList ?_ (by rw[al,sizeLine_eq];omega));have hoL:(h'.push (seqObj "list" acc.toList.toArray 0)).get? h'.objs.size=some (seqObj "list" acc.toList.toArray 0):=Heap.get?_push_size _ rfl;have c9:Paired (Qs.PairAt (h'.push (seqObj "list" acc.toList.toArray 0))) acc.toList ml:=Paired.mapP pa fun v x ⟨b,ob,n,t,t',e,hb,hc',hd'⟩=>⟨b,ob,n,t,t',e,Heap.get?_push_of_some _ hb,hc',hd'⟩;refine wpAny_bind (wpAny_holding (wpAny_call_entry slot_list_sort ⟨_,hoL,rfl⟩ entry_list_sort (Qs.sort_pairsU hoL c9 nd (by rw[al];exact h64) fun out so=>⟨_,rfl,?_⟩) (args_list_sort _)));refine wpAny_pure ⟨_,rfl,?_⟩;obtain⟨ix,hx,hout,hso⟩:=so;rw[al]at hx
 have hin:∀ i∈ix,i<ml.length:=fun i hi=>by have:=hx.mem_iff.mp hi;simpa using this
 have eo:out=(ix.map fun i=>(ks.map fun x=>x.2.1).getD i 0).map Value.ref:=by
  rw[hout,List.map_map];refine List.map_congr_left fun i hi=>?_;have:=hin i hi;rw[ea]
  show ((ks.map fun x=>x.2.1).map Value.ref).getD i Value.none=Value.ref ((ks.map fun x=>x.2.1).getD i 0)
  simp[show i<ks.length by omega]
 obtain⟨e,he⟩:=sortedHeap_at (vs:=acc.toList) (out:=out.toArray) hoL
 have hl2:out.length=ml.length:=by rw[eo,List.length_map,List.length_map,hx.length_eq,List.length_range]
 have vr:∀ l:List Addr,bt (l.map V.ref) (l.map Value.ref):=fun l=>by
  induction l with
  | nil=>exact .nil
  | cons a l ih=>exact .cons rfl ih
 have fr:=I1.hok.fresh (Nat.le_refl h'.objs.size);refine⟨.ref h'.objs.size,_,I1.laid (t':=tk) (a:=h'.objs.size) (o:=.lst ((ix.map fun i=>(ks.map fun x=>x.2.1).getD i 0).map V.ref)) (fun b ob eb=>?_) (Nat.le_refl _) ⟨?_,out,e,?_,by simpa using he⟩,rfl,?_⟩
 ·rw[sortedHeap_old (Nat.ne_of_lt (Heap.lt_size eb)) (by rw[size_push'];exact Nat.lt_succ_of_lt (Heap.lt_size eb))]
  exact Heap.get?_push_of_some _ eb
 ·rw[List.length_map,List.length_map,hx.length_eq,List.length_range,sizeLine_eq];omega
 ·rw[eo];exact vr _
 ·refine q h'.objs.size (ix.map fun i=>ml.getD i (0,0)) _ fr (aj fr) ⟨_,ae,?_⟩ ?_ hso
  ·refine ka ix fun i hi=>(aj fr) _ _ (tup i (hin i hi))
  ·have:=hx.map fun i=>ml.getD i (0,0)
   rwa [lH]at this
def o8 (c:HX):Sp:=fun vs H Q _=>∃ (p w m ls:Addr)(A:HA)(st:bQ)(ml:List (Int×Int))(L:List Int),vs=[.ref p,.ref w,.ref m,.ref ls]/\aM c.C H p A st/\w∉A.fp/\H w=some (.dK (dk st.worn))/\H m=some (.dT (sX ml))/\bg H ls st.deeds /\
 cZ st/\gS st ml/\sQ L st/\p8 ml/\L.length<64/\ml.length<=1000/\st.worn.length<64/\(∀ g∈aq st.worn,aV g)/\∀ H',ay H H'->Q (.bl true) H'
end Wz
namespace L2
open PySem
end L2
namespace Wz
open PySem L2
theorem og {G:Hp}{x y:Addr}{ds es:List aN}{Q':VK}(hx:bg G x ds)(hy:bg G y es)(hl:ds.length+es.length<=1000)(k:∀ (p:Addr)(G':Hp),G p=none->ay G G'->bg G' p (ds++es)->Q' (.ref p) G'):Gz (.ref x) (.ref y) G Q':=by
 obtain⟨as,h1,p1⟩:=hx;obtain⟨bs,h2,p2⟩:=hy;have l1:=Paired.length p1;have l2:=Paired.length p2;refine⟨x,y,_,_,rfl,rfl,h1,h2,by rw[List.length_map,List.length_map];exact Nat.le_of_lt (aD (by omega)),fun p hp=>k p _ hp (aj hp) ⟨as++bs,by rw[ae,List.map_append],?_⟩⟩;exact aI (Paired.mapP p1 fun b e z=>(aj hp) _ _ z) (Paired.mapP p2 fun b e z=>(aj hp) _ _ z)
theorem BS {L:List Int}{n:Nat}{st:bQ}(G:cZ st)(o:Of L st)(hL:L.length<=100)(z:Sz n st)(hn:n<=450):xX st:=by
 have:=j8 G o;exact Ev.fits (by omega) (by omega) (by have:=z.c;omega) (fun x hx=>by have:=z.k x hx;omega) (by have:=z.d;omega)
def Gd (es:List aN)(ps:List (Int×Int)):Prop:=v6 (aw es).worn (fF es) ps/\ps.foldl aA (wr (aw es).worn)=id/\ps.length<=200
theorem D6 {W:List (Int×Int)}(h:aF W=[]){g:Int}(hg:g∈aq W):look W g=some g:=by
 have q:wr W g=g:=by
  refine Classical.byContradiction fun z=>?_;have:g∈aF W:=List.mem_filter.mpr ⟨(b7 _).mem_iff.mpr hg,decide_eq_true z⟩;rw[h]at this;cases this
 unfold wr at q
 cases e:look W g with
 | none=>have:=bn.mpr hg;rw[e]at this;cases this
 | some m=>rw[e]at q;exact congrArg some q
theorem wo:∀ (gs:List Int)(ds:List aN),bO ds->gs.Nodup->(∀ g∈gs,look (aw ds).worn g=some g)->bO (ds++gs.map aN.go)/\∀ h,look (aw (ds++gs.map aN.go)).worn h=if h∈gs then none else look (aw ds).worn h
 | [],ds,hd,_,_=>⟨by simpa using hd,fun h=>by simp⟩
 | g::gs,ds,hd,nd,ho=>by
  have nd':=List.nodup_cons.mp nd;have hg:=ho g List.mem_cons_self
  have hj:ba (aw ds) (.go g)=.done:=by simp only[ba,hg,if_true]
  have ew:∀ h,look (aw (ds++[aN.go g])).worn h=if h=g then none else look (aw ds).worn h:=fun h=>by
   rw[dt,iK];exact dW _ _ _
  obtain⟨d1,d2⟩:=wo gs (ds++[.go g]) (cr hd hj) nd'.2 fun h hh=>by
   rw[ew,if_neg (fun z=>nd'.1 (by rw[<-z];exact hh))];exact ho h (List.mem_cons_of_mem _ hh)
  rw[List.append_assoc]at d1;refine⟨d1,fun h=>?_⟩;have:=d2 h;rw[List.append_assoc,ew]at this;rw[List.map_cons];refine this.trans ?_
  by_cases z:h=g
  ·rw[if_pos z,z,if_pos List.mem_cons_self];split<;>rfl
  ·rw[if_neg z]
   by_cases y:h∈gs
   ·rw[if_pos y,if_pos (List.mem_cons_of_mem _ y)]
   ·rw[if_neg y,if_neg (fun q=>by rcases List.mem_cons.mp q with q | q;exact z q;exact y q)]
theorem wk:∀ (gs:List Int)(ds:List aN),bO ds->gs.Nodup->(∀ g∈gs,look (aw ds).worn g=none)->bO (ds++gs.map aN.come)
 | [],ds,hd,_,_=>by simpa using hd
 | g::gs,ds,hd,nd,ho=>by
  have nd':=List.nodup_cons.mp nd;have hg:=ho g List.mem_cons_self
  have hj:ba (aw ds) (.come g)=.done:=by simp only[ba,hg];rfl
  have:=wk gs (ds++[.come g]) (cr hd hj) nd'.2 fun h hh=>by
   rw[dt,iK]
   show look (put (aw ds).worn g g) h=none
   rw[bS,if_neg (fun z=>nd'.1 (by rw[<-z];exact hh))];exact ho h (List.mem_cons_of_mem _ hh)
  rw[List.append_assoc]at this;exact this
def jY (zs:List (Int×Int))(gs:List Int):List aN:=zs.map nU++gs.map aN.go++gs.map aN.come
theorem Ce {W:List (Int×Int)}(h:∀ g,look W g=none):W=[]:=by
 cases W with
 | nil=>rfl
 | cons p W =>
  have:p.1∈aq (p::W):=List.mem_map.mpr ⟨p,List.mem_cons_self,rfl⟩;have:=bn.mpr this;rw[h]at this;cases this
theorem DW {L:List Int}{es:List aN}{zs:List (Int×Int)}(dn:bO es)(nm:∀ d∈es,∀ g∈names d,g∈L/\aV g)(kn:∀ g∈aq (aw es).worn,g∈L/\aV g)(gd:Gd es zs)(nd:(aq (aw es).worn).Nodup) :
  let gs:=aZ (aq (aw es).worn)
  bO (es++jY zs gs)/\(∀ d∈es++jY zs gs,∀ g∈names d,g∈L/\aV g)/\aF (aw (es++zs.map nU)).worn=[]/\(aw (es++(zs.map nU++gs.map aN.go))).worn=[]:=by
 intro gs;obtain⟨fr,fid,_⟩:=gd;obtain⟨d1,n1⟩:=ya dn nm fr kn
 have hw:aF (aw (es++zs.map nU)).worn=[]:=by rw[xM];exact yJ fid
 have hk:∀ g,g∈aq (aw (es++zs.map nU)).worn↔g∈gs:=fun g=>by
  rw[xM,uq,(b7 _).mem_iff];constructor
  ·rintro (z | ⟨p,hp,z⟩)
   ·exact z
   ·have:=fr.1 p hp
    rcases z with z | z<;>rw[z]
    ·exact this.2.1
    ·exact this.2.2.1
  ·exact .inl
 have gn:gs.Nodup:=(b7 _).nodup_iff.mpr nd;obtain⟨d2,l2⟩:=wo gs _ d1 gn fun g hg=>D6 hw ((hk g).mpr hg)
 have none2:∀ h,look (aw (es++zs.map nU++gs.map aN.go)).worn h=none:=fun h=>by
  rw[l2]
  by_cases z:h∈gs
  ·rw[if_pos z]
  ·rw[if_neg z]
   cases e:look (aw (es++zs.map nU)).worn h with
   | none=>rfl
   | some m=>exact absurd ((hk h).mp (bn.mp (by rw[e];rfl))) z
 have d3:=wk gs _ d2 gn fun g _=>none2 g;refine⟨by unfold jY;rw[<-List.append_assoc,<-List.append_assoc];exact d3,fun d hd g hg=>?_,hw,by rw[<-List.append_assoc];exact Ce none2⟩;have kg:∀ g∈gs,g∈L/\aV g:=fun g hg=>kn g ((b7 _).mem_iff.mp hg);rcases List.mem_append.mp hd with z | z
 ·exact nm d z g hg
 ·rcases List.mem_append.mp z with z | z
  ·rcases List.mem_append.mp z with z | z
   ·exact n1 d (List.mem_append_right _ z) g hg
   ·obtain⟨q,hq,rfl⟩:=List.mem_map.mp z
    simp only[names,List.mem_cons,List.not_mem_nil,or_false]at hg;rw[hg];exact kg q hq
  ·obtain⟨q,hq,rfl⟩:=List.mem_map.mp z
   simp only[names,List.mem_cons,List.not_mem_nil,or_false]at hg;rw[hg];exact kg q hq
section
variable {L:List Int}{es:List aN}(P:Ey L es)(h64:(aw es).worn.length<64)
include P h64
theorem zB:(ar (aw es).worn).flatten.length<=64/\(ar (aw es).worn).length<=64:=by
 have PW:=cw P.good;obtain⟨w1,w2,w3,w4⟩:=PW.wrong
 have nw:(aF (aw es).worn).Nodup:=by unfold aF;exact ((b7 _).nodup_iff.mpr PW.nd).filter _
 have q:=b6 nw fun x hx=>(w1 x hx).1;unfold aq at q;rw[List.length_map]at q;obtain⟨rs1,rs2⟩:=cO PW;have:=PW.flat_len;omega
theorem BX {one other:Int}(ne:one≠other)(la:look (aw es).worn one=some one)(lb:look (aw es).worn other=some other)(c1:cD (aw es).circ one=[])(c2:cD (aw es).circ other=[]):Gd es (kU one other (ar (aw es).worn).reverse):=by
 have PW:=cw P.good;have li:∀ g,look (aw es).worn g=some g->g∈aq (aw es).worn:=fun g e=>bn.mp (by rw[e];rfl)
 have N0:∀ g,look (aw es).worn g=some g->wr (aw es).worn g=g:=fun g e=>by unfold wr;rw[e];rfl
 obtain⟨iR,fid,flen,_⟩:=PW.two P.al ne (li _ la) (li _ lb) (N0 _ la) (N0 _ lb) c1 c2;obtain⟨z1,z2⟩:=zB P h64;refine⟨iR,fid,?_⟩;rw[flen];split<;>omega
theorem Fb {one other:Int}(ne:one≠other)(la:look (aw es).worn one=some one)(lb:look (aw es).worn other=some other)(c1:cD (aw es).circ one=[])(c2:cD (aw es).circ other=[]):Gd es (wU (aw es) one other):=by
 have PW:=cw P.good;have li:∀ g,look (aw es).worn g=some g->g∈aq (aw es).worn:=fun g e=>bn.mp (by rw[e];rfl)
 have N0:∀ g,look (aw es).worn g=some g->wr (aw es).worn g=g:=fun g e=>by unfold wr;rw[e];rfl
 obtain⟨z1,z2⟩:=zB P h64;refine⟨AJ PW P.al P.mo ne (li _ la) (li _ lb) (N0 _ la) (N0 _ lb) c1 c2,Cl PW ne (N0 _ la) (N0 _ lb),?_⟩;have e1:=wP PW;have e2:=wO PW one other
 have e3:(wU (aw es) one other).length=(sW (aw es)).length+(qc (aw es) one other).length:=by unfold wU;rw[List.length_append]
 have e4:=dj (rs:=cI (aw es)) (qs:=ar (aw es).worn) List.filter_sublist;have e5:=dj (rs:=bG (aw es)) (qs:=ar (aw es).worn) List.filter_sublist;have e6:(bG (aw es)).length<=(ar (aw es).worn).length:=(List.filter_sublist).length_le;split at e2<;>omega
theorem Fa (he:((ar (aw es).worn).filter fun r=>(cU (aw es).circ r).isNone)=[]):Gd es (cu (r6 (aw es).worn (dy (aw es).circ))):=by
 have PW:=cw P.good
 have hubs:∀ r∈ar (aw es).worn,(cU (aw es).circ r).isNone=false:=fun r hr=>by
  cases e:(cU (aw es).circ r).isNone with
  | false=>rfl
  | true =>
   have:r∈(ar (aw es).worn).filter fun r=>(cU (aw es).circ r).isNone:=List.mem_filter.mpr ⟨hr,e⟩;rw[he]at this;cases this
 have chin:∀ r∈ar (aw es).worn,dy (aw es).circ r∈r:=fun r hr=>(iT (hubs r hr)).1;obtain⟨o1,o2,o3⟩:=PW.rot chin;obtain⟨z1,z2⟩:=zB P h64;refine⟨⟨fun p hp=>?_,PW.rotkeys chin⟩,o3,by omega⟩;obtain⟨r,hr,e1,e2,e3,e4,e5,e6⟩:=o2 p hp;refine⟨e4,e5,e6,fun z=>?_⟩;have hn:=(iT (hubs r hr)).2;rw[<-e1,wJ P.al P.mo]at hn;have:ur (fF es) r p.1=true:=List.any_eq_true.mpr ⟨p.2,List.mem_filter.mpr ⟨e2,decide_eq_true (Ne.symm e4)⟩,decide_eq_true z⟩;rw[hn]at this;cases this
theorem Fc {one:Int}(el:(look (aw es).worn one).isSome=true)(hn:cD (aw es).circ one=[])(he:((ar (aw es).worn).filter fun r=>(br (aw es).circ r).isNone)=[]):Gd es (iZ (aw es).worn (aw es).circ one):=by
 have PW:=cw P.good
 have hs:∀ r∈ar (aw es).worn,(br (aw es).circ r).isSome=true:=fun r hr=>by
  cases e:br (aw es).circ r with
  | some i=>rfl
  | none =>
   have:r∈(ar (aw es).worn).filter fun r=>(br (aw es).circ r).isNone:=List.mem_filter.mpr ⟨hr,by rw[e];rfl⟩;rw[he]at this;cases this
 have fo:=D7 es hn;obtain⟨o1,o3⟩:=PW.one hs fo;obtain⟨z1,z2⟩:=zB P h64;exact⟨A0 PW P.al P.ci hs (bn.mp el) fo hn,o3,by omega⟩
end
structure Nc (es:List aN)(one other:Int):Prop where
 ne:one≠other
 la:look (aw es).worn one=some one
 lb:look (aw es).worn other=some other
 c1:cD (aw es).circ one=[]
 c2:cD (aw es).circ other=[]
 s1:aV one
 s2:aV other
def y9 (c:HX):Sp:=fun vs H Q _=>∃ (p:Addr)(A:HA)(es:List aN)(L:List Int)(one other k:Int),vs=[.ref p,.int one,.int other,.int k]/\aM c.C H p A (aw es)/\Ey L es/\(aw es).worn.length<64/\(∀ g∈aq (aw es).worn,aV g)/\L.length<64/\Nc es one other/\(0<=k/\k<4) /\
 (∀ H',ay H H'->Q .non H')/\∀ (l:Addr)(H':Hp)(ps:List (Int×Int)),H l=none->ay H H'->cp H' l ps->Gd es ps->Q (.ref l) H'
theorem qX {K:PySem.W.Frag}{Qf:Hp->Prop}{l q:Addr}{gs:List Int}{rest:St}{H:Hp}(wd:Str)(f:Int->aN)(hf:∀ g,bN (f g)=.tup [.str wd,.int g])(hq:H q=none)(hl:H l=some (.lst (gs.map V.int)))(hlen:gs.length<=1000)(k:∀ (HK:Hp),ay H HK->bg HK q (gs.map f)->Qf HK) :
  jP (DA K l) (mJ 0) (BB tO (FM (jC (tC (V.str wd)) (jC (Bp 0) qo))) q) { nx:=fun _ H'=>Qf H',rt:=fun _ _=>False } (none::rest) (upd H q (.lst [])):=by
 have two:(2:Nat)<=sizeLine:=by decide
 refine bd (K:=K) (a:=l) (xs:=gs.map V.int) (fun i σ HK=>∃ v:Option V,σ=v::rest/\ay H HK/\bg HK q ((gs.take i).map f)) ⟨none,rfl,aj hq,[],ae,.nil⟩ (fun i σ HK _ ⟨_,_,s2,_⟩=>aW.of (s2 _ _ hl)) ?_ ?_
 ·rintro i y σ HK hi ⟨v,rfl,t1,qs,hq2,hq3⟩
  obtain⟨g,hg,rfl⟩:=bo hi;have hil:i<gs.length:=(List.getElem?_eq_some_iff.mp hg).1;have ql:=Paired.length hq3;rw[List.length_map,List.length_take]at ql;refine f9 ⟨_,rfl,two,fun t ht=>⟨_,(aj ht) _ _ hq2,by rw[List.length_map];exact aD (by omega),_,rfl,aY (t1.trans (aj ht)) hq,?_⟩⟩;rw[List.take_add_one,hg,Option.toList_some,List.map_append];have:=iP hq2 hq3 ht (f g);rw[hf]at this;exact this
 ·rintro σ HK ⟨v,rfl,t1,hq2⟩
  rw[List.length_map,List.take_length]at hq2;exact k HK t1 hq2
theorem x6 {K:PySem.W.Frag}{Qf:Hp->Prop}{l q:Addr}{ps:List (Int×Int)}{rest:St}{H:Hp}(hq:H q=none)(h1:cp H l ps)(hlen:ps.length<=1000)(k:∀ (HK:Hp),ay H HK->bg HK q (ps.map nU)->Qf HK) :
  jP (DA K l) (mJ 0) (BB tO (FM (jC (tC (V.str "exchange")) (jC (F0 (Ek K) (Bp 0) (tC (.int 0))) (jC (F0 (Ek K) (Bp 0) (tC (.int 1))) qo)))) q) { nx:=fun _ H'=>Qf H',rt:=fun _ _=>False } (none::rest) (upd H q (.lst [])):=by
 obtain⟨as,hl,hp⟩:=h1;have al:=Paired.length hp
 have three:(3:Nat)<=sizeLine:=by decide
 refine bd (K:=K) (a:=l) (xs:=as.map V.ref) (fun i σ HK=>∃ v:Option V,σ=v::rest/\ay H HK/\bg HK q ((ps.take i).map nU)) ⟨none,rfl,aj hq,[],ae,.nil⟩ (fun i σ HK _ ⟨_,_,s2,_⟩=>aW.of (s2 _ _ hl)) ?_ ?_
 ·rintro i y σ HK hi ⟨v,rfl,t1,qs,hq2,hq3⟩
  obtain⟨b,hb,rfl⟩:=bo hi;obtain⟨p,hp0,hB⟩:=aU hp hb;have hil:i<ps.length:=(List.getElem?_eq_some_iff.mp hp0).1;have ql:=Paired.length hq3;rw[List.length_map,List.length_take]at ql;have hb2:=t1 _ _ hB;refine f9 ⟨_,rfl,b,_,0,_,rfl,rfl,eP.of hb2,rfl,_,rfl,b,_,1,_,rfl,rfl,eP.of hb2,rfl,three,fun t ht=>⟨_,(aj ht) _ _ hq2,by rw[List.length_map];exact aD (by omega),_,rfl,aY (t1.trans (aj ht)) hq,?_⟩⟩;rw[List.take_add_one,hp0,Option.toList_some,List.map_append];exact iP hq2 hq3 ht (nU p)
 ·rintro σ HK ⟨v,rfl,t1,hq2⟩
  rw[List.length_map,al,List.take_length]at hq2;exact k HK t1 hq2
end Wz
namespace Wk28
open PySem L2 Wz
def eV (i:Nat):Stmt:=PySem.Challenge.pw_lastwaltz_k28_whole_the_last_waltz.main.body.getD i (.Pass ⟨0,0,0,0⟩)
structure HR (mg:Str->Option Value):Prop where
 len:mg "len" = none
 range:mg "range" = none
 isinstance:mg "isinstance" = none
 tuple:mg "tuple" = none
 list:mg "list" = none
 int:mg "int" = none
 bool:mg "bool" = none
 all:mg "all" = none
 any:mg "any" = none
 sorted:mg "sorted" = none
 reversed:mg "reversed" = none
 bset:mg "set" = none
 bmin:mg "min" = none
 bmax:mg "max" = none
 dict:mg "dict" = none
 zip:mg "zip" = none
 enumerate:mg "enumerate" = none
 sum:mg "sum" = none
 str:mg "str" = none
section
variable {P:Program}{w:World}{K:PySem.W.Frag}{mg:Str->Option Value}{base:Heap}{c:HX}{co cq ck f P0:Addr}{fd:FuncData}
abbrev fQ:Stmt:=cE (eV 9) 0
abbrev rB:List Str:=["self","guest"]
theorem qm:ax rB ["self","guest"] (am fQ):=eU
abbrev kR:Stmt:=eV 11
abbrev xb:List Str:=["hall"]
theorem Bj:ax xb ["hall"] (am kR):=eU
abbrev jt:Stmt:=eV 12
abbrev xa:List Str:=["hall","guest","ring","mask"]
theorem fY:ax xa ["hall","guest"] (am jt):=eU
abbrev kB:Stmt:=eV 13
abbrev yw:List Str:=["hall","placed","rings","guest","ring","other"]
theorem ed:ax yw ["hall"] (am kB):=eU
abbrev f8:Stmt:=eV 14
abbrev pT:List Str:=["ring"]
theorem vD:ax pT ["ring"] (am f8):=eU
abbrev o9:Stmt:=eV 16
abbrev Cm:List Str:=["hall","guest"]
theorem Bh:ax Cm ["hall","guest"] (am o9):=eU
abbrev iG:Stmt:=eV 17
abbrev rD:List Str:=["hall","ring","members","guest"]
theorem oY:ax rD ["hall","ring"] (am iG):=eU
abbrev ir:Stmt:=eV 18
abbrev ve:List Str:=["hall","ring","at"]
theorem lA:ax ve ["hall","ring"] (am ir):=eU
abbrev du:Stmt:=eV 19
abbrev jA:List Str:=["hall"]
theorem oZ:ax jA ["hall"] (am du):=eU
abbrev eO:Stmt:=eV 20
abbrev lj:List Str:=["hall"]
theorem sk:ax lj ["hall"] (am eO):=eU
abbrev fm:Stmt:=eV 21
abbrev qg:List Str:=["hall","rings","row","ring"]
theorem ff:ax qg ["hall","rings"] (am fm):=eU
abbrev dO:Stmt:=eV 22
abbrev j7:List Str:=["hall","rings","one","row","ring","loose"]
theorem dL:ax j7 ["hall","rings","one"] (am dO):=eU
abbrev cf:Stmt:=eV 23
abbrev eE:List Str:=["rings","one","other","row","last","ring"]
theorem dM:ax eE ["rings","one","other"] (am cf):=eU
abbrev lV:Stmt:=eV 24
abbrev AM:List Str:=["hall"]
theorem yT:ax AM ["hall"] (am lV):=eU
abbrev lZ:Stmt:=eV 25
abbrev AR:List Str:=["hall","one"]
theorem yX:ax AR ["hall","one"] (am lZ):=eU
abbrev f7:Stmt:=eV 26
abbrev pS:List Str:=["hall","one","other","new"]
theorem nh:ax pS ["hall","one","other"] (am f7):=eU
abbrev l6:Stmt:=eV 27
abbrev AS:List Str:=["hall","one","other"]
theorem yY:ax AS ["hall","one","other"] (am l6):=eU
abbrev hJ:Stmt:=eV 28
abbrev rC:List Str:=["hall","one","other","row","hubless"]
theorem ki:ax rC ["hall","one","other"] (am hJ):=eU
abbrev jk:Stmt:=cE (eV 30) 0
abbrev wW:List Str:=["self"]
theorem vA:ax wW ["self"] (am jk):=eU
abbrev jj:Stmt:=cE (eV 30) 1
abbrev wV:List Str:=["self","guest"]
theorem vz:ax wV ["self","guest"] (am jj):=eU
abbrev lU:Stmt:=cE (eV 30) 2
abbrev AL:List Str:=["self","guest"]
theorem yS:ax AL ["self","guest"] (am lU):=eU
abbrev fj:Stmt:=cE (eV 30) 3
abbrev qe:List Str:=["self","one","other","mask","other_mask"]
theorem fb:ax qe ["self","one","other"] (am fj):=eU
abbrev ii:Stmt:=cE (eV 30) 4
abbrev va:List Str:=["self","guest","mask"]
theorem tH:ax va ["self","guest","mask"] (am ii):=eU
abbrev fh:Stmt:=cE (eV 30) 5
abbrev qd:List Str:=["self","one","other","circle"]
theorem iF:ax qd ["self","one","other"] (am fh):=eU
abbrev gK:Stmt:=cE (eV 30) 6
abbrev sZ:List Str:=["self","guest"]
theorem sd:ax sZ ["self","guest"] (am gK):=eU
abbrev gJ:Stmt:=cE (eV 30) 7
abbrev sY:List Str:=["self"]
theorem r9:ax sY ["self"] (am gJ):=eU
abbrev ip:Stmt:=cE (eV 30) 8
abbrev vc:List Str:=["self","guest"]
theorem tL:ax vc ["self","guest"] (am ip):=eU
abbrev gM:Stmt:=cE (eV 30) 9
abbrev ti:List Str:=["self","mask"]
theorem sf:ax ti ["self","mask"] (am gM):=eU
abbrev km:Stmt:=cE (eV 30) 10
abbrev yp:List Str:=["self","one","other"]
theorem xB:ax yp ["self","one","other"] (am km):=eU
abbrev fk:Stmt:=cE (eV 30) 11
abbrev qf:List Str:=["self","guest"]
theorem oX:ax qf ["self","guest"] (am fk):=eU
abbrev fB:Stmt:=cE (eV 30) 12
abbrev mX:List Str:=["self"]
theorem tI:ax mX ["self"] (am fB):=eU
abbrev io:Stmt:=cE (eV 30) 13
abbrev vb:List Str:=["self"]
theorem tK:ax vb ["self"] (am io):=eU
abbrev gL:Stmt:=cE (eV 30) 14
abbrev tf:List Str:=["self"]
theorem se:ax tf ["self"] (am gL):=eU
abbrev gO:Stmt:=eV 32
abbrev tj:List Str:=["_law_script","_law_k"]
theorem si:ax tj ["_law_script","_law_k"] (am gO):=eU
abbrev js:Stmt:=eV 33
abbrev w9:List Str:=["_law_found"]
theorem vC:ax w9 ["_law_found"] (am js):=eU
abbrev kA:Stmt:=eV 34
abbrev yu:List Str:=["_law_cell"]
theorem xD:ax yu ["_law_cell"] (am kA):=eU
abbrev jo:Stmt:=eV 35
abbrev wZ:List Str:=["_law_cell","_law_many","_law_base","_law_left","_law_row_here","_law_count","_law_k","_law_now"]
theorem bI:ax wZ ["_law_cell","_law_many","_law_base"] (am jo):=eU
abbrev eK:Stmt:=eV 36
abbrev oE:List Str:=["_law_script","_law_start","_law_most","_law_base","_law_row_here","_law_cell","_law_drawn"]
theorem c8:ax oE ["_law_script","_law_start","_law_most","_law_base"] (am eK):=eU
abbrev jp:Stmt:=eV 37
abbrev w5:List Str:=["_law_k","_law_cell","_law_left","_law_turn","_law_number"]
theorem fW:ax w5 ["_law_k","_law_cell"] (am jp):=eU
abbrev lX:Stmt:=eV 38
abbrev AO:List Str:=["_law_one","_law_other"]
theorem yU:ax AO ["_law_one","_law_other"] (am lX):=eU
abbrev lW:Stmt:=eV 39
abbrev AN:List Str:=["_law_worn","_law_met","_law_deed_here","_law_guest_here"]
theorem sj:ax AN ["_law_worn","_law_met","_law_deed_here"] (am lW):=eU
abbrev jm:Stmt:=eV 40
abbrev wX:List Str:=["_law_worn","_law_met","_law_deed_here","_law_kept"]
theorem ni:ax wX ["_law_worn","_law_met","_law_deed_here"] (am jm):=eU
abbrev ku:Stmt:=eV 41
abbrev yq:List Str:=["_law_drawn","_law_many","_law_cell","_law_one"]
theorem pY:ax yq ["_law_drawn","_law_many","_law_cell"] (am ku):=eU
abbrev jn:Stmt:=eV 42
abbrev wY:List Str:=["_law_cell"]
theorem vB:ax wY ["_law_cell"] (am jn):=eU
abbrev eJ:Stmt:=eV 43
abbrev j6:List Str:=["_law_script","_law_cell","_law_many","_law_first","_law_deeds_here"]
theorem eI:ax j6 ["_law_script"] (am eJ):=eU
abbrev gP:Stmt:=eV 44
abbrev tp:List Str:=["_law_script","_law_worn","_law_met","_law_story","_law_deed_here"]
theorem dh:ax tp ["_law_script"] (am gP):=eU
abbrev ph:Stmt:=eV 45
abbrev Cn:List Str:=["_law_hall","_law_deed_here"]
theorem Bi:ax Cn ["_law_hall","_law_deed_here"] (am ph):=eU
abbrev gQ:Stmt:=eV 46
abbrev tu:List Str:=["_law_story","_law_hall","_law_deed_here"]
theorem gG:ax tu ["_law_story"] (am gQ):=eU
abbrev kz:Stmt:=eV 47
abbrev yt:List Str:=["_law_found"]
theorem xC:ax yt ["_law_found"] (am kz):=eU
abbrev jr:Stmt:=eV 48
abbrev uw:List Str:=["_law_found"]
theorem yW:ax uw ["_law_found"] (am jr):=eU
abbrev lY:Stmt:=eV 49
abbrev AQ:List Str:=["_law_k","_law_cell"]
theorem yV:ax AQ ["_law_k","_law_cell"] (am lY):=eU
abbrev iq:Stmt:=eV 50
abbrev vd:List Str:=["_law_hall","_law_worn","_law_met","_law_story","_law_guest_here"]
theorem ly:ax vd ["_law_hall","_law_worn","_law_met","_law_story"] (am iq):=eU
abbrev ky:Stmt:=eV 51
abbrev yr:List Str:=["_law_state","_law_deeds_here","_law_worn","_law_met","_law_story","_law_deed_here"]
theorem fJ:ax yr ["_law_state","_law_deeds_here"] (am ky):=eU
abbrev jq:Stmt:=eV 52
abbrev w8:List Str:=["_law_script","_law_cell","_law_deeds_here"]
theorem fX:ax w8 ["_law_script"] (am jq):=eU
abbrev fR:Stmt:=eV 53
abbrev rE:List Str:=["_law_hall","_law_one","_law_other","_law_kind","_law_found"]
theorem bU:ax rE ["_law_hall","_law_one","_law_other","_law_kind"] (am fR):=eU
abbrev pe:Stmt:=eV 54
abbrev zL:List Str:=["_law_script","_law_worn","_law_met","_law_story","_law_hall","_law_cell","_law_row_here","_law_deeds_here","_law_guests","_law_place","_law_deed_here"]
theorem fc:ax zL ["_law_script"] (am pe):=eU
variable (T:HR mg)(U:HT K mg c)(VM:HM K c)(UO:HN K mg c co cq)
include T U VM UO
theorem qh (F:dv K "__init__" "NoGuest.__init__" fQ f fd) : bb P w K mg base cL 1 f fd ["self","guest"] (Fz c.cN "guest"):=by
 refine F.ok qm (fun vs H Q E h=>?_) (fun cdv A outer s H vs Q E hr h=>?_)
 ·obtain⟨ea,g,rfl,_⟩:=h
  rfl
 ·obtain⟨ea,g,rfl,hg,hx,k⟩:=h
  refine⟨_,ag (aT (CD (fI:=c.fN) rfl U.mW U.wS U.wR U.wI (av (pv 0) (av (kL (cR (gZ (pv 1)) (cR a6 (oS)))) aJ)))) (
   ah (CQ (pv 0) (pv 1) rfl)),?_⟩
  refine⟨_,rfl,_,rfl,g,rfl,hg,fun y hy=>⟨y,rfl,hy,_,rfl,by decide,fun z=>⟨ea,c.cN,_,rfl,hx,U.eN,?_⟩⟩⟩;exact⟨_,rfl,_,rfl,ea,c.cN,rfl,hx,U.gN,k⟩
theorem AY (F:dv K "strays" "strays" kR f fd)(bP:aP P w K mg base cL c.C "guests" 1 ["self"] (kj c.C))(aR:aP P w K mg base (jD P w) c.C "wears" 3 ["self","guest"] (ji c)) : bb P w K mg base cL 4 f fd ["hall"] (nA c):=by
 refine F.ok Bj (fun vs H Q E h=>?_) (fun cdv A outer s H vs Q E hr h=>?_)
 ·obtain⟨p,B,st,rfl,_⟩:=h
  rfl
 ·obtain⟨p,B,st,rfl,S,G,h64,sm,k⟩:=h
  have hu:=cH hr;refine⟨_,ah (az (dq (so:=am kR) (N:=xb) (N':=["guest","hall"]) (src:=[none,some 0]) rfl rfl vU rfl (bq (oU bP (pv 0) U.cl hr.m dY)) (fun cl C s2 H2 ex=>⟨i8 0 (show (["guest","hall"]:List Str).Nodup by decide +kernel),kO (aG m5 (c6 aR (pv 1) U.cl hr.m pV (dX (pv 0))) (pv 0) (aQ _)),pv 0⟩))),?_⟩;have nos:∀ (B:HA)(m:Str),¬ m="worn"->¬ m="holders"->¬ m="circles"->¬ m="deeds"->(bx B).lookup m=none:=fun B m h1 h2 h3 h4=>rm B h1 h2 h3 h4;have nG:∀ B:HA,(bx B).lookup ("guests" : Str)=none:=fun B=>om B (by decide +kernel);have nM:∀ B:HA,(bx B).lookup ("moment" : Str)=none:=fun B=>om B (by decide +kernel);have nI:∀ B:HA,(bx B).lookup ("inside" : Str)=none:=fun B=>om B (by decide +kernel);have nS:∀ B:HA,(bx B).lookup ("story" : Str)=none:=fun B=>om B (by decide +kernel);have nW:∀ B:HA,(bx B).lookup ("wears" : Str)=none:=fun B=>om B (by decide +kernel);have nR:∀ B:HA,(bx B).lookup ("wearer" : Str)=none:=fun B=>om B (by decide +kernel);have nT:∀ B:HA,(bx B).lookup ("met" : Str)=none:=fun B=>om B (by decide +kernel);have nP:∀ B:HA,(bx B).lookup ("pairs" : Str)=none:=fun B=>om B (by decide +kernel);have nQ:∀ B:HA,(bx B).lookup ("partners" : Str)=none:=fun B=>om B (by decide +kernel)
  have two:(2:Nat)<=sizeLine:=by decide
  have nil0:(0:Nat)<=sizeLine:=Nat.zero_le _
  have dkk:∀ wl:List (Int×Int),(dk wl).map (·.1)=(aq wl).map Sum.inl:=fun wl=>by unfold dk aq;rw[List.map_map,List.map_map];rfl
  have ksl:(aZ (aq st.worn)).length<64:=by rw[iA,rq];exact h64
  have ksm:∀ g,g∈aZ (aq st.worn)↔g∈aq st.worn:=fun g=>gj;refine⟨_,rfl,p,B.dx,_,rfl,S.ob,nG B,p,B,_,rfl,S,h64,fun lg hlg=>?_⟩;have sg:=aj (o:=.lst ((aZ (aq st.worn)).map V.int)) hlg;have hg1:upd H lg (.lst ((aZ (aq st.worn)).map V.int)) lg=some (.lst ((aZ (aq st.worn)).map V.int)):=ae;generalize upd H lg (.lst ((aZ (aq st.worn)).map V.int))=H1 at sg hg1 ⊢;refine⟨lg,rfl,⟨_,aW.of hg1⟩,fun lm hlm=>?_⟩;have ew:aF st.worn=(aZ (aq st.worn)).filter fun g=>decide (wr st.worn g≠g):=rfl;rw[ew]at k;generalize aZ (aq st.worn)=ks at hg1 ksl ksm k
  refine bd (K:=K) (a:=lg) (xs:=ks.map V.int) (fun i σ HH=>∃ v:Option V,σ=[v,some (.ref p)]/\ay H1 HH/\HH lm=some (.lst (((ks.take i).filter fun g=>decide (wr st.worn g≠g)).map V.int)))
   ⟨none,rfl,aj hlm,ae⟩ (fun i σ HH _ ⟨_,_,s,_⟩=>aW.of (s _ _ hg1)) ?_ ?_
  ·rintro i y σ HH hi ⟨v,rfl,s2,hm2⟩
   obtain⟨g,hg,rfl⟩:=bo hi;have hil:i<ks.length:=(List.getElem?_eq_some_iff.mp hg).1;have gk:=(ksm g).mp (List.mem_of_getElem? hg);have S2:=(S.mono sg).mono s2
   have tk:ks.take (i+1)=ks.take i++[g]:=by rw[List.take_add_one,hg,Option.toList_some]
   have ll:((ks.take i).filter fun g=>decide (wr st.worn g≠g)).length<=64:=Nat.le_trans (List.length_filter_le _ _) (by rw[List.length_take];omega);refine pj ⟨_,rfl,p,B.dx,_,rfl,S2.ob,nW B,_,rfl,p,B,st,g,rfl,S2,sm g gk,?_⟩;rw[iX gk];refine⟨_,rfl,rfl,_,rfl,?_⟩
   by_cases hm:wr st.worn g=g
   ·rw[show (!decide (V.int (wr st.worn g)=V.int g))=false by rw[hm];simp]
    refine a7 ⟨_,rfl,s2,?_⟩
    have fg:List.filter (fun g=>decide (wr st.worn g≠g)) [g]=[]:=by rw[List.filter_cons,if_neg (fun z=>(of_decide_eq_true z) hm)];rfl
    rw[tk,List.filter_append,fg];simpa using hm2
   ·rw[show (!decide (V.int (wr st.worn g)=V.int g))=true by simpa using hm]
    refine bV ⟨_,rfl,_,hm2,by rw[List.length_map];exact aD (by omega),?_⟩;refine⟨_,rfl,aY s2 hlm,?_⟩
    have fg:List.filter (fun g=>decide (wr st.worn g≠g)) [g]=[g]:=by rw[List.filter_cons,if_pos (decide_eq_true hm)];rfl
    rw[ae,tk,List.filter_append,fg,List.map_append];rfl
  ·rintro σ HH ⟨v,rfl,s2,hm2⟩
   rw[List.length_map,List.take_length]at hm2;exact k lm HH (sg.free hlm) (sg.trans s2) hm2
theorem vt (F:dv K "ring_with" "ring_with" jt f fd)(aR:aP P w K mg base (jD P w) c.C "wears" 3 ["self","guest"] (ji c)) : bb P w K mg base (jD P w) 5 f fd ["hall","guest"] (qE c):=by
 refine F.okX fY (fun vs H Q E h=>?_) (fun cdv A outer s H vs Q E hr h=>?_)
 ·obtain⟨p,B,st,g,rfl,_⟩:=h
  rfl
 ·obtain⟨p,B,st,g,rfl,S,G,h64,smk,sm,k⟩:=h
  have hu:=cH hr
  refine⟨_,ag (bK 2 fY.nd (dS (dX (pv 1)))) (
   ag (bK 3 fY.nd (c6 aR (pv 0) U.cl hr.m fz (dX (pv 1)))) (
   ag (CS PassesOwn.leaving (aG m5 (pv 3) (pv 1) (aQ _)) (ag (aT (dZ PySem.F.plainAttrs_list PySem.F.slot_list_append PySem.F.type_list_append bM (pv 2) (dX (pv 3)))) (
   ah (bK 3 fY.nd (c6 aR (pv 0) U.cl hr.m fz (dX (pv 3))))))) (
   ah (az (pv 2))))),?_⟩
  have nW:(bx B).lookup ("wears" : Str)=none:=om B (by decide +kernel);refine⟨_,rfl,by show 1<=sizeLine;decide,fun l hl=>?_⟩;have s1:=aj (o:=.lst [V.int g]) hl;have hl1:upd H l (.lst [V.int g]) l=some (.lst ((aB (wr st.worn) g 1).map V.int)):=ae;generalize upd H l (.lst [V.int g])=H1 at s1 hl1 ⊢;have S1:=S.mono s1;refine⟨_,rfl,p,B.dx,_,rfl,S1.ob,nW,_,rfl,p,B,st,g,rfl,S1,sm,?_⟩
  by_cases hg:g∈aq st.worn
  ·have P:=cw G
   have R:=P.ring hg;have ol:=P.ord_le hg;rw[if_pos (bn.mpr hg)]at k;rw[iX hg];unfold b8 at k;generalize j9 (wr st.worn) st.worn.length g=M at R k ol;have i1:iter (wr st.worn) 1 g=wr st.worn g:=rfl;rw[<-i1];refine⟨fun n σ HH=>∃ i,n=M-i/\1<=i/\i<=M/\σ=[some (.ref p),some (.int g),some (.ref l),some (.int (iter (wr st.worn) i g))]/\ay H HH/\HH l=some (.lst ((aB (wr st.worn) g i).map V.int)),⟨_,1,rfl,Nat.le_refl _,R.1,rfl,s1,hl1⟩,?_⟩;rintro n σ HH ⟨i,rfl,h1,hM,rfl,s2,hl2⟩;refine⟨_,rfl,_,rfl,rfl,_,rfl,?_⟩
   by_cases e:iter (wr st.worn) i g=g
   ·rw[show (!decide (V.int (iter (wr st.worn) i g)=V.int g))=false by rw[e];simp]
    have:i=M:=by
     by_cases hlt:i<M
     ·exact absurd e (R.2.2 i (by omega) hlt)
     ·omega
    rw[this]at hl2;exact a7 ⟨_,rfl,k l HH hl s2 hl2⟩
   ·rw[show (!decide (V.int (iter (wr st.worn) i g)=V.int g))=true by simpa using e]
    have hlt:i<M:=by
     by_cases hlt:i<M
     ·exact hlt
     ·have:i=M:=by omega
      rw[this]at e;exact absurd R.2.1 e
    have ik:iter (wr st.worn) i g∈aq st.worn:=kI P.cl hg i;refine bV ⟨fun σ' H'=>σ'=[some (.ref p),some (.int g),some (.ref l),some (.int (iter (wr st.worn) (i+1) g))]/\ay H H'/\H' l=some (.lst ((aB (wr st.worn) g (i+1)).map V.int)),fun σ' H' ⟨a1,a2,a3⟩=>⟨M-(i+1),by omega,i+1,rfl,by omega,by omega,a1,a2,a3⟩,?_⟩;refine⟨_,rfl,.inl ⟨rfl,_,aW.of hl2⟩,_,rfl,l,_,_,rfl,rfl,hl2,by rw[List.length_map,bD];exact aD (by omega),?_⟩;have s3:ay H (upd HH l (.lst ((aB (wr st.worn) g i).map V.int++[V.int (iter (wr st.worn) i g)]))):=aY s2 hl
    have hl3:upd HH l (.lst ((aB (wr st.worn) g i).map V.int++[V.int (iter (wr st.worn) i g)])) l=some (.lst ((aB (wr st.worn) g (i+1)).map V.int)):=by rw[ae,lR,List.map_append];rfl
    generalize upd HH l (.lst ((aB (wr st.worn) g i).map V.int++[V.int (iter (wr st.worn) i g)]))=H3 at s3 hl3 ⊢;have S3:=S.mono s3;refine⟨_,rfl,p,B.dx,_,rfl,S3.ob,nW,_,rfl,p,B,st,_,rfl,S3,smk _ ik,?_⟩;rw[iX ik];exact⟨rfl,s3,hl3⟩
  ·have en:look st.worn g=none:=by
    cases e:look st.worn g with
    | none=>rfl
    | some m=>exact absurd (bn.mp (by rw[e];rfl)) hg
   rw[if_neg (by rw[en];simp)]at k;rw[en];exact fun dx H' s hx=>k dx H' (s1.trans s) hx
theorem xp (F:dv K "rings_of" "rings_of" kB f fd)(Cstrays:au P w K mg base "strays" 4 ["hall"] (nA c))(Cring_with:XCallee P w K mg base "ring_with" 5 ["hall","guest"] (qE c)) : bb P w K mg base cL 6 f fd ["hall"] (f6 c):=by
 refine F.ok ed (fun vs H Q E h=>?_) (fun cdv A outer s H vs Q E hr h=>?_)
 ·obtain⟨p,B,st,rfl,_⟩:=h
  rfl
 ·obtain⟨p,B,st,rfl,S,G,h64,smk,k⟩:=h
  have hu:=cH hr;have nil0:(0:Nat)<=sizeLine:=Nat.zero_le _
  refine⟨_,ag (bK 1 ed.nd (yL Ao (by rfl) T.bset PyProof.Rows.boot_set)) (
   ag (bK 2 ed.nd (dS aJ)) (
   ag (df PassesOwn.never rfl (bq (aO Cstrays hr.m rfl (dX (pv 0)))) (i8 3 ed.nd) (ah (be (aG A4 (pv 3) (pv 1) rfl) (ag (bK 4 ed.nd (oW Cring_with hr.m rfl pV (c9 (pv 0) (pv 3)))) (
   ag (df PassesOwn.never rfl (bq (pv 4)) (i8 5 ed.nd) (ah (aT (dZ PySem.F.plainAttrs_set PySem.F.slot_set_add PySem.F.type_set_add D2 (pv 1) (dX (pv 5)))))) (
   ah (aT (dZ PySem.F.plainAttrs_list PySem.F.slot_list_append PySem.F.type_list_append bM (pv 2) (dX (pv 4))))))) (aK)))) (
   ah (az (pv 2))))),?_⟩
  have P:=cw G;obtain⟨w1,w2,w3,w4⟩:=P.wrong;refine⟨rfl,fun lp hlp=>?_⟩;have sA:=aj (o:=.set (fun _=>false) 0) hlp;have hp1:upd H lp (.set (fun _=>false) 0) lp=some (.set (fun _=>false) 0):=ae;generalize upd H lp (.set (fun _=>false) 0)=H1 at sA hp1 ⊢;refine⟨nil0,fun lr hlr=>?_⟩;have sB:=aj (o:=.lst []) hlr;have lr0:H lr=none:=sA.free hlr;have hr1:upd H1 lr (.lst []) lr=some (.lst (([]:List Addr).map V.ref)):=ae;have hp2:=sB _ _ hp1;generalize upd H1 lr (.lst [])=H2 at sB hr1 hp2 ⊢;refine⟨_,rfl,p,B,st,rfl,(S.mono sA).mono sB,G,h64,smk,fun ls H3 hls s3 h3=>?_⟩;have lplr:lp≠lr:=bz hp2 hr1 (by intro z;cases z)
  have lsr:ls≠lr:=fun z=>by rw[z,hr1]at hls;cases hls
  have lsp:ls≠lp:=fun z=>by rw[z,hp2]at hls;cases hls
  refine⟨ls,rfl,⟨_,aW.of h3⟩,bd (K:=K) (a:=ls) (xs:=(aF st.worn).map V.int) (fun i σ HH=>∃ (Sf:Int->Bool)(n:Nat)(as:List Addr)(v3 v4 v5:Option V),σ=[some (.ref p),some (.ref lp),some (.ref lr),v3,v4,v5]/\ay H HH/\HH ls=some (.lst ((aF st.worn).map V.int))/\HH lp=some (.set Sf n)/\(∀ y,Sf y=decide (y∈(qR st.worn i).1))/\n<=(qR st.worn i).1.length /\
    HH lr=some (.lst (as.map V.ref))/\Paired (fun a (r:List Int)=>HH a=some (.lst (r.map V.int))) as (qR st.worn i).2/\(∀ a∈as,H a=none)/\lr∉as)
   ⟨_,0,[],none,none,none,rfl,(sA.trans sB).trans s3,h3,s3 _ _ hp2,fun y=>rfl,Nat.le_refl _,s3 _ _ hr1,.nil,(fun a h=>nomatch h),(fun h=>nomatch h)⟩ (fun i σ HH _ ⟨_,_,_,_,_,_,_,_,h,_⟩=>aW.of h) ?_ ?_⟩
  ·rintro i y σ HH hi ⟨Sf,n,as,v3,v4,v5,rfl,s4,hls4,hp4,hS4,hn4,hr4,hpa,has,hnr⟩
   obtain⟨g,hg,rfl⟩:=bo hi;have hil:i<(aF st.worn).length:=(List.getElem?_eq_some_iff.mp hg).1;obtain⟨gk,gw⟩:=w1 g (List.mem_of_getElem? hg);obtain⟨q1,q2,q3,q4,q5⟩:=EH P i;have qn:=Eh hg;have lpa:=Paired.length hpa;refine⟨_,rfl,_,rfl,lp,Sf,n,g,rfl,rfl,hp4,_,rfl,?_⟩;rw[hS4]
   by_cases hq:g∈(qR st.worn i).1
   ·rw[decide_eq_true hq]
    have e:qR st.worn (i+1)=qR st.worn i:=by rw[qn];unfold sH;rw[if_pos hq]
    refine a7 ⟨Sf,n,as,_,_,_,rfl,s4,hls4,hp4,?_,?_,hr4,?_,has,hnr⟩
    ·rw[e];exact hS4
    ·rw[e];exact hn4
    ·rw[e];exact hpa
   ·rw[decide_eq_false hq]
    have e:qR st.worn (i+1)=((qR st.worn i).1++b8 (wr st.worn) st.worn.length g,(qR st.worn i).2++[b8 (wr st.worn) st.worn.length g]):=by rw[qn];unfold sH;rw[if_neg hq]
    refine bV ⟨_,rfl,_,rfl,p,B,st,g,rfl,S.mono s4,G,h64,smk,smk g gk,?_⟩;rw[if_pos (bn.mpr gk)];intro l H5 hl s5 h5
    have rl:(b8 (wr st.worn) st.worn.length g).length<=st.worn.length:=by rw[eZ];exact P.ord_le gk
    generalize b8 (wr st.worn) st.worn.length g=r at e h5 rl
    have llr:l≠lr:=fun z=>by rw[z,hr4]at hl;cases hl
    have llp:l≠lp:=fun z=>by rw[z,hp4]at hl;cases hl
    refine⟨_,rfl,l,rfl,⟨_,aW.of h5⟩,bd (K:=K) (a:=l) (xs:=r.map V.int) (fun j σ HK=>∃ (Sg:Int->Bool)(n':Nat)(v5:Option V),σ=[some (.ref p),some (.ref lp),some (.ref lr),some (.int g),some (.ref l),v5]/\HK lp=some (.set Sg n')/\(∀ y,Sg y=decide (y∈(qR st.worn i).1++r.take j))/\n'<=(qR st.worn i).1.length+j/\(∀ b o,H5 b=some o->b≠lp->HK b=some o))
     ⟨Sf,n,_,rfl,s5 _ _ hp4,(fun y=>by rw[List.take_zero,List.append_nil];exact hS4 y),hn4,fun b o z _=>z⟩ (fun j σ HK _ ⟨_,_,_,_,_,_,_,kk⟩=>aW.of (kk _ _ h5 llp)) ?_ ?_⟩
    ·rintro j y σ HK hj ⟨Sg,n',v5,rfl,hp6,hS6,hn6,kk⟩
     obtain⟨x,hx,rfl⟩:=bo hj;have hjl:j<r.length:=(List.getElem?_eq_some_iff.mp hx).1;refine⟨_,rfl,.inr (.inr (.inr ⟨rfl,Sg,n',hp6⟩)),_,rfl,lp,Sg,n',x,rfl,rfl,hp6,by omega,?_⟩;refine⟨_,_,_,rfl,ae,fun y=>?_,?_,fun b o z nb=>by rw[af nb];exact kk b o z nb⟩
     ·rw[hS6,List.take_add_one,hx,Option.toList_some,<-List.append_assoc,<-Bool.decide_or]
      congr 1
      rw[List.mem_append (s:=(qR st.worn i).1++r.take j),List.mem_singleton]
     ·split<;>omega
    ·rintro σ HK ⟨Sg,n',v5,rfl,hp6,hS6,hn6,kk⟩
     rw[List.length_map]at hn6;have hr6:=kk _ _ (s5 _ _ hr4) (Ne.symm lplr);refine⟨_,rfl,.inl ⟨rfl,_,aW.of hr6⟩,_,rfl,lr,_,_,rfl,rfl,hr6,by rw[List.length_map];exact aD (by omega),?_⟩
     have up:∀ b o,HK b=some o->b≠lr->upd HK lr (.lst (as.map V.ref++[V.ref l])) b=some o:=fun b o z nb=>by rw[af nb];exact z
     refine⟨Sg,n',as++[l],_,_,_,rfl,fun b o z=>up b o (kk b o ((s4.trans s5) b o z) (ak z hlp)) (ak z lr0),up _ _ (kk _ _ (s5 _ _ hls4) lsp) lsr,up _ _ hp6 lplr,fun y=>?_,?_,by rw[ae,List.map_append];rfl,?_,fun a ha=>?_,fun z=>?_⟩
     ·rw[hS6,e,List.length_map,List.take_length]
     ·rw[e];show n'<=((qR st.worn i).1++r).length;rw[List.length_append];exact hn6
     ·rw[e]
      refine aI (Wz.Paired.mapP' hpa fun a q ha z=>up a _ (kk a _ (s5 _ _ z) (bz z hp4 (by intro q;cases q))) fun q=>hnr (by rw[<-q];exact ha)) (.cons (up _ _ (kk _ _ h5 llp) llr) .nil)
     ·rcases List.mem_append.mp ha with z | z
      ·exact has a z
      ·rw[List.mem_singleton.mp z];exact s4.free hl
     ·rcases List.mem_append.mp z with z | z
      ·exact hnr z
      ·exact llr (List.mem_singleton.mp z).symm
  ·rintro σ HH ⟨Sf,n,as,v3,v4,v5,rfl,s4,hls4,hp4,hS4,hn4,hr4,hpa,has,hnr⟩
   rw[CU st.worn (by rw[List.length_map];exact Nat.le_refl _)]at hpa;exact⟨_,rfl,k lr as HH lr0 s4 hr4 hpa has⟩
theorem vq (F:dv K "ring_home" "ring_home" f8 f fd) : bb P w K mg base cL 2 f fd ["ring"] lT:=by
 refine F.ok vD (fun vs H Q E h=>?_) (fun cdv A outer s H vs Q E hr h=>?_)
 ·obtain⟨l,r,rfl,_⟩:=h
  rfl
 ·obtain⟨l,r,rfl,hl,hne,hlen,k⟩:=h
  have two:(2:Nat)<=sizeLine:=by decide
  refine⟨_,ah (az (dq (so:=am f8) (N:=pT) (N':=["other","ring"]) (src:=[none,some 0]) rfl rfl vU rfl (bq (dG fZ (pv 0) (eG (ao)) fV)) (fun cl C s2 H2 ex=>⟨i8 0 (show (["other","ring"]:List Str).Nodup by decide +kernel),c7,bp (c9 (bv (wE K) (pv 1) (ao) (fun _ _=>rfl)) (pv 0))⟩))),?_⟩;obtain⟨g,r,rfl⟩:=List.exists_cons_of_ne_nil hne;refine⟨_,rfl,_,rfl,l,_,rfl,aW.of hl,fun q hq=>?_⟩;rw[BH,show ((g::r).map V.int).drop 1=r.map V.int from rfl];have s1:=aj (o:=.lst (r.map V.int)) hq;have hq1:upd H q (.lst (r.map V.int)) q=some (.lst (r.map V.int)):=ae;generalize upd H q (.lst (r.map V.int))=H1 at s1 hq1 ⊢;refine⟨q,rfl,⟨_,aW.of hq1⟩,fun l2 hl2=>?_⟩
  refine bd (K:=K) (a:=q) (xs:=r.map V.int) (fun i σ HH=>∃ v:Option V,σ=[v,some (.ref l)]/\ay H1 HH/\cp HH l2 ((r.take i).map fun x=>(g,x)))
   ⟨none,rfl,aj hl2,⟨[],ae,.nil⟩⟩ (fun i σ HH _ ⟨_,_,s,_⟩=>aW.of (s _ _ hq1)) ?_ ?_
  ·rintro i y σ HH hi ⟨v,rfl,s2,⟨as,ha,hp⟩⟩
   obtain⟨x,hx,rfl⟩:=bo hi;have hil:i<r.length:=(List.getElem?_eq_some_iff.mp hx).1;have hal:=Paired.length hp;rw[List.length_map,List.length_take]at hal;rw[List.length_cons]at hlen;refine f9 ⟨_,rfl,l,_,_,_,rfl,rfl,aW.of ((s1.trans s2) _ _ hl),fT (j:=0) rfl,_,rfl,two,fun t ht=>⟨_,by rw[af (ak ha ht)];exact ha,by rw[List.length_map];exact aD (by omega),?_⟩⟩;have tl:t≠l2:=Ne.symm (ak ha ht);refine⟨_,rfl,aY (s2.trans (aj ht)) hl2,as++[t],by rw[ae,List.map_append];rfl,?_⟩;rw[List.take_add_one,hx,Option.toList_some,List.map_append];refine aI (Paired.mapP hp fun b q e=>?_) (.cons (by rw[af tl,ae]) .nil);rw[af (bz e ha (by intro z;cases z)),af (ak e ht)];exact e
  ·rintro σ HH ⟨v,rfl,s2,row⟩
   rw[List.length_map,List.take_length]at row;exact k l2 HH (s1.free hl2) (s1.trans s2) row
theorem AW (F:dv K "is_new" "is_new" o9 f fd)(cV:aP P w K mg base cL c.C "inside" 1 ["self","guest"] (ny c.C))(NG:jR P w K mg base c)(bB:aP P w K mg base cL c.C "partners" 1 ["self","guest"] (gH c.C)) : bb P w K mg base (jD P w) 4 f fd ["hall","guest"] (qC c):=by
 refine F.okX Bh (fun vs H Q E h=>?_) (fun cdv A outer s H vs Q E hr h=>?_)
 ·obtain⟨p,B,st,g,rfl,_⟩:=h
  rfl
 ·obtain⟨p,B,st,g,rfl,S,sm,h64,k⟩:=h
  have hu:=cH hr;have nI:(bx B).lookup ("inside" : Str)=none:=om B (by decide +kernel);have nQ:(bx B).lookup ("partners" : Str)=none:=om B (by decide +kernel)
  refine⟨_,ag (be (jb (jd (c6 cV (pv 0) U.cl hr.m dY (dX (pv 1))))) (ah (rX NG U (hr.mono (by decide)) dF rfl hr.hd rfl (pv 1))) (aK)) (
   ah (az (D9 (Fm 1 (B7 hr (by decide))) (c6 bB (pv 0) U.cl hr.m dY (dX (pv 1))) (dS aJ) (aQ _)))),?_⟩
  refine⟨_,rfl,p,B.dx,_,rfl,S.ob,nI,_,rfl,p,B,st,g,rfl,S,_,rfl,?_⟩
  cases e:(look st.worn g).isSome with
  | false =>
   rw[e,if_neg Bool.false_ne_true]at k;exact bV ⟨_,rfl,g,rfl,sm,fun dx hdx=>k dx _ (aj hdx) ae⟩
  | true =>
   rw[e,if_pos rfl]at k;refine a7 ⟨_,rfl,p,B.dx,_,rfl,S.ob,nQ,_,rfl,p,B,st,g,rfl,S,h64,fun l H1 hl s1 h1=>⟨Nat.zero_le _,fun l2 hl2=>?_⟩⟩;have s2:=aj (o:=.lst []) hl2;refine⟨l,l2,_,_,rfl,rfl,fA (aW.of (s2 _ _ h1)),fA (ns:=[]) (aW.of ae),fun b hb=>?_⟩
   have eb:(if false=true then !b else b)=decide (cD st.circ g=[]):=by
    show b=_
    have e1:(ux (aZ (cD st.circ g))=ux [])↔cD st.circ g=[]:=by
     rw[Cq];constructor
     ·intro z
      have:=congrArg List.length z;rw[iA]at this;exact List.length_eq_zero_iff.mp this
     ·intro z;rw[z];exact GE
    by_cases hc:cD st.circ g=[]
    ·rw[decide_eq_true hc,hb.mpr (e1.mpr hc)]
    ·rw[decide_eq_false hc]
     cases b with
     | true=>exact absurd (e1.mp (hb.mp rfl)) hc
     | false=>rfl
   rw[eb];exact k _ (s1.trans s2)
theorem AV (F:dv K "hub_of" "hub_of" iG f fd)(bB:aP P w K mg base cL c.C "partners" 1 ["self","guest"] (gH c.C)) : bb P w K mg base cL 2 f fd ["hall","ring"] (nv c):=by
 refine F.ok oY (fun vs H Q E h=>?_) (fun cdv A outer s H vs Q E hr h=>?_)
 ·obtain⟨p,l,B,st,L,r,rfl,_⟩:=h
  rfl
 ·obtain⟨p,l,B,st,L,r,rfl,S,hl,h64,ci,hL,k⟩:=h
  have hu:=cH hr;have nQ:(bx B).lookup ("partners" : Str)=none:=om B (by decide +kernel)
  refine⟨_,ag (bK 2 oY.nd (CG (so:=am iG) (N:=rD) (N':=["guest"]) (src:=[none]) rfl rfl vU rfl (bq (pv 1)) (fun cl C s2 H2 ex=>⟨i8 0 (show (["guest"]:List Str).Nodup by decide +kernel),c7,pv 0,gC⟩))) (
   ag (df PassesOwn.never rfl (bq (pv 1)) (i8 3 oY.nd) (ah (be (jb (jd (bu (An rfl) (by rfl) T.any PyProof.Rows.boot_any (dX (dq (so:=am iG) (N:=rD) (N':=["partner","members"]) (src:=[none,some 2]) rfl rfl vU rfl (bq (c6 bB (pv 0) U.cl hr.m dY (dX (pv 3)))) (fun cl C s2 H2 ex=>⟨i8 0 (show (["partner","members"]:List Str).Nodup by decide +kernel),c7,yM (oQ hu (pv 0) (pv 1))⟩)))))) (ah (az (pv 3))) (aK)))) (
   ah (az (ic)))),?_⟩
  refine⟨_,rfl,l,rfl,⟨_,aW.of hl⟩,fun dm hdm=>?_⟩;have s1:=aj (o:=.dK []) hdm
  refine bd (K:=K) (a:=l) (xs:=r.map V.int) (fun i σ HK=>∃ v:Option V,σ=[v]/\ay H HK/\HK dm=some (.dK (qv ((r.take i).foldl eQ []))))
   ⟨none,rfl,s1,ae⟩ (fun i σ HK _ ⟨_,_,s2,_⟩=>aW.of (s2 _ _ hl)) ?_ ?_
  ·rintro i y σ HK hi ⟨v,rfl,t1,hd⟩
   obtain⟨x,hx,rfl⟩:=bo hi;have hil:i<r.length:=(List.getElem?_eq_some_iff.mp hx).1;have ln:=qP (r.take i) [];rw[List.length_take]at ln;refine Er ⟨_,rfl,_,Sum.inl x,hd,rfl,by unfold qv;rw[List.length_map];exact aD (by simp at ln;omega),?_⟩;refine⟨_,rfl,aY t1 hdm,?_⟩;rw[ae,zR,List.take_add_one,hx,Option.toList_some,List.foldl_append];rfl
  rintro σ H1 ⟨v,rfl,t1,hd⟩;rw[List.length_map,List.take_length]at hd;have isin:∀ (HH:Hp)(x:Int),HH dm=some (.dK (qv (r.foldl eQ [])))->da HH dm (.int x) (dH (qv (r.foldl eQ [])) (Sum.inl x:cm)):=fun HH x h=>da.k (k:=Sum.inl x) h
  have memr:∀ x,decide (x∈r.foldl eQ [])=decide (x∈r):=fun x=>by
   have:=qQ r [] x;simp only[List.not_mem_nil,false_or]at this;exact decide_eq_decide.mpr this
  refine⟨_,rfl,l,rfl,⟨_,aW.of (t1 _ _ hl)⟩,bd (K:=K) (a:=l) (xs:=r.map V.int) (fun i σ HH=>∃ v3:Option V,σ=[some (.ref p),some (.ref l),some (.ref dm),v3]/\ay H1 HH/\∀ x∈r.take i,(!e7 st.circ r x)=false)
   ⟨none,rfl,ay.refl _,fun x hx=>by simp at hx⟩ (fun i σ HH _ ⟨_,_,s2,_⟩=>aW.of (s2 _ _ (t1 _ _ hl))) ?_ ?_⟩
  ·rintro i y σ HH hi ⟨v3,rfl,t2,hm⟩
   obtain⟨g,hg,rfl⟩:=bo hi;have SH:=S.mono (t1.trans t2);refine⟨_,rfl,p,B.dx,_,rfl,SH.ob,nQ,_,rfl,p,B,st,g,rfl,SH,Nat.lt_of_le_of_lt (ci.cl g) hL,fun lq H5 hlq s5 h5=>⟨lq,rfl,⟨_,aW.of h5⟩,fun q hq=>?_⟩⟩;have c64:=ci.cl g
   have sl:(aZ (cD st.circ g)).length<=64:=by rw[iA];omega
   have hd5:=s5 _ _ (t2 _ _ hd)
   have em:e7 st.circ r g=((aZ (cD st.circ g)).map fun x=>decide (x∈r)).any id:=by unfold e7;rw[List.any_map];rfl
   generalize aZ (cD st.circ g)=ps at h5 sl em
   refine bd (K:=K) (a:=lq) (xs:=ps.map V.int) (fun j σ HK=>∃ v:Option V,σ=[v,some (.ref dm)]/\ay H5 HK/\HK q=some (.lst (((ps.take j).map fun x=>decide (x∈r)).map V.bl)))
    ⟨none,rfl,aj hq,ae⟩ (fun j σ HK _ ⟨_,_,s2,_⟩=>aW.of (s2 _ _ h5)) ?_ ?_
   ·rintro j y σ HK hj ⟨v,rfl,t3,hq3⟩
    obtain⟨x,hx,rfl⟩:=bo hj;have hjl:j<ps.length:=(List.getElem?_eq_some_iff.mp hx).1;refine f9 ⟨_,rfl,_,rfl,dm,_,rfl,isin HK x (t3 _ _ hd5),_,hq3,by rw[List.length_map,List.length_map,List.length_take];exact aD (by omega),?_⟩;refine⟨_,rfl,aY t3 hq,?_⟩;rw[ae,Ag,memr,List.take_add_one,hx,Option.toList_some,List.map_append,List.map_append];rfl
   ·rintro σ HK ⟨v,rfl,t3,hq3⟩
    rw[List.length_map,List.take_length]at hq3;refine⟨q,_,rfl,aW.of hq3,_,rfl,?_⟩;rw[<-em]
    cases e:e7 st.circ r g with
    | true =>
     refine a7 ⟨_,rfl,(t2.trans s5).trans t3,fun x hx=>?_⟩;rw[List.take_add_one,hg,Option.toList_some]at hx;rcases List.mem_append.mp hx with z | z
     ·exact hm x z
     ·rw[List.mem_singleton.mp z,e];rfl
    | false =>
     refine bV ⟨_,rfl,?_⟩;have fe:cU st.circ r=some g:=zz hm hg (by show (!e7 st.circ r g)=true;rw[e];rfl);rw[fe]at k;exact k HK (((t1.trans t2).trans s5).trans t3)
  ·rintro σ HH ⟨v3,rfl,t2,hm⟩
   rw[List.length_map,List.take_length]at hm
   have fe:cU st.circ r=none:=List.find?_eq_none.mpr fun x hx=>by rw[hm x hx];simp
   rw[fe]at k;exact k HH (t1.trans t2)
theorem tG (F:dv K "loose_ring" "loose_ring" ir f fd)(eY:aP P w K mg base cL c.C "met" 1 ["self","one","other"] (zX c.C)) : bb P w K mg base cL 2 f fd ["hall","ring"] (qD c):=by
 refine F.ok lA (fun vs H Q E h=>?_) (fun cdv A outer s H vs Q E hr h=>?_)
 ·obtain⟨p,l,B,st,r,rfl,_⟩:=h
  rfl
 ·obtain⟨p,l,B,st,r,rfl,S,hl,h64,k⟩:=h
  have hu:=cH hr;have nT:(bx B).lookup ("met" : Str)=none:=om B (by decide +kernel)
  refine⟨_,ag (df PassesOwn.never rfl (kN (by rfl) T.range (dX (bu bZ (by rfl) T.len PySem.boot_len (dX (pv 1))))) (i8 2 lA.nd) (ah (be (jb (jd (c6 eY (pv 0) U.cl hr.m dY (c9 (bv fu (pv 1) (aS Cv (pv 2) (ao)) (fun _ _=>rfl)) (bv fu (pv 1) (pv 2) (fun _ _=>rfl)))))) (ah (az (aS i6 (dG fZ (pv 1) (eG (pv 2)) fV) (dG fZ (pv 1) fV (eG (pv 2)))))) (aK)))) (
   ah (az (ic))),?_⟩
  refine⟨_,rfl,l,_,rfl,.inl (aW.of hl),_,rfl,?b1,?b2,?_⟩
  case b1=>rw[List.length_map];omega
  case b2=>rw[List.length_map];omega
  rw[List.length_map]
  refine kH (n:=(r.length:Int).toNat) (fun i σ HH=>∃ v:Option V,σ=[some (.ref p),some (.ref l),v]/\ay H HH/\∀ x,x<i->(!cC st.circ (gE r x) (gW r x))=false)
   ⟨none,rfl,ay.refl _,fun x hx=>by omega⟩ ?_ ?_
  ·rintro i σ HH hi ⟨v,rfl,t1,hm⟩
   rw[Int.zero_add]
   have hil:i<r.length:=by omega
   have SH:=S.mono t1;have hlH:=t1 _ _ hl;refine⟨_,rfl,p,B.dx,_,rfl,SH.ob,nT,_,rfl,_,rfl,_,_,rfl,rfl,l,_,_,_,rfl,rfl,aW.of hlH,Ee hil,_,rfl,_,rfl,l,_,_,_,rfl,rfl,aW.of hlH,DP hil,p,B,st,_,_,rfl,SH,fun H5 s5=>⟨_,rfl,?_⟩⟩
   cases e:cC st.circ (gE r i) (gW r i) with
   | true =>
    refine a7 ⟨_,rfl,t1.trans s5,fun x hx=>?_⟩
    by_cases hx2:x<i
    ·exact hm x hx2
    ·rw[show x=i by omega,e];rfl
   | false =>
    have fe:br st.circ r=some i:=BR hil hm (by show (!cC st.circ (gE r i) (gW r i))=true;rw[e];rfl);rw[fe]at k;have hl5:=s5 _ _ hlH;refine bV ⟨_,rfl,_,rfl,_,rfl,lM ⟨l,_,rfl,aW.of hl5,fun q1 hq1=>?_⟩⟩;rw[BJ];have g1:=aj (o:=.lst ((r.map V.int).drop i)) hq1;refine⟨_,rfl,lM ⟨_,rfl,_,rfl,l,_,rfl,aW.of (g1 _ _ hl5),fun q2 hq2=>?_⟩⟩;rw[BK];have g2:=aj (o:=.lst ((r.map V.int).take i)) hq2;refine⟨q1,q2,_,_,rfl,rfl,g2 _ _ ae,ae,by rw[List.length_drop,List.length_take,List.length_map];exact Nat.le_of_lt (aD (by omega)),fun q3 hq3=>?_⟩;have t5:=(t1.trans s5).trans (g1.trans g2);refine k q3 _ (t5.free hq3) (t5.trans (aj hq3)) ?_;rw[ae,List.map_append,List.map_drop,List.map_take]
  ·rintro σ HH ⟨v,rfl,t1,hm⟩
   have fe:br st.circ r=none:=List.find?_eq_none.mpr fun x hx=>by rw[hm x (by have:=List.mem_range.mp hx;omega)];simp
   rw[fe]at k;exact k HH t1
theorem oN (F:dv K "hubless_rings" "hubless_rings" du f fd)(Crings_of:au P w K mg base "rings_of" 6 ["hall"] (f6 c))(Chub_of:au P w K mg base "hub_of" 2 ["hall","ring"] (nv c)) : bb P w K mg base cL 7 f fd ["hall"] (kQ c):=by
 refine F.ok oZ (fun vs H Q E h=>?_) (fun cdv A outer s H vs Q E hr h=>?_)
 ·obtain⟨p,B,st,L,rfl,_⟩:=h
  rfl
 ·obtain⟨p,B,st,L,rfl,S,G,h64,smk,ci,hL,k⟩:=h
  have hu:=cH hr;refine⟨_,ah (az (dq (so:=am du) (N:=jA) (N':=["ring","hall"]) (src:=[none,some 0]) rfl rfl vU rfl (bq (aO Crings_of hr.m rfl (dX (pv 0)))) (fun cl C s2 H2 ex=>⟨i8 0 (show (["ring","hall"]:List Str).Nodup by decide +kernel),kO (ie (yK (aO Chub_of hr.m rfl (c9 (pv 1) (pv 0))))),pv 0⟩))),?_⟩;have P:=cw G;obtain⟨rs1,rs2⟩:=cO P;refine⟨_,rfl,p,B,st,rfl,S,G,h64,smk,fun lr as H1 hlr s1 h1 pa fr=>⟨lr,rfl,⟨_,aW.of h1⟩,fun q hq=>?_⟩⟩;generalize ar st.worn=rs at pa k rs1 rs2;have hpl:=Paired.length pa
  refine bd (K:=K) (a:=lr) (xs:=as.map V.ref) (fun i σ HK=>∃ (v:Option V)(bs:List Addr),σ=[v,some (.ref p)]/\ay H1 HK/\HK q=some (.lst (bs.map V.ref))/\Paired (fun a (r:List Int)=>HK a=some (.lst (r.map V.int))) bs ((rs.take i).filter fun r=>(cU st.circ r).isNone)/\(∀ b∈bs,b∈as)/\bs.length<=i)
   ⟨none,[],rfl,aj hq,ae,.nil,(fun b h=>nomatch h),Nat.le_refl _⟩ (fun i σ HK _ ⟨_,_,_,s2,_⟩=>aW.of (s2 _ _ h1)) ?_ ?_
  ·rintro i y σ HK hi ⟨v,bs,rfl,t1,hq2,pb,sub,bl⟩
   obtain⟨a,ha,rfl⟩:=bo hi;have hil:i<as.length:=(List.getElem?_eq_some_iff.mp ha).1;obtain⟨r,hr0,hA⟩:=aU pa ha;have rl:=rs2 r (List.mem_of_getElem? hr0);have SK:=S.mono (s1.trans t1)
   have ex:(rs.take (i+1)).filter (fun r=>(cU st.circ r).isNone)=(rs.take i).filter (fun r=>(cU st.circ r).isNone)++[r].filter (fun r=>(cU st.circ r).isNone):=by rw[List.take_add_one,hr0,Option.toList_some,List.filter_append]
   have noq:∀ b∈as,b≠q:=fun b hb z=>by
    obtain⟨j,hj⟩:=List.getElem?_of_mem hb;obtain⟨r',_,e⟩:=aU pa hj;rw[z,hq]at e;cases e
   have keepN:∀ H5,ay HK H5->([r].filter fun r=>(cU st.circ r).isNone)=[]->∃ (v:Option V)(bs:List Addr),([some (V.ref a),some (.ref p)]:St)=[v,some (.ref p)]/\ay H1 H5/\H5 q=some (.lst (bs.map V.ref))/\Paired (fun a (r:List Int)=>H5 a=some (.lst (r.map V.int))) bs ((rs.take (i+1)).filter fun r=>(cU st.circ r).isNone)/\(∀ b∈bs,b∈as)/\bs.length<=i+1:=fun H5 s5 e=>⟨_,bs,rfl,t1.trans s5,s5 _ _ hq2,by rw[ex,e,List.append_nil];exact Paired.mapP pb fun b z e=>s5 _ _ e,sub,by omega⟩
   have addY:∀ H5,ay HK H5->([r].filter fun r=>(cU st.circ r).isNone)=[r]->∃ ys,H5 q=some (.lst ys)/\ys.length<sizeLine/\∃ (v:Option V)(bs:List Addr),([some (V.ref a),some (.ref p)]:St)=[v,some (.ref p)]/\ay H1 (upd H5 q (.lst (ys++[V.ref a])))/\upd H5 q (.lst (ys++[V.ref a])) q=some (.lst (bs.map V.ref))/\Paired (fun b (r:List Int)=>upd H5 q (.lst (ys++[V.ref a])) b=some (.lst (r.map V.int))) bs ((rs.take (i+1)).filter fun r=>(cU st.circ r).isNone)/\(∀ b∈bs,b∈as)/\bs.length<=i+1:=fun H5 s5 e =>
    ⟨_,s5 _ _ hq2,by rw[List.length_map];exact aD (by omega),_,bs++[a],rfl,aY (t1.trans s5) hq,by rw[ae,List.map_append];rfl,by
     rw[ex,e]
     exact aI (Wz.Paired.mapP' pb fun b z hb e=>by rw[af (noq b (sub b hb))];exact s5 _ _ e) (.cons (by rw[af (noq a (List.mem_of_getElem? ha))];exact s5 _ _ (t1 _ _ hA)) .nil),fun b hb=>by
     rcases List.mem_append.mp hb with z | z
     ·exact sub b z
     ·rw[List.mem_singleton.mp z];exact List.mem_of_getElem? ha,by rw[List.length_append,List.length_singleton];omega⟩
   refine pj ⟨_,rfl,_,rfl,p,a,B,st,L,r,rfl,SK,t1 _ _ hA,by omega,ci,hL,fun H5 s5=>⟨_,rfl,?_⟩⟩
   cases e:cU st.circ r with
   | none =>
    rw[show decide (D5 none=V.non)=true from decide_eq_true rfl];exact bV ⟨_,rfl,addY H5 s5 (by simp[e])⟩
   | some g =>
    rw[show decide (D5 (some g)=V.non)=false from decide_eq_false (by intro z;cases z)];exact a7 (keepN H5 s5 (by simp[e]))
  ·rintro σ HK ⟨v,bs,rfl,t1,hq2,pb,sub,bl⟩
   rw[List.length_map,hpl,List.take_length]at pb;exact k q bs HK (s1.free hq) (s1.trans t1) hq2 pb fun b hb=>fr b (sub b hb)
theorem rR (F:dv K "stuck_rings" "stuck_rings" eO f fd)(Crings_of:au P w K mg base "rings_of" 6 ["hall"] (f6 c))(Cloose_ring:au P w K mg base "loose_ring" 2 ["hall","ring"] (qD c)) : bb P w K mg base cL 7 f fd ["hall"] (nE c):=by
 refine F.ok sk (fun vs H Q E h=>?_) (fun cdv A outer s H vs Q E hr h=>?_)
 ·obtain⟨p,B,st,L,rfl,_⟩:=h
  rfl
 ·obtain⟨p,B,st,L,rfl,S,G,h64,smk,ci,hL,k⟩:=h
  have hu:=cH hr;refine⟨_,ah (az (dq (so:=am eO) (N:=lj) (N':=["ring","hall"]) (src:=[none,some 0]) rfl rfl vU rfl (bq (aO Crings_of hr.m rfl (dX (pv 0)))) (fun cl C s2 H2 ex=>⟨i8 0 (show (["ring","hall"]:List Str).Nodup by decide +kernel),kO (ie (yK (aO Cloose_ring hr.m rfl (c9 (pv 1) (pv 0))))),pv 0⟩))),?_⟩;have P:=cw G;obtain⟨rs1,rs2⟩:=cO P;refine⟨_,rfl,p,B,st,rfl,S,G,h64,smk,fun lr as H1 hlr s1 h1 pa fr=>⟨lr,rfl,⟨_,aW.of h1⟩,fun q hq=>?_⟩⟩;generalize ar st.worn=rs at pa k rs1 rs2;have hpl:=Paired.length pa
  refine bd (K:=K) (a:=lr) (xs:=as.map V.ref) (fun i σ HK=>∃ (v:Option V)(bs:List Addr),σ=[v,some (.ref p)]/\ay H1 HK/\HK q=some (.lst (bs.map V.ref))/\Paired (fun a (r:List Int)=>HK a=some (.lst (r.map V.int))) bs ((rs.take i).filter fun r=>(br st.circ r).isNone)/\(∀ b∈bs,b∈as)/\bs.length<=i)
   ⟨none,[],rfl,aj hq,ae,.nil,(fun b h=>nomatch h),Nat.le_refl _⟩ (fun i σ HK _ ⟨_,_,_,s2,_⟩=>aW.of (s2 _ _ h1)) ?_ ?_
  ·rintro i y σ HK hi ⟨v,bs,rfl,t1,hq2,pb,sub,bl⟩
   obtain⟨a,ha,rfl⟩:=bo hi;have hil:i<as.length:=(List.getElem?_eq_some_iff.mp ha).1;obtain⟨r,hr0,hA⟩:=aU pa ha;have rl:=rs2 r (List.mem_of_getElem? hr0);have SK:=S.mono (s1.trans t1)
   have ex:(rs.take (i+1)).filter (fun r=>(br st.circ r).isNone)=(rs.take i).filter (fun r=>(br st.circ r).isNone)++[r].filter (fun r=>(br st.circ r).isNone):=by rw[List.take_add_one,hr0,Option.toList_some,List.filter_append]
   have noq:∀ b∈as,b≠q:=fun b hb z=>by
    obtain⟨j,hj⟩:=List.getElem?_of_mem hb;obtain⟨r',_,e⟩:=aU pa hj;rw[z,hq]at e;cases e
   have keepN:∀ H5,ay HK H5->([r].filter fun r=>(br st.circ r).isNone)=[]->∃ (v:Option V)(bs:List Addr),([some (V.ref a),some (.ref p)]:St)=[v,some (.ref p)]/\ay H1 H5/\H5 q=some (.lst (bs.map V.ref))/\Paired (fun a (r:List Int)=>H5 a=some (.lst (r.map V.int))) bs ((rs.take (i+1)).filter fun r=>(br st.circ r).isNone)/\(∀ b∈bs,b∈as)/\bs.length<=i+1:=fun H5 s5 e=>⟨_,bs,rfl,t1.trans s5,s5 _ _ hq2,by rw[ex,e,List.append_nil];exact Paired.mapP pb fun b z e=>s5 _ _ e,sub,by omega⟩
   have addY:∀ H5,ay HK H5->([r].filter fun r=>(br st.circ r).isNone)=[r]->∃ ys,H5 q=some (.lst ys)/\ys.length<sizeLine/\∃ (v:Option V)(bs:List Addr),([some (V.ref a),some (.ref p)]:St)=[v,some (.ref p)]/\ay H1 (upd H5 q (.lst (ys++[V.ref a])))/\upd H5 q (.lst (ys++[V.ref a])) q=some (.lst (bs.map V.ref))/\Paired (fun b (r:List Int)=>upd H5 q (.lst (ys++[V.ref a])) b=some (.lst (r.map V.int))) bs ((rs.take (i+1)).filter fun r=>(br st.circ r).isNone)/\(∀ b∈bs,b∈as)/\bs.length<=i+1:=fun H5 s5 e =>
    ⟨_,s5 _ _ hq2,by rw[List.length_map];exact aD (by omega),_,bs++[a],rfl,aY (t1.trans s5) hq,by rw[ae,List.map_append];rfl,by
     rw[ex,e]
     exact aI (Wz.Paired.mapP' pb fun b z hb e=>by rw[af (noq b (sub b hb))];exact s5 _ _ e) (.cons (by rw[af (noq a (List.mem_of_getElem? ha))];exact s5 _ _ (t1 _ _ hA)) .nil),fun b hb=>by
     rcases List.mem_append.mp hb with z | z
     ·exact sub b z
     ·rw[List.mem_singleton.mp z];exact List.mem_of_getElem? ha,by rw[List.length_append,List.length_singleton];omega⟩
   refine pj ⟨_,rfl,_,rfl,p,a,B,st,r,rfl,SK,t1 _ _ hA,by omega,?_⟩
   cases e:br st.circ r with
   | none =>
    intro H5 s5;refine⟨_,rfl,?_⟩;rw[show decide (V.non=V.non)=true from decide_eq_true rfl];exact bV ⟨_,rfl,addY H5 s5 (by simp[e])⟩
   | some j =>
    intro l5 H5 hl5 s5 h5;refine⟨_,rfl,?_⟩;rw[show decide (V.ref l5=V.non)=false from decide_eq_false (by intro z;cases z)];exact a7 (keepN H5 s5 (by simp[e]))
  ·rintro σ HK ⟨v,bs,rfl,t1,hq2,pb,sub,bl⟩
   rw[List.length_map,hpl,List.take_length]at pb;exact k q bs HK (s1.free hq) (s1.trans t1) hq2 pb fun b hb=>fr b (sub b hb)
theorem oO (F:dv K "rings_by_hubs" "rings_by_hubs" fm f fd)(Chub_of:au P w K mg base "hub_of" 2 ["hall","ring"] (nv c))(Cring_with:XCallee P w K mg base "ring_with" 5 ["hall","guest"] (qE c))(Cring_home:au P w K mg base "ring_home" 2 ["ring"] lT) : bb P w K mg base cL 6 f fd ["hall","rings"] (kP c):=by
 refine F.ok ff (fun vs H Q E h=>?_) (fun cdv A outer s H vs Q E hr h=>?_)
 ·obtain⟨p,l,B,st,as,L,rs,rfl,_⟩:=h
  rfl
 ·obtain⟨p,l,B,st,as,L,rs,rfl,S,G,h64,smk,ci,hL,hl,pa,sub,hubs,k⟩:=h
  have nil0:(0:Nat)<=sizeLine:=Nat.zero_le _
  refine⟨_,ag (bK 2 ff.nd (dS aJ)) (
   ag (df PassesOwn.never rfl (bq (pv 1)) (i8 3 ff.nd) (ah (aT (dZ PySem.F.plainAttrs_list PySem.F.slot_list_extend PySem.F.type_list_extend kK (pv 2) (dX (aO Cring_home hr.m rfl (dX (oW Cring_with hr.m rfl pV (c9 (pv 0) (aO Chub_of hr.m rfl (c9 (pv 0) (pv 3)))))))))))) (
   ah (az (pv 2)))),?_⟩
  have P:=cw G;obtain⟨rs1,rs2⟩:=cO P;have chin:∀ r∈rs,dy st.circ r∈r:=fun r hr=>(iT (hubs r hr)).1;have ck:∀ r∈rs,dy st.circ r∈aq st.worn:=fun r hr=>(P.mem_ring (sub.subset hr) (chin r hr)).1;have f64:=P.flat64 h64
  have tot:∀ i,(cu ((jf st.worn (dy st.circ) rs).take i)).length<=64:=fun i=>by
   have e:(jf st.worn (dy st.circ) rs).take i=jf st.worn (dy st.circ) (rs.take i):=by unfold jf;rw[List.map_take]
   have pm:(jf st.worn (dy st.circ) (rs.take i)).flatten.Perm (rs.take i).flatten:=gA fun r hr=>(fP P (sub.subset (List.mem_of_mem_take hr)) (chin r (List.mem_of_mem_take hr))).1
   have h:=mL (jf st.worn (dy st.circ) (rs.take i)) fun r hr=>by
    obtain⟨r0,h0,rfl⟩:=List.mem_map.mp hr;rw[eZ];exact (fP P (sub.subset (List.mem_of_mem_take h0)) (chin r0 (List.mem_of_mem_take h0))).2.1
   rw[e];rw[pm.length_eq]at h;have:=dj ((List.take_sublist i rs).trans sub);omega
  refine⟨nil0,fun lr hlr=>?_⟩;have sA:=aj (o:=.lst []) hlr;have hr1:upd H lr (.lst []) lr=some (.lst (([]:List Addr).map V.ref)):=ae;generalize upd H lr (.lst [])=H1 at sA hr1 ⊢;have hpl:=Paired.length pa
  refine⟨_,rfl,l,rfl,⟨_,aW.of (sA _ _ hl)⟩,bd (K:=K) (a:=l) (xs:=as.map V.ref) (fun i σ HH=>∃ v:Option V,σ=[some (.ref p),some (.ref l),some (.ref lr),v]/\ay H HH/\cp HH lr (cu ((jf st.worn (dy st.circ) rs).take i)))
   ⟨none,rfl,sA,⟨[],hr1,.nil⟩⟩ (fun i σ HH _ ⟨_,_,s2,_⟩=>aW.of (s2 _ _ hl)) ?_ ?_⟩
  ·rintro i y σ HH hi ⟨v,rfl,t1,row⟩
   obtain⟨a,ha,rfl⟩:=bo hi;obtain⟨r,hr0,hA⟩:=aU pa ha;have hrm:=List.mem_of_getElem? hr0;obtain⟨bs,hb,hp⟩:=row;have hbl:=Paired.length hp;have t1':=tot i;have t2':=tot (i+1)
   have hro:(jf st.worn (dy st.circ) rs)[i]? = some (b8 (wr st.worn) st.worn.length (dy st.circ r)):=by unfold jf;rw[List.getElem?_map,hr0];rfl
   have en:cu ((jf st.worn (dy st.circ) rs).take (i+1))=cu ((jf st.worn (dy st.circ) rs).take i)++fS (b8 (wr st.worn) st.worn.length (dy st.circ r)):=by unfold cu;rw[List.take_add_one,hro,Option.toList_some,List.flatMap_append,List.flatMap_singleton]
   have eh:D5 (cU st.circ r)=V.int (dy st.circ r):=by
    have:=hubs r hrm;unfold dy
    cases e:cU st.circ r with
    | none=>rw[e]at this;cases this
    | some g=>rfl
   have SH:=S.mono t1;have gk:=ck r hrm;have R:=(fP P (sub.subset hrm) (chin r hrm)).2;have ol:=P.ord_le gk;refine⟨_,rfl,.inl ⟨rfl,_,aW.of hb⟩,_,rfl,_,rfl,_,rfl,p,a,B,st,L,r,rfl,SH,t1 _ _ hA,by have:=rs2 r (sub.subset hrm);omega,ci,hL,fun H3 s3=>?_⟩;rw[eh];refine⟨p,B,st,dy st.circ r,rfl,SH.mono s3,G,h64,smk,smk _ gk,?_⟩;rw[if_pos (bn.mpr gk)];intro l3 H4 hl3 s4 h4;refine⟨l3,_,rfl,h4,(fun z=>by have:=congrArg List.length z;rw[eZ]at this;have r1:=R.1;simp at this;omega),by rw[eZ];omega,fun l5 H5 hl5 s5 row5=>?_⟩;obtain⟨cs,hc,hpc⟩:=row5;have hcl:=Paired.length hpc;have s35:=(s3.trans s4).trans s5;rw[en,List.length_append]at t2';refine⟨lr,l5,_,_,rfl,rfl,s35 _ _ hb,hc,by rw[List.length_map,List.length_map];exact Nat.le_of_lt (aD (by omega)),?_⟩;refine⟨_,rfl,aY (t1.trans s35) hlr,bs++cs,by rw[ae,List.map_append],?_⟩;rw[en];exact aI (Paired.mapP hp fun b q e=>by rw[af (bz e hb (by intro z;cases z))];exact s35 _ _ e) (Paired.mapP hpc fun b q e=>by rw[af (bz e (s35 _ _ hb) (by intro z;cases z))];exact e)
  ·rintro σ HH ⟨v,rfl,t1,row⟩
   rw[List.length_map,hpl,List.take_of_length_le (by unfold jf;rw[List.length_map];exact Nat.le_refl _)]at row;exact⟨_,rfl,k lr HH hlr t1 row⟩
theorem qj (F:dv K "rings_by_one" "rings_by_one" dO f fd)(Cloose_ring:au P w K mg base "loose_ring" 2 ["hall","ring"] (qD c)) : bb P w K mg base cL 3 f fd ["hall","rings","one"] (nk c):=by
 refine F.ok dL (fun vs H Q E h=>?_) (fun cdv A outer s H vs Q E hr h=>?_)
 ·obtain⟨p,l,B,st,as,one,rs,rfl,_⟩:=h
  rfl
 ·obtain⟨p,l,B,st,as,one,rs,rfl,S,G,h64,hl,pa,sub,hs,k⟩:=h
  have nil0:(0:Nat)<=sizeLine:=Nat.zero_le _
  refine⟨_,ag (bK 3 dL.nd (dS aJ)) (
   ag (df PassesOwn.never rfl (bq (pv 1)) (i8 4 dL.nd) (ag (bK 5 dL.nd (aO Cloose_ring hr.m rfl (c9 (pv 0) (pv 4)))) (
   ag (aT (dZ PySem.F.plainAttrs_list PySem.F.slot_list_extend PySem.F.type_list_extend kK (pv 3) (dX (dq (so:=am dO) (N:=j7) (N':=["guest","one"]) (src:=[none,some 2]) rfl rfl vU rfl (bq (dG fZ (pv 5) fV (eG (rZ md (ao))))) (fun cl C s2 H2 ex=>⟨i8 0 (show (["guest","one"]:List Str).Nodup by decide +kernel),c7,bp (c9 (pv 1) (pv 0))⟩))))) (
   ag (aT (dZ PySem.F.plainAttrs_list PySem.F.slot_list_append PySem.F.type_list_append bM (pv 3) (dX (bp (c9 (bv fu (pv 5) (rZ md (ao)) (fun _ _=>rfl)) (bv fu (pv 5) (ao) (fun _ _=>rfl))))))) (
   ah (aT (dZ PySem.F.plainAttrs_list PySem.F.slot_list_append PySem.F.type_list_append bM (pv 3) (dX (bp (c9 (pv 2) (bv fu (pv 5) (rZ md (ao)) (fun _ _=>rfl)))))))))))) (
   ah (az (pv 3)))),?_⟩
  have P:=cw G;obtain⟨rs1,rs2⟩:=cO P
  have two:(2:Nat)<=sizeLine:=by decide
  have lz:∀ r∈rs,(bJ st.circ r).length=r.length/\2<=r.length:=fun r hr=>by
   obtain⟨g,m,rfl,R,m2⟩:=P.ring2 (sub.subset hr);obtain⟨g',e,_,pp,_⟩:=fE P.inj R m2 (hs _ hr);rw[e];exact⟨pp.length_eq,by rw[bD];exact m2⟩
  have fl64:rs.flatten.length<=64:=Nat.le_trans (dj sub) (P.flat64 h64);have rl64:rs.length<=64:=Nat.le_trans sub.length_le (by omega)
  have tl:∀ i,((rs.map (bJ st.circ)).take i |>.flatMap (e8 one)).length<=64+i:=fun i=>by
   have key:∀ (qs:List (List Int)),(∀ r∈qs,(bJ st.circ r).length=r.length/\2<=r.length)->((qs.map (bJ st.circ)).flatMap (e8 one)).length=qs.flatten.length+qs.length:=fun qs=>by
    induction qs with
    | nil=>intro _;rfl
    | cons r rs ih =>
     intro h;have h0:=h r List.mem_cons_self;rw[List.map_cons,List.flatMap_cons,List.length_append,ih fun q hq=>h q (List.mem_cons_of_mem _ hq),rS one (by omega),List.flatten_cons,List.length_append,List.length_cons,h0.1];omega
   have e:=key (rs.take i) fun r hr=>lz r (List.mem_of_mem_take hr);rw[<-List.map_take,e,List.length_take]
   have fsub:(rs.take i).flatten.length<=rs.flatten.length:=by
    have:=congrArg (fun z=>z.flatten.length) (List.take_append_drop i rs);simp only[List.flatten_append,List.length_append]at this;omega
   omega
  refine⟨nil0,fun lr hlr=>?_⟩;have sA:=aj (o:=.lst []) hlr;have hr1:upd H lr (.lst []) lr=some (.lst (([]:List Addr).map V.ref)):=ae;generalize upd H lr (.lst [])=H1 at sA hr1 ⊢;have hpl:=Paired.length pa
  refine⟨_,rfl,l,rfl,⟨_,aW.of (sA _ _ hl)⟩,bd (K:=K) (a:=l) (xs:=as.map V.ref) (fun i σ HH=>∃ v w:Option V,σ=[some (.ref p),some (.ref l),some (.int one),some (.ref lr),v,w]/\ay H HH/\cp HH lr (((rs.map (bJ st.circ)).take i).flatMap (e8 one)))
   ⟨none,none,rfl,sA,⟨[],hr1,.nil⟩⟩ (fun i σ HH _ ⟨_,_,_,s2,_⟩=>aW.of (s2 _ _ hl)) ?_ ?_⟩
  ·rintro i y σ HH hi ⟨v,w,rfl,t1,row⟩
   obtain⟨a,ha,rfl⟩:=bo hi;have hil:i<as.length:=(List.getElem?_eq_some_iff.mp ha).1;obtain⟨r,hr0,hA⟩:=aU pa ha;have hrm:=List.mem_of_getElem? hr0;obtain⟨bs,hb,hp⟩:=row;have hbl:=Paired.length hp;have t1':=tl i;obtain⟨l1,l2⟩:=lz r hrm;have r64:=rs2 r (sub.subset hrm)
   have en:((rs.map (bJ st.circ)).take (i+1)).flatMap (e8 one)=((rs.map (bJ st.circ)).take i).flatMap (e8 one)++e8 one (bJ st.circ r):=by
    rw[List.take_add_one,List.getElem?_map,hr0]
    show (_++[bJ st.circ r]).flatMap _=_
    rw[List.flatMap_append,List.flatMap_singleton]
   refine⟨_,rfl,_,rfl,p,a,B,st,r,rfl,S.mono t1,t1 _ _ hA,by omega,?_⟩;obtain⟨j,ej⟩:=Option.isSome_iff_exists.mp (hs r hrm)
   have ez:bJ st.circ r=r.drop j++r.take j:=by unfold bJ;rw[ej]
   rw[ej];intro l3 H3 hl3 s3 h3;rw[<-ez]at h3;rw[en];generalize bJ st.circ r=z at h3 l1;generalize ((rs.map (bJ st.circ)).take i).flatMap (e8 one)=ps at hp hbl t1'
   have zne:z≠[]:=by intro q;rw[q]at l1;simp at l1;omega
   have hb3:=s3 _ _ hb;refine⟨_,rfl,.inl ⟨rfl,_,aW.of hb3⟩,_,rfl,lM ⟨_,rfl,_,rfl,l3,_,rfl,aW.of h3,fun l4 hl4=>?_⟩⟩;rw[zn];have s4:=aj (o:=.lst (z.map V.int).dropLast) hl4
   have h4:upd H3 l4 (.lst (z.map V.int).dropLast) l4=some (.lst (z.dropLast.map V.int)):=by rw[ae,List.map_dropLast]
   generalize upd H3 l4 (.lst (z.map V.int).dropLast)=H4 at s4 h4 ⊢;refine⟨l4,rfl,⟨_,aW.of h4⟩,fun q hq=>?_⟩
   have zd:z.dropLast.length<=64:=by rw[List.length_dropLast];omega
   refine bd (K:=K) (a:=l4) (xs:=z.dropLast.map V.int) (fun j σ HK=>∃ (v:Option V)(cs:List Addr),σ=[v,some (.int one)]/\ay H4 HK/\HK q=some (.lst (cs.map V.ref))/\Paired (fun b (pq:Int×Int)=>HK b=some (.tup [.int pq.1,.int pq.2])) cs ((z.dropLast.take j).map fun x=>(one,x))/\cs.length<=j)
    ⟨none,[],rfl,aj hq,ae,.nil,Nat.le_refl _⟩ (fun j σ HK _ ⟨_,_,_,s2,_⟩=>aW.of (s2 _ _ h4)) ?_ ?_
   ·rintro j y σ HK hj ⟨v,cs,rfl,t2,hq2,pc,cl⟩
    obtain⟨x,hx,rfl⟩:=bo hj;have hjl:j<z.dropLast.length:=(List.getElem?_eq_some_iff.mp hx).1;refine f9 ⟨_,rfl,_,rfl,two,fun t ht=>⟨_,by rw[af (ak hq2 ht)];exact hq2,by rw[List.length_map];exact aD (by omega),?_⟩⟩;refine⟨_,cs++[t],rfl,aY (t2.trans (aj ht)) hq,by rw[ae,List.map_append];rfl,?_,by rw[List.length_append,List.length_singleton];omega⟩;rw[List.take_add_one,hx,Option.toList_some,List.map_append];have tq:t≠q:=(ak hq2 ht).symm;exact aI (Paired.mapP pc fun b e z=>by rw[af (bz z hq2 (by intro u;cases u))];exact (aj ht) _ _ z) (.cons (by rw[af tq,ae]) .nil)
   ·rintro σ HK ⟨v,cs,rfl,t2,hq2,pc,cl⟩
    rw[List.length_map]at pc cl;rw[List.take_length]at pc;have s3K:=(s3.trans s4).trans t2;have hbK:=s3K _ _ hb;refine⟨lr,q,_,_,rfl,rfl,hbK,hq2,by rw[List.length_map,List.length_map];exact Nat.le_of_lt (aD (by omega)),?_⟩
    have push:∀ (HA:Hp)(as1:List Addr)(l1:List (Int×Int))(pq:Int×Int)(t:Addr),HA lr=some (.lst (as1.map V.ref))->Paired (fun b (e:Int×Int)=>HA b=some (.tup [.int e.1,.int e.2])) as1 l1->HA t=none->Paired (fun b (e:Int×Int)=>upd (upd HA t (.tup [.int pq.1,.int pq.2])) lr (.lst (as1.map V.ref++[V.ref t])) b=some (.tup [.int e.1,.int e.2])) (as1++[t]) (l1++[pq]):=fun HA as1 l1 pq t g1 g2 g3 =>
     aI (Paired.mapP g2 fun b e y=>by rw[af (bz y g1 (by intro u;cases u))];exact (aj g3) _ _ y) (.cons (by rw[af ((ak g1 g3).symm),ae]) .nil)
    have nl3:l3≠lr:=(ak hb hl3).symm
    have pr5:Paired (fun b (e:Int×Int)=>upd HK lr (.lst (bs.map V.ref++cs.map V.ref)) b=some (.tup [.int e.1,.int e.2])) (bs++cs) (ps++z.dropLast.map fun x=>(one,x)) :=
     aI (Paired.mapP hp fun b e y=>by rw[af (bz y hb (by intro u;cases u))];exact s3K _ _ y) (Paired.mapP pc fun b e y=>by rw[af (bz y hbK (by intro u;cases u))];exact y)
    have h35:upd HK lr (.lst (bs.map V.ref++cs.map V.ref)) l3=some (.lst (z.map V.int)):=by rw[af nl3];exact t2 _ _ (s4 _ _ h3)
    have hr5:upd HK lr (.lst (bs.map V.ref++cs.map V.ref)) lr=some (.lst ((bs++cs).map V.ref)):=by rw[ae,List.map_append]
    have sH5:ay H (upd HK lr (.lst (bs.map V.ref++cs.map V.ref))):=aY (t1.trans s3K) hlr;generalize upd HK lr (.lst (bs.map V.ref++cs.map V.ref))=H5 at pr5 h35 hr5 sH5 ⊢
    have l5:(bs++cs).length<=300:=by rw[List.length_append];omega
    generalize bs++cs=ds at pr5 hr5 l5
    have eL:z.map V.int=z.dropLast.map V.int++[V.int (z.getLastD 0)]:=by
     have e0:z=z.dropLast++[z.getLast zne]:=(List.dropLast_concat_getLast zne).symm
     have e1:z.getLastD 0=z.getLast zne:=by rw[List.getLastD_eq_getLast?,List.getLast?_eq_some_getLast zne];rfl
     have:=congrArg (List.map V.int) e0;rw[List.map_append]at this;rw[e1];exact this
    have aL:xU (z.map V.int) (-1)=some (V.int (z.getLastD 0)):=by rw[eL];exact mF _ _
    have a0:xU (z.map V.int) 0=some (V.int (z.headD 0)):=by
     cases z with
     | nil=>exact absurd rfl zne
     | cons b bs=>exact fT (j:=0) rfl
    refine⟨_,rfl,.inl ⟨rfl,_,aW.of hr5⟩,_,rfl,_,rfl,l3,_,_,_,rfl,rfl,aW.of h35,aL,_,rfl,l3,_,_,_,rfl,rfl,aW.of h35,a0,two,fun t ht=>⟨lr,_,_,rfl,rfl,(aj ht) _ _ hr5,by rw[List.length_map];exact aD (by omega),?_⟩⟩;have pr6:=push H5 ds _ (z.getLastD 0,z.headD 0) t hr5 pr5 ht
    have h36:upd (upd H5 t (.tup [.int (z.getLastD 0),.int (z.headD 0)])) lr (.lst (ds.map V.ref++[V.ref t])) l3=some (.lst (z.map V.int)):=by rw[af nl3];exact (aj ht) _ _ h35
    have hr6:upd (upd H5 t (.tup [.int (z.getLastD 0),.int (z.headD 0)])) lr (.lst (ds.map V.ref++[V.ref t])) lr=some (.lst ((ds++[t]).map V.ref)):=by rw[ae,List.map_append];rfl
    have sH6:ay H (upd (upd H5 t (.tup [.int (z.getLastD 0),.int (z.headD 0)])) lr (.lst (ds.map V.ref++[V.ref t]))):=aY (sH5.trans (aj ht)) hlr;dsimp only at pr6;generalize upd (upd H5 t (.tup [.int (z.getLastD 0),.int (z.headD 0)])) lr (.lst (ds.map V.ref++[V.ref t]))=H6 at pr6 h36 hr6 sH6 ⊢;refine⟨_,rfl,.inl ⟨rfl,_,aW.of hr6⟩,_,rfl,_,rfl,_,rfl,l3,_,_,_,rfl,rfl,aW.of h36,aL,two,fun t' ht'=>⟨lr,_,_,rfl,rfl,(aj ht') _ _ hr6,by rw[List.length_map,List.length_append,List.length_singleton];exact aD (by omega),?_⟩⟩;refine⟨_,_,rfl,aY (sH6.trans (aj ht')) hlr,ds++[t]++[t'],by rw[ae,List.map_append (l₁:=ds++[t])];rfl,?_⟩;have pr7:=push H6 (ds++[t]) _ (one,z.getLastD 0) t' hr6 pr6 ht';dsimp only at pr7;rw[show ps++e8 one z=ps++(z.dropLast.map fun x=>(one,x))++[(z.getLastD 0,z.headD 0)]++[(one,z.getLastD 0)] by unfold e8;simp];exact pr7
  ·rintro σ HH ⟨v,w,rfl,t1,row⟩
   rw[List.length_map,hpl,List.take_of_length_le (by rw[List.length_map];exact Nat.le_refl _)]at row;exact⟨_,rfl,k lr HH hlr t1 row⟩
theorem qk (F:dv K "rings_by_two" "rings_by_two" cf f fd) : bb P w K mg base cL 1 f fd ["rings","one","other"] qz:=by
 refine F.ok dM (fun vs H Q E h=>?_) (fun cdv A outer s H vs Q E hr h=>?_)
 ·obtain⟨l,rs,one,other,rfl,_⟩:=h
  rfl
 ·obtain⟨l,rs,one,other,rfl,ll,h64,f64,h2,k⟩:=h
  have nil0:(0:Nat)<=sizeLine:=Nat.zero_le _
  have two:(2:Nat)<=sizeLine:=by decide
  refine⟨_,ag (be (jb (m7 (pv 0) (fun _=>rfl))) (ah (az (dS aJ))) (aK)) (
   ag (qy (ix:=3) (so:=am cf) (N:=eE) (N':=["ring","one"]) (src:=[none,some 1]) rfl rfl vU rfl (bq (pv 0)) (fun cl C s2 H2 ex=>⟨i8 0 (show (["ring","one"]:List Str).Nodup by decide +kernel),c7,bp (c9 (pv 1) (bv (wE K) (pv 0) (ao) (fun _ _=>rfl)))⟩) dM.nd rfl rfl) (
   ag (bK 4 dM.nd (bv fu (pv 0) (rZ md (ao)) (fun _ _=>rfl))) (
   ag (aT (dZ PySem.F.plainAttrs_list PySem.F.slot_list_append PySem.F.type_list_append bM (pv 3) (dX (bp (c9 (pv 2) (bv fu (pv 4) (rZ md (ao)) (fun _ _=>rfl))))))) (
   ag (aT (dZ PySem.F.plainAttrs_list PySem.F.slot_list_extend PySem.F.type_list_extend kK (pv 3) (dX (dq (so:=am cf) (N:=eE) (N':=["guest","one"]) (src:=[none,some 1]) rfl rfl vU rfl (bq (dG fZ (pv 4) (eG (ao)) fV)) (fun cl C s2 H2 ex=>⟨i8 0 (show (["guest","one"]:List Str).Nodup by decide +kernel),c7,bp (c9 (pv 1) (pv 0))⟩))))) (
   ag (aT (dZ PySem.F.plainAttrs_list PySem.F.slot_list_append PySem.F.type_list_append bM (pv 3) (dX (bp (c9 (pv 2) (bv fu (pv 4) (ao) (fun _ _=>rfl))))))) (
   ag (df PassesOwn.never rfl (Fr (dG fZ (pv 0) fV (eG (rZ md (ao)))) (by rfl) T.reversed) (i8 5 dM.nd) (ah (aT (dZ PySem.F.plainAttrs_list PySem.F.slot_list_extend PySem.F.type_list_extend kK (pv 3) (dX (dq (so:=am cf) (N:=eE) (N':=["guest","other"]) (src:=[none,some 2]) rfl rfl vU rfl (bq (aS i6 (dG fZ (pv 5) (eG (ao)) fV) (dG fZ (pv 5) fV (eG (ao))))) (fun cl C s2 H2 ex=>⟨i8 0 (show (["guest","other"]:List Str).Nodup by decide +kernel),c7,bp (c9 (pv 1) (pv 0))⟩))))))) (
   ag (aT (dZ PySem.F.plainAttrs_list PySem.F.slot_list_append PySem.F.type_list_append bM (pv 3) (dX (bp (c9 (pv 1) (pv 2)))))) (
   ah (az (pv 3)))))))))),?_⟩
  obtain⟨as,hl,pa⟩:=id ll;have hpl:=Paired.length pa;rcases List.eq_nil_or_concat rs with e0 | ⟨init,last,e0⟩
  ·subst e0
   have ea:as=[]:=List.eq_nil_of_length_eq_zero hpl;subst ea;exact⟨_,rfl,false,.inl ⟨_,aW.of hl,rfl⟩,bV ⟨nil0,fun l' hl'=>k l' _ hl' (aj hl') ⟨[],ae,.nil⟩⟩⟩
  rw[List.concat_eq_append]at e0;subst e0;rw[List.length_append,List.length_singleton]at hpl h64;rcases List.eq_nil_or_concat as with e1 | ⟨ai,al,e1⟩
  ·rw[e1]at hpl;simp at hpl
  rw[List.concat_eq_append]at e1;subst e1;rw[List.length_append,List.length_singleton]at hpl
  have hil:ai.length=init.length:=by omega
  have hal:H al=some (.lst (last.map V.int)):=by
   obtain⟨r,h1,h2⟩:=aU pa (i:=ai.length) (a:=al) (by rw[List.getElem?_append_right (Nat.le_refl _)];simp);rw[hil,List.getElem?_append_right (Nat.le_refl _)]at h1;simp at h1;rw[h1];exact h2
  have hai:∀ i a,ai[i]? = some a->∃ r:List Int,init[i]? = some r/\H a=some (.lst (r.map V.int)):=fun i a h=>by
   have hi:=(List.getElem?_eq_some_iff.mp h).1;obtain⟨r,h1,h2⟩:=aU pa (i:=i) (a:=a) (by rw[List.getElem?_append_left hi];exact h);rw[List.getElem?_append_left (by omega)]at h1;exact⟨r,h1,h2⟩
  have hl2:=h2 last (by simp);rw[List.flatten_append,List.length_append]at f64
  have fl:last.length<=64:=by simp at f64;omega
  have fi:init.flatten.length<=64:=by omega
  refine⟨_,rfl,true,.inl ⟨_,aW.of hl,by simp⟩,a7 ⟨_,rfl,l,rfl,⟨_,aW.of hl⟩,fun q hq=>?_⟩⟩;refine oP (rest:=[some (.int one)]) (f:=fun z:Addr×List Int=>V.ref z.1) (pr:=fun z=>(one,fK z.2)) (zs:=(ai++[al]).zip (init++[last])) hq (by rw[Dy (by simp;omega)];exact hl) (by rw[List.length_zip];simp;omega) (fun i z HK Q' hz sK k'=>?_) (fun H1 s1 row1=>?_)
  ·obtain⟨ha,hr0⟩:=List.getElem?_zip_eq_some.mp hz
   obtain⟨r',hr',hA⟩:=aU pa ha;rw[hr0]at hr';cases hr';have r2:=h2 z.2 (List.mem_of_getElem? hr0)
   have a0:xU (z.2.map V.int) 0=some (V.int (fK z.2)):=by
    cases e:z.2 with
    | nil=>rw[e]at r2;simp at r2
    | cons b bs=>exact fT (j:=0) rfl
   exact⟨_,rfl,_,rfl,z.1,_,_,_,rfl,rfl,aW.of (sK _ _ hA),a0,two,fun t ht=>k' t ht⟩
  rw[Et (f:=fun r=>(one,fK r)) (by simp;omega)]at row1;obtain⟨d1,hd1,pd1⟩:=row1;have dl1:=Paired.length pd1;rw[List.length_map,List.length_append,List.length_singleton]at dl1
  have aL:xU ((ai++[al]).map V.ref) (-1)=some (V.ref al):=by rw[List.map_append];exact mF _ _
  refine⟨_,rfl,_,rfl,l,_,_,_,rfl,rfl,aW.of (s1 _ _ hl),aL,?_⟩
  have Cc:last≠[]:=fun z=>by rw[z]at hl2;simp at hl2
  have eL:last.map V.int=last.dropLast.map V.int++[V.int (last.getLastD 0)]:=by
   have e0:last=last.dropLast++[last.getLast Cc]:=(List.dropLast_concat_getLast Cc).symm
   have e1:last.getLastD 0=last.getLast Cc:=by rw[List.getLastD_eq_getLast?,List.getLast?_eq_some_getLast Cc];rfl
   have:=congrArg (List.map V.int) e0;rw[List.map_append]at this;rw[e1];exact this
  have aLL:xU (last.map V.int) (-1)=some (V.int (last.getLastD 0)):=by rw[eL];exact mF _ _
  have aL0:xU (last.map V.int) 0=some (V.int (fK last)):=by
   cases e:last with
   | nil=>exact absurd e Cc
   | cons b bs=>exact fT (j:=0) rfl
  refine⟨_,rfl,.inl ⟨rfl,_,aW.of hd1⟩,_,rfl,_,rfl,_,rfl,al,_,_,_,rfl,rfl,aW.of (s1 _ _ hal),aLL,two,fun t2 ht2=>⟨q,_,_,rfl,rfl,(aj ht2) _ _ hd1,by rw[List.length_map];exact aD (by omega),?_⟩⟩;have row2:=nc (a:=other) (b:=last.getLastD 0) hd1 pd1 ht2;have sH2:ay H (upd (upd H1 t2 (.tup [.int other,.int (last.getLastD 0)])) q (.lst (d1.map V.ref++[V.ref t2]))):=aY (s1.trans (aj ht2)) hq;generalize upd (upd H1 t2 (.tup [.int other,.int (last.getLastD 0)])) q (.lst (d1.map V.ref++[V.ref t2]))=H2 at row2 sH2 ⊢;generalize e2:((init++[last]).map fun r=>(one,fK r))++[(other,last.getLastD 0)]=ps2 at row2;obtain⟨d2,hd2,pd2⟩:=row2;have dl2:=Paired.length pd2
  have pl2:ps2.length<=66:=by rw[<-e2];simp;omega
  refine⟨_,rfl,.inl ⟨rfl,_,aW.of hd2⟩,_,rfl,_,rfl,lM ⟨al,_,rfl,aW.of (sH2 _ _ hal),fun l3 hl3=>?_⟩⟩;rw[BH];have s3:=aj (o:=.lst ((last.map V.int).drop 1)) hl3
  have h3:upd H2 l3 (.lst ((last.map V.int).drop 1)) l3=some (.lst (last.tail.map V.int)):=by rw[ae,List.drop_one,List.map_tail]
  have hd3:=s3 _ _ hd2;have pd3:Paired (fun b (e:Int×Int)=>upd H2 l3 (.lst ((last.map V.int).drop 1)) b=some (.tup [.int e.1,.int e.2])) d2 ps2:=Paired.mapP pd2 fun b e y=>s3 _ _ y;have sH3:=sH2.trans s3;generalize upd H2 l3 (.lst ((last.map V.int).drop 1))=H3 at h3 hd3 pd3 sH3 ⊢;refine⟨l3,rfl,⟨_,aW.of h3⟩,fun q3 hq3=>?_⟩;refine oP (rest:=[some (.int one)]) (f:=V.int) (pr:=fun x=>(one,x)) (zs:=last.tail) hq3 h3 (by rw[List.length_tail];omega) (fun i z HK Q' hz sK k'=>⟨_,rfl,_,rfl,two,fun t ht=>k' t ht⟩) (fun H4 s4 row4=>?_);obtain⟨d4,hd4,pd4⟩:=row4;have dl4:=Paired.length pd4;rw[List.length_map,List.length_tail]at dl4;refine⟨q,q3,_,_,rfl,rfl,s4 _ _ hd3,hd4,by rw[List.length_map,List.length_map];exact Nat.le_of_lt (aD (by omega)),?_⟩;have row5:=zT (s4 _ _ hd3) (Paired.mapP pd3 fun b e y=>s4 _ _ y) pd4;have sH5:ay H (upd H4 q (.lst (d2.map V.ref++d4.map V.ref))):=aY (sH3.trans s4) hq;generalize upd H4 q (.lst (d2.map V.ref++d4.map V.ref))=H5 at row5 sH5 ⊢;generalize e5:ps2++(last.tail.map fun x=>(one,x))=ps5 at row5;obtain⟨d5,hd5,pd5⟩:=row5;have dl5:=Paired.length pd5
  have pl5:ps5.length<=130:=by rw[<-e5,List.length_append,List.length_map,List.length_tail];omega
  refine⟨_,rfl,.inl ⟨rfl,_,aW.of hd5⟩,_,rfl,_,rfl,al,_,_,_,rfl,rfl,aW.of (sH5 _ _ hal),aL0,two,fun t6 ht6=>⟨q,_,_,rfl,rfl,(aj ht6) _ _ hd5,by rw[List.length_map];exact aD (by omega),?_⟩⟩;have row6:=nc (a:=other) (b:=fK last) hd5 pd5 ht6;have sH6:ay H (upd (upd H5 t6 (.tup [.int other,.int (fK last)])) q (.lst (d5.map V.ref++[V.ref t6]))):=aY (sH5.trans (aj ht6)) hq;generalize upd (upd H5 t6 (.tup [.int other,.int (fK last)])) q (.lst (d5.map V.ref++[V.ref t6]))=H6 at row6 sH6 ⊢;generalize e6:ps5++[(other,fK last)]=ps6 at row6
  have pl6:ps6.length<=131:=by rw[<-e6,List.length_append,List.length_singleton];omega
  refine⟨_,rfl,lM ⟨_,rfl,_,rfl,l,_,rfl,aW.of (sH6 _ _ hl),fun l7 hl7=>?_⟩⟩;rw[zn];have s7:=aj (o:=.lst ((ai++[al]).map V.ref).dropLast) hl7
  have h7:upd H6 l7 (.lst ((ai++[al]).map V.ref).dropLast) l7=some (.lst (ai.map V.ref)):=by rw[ae,List.map_append,List.map_singleton,List.dropLast_concat]
  have row7:=row6.mono s7;have sH7:=sH6.trans s7;generalize upd H6 l7 (.lst ((ai++[al]).map V.ref).dropLast)=H7 at h7 row7 sH7 ⊢
  have q7:q≠l7:=fun z=>by
   obtain⟨ds,h,pp⟩:=id row6;rw[z]at h;rw[h]at hl7;cases hl7
  have tl:∀ i,((init.reverse.take i).flatMap fun r=>(r.tail++r.take 1).map fun x=>(other,x)).length<=64:=fun i=>by
   have key:∀ (rs:List (List Int)),(rs.flatMap fun r=>(r.tail++r.take 1).map fun x=>(other,x)).length=rs.flatten.length:=fun rs=>by
    induction rs with
    | nil=>rfl
    | cons r rs ih =>
     rw[List.flatMap_cons,List.length_append,ih,List.flatten_cons,List.length_append,List.length_map,List.length_append,List.length_tail,List.length_take]
     cases r with
     | nil=>rfl
     | cons b t=>simp
   rw[key];have:=congrArg (fun z=>z.flatten.length) (List.take_append_drop i init.reverse);simp only[List.flatten_append,List.length_append]at this;have e2:init.reverse.flatten.length=init.flatten.length:=(List.reverse_perm init).flatten.length_eq;omega
  refine⟨l7,_,rfl,aW.of h7,DN (K:=K) (a:=l7) (xs:=ai.map V.ref) (fun i σ HH=>∃ v:Option V,σ=[some (.ref l),some (.int one),some (.int other),some (.ref q),some (.ref al),v]/\ay H HH/\HH l7=some (.lst (ai.map V.ref))/\cp HH q (ps6++((init.reverse.take i).flatMap fun r=>(r.tail++r.take 1).map fun x=>(other,x))))
   ⟨none,rfl,sH7,h7,by simpa using row7⟩ (fun i σ HH _ ⟨_,_,_,h,_⟩=>aW.of h) ?_ ?_⟩
  ·rintro i y σ HH hi ⟨v,rfl,t1,hx7,ds,hds,pds⟩
   rw[<-List.map_reverse]at hi;obtain⟨a,ha,rfl⟩:=bo hi
   have hil2:i<ai.length:=by have:=(List.getElem?_eq_some_iff.mp ha).1;simpa using this
   rw[List.getElem?_reverse hil2]at ha;obtain⟨r,hr0,hA⟩:=hai _ _ ha
   have hr1:init.reverse[i]? = some r:=by rw[List.getElem?_reverse (by omega),<-hil];exact hr0
   have en:(init.reverse.take (i+1)).flatMap (fun r=>(r.tail++r.take 1).map fun x=>(other,x))=(init.reverse.take i).flatMap (fun r=>(r.tail++r.take 1).map fun x=>(other,x))++((r.tail++r.take 1).map fun x=>(other,x)):=by
    rw[List.take_add_one,hr1,Option.toList_some,List.flatMap_append,List.flatMap_singleton]
   have t1':=tl i;have t2':=tl (i+1);have dl:=Paired.length pds;rw[List.length_append]at dl;have aH:=t1 _ _ hA
   have r64:r.length<=64:=by
    have:=mV (List.mem_of_getElem? hr0);omega
   refine⟨_,rfl,.inl ⟨rfl,_,aW.of hds⟩,_,rfl,_,rfl,lM ⟨a,_,rfl,aW.of aH,fun l8 hl8=>?_⟩⟩;rw[BH];have g8:=aj (o:=.lst ((r.map V.int).drop 1)) hl8;refine⟨_,rfl,lM ⟨_,rfl,a,_,rfl,aW.of (g8 _ _ aH),fun l9 hl9=>?_⟩⟩;rw[DG];have g9:=aj (o:=.lst ((r.map V.int).take 1)) hl9;refine⟨l8,l9,_,_,rfl,rfl,g9 _ _ ae,ae,by rw[List.length_drop,List.length_take,List.length_map];exact Nat.le_of_lt (aD (by omega)),fun l10 hl10=>?_⟩;have g10:=aj (o:=.lst ((r.map V.int).drop 1++(r.map V.int).take 1)) hl10;have sK:=(g8.trans g9).trans g10
   have h10:upd (upd (upd HH l8 (.lst ((r.map V.int).drop 1))) l9 (.lst ((r.map V.int).take 1))) l10 (.lst ((r.map V.int).drop 1++(r.map V.int).take 1)) l10=some (.lst ((r.tail++r.take 1).map V.int)):=by rw[ae,List.map_append,List.drop_one,List.map_tail,List.map_take]
   generalize upd (upd (upd HH l8 (.lst ((r.map V.int).drop 1))) l9 (.lst ((r.map V.int).take 1))) l10 (.lst ((r.map V.int).drop 1++(r.map V.int).take 1))=H10 at h10 sK ⊢;refine⟨l10,rfl,⟨_,aW.of h10⟩,fun q11 hq11=>?_⟩;refine oP (rest:=[some (.int other)]) (f:=V.int) (pr:=fun x=>(other,x)) (zs:=r.tail++r.take 1) hq11 h10 (by rw[List.length_append,List.length_tail,List.length_take];omega) (fun i z HK Q' hz sK k'=>⟨_,rfl,_,rfl,two,fun t ht=>k' t ht⟩) (fun H12 s12 row12=>?_);obtain⟨d12,hd12,pd12⟩:=row12;have dl12:=Paired.length pd12;rw[en,List.length_append]at t2';refine⟨q,q11,_,_,rfl,rfl,s12 _ _ (sK _ _ hds),hd12,by rw[List.length_map,List.length_map];exact Nat.le_of_lt (aD (by omega)),?_⟩;refine⟨_,rfl,aY (t1.trans (sK.trans s12)) hq,by rw[af (Ne.symm q7)];exact s12 _ _ (sK _ _ hx7),?_⟩;rw[en,<-List.append_assoc];exact zT (s12 _ _ (sK _ _ hds)) (Paired.mapP pds fun b e y=>s12 _ _ (sK _ _ y)) pd12
  ·rintro σ HH ⟨v,rfl,t1,hx7,ds,hds,pds⟩
   have t1':=tl (ai.map V.ref).length;have dl:=Paired.length pds;rw[List.length_append]at dl;rw[List.length_map,hil,List.take_of_length_le (by rw[List.length_reverse];exact Nat.le_refl _)]at pds;refine⟨_,rfl,.inl ⟨rfl,_,aW.of hds⟩,_,rfl,_,rfl,two,fun t ht=>⟨q,_,_,rfl,rfl,(aj ht) _ _ hds,by rw[List.length_map];exact aD (by omega),_,rfl,k q _ hq (aY (t1.trans (aj ht)) hq) ?_⟩⟩;have rowF:=nc (a:=one) (b:=other) hds pds ht;rw[<-e6,<-e5,<-e2,Bw]at rowF;exact rowF
theorem yB (F:dv K "hub_row" "hub_row" lV f fd)(Chubless_rings:au P w K mg base "hubless_rings" 7 ["hall"] (kQ c))(Crings_by_hubs:au P w K mg base "rings_by_hubs" 6 ["hall","rings"] (kP c))(Crings_of:au P w K mg base "rings_of" 6 ["hall"] (f6 c)) : bb P w K mg base (jD P w) 8 f fd ["hall"] (sD c co):=by
 refine F.okX yT (fun vs H Q E h=>?_) (fun cdv A outer s H vs Q E hr h=>?_)
 ·obtain⟨p,B,st,L,rfl,_⟩:=h
  rfl
 ·obtain⟨p,B,st,L,rfl,S,G,h64,smk,ci,hL,k⟩:=h
  refine⟨_,ag (be (m7 (aO Chubless_rings hr.m rfl (dX (pv 0))) (fun _=>rfl)) (ah (gF UO.e dF rfl hr.hd rfl UO.m (a6))) (aK)) (
   ah (az (aO Crings_by_hubs hr.m rfl (c9 (pv 0) (aO Crings_of hr.m rfl (dX (pv 0))))))),?_⟩
  refine⟨_,rfl,p,B,st,L,rfl,S,G,h64,smk,ci,hL,fun lb ab H1 hlb s1 h1 pb _=>?_⟩;have hpl:=Paired.length pb;refine⟨_,.inl ⟨_,aW.of h1,rfl⟩,?_⟩
  by_cases he:((ar st.worn).filter fun r=>(cU st.circ r).isNone)=[]
  ·rw[if_pos he]at k
   rw[he]at hpl;have ea:ab=[]:=List.eq_nil_of_length_eq_zero hpl;rw[ea]
   have hubs:∀ r∈ar st.worn,(cU st.circ r).isNone=false:=fun r hr=>by
    cases e:(cU st.circ r).isNone with
    | false=>rfl
    | true =>
     have:r∈(ar st.worn).filter fun r=>(cU st.circ r).isNone:=List.mem_filter.mpr ⟨hr,e⟩;rw[he]at this;cases this
   refine a7 ⟨_,rfl,_,rfl,p,B,st,rfl,S.mono s1,G,h64,smk,fun l2 as2 H2 hl2 s2 h2 p2 _=>?_⟩;exact⟨p,l2,B,st,as2,L,_,rfl,(S.mono s1).mono s2,G,h64,smk,ci,hL,h2,p2,List.Sublist.refl _,hubs,fun l3 H3 hl3 s3 row=>k l3 H3 ((s1.trans s2).free hl3) ((s1.trans s2).trans s3) row⟩
  ·rw[if_neg he]at k
   cases ab with
   | nil=>rw[List.length_nil]at hpl;exact absurd (List.eq_nil_of_length_eq_zero hpl.symm) he
   | cons x xs=>exact bV (k _ s1)
theorem yH (F:dv K "one_row" "one_row" lZ f fd)(Cis_new:XCallee P w K mg base "is_new" 4 ["hall","guest"] (qC c))(Cstuck_rings:au P w K mg base "stuck_rings" 7 ["hall"] (nE c))(Crings_by_one:au P w K mg base "rings_by_one" 3 ["hall","rings","one"] (nk c))(Crings_of:au P w K mg base "rings_of" 6 ["hall"] (f6 c)) : bb P w K mg base (jD P w) 8 f fd ["hall","one"] (sF c co cq):=by
 refine F.okX yX (fun vs H Q E h=>?_) (fun cdv A outer s H vs Q E hr h=>?_)
 ·obtain⟨p,B,st,L,one,rfl,_⟩:=h
  rfl
 ·obtain⟨p,B,st,L,one,rfl,S,G,h64,smk,ci,hL,sm,k⟩:=h
  refine⟨_,ag (be (jb (jd (oW Cis_new hr.m rfl fz (c9 (pv 0) (pv 1))))) (ah (gF UO.eN dF rfl hr.hd rfl UO.mN (kL (cR (gZ (pv 1)) (cR a6 oS))))) (aK)) (
   ag (be (m7 (aO Cstuck_rings hr.m rfl (dX (pv 0))) (fun _=>rfl)) (ah (gF UO.e dF rfl hr.hd rfl UO.m (a6))) (aK)) (
   ah (az (aO Crings_by_one hr.m rfl (vV (pv 0) (aO Crings_of hr.m rfl (dX (pv 0))) (pv 1)))))),?_⟩
  refine⟨_,rfl,_,rfl,p,B,st,one,rfl,S,sm,Nat.lt_of_le_of_lt (ci.cl one) hL,?_⟩
  cases e:(look st.worn one).isSome with
  | false =>
   rw[e,if_neg Bool.false_ne_true]at k;rw[if_neg Bool.false_ne_true];exact k
  | true =>
   rw[e,if_pos rfl]at k;rw[if_pos rfl];intro H1 s1;refine⟨_,rfl,?_⟩
   by_cases hn:cD st.circ one=[]
   ·rw[if_pos hn]at k
    rw[decide_eq_true hn];refine a7 ⟨_,rfl,p,B,st,L,rfl,S.mono s1,G,h64,smk,ci,hL,fun lb ab H2 hlb s2 h2 pb _=>?_⟩;have hpl:=Paired.length pb;refine⟨_,.inl ⟨_,aW.of h2,rfl⟩,?_⟩
    by_cases he:((ar st.worn).filter fun r=>(br st.circ r).isNone)=[]
    ·rw[if_pos he]at k
     rw[he]at hpl;have ea:ab=[]:=List.eq_nil_of_length_eq_zero hpl;rw[ea]
     have hs:∀ r∈ar st.worn,(br st.circ r).isSome=true:=fun r hr=>by
      cases e:br st.circ r with
      | some i=>rfl
      | none =>
       have:r∈(ar st.worn).filter fun r=>(br st.circ r).isNone:=List.mem_filter.mpr ⟨hr,by rw[e];rfl⟩;rw[he]at this;cases this
     have s02:=s1.trans s2;refine a7 ⟨_,rfl,_,rfl,p,B,st,rfl,S.mono s02,G,h64,smk,fun l2 as2 H3 hl2 s3 h3 p3 _=>?_⟩;exact⟨_,rfl,p,l2,B,st,as2,one,_,rfl,(S.mono s02).mono s3,G,h64,h3,p3,List.Sublist.refl _,hs,fun l4 H4 hl4 s4 row=>k l4 H4 ((s02.trans s3).free hl4) ((s02.trans s3).trans s4) row⟩
    ·rw[if_neg he]at k
     cases ab with
     | nil=>rw[List.length_nil]at hpl;exact absurd (List.eq_nil_of_length_eq_zero hpl.symm) he
     | cons x xs=>exact bV (k _ (s1.trans s2))
   ·rw[if_neg hn]at k
    rw[decide_eq_false hn];exact bV ⟨_,rfl,one,rfl,sm,fun y hy=>⟨y,rfl,hy,_,rfl,by decide,fun z=>k _ s1⟩⟩
theorem vh (F:dv K "check_two" "check_two" f7 f fd)(Cis_new:XCallee P w K mg base "is_new" 4 ["hall","guest"] (qC c)) : bb P w K mg base cL 5 f fd ["hall","one","other"] (jh c):=by
 refine F.ok nh (fun vs H Q E h=>?_) (fun cdv A outer s H vs Q E hr h=>?_)
 ·obtain⟨p,B,st,L,one,other,rfl,_⟩:=h
  rfl
 ·obtain⟨p,B,st,L,one,other,rfl,S,sm1,sm2,ci,hL,l1,l2,c1,c2,ne,k⟩:=h
  have two:(2:Nat)<=sizeLine:=by decide
  refine⟨_,ag (qy (ix:=3) (so:=am f7) (N:=pS) (N':=["guest","hall"]) (src:=[none,some 0]) rfl rfl vU rfl (CN (bp (c9 (pv 1) (pv 2)))) (fun cl C s2 H2 ex=>⟨i8 0 (show (["guest","hall"]:List Str).Nodup by decide +kernel),c7,oW Cis_new hr.m rfl pV (c9 (pv 1) (pv 0))⟩) nh.nd rfl rfl) (
   ag (be (aG de (pv 1) (pv 2) (aQ _)) (ah (xy)) (aK)) (
   ah (be (jb (jd (bu (ue rfl) (by rfl) T.all PyProof.Rows.boot_all (dX (pv 3))))) (ah (xy)) (aK)))),?_⟩
  refine⟨_,rfl,_,rfl,two,fun t ht=>?_⟩;have s1:=aj (o:=.tup [V.int one,V.int other]) ht;have hT:upd H t (.tup [V.int one,V.int other]) t=some (.tup [V.int one,V.int other]):=ae;generalize upd H t (.tup [V.int one,V.int other])=H1 at s1 hT ⊢;refine⟨t,rfl,⟨_,eP.of hT⟩,fun q hq=>?_⟩;have c64:∀ g,(cD st.circ g).length<64:=fun g=>Nat.lt_of_le_of_lt (ci.cl g) hL
  refine zA (K:=K) (a:=t) (xs:=[V.int one,V.int other]) (fun i σ HK=>∃ v:Option V,σ=[v,some (.ref p)]/\ay H1 HK/\HK q=some (.lst ((List.replicate i true).map V.bl)))
   ⟨none,rfl,aj hq,ae⟩ (fun i σ HK _ ⟨_,_,s2,_⟩=>eP.of (s2 _ _ hT)) ?_ ?_
  ·rintro i y σ HK hi ⟨v,rfl,t1,hq2⟩
   have hil:=(List.getElem?_eq_some_iff.mp hi).1
   obtain⟨g,eg,sg,lg,cg⟩:∃ g:Int,y=.int g/\aV g/\(look st.worn g).isSome=true/\cD st.circ g=[]:=by
    match i,hi with
    | 0,hi=>exact⟨one,(Option.some.inj hi).symm,sm1,l1,c1⟩
    | 1,hi=>exact⟨other,(Option.some.inj hi).symm,sm2,l2,c2⟩
   subst eg;refine f9 ⟨_,rfl,_,rfl,p,B,st,g,rfl,S.mono (s1.trans t1),sg,c64 g,?_⟩;rw[if_pos lg];intro H2 s2;rw[decide_eq_true cg];refine⟨_,s2 _ _ hq2,by rw[List.length_map,List.length_replicate];exact aD (by simp at hil;omega),_,rfl,aY (t1.trans s2) hq,?_⟩;rw[ae,List.replicate_succ',List.map_append];rfl
  ·rintro σ HK ⟨v,rfl,t1,hq2⟩
   refine⟨_,rfl,_,rfl,rfl,_,rfl,?_⟩;rw[decide_eq_false (fun z=>ne (V.int.inj z))];refine a7 ⟨_,rfl,q,_,rfl,aW.of hq2,_,rfl,?_⟩;exact a7 (k HK (s1.trans t1))
theorem yI (F:dv K "two_row" "two_row" l6 f fd)(Ccheck_two:au P w K mg base "check_two" 5 ["hall","one","other"] (jh c))(Crings_of:au P w K mg base "rings_of" 6 ["hall"] (f6 c))(Crings_by_two:au P w K mg base "rings_by_two" 1 ["rings","one","other"] qz) : bb P w K mg base cL 7 f fd ["hall","one","other"] (nF c):=by
 refine F.ok yY (fun vs H Q E h=>?_) (fun cdv A outer s H vs Q E hr h=>?_)
 ·obtain⟨p,B,st,L,one,other,rfl,_⟩:=h
  rfl
 ·obtain⟨p,B,st,L,one,other,rfl,S,G,h64,smk,sm1,sm2,ci,hL,l1,l2,c1,c2,ne,k⟩:=h
  refine⟨_,ag (aT (aO Ccheck_two hr.m rfl (vV (pv 0) (pv 1) (pv 2)))) (
   ah (az (aO Crings_by_two hr.m rfl (vV (aO Crings_of hr.m rfl (dX (pv 0))) (pv 1) (pv 2))))),?_⟩
  refine⟨_,rfl,_,rfl,_,rfl,p,B,st,L,one,other,rfl,S,sm1,sm2,ci,hL,l1,l2,c1,c2,ne,fun H1 s1=>?_⟩;have P:=cw G;obtain⟨rs1,rs2⟩:=cO P
  have fl64:(ar st.worn).flatten.length<=64:=by
   obtain⟨w1,w2,w3,w4⟩:=P.wrong;obtain⟨a1,b1,_,_⟩:=bX P.inj w3 w4 (aF st.worn) [] (fun x h=>h) (fun x h=>by cases h);have:=b6 a1 fun x hx=>(b1 x hx).2;have e:(ar st.worn).flatten.length<=(aF st.worn).length:=this;omega
  refine⟨_,rfl,p,B,st,rfl,S.mono s1,G,h64,smk,fun lr as H2 hlr s2 h2 pa _=>⟨_,rfl,_,rfl,lr,_,one,other,rfl,⟨as,h2,pa⟩,by omega,fl64,fun r hr=>?_,fun l' H' hl' s' row=>k l' H' ((s1.trans s2).free hl') ((s1.trans s2).trans s') row⟩⟩;obtain⟨g,m,rfl,R,m2⟩:=P.ring2 hr;rw[bD];exact m2
theorem xk (F:dv K "home_row" "home_row" hJ f fd)(Ccheck_two:au P w K mg base "check_two" 5 ["hall","one","other"] (jh c))(Crings_of:au P w K mg base "rings_of" 6 ["hall"] (f6 c))(Chub_of:au P w K mg base "hub_of" 2 ["hall","ring"] (nv c))(Crings_by_hubs:au P w K mg base "rings_by_hubs" 6 ["hall","rings"] (kP c))(Chubless_rings:au P w K mg base "hubless_rings" 7 ["hall"] (kQ c))(Cstuck_rings:au P w K mg base "stuck_rings" 7 ["hall"] (nE c))(Crings_by_two:au P w K mg base "rings_by_two" 1 ["rings","one","other"] qz)(Crings_by_one:au P w K mg base "rings_by_one" 3 ["hall","rings","one"] (nk c)) : bb P w K mg base cL 8 f fd ["hall","one","other"] (o7 c):=by
 refine F.ok ki (fun vs H Q E h=>?_) (fun cdv A outer s H vs Q E hr h=>?_)
 ·obtain⟨p,B,st,L,one,other,rfl,_⟩:=h
  rfl
 ·obtain⟨p,B,st,L,one,other,rfl,S,G,h64,smk,sm1,sm2,ci,hL,l1,l2,c1,c2,ne,k⟩:=h
  have hu:=cH hr
  refine⟨_,ag (aT (aO Ccheck_two hr.m rfl (vV (pv 0) (pv 1) (pv 2)))) (
   ag (bK 3 ki.nd (aO Crings_by_hubs hr.m rfl (c9 (pv 0) (dq (so:=am hJ) (N:=rC) (N':=["ring","hall"]) (src:=[none,some 0]) rfl rfl vU rfl (bq (aO Crings_of hr.m rfl (dX (pv 0)))) (fun cl C s2 H2 ex=>⟨i8 0 (show (["ring","hall"]:List Str).Nodup by decide +kernel),kO (ie (D8 (aO Chub_of hr.m rfl (c9 (pv 1) (pv 0))))),pv 0⟩))))) (
   ag (bK 4 ki.nd (aO Chubless_rings hr.m rfl (dX (pv 0)))) (
   ag (be (m7 (aO Cstuck_rings hr.m rfl (dX (pv 0))) (fun _=>rfl)) (ah (az (aS i6 (pv 3) (aO Crings_by_two hr.m rfl (vV (pv 4) (pv 1) (pv 2)))))) (aK)) (
   ah (az (aS i6 (pv 3) (aO Crings_by_one hr.m rfl (vV (pv 0) (pv 4) (pv 1))))))))),?_⟩
  refine⟨_,rfl,_,rfl,_,rfl,p,B,st,L,one,other,rfl,S,sm1,sm2,ci,hL,l1,l2,c1,c2,ne,fun H1 s1=>?_⟩;have P:=cw G;obtain⟨rs1,rs2⟩:=cO P;have f64:=P.flat64 h64;refine⟨_,rfl,_,rfl,p,B,st,rfl,S.mono s1,G,h64,smk,fun lr as H2 hlr s2 h2 pa _=>⟨lr,rfl,⟨_,aW.of h2⟩,fun q hq=>?_⟩⟩;have hpl:=Paired.length pa;have s02:=s1.trans s2;refine Aw (rest:=[some (.ref p)]) (rs:=ar st.worn) (f:=fun r=>!(cU st.circ r).isNone) hq h2 pa (by omega) (fun a r HK Q' hr sK hA k'=>?_) (fun bs H3 s3 hq3 pb _=>?_)
  ·refine⟨_,rfl,_,rfl,p,a,B,st,L,r,rfl,(S.mono s02).mono sK,hA,by have:=rs2 r hr;omega,ci,hL,fun H5 s5=>⟨_,rfl,?_⟩⟩
   cases e:cU st.circ r with
   | none =>
    have:=k' H5 s5;rw[e]at this;exact this
   | some g =>
    have:=k' H5 s5;rw[e]at this;exact this
  have s03:=s02.trans s3;refine⟨p,q,B,st,bs,L,cI st,rfl,S.mono s03,G,h64,smk,ci,hL,hq3,pb,List.filter_sublist,fun r hr=>(dc.mp hr).2,fun lh H4 hlh s4 row4=>?_⟩;have s04:=s03.trans s4;refine⟨_,rfl,p,B,st,L,rfl,S.mono s04,G,h64,smk,ci,hL,fun lb ab H5 hlb s5 h5 p5 _=>?_⟩;have s05:=s04.trans s5;have abl:ab.length=(bG st).length:=Paired.length p5;have p5':Paired (fun a (r:List Int)=>H5 a=some (.lst (r.map V.int))) ab (bG st):=p5;refine⟨_,rfl,p,B,st,L,rfl,S.mono s05,G,h64,smk,ci,hL,fun l3 a3 H6 hl3 s6 h6 p6 _=>?_⟩;have a3l:a3.length=(kC st).length:=Paired.length p6;have s06:=s05.trans s6;have h56:=s6 _ _ h5;have p56:Paired (fun a (r:List Int)=>H6 a=some (.lst (r.map V.int))) ab (bG st):=Paired.mapP p5' fun a r e=>s6 _ _ e;have bsub:(bG st).Sublist (ar st.worn):=List.filter_sublist;have bl:=bsub.length_le;have bf:=dj bsub;obtain⟨hds,hhd,hpd⟩:=id row4;have hdl:=Paired.length hpd;have mh:=wP P;have hfl:=dj (rs:=cI st) (qs:=ar st.worn) List.filter_sublist;have hdl2:hds.length=(sW st).length:=hdl
  have fin:∀ (lt:Addr)(H7:Hp),ay H6 H7->cp H7 lt (qc st one other)->∃ ts:List Addr,H7 lt=some (.lst (ts.map V.ref))/\(hds.map V.ref).length+(ts.map V.ref).length<=sizeLine/\∀ q9,H7 q9=none->Q (.ref q9) (upd H7 q9 (.lst (hds.map V.ref++ts.map V.ref))):=fun lt H7 s7 row7=>by
   obtain⟨ts,hts,pts⟩:=row7;have tl:=Paired.length pts;have ml:=wO P one other;refine⟨ts,hts,?_,fun q9 hq9=>?_⟩
   ·rw[List.length_map,List.length_map]
    refine Nat.le_of_lt (aD ?_);split at ml<;>omega
   ·have g9:=aj (o:=.lst (hds.map V.ref++ts.map V.ref)) hq9
    have s49:=(s5.trans s6).trans s7;refine k q9 _ ((s06.trans s7).free hq9) ((s06.trans s7).trans g9) ⟨hds++ts,by rw[ae,List.map_append],?_⟩;exact aI (Paired.mapP hpd fun a e y=>g9 _ _ (s49 _ _ y)) (Paired.mapP pts fun a e y=>g9 _ _ y)
  by_cases ht:kC st=[]
  ·rw[ht]at a3l
   have ea:a3=[]:=List.eq_nil_of_length_eq_zero a3l;refine⟨false,.inl ⟨_,aW.of h6,by rw[ea];rfl⟩,a7 ⟨_,rfl,_,rfl,_,rfl,_,rfl,p,lb,B,st,ab,one,bG st,rfl,S.mono s06,G,h64,h56,p56,bsub,fun r hr=>pk ht (bE.mp hr).1,fun lt H7 hlt s7 row7=>?_⟩⟩;obtain⟨ts,hts,f1,f2⟩:=fin lt H7 s7 (by unfold qc;rw[if_pos ht];exact row7);exact⟨lh,lt,_,_,rfl,rfl,((s5.trans s6).trans s7) _ _ hhd,hts,f1,f2⟩
  ·have na:a3≠[]:=fun z=>ht (List.eq_nil_of_length_eq_zero (by rw[<-a3l,z];rfl))
   refine⟨true,.inl ⟨_,aW.of h6,by simp[na]⟩,bV ⟨_,rfl,_,rfl,_,rfl,_,rfl,lb,bG st,one,other,rfl,⟨ab,h56,p56⟩,by omega,by omega,fun r hr=>P.len2 (bE.mp hr).1,fun lt H7 hlt s7 row7=>?_⟩⟩;obtain⟨ts,hts,f1,f2⟩:=fin lt H7 s7 (by unfold qc;rw[if_neg ht];exact row7);exact⟨lh,lt,_,_,rfl,rfl,((s5.trans s6).trans s7) _ _ hhd,hts,f1,f2⟩
theorem vg (F:dv K "__init__" "Hall.__init__" jk f fd) : bb P w K mg base cL 1 f fd ["self"] (Di c.C):=by
 refine F.ok vA (fun vs H Q E h=>?_) (fun cdv A outer s H vs Q E hr h=>?_)
 ·obtain⟨p,dx,rfl,_⟩:=h
  rfl
 ·obtain⟨p,dx,rfl,hp,k⟩:=h
  refine⟨_,ag (vy (pv 0) gD rfl) (
   ag (vy (pv 0) gD rfl) (
   ag (vy (pv 0) gD rfl) (
   ah (vy (pv 0) (dS aJ) rfl)))),?_⟩
  intro w hw;have n1:p≠w:=ak hp hw;refine⟨_,rfl,p,c.C,dx,[],rfl,(by rw[af n1];exact hp),U.cl,U.nW,(by show 0<1000;decide),?_⟩;intro h hh;have n2:p≠h:=ak ae hh;refine⟨_,rfl,p,c.C,dx,_,rfl,(by rw[af n2,ae]),U.cl,U.nH,(by show 1<1000;decide),?_⟩;intro cc hc;have n3:p≠cc:=ak ae hc;refine⟨_,rfl,p,c.C,dx,_,rfl,(by rw[af n3,ae]),U.cl,U.nC,(by show 2<1000;decide),?_⟩;refine⟨by show 0<=sizeLine;exact Nat.zero_le _,fun d hd=>?_⟩;have n4:p≠d:=ak ae hd;refine⟨_,rfl,p,c.C,dx,_,rfl,(by rw[af n4,ae]),U.cl,U.nD,(by show 3<1000;decide),?_⟩;rw[af (Ne.symm n2)]at hh;have wh:w≠h:=ak ae hh;rw[af (Ne.symm n3)]at hc;have hcw:h≠cc:=ak ae hc;rw[af (Ne.symm hcw),af (Ne.symm n3)]at hc;have hwc:w≠cc:=ak ae hc;rw[af (Ne.symm n4)]at hd;have hdc:cc≠d:=ak ae hd;rw[af (Ne.symm hdc),af (Ne.symm n4)]at hd;have hdh:h≠d:=ak ae hd;rw[af (Ne.symm hdh),af (Ne.symm n4)]at hd;have hdw:w≠d:=ak ae hd;rw[af (Ne.symm hdw)]at hd;rw[af (Ne.symm hwc)]at hc;rw[af (Ne.symm wh)]at hh;refine k ⟨dx,w,h,cc,d,[]⟩ _ ⟨ae,?_,?_,?_,?_,.nil,[],?_,.nil⟩ (fun b o e hb=>?_) fun b hb=>?_
  ·simp[HA.fp,wh,hwc,hdw,hcw,hdh,hdc]
  ·rw[af (Ne.symm n1),af hdw,af (Ne.symm n1),af hwc,af (Ne.symm n1),af wh,af (Ne.symm n1),ae]
   rfl
  ·rw[af (Ne.symm n2),af hdh,af (Ne.symm n2),af hcw,af (Ne.symm n2),ae]
   rfl
  ·rw[af (Ne.symm n3),af hdc,af (Ne.symm n3),ae]
   rfl
  ·rw[af (Ne.symm n4),ae]
   rfl
  ·rw[af hb,af (ak e hd),af hb,af (ak e hc),af hb,af (ak e hh),af hb,af (ak e hw)]
   exact e
  ·simp[HA.fp]at hb
   rcases hb with rfl | rfl | rfl | rfl
   ·exact hw
   ·exact hh
   ·exact hc
   ·exact hd
theorem vf (F:dv K "come" "Hall.come" jj f fd)(cP:aP P w K mg base cL c.C "dress" 1 ["self","guest","mask"] (qA c.C)) : bb P w K mg base (jD P w) 2 f fd ["self","guest"] (y3 c):=by
 refine F.okX vz (fun vs H Q E h=>?_) (fun cdv A outer s H vs Q E hr h=>?_)
 ·obtain⟨p,B,st,g,rfl,_⟩:=h
  rfl
 ·obtain⟨p,B,st,g,rfl,S,ft,hg,k⟩:=h
  have hu:=cH hr
  refine⟨_,ag (be (ie (oQ hu (pv 1) (cK (pv 0) rfl))) (ah (gF U.eA dF rfl hr.hd rfl U.mA (kL (cR (gZ (pv 1)) (cR a6 (oS)))))) aK) (
   ag (aT (c6 cP (pv 0) U.cl hr dY (av (pv 1) (av (pv 1) aJ)))) (
   ah (aT (dZ PySem.F.plainAttrs_list PySem.F.slot_list_append PySem.F.type_list_append bM (cK (pv 0) rfl) (av (bp (av (a6) (av (pv 1) (aJ)))) aJ))))),?_⟩
  have g1:da H B.w (.int g) ((look st.worn g).map V.int):=by rw[<-dP];exact da.k (k:=Sum.inl g) S.w
  refine⟨_,rfl,_,rfl,p,c.C,B.dx,_,_,rfl,S.ob,U.cl,U.nW,yd _,B.w,_,rfl,g1,_,rfl,?_⟩
  cases e:look st.worn g with
  | some m =>
   refine bV ⟨_,rfl,g,rfl,hg,fun y hy=>⟨y,rfl,hy,_,rfl,by decide,fun z=>?_⟩⟩;exact gy (o:=.already) k (by simp[ba,e]) (by simp) _ (fun _ _ z=>z)
  | none =>
   refine a7 ⟨_,rfl,p,B.dx,_,rfl,S.ob,om _ (by decide +kernel),_,rfl,_,rfl,p,B,st,g,g,rfl,S,by have:=ft.w;omega,by have:=ft.h;omega,?_⟩;have S1:=uT (uU S (put st.worn g g)) (put st.hold g g);have k1:Kp B.fp H (upd (upd H B.w (.dK (dk (put st.worn g g)))) B.h (.dK (dk (put st.hold g g)))):=(gz zG).on (gz zE);have t1:Tr H (upd (upd H B.w (.dK (dk (put st.worn g g)))) B.h (.dK (dk (put st.hold g g)))):=(Tr.refl.upd _ _).upd _ _;generalize upd (upd H B.w (.dK (dk (put st.worn g g)))) B.h (.dK (dk (put st.hold g g)))=H1 at S1 k1 t1;obtain⟨as,hd,hp⟩:=id S1.d;have hl:as.length=st.deeds.length:=Paired.length hp;refine⟨_,rfl,p,c.C,B.dx,_,_,rfl,S1.ob,U.cl,U.nD,B0 _,.inl ⟨rfl,_,aW.of hd⟩,_,rfl,by show 2<=sizeLine;decide,fun t ht=>?_⟩;have td:B.d≠t:=ak hd ht;refine⟨B.d,_,_,rfl,rfl,by rw[af td];exact hd,by rw[List.length_map];exact aD (by have:=ft.d;omega),?_⟩;refine oh k (by simp[ba,e]) _ ⟨B,oj S1 hd hp (.come g) ht,(k1.on (yi ht)).on (gz Ci),fun b hb=>.inl hb,(t1.upd _ _).upd _ _⟩
theorem yA (F:dv K "go" "Hall.go" lU f fd)(aR:aP P w K mg base (jD P w) c.C "wears" 3 ["self","guest"] (ji c)) : bb P w K mg base (jD P w) 4 f fd ["self","guest"] (Fy c):=by
 refine F.okX yS (fun vs H Q E h=>?_) (fun cdv A outer s H vs Q E hr h=>?_)
 ·obtain⟨p,B,st,g,rfl,_⟩:=h
  rfl
 ·obtain⟨p,B,st,g,rfl,S,ft,hg,hm,k⟩:=h
  refine⟨_,ag (be (aG m5 (c6 aR (pv 0) U.cl hr fz (av (pv 1) aJ)) (pv 1) (aQ _)) (ah (gF U.eM dF rfl hr.hd rfl U.mM (kL (cR (gZ (pv 1)) (cR a6 (cR (gZ (c6 aR (pv 0) U.cl hr fz (av (pv 1) aJ))) (oS))))))) aK) (
   ag (aT (rY (cK (pv 0) rfl) (pv 1) ⟨rfl,rfl,rfl,rfl⟩)) (
   ag (aT (rY (cK (pv 0) rfl) (pv 1) ⟨rfl,rfl,rfl,rfl⟩)) (
   ah (aT (dZ PySem.F.plainAttrs_list PySem.F.slot_list_append PySem.F.type_list_append bM (cK (pv 0) rfl) (av (bp (av (a6) (av (pv 1) (aJ)))) aJ)))))),?_⟩
  have no:=rm B (m:="wears") (by decide +kernel) (by decide +kernel) (by decide +kernel) (by decide +kernel);refine⟨_,rfl,p,B.dx,_,rfl,S.ob,no,_,rfl,p,B,st,g,rfl,S,hg,?_⟩
  cases e:look st.worn g with
  | none=>exact gy (o:=.noguest g) k (by simp[ba,e]) (by simp)
  | some m =>
   obtain⟨hs,hh⟩:=hm m e;refine⟨_,rfl,rfl,_,rfl,?_⟩
   by_cases em:m=g
   ·subst em
    rw[decide_eq_true rfl];refine a7 ?_
    have hv:dH (dk st.worn) (Sum.inl m:cm)=some (V.int m):=by rw[dP,e];rfl
    obtain⟨m2,e2⟩:=Option.isSome_iff_exists.mp (hh rfl)
    have hv2:dH (dk st.hold) (Sum.inl m:cm)=some (V.int m2):=by rw[dP,e2];rfl
    refine⟨_,rfl,p,c.C,B.dx,_,_,rfl,S.ob,U.cl,U.nW,yd _,B.w,rfl,.inl ⟨_,.inl S.w⟩,_,rfl,_,Sum.inl m,_,S.w,rfl,hv,?_⟩;rw[rc];have S0:=uU S (cG st.worn m);refine⟨_,rfl,p,c.C,B.dx,_,_,rfl,S0.ob,U.cl,U.nH,DR _,B.h,rfl,.inl ⟨_,.inl S0.h⟩,_,rfl,_,Sum.inl m,_,S0.h,rfl,hv2,?_⟩;rw[rc];have S1:=uT S0 (cG st.hold m);have k1:Kp B.fp H (upd (upd H B.w (.dK (dk (cG st.worn m)))) B.h (.dK (dk (cG st.hold m)))):=(gz zG).on (gz zE);have t1:Tr H (upd (upd H B.w (.dK (dk (cG st.worn m)))) B.h (.dK (dk (cG st.hold m)))):=(Tr.refl.upd _ _).upd _ _;generalize upd (upd H B.w (.dK (dk (cG st.worn m)))) B.h (.dK (dk (cG st.hold m)))=H1 at S1 k1 t1;obtain⟨as,hd,hp⟩:=id S1.d;have hl:as.length=st.deeds.length:=Paired.length hp;refine⟨_,rfl,p,c.C,B.dx,_,_,rfl,S1.ob,U.cl,U.nD,B0 _,.inl ⟨rfl,_,aW.of hd⟩,_,rfl,by show 2<=sizeLine;decide,fun t ht=>?_⟩;have td:B.d≠t:=ak hd ht;refine⟨B.d,_,_,rfl,rfl,by rw[af td];exact hd,by rw[List.length_map];exact aD (by have:=ft.d;omega),?_⟩;refine oh k (by simp[ba,e]) _ ⟨B,oj S1 hd hp (.go m) ht,(k1.on (yi ht)).on (gz Ci),fun b hb=>.inl hb,(t1.upd _ _).upd _ _⟩
   ·rw[decide_eq_false (fun z=>em (V.int.inj z))]
    refine bV ⟨_,rfl,g,rfl,hg,fun y hy=>⟨y,rfl,hy,_,rfl,by decide,?_⟩⟩;refine⟨_,rfl,p,B.dx,_,rfl,S.ob,no,_,rfl,p,B,st,g,rfl,S,hg,?_⟩;rw[e];refine⟨m,rfl,hs,fun y hy=>⟨y,rfl,hy,fun z=>?_⟩⟩;exact gy (o:=.masked) k (by simp[ba,e,em]) (by simp) _ (fun _ _ z=>z)
theorem oK (F:dv K "exchange" "Hall.exchange" fj f fd)(aR:aP P w K mg base (jD P w) c.C "wears" 3 ["self","guest"] (ji c))(eY:aP P w K mg base cL c.C "met" 1 ["self","one","other"] (zX c.C))(cP:aP P w K mg base cL c.C "dress" 1 ["self","guest","mask"] (qA c.C))(dJ:aP P w K mg base cL c.C "acquaint" 1 ["self","one","other"] (Dg c.C)) : bb P w K mg base (jD P w) 4 f fd ["self","one","other"] (y4 c):=by
 refine F.okX fb (fun vs H Q E h=>?_) (fun cdv A outer s H vs Q E hr h=>?_)
 ·obtain⟨p,B,st,a,b,rfl,_⟩:=h
  rfl
 ·obtain⟨p,B,st,a,b,rfl,S,ft,ha,hb,k⟩:=h
  have hr1:cQ 1 _:=hr.mono (by decide)
  refine⟨_,ag (dz (i:=3) fb.nd rfl (Or.inl rfl) (c6 aR (pv 0) U.cl hr fz (av (pv 1) aJ))) (
   ag (dz (i:=4) fb.nd rfl (Or.inl rfl) (c6 aR (pv 0) U.cl hr fz (av (pv 2) aJ))) (
   ag (be (aG de (pv 1) (pv 2) (aQ _)) (ah (gF U.eS dF rfl hr.hd rfl U.mS (kL (cR (gZ (pv 1)) (cR a6 (oS)))))) aK) (
   ag (be (jd (c6 eY (pv 0) U.cl hr1 dY (av (pv 1) (av (pv 2) aJ)))) (ah (gF U.eT dF rfl hr.hd rfl U.mT (kL (cR (gZ (pv 1)) (cR a6 (cR (gZ (pv 2)) (cR a6 (oS)))))))) aK) (
   ag (aT (c6 cP (pv 0) U.cl hr1 dY (av (pv 1) (av (pv 4) aJ)))) (
   ag (aT (c6 cP (pv 0) U.cl hr1 dY (av (pv 2) (av (pv 3) aJ)))) (
   ag (aT (c6 dJ (pv 0) U.cl hr1 dY (av (pv 1) (av (pv 2) aJ)))) (
   ag (aT (c6 dJ (pv 0) U.cl hr1 dY (av (pv 2) (av (pv 1) aJ)))) (
   ah (aT (dZ PySem.F.plainAttrs_list PySem.F.slot_list_append PySem.F.type_list_append bM (cK (pv 0) rfl) (av (bp (av (a6) (av (pv 1) (av (pv 2) (aJ))))) aJ))))))))))),?_⟩
  have no:∀ (B:HA)(m:Str),m∈(["wears","met","dress","acquaint"]:List Str)->(bx B).lookup m=none:=fun B m hm=>by
   simp only[List.mem_cons,List.not_mem_nil,or_false]at hm;rcases hm with rfl | rfl | rfl | rfl<;>exact om B (by decide +kernel)
  have n1:∀ B:HA,(bx B).lookup ("wears" : Str)=none:=fun B=>no B _ (by simp);have n2:∀ B:HA,(bx B).lookup ("met" : Str)=none:=fun B=>no B _ (by simp);have n3:∀ B:HA,(bx B).lookup ("dress" : Str)=none:=fun B=>no B _ (by simp);have n4:∀ B:HA,(bx B).lookup ("acquaint" : Str)=none:=fun B=>no B _ (by simp);refine⟨_,rfl,p,B.dx,_,rfl,S.ob,n1 B,_,rfl,p,B,st,a,rfl,S,ha,?_⟩
  cases ea:look st.worn a with
  | none=>exact gy (o:=.noguest a) k (by simp[ba,ea]) (by simp)
  | some ma =>
   refine⟨_,rfl,p,B.dx,_,rfl,S.ob,n1 B,_,rfl,p,B,st,b,rfl,S,hb,?_⟩
   cases eb:look st.worn b with
   | none=>exact gy (o:=.noguest b) k (by simp[ba,ea,eb]) (by simp)
   | some mb =>
    refine⟨_,rfl,_,rfl,rfl,_,rfl,?_⟩
    by_cases eab:a=b
    ·rw[decide_eq_true (by rw[eab])]
     refine bV ⟨_,rfl,a,rfl,ha,fun y hy=>⟨y,rfl,hy,_,rfl,by decide,fun z=>?_⟩⟩;exact gy (o:=.same) k (by simp[ba,ea,eb,eab]) (by simp) _ (fun _ _ z=>z)
    ·rw[decide_eq_false (fun z=>eab (V.int.inj z))]
     refine a7 ⟨_,rfl,p,B.dx,_,rfl,S.ob,n2 B,_,rfl,_,rfl,p,B,st,a,b,rfl,S,fun H1 s1=>⟨_,rfl,?_⟩⟩
     cases em:cC st.circ a b with
     | true =>
      refine bV ⟨_,rfl,a,rfl,ha,fun y hy=>⟨y,rfl,hy,_,rfl,by decide,_,rfl,b,rfl,hb,fun y hy=>⟨y,rfl,hy,_,rfl,by decide,fun z=>?_⟩⟩⟩;exact gy (o:=.met) k (by simp[ba,ea,eb,eab,em]) (by simp) _ s1
     | false =>
      refine a7 ?_;have S1:=S.mono s1;have kd:=oh k (by simp[ba,ea,eb,eab,em])
      have wa:wr st.worn a=ma:=by unfold wr;rw[ea];rfl
      have wb:wr st.worn b=mb:=by unfold wr;rw[eb];rfl
      have l1:=u0 st.worn a mb;have l2:=u0 st.hold mb a;have f1:=ft.w;have f2:=ft.h;refine⟨_,rfl,p,B.dx,_,rfl,S1.ob,n3 B,_,rfl,_,rfl,p,B,st,a,mb,rfl,S1,by omega,by omega,?_⟩;have S2:=uT (uU S1 (put st.worn a mb)) (put st.hold mb a);have k2:Kp B.fp H (upd (upd H1 B.w (.dK (dk (put st.worn a mb)))) B.h (.dK (dk (put st.hold mb a)))):=((Kp.of_same s1).on (gz zG)).on (gz zE);have t2:Tr H (upd (upd H1 B.w (.dK (dk (put st.worn a mb)))) B.h (.dK (dk (put st.hold mb a)))):=((Tr.of_same s1).upd _ _).upd _ _;generalize upd (upd H1 B.w (.dK (dk (put st.worn a mb)))) B.h (.dK (dk (put st.hold mb a)))=H2 at S2 k2 t2;refine⟨_,rfl,p,B.dx,_,rfl,S2.ob,n3 B,_,rfl,_,rfl,p,B,_,b,ma,rfl,S2,by show (put st.worn a mb).length<2000;omega,by show (put st.hold mb a).length<2000;omega,?_⟩;have S3:=uT (uU S2 (put (put st.worn a mb) b ma)) (put (put st.hold mb a) ma b);have k3:Kp B.fp H (upd (upd H2 B.w (.dK (dk (put (put st.worn a mb) b ma)))) B.h (.dK (dk (put (put st.hold mb a) ma b)))):=(k2.on (gz zG)).on (gz zE);dsimp only at S3 ⊢;have t3:Tr H (upd (upd H2 B.w (.dK (dk (put (put st.worn a mb) b ma)))) B.h (.dK (dk (put (put st.hold mb a) ma b)))):=(t2.upd _ _).upd _ _;generalize upd (upd H2 B.w (.dK (dk (put (put st.worn a mb) b ma)))) B.h (.dK (dk (put (put st.hold mb a) ma b)))=H3 at S3 k3 t3;refine⟨_,rfl,p,B.dx,_,rfl,S3.ob,n4 B,_,rfl,_,rfl,p,B,_,a,b,rfl,S3,by have:=ft.c;show st.circ.length<2000;omega,fun x hx=>by have:=ft.k x hx;omega,fun H4 ⟨B4,S4,k4,p4,t4⟩=>?_⟩;dsimp only at S4;refine⟨_,rfl,p,B4.dx,_,rfl,S4.ob,n4 B4,_,rfl,_,rfl,p,B4,_,b,a,rfl,S4,by have:=ft.c;have:=mU st.circ a b;show (bY st.circ a b).length<2000;omega,fun x hx=>by have:=qS (n:=999) (fun x hx=>by have:=ft.k x hx;omega) (by decide) x hx;omega,fun H5 ⟨B5,S5,k5,p5,t5⟩=>?_⟩
      dsimp only at S5;have k4':Kp B.fp H H4:=k3.on k4
      have f4:∀ x∈B4.fp,x∈B.fp\/H x=none:=fun x hx=>by
       rcases p4 x hx with z | z
       ·exact .inl z
       ·by_cases hq:x∈B.fp
        ·exact .inl hq
        ·refine .inr ?_
         cases e:H x with
         | none=>rfl
         | some o=>rw[k3 x o e hq]at z;cases z
      have k5':Kp B.fp H H5:=k4'.trans k5 f4
      have f5:∀ x∈B5.fp,x∈B.fp\/H x=none:=fun x hx=>by
       rcases p5 x hx with z | z
       ·exact f4 x z
       ·by_cases hq:x∈B.fp
        ·exact .inl hq
        ·refine .inr ?_
         cases e:H x with
         | none=>rfl
         | some o=>rw[k4' x o e hq]at z;cases z
      obtain⟨as,hd,hp⟩:=id S5.d;have hl:as.length=st.deeds.length:=Paired.length hp;refine⟨_,rfl,p,c.C,B5.dx,_,_,rfl,S5.ob,U.cl,U.nD,B0 _,.inl ⟨rfl,_,aW.of hd⟩,_,rfl,_,rfl,by show 3<=sizeLine;decide,fun t ht=>?_⟩;have td:B5.d≠t:=ak hd ht;refine⟨B5.d,_,_,rfl,rfl,by rw[af td];exact hd,by rw[List.length_map];exact aD (by have:=ft.d;omega),?_⟩;have S6:=oj S5 hd hp (.exch a b) ht;refine kd _ ⟨B5,?_,?_,f5,(((t3.trans t4).trans t5).upd _ _).upd _ _⟩
      ·show aM c.C _ p B5 { worn:=put (put st.worn a (wr st.worn b)) b (wr st.worn a),hold:=put (put st.hold (wr st.worn b) a) (wr st.worn a) b,circ:=bY (bY st.circ a b) b a,deeds:=st.deeds++[.exch a b] }
       rw[wa,wb];exact S6
      ·intro x o e hx
       have h5:=k5' x o e hx
       have hx5:x≠B5.d:=fun z=>by
        rcases f5 B5.d Ci with q | q
        ·exact hx (by rw[z];exact q)
        ·rw[z,q]at e;cases e
       show upd (upd H5 t _) B5.d _ x=some o
       rw[af hx5,af (ak h5 ht)];exact h5
theorem tw (F:dv K "dress" "Hall.dress" ii f fd) : bb P w K mg base cL 1 f fd ["self","guest","mask"] (qA c.C):=by
 refine F.ok tH (fun vs H Q E h=>?_) (fun cdv A outer s H vs Q E hr h=>?_)
 ·obtain⟨p,B,st,g,m,rfl,_⟩:=h
  rfl
 ·obtain⟨p,B,st,g,m,rfl,S,hw,hh,k⟩:=h
  have hu:=cH hr
  have nwh:B.w≠B.h:=by have:=S.nd;simp[HA.fp]at this;exact this.1.1
  have npw:p≠B.w:=bz S.ob S.w (by intro z;cases z)
  refine⟨_,ag (ja hu (cK (pv 0) rfl) (pv 1) (pv 2) rfl) (
   ah (ja hu (cK (pv 0) rfl) (pv 2) (pv 1) rfl)),?_⟩
  refine⟨_,rfl,_,rfl,p,c.C,B.dx,_,_,rfl,S.ob,U.cl,U.nW,yd _,_,rfl,B.w,_,rfl,mi.k (k:=Sum.inl g) S.w (by rw[yk];exact Nat.lt_of_lt_of_le hw (by decide)),?_⟩;rw[m8];refine⟨_,rfl,_,rfl,p,c.C,B.dx,_,_,rfl,(by rw[af npw];exact S.ob),U.cl,U.nH,DR _,_,rfl,B.h,_,rfl,mi.k (k:=Sum.inl m) (by rw[af (Ne.symm nwh)];exact S.h) (by rw[yk];exact Nat.lt_of_lt_of_le hh (by decide)),?_⟩;rw[m8];exact k
theorem oJ (F:dv K "acquaint" "Hall.acquaint" fh f fd) : bb P w K mg base cL 1 f fd ["self","one","other"] (Dg c.C):=by
 refine F.ok iF (fun vs H Q E h=>?_) (fun cdv A outer s H vs Q E hr h=>?_)
 ·obtain⟨p,B,st,a,b,rfl,_⟩:=h
  rfl
 ·obtain⟨p,B,st,a,b,rfl,S,hl1,hl2,k⟩:=h
  have hu:=cH hr
  refine⟨_,ag (dz (i:=3) iF.nd rfl (Or.inl rfl) (CI (cK (pv 0) rfl) (pv 1) gD ⟨rfl,rfl,rfl,rfl⟩)) (
   ah (ja hu (pv 3) (pv 2) gC rfl)),?_⟩
  refine⟨_,rfl,p,c.C,B.dx,_,_,rfl,S.ob,U.cl,U.nC,DQ _,B.c,rfl,.inl ⟨_,.inl S.c⟩,_,rfl,fun l hl=>?_⟩;have s1:ay H (upd H l (.dK [])):=aj hl;have S1:=S.mono s1;have ap:=S.apart;have lenc:B.cs.length=st.circ.length:=Paired.length S.cs
  have lc:(dD B.cs st.circ).length<sizeLine:=by rw[uk lenc];exact Nat.lt_of_lt_of_le hl1 (by decide)
  have np:=S.pne;simp only[HA.fp,List.mem_cons,not_or]at np;refine⟨_,Sum.inl a,S1.c,rfl,lc,fun v hv=>?_,fun hv=>?_⟩
  ·rcases iz a S1.cs with ⟨h1,h2,h3⟩ | ⟨ad,h1,h2,h3,h4⟩
   ·rw[h1]at hv;cases hv
   ·rw[h2]at hv
    cases hv
    have lk:(qv (cD st.circ a)).length<sizeLine:=by
     have e:∀ ci:List (Int×List Int),(∀ x∈ci,x.2.length<2000)->(cD ci a).length<2000:=by
      intro ci
      induction ci with
      | nil=>intro _;show 0<2000;decide
      | cons x r ih =>
       intro h;unfold cD;split
       ·exact h x List.mem_cons_self
       ·exact ih fun y hy=>h y (List.mem_cons_of_mem _ hy)
     unfold qv;rw[List.length_map];exact Nat.lt_of_lt_of_le (e _ hl2) (by decide)
    refine⟨_,rfl,_,rfl,ad,_,rfl,mi.k (k:=Sum.inl b) h3 lk,?_⟩;rw[zR]
    have adfp:ad∈B.fp:=by simp[HA.fp,h1]
    have nn:∀ x,x∉B.cs->x≠ad:=fun x hx z=>hx (by rw[z];exact h1);obtain⟨q1,q2⟩:=h4 b (upd (upd H l (.dK [])) ad (.dK (qv (eQ (cD st.circ a) b)))) ap.cs (fun x _ hx o e=>by rw[af hx];exact e) ae;refine k _ ⟨B,⟨by rw[af (nn _ np.2.2.2.2)];exact S1.ob,S.nd,by rw[af (nn _ ap.w)];exact S1.w,by rw[af (nn _ ap.h)];exact S1.h,by rw[af (nn _ ap.c),S1.c,q2],q1,?_⟩,(yi hl).on (gz adfp),fun x hx=>.inl hx,(Tr.refl.upd _ _).upd _ _⟩;obtain⟨as,hd,hp⟩:=S1.d;refine⟨as,by rw[af (nn _ ap.d)];exact hd,Paired.mapP hp fun t x e=>?_⟩;obtain⟨xs,ex⟩:=dE x;rw[af (fun z=>S1.tup (xs:=xs) (by rw[<-ex];exact e) (by rw[z];exact adfp))];exact e
  ·rcases iz a S1.cs with ⟨h1,h2,h3⟩ | ⟨ad,h1,h2,h3,h4⟩
   ·have lB:l∉B.fp:=fun z=>by obtain⟨o,e⟩:=S.tracked z;rw[hl]at e;cases e
    have lB':=lB;simp only[HA.fp,List.mem_cons,not_or]at lB';obtain⟨l1,l2,l3,l4,l5⟩:=lB';refine⟨_,rfl,_,rfl,l,_,rfl,mi.k (k:=Sum.inl b) (by rw[af l3];exact ae) (by show 0<sizeLine;decide),?_⟩;rw[show fH [] (Sum.inl b:cm) (V.bl true)=qv [b] from rfl,CT _ hv]
    have e1:∀ x o,H x=some o->x≠B.c->x≠l->(upd (upd (upd H l (.dK [])) B.c (.dK (dD B.cs st.circ++[(Sum.inl a,V.ref l)]))) l (.dK (qv [b]))) x=some o:=fun x o e hx hy=>by
     rw[af hy,af hx,af hy];exact e
    have nl:∀ x o,H x=some o->x≠l:=fun x o e=>ak e hl;refine k _ ⟨⟨B.dx,B.w,B.h,B.c,B.d,B.cs++[l]⟩,⟨?_,?_,e1 _ _ S.w ap.wc (nl _ _ S.w),e1 _ _ S.h ap.hc (nl _ _ S.h),?_,?_,?_⟩,?_,fun x hx=>?_,((Tr.refl.upd _ _).upd _ _).upd _ _⟩
    ·exact e1 _ _ S.ob np.2.2.1 (nl _ _ S.ob)
    ·refine zg.fp ⟨ap.wh,ap.wc,ap.wd,ap.hc,ap.hd,ap.cd,?_,?_,?_,?_,?_⟩
     ·simp[ap.w,Ne.symm l1]
     ·simp[ap.h,Ne.symm l2]
     ·simp[ap.c,Ne.symm l3]
     ·simp[ap.d,Ne.symm l4]
     ·exact qw ap.cs l5
    ·show (upd (upd (upd H l (.dK [])) B.c (.dK (dD B.cs st.circ++[(Sum.inl a,V.ref l)]))) l (.dK (qv [b]))) B.c=some (.dK (dD (B.cs++[l]) (bY st.circ a b)))
     rw[af (Ne.symm l3),ae,h3 b,qV a [b] l lenc]
    ·show G3 _ (B.cs++[l]) (bY st.circ a b)
     rw[h3 b];exact aI (mH S.cs fun x hx o e=>e1 x o e (fun z=>ap.c (by rw[<-z];exact hx)) (nl x o e)) (.cons ae .nil)
    ·obtain⟨as,hd,hp⟩:=S.d
     refine⟨as,e1 _ _ hd (Ne.symm ap.cd) (nl _ _ hd),Paired.mapP hp fun t x e=>?_⟩;obtain⟨xs,ex⟩:=dE x;exact e1 t _ e (fun z=>S.tup (xs:=xs) (by rw[<-ex];exact e) (by rw[z];exact EF)) (nl t _ e)
    ·intro x o e hx
     exact e1 x o e (fun z=>hx (by rw[z];exact EF)) (nl x o e)
    ·simp only[HA.fp,List.mem_cons,List.mem_append]at hx ⊢
     rcases hx with hx | hx | hx | hx | hx | hx | hx
     ·exact .inl (.inl hx)
     ·exact .inl (.inr (.inl hx))
     ·exact .inl (.inr (.inr (.inl hx)))
     ·exact .inl (.inr (.inr (.inr (.inl hx))))
     ·exact .inl (.inr (.inr (.inr (.inr hx))))
     ·exact .inr (by rw[hx];exact hl)
     ·cases hx
   ·rw[h2]at hv;cases hv
theorem rL (F:dv K "inside" "Hall.inside" gK f fd) : bb P w K mg base cL 1 f fd ["self","guest"] (ny c.C):=by
 refine F.ok sd (fun vs H Q E h=>?_) (fun cdv A outer s H vs Q E hr h=>?_)
 ·obtain⟨p,B,st,g,rfl,_⟩:=h
  rfl
 ·obtain⟨p,B,st,g,rfl,S,k⟩:=h
  have hu:=cH hr;refine⟨_,ah (az (yM (oQ hu (pv 1) (cK (pv 0) rfl)))),?_⟩
  have g1:da H B.w (.int g) ((look st.worn g).map V.int):=by rw[<-dP];exact da.k (k:=Sum.inl g) S.w
  refine⟨_,rfl,_,rfl,p,c.C,B.dx,_,_,rfl,S.ob,U.cl,U.nW,yd _,B.w,_,rfl,g1,?_⟩;rw[Option.isSome_map];exact k
theorem rK (F:dv K "guests" "Hall.guests" gJ f fd) : bb P w K mg base cL 1 f fd ["self"] (kj c.C):=by
 refine F.ok r9 (fun vs H Q E h=>?_) (fun cdv A outer s H vs Q E hr h=>?_)
 ·obtain⟨p,B,st,rfl,_⟩:=h
  rfl
 ·obtain⟨p,B,st,rfl,S,hl,k⟩:=h
  refine⟨_,ah (az (bu (eC rfl) (by rfl) T.sorted PyProof.Rows.boot_sorted (av (cK (pv 0) rfl) aJ))),?_⟩;refine⟨_,rfl,p,c.C,B.dx,_,_,rfl,S.ob,U.cl,U.nW,yd _,B.w,_,aq st.worn,rfl,S.w,?_,by unfold aq;rw[List.length_map];exact hl,k⟩;unfold dk aq;rw[List.map_map,List.map_map];rfl
theorem tE (F:dv K "wears" "Hall.wears" ip f fd)(NG:jR P w K mg base c) : bb P w K mg base (jD P w) 3 f fd ["self","guest"] (ji c):=by
 refine F.okX tL (fun vs H Q E h=>?_) (fun cdv A outer s H vs Q E hr h=>?_)
 ·obtain⟨p,B,st,g,rfl,_⟩:=h
  rfl
 ·obtain⟨p,B,st,g,rfl,S,hg,k⟩:=h
  have hu:=cH hr
  refine⟨_,ag (be (ie (oR hu (pv 1) (cK (pv 0) rfl))) (ah (rX NG U hr dF rfl hr.hd rfl (pv 1))) aK) (
   ah (az (i7 hu (cK (pv 0) rfl) (pv 1) (fun _ _=>rfl)))),?_⟩
  have g1:da H B.w (.int g) ((look st.worn g).map V.int):=by rw[<-dP];exact da.k (k:=Sum.inl g) S.w
  refine⟨_,rfl,_,rfl,p,c.C,B.dx,_,_,rfl,S.ob,U.cl,U.nW,yd _,B.w,_,rfl,g1,_,rfl,?_⟩
  cases e:look st.worn g with
  | none =>
   rw[e]at k;exact bV ⟨_,rfl,g,rfl,hg,fun dx hdx=>k dx _ (aj hdx) ae⟩
  | some m =>
   rw[e]at k;refine a7 ⟨_,rfl,p,c.C,B.dx,_,_,rfl,S.ob,U.cl,U.nW,yd _,_,rfl,B.w,_,rfl,(by rw[e]at g1;exact g1),k⟩
theorem rN (F:dv K "wearer" "Hall.wearer" gM f fd)(NG:jR P w K mg base c) : bb P w K mg base (jD P w) 3 f fd ["self","mask"] (sG c):=by
 refine F.okX sf (fun vs H Q E h=>?_) (fun cdv A outer s H vs Q E hr h=>?_)
 ·obtain⟨p,B,st,g,rfl,_⟩:=h
  rfl
 ·obtain⟨p,B,st,g,rfl,S,hg,k⟩:=h
  have hu:=cH hr
  refine⟨_,ag (be (ie (oR hu (pv 1) (cK (pv 0) rfl))) (ah (rX NG U hr dF rfl hr.hd rfl (pv 1))) aK) (
   ah (az (i7 hu (cK (pv 0) rfl) (pv 1) (fun _ _=>rfl)))),?_⟩
  have g1:da H B.h (.int g) ((look st.hold g).map V.int):=by rw[<-dP];exact da.k (k:=Sum.inl g) S.h
  refine⟨_,rfl,_,rfl,p,c.C,B.dx,_,_,rfl,S.ob,U.cl,U.nH,DR _,B.h,_,rfl,g1,_,rfl,?_⟩
  cases e:look st.hold g with
  | none =>
   rw[e]at k;exact bV ⟨_,rfl,g,rfl,hg,fun dx hdx=>k dx _ (aj hdx) ae⟩
  | some m =>
   rw[e]at k;refine a7 ⟨_,rfl,p,c.C,B.dx,_,_,rfl,S.ob,U.cl,U.nH,DR _,_,rfl,B.h,_,rfl,(by rw[e]at g1;exact g1),k⟩
theorem xj (F:dv K "met" "Hall.met" km f fd) : bb P w K mg base cL 1 f fd ["self","one","other"] (zX c.C):=by
 refine F.ok xB (fun vs H Q E h=>?_) (fun cdv A outer s H vs Q E hr h=>?_)
 ·obtain⟨p,B,st,a,b,rfl,_⟩:=h
  rfl
 ·obtain⟨p,B,st,a,b,rfl,S,k⟩:=h
  have hu:=cH hr;refine⟨_,ah (az (yM (oQ hu (pv 2) (xx hu (cK (pv 0) rfl) (pv 1) gD ⟨rfl,rfl,rfl,rfl⟩)))),?_⟩;refine⟨_,rfl,_,rfl,p,c.C,B.dx,_,_,rfl,S.ob,U.cl,U.nC,DQ _,B.c,rfl,.inl ⟨_,.inl S.c⟩,_,rfl,fun l hl=>?_⟩;have s1:ay H (upd H l (.dK [])):=aj hl;have S1:=S.mono s1;refine⟨_,da.k (k:=Sum.inl a) S1.c,?_⟩;rcases iz a S1.cs with ⟨h1,h2,h3⟩ | ⟨ad,h1,h2,h3,h4⟩
  ·rw[h1]
   refine⟨l,_,rfl,da.k (k:=Sum.inl b) ae,?_⟩;have:=k _ s1;unfold cC at this;rw[h2]at this;exact this
  ·rw[h2]
   refine⟨ad,_,rfl,da.k (k:=Sum.inl b) h3,?_⟩;rw[Ag];exact k _ s1
theorem oM (F:dv K "partners" "Hall.partners" fk f fd) : bb P w K mg base cL 1 f fd ["self","guest"] (gH c.C):=by
 refine F.ok oX (fun vs H Q E h=>?_) (fun cdv A outer s H vs Q E hr h=>?_)
 ·obtain⟨p,B,st,g,rfl,_⟩:=h
  rfl
 ·obtain⟨p,B,st,a,rfl,S,h64,k⟩:=h
  have hu:=cH hr;refine⟨_,ah (az (bu (eC rfl) (by rfl) T.sorted PyProof.Rows.boot_sorted (av (xx hu (cK (pv 0) rfl) (pv 1) gD ⟨rfl,rfl,rfl,rfl⟩) aJ))),?_⟩;refine⟨_,rfl,p,c.C,B.dx,_,_,rfl,S.ob,U.cl,U.nC,DQ _,B.c,rfl,.inl ⟨_,.inl S.c⟩,_,rfl,fun l hl=>?_⟩;have s1:ay H (upd H l (.dK [])):=aj hl;have S1:=S.mono s1;refine⟨_,da.k (k:=Sum.inl a) S1.c,?_⟩;rcases iz a S1.cs with ⟨h1,h2,h3⟩ | ⟨ad,h1,h2,h3,h4⟩
  ·rw[h1]
   refine⟨l,[],[],rfl,ae,rfl,by decide,fun l2 hl2=>?_⟩;refine k l2 _ (s1.free hl2) (s1.trans (aj hl2)) ?_;rw[h2,ae]
  ·rw[h2]
   refine⟨ad,_,cD st.circ a,rfl,h3,by unfold qv;rw[List.map_map];rfl,h64,fun l2 hl2=>?_⟩;exact k l2 _ (s1.free hl2) (s1.trans (aj hl2)) ae
theorem tz (F:dv K "pairs" "Hall.pairs" fB f fd)(bB:aP P w K mg base cL c.C "partners" 1 ["self","guest"] (gH c.C)) : bb P w K mg base cL 2 f fd ["self"] (sy c.C):=by
 refine F.ok tI (fun vs H Q E h=>?_) (fun cdv A outer s H vs Q E hr h=>?_)
 ·obtain⟨p,B,st,L,rfl,_⟩:=h
  rfl
 ·obtain⟨p,B,st,L,rfl,S,ci,hL,hP,k⟩:=h
  have hu:=cH hr
  have two:(2:Nat)<=sizeLine:=by decide
  have nQ:(bx B).lookup ("partners" : Str)=none:=om B (by decide +kernel);have kk:=ci.kk;refine⟨_,ah (az (CF (so:=am fB) (N:=mX) (N':=["one","other","self"]) (src:=[none,none,some 0]) rfl rfl vU rfl (bq (bu (eC rfl) (by rfl) T.sorted PyProof.Rows.boot_sorted (dX (cK (pv 0) rfl)))) (fun cl C s2 H2 ex=>⟨i8 0 (show (["one","other","self"]:List Str).Nodup by decide +kernel),c7,CM K (c6 bB (pv 2) U.cl hr.m dY (dX (pv 0))),i8 1 (show (["one","other","self"]:List Str).Nodup by decide +kernel),kO (aG xu (pv 0) (pv 1) (aQ _)),bp (c9 (pv 0) (pv 1))⟩))),?_⟩
  have ck:(dD B.cs st.circ).map (·.1)=(st.circ.map (·.1)).map Sum.inl:=by
   have:=S.cs;generalize B.cs=cs at this;generalize st.circ=xs at this
   induction this with
   | nil=>rfl
   | cons _ _ ih=>simp only[dD,List.map_cons];rw[ih]
  refine⟨_,rfl,p,c.C,B.dx,_,_,rfl,S.ob,U.cl,U.nC,DQ _,B.c,_,st.circ.map (·.1),rfl,S.c,ck,by rw[List.length_map];omega,fun lo hlo=>?_⟩;have s1:=aj (o:=.lst ((aZ (st.circ.map (·.1))).map V.int)) hlo;have ho1:upd H lo (.lst ((aZ (st.circ.map (·.1))).map V.int)) lo=some (.lst ((aZ (st.circ.map (·.1))).map V.int)):=ae;generalize upd H lo (.lst ((aZ (st.circ.map (·.1))).map V.int))=H1 at s1 ho1 ⊢;refine⟨lo,rfl,⟨_,aW.of ho1⟩,fun l hl=>?_⟩;generalize hks:aZ (st.circ.map (·.1))=ks at ho1 ⊢
  have kl:ks.length<=L.length:=by rw[<-hks,iA,List.length_map];exact kk
  have pl:∀ i,((ks.take i).flatMap (dR st.circ)).length<=1000:=fun i=>by
   have e:eF st.circ=(ks.take i++ks.drop i).flatMap (dR st.circ):=by rw[List.take_append_drop];unfold eF;rw[hks]
   rw[e,List.flatMap_append,List.length_append]at hP;omega
  refine bd (K:=K) (a:=lo) (xs:=ks.map V.int) (fun i σ H2=>∃ u v:Option V,σ=[u,v,some (.ref p)]/\ay H1 H2/\cp H2 l ((ks.take i).flatMap (dR st.circ)))
   ⟨none,none,rfl,aj hl,⟨[],ae,.nil⟩⟩ (fun i σ H2 _ ⟨_,_,_,s2,_⟩=>aW.of (s2 _ _ ho1)) ?_ ?_
  ·rintro i y σ H2 hi ⟨u,v,rfl,s2,row⟩
   obtain⟨a,ha,rfl⟩:=bo hi;have S2:=(S.mono s1).mono s2
   have ec:(ks.take (i+1)).flatMap (dR st.circ)=(ks.take i).flatMap (dR st.circ)++dR st.circ a:=by rw[List.take_add_one,ha,Option.toList_some,List.flatMap_append,List.flatMap_singleton]
   have pl2:=pl (i+1);rw[ec,List.length_append]at pl2;refine Dk ⟨_,rfl,p,B.dx,_,rfl,S2.ob,nQ,_,rfl,p,B,st,a,rfl,S2,Nat.lt_of_le_of_lt (ci.cl a) hL,fun lm H3 hlm s3 hm3=>⟨lm,rfl,⟨_,aW.of hm3⟩,?_⟩⟩;have row3:=row.mono s3;generalize hms:aZ (cD st.circ a)=ms at hm3
   have mE:dR st.circ a=(ms.filter fun b=>decide (a<b)).map fun b=>(a,b):=by unfold dR;rw[hms]
   refine bd (K:=K) (a:=lm) (xs:=ms.map V.int) (fun j σ H4=>∃ v:Option V,σ=[some (.int a),v,some (.ref p)]/\(∀ b o,H3 b=some o->b≠l->H4 b=some o)/\cp H4 l ((ks.take i).flatMap (dR st.circ)++((ms.take j).filter fun b=>decide (a<b)).map fun b=>(a,b)))
    ⟨_,rfl,fun b o e _=>e,by simpa using row3⟩ (fun j σ H4 _ ⟨_,_,s4,_⟩=>aW.of (s4 _ _ hm3 ?_)) ?_ ?_
   ·obtain⟨as,hl3,_⟩:=row
    exact fun z=>by rw[<-z]at hl3;rw[hlm]at hl3;cases hl3
   ·rintro j y σ H4 hj ⟨v,rfl,s4,row4⟩
    obtain⟨b,hb,rfl⟩:=bo hj
    have et:(ms.take (j+1))=ms.take j++[b]:=by rw[List.take_add_one,hb,Option.toList_some]
    have le:((ms.take j).filter fun b=>decide (a<b)).length<=(dR st.circ a).length:=by
     rw[mE,List.length_map];exact (List.Sublist.filter _ (List.take_sublist j ms)).length_le
    refine pj ⟨_,rfl,_,rfl,_,_,rfl,rfl,_,rfl,?_⟩
    by_cases hab:a<b
    ·rw[decide_eq_true hab]
     obtain⟨as,hl4,hp4⟩:=row4;have lq:=Paired.length hp4;refine bV ⟨_,rfl,_,rfl,two,fun t ht=>⟨_,by rw[af (ak hl4 ht)];exact hl4,?_,?_⟩⟩
     ·rw[List.length_map,lq,List.length_append,List.length_map]
      exact aD (by omega)
     ·have tl:t≠l:=Ne.symm (ak hl4 ht)
      refine⟨_,rfl,fun x o e n=>by rw[af n,af (ak (s4 x o e n) ht)];exact s4 x o e n,as++[t],by rw[ae,List.map_append];rfl,?_⟩;rw[et,List.filter_append,List.map_append,<-List.append_assoc];refine aI (Paired.mapP hp4 fun x q e=>?_) ?_
      ·rw[af (bz e hl4 (by intro z;cases z)),af (ak e ht)];exact e
      ·rw[List.filter_cons_of_pos (by simpa using hab)]
       exact .cons (by rw[af tl,ae]) .nil
    ·rw[decide_eq_false hab]
     refine a7 ⟨_,rfl,s4,?_⟩;rw[et,List.filter_append,List.filter_cons_of_neg (by simpa using hab)];simpa using row4
   ·rintro σ H4 ⟨v,rfl,s4,row4⟩
    rw[List.length_map,List.take_length]at row4;refine⟨_,_,rfl,fun x o e=>s4 x o ((s2.trans s3) x o e) (ak e hl),?_⟩;rw[ec,mE];exact row4
  ·rintro σ H2 ⟨u,v,rfl,s2,row⟩
   rw[List.length_map,List.take_length]at row;refine k l H2 (s1.free hl) (s1.trans s2) ?_;unfold eF;rw[hks];exact row
theorem tD (F:dv K "story" "Hall.story" io f fd) : bb P w K mg base cL 1 f fd ["self"] (vO c.C):=by
 refine F.ok tK (fun vs H Q E h=>?_) (fun cdv A outer s H vs Q E hr h=>?_)
 ·obtain⟨p,B,st,rfl,_⟩:=h
  rfl
 ·obtain⟨p,B,st,rfl,S,k⟩:=h
  refine⟨_,ah (az (A7 uK (by rfl) T.list PyProof.Rows.boot_list (av (cK (pv 0) rfl) aJ))),?_⟩;obtain⟨as,hd,hp⟩:=S.d;refine⟨_,rfl,p,c.C,B.dx,_,_,rfl,S.ob,U.cl,U.nD,B0 _,B.d,_,rfl,.inl (aW.of hd),fun l hl=>?_⟩;exact k l _ hl (aj hl) ⟨as,ae,Paired.mapP hp fun b y e=>(aj hl) _ _ e⟩
theorem rM (F:dv K "moment" "Hall.moment" gL f fd) : bb P w K mg base cL 1 f fd ["self"] (sE c.C):=by
 refine F.ok se (fun vs H Q E h=>?_) (fun cdv A outer s H vs Q E hr h=>?_)
 ·obtain⟨p,B,st,rfl,_⟩:=h
  rfl
 ·obtain⟨p,B,st,rfl,S,k⟩:=h
  refine⟨_,ah (az (bu bZ (by rfl) T.len PySem.boot_len (av (cK (pv 0) rfl) aJ))),?_⟩;obtain⟨as,hd,hp⟩:=S.d;refine⟨_,rfl,p,c.C,B.dx,_,_,rfl,S.ob,U.cl,U.nD,B0 _,B.d,_,rfl,.inl (aW.of hd),?_⟩;rw[List.length_map,Paired.length hp];exact k
theorem rO (F:dv K "_law_cell_at" "_law_cell_at" gO f fd) : bb P w K mg base cL 1 f fd ["_law_script","_law_k"] (sv K):=by
 refine F.ok si (fun vs H Q E h=>?_) (fun cdv A outer s H vs Q E hr h=>?_)
 ·obtain⟨a,ns,k,rfl,_⟩:=h
  rfl
 ·obtain⟨a,ns,i,rfl,hS,hi,k⟩:=h
  refine⟨_,ag (be (aG xu (pv 1) (bu bZ (by rfl) T.len PySem.boot_len (av (pv 0) aJ)) (aQ _)) (ah (az (bv fu (pv 0) (pv 1) (fun _ _=>rfl)))) aK) (ah (az ao)),?_⟩;refine⟨_,rfl,_,rfl,a,_,rfl,.inl hS,_,_,rfl,rfl,_,rfl,?_⟩;unfold dQ at k;rw[List.length_map]
  by_cases hc:i<(ns.length:Int)
  ·rw[if_pos hc]at k
   rw[decide_eq_true hc];refine bV ⟨_,rfl,_,rfl,a,_,_,_,rfl,rfl,hS,?_,k⟩;have e:i=((i.toNat:Nat):Int):=(Int.toNat_of_nonneg hi).symm
   have hl:i.toNat<ns.length:=by omega
   rw[e];refine fT ?_;rw[List.getElem?_map,List.getD_eq_getElem?_getD,Int.toNat_natCast,List.getElem?_eq_getElem hl];rfl
  ·rw[if_neg hc]at k
   rw[decide_eq_false hc];exact a7 k
theorem vp (F:dv K "_law_whole" "_law_whole" js f fd) : bb P w K mg base cL 1 f fd ["_law_found"] vP:=by
 refine F.ok vC (fun vs H Q E h=>?_) (fun cdv A outer s H vs Q E hr h=>?_)
 ·obtain⟨i,rfl,_⟩:=h
  rfl
 ·obtain⟨i,rfl,k⟩:=h
  refine⟨_,ah (az (CC (bu mG (by rfl) T.isinstance PyProof.Rows.boot_isinstance (av (pv 0) (av (qx (v:=.ty "int") (by rfl) T.int PyProof.Rows.boot_int rfl) aJ))) (CL (Fo (bu mG (by rfl) T.isinstance PyProof.Rows.boot_isinstance (av (pv 0) (av (qx (v:=.ty "bool") (by rfl) T.bool PyProof.Rows.boot_bool rfl) aJ))))))),?_⟩;refine⟨_,rfl,_,_,_,true,rfl,jS.int i,rfl,_,rfl,bV ?_⟩;exact⟨_,rfl,_,_,_,false,rfl,jS.int i,rfl,_,rfl,k⟩
theorem xo (F:dv K "_law_size" "_law_size" kA f fd) : bb P w K mg base cL 1 f fd ["_law_cell"] vN:=by
 refine F.ok xD (fun vs H Q E h=>?_) (fun cdv A outer s H vs Q E hr h=>?_)
 ·obtain⟨c,rfl,_⟩:=h
  rfl
 ·obtain⟨c,rfl,k⟩:=h
  refine⟨_,ag (be (aG xu (pv 0) ao (aQ _)) (ah (az (rZ md (pv 0)))) aK) (ah (az (pv 0))),?_⟩;refine⟨_,rfl,_,_,rfl,rfl,_,rfl,?_⟩;unfold gu at k
  by_cases hc:c<0
  ·rw[if_pos hc]at k
   rw[decide_eq_true hc];exact bV ⟨_,rfl,_,rfl,k⟩
  ·rw[if_neg hc]at k
   rw[decide_eq_false hc];exact a7 ⟨_,rfl,k⟩
theorem vm (F:dv K "_law_draws" "_law_draws" jo f fd)(eX:au P w K mg base "_law_size" 1 ["_law_cell"] vN) : bb P w K mg base cL 2 f fd ["_law_cell","_law_many","_law_base"] vI:=by
 refine F.ok bI (fun vs H Q E h=>?_) (fun cdv A outer s H vs Q E hr h=>?_)
 ·obtain⟨c,m,b,rfl,_⟩:=h
  rfl
 ·obtain⟨c,m,b,rfl,⟨m0,m1⟩,⟨b0,b1⟩,k⟩:=h
  refine⟨_,ag (dz (i:=3) bI.nd rfl (Or.inl rfl) (aO eX hr rfl (av (pv 0) aJ)))
   (ag (dz (i:=4) bI.nd rfl (Or.inl rfl) (dS aJ))
   (ag (be (aG Gs (pv 3) (aS Cu ao ao) (aQ _))
    (ag (dz (i:=3) bI.nd rfl (Or.inl rfl) (aS Cv (pv 3) (aS Cu ao ao)))
    (ag (dz (i:=5) bI.nd rfl (Or.inl rfl) (aS cB (pv 3) (aS e9 (pv 1) ao)))
    (ag (dz (i:=3) bI.nd rfl (Or.inl rfl) (aS gY (pv 3) (aS e9 (pv 1) ao)))
    (ag (df PassesOwn.never rfl (kN rfl T.range (av (pv 5) aJ)) (kM (i:=6) bI.nd rfl (Or.inl rfl))
     (ag (aT (dZ PySem.F.plainAttrs_list PySem.F.slot_list_append PySem.F.type_list_append bM (pv 4) (av (aS cB (pv 3) (pv 2)) aJ)))
     (ah (dz (i:=3) bI.nd rfl (Or.inl rfl) (aS gY (pv 3) (pv 2))))))
    (ah (az (pv 4)))))))
    aK)
   (ag (dz (i:=7) bI.nd rfl (Or.inl rfl) (aS e9 (aS cB (pv 3) ao) ao))
   (ag (df PassesOwn.never rfl (kN rfl T.range (av (aS cB (pv 3) (aS e9 (pv 1) ao)) aJ)) (kM (i:=6) bI.nd rfl (Or.inl rfl))
     (ag (dz (i:=7) bI.nd rfl (Or.inl rfl) (aS cB (aS rW (pv 7) ao) ao))
     (ah (aT (dZ PySem.F.plainAttrs_list PySem.F.slot_list_append PySem.F.type_list_append bM (pv 4) (av (aS cB (aS gY (aS cB (aS rW (pv 7) ao) ao) ao) (pv 2)) aJ))))))
   (ah (az (pv 4))))))),?_⟩
  refine⟨_,rfl,_,rfl,by show 0<=sizeLine;exact Nat.zero_le _,fun l hl=>?_⟩
  have big:(10:Int) ^ (18:Int).toNat=1000000000000000000:=by decide
  have room:∀ ds:List Int,(ds.length:Int)<=1000->(ds.map V.int).length<sizeLine:=fun ds h=>by rw[List.length_map];exact aD (by omega)
  have app:∀ (ds:List Int)(z:Int),upd (upd H l (.lst (ds.map V.int))) l (.lst (ds.map V.int++[V.int z]))=upd H l (.lst ((ds++[z]).map V.int)):=fun ds z=>by rw[Af,List.map_append];rfl
  have inb:∀ (ds:List Int)(z:Int),(∀ d∈ds,0<=d/\d<b)->∀ d∈ds++[z%b],0<=d/\d<b:=fun ds z h d hd=>by
   rcases List.mem_append.mp hd with hd | hd
   ·exact h d hd
   ·rw[List.mem_singleton.mp hd];exact⟨Int.emod_nonneg _ (by omega),Int.emod_lt_of_pos _ b0⟩
  refine⟨_,rfl,_,_,rfl,rfl,⟨by decide,by decide,by decide⟩,_,_,rfl,rfl,_,rfl,?_⟩;refine wC (fun _=>?_) (fun _=>?_)
  ·refine⟨_,rfl,_,_,rfl,rfl,⟨by decide,by decide,by decide⟩,_,_,rfl,rfl,?_⟩
   refine⟨_,rfl,_,rfl,_,_,rfl,rfl,_,_,rfl,rfl,by show (0:Int)<m+1;omega,?_⟩;refine⟨_,rfl,_,rfl,_,_,rfl,rfl,_,_,rfl,rfl,⟨by show (0:Int)<m+1;omega,by show m+1<1073741824;omega⟩,?_⟩;have cb:=Int.emod_lt_of_pos (gu c-(10:Int) ^ (18:Int).toNat) (show 0<m+1 by omega);have cn:=Int.emod_nonneg (gu c-(10:Int) ^ (18:Int).toNat) (show m+1≠0 by omega)
   refine⟨_,rfl,_,rfl,by omega,by omega,kH (n:=((gu c-(10:Int) ^ (18:Int).toNat)%(m+1)).toNat) (fun i σ H2=>∃ (z:Int)(v:Option V)(ds:List Int),σ=[some (.int c),some (.int m),some (.int b),some (.int z),some (.ref l),some (.int ((gu c-(10:Int) ^ (18:Int).toNat)%(m+1))),v,none]/\H2=upd H l (.lst (ds.map V.int))/\ds.length=i/\∀ d∈ds,0<=d/\d<b)
    ⟨_,none,[],rfl,rfl,rfl,fun _ z=>nomatch z⟩ ?_ ?_⟩
   ·rintro i σ H2 hi ⟨z,v,ds,rfl,rfl,hlen,hds⟩
    refine⟨_,rfl,.inl ⟨rfl,_,aW.of ae⟩,_,rfl,_,rfl,_,_,rfl,rfl,b0,l,_,_,rfl,rfl,ae,room ds (by omega),?_⟩;refine⟨_,rfl,_,rfl,_,_,rfl,rfl,⟨b0,b1⟩,?_⟩;exact⟨_,_,ds++[z%b],rfl,app ds _,by rw[List.length_append,hlen];rfl,inb ds z hds⟩
   ·rintro σ H2 ⟨z,v,ds,rfl,rfl,hlen,hds⟩
    exact⟨_,rfl,k l ds hl hds (by omega)⟩
  ·refine⟨_,rfl,_,_,rfl,rfl,by show (0:Int)<2147483629;decide,_,_,rfl,rfl,?_⟩
   have cb:=Int.emod_lt_of_pos (gu c) (show 0<m+1 by omega);have cn:=Int.emod_nonneg (gu c) (show m+1≠0 by omega);refine⟨_,rfl,_,rfl,_,_,rfl,rfl,_,_,rfl,rfl,by show (0:Int)<m+1;omega,?_⟩
   refine⟨_,rfl,by omega,by omega,kH (n:=(gu c%(m+1)).toNat) (fun i σ H2=>∃ (z:Int)(v:Option V)(ds:List Int),σ=[some (.int c),some (.int m),some (.int b),some (.int (gu c)),some (.ref l),none,v,some (.int z)]/\H2=upd H l (.lst (ds.map V.int))/\ds.length=i/\∀ d∈ds,0<=d/\d<b)
    ⟨_,none,[],rfl,rfl,rfl,fun _ z=>nomatch z⟩ ?_ ?_⟩
   ·rintro i σ H2 hi ⟨z,v,ds,rfl,rfl,hlen,hds⟩
    refine⟨_,rfl,_,_,rfl,rfl,.inr ⟨by decide,by decide⟩,_,_,rfl,rfl,by show (0:Int)<2147483647;decide,?_⟩;refine⟨_,rfl,.inl ⟨rfl,_,aW.of ae⟩,_,rfl,_,_,rfl,rfl,.inr ⟨by decide,by decide⟩,_,_,rfl,rfl,by show (0:Int)<998244353;decide,_,_,rfl,rfl,⟨by decide,by decide⟩,_,rfl,_,_,rfl,rfl,b0,l,_,_,rfl,rfl,ae,room ds (by omega),?_⟩;exact⟨_,_,ds++[_],rfl,app ds _,by rw[List.length_append,hlen];rfl,inb ds _ hds⟩
   ·rintro σ H2 ⟨z,v,ds,rfl,rfl,hlen,hds⟩
    exact⟨_,rfl,k l ds hl hds (by omega)⟩
theorem mY (F:dv K "_law_draws_from" "_law_draws_from" eK f fd)(jI:au P w K mg base "_law_draws" 2 ["_law_cell","_law_many","_law_base"] vI) : bb P w K mg base cL 3 f fd ["_law_script","_law_start","_law_most","_law_base"] (y6 K):=by
 refine F.ok c8 (fun vs H Q E h=>?_) (fun cdv A outer s H vs Q E hr h=>?_)
 ·obtain⟨a,ns,st,m,b,rfl,_⟩:=h
  rfl
 ·obtain⟨a,ns,st,m,b,rfl,hS,⟨s0,s1⟩,⟨m0,m1⟩,⟨b0,b1⟩,k⟩:=h
  refine⟨_,ag (dz (i:=4) c8.nd rfl (Or.inl rfl) (dS aJ))
   (ag (df PassesOwn.never rfl (bq (dG fZ (pv 0) (eG (pv 1)) (eG ao))) (kM (i:=5) c8.nd rfl (Or.inl rfl))
    (ah (df PassesOwn.never rfl (bq (aO jI hr rfl (av (pv 5) (av ao (av (pv 3) aJ))))) (kM (i:=6) c8.nd rfl (Or.inl rfl))
     (ah (be (aG xu (bu bZ (by rfl) T.len PySem.boot_len (av (pv 4) aJ)) (pv 2) (aQ _))
      (ah (aT (dZ PySem.F.plainAttrs_list PySem.F.slot_list_append PySem.F.type_list_append bM (pv 4) (av (pv 6) aJ)))) aK)))))
   (ah (az (pv 4)))),?_⟩
  refine⟨by show 0<=sizeLine;exact Nat.zero_le _,fun l hl=>?_⟩;have hS':aW K (upd H l (.lst [])) a (ns.map V.int):=(aj hl).seq hS;refine⟨_,rfl,_,rfl,_,rfl,_,rfl,a,_,rfl,hS',fun q hq=>?_⟩
  have hlq:l≠q:=fun e=>by rw[<-e,ae]at hq;cases hq
  have hHq:H q=none:=by rw[af (Ne.symm hlq)]at hq;exact hq
  obtain⟨zs,hzs⟩:∃ zs:List Int,gv (ns.map V.int) (some st) (some 63)=zs.map V.int:=⟨(ns.drop (HT.sIx ns.length 0 (some st))).take (HT.sIx ns.length ns.length (some 63)-HT.sIx ns.length 0 (some st)),by unfold gv;rw[List.length_map,List.map_take,List.map_drop]⟩;rw[hzs]
  refine⟨q,rfl,⟨_,aW.of ae⟩,bd (K:=K) (a:=q) (xs:=zs.map V.int) (fun i σ H2=>∃ (v u:Option V)(ds:List Int),σ=[some (.ref a),some (.int st),some (.int m),some (.int b),some (.ref l),v,u]/\ay H H2/\H2 q=some (.lst (zs.map V.int))/\H2 l=some (.lst (ds.map V.int))/\(∀ d∈ds,0<=d/\d<b)/\(ds.length:Int)<=m)
   ⟨none,none,[],rfl,aY (aj hl) hHq,ae,by rw[af hlq,ae];rfl,(fun _ z=>nomatch z),by simpa using m0⟩ (fun i σ H2 _ ⟨_,_,_,_,_,h,_⟩=>aW.of h) ?_ ?_⟩
  ·rintro i y σ H2 hi ⟨v,u,ds,rfl,s2,hq2,hl2,hds,hlen⟩
   obtain⟨z,_,rfl⟩:=bo hi;refine⟨_,rfl,_,rfl,z,24,b,rfl,⟨by decide,by decide⟩,⟨b0,b1⟩,fun r es hr2 hes hel=>?_⟩;have hrq:q≠r:=ak hq2 hr2;have hrl:l≠r:=ak hl2 hr2
   refine⟨r,rfl,⟨_,aW.of ae⟩,bd (K:=K) (a:=r) (xs:=es.map V.int) (fun i σ H3=>∃ (u:Option V)(ds:List Int),σ=[some (.ref a),some (.int st),some (.int m),some (.int b),some (.ref l),some (.int z),u]/\ay H H3/\H3 q=some (.lst (zs.map V.int))/\H3 r=some (.lst (es.map V.int))/\H3 l=some (.lst (ds.map V.int))/\(∀ d∈ds,0<=d/\d<b)/\(ds.length:Int)<=m)
    ⟨u,ds,rfl,aY s2 (s2.free hr2),by rw[af hrq];exact hq2,ae,by rw[af hrl];exact hl2,hds,hlen⟩ (fun i σ H2 _ ⟨_,_,_,_,_,h,_⟩=>aW.of h) ?_ ?_⟩
   ·rintro i y σ H3 hi ⟨u,ds,rfl,s3,hq3,hr3,hl3,hds,hlen⟩
    obtain⟨d,hd,rfl⟩:=bo hi;refine⟨_,rfl,l,_,rfl,.inl (aW.of hl3),_,rfl,_,_,rfl,rfl,_,rfl,?_⟩;rw[List.length_map];refine wC (fun hc=>?_) (fun _=>?_)
    ·have hc:=of_decide_eq_true hc
     refine⟨_,rfl,.inl ⟨rfl,_,aW.of hl3⟩,_,rfl,l,_,_,rfl,rfl,hl3,by rw[List.length_map];exact aD (by omega),?_⟩;refine⟨_,ds++[d],rfl,aY s3 hl,by rw[af (Ne.symm hlq)];exact hq3,by rw[af (Ne.symm hrl)];exact hr3,by rw[ae,List.map_append];rfl,fun x hx=>?_,by rw[List.length_append];show ((ds.length+1:Nat):Int)<=m;omega⟩;rcases List.mem_append.mp hx with hx | hx
     ·exact hds x hx
     ·rw[List.mem_singleton.mp hx];exact hes d (List.mem_of_getElem? hd)
    ·exact⟨_,ds,rfl,s3,hq3,hr3,hl3,hds,hlen⟩
   ·rintro σ H3 ⟨u,ds,rfl,s3,hq3,hr3,hl3,hds,hlen⟩
    exact⟨_,_,ds,rfl,s3,hq3,hl3,hds,hlen⟩
  ·rintro σ H2 ⟨v,u,ds,rfl,s2,hq2,hl2,hds,hlen⟩
   exact⟨_,rfl,k l H2 ds hl s2 hl2 hds hlen⟩
theorem vn (F:dv K "_law_guest" "_law_guest" jp f fd)(eX:au P w K mg base "_law_size" 1 ["_law_cell"] vN) : bb P w K mg base cL 2 f fd ["_law_k","_law_cell"] nu:=by
 refine F.ok fW (fun vs H Q E h=>?_) (fun cdv A outer s H vs Q E hr h=>?_)
 ·obtain⟨k,c,rfl,_⟩:=h
  rfl
 ·obtain⟨i,c,rfl,⟨i0,i1⟩,k⟩:=h
  refine⟨_,ag (dz (i:=2) fW.nd rfl (Or.inl rfl) (aO eX hr rfl (av (pv 1) aJ)))
   (ag (dz (i:=3) fW.nd rfl (Or.inl rfl) (aS e9 ao (aS cB (aS rW (pv 2) ao) ao)))
   (ag (dz (i:=4) fW.nd rfl (Or.inl rfl) (aS cB (aS e9 (aS rW (pv 0) (pv 3)) (aS Ct (pv 2) ao)) ao))
   (ag (be (aG de (aS cB (pv 2) ao) ao (aQ _)) (ah (az (aS e9 (pv 4) ao))) aK)
   (ah (az (pv 4)))))),?_⟩
  refine⟨_,rfl,_,rfl,?_⟩;refine⟨_,rfl,_,_,rfl,rfl,.inr ⟨by decide,by decide⟩,_,_,rfl,rfl,by show (0:Int)<2147483646;decide,_,_,rfl,rfl,?_⟩;refine⟨_,rfl,_,rfl,_,_,rfl,rfl,.inl ⟨by show (-(2 ^ 64):Int)<i;omega,by show i<(2 ^ 64:Int);omega⟩,_,rfl,_,_,rfl,rfl,⟨by decide,by decide⟩,_,_,rfl,rfl,_,_,rfl,rfl,by show (0:Int)<2147483647;decide,?_⟩;refine⟨_,rfl,_,_,rfl,rfl,by show (0:Int)<5;decide,rfl,_,rfl,?_⟩;unfold dC at k;dsimp only at k
  by_cases hc:gu c%5=4
  ·rw[if_pos hc]at k
   rw[decide_eq_true (show V.int (gu c%5)=V.int 4 by rw[hc])];exact bV ⟨_,rfl,_,_,rfl,rfl,k⟩
  ·rw[if_neg hc]at k
   rw[decide_eq_false (show ¬ V.int (gu c%5)=V.int 4 from fun z=>hc (by injection z))];exact a7 ⟨_,rfl,k⟩
theorem yD (F:dv K "_law_key" "_law_key" lX f fd) : bb P w K mg base cL 1 f fd ["_law_one","_law_other"] zV:=by
 refine F.ok yU (fun vs H Q E h=>?_) (fun cdv A outer s H vs Q E hr h=>?_)
 ·obtain⟨a,b,rfl,_⟩:=h
  rfl
 ·obtain⟨a,b,rfl,k⟩:=h
  refine⟨_,ag (be (aG xu (pv 1) (pv 0) (aQ _)) (ah (az (bp (c9 (pv 1) (pv 0))))) (aK)) (
   ah (az (bp (c9 (pv 0) (pv 1))))),?_⟩
  refine⟨_,rfl,_,rfl,_,_,rfl,rfl,_,rfl,?_⟩;unfold bW at k
  by_cases hc:b<a
  ·rw[if_pos hc]at k
   rw[decide_eq_true hc];exact bV ⟨_,rfl,_,rfl,by show 2<=sizeLine;decide,k⟩
  ·rw[if_neg hc]at k
   rw[decide_eq_false hc];exact a7 ⟨_,rfl,_,rfl,by show 2<=sizeLine;decide,k⟩
theorem yC (F:dv K "_law_due" "_law_due" lW f fd)(gi:au P w K mg base "_law_key" 1 ["_law_one","_law_other"] zV) : bb P w K mg base cL 2 f fd ["_law_worn","_law_met","_law_deed_here"] zU:=by
 refine F.ok sj (fun vs H Q E h=>?_) (fun cdv A outer s H vs Q E hr h=>?_)
 ·obtain⟨w,m,t,wl,ml,d,rfl,_⟩:=h
  rfl
 ·obtain⟨w,m,t,wl,ml,d,rfl,hw,hm,ht0,k⟩:=h
  have hu:=cH hr
  have ht:H t=some (.tup (dw d)):=by rw[<-iO];exact ht0
  have gw:∀ (H2:Hp)(x:Int),ay H H2->da H2 w (.int x) ((look wl x).map V.int):=fun H2 x s2=>by rw[<-dP];exact da.k (k:=Sum.inl x) (s2 _ _ hw)
  have two:(2:Nat)<=sizeLine:=by decide
  refine⟨_,ag (df PassesOwn.never rfl (CN (dG Fx (pv 2) (eG (ao)) fV)) (i8 3 sj.nd) (ah (be (PW.pt (lQ (aG m5 (bv bw (pv 2) (ao) (fun _ _=>rfl)) (a6) (aQ _)) (je (ie (oR hu (pv 3) (pv 0)))))) (ah (az (bp (c9 (a6) (pv 3))))) (aK)))) (
   ag (be (PW.pt (lQ (aG de (bv bw (pv 2) (ao) (fun _ _=>rfl)) (a6) (aQ _)) (je (ie (oQ hu (bv bw (pv 2) (ao) (fun _ _=>rfl)) (pv 0)))))) (ah (az (bp (c9 (a6) (ic))))) (aK)) (
   ag (be (PW.pt (lQ (aG de (bv bw (pv 2) (ao) (fun _ _=>rfl)) (a6) (aQ _)) (je (aG m5 (i7 hu (pv 0) (bv bw (pv 2) (ao) (fun _ _=>rfl)) (fun _ _=>rfl)) (bv bw (pv 2) (ao) (fun _ _=>rfl)) (aQ _))))) (ah (az (bp (c9 (a6) (ic))))) (aK)) (
   ag (be (PW.pt (lQ (aG de (bv bw (pv 2) (ao) (fun _ _=>rfl)) (a6) (aQ _)) (je (aG de (bv bw (pv 2) (ao) (fun _ _=>rfl)) (bv bw (pv 2) (ao) (fun _ _=>rfl)) (aQ _))))) (ah (az (bp (c9 (a6) (ic))))) (aK)) (
   ag (be (PW.pt (lQ (aG de (bv bw (pv 2) (ao) (fun _ _=>rfl)) (a6) (aQ _)) (je (ie (oQ hu (aO gi hr.m rfl (c9 (bv bw (pv 2) (ao) (fun _ _=>rfl)) (bv bw (pv 2) (ao) (fun _ _=>rfl)))) (pv 1)))))) (ah (az (bp (c9 (a6) (ic))))) (aK)) (
   ah (az (bp (c9 (a6) (ic))))))))),?_⟩
  refine⟨_,rfl,_,rfl,t,_,rfl,eP.of ht,DF d,fun q hq=>?_⟩;have s1:ay H (upd H q (.tup (gv (dw d) (some 1) none))):=aj hq
  have hq1:upd H q (.tup (gv (dw d) (some 1) none)) q=some (.tup ((names d).map V.int)):=by rw[ae,BI]
  generalize upd H q (.tup (gv (dw d) (some 1) none))=H1 at s1 hq1
  refine⟨q,rfl,⟨_,eP.of hq1⟩,zA (K:=K) (a:=q) (xs:=(names d).map V.int) (fun i σ H2=>∃ v:Option V,σ=[some (.ref w),some (.ref m),some (.ref t),v]/\H2=H1/\(eR d≠"come"->∀ y∈(names d).take i,(look wl y).isSome=true))
   ⟨none,rfl,rfl,fun _ y hy=>by simp at hy⟩ (fun i σ H2 _ ⟨_,_,e,_⟩=>by rw[e];exact eP.of hq1) ?_ ?_⟩
  ·rintro i y σ H2 hi ⟨v,rfl,rfl,hp⟩
   obtain⟨x,hx,rfl⟩:=bo hi;refine⟨_,rfl,t,_,_,_,rfl,rfl,eP.of (s1 _ _ ht),fT (j:=0) rfl,rfl,_,rfl,?_⟩
   have nxt:(eR d≠"come"->(look wl x).isSome=true)->(eR d≠"come"->∀ y∈(names d).take (i+1),(look wl y).isSome=true):=fun h hc y hy=>by
    rw[Bq hx]at hy;rcases List.mem_append.mp hy with z | z
    ·exact hp hc y z
    ·rw[List.mem_singleton.mp z];exact h hc
   by_cases hc:eR d="come"
   ·rw[decide_eq_true (by rw[hc])]
    exact a7 (a7 ⟨_,rfl,rfl,nxt fun z=>absurd hc z⟩)
   ·rw[decide_eq_false (fun z=>hc (V.str.inj z))]
    refine bV ⟨_,rfl,_,rfl,w,_,rfl,gw _ x s1,_,rfl,?_⟩
    cases e:look wl x with
    | none =>
     refine bV ⟨_,rfl,two,fun r hr2=>?_⟩;refine k r _ (s1.free hr2) (s1.trans (aj hr2)) ?_;rw[ae,B8 hc (hp hc) hx e];rfl
    | some z=>exact a7 ⟨_,rfl,rfl,nxt fun _=>by rw[e];rfl⟩
  ·rintro σ H2 ⟨v,rfl,rfl,hp⟩
   have fin:∀ (o:BA)(H3:Hp)(r:Addr),b9 wl (iY ml) d=o->ay H H3->H3 r=none->Q (.ref r) (upd H3 r (.tup (xv o))):=fun o H3 r e s3 h3=>k r _ (s3.free h3) (s3.trans (aj h3)) (by rw[ae,e]);rw[List.length_map,List.take_length]at hp;have T0:eP K H2 t (dw d):=eP.of (s1 _ _ ht)
   cases d with
   | come g =>
    refine⟨_,rfl,t,_,_,_,rfl,rfl,T0,rfl,rfl,_,rfl,?_⟩;rw[show decide (V.str (eR (.come g))=V.str "come")=true from cc];refine bV ⟨_,rfl,t,_,_,_,rfl,rfl,T0,rfl,_,rfl,w,_,rfl,gw _ g s1,_,rfl,?_⟩
    cases e:look wl g with
    | some z=>exact bV ⟨two,fun r h3=>fin .already _ r (by simp[b9,e]) s1 h3⟩
    | none =>
     refine a7 ⟨_,rfl,t,_,_,_,rfl,rfl,T0,rfl,rfl,_,rfl,?_⟩;rw[show decide (V.str (eR (.come g))=V.str "go")=false from cg];refine a7 (a7 ⟨_,rfl,t,_,_,_,rfl,rfl,T0,rfl,rfl,_,rfl,?_⟩);rw[show decide (V.str (eR (.come g))=V.str "exchange")=false from ce];refine a7 (a7 ⟨_,rfl,t,_,_,_,rfl,rfl,T0,rfl,rfl,_,rfl,?_⟩);rw[show decide (V.str (eR (.come g))=V.str "exchange")=false from ce];exact a7 (a7 ⟨two,fun r h3=>fin .done _ r (by simp[b9,e]) s1 h3⟩)
   | go g =>
    have hg:=hp (by show ("go" : Str)≠"come";decide +kernel) g (by simp[names]);obtain⟨z,e⟩:=Option.isSome_iff_exists.mp hg;refine⟨_,rfl,t,_,_,_,rfl,rfl,T0,rfl,rfl,_,rfl,?_⟩;rw[show decide (V.str (eR (.go g))=V.str "come")=false from gc];refine a7 (a7 ⟨_,rfl,t,_,_,_,rfl,rfl,T0,rfl,rfl,_,rfl,?_⟩);rw[show decide (V.str (eR (.go g))=V.str "go")=true from gg];refine bV ⟨_,rfl,_,rfl,t,_,_,_,rfl,rfl,T0,rfl,w,_,rfl,(by have:=gw H2 g s1;rw[e]at this;exact this),_,rfl,t,_,_,_,rfl,rfl,T0,rfl,rfl,_,rfl,?_⟩
    by_cases hz:z=g
    ·rw[decide_eq_true (by rw[hz])]
     refine a7 ⟨_,rfl,t,_,_,_,rfl,rfl,T0,rfl,rfl,_,rfl,?_⟩;rw[show decide (V.str (eR (.go g))=V.str "exchange")=false from ge];refine a7 (a7 ⟨_,rfl,t,_,_,_,rfl,rfl,T0,rfl,rfl,_,rfl,?_⟩);rw[show decide (V.str (eR (.go g))=V.str "exchange")=false from ge];exact a7 (a7 ⟨two,fun r h3=>fin .done _ r (by simp[b9,e,hz]) s1 h3⟩)
    ·rw[decide_eq_false (fun q=>hz (V.int.inj q))]
     exact bV ⟨two,fun r h3=>fin .masked _ r (by simp[b9,e,hz]) s1 h3⟩
   | exch a b =>
    have ha:=hp (by show ("exchange" : Str)≠"come";decide +kernel) a (by simp[names]);have hb:=hp (by show ("exchange" : Str)≠"come";decide +kernel) b (by simp[names]);obtain⟨za,ea⟩:=Option.isSome_iff_exists.mp ha;obtain⟨zb,eb⟩:=Option.isSome_iff_exists.mp hb;refine⟨_,rfl,t,_,_,_,rfl,rfl,T0,rfl,rfl,_,rfl,?_⟩;rw[show decide (V.str (eR (.exch a b))=V.str "come")=false from ec];refine a7 (a7 ⟨_,rfl,t,_,_,_,rfl,rfl,T0,rfl,rfl,_,rfl,?_⟩);rw[show decide (V.str (eR (.exch a b))=V.str "go")=false from eg];refine a7 (a7 ⟨_,rfl,t,_,_,_,rfl,rfl,T0,rfl,rfl,_,rfl,?_⟩);rw[show decide (V.str (eR (.exch a b))=V.str "exchange")=true from ee];refine bV ⟨_,rfl,t,_,_,_,rfl,rfl,T0,rfl,_,rfl,t,_,_,_,rfl,rfl,T0,rfl,rfl,_,rfl,?_⟩
    by_cases hab:a=b
    ·rw[decide_eq_true (by rw[hab])]
     exact bV ⟨two,fun r h3=>fin .same _ r (by simp[b9,ea,eb,hab]) s1 h3⟩
    ·rw[decide_eq_false (fun q=>hab (V.int.inj q))]
     refine a7 ⟨_,rfl,t,_,_,_,rfl,rfl,T0,rfl,rfl,_,rfl,?_⟩;rw[show decide (V.str (eR (.exch a b))=V.str "exchange")=true from ee];refine bV ⟨_,rfl,t,_,_,_,rfl,rfl,T0,rfl,_,rfl,t,_,_,_,rfl,rfl,T0,rfl,a,b,rfl,fun kt hk=>?_⟩;have s2:=s1.trans (aj (o:=.tup [.int (bW a b).1,.int (bW a b).2]) hk);refine⟨_,rfl,m,_,rfl,da.t (k:=[Sum.inl (bW a b).1,Sum.inl (bW a b).2]) (s2 _ _ hm) ae,_,rfl,?_⟩;rw[D1]
     by_cases hmt:bW a b∈ml
     ·rw[decide_eq_true hmt]
      exact bV ⟨two,fun r h3=>fin .met _ r (by simp[b9,ea,eb,hab,iY,hmt]) s2 h3⟩
     ·rw[decide_eq_false hmt]
      exact a7 ⟨two,fun r h3=>fin .done _ r (by simp[b9,ea,eb,hab,iY,hmt]) s2 h3⟩
theorem vi (F:dv K "_law_after" "_law_after" jm f fd)(gi:au P w K mg base "_law_key" 1 ["_law_one","_law_other"] zV) : bb P w K mg base cL 2 f fd ["_law_worn","_law_met","_law_deed_here"] nj:=by
 refine F.ok ni (fun vs H Q E h=>?_) (fun cdv A outer s H vs Q E hr h=>?_)
 ·obtain⟨w,m,t,wl,ml,d,rfl,_⟩:=h
  rfl
 ·obtain⟨w,m,t,wl,ml,d,rfl,hw,hm,ht0,l1,l2,hj,k⟩:=h
  have hu:=cH hr
  have ht:H t=some (.tup (dw d)):=by rw[<-iO];exact ht0
  have T0:eP K H t (dw d):=eP.of ht;have nwt:t≠w:=bz ht hw (by intro z;cases z);have nwm:m≠w:=bz hm hw (by intro z;cases z);have ntm:t≠m:=bz ht hm (by intro z;cases z)
  have sz:∀ v:List (Int×Int),v.length<=2000->(dk v).length<sizeLine:=fun v h=>by rw[yk];exact Nat.lt_of_le_of_lt h (by decide)
  refine⟨_,ah (be (aG de (bv bw (pv 2) (ao) (fun _ _=>rfl)) (a6) (aQ _)) (ah (ja hu (pv 0) (bv bw (pv 2) (ao) (fun _ _=>rfl)) (bv bw (pv 2) (ao) (fun _ _=>rfl)) rfl)) (ah (be (aG de (bv bw (pv 2) (ao) (fun _ _=>rfl)) (a6) (aQ _)) (ah (aT (rY (pv 0) (bv bw (pv 2) (ao) (fun _ _=>rfl)) ⟨rfl,rfl,rfl,rfl⟩))) (ag (bK 3 ni.nd (i7 hu (pv 0) (bv bw (pv 2) (ao) (fun _ _=>rfl)) (fun _ _=>rfl))) (
   ag (ja hu (pv 0) (bv bw (pv 2) (ao) (fun _ _=>rfl)) (i7 hu (pv 0) (bv bw (pv 2) (ao) (fun _ _=>rfl)) (fun _ _=>rfl)) rfl) (
   ag (ja hu (pv 0) (bv bw (pv 2) (ao) (fun _ _=>rfl)) (pv 3) rfl) (
   ah (ja hu (pv 1) (aO gi hr.m rfl (c9 (bv bw (pv 2) (ao) (fun _ _=>rfl)) (bv bw (pv 2) (ao) (fun _ _=>rfl)))) (gC) rfl)))))))),?_⟩
  cases d with
  | come g =>
   refine⟨_,rfl,t,_,_,_,rfl,rfl,T0,rfl,rfl,_,rfl,?_⟩;rw[show decide (V.str (eR (.come g))=V.str "come")=true from cc];refine bV ⟨_,rfl,t,_,_,_,rfl,rfl,T0,rfl,_,rfl,_,rfl,t,_,_,_,rfl,rfl,T0,rfl,w,_,rfl,mi.k (k:=Sum.inl g) hw (sz _ (by omega)),?_⟩;rw[m8]
   exact k _ ae (by rw[af nwm];exact hm) fun b o e h1 _=>by rw[af h1];exact e
  | go g =>
   refine⟨_,rfl,t,_,_,_,rfl,rfl,T0,rfl,rfl,_,rfl,?_⟩;rw[show decide (V.str (eR (.go g))=V.str "come")=false from gc];refine a7 ⟨_,rfl,t,_,_,_,rfl,rfl,T0,rfl,rfl,_,rfl,?_⟩;rw[show decide (V.str (eR (.go g))=V.str "go")=true from gg]
   obtain⟨z,e⟩:∃ z,look wl g=some z:=by
    cases e:look wl g with
    | none=>simp[b9,e]at hj
    | some z=>exact⟨z,rfl⟩
   refine bV ⟨_,rfl,w,rfl,.inl ⟨_,.inl hw⟩,_,rfl,t,_,_,_,rfl,rfl,T0,rfl,_,Sum.inl g,_,hw,rfl,by rw[dP,e];rfl,?_⟩;rw[rc]
   exact k _ ae (by rw[af nwm];exact hm) fun b o e h1 _=>by rw[af h1];exact e
  | exch a b =>
   refine⟨_,rfl,t,_,_,_,rfl,rfl,T0,rfl,rfl,_,rfl,?_⟩;rw[show decide (V.str (eR (.exch a b))=V.str "come")=false from ec];refine a7 ⟨_,rfl,t,_,_,_,rfl,rfl,T0,rfl,rfl,_,rfl,?_⟩;rw[show decide (V.str (eR (.exch a b))=V.str "go")=false from eg]
   obtain⟨za,ea⟩:∃ z,look wl a=some z:=by
    cases e:look wl a with
    | none=>simp[b9,e]at hj
    | some z=>exact⟨z,rfl⟩
   obtain⟨zb,eb⟩:∃ z,look wl b=some z:=by
    cases e:look wl b with
    | none=>simp[b9,ea,e]at hj
    | some z=>exact⟨z,rfl⟩
   have ga:da H w (.int a) (some (V.int za)):=by have:=da.k (k:=Sum.inl a) hw;rw[dP,ea]at this;exact this
   have gb:da H w (.int b) (some (V.int zb)):=by have:=da.k (k:=Sum.inl b) hw;rw[dP,eb]at this;exact this
   refine a7 ⟨_,rfl,_,rfl,t,_,_,_,rfl,rfl,T0,rfl,w,_,rfl,ga,?_⟩;refine⟨_,rfl,_,rfl,t,_,_,_,rfl,rfl,T0,rfl,w,_,rfl,gb,_,rfl,_,rfl,t,_,_,_,rfl,rfl,T0,rfl,w,_,rfl,mi.k (k:=Sum.inl a) hw (sz _ (by omega)),?_⟩;rw[m8];have lp:=u0 wl a zb;have T1:eP K (upd H w (.dK (dk (put wl a zb)))) t (dw (.exch a b)):=eP.of (by rw[af nwt];exact ht);refine⟨_,rfl,_,rfl,_,rfl,t,_,_,_,rfl,rfl,T1,rfl,w,_,rfl,mi.k (k:=Sum.inl b) ae (sz _ (by omega)),?_⟩;rw[m8,Af];have T2:eP K (upd H w (.dK (dk (put (put wl a zb) b za)))) t (dw (.exch a b)):=eP.of (by rw[af nwt];exact ht);refine⟨_,rfl,_,rfl,t,_,_,_,rfl,rfl,T2,rfl,_,rfl,t,_,_,_,rfl,rfl,T2,rfl,a,b,rfl,fun kt hk=>?_⟩;have hkm:m≠kt:=ak (by rw[af nwm];exact hm) hk;have hkw:w≠kt:=ak ae hk;refine⟨m,_,rfl,mi.t (k:=[Sum.inl (bW a b).1,Sum.inl (bW a b).2]) (by rw[af hkm,af nwm];exact hm) ae (by unfold sX;rw[List.length_map];exact Nat.lt_of_le_of_lt l2 (by decide)),?_⟩;rw[D0]
   have wa:wr wl a=za:=by unfold wr;rw[ea];rfl
   have wb:wr wl b=zb:=by unfold wr;rw[eb];rfl
   refine k _ ?_ ae fun x o e h1 h2=>?_
   ·rw[af (Ne.symm nwm),af hkw,ae]
    show some (HO.dK (dk (put (put wl a zb) b za)))=some (HO.dK (dk (put (put wl a (wr wl b)) b (wr wl a))))
    rw[wa,wb]
   ·have e':upd H w (.dK (dk (put (put wl a zb) b za))) x=some o:=by rw[af h1];exact e
    rw[af h2,af (ak e' hk)];exact e'
theorem xl (F:dv K "_law_deed" "_law_deed" ku f fd)(b5:au P w K mg base "_law_guest" 2 ["_law_k","_law_cell"] nu) : bb P w K mg base cL 3 f fd ["_law_drawn","_law_many","_law_cell"] vH:=by
 refine F.ok pY (fun vs H Q E h=>?_) (fun cdv A outer s H vs Q E hr h=>?_)
 ·obtain⟨dr,m,n,rfl,_⟩:=h
  rfl
 ·obtain⟨dr,m,n,rfl,⟨d0,d1⟩,⟨m0,m1⟩,k⟩:=h
  refine⟨_,ag (bK 3 pY.nd (aO b5 hr.m rfl (c9 (aS cB (aS gY (pv 0) (ao)) (pv 1)) (pv 2)))) (
   ag (be (aG de (aS cB (pv 0) (ao)) (ao) (aQ _)) (ah (az (bp (c9 (a6) (pv 3))))) (aK)) (
   ag (be (aG de (aS cB (pv 0) (ao)) (ao) (aQ _)) (ah (az (bp (c9 (a6) (pv 3))))) (aK)) (
   ah (az (bp (vV (a6) (pv 3) (aO b5 hr.m rfl (c9 (aS cB (aS gY (pv 0) (aS rW (ao) (pv 1))) (pv 1)) (pv 2))))))))),?_⟩
  have em:∀ z:Int,0<=z%m/\z%m<m:=fun z=>⟨Int.emod_nonneg _ (by omega),Int.emod_lt_of_pos _ (by omega)⟩;have a0:=em (dr/8);refine⟨_,rfl,_,_,rfl,rfl,⟨by decide,by decide⟩,_,rfl,_,_,rfl,rfl,by show (0:Int)<m;omega,_,rfl,_,_,rfl,⟨a0.1,by omega⟩,?_⟩;have g0:dC (dr/8%m) n∈a9 40 n:=yc ⟨a0.1,by omega⟩;refine⟨_,rfl,_,_,rfl,rfl,by show (0:Int)<8;decide,rfl,_,rfl,?_⟩;refine wC (fun _=>⟨_,rfl,by show 2<=sizeLine;decide,fun t ht=>k t (.come (dC (dr/8%m) n)) ht fun g hg=>by simp[names]at hg;rw[hg];exact g0⟩) (fun _=>?_);refine⟨_,rfl,_,_,rfl,rfl,by show (0:Int)<8;decide,rfl,_,rfl,?_⟩;refine wC (fun _=>⟨_,rfl,by show 2<=sizeLine;decide,fun t ht=>k t (.go (dC (dr/8%m) n)) ht fun g hg=>by simp[names]at hg;rw[hg];exact g0⟩) (fun _=>?_);have a1:=em (dr/(8*m));have g1:dC (dr/(8*m)%m) n∈a9 40 n:=yc ⟨a1.1,by omega⟩;refine⟨_,rfl,_,rfl,_,rfl,_,_,rfl,rfl,.inl ⟨by decide,by decide⟩,_,_,rfl,rfl,⟨by show (0:Int)<8*m;omega,by show 8*m<1073741824;omega⟩,_,rfl,_,_,rfl,rfl,by show (0:Int)<m;omega,_,rfl,_,_,rfl,⟨a1.1,by omega⟩,by show 3<=sizeLine;decide,fun t ht=>?_⟩
  exact k t (.exch (dC (dr/8%m) n) (dC (dr/(8*m)%m) n)) ht fun g hg=>by
   simp[names]at hg;rcases hg with rfl | rfl
   ·exact g0
   ·exact g1
theorem vj (F:dv K "_law_crowd" "_law_crowd" jn f fd) : bb P w K mg base cL 1 f fd ["_law_cell"] vG:=by
 refine F.ok vB (fun vs H Q E h=>?_) (fun cdv A outer s H vs Q E hr h=>?_)
 ·obtain⟨n,rfl,_⟩:=h
  rfl
 ·obtain⟨n,rfl,k⟩:=h
  refine⟨_,ag (be (aG de (aS cB (aS gY (pv 0) (ao)) (ao)) (ao) (aQ _)) (ah (az (aS e9 (ao) (aS cB (aS gY (pv 0) (ao)) (ao))))) (aK)) (
   ah (az (aS e9 (ao) (aS cB (pv 0) (ao))))),?_⟩
  refine⟨_,rfl,_,_,rfl,rfl,⟨by decide,by decide⟩,_,_,rfl,rfl,by show (0:Int)<8;decide,rfl,_,rfl,?_⟩;refine wC (fun _=>?_) (fun _=>?_)
  ·refine⟨_,rfl,_,_,rfl,rfl,⟨by decide,by decide⟩,_,_,rfl,rfl,by show (0:Int)<28;decide,_,_,rfl,rfl,k _ ?_⟩
   have:=Int.emod_lt_of_pos (n/1408) (show (0:Int)<28 by decide);have:=Int.emod_nonneg (n/1408) (show (28:Int)≠0 by decide);omega
  ·refine⟨_,rfl,_,_,rfl,rfl,by show (0:Int)<11;decide,_,_,rfl,rfl,k _ ?_⟩
   have:=Int.emod_lt_of_pos n (show (0:Int)<11 by decide);have:=Int.emod_nonneg n (show (11:Int)≠0 by decide);omega
theorem vk (F:dv K "_law_deeds" "_law_deeds" eJ f fd)(bh:au P w K mg base "_law_cell_at" 1 ["_law_script","_law_k"] (sv K))(jG:au P w K mg base "_law_crowd" 1 ["_law_cell"] vG)(b5:au P w K mg base "_law_guest" 2 ["_law_k","_law_cell"] nu)(lC:au P w K mg base "_law_deed" 3 ["_law_drawn","_law_many","_law_cell"] vH)(eW:au P w K mg base "_law_draws_from" 3 ["_law_script","_law_start","_law_most","_law_base"] (y6 K)) : bb P w K mg base cL 4 f fd ["_law_script"] (sx K):=by
 refine F.ok eI (fun vs H Q E h=>?_) (fun cdv A outer s H vs Q E hr h=>?_)
 ·obtain⟨a,ns,rfl,_⟩:=h
  rfl
 ·obtain⟨a,ns,rfl,hS,k⟩:=h
  refine⟨_,ag (bK 1 eI.nd (aO bh hr.m rfl (c9 (pv 0) (ao)))) (
   ag (bK 2 eI.nd (aO jG hr.m rfl (dX (aO bh hr.m rfl (c9 (pv 0) (ao)))))) (
   ag (bK 3 eI.nd (aS cB (aS gY (aO bh hr.m rfl (c9 (pv 0) (ao))) (ao)) (ao))) (
   ag (qy (ix:=4) (so:=am eJ) (N:=j6) (N':=["_law_k","_law_first","_law_cell"]) (src:=[none,some 3,some 1]) rfl rfl vU rfl (kN (by rfl) T.range (dX (pv 2))) (fun cl C s2 H2 ex=>⟨i8 0 (show (["_law_k","_law_first","_law_cell"]:List Str).Nodup by decide +kernel),kO (PW.pt (uB (aG Gu (pv 1) (ao) (aQ _)) (oV (aG de (aS cB (pv 0) (ao)) (ao) (aQ _))))),bp (c9 (a6) (aO b5 hr.m rfl (c9 (pv 0) (pv 2))))⟩) eI.nd rfl rfl) (
   ah (az (aS i6 (pv 4) (dq (so:=am eJ) (N:=j6) (N':=["_law_drawn","_law_many","_law_cell"]) (src:=[none,some 2,some 1]) rfl rfl vU rfl (bq (aO eW hr.m rfl (av (pv 0) (av (ao) (av (ao) (av (ao) aJ)))))) (fun cl C s2 H2 ex=>⟨i8 0 (show (["_law_drawn","_law_many","_law_cell"]:List Str).Nodup by decide +kernel),c7,aO lC hr.m rfl (vV (pv 0) (pv 1) (pv 2))⟩)))))))),?_⟩
  refine⟨_,rfl,a,ns,1,rfl,hS,by decide,?_⟩;generalize hcn:dQ ns 1=cn at k ⊢;refine⟨_,rfl,a,ns,0,rfl,hS,by decide,_,rfl,fun m ⟨m0,m1⟩=>?_⟩;refine⟨_,rfl,a,ns,0,rfl,hS,by decide,_,_,rfl,rfl,⟨by decide,by decide⟩,_,_,rfl,rfl,by show (0:Int)<16;decide,?_⟩;refine⟨_,rfl,m,rfl,by omega,by omega,fun l hl=>?_⟩
  refine kH (n:=m.toNat) (fun i σ H2=>∃ (v:Option V)(ds:List aN),σ=[v,some (.int (dQ ns 0/11%16)),some (.int cn)]/\ay H H2/\bg H2 l ds/\(∀ d∈ds,∀ g∈names d,g∈a9 40 cn)/\ds.length<=i/\ds.filter iU=[])
   ⟨none,[],rfl,aj hl,⟨[],ae,.nil⟩,(fun d hd=>nomatch hd),Nat.le_refl _,rfl⟩ ?_ ?_
  ·rintro i σ H2 hi ⟨v,ds,rfl,s2,⟨as,hl2,hp2⟩,hn,hlen,hex⟩
   have hal:=Paired.length hp2
   have app:∀ t,H2 t=none->∃ (v:Option V)(ds:List aN),([some (.int (0+(i:Int))),some (.int (dQ ns 0/11%16)),some (.int cn)]:St)=[v,some (.int (dQ ns 0/11%16)),some (.int cn)]/\ay H (upd (upd H2 t (bN (.come (dC (0+(i:Int)) cn)))) l (.lst (as.map V.ref++[.ref t])))/\bg (upd (upd H2 t (bN (.come (dC (0+(i:Int)) cn)))) l (.lst (as.map V.ref++[.ref t]))) l ds/\(∀ d∈ds,∀ g∈names d,g∈a9 40 cn)/\ds.length<=i+1/\ds.filter iU=[]:=fun t ht=>by
    refine⟨_,ds++[.come (dC (0+(i:Int)) cn)],rfl,aY (s2.trans (aj ht)) hl,iP hl2 hp2 ht _,fun d hd g hg=>?_,by rw[List.length_append];show ds.length+1<=i+1;omega,by rw[List.filter_append,hex];rfl⟩;rcases List.mem_append.mp hd with z | z
    ·exact hn d z g hg
    ·rw[List.mem_singleton.mp z]at hg
     simp[names]at hg;rw[hg];exact yc ⟨by omega,by omega⟩
   refine pj ⟨_,rfl,_,_,rfl,rfl,_,rfl,wC (fun _=>bV ?_) (fun _=>⟨_,rfl,_,_,rfl,rfl,by show (0:Int)<2;decide,rfl,_,rfl,wC (fun _=>?_) (fun _=>?_)⟩)⟩
   ·refine⟨_,rfl,_,rfl,_,_,rfl,⟨by omega,by omega⟩,by show 2<=sizeLine;decide,fun t ht=>⟨_,by rw[af (ak hl2 ht)];exact hl2,by rw[List.length_map];exact aD (by omega),?_⟩⟩
    exact app t ht
   ·refine⟨_,rfl,_,rfl,_,_,rfl,⟨by omega,by omega⟩,by show 2<=sizeLine;decide,fun t ht=>⟨_,by rw[af (ak hl2 ht)];exact hl2,by rw[List.length_map];exact aD (by omega),?_⟩⟩
    exact app t ht
   ·exact⟨_,ds,rfl,s2,⟨as,hl2,hp2⟩,hn,by omega,hex⟩
  ·rintro σ H2 ⟨v,ds,rfl,s2,d2,hn,hlen,hex⟩
   refine⟨_,rfl,_,rfl,a,ns,2,48,12800,rfl,s2.seq hS,⟨by decide,by decide⟩,⟨by decide,by decide⟩,⟨by decide,by decide⟩,fun q H3 es hq s3 hq3 hes hel=>?_⟩;refine⟨q,rfl,⟨_,aW.of hq3⟩,fun l2 hl2=>?_⟩;have d3:=bL (bL d2 s3) (aj (o:=.lst []) hl2);have nq:q≠l2:=ak hq3 hl2
   refine bd (K:=K) (a:=q) (xs:=es.map V.int) (fun i σ H4=>∃ (v:Option V)(fs:List aN),σ=[v,some (.int m),some (.int cn)]/\ay H3 H4/\bg H4 l2 fs/\(∀ d∈fs,∀ g∈names d,g∈a9 40 cn)/\fs.length=i)
    ⟨none,[],rfl,aj hl2,⟨[],ae,.nil⟩,(fun d hd=>nomatch hd),rfl⟩ (fun i σ H4 _ ⟨_,_,_,s4,_⟩=>aW.of (s4 _ _ hq3)) ?_ ?_
   ·rintro i y σ H4 hi ⟨v,fs,rfl,s4,⟨as,hl4,hp4⟩,hn4,hlen4⟩
    obtain⟨dr,hdr,rfl⟩:=bo hi;have hil:i<es.length:=(List.getElem?_eq_some_iff.mp hdr).1;have hb:=hes dr (List.mem_of_getElem? hdr);have hal:=Paired.length hp4;refine f9 ⟨_,rfl,_,rfl,_,rfl,dr,m,cn,rfl,⟨hb.1,by omega⟩,⟨m0,m1⟩,fun t d ht hnd=>⟨_,by rw[af (ak hl4 ht)];exact hl4,by rw[List.length_map];exact aD (by omega),?_⟩⟩;refine⟨_,fs++[d],rfl,aY (s4.trans (aj ht)) hl2,iP hl4 hp4 ht d,fun d' hd' g hg=>?_,by rw[List.length_append];show fs.length+1=i+1;omega⟩;rcases List.mem_append.mp hd' with z | z
    ·exact hn4 d' z g hg
    ·rw[List.mem_singleton.mp z]at hg;exact hnd g hg
   ·rintro σ H4 ⟨v,fs,rfl,s4,⟨as4,hl4,hp4⟩,hn4,hlen4⟩
    rw[List.length_map]at hlen4;obtain⟨as2,hl2',hp2⟩:=bL (bL d2 s3) s4;have l1:=Paired.length hp2;have l3:=Paired.length hp4;refine⟨l,l2,_,_,rfl,rfl,hl2',hl4,by rw[List.length_map,List.length_map];exact Nat.le_of_lt (aD (by omega)),fun p hp=>?_⟩;have s24:=(s2.trans s3).trans s4;refine k p _ (ds++fs) (s24.free hp) (s24.trans (aj hp)) ⟨as2++as4,by rw[ae,List.map_append],?_⟩ (fun d hd g hg=>?_) (by rw[List.length_append];omega) (by rw[List.filter_append,hex,List.nil_append];exact Nat.le_trans (List.length_filter_le _ _) (by omega))
    ·exact aI (Paired.mapP hp2 fun b y e=>(aj hp) _ _ e) (Paired.mapP hp4 fun b y e=>(aj hp) _ _ e)
    ·rcases List.mem_append.mp hd with z | z
     ·exact hn d z g hg
     ·exact hn4 d z g hg
theorem rP (F:dv K "_law_evening" "_law_evening" gP f fd)(jH:au P w K mg base "_law_deeds" 4 ["_law_script"] (sx K))(gf:au P w K mg base "_law_due" 2 ["_law_worn","_law_met","_law_deed_here"] zU)(cj:au P w K mg base "_law_after" 2 ["_law_worn","_law_met","_law_deed_here"] nj) : bb P w K mg base cL 6 f fd ["_law_script"] (lS K):=by
 refine F.ok dh (fun vs H Q E h=>?_) (fun cdv A outer s H vs Q E hr h=>?_)
 ·obtain⟨a,ns,rfl,_⟩:=h
  rfl
 ·obtain⟨a,ns,rfl,hS,k⟩:=h
  have hu:=cH hr;have nil0:(0:Nat)<=sizeLine:=Nat.zero_le _
  have three:(3:Nat)<=sizeLine:=by decide
  refine⟨_,ag (bK 1 dh.nd gD) (
   ag (bK 2 dh.nd CH) (
   ag (bK 3 dh.nd (dS aJ)) (
   ag (df PassesOwn.never rfl (bq (aO jH hr.m rfl (dX (pv 0)))) (i8 4 dh.nd) (ah (be (aG de (bv bw (aO gf hr.m rfl (vV (pv 1) (pv 2) (pv 4))) (ao) (fun _ _=>rfl)) (a6) (aQ _)) (ag (aT (aO cj hr.m rfl (vV (pv 1) (pv 2) (pv 4)))) (
   ah (aT (dZ PySem.F.plainAttrs_list PySem.F.slot_list_append PySem.F.type_list_append bM (pv 3) (dX (pv 4)))))) (aK)))) (
   ah (az (bp (vV (pv 1) (pv 2) (pv 3)))))))),?_⟩
  intro w hw;have sA:=aj (o:=.dK []) hw;have hw2:upd H w (.dK []) w=some (.dK (dk [])):=ae;generalize upd H w (.dK [])=H2 at hw2 sA ⊢;intro m hm;have sB:=aj (o:=.dT []) hm;have hm0:H m=none:=sA.free hm;have hm3:upd H2 m (.dT []) m=some (.dT (sX [])):=ae;have hw3:=sB _ _ hw2;generalize upd H2 m (.dT [])=H3 at hm3 hw3 sB ⊢;refine⟨nil0,fun ls hls=>?_⟩;have sC:=aj (o:=.lst []) hls;have s4:=(sA.trans sB).trans sC;have hs0:H ls=none:=(sA.trans sB).free hls;have M4:sS H (upd H3 ls (.lst [])) w m ls ⟨[],[],[],[]⟩ []:=⟨sC _ _ hw3,sC _ _ hm3,⟨[],ae,.nil⟩,hw,hm0,hs0⟩;generalize upd H3 ls (.lst [])=H4 at M4 s4 ⊢;refine⟨_,rfl,a,ns,rfl,s4.seq hS,fun lq H6 ds hlq s6 dlq hds hdl hxl=>?_⟩;have M6:=M4.on s6;have S6:=s4.trans s6;generalize hcn:dQ ns 1=cn at hds k;have L40:(a9 40 cn).length=40:=oA 40 cn;obtain⟨qs,hq6,hqp6⟩:=id dlq;have hql:=Paired.length hqp6
  refine⟨lq,rfl,⟨_,aW.of hq6⟩,bd (K:=K) (a:=lq) (xs:=qs.map V.ref) (fun i σ HH=>∃ (es:List aN)(v4:Option V),σ=[some (.ref a),some (.ref w),some (.ref m),some (.ref ls),v4]/\ay H HH/\sS H HH w m ls (aw es) (fF es)/\bO es/\es.Sublist (ds.take i) /\
    HH lq=some (.lst (qs.map V.ref))/\Paired (fun a x=>HH a=some (bN x)) qs ds/\lq≠ls)
   ⟨[],none,rfl,S6,M6,ww,List.nil_sublist _,hq6,hqp6,?_⟩ (fun i σ HH _ ⟨_,_,_,_,_,_,_,h,_⟩=>aW.of h) ?_ ?_⟩
  ·intro z;obtain⟨as,h,_⟩:=M4.hs;rw[z,h]at hlq;cases hlq
  ·rintro i y σ HH hi ⟨es,v4,rfl,S,M,dn,sub,hq,hqp,lqs⟩
   obtain⟨t,ht,rfl⟩:=bo hi;have hil:i<qs.length:=(List.getElem?_eq_some_iff.mp ht).1;obtain⟨d,hd,hT⟩:=aU hqp ht;have nmD:=hds d (List.mem_of_getElem? hd);have smD:∀ g∈names d,g∈a9 40 cn/\aV g:=fun g hg=>⟨nmD g hg,cv (nmD g hg)⟩
   have nmE:∀ e∈es,∀ g∈names e,g∈a9 40 cn/\aV g:=fun e he g hg=>by have:=hds e (List.mem_of_mem_take (sub.mem he)) g hg;exact⟨this,cv this⟩
   have ev:=lP dn nmE es.length;rw[List.take_length]at ev;have esl:=sub.length_le;rw[List.length_take]at esl;have ln:=j8 ev.good ev.of;have lm:=ev.ml;have lf:=List.length_filter_le iU es;refine⟨_,rfl,_,rfl,_,rfl,w,m,t,(aw es).worn,fF es,d,rfl,M.hw,M.hm,hT,fun r H1 hr1 s1 hrt=>?_⟩;rw[jX ev.al]at hrt;refine⟨r,_,_,_,rfl,rfl,eP.of hrt,fT (j:=0) (Hn _),rfl,_,rfl,?_⟩;rw[A6];have M1:=M.on s1;have hT1:=s1 _ _ hT;have hq1:=s1 _ _ hq;have hqp1:Paired (fun a x=>H1 a=some (bN x)) qs ds:=Paired.mapP hqp fun b y e=>s1 _ _ e
   have sub1:(es++[d]).Sublist (ds.take (i+1)):=by rw[List.take_add_one,hd,Option.toList_some];exact sub.append (List.Sublist.refl _)
   have sub0:es.Sublist (ds.take (i+1)):=by rw[List.take_add_one];exact sub.trans (List.sublist_append_left _ _)
   by_cases hj:ba (aw es) d=.done
   ·rw[decide_eq_true hj]
    obtain⟨as,hl,hp⟩:=id M1.hs;have hal:=Paired.length hp;rw[gI]at hal;refine bV ⟨_,rfl,_,rfl,_,rfl,w,m,t,(aw es).worn,fF es,d,rfl,M1.hw,M1.hm,hT1,by omega,by omega,(jX ev.al d).trans hj,fun H3 h1 h2 k3=>?_⟩;obtain⟨M4,hl1⟩:=M1.done hj h1 h2 k3 hl hp hT1;rw[lL hj,lK hj]at M4;refine⟨_,rfl,.inl ⟨rfl,_,aW.of hl1⟩,_,rfl,ls,_,_,rfl,rfl,hl1,by rw[List.length_map];exact aD (by omega),?_⟩
    have kp:∀ b o,H1 b=some o->b≠w->b≠m->b≠ls->(upd H3 ls (.lst (as.map V.ref++[.ref t]))) b=some o:=fun b o e n1 n2 n3=>by rw[af n3];exact k3 b o e n1 n2
    refine⟨_,_,rfl,fun b o e=>kp b o (s1 _ _ (S b o e)) (ak e M.w0) (ak e M.m0) (ak e M.s0),M4,cr dn hj,sub1,kp lq _ hq1 (bz hq1 M1.hw (by intro z;cases z)) (bz hq1 M1.hm (by intro z;cases z)) lqs,Paired.mapP hqp1 fun b y e=>?_,lqs⟩;obtain⟨xs,ex⟩:=dE y;rw[ex]at e ⊢;exact kp b _ e (bz e M1.hw (by intro z;cases z)) (bz e M1.hm (by intro z;cases z)) (bz e hl (by intro z;cases z))
   ·rw[decide_eq_false hj]
    exact a7 ⟨_,_,rfl,S.trans s1,M1,dn,sub0,hq1,hqp1,lqs⟩
  ·rintro σ HH ⟨es,v4,rfl,S,M,dn,sub,hq,hqp,lqs⟩
   have sub2:=sub.trans (List.take_sublist _ _);refine⟨_,rfl,_,rfl,_,rfl,three,fun t ht=>k t w m ls _ es (S.trans (aj ht)) ae (M.on (aj ht)) dn (fun e he g hg=>hds e (sub2.mem he) g hg) (Nat.le_trans sub2.length_le hdl) (Nat.le_trans (sub2.filter iU).length_le hxl)⟩
theorem AX (F:dv K "_law_do" "_law_do" ph f fd)(jQ:aP P w K mg base (jD P w) c.C "come" 2 ["self","guest"] (y3 c))(nX:aP P w K mg base (jD P w) c.C "go" 4 ["self","guest"] (Fy c))(fM:aP P w K mg base (jD P w) c.C "exchange" 4 ["self","one","other"] (y4 c)) : bb P w K mg base (jD P w) 5 f fd ["_law_hall","_law_deed_here"] (En c):=by
 refine F.okX Bi (fun vs H Q E h=>?_) (fun cdv A outer s H vs Q E hr h=>?_)
 ·obtain⟨p,t,B,st,d,rfl,_⟩:=h
  rfl
 ·obtain⟨p,t,B,st,d,rfl,ht0,S,ft,hg,sm,k⟩:=h
  have ht:H t=some (.tup (dw d)):=by rw[<-iO];exact ht0
  have T0:eP K H t (dw d):=eP.of ht
  refine⟨_,ag (be (aG de (bv bw (pv 1) (ao) (fun _ _=>rfl)) (a6) (aQ _)) (ah (az (c6 jQ (pv 0) U.cl hr.m fz (dX (bv bw (pv 1) (ao) (fun _ _=>rfl)))))) (aK)) (
   ag (be (aG de (bv bw (pv 1) (ao) (fun _ _=>rfl)) (a6) (aQ _)) (ah (az (c6 nX (pv 0) U.cl hr.m fz (dX (bv bw (pv 1) (ao) (fun _ _=>rfl)))))) (aK)) (
   ah (az (c6 fM (pv 0) U.cl hr.m fz (c9 (bv bw (pv 1) (ao) (fun _ _=>rfl)) (bv bw (pv 1) (ao) (fun _ _=>rfl))))))),?_⟩
  have n1:=rm B (m:="come") (by decide +kernel) (by decide +kernel) (by decide +kernel) (by decide +kernel);have n2:=rm B (m:="go") (by decide +kernel) (by decide +kernel) (by decide +kernel) (by decide +kernel);have n3:=rm B (m:="exchange") (by decide +kernel) (by decide +kernel) (by decide +kernel) (by decide +kernel)
  cases d with
  | come g =>
   refine⟨_,rfl,t,_,_,_,rfl,rfl,T0,rfl,rfl,_,rfl,?_⟩;rw[show decide (V.str (eR (.come g))=V.str "come")=true from cc];exact bV ⟨_,rfl,p,B.dx,_,rfl,S.ob,n1,_,rfl,t,_,_,_,rfl,rfl,T0,rfl,p,B,st,g,rfl,S,ft,sm g (by simp[names]),k⟩
  | go g =>
   refine⟨_,rfl,t,_,_,_,rfl,rfl,T0,rfl,rfl,_,rfl,?_⟩;rw[show decide (V.str (eR (.go g))=V.str "come")=false from gc];refine a7 ⟨_,rfl,t,_,_,_,rfl,rfl,T0,rfl,rfl,_,rfl,?_⟩;rw[show decide (V.str (eR (.go g))=V.str "go")=true from gg];exact bV ⟨_,rfl,p,B.dx,_,rfl,S.ob,n2,_,rfl,t,_,_,_,rfl,rfl,T0,rfl,p,B,st,g,rfl,S,ft,sm g (by simp[names]),(fun m hm=>⟨hg.sm g m hm,fun e=>by rw[e]at hm;rw[(hg.wh g g).mp hm];rfl⟩),k⟩
  | exch a b =>
   refine⟨_,rfl,t,_,_,_,rfl,rfl,T0,rfl,rfl,_,rfl,?_⟩;rw[show decide (V.str (eR (.exch a b))=V.str "come")=false from ec];refine a7 ⟨_,rfl,t,_,_,_,rfl,rfl,T0,rfl,rfl,_,rfl,?_⟩;rw[show decide (V.str (eR (.exch a b))=V.str "go")=false from eg];exact a7 ⟨_,rfl,p,B.dx,_,rfl,S.ob,n3,_,rfl,t,_,_,_,rfl,rfl,T0,rfl,_,rfl,t,_,_,_,rfl,rfl,T0,rfl,p,B,st,a,b,rfl,S,ft,sm a (by simp[names]),sm b (by simp[names]),k⟩
theorem rQ (F:dv K "_law_hall_of" "_law_hall_of" gQ f fd)(MH:G4 P w K mg base c)(iu:XCallee P w K mg base "_law_do" 5 ["_law_hall","_law_deed_here"] (En c)) : bb P w K mg base cL 7 f fd ["_law_story"] (o6 c):=by
 refine F.ok gG (fun vs H Q E h=>?_) (fun cdv A outer s H vs Q E hr h=>?_)
 ·obtain⟨l,ds,L,rfl,_⟩:=h
  rfl
 ·obtain⟨l,ds,L,rfl,dl,hdn,hdl,hL,hnm,k⟩:=h
  have hu:=cH hr
  refine⟨_,ag (bK 1 gG.nd (Gw MH U hr.m rfl)) (
   ag (df PassesOwn.never rfl (bq (pv 0)) (i8 2 gG.nd) (ah (aT (oW iu hr.m rfl pV (c9 (pv 1) (pv 2)))))) (
   ah (az (pv 1)))),?_⟩
  intro x dx nx ndx nex;refine⟨x,dx,rfl,ae,fun B H1 S1 kp fr=>⟨rfl,?_⟩⟩
  have s0:ay H (upd (upd H dx (.own x)) x (.ins c.C dx [])):=fun b o e=>by rw[af (ak e nx),af (ak e ndx)];exact e
  have E1:Ev c H H1 x B ⟨[],[],[],[]⟩:=⟨fun b o e=>kp b o (s0 b o e) (ak e nx),S1,rk,fun b hb=>s0.free (fr b hb)⟩;obtain⟨qs,hq,hqp⟩:=id dl
  refine⟨_,rfl,l,rfl,⟨_,aW.of (E1.same _ _ hq)⟩,bd (K:=K) (a:=l) (xs:=qs.map V.ref) (fun i σ HH=>∃ (B:HA)(v:Option V),σ=[some (.ref l),some (.ref x),v]/\Ev c H HH x B (aw (ds.take i))/\Of L (aw (ds.take i))/\Sz i (aw (ds.take i)))
   ⟨B,none,rfl,E1,of_empty,GY⟩ (fun i σ HH _ ⟨_,_,_,E,_⟩=>aW.of (E.same _ _ hq)) ?_ ?_⟩
  ·rintro i y σ HH hi ⟨B,v,rfl,E,o,z⟩
   obtain⟨t,ht,rfl⟩:=bo hi;obtain⟨d,hd,hT0⟩:=aU hqp ht;have hT:=E.same _ _ hT0;have hj:=hdn i d hd;have hil:=(List.getElem?_eq_some_iff.mp hd).1;have ft:=DM E.good o hL z (by omega);have nm:=hnm d (List.mem_of_getElem? hd);refine⟨_,rfl,_,rfl,x,t,B,_,d,rfl,hT,E.hall,ft,E.good,fun g hg=>(nm g hg).2,?_⟩;unfold sR;rw[if_pos hj];intro H2 mv
   have en:c5 (aw (ds.take i)) d=aw (ds.take (i+1)):=by unfold c5;rw[if_pos hj,List.take_add_one,hd,Option.toList_some,dt]
   have g2:=ug E.good (d:=d) (fun g hg=>(nm g hg).2);have o2:=zP E.good o (fun g hg=>(nm g hg).1);have z2:=zZ z d
   have mv2:v7 c.C HH x B (c5 (aw (ds.take i)) d) H2:=by unfold c5;rw[if_pos hj];exact mv
   obtain⟨B',E2,_⟩:=E.moved mv2 g2;rw[en]at E2 o2 z2;exact⟨B',_,rfl,E2,o2,z2⟩
  ·rintro σ HH ⟨B,v,rfl,E,o,z⟩
   have el:=Paired.length hqp;rw[List.length_map,el,List.take_length]at E;exact⟨_,rfl,k x B HH nx E⟩
theorem xn (F:dv K "_law_pair" "_law_pair" kz f fd)(gT:au P w K mg base "_law_whole" 1 ["_law_found"] vP) : bb P w K mg base cL 2 f fd ["_law_found"] vL:=by
 refine F.ok xC (fun vs H Q E h=>?_) (fun cdv A outer s H vs Q E hr h=>?_)
 ·obtain⟨a,p,rfl,_⟩:=h
  rfl
 ·obtain⟨a,p,rfl,hp,k⟩:=h
  refine⟨_,ag (be (uB (jb (jd (bu mG (by rfl) T.isinstance PyProof.Rows.boot_isinstance (av (pv 0) (av (qx (v:=.ty "tuple") (by rfl) T.tuple PyProof.Rows.boot_tuple rfl) aJ))))) (oV (aG m5 (bu bZ (by rfl) T.len PySem.boot_len (av (pv 0) aJ)) ao (aQ _)))).pt (ah (az gC)) aK)
   (ah (az (CC (aO gT hr rfl (av (bv bw (pv 0) ao (fun _ _=>rfl)) aJ)) (CL (aO gT hr rfl (av (bv bw (pv 0) ao (fun _ _=>rfl)) aJ)))))),?_⟩
  refine⟨_,rfl,_,_,_,true,rfl,jS.tup hp,rfl,_,rfl,a7 ?_⟩;refine⟨_,rfl,a,_,rfl,.inr (eP.of hp),rfl,_,rfl,a7 ?_⟩;refine⟨_,rfl,a,_,_,_,rfl,rfl,eP.of hp,rfl,_,rfl,_,rfl,bV ?_⟩;exact⟨_,rfl,a,_,_,_,rfl,rfl,eP.of hp,rfl,_,rfl,k⟩
theorem yF (F:dv K "_law_row" "_law_row" jr f fd)(lE:au P w K mg base "_law_pair" 2 ["_law_found"] vL) : bb P w K mg base cL 3 f fd ["_law_found"] y7:=by
 refine F.ok yW (fun vs H Q E h=>?_) (fun cdv A outer s H vs Q E hr h=>?_)
 ·obtain⟨l,ps,rfl,_⟩:=h
  rfl
 ·obtain⟨l,ps,rfl,⟨as,hl,hp⟩,hlen,k⟩:=h
  refine⟨_,ag (be (jb (jd (bu mG (by rfl) T.isinstance PyProof.Rows.boot_isinstance (av (pv 0) (av (qx (v:=.ty "list") (by rfl) T.list PyProof.Rows.boot_list rfl) aJ))))) (ah (az gC)) aK)
   (ah (az (bu (ue rfl) (by rfl) T.all PyProof.Rows.boot_all (av (dq (so:=am jr) (N:=uw) (N':=["_law_pair_here"]) (src:=[none]) rfl rfl ⟨rfl,by decide +kernel,by decide +kernel,by decide +kernel,by decide +kernel,rfl,by decide +kernel⟩ rfl (bq (pv 0))
    (fun cl C s2 H2 ex=>⟨kM (i:=0) (show (["_law_pair_here"]:List Str).Nodup by decide +kernel) rfl (Or.inl rfl),c7,aO lE hr rfl (av (pv 0) aJ)⟩)) aJ)))),?_⟩
  refine⟨_,rfl,_,_,_,true,rfl,jS.lst hl,rfl,_,rfl,a7 ?_⟩;refine⟨_,rfl,l,rfl,⟨_,aW.of hl⟩,fun q hq=>?_⟩;have hlq:l≠q:=ak hl hq
  refine bd (K:=K) (a:=l) (xs:=as.map V.ref) (fun i σ H2=>∃ (v:Option V),σ=[v]/\ay H H2/\H2 q=some (.lst ((List.replicate i true).map V.bl)))
   ⟨none,rfl,aj hq,ae⟩ (fun i σ H2 _ ⟨_,_,s2,_⟩=>aW.of (s2 _ _ hl)) ?_ ?_
  ·rintro i y σ H2 hi ⟨v,rfl,s2,hq2⟩
   have hil:i<as.length:=by have:=(List.getElem?_eq_some_iff.mp hi).1;simpa using this
   obtain⟨a,ha,rfl⟩:=bo hi;obtain⟨p,_,hpa⟩:=aU hp ha;have hpl:=Paired.length hp;refine f9 ⟨_,rfl,a,p,rfl,s2 _ _ hpa,_,hq2,by rw[List.length_map,List.length_replicate];exact aD (by omega),?_⟩;exact⟨_,rfl,aY s2 hq,by rw[ae,List.replicate_succ',List.map_append];rfl⟩
  ·rintro σ H2 ⟨v,rfl,s2,hq2⟩
   refine⟨q,List.replicate as.length true,rfl,aW.of (by rw[hq2,List.length_map]),?_⟩;rw[show (List.replicate as.length true).all id=true by simp];exact k H2 s2
theorem yE (F:dv K "_law_new" "_law_new" lY f fd)(b5:au P w K mg base "_law_guest" 2 ["_law_k","_law_cell"] nu) : bb P w K mg base cL 3 f fd ["_law_k","_law_cell"] vK:=by
 refine F.ok yV (fun vs H Q E h=>?_) (fun cdv A outer s H vs Q E hr h=>?_)
 ·obtain⟨j,n,rfl,_⟩:=h
  rfl
 ·obtain⟨j,n,rfl,⟨j0,j1⟩,k⟩:=h
  refine⟨_,ah (az (aO b5 hr.m rfl (c9 (aS e9 (ao) (pv 0)) (pv 1)))),?_⟩;exact⟨_,rfl,_,_,rfl,rfl,_,rfl,_,_,rfl,⟨by omega,by omega⟩,k⟩
theorem tF (F:dv K "_law_stands" "_law_stands" iq f fd)(bP:aP P w K mg base cL c.C "guests" 1 ["self"] (kj c.C))(iJ:aP P w K mg base cL c.C "story" 1 ["self"] (vO c.C))(hX:aP P w K mg base cL c.C "moment" 1 ["self"] (sE c.C))(iI:aP P w K mg base cL c.C "pairs" 2 ["self"] (sy c.C))(cV:aP P w K mg base cL c.C "inside" 1 ["self","guest"] (ny c.C))(aR:aP P w K mg base (jD P w) c.C "wears" 3 ["self","guest"] (ji c))(hZ:aP P w K mg base (jD P w) c.C "wearer" 3 ["self","mask"] (sG c)) : bb P w K mg base cL 4 f fd ["_law_hall","_law_worn","_law_met","_law_story"] (o8 c):=by
 refine F.ok ly (fun vs H Q E h=>?_) (fun cdv A outer s H vs Q E hr h=>?_)
 ·obtain⟨p,w,m,ls,B,st,ml,L,rfl,_⟩:=h
  rfl
 ·obtain⟨p,w,m,ls,B,st,ml,L,rfl,S,wB,hw,hm,hs,G,al,ci,mo,hL,hml,hwl,sm,k⟩:=h
  have hu:=cH hr
  refine⟨_,ag (be (PW.pt (uB (aG (lO 1 (B7 hr (by decide))) (oU bP (pv 0) U.cl hr.m dY) (bu (eC rfl) (by rfl) T.sorted PyProof.Rows.boot_sorted (dX (pv 1))) (aQ _)) (oV (aG (lO 1 (B7 hr (by decide))) (oU iJ (pv 0) U.cl hr.m dY) (pv 3) (aQ _))))) (ah (az (gC))) (aK)) (
   ag (be (PW.pt (uB (aG m5 (oU hX (pv 0) U.cl hr.m dY) (bu bZ (by rfl) T.len PySem.boot_len (dX (pv 3))) (aQ _)) (oV (aG (lO 1 (B7 hr (by decide))) (oU iI (pv 0) U.cl hr.m dY) (bu (uL rfl) (by rfl) T.sorted PyProof.Rows.boot_sorted (dX (pv 2))) (aQ _))))) (ah (az (gC))) (aK)) (
   ag (Ef (df PassesOwn.never rfl (Ec (pv 1)) (i8 4 ly.nd) (ag (be (aG A3 (c6 cV (pv 0) U.cl hr.m dY (dX (pv 4))) (gC) (aQ _)) (ah (az (gC))) (aK)) (
   ah (be (PW.pt (uB (aG m5 (c6 aR (pv 0) U.cl hr.m pV (dX (pv 4))) (i7 hu (pv 1) (pv 4) (fun _ _=>rfl)) (aQ _)) (oV (aG m5 (c6 hZ (pv 0) U.cl hr.m pV (dX (i7 hu (pv 1) (pv 4) (fun _ _=>rfl)))) (pv 4) (aQ _))))) (ah (az (gC))) (aK)))))) (
   ah (az (gC))))),?_⟩
  have nos:∀ (B:HA)(m:Str),¬ m="worn"->¬ m="holders"->¬ m="circles"->¬ m="deeds"->(bx B).lookup m=none:=fun B m h1 h2 h3 h4=>rm B h1 h2 h3 h4;have nG:∀ B:HA,(bx B).lookup ("guests" : Str)=none:=fun B=>om B (by decide +kernel);have nM:∀ B:HA,(bx B).lookup ("moment" : Str)=none:=fun B=>om B (by decide +kernel);have nI:∀ B:HA,(bx B).lookup ("inside" : Str)=none:=fun B=>om B (by decide +kernel);have nS:∀ B:HA,(bx B).lookup ("story" : Str)=none:=fun B=>om B (by decide +kernel);have nW:∀ B:HA,(bx B).lookup ("wears" : Str)=none:=fun B=>om B (by decide +kernel);have nR:∀ B:HA,(bx B).lookup ("wearer" : Str)=none:=fun B=>om B (by decide +kernel);have nT:∀ B:HA,(bx B).lookup ("met" : Str)=none:=fun B=>om B (by decide +kernel);have nP:∀ B:HA,(bx B).lookup ("pairs" : Str)=none:=fun B=>om B (by decide +kernel);have nQ:∀ B:HA,(bx B).lookup ("partners" : Str)=none:=fun B=>om B (by decide +kernel)
  have two:(2:Nat)<=sizeLine:=by decide
  have nil0:(0:Nat)<=sizeLine:=Nat.zero_le _
  have dkk:∀ wl:List (Int×Int),(dk wl).map (·.1)=(aq wl).map Sum.inl:=fun wl=>by unfold dk aq;rw[List.map_map,List.map_map];rfl
  have szl:(aq st.worn).length<64:=by unfold aq;rw[List.length_map];omega
  refine⟨_,rfl,p,B.dx,_,rfl,S.ob,nG B,p,B,_,rfl,S,hwl,fun l1 hl1=>?_⟩;have s1:=aj (o:=.lst ((aZ (aq st.worn)).map V.int)) hl1;have h1:upd H l1 (.lst ((aZ (aq st.worn)).map V.int)) l1=some (.lst ((aZ (aq st.worn)).map V.int)):=ae;generalize upd H l1 (.lst ((aZ (aq st.worn)).map V.int))=H1 at s1 h1 ⊢;refine⟨_,rfl,w,_,aq st.worn,rfl,s1 _ _ hw,dkk _,szl,fun l2 hl2=>?_⟩;have s2:=aj (o:=.lst ((aZ (aq st.worn)).map V.int)) hl2;refine⟨l1,l2,_,_,rfl,rfl,fA (aW.of (s2 _ _ h1)),fA (aW.of ae),fun b hb=>⟨_,rfl,?_⟩⟩;rw[show (if true=true then !b else b)=false by rw[hb.mpr rfl];rfl];have S02:=s1.trans s2;generalize upd H1 l2 (.lst ((aZ (aq st.worn)).map V.int))=H2 at S02 ⊢;have hS2:=S.mono S02;refine a7 ⟨_,rfl,p,B.dx,_,rfl,hS2.ob,nS B,p,B,_,rfl,hS2,fun l3 H3 hl3 s3 d3=>⟨_,rfl,l3,ls,_,_,rfl,rfl,xz d3,xz (bL hs (S02.trans s3)),fun b hb=>⟨_,rfl,?_⟩⟩⟩;rw[show (if true=true then !b else b)=false by rw[hb.mpr rfl];rfl];have S03:=S02.trans s3;have hS3:=S.mono S03;obtain⟨as,hls3,hp3⟩:=bL hs S03;refine a7 ⟨_,rfl,p,B.dx,_,rfl,hS3.ob,nM B,p,B,_,rfl,hS3,_,rfl,ls,_,rfl,.inl (aW.of hls3),rfl,_,rfl,?_⟩;rw[List.length_map,Paired.length hp3,decide_eq_true rfl]
  have pl:(eF st.circ).length<=1000:=by
   have nd1:(eF st.circ).Nodup:=(m6 ci).imp fun {a b} z e=>by rw[e,Qs.ltP_irr]at z;cases z
   have:=((List.perm_ext_iff_of_nodup nd1 mo.nd).mpr fun x=>uz ci al mo x).length_eq;omega
  refine a7 ⟨_,rfl,p,B.dx,_,rfl,hS3.ob,nP B,p,B,st,L,rfl,hS3,ci,hL,pl,fun l4 H4 hl4 s4 r4=>⟨_,rfl,m,ml,rfl,(S03.trans s4) _ _ hm,mo.nd,hml,fun l5 qs H5 hl5 s5 r5 pm so=>⟨l4,l5,_,_,rfl,rfl,C8 (r4.mono s5),C8 r5,fun b hb=>⟨_,rfl,?_⟩⟩⟩⟩;rw[show (if true=true then !b else b)=false by rw[hb.mpr (by rw[CA ci al mo pm so])];rfl];have S05:=(S03.trans s4).trans s5;refine a7 ⟨_,rfl,w,_,rfl,S05 _ _ hw,fun o=>?_⟩
  have kp:∀ x u,H5 x=some u->x≠w->(upd H5 w (.frz o (.dK (dk st.worn)))) x=some u:=fun x u e n=>by rw[af n];exact e
  have hw6:(upd H5 w (.frz o (.dK (dk st.worn)))) w=some (.frz o (.dK (dk st.worn))):=ae;have S6:aM c.C (upd H5 w (.frz o (.dK (dk st.worn)))) p B st:=(S.mono S05).kept (fp:=[w]) (fun b u e n=>kp b u e (fun z=>n (by rw[z];exact List.mem_cons_self))) (fun z=>by have ob:=(S.mono S05).ob;rw[List.mem_singleton.mp z,S05 _ _ hw]at ob;cases ob) (fun b hb z=>wB (by rw[<-List.mem_singleton.mp z];exact hb)) (fun b xs e z=>by rw[List.mem_singleton.mp z,S05 _ _ hw]at e;cases e);generalize upd H5 w (.frz o (.dK (dk st.worn)))=H6 at kp hw6 S6 ⊢
  refine BU (d:=w) (o:=o) (kvs:=dk st.worn) (fun i σ HH=>HH=H6/\∃ v:Option V,σ=[some (.ref p),some (.ref w),some (.ref m),some (.ref ls),v])
   ⟨rfl,none,rfl⟩ (fun i σ HH _ ⟨e,_⟩=>by rw[e];exact hw6) ?_ ?_
  ·rintro i y σ HH hi ⟨rfl,v,rfl⟩
   obtain⟨q,hq,rfl⟩:=bo hi;have hmem:=List.mem_of_getElem? hq;have lk:look st.worn q.1=some q.2:=pR G.wn hmem;have lh:=(G.wh q.1 q.2).mp lk;have sg:aV q.1:=sm _ (List.mem_map_of_mem (f:=(·.1)) hmem);have sq:aV q.2:=sm _ (G.ow _ _ lk);have dg:da HH w (.int q.1) (some (.int q.2)):=.inl ⟨dk st.worn,Sum.inl q.1,.inr ⟨o,hw6⟩,rfl,by rw[dP,lk];rfl⟩;refine⟨_,rfl,p,B.dx,_,rfl,S6.ob,nI B,_,rfl,p,B,st,q.1,rfl,S6,_,_,rfl,rfl,_,rfl,?_⟩;rw[lk];refine a7 ⟨_,rfl,p,B.dx,_,rfl,S6.ob,nW B,_,rfl,p,B,st,q.1,rfl,S6,sg,?_⟩;rw[lk];refine⟨_,rfl,_,rfl,w,_,rfl,dg,rfl,_,rfl,?_⟩;rw[decide_eq_true rfl];refine a7 ⟨_,rfl,p,B.dx,_,rfl,S6.ob,nR B,_,rfl,_,rfl,w,_,rfl,dg,p,B,st,q.2,rfl,S6,sq,?_⟩;rw[lh];refine⟨_,rfl,rfl,_,rfl,?_⟩;rw[show (!decide (V.int q.1=kV (Sum.inl q.1,V.int q.2).1))=false by show (!decide (V.int q.1=V.int q.1))=false;simp];exact a7 ⟨rfl,_,rfl⟩
  ·rintro σ HH ⟨rfl,v,rfl⟩
   refine⟨w,o,_,hw6,fun o' u' z=>?_,k _ fun x u e=>?_⟩
   ·have z:H w=some (.frz o' u'):=z
    rw[hw]at z;cases z
   ·by_cases hx:x=w
    ·rw[hx,ae]
     rw[hx,hw]at e;exact e
    ·rw[af hx]
     exact kp x u (S05 _ _ e) hx
theorem xm (F:dv K "_law_more" "_law_more" ky f fd)(cj:au P w K mg base "_law_after" 2 ["_law_worn","_law_met","_law_deed_here"] nj) : bb P w K mg base cL 3 f fd ["_law_state","_law_deeds_here"] vJ:=by
 refine F.ok fJ (fun vs H Q E h=>?_) (fun cdv A outer s H vs Q E hr h=>?_)
 ·obtain⟨t,ld,w,m,ls,H0,es,ds,L,rfl,_⟩:=h
  rfl
 ·obtain⟨t,ld,w,m,ls,H0,es,ds,L,rfl,ht,M,dl,nl,dn,hL,nm,len,k⟩:=h
  have hu:=cH hr
  refine⟨_,ag (CP (pv 0) (yN rfl (fG (i8 2 fJ.nd) (fG (i8 3 fJ.nd) (fG (i8 4 fJ.nd) vw))))) (
   ag (df PassesOwn.never rfl (bq (pv 1)) (i8 5 fJ.nd) (ag (aT (aO cj hr.m rfl (vV (pv 2) (pv 3) (pv 5)))) (
   ah (aT (dZ PySem.F.plainAttrs_list PySem.F.slot_list_append PySem.F.type_list_append bM (pv 4) (dX (pv 5))))))) (
   ah (az (pv 0)))),?_⟩
  refine⟨_,rfl,t,_,rfl,eP.of ht,rfl,_,_,rfl,_,_,rfl,_,_,rfl,rfl,?_⟩;obtain⟨qs,hq,hqp⟩:=dl;have hql:=Paired.length hqp;have pre:=lP dn nm
  have tk:∀ i,(es++ds).take (es.length+i)=es++ds.take i:=fun i=>by rw[List.take_append,List.take_of_length_le (by omega),Nat.add_sub_cancel_left]
  rw[List.length_append]at len
  refine⟨_,rfl,ld,rfl,⟨_,aW.of hq⟩,bd (K:=K) (a:=ld) (xs:=qs.map V.ref) (fun i σ HH=>∃ v:Option V,σ=[some (.ref t),some (.ref ld),some (.ref w),some (.ref m),some (.ref ls),v]/\sS H0 HH w m ls (aw (es++ds.take i)) (fF (es++ds.take i))/\(∀ b o,H b=some o->b≠w->b≠m->b≠ls->HH b=some o))
   ⟨none,rfl,by simpa using M,fun b o e _ _ _=>e⟩ (fun i σ HH _ ⟨_,_,_,kp⟩=>aW.of (kp _ _ hq (bz hq M.hw (by intro z;cases z)) (bz hq M.hm (by intro z;cases z)) nl)) ?_ ?_⟩
  ·rintro i y σ HH hi ⟨v,rfl,M1,kp⟩
   obtain⟨b,hb,rfl⟩:=bo hi;obtain⟨d,hd,hT0⟩:=aU hqp hb;have hil:i<ds.length:=(List.getElem?_eq_some_iff.mp hd).1;obtain⟨xs,ex⟩:=dE d;obtain⟨as0,hl0,_⟩:=M.hs
   have hT:HH b=some (bN d):=by
    rw[ex]at hT0 ⊢;exact kp _ _ hT0 (bz hT0 M.hw (by intro z;cases z)) (bz hT0 M.hm (by intro z;cases z)) (bz hT0 hl0 (by intro z;cases z))
   have hj:ba (aw (es++ds.take i)) d=.done:=by
    have:=dn (es.length+i) d (by rw[List.getElem?_append_right (by omega),Nat.add_sub_cancel_left];exact hd);rw[tk]at this;exact this
   have P:=pre (es.length+i);rw[tk]at P
   have tn:es++ds.take (i+1)=(es++ds.take i)++[d]:=by rw[List.take_add_one,hd,Option.toList_some,List.append_assoc]
   have lno:=j8 P.good P.of;have pm:=P.ml;have pf:=List.length_filter_le iU (es++ds.take i);rw[List.length_append,List.length_take]at pf;obtain⟨as,hl,hp⟩:=id M1.hs;have hal:=Paired.length hp;rw[gI,List.length_append,List.length_take]at hal;refine⟨_,rfl,_,rfl,_,rfl,w,m,b,(aw (es++ds.take i)).worn,fF (es++ds.take i),d,rfl,M1.hw,M1.hm,hT,by omega,by omega,(jX P.al d).trans hj,fun H3 h1 h2 k3=>?_⟩;obtain⟨M4,hl1⟩:=M1.done hj h1 h2 k3 hl hp hT;rw[lL hj,lK hj,<-tn]at M4;refine⟨_,rfl,.inl ⟨rfl,_,aW.of hl1⟩,_,rfl,ls,_,_,rfl,rfl,hl1,by rw[List.length_map];exact aD (by omega),?_⟩;exact⟨_,rfl,M4,fun y o e n1 n2 n3=>by rw[af n3];exact k3 y o (kp y o e n1 n2 n3) n1 n2⟩
  ·rintro σ HH ⟨v,rfl,M1,kp⟩
   rw[List.length_map,hql,List.take_length]at M1;exact⟨_,rfl,k HH M1 kp⟩
theorem vo (F:dv K "_law_ready" "_law_ready" jq f fd)(bh:au P w K mg base "_law_cell_at" 1 ["_law_script","_law_k"] (sv K))(ca:au P w K mg base "_law_new" 3 ["_law_k","_law_cell"] vK)(hU:au P w K mg base "_law_evening" 6 ["_law_script"] (lS K))(lD:au P w K mg base "_law_more" 3 ["_law_state","_law_deeds_here"] vJ) : bb P w K mg base cL 7 f fd ["_law_script"] (vM K):=by
 refine F.ok fX (fun vs H Q E h=>?_) (fun cdv A outer s H vs Q E hr h=>?_)
 ·obtain⟨a,ns,rfl,_⟩:=h
  rfl
 ·obtain⟨a,ns,rfl,hS,k⟩:=h
  have hu:=cH hr
  have two:(2:Nat)<=sizeLine:=by decide
  refine⟨_,ag (bK 1 fX.nd (aO bh hr.m rfl (c9 (pv 0) (ao)))) (
   ag (bK 2 fX.nd (dS (c9 (bp (c9 (a6) (aO ca hr.m rfl (c9 (ao) (pv 1))))) (bp (c9 (a6) (aO ca hr.m rfl (c9 (ao) (pv 1)))))))) (
   ag (be (aG de (aS cB (aO bh hr.m rfl (c9 (pv 0) (ao))) (ao)) (ao) (aQ _)) (ah (bK 2 fX.nd (aS i6 (pv 2) (dS (c9 (bp (c9 (a6) (aO ca hr.m rfl (c9 (ao) (pv 1))))) (bp (c9 (a6) (aO ca hr.m rfl (c9 (ao) (pv 1)))))))))) (aK)) (
   ah (az (aO lD hr.m rfl (c9 (aO hU hr.m rfl (dX (pv 0))) (pv 2))))))),?_⟩
  refine⟨_,rfl,a,ns,1,rfl,hS,by decide,?_⟩;generalize hcn:dQ ns 1=cn at k ⊢
  have z01:(0:Int)<=0/\(0:Int)<=1000:=by decide
  have z11:(0:Int)<=1/\(1:Int)<=1000:=by decide
  have fin:∀ (ld:Addr)(H1:Hp)(ds:List aN),ay H H1->bg H1 ld ds->H ld=none->(∀ es,bO es->(∀ d∈es,∀ g∈names d,g∈a9 40 cn)->es.length<=88->(es.filter iU).length<=48->GV cn (es++ds)) ->
    ∀ (X:XK)(t w m ls:Addr)(H2:Hp)(es:List aN),ay H1 H2->H2 t=some (.tup [.ref w,.ref m,.ref ls])->sS H1 H2 w m ls (aw es) (fF es)->bO es->(∀ d∈es,∀ g∈names d,g∈a9 40 (dQ ns 1))->es.length<=88->(es.filter iU).length<=48->vJ [.ref t,.ref ld] H2 Q X:=fun ld H1 ds s1 dl l0 hR X t w m ls H2 es s2 ht M dn nm el ex=>by
   rw[hcn]at nm;have R:=hR es dn nm el ex
   have nl:ld≠ls:=fun z=>by obtain⟨as,h,_⟩:=dl;rw[z]at h;rw[M.s0]at h;cases h
   have rl:=R.len;refine⟨t,ld,w,m,ls,H1,es,ds,a9 62 cn,rfl,ht,M,bL dl s2,nl,R.dn,by rw[oA];decide,R.nm,by omega,fun H3 M3 kp=>?_⟩;have M3':sS H H3 w m ls (aw (es++ds)) (fF (es++ds)):=⟨M3.hw,M3.hm,M3.hs,s1.free M.w0,s1.free M.m0,s1.free M.s0⟩
   have ht3:H3 t=some (.tup [.ref w,.ref m,.ref ls]):=by
    obtain⟨as,hl,_⟩:=M.hs;exact kp _ _ ht (bz ht M.hw (by intro z;cases z)) (bz ht M.hm (by intro z;cases z)) (bz ht hl (by intro z;cases z))
   exact k t w m ls H3 (es++ds) (fun b o e=>kp b o ((s1.trans s2) b o e) (ak (s1 b o e) M.w0) (ak (s1 b o e) M.m0) (ak (s1 b o e) M.s0)) ht3 M3' R
  refine⟨_,rfl,_,_,rfl,z01,two,fun t1 h1=>⟨_,rfl,_,_,rfl,z11,two,fun t2 h2=>⟨two,fun ld hld=>?_⟩⟩⟩;have s1:=aj (o:=bN (.come (dC (60+0) cn))) h1;have s2:=aj (o:=bN (.come (dC (60+1) cn))) h2;have s3:=aj (o:=.lst [.ref t1,.ref t2]) hld;have sA:=(s1.trans s2).trans s3;have ld0:H ld=none:=(s1.trans s2).free hld
  have dA:bg (upd (upd (upd H t1 (bN (.come (dC (60+0) cn)))) t2 (bN (.come (dC (60+1) cn)))) ld (.lst [.ref t1,.ref t2])) ld [.come (dC 60 cn),.come (dC 61 cn)] :=
   ⟨[t1,t2],ae,.cons (s3 _ _ (s2 _ _ ae)) (.cons (s3 _ _ ae) .nil)⟩
  obtain⟨H1,eH1⟩:∃ H1,H1=upd (upd (upd H t1 (bN (.come (dC (60+0) cn)))) t2 (bN (.come (dC (60+1) cn)))) ld (.lst [.ref t1,.ref t2]):=⟨_,rfl⟩
  show mJ 2 (.ref ld) _ (upd (upd (upd H t1 (bN (.come (dC (60+0) cn)))) t2 (bN (.come (dC (60+1) cn)))) ld (.lst [.ref t1,.ref t2])) _
  rw[<-eH1]at dA ⊢
  have sA:ay H H1:=by rw[eH1];exact sA
  refine⟨_,rfl,a,ns,0,rfl,sA.seq hS,by decide,_,_,rfl,rfl,by show (0:Int)<3;decide,rfl,_,rfl,wC (fun _=>?_) (fun _=>?_)⟩
  ·refine⟨_,rfl,_,rfl,_,_,rfl,z01,two,fun t3 h3=>⟨_,rfl,_,_,rfl,z01,two,fun t4 h4=>⟨two,fun l2 hl2=>?_⟩⟩⟩
   have u1:=aj (o:=bN (.go (dC (60+0) cn))) h3;have u2:=aj (o:=bN (.come (dC (60+0) cn))) h4;have u3:=aj (o:=.lst [.ref t3,.ref t4]) hl2;obtain⟨as,hl,hp⟩:=id dA;have uA:=(u1.trans u2).trans u3;have hal:=Paired.length hp;refine⟨ld,l2,_,_,rfl,rfl,uA _ _ hl,ae,by rw[List.length_map,hal];show 4<=sizeLine;decide,fun lp hlp=>?_⟩;have u4:=aj (o:=.lst (as.map V.ref++[.ref t3,.ref t4])) hlp;have sB:=(sA.trans uA).trans u4;refine⟨_,rfl,a,ns,rfl,sB.seq hS,fun t w m ls H2 es s2 ht M dn nm el ex=>⟨_,rfl,fin lp _ [.come (dC 60 cn),.come (dC 61 cn),.go (dC 60 cn),.come (dC 60 cn)] sB ⟨as++[t3,t4],by rw[ae,List.map_append];rfl,?_⟩ ((sA.trans uA).free hlp) (fun es dn nm el ex=>(C9 dn nm el ex).2) E0 t w m ls H2 es s2 ht M dn nm el ex⟩⟩;exact aI (Paired.mapP hp fun b y e=>u4 _ _ (uA _ _ e)) (.cons (u4 _ _ (u3 _ _ (u2 _ _ ae))) (.cons (u4 _ _ (u3 _ _ ae)) .nil))
  ·exact⟨_,rfl,a,ns,rfl,sA.seq hS,fun t w m ls H2 es s2 ht M dn nm el ex=>⟨_,rfl,fin ld H1 _ sA dA ld0 (fun es dn nm el ex=>(C9 dn nm el ex).1) E0 t w m ls H2 es s2 ht M dn nm el ex⟩⟩
theorem qi (F:dv K "_law_way_told" "_law_way_told" fR f fd)(Ctwo_row:au P w K mg base "two_row" 7 ["hall","one","other"] (nF c))(Chome_row:au P w K mg base "home_row" 8 ["hall","one","other"] (o7 c))(Chub_row:XCallee P w K mg base "hub_row" 8 ["hall"] (sD c co))(Cone_row:XCallee P w K mg base "one_row" 8 ["hall","one"] (sF c co cq)) : bb P w K mg base cL 9 f fd ["_law_hall","_law_one","_law_other","_law_kind"] (y9 c):=by
 refine F.ok bU (fun vs H Q E h=>?_) (fun cdv A outer s H vs Q E hr h=>?_)
 ·obtain⟨p,B,es,L,one,other,kd,rfl,_⟩:=h
  rfl
 ·obtain⟨p,B,es,L,one,other,kd,rfl,S,P,h64,smk,hL,N,hk,k1,k2⟩:=h
  have hu:=cH hr
  refine⟨_,ag (bK 4 bU.nd (ic)) (
   ag (Eg rfl rfl (fun pins E=>ah (be (aG de (pv 3) (ao) (aQ _)) (ah (bK 4 bU.nd (aO Ctwo_row hr.m rfl (vV (pv 0) (pv 1) (pv 2))))) (ah (be (aG de (pv 3) (ao) (aQ _)) (ah (bK 4 bU.nd (aO Chome_row hr.m rfl (vV (pv 0) (pv 1) (pv 2))))) (ah (be (aG de (pv 3) (ao) (aQ _)) (ah (bK 4 bU.nd (zS Chub_row hr.m rfl CB (dX (pv 0))))) (ah (bK 4 bU.nd (zS Cone_row hr.m rfl CB (c9 (pv 0) (pv 2))))))))))) (Eb rfl UO.m (fun ea oe=>ah (bK 4 bU.nd (ic))) Fq)) (
   ah (az (pv 4)))),?_⟩
  have li:∀ g,look (aw es).worn g=some g->(look (aw es).worn g).isSome=true:=fun g e=>by rw[e];rfl
  have dI:∀ {a b:Int},a=b->decide (V.int a=V.int b)=true:=fun h=>decide_eq_true (congrArg V.int h);have dN:∀ {a b:Int},¬ a=b->decide (V.int a=V.int b)=false:=fun h=>decide_eq_false fun z=>h (V.int.inj z);refine⟨_,rfl,rfl,_,rfl,?_⟩
  by_cases h0:kd=0
  ·rw[dI h0]
   exact bV ⟨_,rfl,_,rfl,_,rfl,p,B,_,L,one,other,rfl,S,P.good,h64,smk,N.s1,N.s2,P.ci,hL,li _ N.la,li _ N.lb,N.c1,N.c2,N.ne,fun l H1 hl s1 row=>⟨_,rfl,k2 l H1 _ hl s1 row (BX P h64 N.ne N.la N.lb N.c1 N.c2)⟩⟩
  rw[dN h0];refine a7 ⟨_,rfl,rfl,_,rfl,?_⟩
  by_cases h1:kd=1
  ·rw[dI h1]
   exact bV ⟨_,rfl,_,rfl,_,rfl,p,B,_,L,one,other,rfl,S,P.good,h64,smk,N.s1,N.s2,P.ci,hL,li _ N.la,li _ N.lb,N.c1,N.c2,N.ne,fun l H1 hl s1 row=>⟨_,rfl,k2 l H1 _ hl s1 row (Fb P h64 N.ne N.la N.lb N.c1 N.c2)⟩⟩
  rw[dN h1];refine a7 ⟨_,rfl,rfl,_,rfl,?_⟩
  by_cases h2:kd=2
  ·rw[dI h2]
   refine bV ⟨_,rfl,p,B,_,L,rfl,S,P.good,h64,smk,P.ci,hL,?_⟩
   by_cases he:((ar (aw es).worn).filter fun r=>(cU (aw es).circ r).isNone)=[]
   ·rw[if_pos he]
    exact fun l H1 hl s1 row=>⟨_,rfl,k2 l H1 _ hl s1 row (Fa P h64 he)⟩
   ·rw[if_neg he]
    exact fun H1 s1=>⟨_,UO.x,bV ⟨_,rfl,k1 _ s1⟩⟩
  rw[dN h2];refine a7 ⟨_,rfl,_,rfl,p,B,_,L,other,rfl,S,P.good,h64,smk,P.ci,hL,N.s2,?_⟩;rw[if_pos (li _ N.lb),if_pos N.c2]
  by_cases he:((ar (aw es).worn).filter fun r=>(br (aw es).circ r).isNone)=[]
  ·rw[if_pos he]
   exact fun l H1 hl s1 row=>⟨_,rfl,k2 l H1 _ hl s1 row (Fc P h64 (li _ N.lb) N.c2 he)⟩
  ·rw[if_neg he]
   exact fun H1 s1=>⟨_,UO.x,bV ⟨_,rfl,k1 _ s1⟩⟩
theorem Fk (F:dv K "law" "law" pe f fd)(jJ:au P w K mg base "_law_ready" 7 ["_law_script"] (vM K))(hV:au P w K mg base "_law_hall_of" 7 ["_law_story"] (o6 c))(bh:au P w K mg base "_law_cell_at" 1 ["_law_script","_law_k"] (sv K))(gr:au P w K mg base "_law_way_told" 9 ["_law_hall","_law_one","_law_other","_law_kind"] (y9 c))(ca:au P w K mg base "_law_new" 3 ["_law_k","_law_cell"] vK)(Ctwo_row:au P w K mg base "two_row" 7 ["hall","one","other"] (nF c))(nV:au P w K mg base "_law_row" 3 ["_law_found"] y7)(gf:au P w K mg base "_law_due" 2 ["_law_worn","_law_met","_law_deed_here"] zU)(iu:XCallee P w K mg base "_law_do" 5 ["_law_hall","_law_deed_here"] (En c))(cj:au P w K mg base "_law_after" 2 ["_law_worn","_law_met","_law_deed_here"] nj)(Cstrays:au P w K mg base "strays" 4 ["hall"] (nA c))(Crings_of:au P w K mg base "rings_of" 6 ["hall"] (f6 c))(bP:aP P w K mg base cL c.C "guests" 1 ["self"] (kj c.C))(iH:au P w K mg base "_law_stands" 4 ["_law_hall","_law_worn","_law_met","_law_story"] (o8 c)) : bb P w K mg base cL 10 f fd ["_law_script"] (zW K):=by
 refine F.ok fc (fun vs H Q E h=>?_) (fun cdv A outer s H vs Q E hr h=>?_)
 ·obtain⟨a,ns,rfl,_⟩:=h
  rfl
 ·obtain⟨a,ns,rfl,hS,hlen,k⟩:=h
  have hu:=cH hr
  refine⟨_,ag (CP (aO jJ hr.m rfl (dX (pv 0))) (yN rfl (fG (i8 1 fc.nd) (fG (i8 2 fc.nd) (fG (i8 3 fc.nd) vw))))) (
   ag (bK 4 fc.nd (aO hV hr.m rfl (dX (pv 3)))) (
   ag (bK 5 fc.nd (aO bh hr.m rfl (c9 (pv 0) (ao)))) (
   ag (bK 6 fc.nd (aO gr hr.m rfl (av (pv 4) (av (aO ca hr.m rfl (c9 (ao) (pv 5))) (av (aO ca hr.m rfl (c9 (ao) (pv 5))) (av (aS cB (aO bh hr.m rfl (c9 (pv 0) (ao))) (ao)) aJ)))))) (
   ag (be (ie (yK (pv 6))) (ah (bK 6 fc.nd (aO Ctwo_row hr.m rfl (vV (pv 4) (aO ca hr.m rfl (c9 (ao) (pv 5))) (aO ca hr.m rfl (c9 (ao) (pv 5))))))) (aK)) (
   ag (be (jb (jd (aO nV hr.m rfl (dX (pv 6))))) (ah (az (gC))) (aK)) (
   ag (qy (ix:=7) (so:=am pe) (N:=zL) (N':=["_law_pair_here"]) (src:=[none]) rfl rfl vU rfl (bq (pv 6)) (fun cl C s2 H2 ex=>⟨i8 0 (show (["_law_pair_here"]:List Str).Nodup by decide +kernel),c7,bp (vV (a6) (bv (zC K) (pv 0) (ao) (fun _ _=>rfl)) (bv (zC K) (pv 0) (ao) (fun _ _=>rfl)))⟩) fc.nd rfl rfl) (
   ag (bK 8 fc.nd (bu (eC rfl) (by rfl) T.sorted PyProof.Rows.boot_sorted (dX (pv 1)))) (
   ag (bK 7 fc.nd (aS i6 (aS i6 (pv 7) (dq (so:=am pe) (N:=zL) (N':=["_law_guest_here"]) (src:=[none]) rfl rfl vU rfl (bq (pv 8)) (fun cl C s2 H2 ex=>⟨i8 0 (show (["_law_guest_here"]:List Str).Nodup by decide +kernel),c7,bp (c9 (a6) (pv 0))⟩))) (dq (so:=am pe) (N:=zL) (N':=["_law_guest_here"]) (src:=[none]) rfl rfl vU rfl (bq (pv 8)) (fun cl C s2 H2 ex=>⟨i8 0 (show (["_law_guest_here"]:List Str).Nodup by decide +kernel),c7,bp (c9 (a6) (pv 0))⟩)))) (
   ag (df PassesOwn.never rfl (Ed (by rfl) T.enumerate (dX (pv 7))) (yN rfl (fG (i8 9 fc.nd) (fG (i8 10 fc.nd) vw))) (ag (be (aG (lO 1 (B7 hr (by decide))) (aO gf hr.m rfl (vV (pv 1) (pv 2) (pv 10))) (bp (c9 (a6) (ic))) (aQ _)) (ah (az (gC))) (aK)) (
   ag (aT (oW iu hr.m rfl pV (c9 (pv 4) (pv 10)))) (
   ag (aT (aO cj hr.m rfl (vV (pv 1) (pv 2) (pv 10)))) (
   ag (be (PW.pt (lQ (aG de (aS e9 (pv 9) (ao)) (bu bZ (by rfl) T.len PySem.boot_len (dX (pv 6))) (aQ _)) (je (PW.pt (uB (aG (lO 1 (B7 hr (by decide))) (aO Cstrays hr.m rfl (dX (pv 4))) (dS aJ) (aQ _)) (oV (aG (lO 1 (B7 hr (by decide))) (aO Crings_of hr.m rfl (dX (pv 4))) (dS aJ) (aQ _)))))))) (ah (az (gC))) (aK)) (
   ah (be (PW.pt (lQ (aG de (aS e9 (pv 9) (ao)) (aS e9 (bu bZ (by rfl) T.len PySem.boot_len (dX (pv 6))) (bu bZ (by rfl) T.len PySem.boot_len (dX (pv 8)))) (aQ _)) (je (aG (lO 1 (B7 hr (by decide))) (oU bP (pv 4) U.cl hr.m dY) (dS aJ) (aQ _))))) (ah (az (gC))) (aK)))))))) (
   ah (az (aO iH hr.m rfl (av (pv 4) (av (pv 1) (av (pv 2) (av (aS i6 (pv 3) (pv 7)) aJ)))))))))))))))),?_⟩
  have two:(2:Nat)<=sizeLine:=by decide
  refine⟨_,rfl,a,ns,rfl,hS,fun t w m ls H1 es s1 ht M R=>?_⟩;refine⟨t,_,rfl,eP.of ht,rfl,_,_,rfl,_,_,rfl,_,_,rfl,rfl,?_⟩;generalize hcn:dQ ns 1=cn at R;have L62:(a9 62 cn).length=62:=oA 62 cn;have rl:=R.len;have rx:=R.ex;have P:=lP R.dn R.nm es.length;rw[List.take_length]at P;have pm:=P.ml
  have hls:bg H1 ls es:=by have:=M.hs;rw[gI]at this;exact this
  refine⟨_,rfl,ls,es,a9 62 cn,rfl,hls,R.dn,by omega,by omega,R.nm,fun x B H2 hx E2=>?_⟩
  have nB:∀ b o,H1 b=some o->b∉B.fp:=fun b o e z=>by rw[E2.nfp b z]at e;cases e
  have wB:=nB _ _ M.hw;have mB:=nB _ _ M.hm;have hw2:=E2.same _ _ M.hw;have hm2:=E2.same _ _ M.hm;have hs2:=(M.on E2.same).hs;have S2:=E2.hall;have lno:=j8 P.good P.of;have PW:=cw P.good;have smk:∀ g∈aq (aw es).worn,aV g:=fun g hg=>cv (P.of.1 g hg);obtain⟨rs1,rs2⟩:=cO PW
  have h64:(aw es).worn.length<64:=by omega
  have hS2:=(s1.trans E2.same).seq hS;refine⟨_,rfl,a,ns,1,rfl,hS2,by decide,?_⟩;rw[hcn]
  have cyc:∀ g,(∀ y,cC (aw es).circ y g=false)->cD (aw es).circ g=[]:=fun g h=>by
   refine List.eq_nil_iff_forall_not_mem.mpr fun y hy=>?_;have:=P.good.cy g y;rw[h y]at this;unfold cC at this;rw[decide_eq_true hy]at this;cases this
  have ne:dC 60 cn≠dC 61 cn:=fun z=>by have:=uR (by decide) (by decide) z;omega
  have N:Nc es (dC 60 cn) (dC 61 cn):=⟨ne,R.l0,R.l1,cyc _ R.m0,cyc _ R.m1,oi _ _,oi _ _⟩
  have li:∀ g,look (aw es).worn g=some g->(look (aw es).worn g).isSome=true:=fun g e=>by rw[e];rfl
  have b0:=Int.emod_nonneg (dQ ns 2) (show (4:Int)≠0 by decide);have b1:=Int.emod_lt_of_pos (dQ ns 2) (show (0:Int)<4 by decide)
  apply Fv (fun σ HH=>∃ (l:Addr)(zs:List (Int×Int)),σ=[some (.ref a),some (.ref w),some (.ref m),some (.ref ls),some (.ref x),some (.int cn),some (.ref l),none,none,none,none]/\ay H2 HH/\cp HH l zs/\Gd es zs/\H2 l=none)
  ·intro rest
   refine⟨_,rfl,_,rfl,_,_,rfl,⟨by decide,by decide⟩,_,rfl,_,_,rfl,⟨by decide,by decide⟩,_,rfl,a,ns,2,rfl,hS2,by decide,_,_,rfl,rfl,by show (0:Int)<4;decide,?_⟩;refine⟨x,B,es,a9 62 cn,dC 60 cn,dC 61 cn,_,rfl,S2,P,h64,smk,by omega,N,⟨b0,b1⟩,fun H3 s3=>?_,fun l H3 zs hl s3 row gd=>?_⟩
   ·refine⟨_,rfl,_,rfl,bV ?_⟩
    refine⟨_,rfl,_,rfl,_,_,rfl,⟨by decide,by decide⟩,_,rfl,_,_,rfl,⟨by decide,by decide⟩,x,B,_,a9 62 cn,dC 60 cn,dC 61 cn,rfl,S2.mono s3,P.good,h64,smk,N.s1,N.s2,P.ci,by omega,li _ N.la,li _ N.lb,N.c1,N.c2,N.ne,fun l H4 hl s4 row=>?_⟩;exact rest _ _ ⟨l,_,rfl,s3.trans s4,row,BX P h64 N.ne N.la N.lb N.c1 N.c2,s3.free hl⟩
   ·refine⟨_,rfl,_,rfl,a7 ?_⟩
    exact rest _ _ ⟨l,zs,rfl,s3,row,gd,hl⟩
  rintro σ H3 ⟨l,zs,rfl,s3,row3,gd,hl⟩;obtain⟨dnA,nmA,hwr,hnil⟩:=DW R.dn R.nm (fun g hg=>⟨P.of.1 g hg,smk g hg⟩) gd P.good.wn;have zl:zs.length<=200:=gd.2.2;refine⟨_,rfl,l,_,rfl,row3,by omega,fun H4 s4=>⟨_,rfl,a7 ?_⟩⟩;have s24:=s3.trans s4;have row4:=row3.mono s4;obtain⟨as4,hl4,hp4⟩:=id row4;have al4:=Paired.length hp4
  have gdl:(aZ (aq (aw es).worn)).length=(aw es).worn.length:=by rw[(b7 _).length_eq];unfold aq;rw[List.length_map]
  refine⟨_,rfl,l,rfl,⟨_,aW.of hl4⟩,fun q5 hq5=>x6 (K:=K) (rest:=[]) hq5 row4 (by omega) fun H5 s5 d5=>?_⟩;have s25:=s24.trans s5;refine⟨_,rfl,w,_,aq (aw es).worn,rfl,s25 _ _ hw2,DU _,by unfold aq;rw[List.length_map];exact h64,fun gl hgl=>?_⟩;generalize eg:aZ (aq (aw es).worn)=gs at *;have s6:=aj (o:=.lst (gs.map V.int)) hgl;have hg6:upd H5 gl (.lst (gs.map V.int)) gl=some (.lst (gs.map V.int)):=ae;have d6:=bL d5 s6;have s26:=s25.trans s6;generalize upd H5 gl (.lst (gs.map V.int))=H6 at s6 hg6 d6 s26 ⊢;refine⟨_,rfl,_,rfl,gl,rfl,⟨_,aW.of hg6⟩,fun q7 hq7=>qX (K:=K) (rest:=[]) "go" aN.go (fun _=>rfl) hq7 hg6 (by omega) fun H7 s7 d7=>?_⟩;refine og (bL d6 s7) d7 (by rw[List.length_map,List.length_map];omega) fun q8 H8 hq8 s8 d8=>?_;have hg8:=s8 _ _ (s7 _ _ hg6);refine⟨_,rfl,gl,rfl,⟨_,aW.of hg8⟩,fun q9 hq9=>qX (K:=K) (rest:=[]) "come" aN.come (fun _=>rfl) hq9 hg8 (by omega) fun H9 s9 d9=>?_⟩;refine og (bL d8 s9) d9 (by rw[List.length_append,List.length_map,List.length_map,List.length_map];omega) fun q H10 hq10 s10 d10=>?_;have s6x:=((s7.trans s8).trans s9).trans s10;have s2x:=s26.trans s6x;have row10:=row4.mono ((s5.trans s6).trans s6x);have hg10:=s6x _ _ hg6;have hw10:=s2x _ _ hw2;have hm10:=s2x _ _ hm2
  have hs10:bg H10 ls es:=by have:=bL hs2 s2x;rw[gI]at this;exact this
  have d10:bg H10 q (jY zs gs):=d10;have E10:Ev c H H10 x B (aw es):=⟨s1.trans (E2.same.trans s2x),S2.mono s2x,P.good,fun b hb=>s1.free (E2.nfp b hb)⟩;have lB:l∉B.fp:=(E2.on (ay.refl _)).track hl;have gB:gl∉B.fp:=(E2.on s25).track hgl;have qB:q∉B.fp:=(E2.on ((s26.trans s7).trans (s8.trans s9))).track hq10
  have lsB:ls∉B.fp:=by obtain⟨ys,y1,y2⟩:=id hls;exact nB _ _ y1
  have dl:(jY zs gs).length=zs.length+gs.length+gs.length:=by unfold jY;rw[List.length_append,List.length_append,List.length_map,List.length_map,List.length_map]
  have t1:(jY zs gs).take zs.length=zs.map nU:=by unfold jY;rw[List.append_assoc];exact List.take_left' (by rw[List.length_map])
  have t2:(jY zs gs).take (zs.length+gs.length)=zs.map nU++gs.map aN.go:=by unfold jY;exact List.take_left' (by rw[List.length_append,List.length_map,List.length_map])
  generalize eds:jY zs gs=ds at *;clear s7 s8 s9 s10 d7 d8 d9 d5 d6 s25 s26 hq5 hq7 hq8 hq9 hq10 hgl hg8 hg6 row3 hl4 hp4 s3 s4 s5 s6 s24 row4 al4 s6x;obtain⟨qs,hq10,hqp10⟩:=id d10;have hql:=Paired.length hqp10;obtain⟨as4,hl10,hp10⟩:=id row10;have al4:=Paired.length hp10
  have et:∀ j,(es++ds).take (es.length+j)=es++ds.take j:=fun j=>by rw[List.take_append,List.take_of_length_le (by omega),show es.length+j-es.length=j by omega]
  have Pj:∀ j,Ey (a9 62 cn) (es++ds.take j):=fun j=>by have:=lP dnA nmA (es.length+j);rwa [et]at this
  have nw:∀ {b:Addr}{o:HO},H10 b=some o->(∀ kv,o≠.dK kv)->b≠w:=fun e n z=>by rw[z,hw10]at e;exact n _ (Option.some.inj e).symm
  have nmm:∀ {b:Addr}{o:HO},H10 b=some o->(∀ kv,o≠.dT kv)->b≠m:=fun e n z=>by rw[z,hm10]at e;exact n _ (Option.some.inj e).symm
  have zero:(0:Nat)<=sizeLine:=Nat.zero_le _
  refine⟨_,rfl,q,rfl,⟨_,aW.of hq10⟩,BV (K:=K) (a:=q) (xs:=qs.map V.ref) (fun i σ HH=>∃ (B':HA)(v9 v10:Option V),σ=[some (.ref a),some (.ref w),some (.ref m),some (.ref ls),some (.ref x),some (.int cn),some (.ref l),some (.ref q),some (.ref gl),v9,v10]/\Ev c H HH x B' (aw (es++ds.take i))/\HH w=some (.dK (dk (aw (es++ds.take i)).worn))/\HH m=some (.dT (sX (fF (es++ds.take i))))/\w∉B'.fp/\m∉B'.fp/\∀ b o,H10 b=some o->b∉B.fp->b≠w->b≠m->HH b=some o/\b∉B'.fp)
   ⟨B,none,none,rfl,by simpa using E10,by simpa using hw10,by simpa using hm10,wB,mB,fun b o e n _ _=>⟨e,n⟩⟩ (fun i σ HH _ ⟨_,_,_,_,_,_,_,_,_,kk⟩=>aW.of (kk _ _ hq10 qB (nw hq10 (by intro kv z;cases z)) (nmm hq10 (by intro kv z;cases z))).1) ?_ ?_⟩
  ·rintro i y σ HH T hi ⟨B',v9,v10,rfl,E,hwi,hmi,wB',mB',kk⟩ hTn
   obtain⟨t,ht,rfl⟩:=bo hi;obtain⟨d,hd,hT0⟩:=aU hqp10 ht;have il:=(List.getElem?_eq_some_iff.mp hd).1;have sT:=aj (o:=.tup [.int (i:Int),.ref t]) hTn;have hTT:upd HH T (.tup [.int (i:Int),.ref t]) T=some (.tup [.int (i:Int),.ref t]):=ae;have E:=E.on sT;have hwi:=sT _ _ hwi;have hmi:=sT _ _ hmi;have kk:∀ b o,H10 b=some o->b∉B.fp->b≠w->b≠m->upd HH T (.tup [.int (i:Int),.ref t]) b=some o/\b∉B'.fp:=fun b o e n n1 n2=>⟨sT _ _ (kk b o e n n1 n2).1,(kk b o e n n1 n2).2⟩;generalize upd HH T (.tup [.int (i:Int),.ref t])=HH at hTT E hwi hmi kk ⊢;have tupK:∀ {b:Addr}{xs:List V},H10 b=some (.tup xs)->HH b=some (.tup xs)/\b∉B'.fp:=fun {b xs} e=>kk b _ e (E10.hall.tup e) (nw e (by intro kv z;cases z)) (nmm e (by intro kv z;cases z))
   have hT:HH t=some (bN d):=by rw[iO]at hT0 ⊢;exact (tupK hT0).1
   have Pi:=Pj i;have Pn:=Pj (i+1)
   have en:es++ds.take (i+1)=(es++ds.take i)++[d]:=by rw[List.take_add_one,hd,Option.toList_some,List.append_assoc]
   have hj:ba (aw (es++ds.take i)) d=.done:=by
    have:=dnA (es.length+i) d (by rw[List.getElem?_append_right (by omega),show es.length+i-es.length=i by omega];exact hd)
    rwa [et]at this
   have hnm:=nmA d (List.mem_append_right _ (List.mem_of_getElem? hd))
   have szi:(es++ds.take i).length<=450:=by rw[List.length_append,List.length_take];omega
   have ft:=BS Pi.good Pi.of (by omega) Pi.sz szi;refine⟨T,_,rfl,eP.of hTT,rfl,_,_,rfl,_,_,rfl,rfl,?_⟩;refine⟨_,rfl,_,rfl,_,rfl,w,m,t,_,_,d,rfl,hwi,hmi,hT,fun r H1 hr1 s1 hrt=>⟨two,fun t9 ht9=>?_⟩⟩;rw[jX Pi.al,hj]at hrt;have s9:=aj (o:=.tup [.str "done",.non]) ht9;have h9:upd H1 t9 (.tup [.str "done",.non]) t9=some (.tup (xv .done)):=ae;have sA:=s1.trans s9;have hr9:=s9 _ _ hrt;generalize upd H1 t9 (.tup [.str "done",.non])=H11 at s9 h9 sA hr9 ⊢;refine⟨r,t9,_,_,rfl,rfl,C7 hr9,C7 h9,fun b hb=>⟨_,rfl,?_⟩⟩;rw[show (if true=true then !b else b)=false by rw[hb.mpr rfl];rfl];have EA:=E.on sA;refine a7 ⟨_,rfl,_,rfl,x,t,B',_,d,rfl,sA _ _ hT,EA.hall,ft,EA.good,fun g hg=>(hnm g hg).2,?_⟩;unfold sR;rw[if_pos hj];intro H12 mv
   have ew:after (aw (es++ds.take i)) d=aw (es++ds.take (i+1)):=by rw[en,dt]
   rw[ew]at mv;obtain⟨B2,E12,kp12,tr12⟩:=EA.moved mv Pn.good;obtain⟨hw12,wB2⟩:=kp12 w _ (sA _ _ hwi) wB';obtain⟨hm12,mB2⟩:=kp12 m _ (sA _ _ hmi) mB'
   have hT12:H12 t=some (bN d):=by rw[iO]at hT0 ⊢;exact (kp12 _ _ (sA _ _ (tupK hT0).1) (tupK hT0).2).1
   have lni:=j8 Pi.good Pi.of;have lnn:=j8 Pn.good Pn.of;have pmi:=Pi.ml;have pfl:=List.length_filter_le iU (es++ds.take i);refine⟨_,rfl,_,rfl,_,rfl,w,m,t,_,_,d,rfl,hw12,hm12,hT12,by omega,by omega,(jX Pi.al d).trans hj,fun H13 h13w h13m k13=>?_⟩;rw[<-iK,ew]at h13w;rw[<-uv,<-en]at h13m;have wm:w≠m:=M.wm
   have E13:Ev c H H13 x B2 (aw (es++ds.take (i+1))):=by
    refine E12.write (ws:=[w,m]) (fun b o e n=>k13 b o e (fun z=>n (by rw[z];simp)) (fun z=>n (by rw[z];simp))) (fun y hy=>?_) (fun n=>?_) (fun y hy=>?_) (fun b xs e n=>?_)
    ·rcases List.mem_cons.mp hy with z | z
     ·rw[z];exact wB2
     ·rw[List.mem_singleton.mp z];exact mB2
    ·have ob:=E12.hall.ob
     rcases List.mem_cons.mp n with z | z
     ·rw[z,hw12]at ob;cases ob
     ·rw[List.mem_singleton.mp z,hm12]at ob;cases ob
    ·rcases List.mem_cons.mp hy with z | z
     ·rw[z];exact M.w0
     ·rw[List.mem_singleton.mp z];exact M.m0
    ·rcases List.mem_cons.mp n with z | z
     ·rw[z,hw12]at e;cases e
     ·rw[List.mem_singleton.mp z,hm12]at e;cases e
   have kk13:∀ b o,H10 b=some o->b∉B.fp->b≠w->b≠m->H13 b=some o/\b∉B2.fp:=fun b o e n n1 n2=>by
    obtain⟨e1,e2⟩:=kk b o e n n1 n2;obtain⟨e3,e4⟩:=kp12 b o (sA _ _ e1) e2;exact⟨k13 b o e3 n1 n2,e4⟩
   have hl13:=(kk13 _ _ hl10 lB (nw hl10 (by intro kv z;cases z)) (nmm hl10 (by intro kv z;cases z))).1;have hg13:=(kk13 _ _ hg10 gB (nw hg10 (by intro kv z;cases z)) (nmm hg10 (by intro kv z;cases z))).1;clear kk kp12 k13 E12 EA E hw12 hm12 hwi hmi hrt hr9 h9 s9 s1 sA;have smn:∀ g∈aq (aw (es++ds.take (i+1))).worn,aV g:=fun g hg=>cv (Pn.of.1 g hg)
   have n64:(aw (es++ds.take (i+1))).worn.length<64:=by omega
   refine⟨_,rfl,_,_,rfl,rfl,_,rfl,l,_,rfl,.inl (aW.of hl13),rfl,_,rfl,?_⟩;rw[List.length_map]
   apply Df (fun HX=>ay H13 HX)
   ·intro rest
    by_cases e1:((i:Int)+1)=(as4.length:Int)
    ·rw[decide_eq_true (congrArg V.int e1)]
     have ei:i+1=zs.length:=by omega
     have hwn:aF (aw (es++ds.take (i+1))).worn=[]:=by rw[ei,t1];exact hwr
     have hrn:ar (aw (es++ds.take (i+1))).worn=[]:=by unfold ar;rw[hwn];rfl
     refine bV ⟨_,rfl,x,B2,_,rfl,E13.hall,Pn.good,n64,smn,fun l14 H14 hl14 s14 h14=>⟨zero,fun p14 hp14=>?_⟩⟩;rw[hwn]at h14;have s15:=aj (o:=.lst []) hp14;refine⟨l14,p14,_,_,rfl,rfl,fA (ns:=[]) (aW.of (s15 _ _ h14)),fA (ns:=[]) (aW.of ae),fun b hb=>⟨_,rfl,?_⟩⟩;rw[show (if true=true then !b else b)=false by rw[hb.mpr rfl];rfl];have s16:=s14.trans s15;generalize upd H14 p14 (.lst [])=H16 at s16 ⊢;refine a7 ⟨_,rfl,x,B2,_,rfl,(E13.on s16).hall,Pn.good,n64,smn,fun l17 as17 H17 hl17 s17 h17 p17 f17=>⟨zero,fun p18 hp18=>?_⟩⟩;rw[hrn]at p17;have ea:as17=[]:=List.eq_nil_of_length_eq_zero (Paired.length p17);rw[ea]at h17;have s18:=aj (o:=.lst []) hp18;refine⟨l17,p18,_,_,rfl,rfl,fA (ns:=[]) (aW.of (s18 _ _ h17)),fA (ns:=[]) (aW.of ae),fun b hb=>⟨_,rfl,?_⟩⟩;rw[show (if true=true then !b else b)=false by rw[hb.mpr rfl];rfl];have s19:=(s16.trans s17).trans s18;generalize upd H17 p18 (.lst [])=H19 at s19 ⊢;exact a7 (rest _ s19)
    ·rw[decide_eq_false (fun z=>e1 (V.int.inj z))]
     exact a7 (a7 (rest _ (ay.refl _)))
   intro H20 s20;have E20:=E13.on s20;refine⟨_,rfl,_,_,rfl,rfl,_,rfl,l,_,rfl,.inl (aW.of (s20 _ _ hl13)),_,rfl,gl,_,rfl,.inl (aW.of (s20 _ _ hg13)),_,_,rfl,rfl,rfl,_,rfl,?_⟩;rw[List.length_map,List.length_map]
   apply Df (fun HX=>ay H13 HX)
   ·intro rest
    by_cases e1:((i:Int)+1)=(as4.length:Int)+(gs.length:Int)
    ·rw[decide_eq_true (congrArg V.int e1)]
     have ei:i+1=zs.length+gs.length:=by omega
     have hwn:(aw (es++ds.take (i+1))).worn=[]:=by rw[ei,t2];exact hnil
     have nG:(bx B2).lookup ("guests" : Str)=none:=om B2 (by decide +kernel);refine bV ⟨_,rfl,x,B2.dx,_,rfl,E20.hall.ob,nG,x,B2,_,rfl,E20.hall,n64,fun l14 hl14=>⟨zero,fun p14 hp14=>?_⟩⟩;have s14:=aj (o:=.lst ((aZ (aq (aw (es++ds.take (i+1))).worn)).map V.int)) hl14
     have h14:upd H20 l14 (.lst ((aZ (aq (aw (es++ds.take (i+1))).worn)).map V.int)) l14=some (.lst (([]:List Int).map V.int)):=by rw[ae,hwn,Bl.mpr (show aq []=[] from rfl)]
     generalize upd H20 l14 (.lst ((aZ (aq (aw (es++ds.take (i+1))).worn)).map V.int))=H14 at s14 h14 hp14 ⊢;have s15:=aj (o:=.lst []) hp14;refine⟨l14,p14,_,_,rfl,rfl,fA (ns:=[]) (aW.of (s15 _ _ h14)),fA (ns:=[]) (aW.of ae),fun b hb=>⟨_,rfl,?_⟩⟩;rw[show (if true=true then !b else b)=false by rw[hb.mpr rfl];rfl];have s16:=(s20.trans s14).trans s15;generalize upd H14 p14 (.lst [])=H16 at s16 ⊢;exact a7 (rest _ s16)
    ·rw[decide_eq_false (fun z=>e1 (V.int.inj z))]
     exact a7 (a7 (rest _ s20))
   intro H21 s21;exact⟨B2,_,_,rfl,E13.on s21,s21 _ _ h13w,s21 _ _ h13m,wB2,mB2,fun b o e n n1 n2=>⟨s21 _ _ (kk13 b o e n n1 n2).1,(kk13 b o e n n1 n2).2⟩⟩
  ·rintro σ HH ⟨B',v9,v10,rfl,E,hwi,hmi,wB',mB',kk⟩
   rw[List.length_map,hql,List.take_length]at E hwi hmi;have Pn:=Pj ds.length;rw[List.take_length]at Pn;have kq:∀ {b:Addr}{o:HO},H10 b=some o->b∉B.fp->(∀ kv,o≠.dK kv)->(∀ kv,o≠.dT kv)->HH b=some o:=fun e n n1 n2=>(kk _ _ e n (nw e n1) (nmm e n2)).1;have dk10:∀ {b:Addr}{xs:List V},H10 b=some (.tup xs)->HH b=some (.tup xs):=fun {b xs} e=>kq e (E10.hall.tup e) (by intro kv z;cases z) (by intro kv z;cases z)
   have dmv:∀ {lx:Addr}{fs:List aN},bg H10 lx fs->lx∉B.fp->bg HH lx fs:=fun {lx fs} h n=>by
    obtain⟨ys,y1,y2⟩:=h;refine⟨ys,kq y1 n (by intro kv z;cases z) (by intro kv z;cases z),Paired.mapP y2 fun b f z=>?_⟩;rw[iO]at z ⊢;exact dk10 z
   have hs:=dmv hs10 lsB;have hd:=dmv d10 qB;have lnn:=j8 Pn.good Pn.of;have pmn:=Pn.ml;have pfl:=List.length_filter_le iU (es++ds)
   have szn:(es++ds).length<=450:=by rw[List.length_append];omega
   refine⟨_,rfl,_,rfl,_,rfl,_,rfl,_,rfl,og hs hd (by omega) fun ls2 H14 hls2 s14 d14=>?_⟩;refine⟨x,w,m,ls2,B',_,_,a9 62 cn,rfl,(E.on s14).hall,wB',s14 _ _ hwi,s14 _ _ hmi,by rw[gI];exact d14,Pn.good,Pn.al,Pn.ci,Pn.mo,by omega,by omega,by omega,fun g hg=>cv (Pn.of.1 g hg),fun H15 s15=>k _⟩
end
theorem all_mk2 {l:PySem.W.OpenLaw}{w:World}{K:PySem.W.Frag}{h:Heap}{mg:Str->Option Value}{fa:Addr}{C cW cA cM cS cT cN fN co cq:Addr}(X:K.In h)(G:h.Ns mainGlobals mg)(hfa:mg "law" = some (.ref fa))(aC:PySem.W.nsIn K mainGlobals "Hall" = some (some (.ref C)))(n_cW:PySem.W.nsIn K mainGlobals "WaltzError" = some (some (.ref cW)))(n_cA:PySem.W.nsIn K mainGlobals "AlreadyIn" = some (some (.ref cA)))(n_cM:PySem.W.nsIn K mainGlobals "Masked" = some (some (.ref cM)))(n_cS:PySem.W.nsIn K mainGlobals "Same" = some (some (.ref cS)))(n_cT:PySem.W.nsIn K mainGlobals "Met" = some (some (.ref cT)))(n_cN:PySem.W.nsIn K mainGlobals "NoGuest" = some (some (.ref cN)))(b_cN:PySem.W.findIn K (.ref cN) "__init__" = some (some (.ref fN)))(pg:PySem.W.plainGet K C Str.empty=true)(hd:PySem.W.hasDictIn K C=true)(po:PySem.W.plainOver K C=true)(sa:PySem.W.findIn K (.ref C) "__setattr__" = some (some (.builtin "object.__setattr__")))(zM:PySem.W.findIn K (.ref C) "worn" = some none)(rG:PySem.W.findIn K (.ref C) "holders" = some none)(rF:PySem.W.findIn K (.ref C) "circles" = some none)(xc:PySem.W.findIn K (.ref C) "deeds" = some none)(e_cA:eB K cA)(e_cM:eB K cM)(e_cS:eB K cS)(e_cT:eB K cT)(e_cN:lF K cN fN=true)(g1:PySem.W.findIn K (.ref cN) "__getattribute__" = some (some (.builtin "BaseException.__getattribute__")))(g2:PySem.W.findIn K (.ref cN) "__getattr__" = some none)(g3:PySem.W.findIn K (.ref cN) "__setattr__" = some (some (.builtin "object.__setattr__")))(g4:PySem.W.findIn K (.ref cN) "guest" = some none)(g5:PySem.W.hasDictIn K cN=true)(g6:PySem.W.mroIn K cN (.type "BaseException")=some true)(g7:PySem.W.mroIn K cN (.type "object")=some true)(g8:((PySem.W.clsIn K cN).any fun cd=>iC cd.mro)=true)(tN:PySem.W.typeIn K (.ref fN)=some (.type "function"))(wS:PySem.W.specialIn K (.ref cW) "__getattribute__" = some (some (.builtin "type.__getattribute__")))(wR:PySem.W.readsIn K cW (.type "type")=true)(wI:PySem.W.findCls K (.ref cW) (.type "type") "__init__" = some (.val (.builtin "ValueError.__init__")))(x_aa:PySem.W.exmOne K (.ref cA) (.ref cA)=some true)(x_ma:PySem.W.exmOne K (.ref cM) (.ref cA)=some false)(x_mm:PySem.W.exmOne K (.ref cM) (.ref cM)=some true)(x_sa:PySem.W.exmOne K (.ref cS) (.ref cA)=some false)(x_sm:PySem.W.exmOne K (.ref cS) (.ref cM)=some false)(x_ss:PySem.W.exmOne K (.ref cS) (.ref cS)=some true)(x_ta:PySem.W.exmOne K (.ref cT) (.ref cA)=some false)(x_tm:PySem.W.exmOne K (.ref cT) (.ref cM)=some false)(x_ts:PySem.W.exmOne K (.ref cT) (.ref cS)=some false)(x_tt:PySem.W.exmOne K (.ref cT) (.ref cT)=some true)(x_na:PySem.W.exmOne K (.ref cN) (.ref cA)=some false)(x_nm:PySem.W.exmOne K (.ref cN) (.ref cM)=some false)(x_ns:PySem.W.exmOne K (.ref cN) (.ref cS)=some false)(x_nt:PySem.W.exmOne K (.ref cN) (.ref cT)=some false)(x_nn:PySem.W.exmOne K (.ref cN) (.ref cN)=some true)(mk:PySem.W.makesIn K C=true)(kc:PySem.W.keepIn K (.ref C)=true)(n_co:PySem.W.nsIn K mainGlobals "NoWay" = some (some (.ref co)))(n_cq:PySem.W.nsIn K mainGlobals "NotNew" = some (some (.ref cq)))(e_co:eB K co)(e_cq:eB K cq)(x_oo:PySem.W.exmOne K (.ref co) (.ref co)=some true)(x_oq:PySem.W.exmOne K (.ref co) (.ref cq)=some false)(x_on:PySem.W.exmOne K (.ref co) (.ref cN)=some false)(x_qq:PySem.W.exmOne K (.ref cq) (.ref cq)=some true)(x_qn:PySem.W.exmOne K (.ref cq) (.ref cN)=some false)(k6:aX K "_law_cell_at" gO)(qM:aX K "_law_size" kA)(pJ:aX K "_law_guest" jp)(tV:aX K "_law_new" lY)(pG:aX K "_law_crowd" jn)(qJ:aX K "_law_deed" ku)(pI:aX K "_law_draws" jo)(iw:aX K "_law_draws_from" eK)(pH:aX K "_law_deeds" eJ)(tU:aX K "_law_key" lX)(tT:aX K "_law_due" lW)(pF:aX K "_law_after" jm)(k7:aX K "_law_evening" gP)(qK:aX K "_law_more" ky)(pK:aX K "_law_ready" jq)(pD:cX K C "__init__" "Hall.__init__" jk)(mj:cX K C "dress" "Hall.dress" ii)(pC:cX K C "come" "Hall.come" jj)(jL:cX K cN "__init__" "NoGuest.__init__" fQ)(mx:cX K C "wears" "Hall.wears" ip)(tR:cX K C "go" "Hall.go" lU)(qH:cX K C "met" "Hall.met" km)(ju:cX K C "acquaint" "Hall.acquaint" fh)(jv:cX K C "exchange" "Hall.exchange" fj)(vZ:aX K "_law_do" ph)(k8:aX K "_law_hall_of" gQ)(kX:cX K C "inside" "Hall.inside" gK)(jw:cX K C "partners" "Hall.partners" fk)(vY:aX K "is_new" o9)(pE:aX K "check_two" f7)(kW:cX K C "guests" "Hall.guests" gJ)(v0:aX K "strays" kR)(pN:aX K "ring_with" jt)(qN:aX K "rings_of" kB)(jO:aX K "rings_by_two" cf)(tY:aX K "two_row" l6)(vX:aX K "hub_of" iG)(pM:aX K "ring_home" f8)(jy:aX K "rings_by_hubs" fm)(jx:aX K "hubless_rings" du)(mz:aX K "loose_ring" ir)(k9:aX K "stuck_rings" eO)(jN:aX K "rings_by_one" dO)(qI:aX K "home_row" hJ)(tS:aX K "hub_row" lV)(tX:aX K "one_row" lZ)(jM:aX K "_law_way_told" fR)(pL:aX K "_law_whole" js)(qL:aX K "_law_pair" kz)(tW:aX K "_law_row" jr)(mw:cX K C "story" "Hall.story" io)(kY:cX K C "moment" "Hall.moment" gL)(mq:cX K C "pairs" "Hall.pairs" fB)(kZ:cX K C "wearer" "Hall.wearer" gM)(my:aX K "_law_stands" iq)(Eu:aX K "law" pe)(EO:PySem.W.nsIn K mainGlobals "len" = some none)(Aj:PySem.W.nsIn K mainGlobals "range" = some none)(nO:PySem.W.nsIn K mainGlobals "isinstance" = some none)(Ak:PySem.W.nsIn K mainGlobals "tuple" = some none)(Dx:PySem.W.nsIn K mainGlobals "list" = some none)(EN:PySem.W.nsIn K mainGlobals "int" = some none)(Dv:PySem.W.nsIn K mainGlobals "bool" = some none)(EL:PySem.W.nsIn K mainGlobals "all" = some none)(EM:PySem.W.nsIn K mainGlobals "any" = some none)(xR:PySem.W.nsIn K mainGlobals "sorted" = some none)(sP:PySem.W.nsIn K mainGlobals "reversed" = some none)(ES:PySem.W.nsIn K mainGlobals "set" = some none)(ER:PySem.W.nsIn K mainGlobals "min" = some none)(EQ:PySem.W.nsIn K mainGlobals "max" = some none)(Dw:PySem.W.nsIn K mainGlobals "dict" = some none)(EV:PySem.W.nsIn K mainGlobals "zip" = some none)(p7:PySem.W.nsIn K mainGlobals "enumerate" = some none)(EU:PySem.W.nsIn K mainGlobals "sum" = some none)(ET:PySem.W.nsIn K mainGlobals "str" = some none) :
  ∃ fd:FuncData,(∀ (s:Shared)(v:Value),BindsTo s fd ⟨[v],[]⟩ [("_law_script",v)])/\∀ base:Heap,K.In base->base.Ns mainGlobals mg->bb l.prog w K mg base cL 10 fa fd ["_law_script"] (zW K):=by
 obtain⟨c,rfl,rfl,rfl,rfl,rfl,rfl,rfl,rfl⟩:∃ c:HX,c.C=C/\c.cW=cW/\c.cA=cA/\c.cM=cM/\c.cS=cS/\c.cT=cT/\c.cN=cN/\c.fN=fN:=⟨⟨C,cW,cA,cM,cS,cT,cN,fN⟩,rfl,rfl,rfl,rfl,rfl,rfl,rfl,rfl⟩;have T:HR mg:=⟨PySem.W.mg_none_of X G EO,PySem.W.mg_none_of X G Aj,PySem.W.mg_none_of X G nO,PySem.W.mg_none_of X G Ak,PySem.W.mg_none_of X G Dx,PySem.W.mg_none_of X G EN,PySem.W.mg_none_of X G Dv,PySem.W.mg_none_of X G EL,PySem.W.mg_none_of X G EM,PySem.W.mg_none_of X G xR,PySem.W.mg_none_of X G sP,PySem.W.mg_none_of X G ES,PySem.W.mg_none_of X G ER,PySem.W.mg_none_of X G EQ,PySem.W.mg_none_of X G Dw,PySem.W.mg_none_of X G EV,PySem.W.mg_none_of X G p7,PySem.W.mg_none_of X G EU,PySem.W.mg_none_of X G ET⟩;have U:HT K mg c:=⟨⟨pg,hd,po,sa⟩,zM,rG,rF,xc,PySem.W.mg_of X G aC,e_cA,e_cM,e_cS,e_cT,PySem.W.mg_of X G n_cA,PySem.W.mg_of X G n_cM,PySem.W.mg_of X G n_cS,PySem.W.mg_of X G n_cT,PySem.W.mg_of X G n_cN,PySem.W.mg_of X G n_cW,e_cN,⟨g1,g2,g3,g4,g5,g6,g7,g8⟩,tN,wS,wR,wI⟩;have VM:HM K c:=⟨x_aa,x_ma,x_mm,x_sa,x_sm,x_ss,x_ta,x_tm,x_ts,x_tt,x_na,x_nm,x_ns,x_nt,x_nn⟩;have UO:HN K mg c co cq:=⟨e_co,PySem.W.mg_of X G n_co,e_cq,PySem.W.mg_of X G n_cq,x_oo,x_oq,x_on,x_qq,x_qn⟩;obtain⟨f_Hall_init,uO,a_Hall_init,i_Hall_init,G_Hall_init⟩:=pD;obtain⟨f_NoGuest_init,qa,a_NoGuest_init,i_NoGuest_init,G_NoGuest_init⟩:=jL;obtain⟨f_law,E9,a_law,G_law⟩:=Eu;have e:=hfa.symm.trans (PySem.W.mg_of X G a_law);cases e;have eN:=Option.some.inj (Option.some.inj (a_NoGuest_init.symm.trans b_cN))
 have eN2:f_NoGuest_init=c.fN:=by injection eN
 refine⟨E9,?_,fun base _ _=>?_⟩
 ·obtain⟨_,_,_,_,_,_,_,_,_,rfl,_,_⟩:=G_law.ex
  exact fun s v=>.of_eq rfl
 ·have bh:au l.prog w K mg base "_law_cell_at" 1 ["_law_script","_law_k"] (sv K):=kJ X G k6 fun _ _ h=>rO T U VM UO h
  have eX:au l.prog w K mg base "_law_size" 1 ["_law_cell"] vN:=kJ X G qM fun _ _ h=>xo T U VM UO h;have b5:au l.prog w K mg base "_law_guest" 2 ["_law_k","_law_cell"] nu:=kJ X G pJ fun _ _ h=>vn T U VM UO h eX;have ca:au l.prog w K mg base "_law_new" 3 ["_law_k","_law_cell"] vK:=kJ X G tV fun _ _ h=>yE T U VM UO h b5;have jG:au l.prog w K mg base "_law_crowd" 1 ["_law_cell"] vG:=kJ X G pG fun _ _ h=>vj T U VM UO h;have lC:au l.prog w K mg base "_law_deed" 3 ["_law_drawn","_law_many","_law_cell"] vH:=kJ X G qJ fun _ _ h=>xl T U VM UO h b5;have jI:au l.prog w K mg base "_law_draws" 2 ["_law_cell","_law_many","_law_base"] vI:=kJ X G pI fun _ _ h=>vm T U VM UO h eX;have eW:au l.prog w K mg base "_law_draws_from" 3 ["_law_script","_law_start","_law_most","_law_base"] (y6 K):=kJ X G iw fun _ _ h=>mY T U VM UO h jI;have jH:au l.prog w K mg base "_law_deeds" 4 ["_law_script"] (sx K):=kJ X G pH fun _ _ h=>vk T U VM UO h bh jG b5 lC eW;have gi:au l.prog w K mg base "_law_key" 1 ["_law_one","_law_other"] zV:=kJ X G tU fun _ _ h=>yD T U VM UO h;have gf:au l.prog w K mg base "_law_due" 2 ["_law_worn","_law_met","_law_deed_here"] zU:=kJ X G tT fun _ _ h=>yC T U VM UO h gi;have cj:au l.prog w K mg base "_law_after" 2 ["_law_worn","_law_met","_law_deed_here"] nj:=kJ X G pF fun _ _ h=>vi T U VM UO h gi;have hU:au l.prog w K mg base "_law_evening" 6 ["_law_script"] (lS K):=kJ X G k7 fun _ _ h=>rP T U VM UO h jH gf cj;have lD:au l.prog w K mg base "_law_more" 3 ["_law_state","_law_deeds_here"] vJ:=kJ X G qK fun _ _ h=>xm T U VM UO h cj
  have jJ:au l.prog w K mg base "_law_ready" 7 ["_law_script"] (vM K):=kJ X G pK fun _ _ h=>vo T U VM UO h bh ca hU lD;have MH:G4 l.prog w K mg base c:=⟨f_Hall_init,uO,⟨mk,a_Hall_init,i_Hall_init,kc⟩,vg T U VM UO G_Hall_init ,(G_Hall_init.binds (ps:=["self"]) (by intro _ _ _ _ _ _;(repeat refine Cc fun _=>?_);exact Gn rfl))⟩;have cP:aP l.prog w K mg base cL c.C "dress" 1 ["self","guest","mask"] (qA c.C):=zJ mj fun _ _ h=>tw T U VM UO h;have jQ:aP l.prog w K mg base (jD l.prog w) c.C "come" 2 ["self","guest"] (y3 c):=zJ pC fun _ _ h=>vf T U VM UO h cP;have NG:jR l.prog w K mg base c:=⟨qa,eN2▸qh T U VM UO G_NoGuest_init ,(G_NoGuest_init.binds (ps:=["self","guest"]) (by intro _ _ _ _ _ _;(repeat refine Cc fun _=>?_);exact Gn rfl))⟩;have aR:aP l.prog w K mg base (jD l.prog w) c.C "wears" 3 ["self","guest"] (ji c):=zJ mx fun _ _ h=>tE T U VM UO h NG;have nX:aP l.prog w K mg base (jD l.prog w) c.C "go" 4 ["self","guest"] (Fy c):=zJ tR fun _ _ h=>yA T U VM UO h aR;have eY:aP l.prog w K mg base cL c.C "met" 1 ["self","one","other"] (zX c.C):=zJ qH fun _ _ h=>xj T U VM UO h;have dJ:aP l.prog w K mg base cL c.C "acquaint" 1 ["self","one","other"] (Dg c.C):=zJ ju fun _ _ h=>oJ T U VM UO h;have fM:aP l.prog w K mg base (jD l.prog w) c.C "exchange" 4 ["self","one","other"] (y4 c):=zJ jv fun _ _ h=>oK T U VM UO h aR eY cP dJ;have iu:XCallee l.prog w K mg base "_law_do" 5 ["_law_hall","_law_deed_here"] (En c):=Go X G vZ fun _ _ h=>AX T U VM UO h jQ nX fM;have hV:au l.prog w K mg base "_law_hall_of" 7 ["_law_story"] (o6 c):=kJ X G k8 fun _ _ h=>rQ T U VM UO h MH iu
  have cV:aP l.prog w K mg base cL c.C "inside" 1 ["self","guest"] (ny c.C):=zJ kX fun _ _ h=>rL T U VM UO h;have bB:aP l.prog w K mg base cL c.C "partners" 1 ["self","guest"] (gH c.C):=zJ jw fun _ _ h=>oM T U VM UO h;have Cis_new:XCallee l.prog w K mg base "is_new" 4 ["hall","guest"] (qC c):=Go X G vY fun _ _ h=>AW T U VM UO h cV NG bB;have Ccheck_two:au l.prog w K mg base "check_two" 5 ["hall","one","other"] (jh c):=kJ X G pE fun _ _ h=>vh T U VM UO h Cis_new;have bP:aP l.prog w K mg base cL c.C "guests" 1 ["self"] (kj c.C):=zJ kW fun _ _ h=>rK T U VM UO h;have Cstrays:au l.prog w K mg base "strays" 4 ["hall"] (nA c):=kJ X G v0 fun _ _ h=>AY T U VM UO h bP aR;have Cring_with:XCallee l.prog w K mg base "ring_with" 5 ["hall","guest"] (qE c):=Go X G pN fun _ _ h=>vt T U VM UO h aR
  have Crings_of:au l.prog w K mg base "rings_of" 6 ["hall"] (f6 c):=kJ X G qN fun _ _ h=>xp T U VM UO h Cstrays Cring_with
  have Crings_by_two:au l.prog w K mg base "rings_by_two" 1 ["rings","one","other"] qz:=kJ X G jO fun _ _ h=>qk T U VM UO h;have Ctwo_row:au l.prog w K mg base "two_row" 7 ["hall","one","other"] (nF c):=kJ X G tY fun _ _ h=>yI T U VM UO h Ccheck_two Crings_of Crings_by_two;have Chub_of:au l.prog w K mg base "hub_of" 2 ["hall","ring"] (nv c):=kJ X G vX fun _ _ h=>AV T U VM UO h bB;have Cring_home:au l.prog w K mg base "ring_home" 2 ["ring"] lT:=kJ X G pM fun _ _ h=>vq T U VM UO h;have Crings_by_hubs:au l.prog w K mg base "rings_by_hubs" 6 ["hall","rings"] (kP c):=kJ X G jy fun _ _ h=>oO T U VM UO h Chub_of Cring_with Cring_home;have Chubless_rings:au l.prog w K mg base "hubless_rings" 7 ["hall"] (kQ c):=kJ X G jx fun _ _ h=>oN T U VM UO h Crings_of Chub_of;have Cloose_ring:au l.prog w K mg base "loose_ring" 2 ["hall","ring"] (qD c):=kJ X G mz fun _ _ h=>tG T U VM UO h eY;have Cstuck_rings:au l.prog w K mg base "stuck_rings" 7 ["hall"] (nE c):=kJ X G k9 fun _ _ h=>rR T U VM UO h Crings_of Cloose_ring;have Crings_by_one:au l.prog w K mg base "rings_by_one" 3 ["hall","rings","one"] (nk c):=kJ X G jN fun _ _ h=>qj T U VM UO h Cloose_ring;have Chome_row:au l.prog w K mg base "home_row" 8 ["hall","one","other"] (o7 c):=kJ X G qI fun _ _ h=>xk T U VM UO h Ccheck_two Crings_of Chub_of Crings_by_hubs Chubless_rings Cstuck_rings Crings_by_two Crings_by_one;have Chub_row:XCallee l.prog w K mg base "hub_row" 8 ["hall"] (sD c co):=Go X G tS fun _ _ h=>yB T U VM UO h Chubless_rings Crings_by_hubs Crings_of
  have Cone_row:XCallee l.prog w K mg base "one_row" 8 ["hall","one"] (sF c co cq):=Go X G tX fun _ _ h=>yH T U VM UO h Cis_new Cstuck_rings Crings_by_one Crings_of;have gr:au l.prog w K mg base "_law_way_told" 9 ["_law_hall","_law_one","_law_other","_law_kind"] (y9 c):=kJ X G jM fun _ _ h=>qi T U VM UO h Ctwo_row Chome_row Chub_row Cone_row;have gT:au l.prog w K mg base "_law_whole" 1 ["_law_found"] vP:=kJ X G pL fun _ _ h=>vp T U VM UO h;have lE:au l.prog w K mg base "_law_pair" 2 ["_law_found"] vL:=kJ X G qL fun _ _ h=>xn T U VM UO h gT;have nV:au l.prog w K mg base "_law_row" 3 ["_law_found"] y7:=kJ X G tW fun _ _ h=>yF T U VM UO h lE;have iJ:aP l.prog w K mg base cL c.C "story" 1 ["self"] (vO c.C):=zJ mw fun _ _ h=>tD T U VM UO h;have hX:aP l.prog w K mg base cL c.C "moment" 1 ["self"] (sE c.C):=zJ kY fun _ _ h=>rM T U VM UO h;have iI:aP l.prog w K mg base cL c.C "pairs" 2 ["self"] (sy c.C):=zJ mq fun _ _ h=>tz T U VM UO h bB;have hZ:aP l.prog w K mg base (jD l.prog w) c.C "wearer" 3 ["self","mask"] (sG c):=zJ kZ fun _ _ h=>rN T U VM UO h NG;have iH:au l.prog w K mg base "_law_stands" 4 ["_law_hall","_law_worn","_law_met","_law_story"] (o8 c):=kJ X G my fun _ _ h=>tF T U VM UO h bP iJ hX iI cV aR hZ;exact Fk T U VM UO G_law jJ hV bh gr ca Ctwo_row nV gf iu cj Cstrays Crings_of bP iH
theorem walk {l:PySem.W.OpenLaw}{q:Program}{loose:List Str}{XP:(Str->Option Value)->Heap->Prop}{YP:World->Heap->Prop}{d:DefRec}{K:Params->PySem.W.Frag}(hn:l.most=some 63)(hdf:d.params.defaults=[])
  (hY:∀ (w:World)(h:Heap),YP w h->(K w.params).In h)
  (F:∀ (w:World)(mg:Str->Option Value)(fa:Addr)(h:Heap),(K w.params).In h->h.Ns mainGlobals mg->mg d.name=some (.ref fa) ->
   ∃ fd:FuncData,(∀ (s:Shared)(u:Value),BindsTo s fd ⟨[u],[]⟩ [("_law_script",u)])/\∀ base:Heap,(K w.params).In base->base.Ns mainGlobals mg->bb l.prog w (K w.params) mg base cL 10 fa fd ["_law_script"] (zW (K w.params))) :
  PySem.W.WalkO q loose XP YP l.row.toRowW d [] (fun f vs=>PySem.call f vs) :=
 L2.walk_of (n:=63) (k:=10) (x:="_law_script") (CX:=fun _=>cL) (sp:=fun w=>zW (K w.params)) hn (by decide) hdf ⟨rfl,by decide,by decide⟩ hY F (fun _ _ a ns hl _ hS=>⟨a,ns,rfl,hS,hl,fun _=>rfl⟩) fun _ _ _ _ _ z=>z
end Wk28
namespace PySem.W.Fast
def tw3790536221491614603:=0
def tw2605605631864003511:=0
def tw9413747290018474776:=0
def tw10436707292005141628:=0
def tw5836538774684298354:=0
def tw1814820793524863779:=0
def tw6087287350123911755:=0
def tw3150055905232765784:=0
def tw4573272675744316652:=0
def tw1863466993447479507:=0
def tw187920780829796968:=0
def tw12878585832371134851:=0
def tw14742749090889020002:=0
def tw8662334270828410337:=0
def tw16077100523622134447:=0
def tw18295969100855428902:=0
def tw15536441425707424605:=0
def tw2706787824207724423:=0
def tw7431953779433486690:=0
def tw11933464471056421850:=0
def tw12433019251216833703:=0
def tw13948297738969326210:=0
def tw7941953117525631312:=0
def tw3750697251203045121:=0
def tw11386284255628000318:=0
def tw17751404224364368813:=0
def tw14404157582227485500:=0
def tw13328881550022785723:=0
def tw5497231554570622521:=0
def tw10676647847257471919:=0
def tw11857231050214940124:=0
def tw8463973152803535114:=0
def tw6050635782981472981:=0
def tw18292408192116777003:=0
def tw7334981954135132797:=0
def tw5808007470935633358:=0
def tw2806269025042317545:=0
def tw2767191939217674492:=0
def tw13131417128439776309:=0
def tw18405361592959226985:=0
def tw11568267496220667807:=0
def tw13575865098720295518:=0
def tw9295262821653837763:=0
def tw11744092826047382563:=0
def tw9943524921275892125:=0
def tw4930139784177030627:=0
def tw9868486965997740247:=0
def tw1528446963034598486:=0
def tw4950295744083384620:=0
def tw2006579205100920053:=0
def tw6277443706567008552:=0
def tw15175418886262139979:=0
def tw629471008135895985:=0
def tw6269082008822896010:=0
def tw9680077371267602793:=0
def tw8210204237165323902:=0
def tw12000079291287237806:=0
def tw7768479537575670289:=0
def tw13618859638931099690:=0
def tw4959001439511238326:=0
def tw2440508518835470383:=0
def tw13228329753058183983:=0
def tw9503406166538466624:=0
def tw11101633098148328879:=0
def tw864623053815178173:=0
def tw6210445610733591508:=0
def tw138414344205551118:=0
def tw10450195914056101871:=0
def tw11306062818128033631:=0
def tw4992194725419502432:=0
def tw9975683995800434480:=0
def tw5910024909431556658:=0
def tw8660912771464422846:=0
def tw1362779238160030329:=0
def tw9376720212294673504:=0
def tw17278495661899175866:=0
def tw11971578695180888101:=0
def tw6815878861573938321:=0
def tw2375575781810358059:=0
def tw4051242289346470265:=0
def tw2686989514480727503:=0
def tw9715919785717757558:=0
def tw15134289443559657797:=0
def tw11371140851788812671:=0
def tw9987422553819107391:=0
def tw1668401998647193547:=0
def tw9075053241505880120:=0
def tw5985055429051966156:=0
def tw2760138401883816552:=0
def tw10131063254847535924:=0
def tw14618503098318341312:=0
def tw8798183623789201698:=0
def tw16455887484651971892:=0
def tw18230233069282380631:=0
def tw13411530923437735276:=0
def tw9402841629433092284:=0
def tw12336552561714373580:=0
def tw4188127280841146595:=0
def tw448044792623479355:=0
def tw100315658247297453:=0
def tw7103175227848659003:=0
def tw10715044987676173606:=0
def tw13348196803618142018:=0
def tw10231057233373789204:=0
def tw8762121268671272624:=0
def tw16453820384601620376:=0
def tw11622682783972576417:=0
def tw13171856746215482283:=0
def tw13550786887725480630:=0
def tw2796853505964304917:=0
def tw7948949020011472433:=0
def tw325433138666228061:=0
def tw11210626772010570119:=0
def tw11046132939132748248:=0
def tw1310913170933643143:=0
def tw14253401005837933832:=0
def tw3819568318160207169:=0
def tw18191594578791384681:=0
def tw10056971404422178185:=0
def tw9493550463328963443:=0
def tw1040680086107569501:=0
def tw18333504208076457071:=0
def tw411462958639720442:=0
def tw6743290676293972227:=0
def tw3886568436957420257:=0
def tw4351368119981540677:=0
def tw17048903376809019709:=0
def tw608264056141851043:=0
def tw5384373563918254259:=0
def tw5301559237147715556:=0
def tw1345039904925110664:=0
def tw13708275292947627337:=0
def tw5734568823122337264:=0
def tw1141981832219685625:=0
def tw6938368816208273649:=0
def tw16604282542773535285:=0
def tw11000282895236757659:=0
def tw11593698407808412508:=0
def tw11475491563903584138:=0
def tw6540915978834310119:=0
def tw853193746610545686:=0
def tw16040140294477025306:=0
def tw8265152502594436244:=0
def tw10646202744610007249:=0
def tw1827933167295785774:=0
def tw12086932067829520506:=0
def tw994763622058329234:=0
def tw4504958131499986907:=0
def tw10923434672165547761:=0
def tw12822052040499855061:=0
def tw4875857856665422416:=0
def tw18063234787979462343:=0
def tw14885630547959316023:=0
def tw17759286813336088760:=0
def tw11589466050544220113:=0
def tw11993355114122827699:=0
def tw1721541772756310331:=0
def tw14580841697310894012:=0
def tw2561231251439422204:=0
def tw15589233863619710391:=0
def tw5574241228045464370:=0
def tw13325982472349120635:=0
def tw5761026595663506905:=0
def tw599101367226552243:=0
def tw1208739610431385517:=0
def tw1208210529133303670:=0
def tw17829784322065357530:=0
def tw3403420822265956562:=0
def tw96188694681489446:=0
def tw5266636447756723882:=0
def tw10097338836089695116:=0
def tw8183279146870118934:=0
def tw2725823843168874610:=0
def tw17010217735665334051:=0
def tw690244776554690306:=0
def tw9644018136536964255:=0
def tw3227762732477599808:=0
def tw6183750030646920167:=0
def tw11415245579474898626:=0
def tw4352656370105514076:=0
def tw5679788471572564044:=0
def tw1212845994103324250:=0
def tw16174003625642466614:=0
def tw5545553814702859279:=0
def tw12757449289375558506:=0
def tw9552266808320235962:=0
def tw7952923971413935460:=0
def tw7941940880720545004:=0
def tw7030958133893517006:=0
def tw12243739827302892113:=0
def tw7650094338876843539:=0
def tw13689712599760381035:=0
def tw12910440801008106297:=0
def tw4886965548433070415:=0
def tw4556013105663113556:=0
def tw9257428217207918249:=0
def tw5721959951431621730:=0
def tw16774165780014071025:=0
def tw5665330138520228901:=0
def tw4702500959579534069:=0
def tw522144825552527211:=0
def tw642163642030279403:=0
def tw9875081648237162504:=0
def tw15425387062498931985:=0
def tw2163542634338648075:=0
def tw5705468367514336063:=0
def tw3509518145278495429:=0
def tw17567061646666161925:=0
def tw11906830541312715008:=0
def tw13708964319776014655:=0
def tw14705937773613245525:=0
def tw16548346971024691628:=0
def tw15812541841148040170:=0
def tw12704318466860450150:=0
def tw9650319354805935712:=0
def tw7146028999729243275:=0
def tw213582389941474587:=0
def tw8868539370703319648:=0
def tw16399747924411983812:=0
def tw15868909967697328754:=0
def tw9362366357446308036:=0
def tw11180015216081885892:=0
def tw2852533621854085587:=0
def tw9778773919680030877:=0
def tw11418572479262576491:=0
def tw13170781832803223922:=0
def tw5971505007595229307:=0
def tw14998746352038256309:=0
def tw9247296666639603809:=0
def tw7659501955610412234:=0
def tw7814104698134586426:=0
def tw6436859385400995421:=0
def tw6062471908870617326:=0
def tw3119076682255595702:=0
def tw4929889116934541216:=0
def tw2368728425562880819:=0
def tw15762358011059599685:=0
def tw18291983533342153730:=0
def tw22831947195577506:=0
def tw15387536935748628628:=0
def tw5478448855832873718:=0
def tw11846066730650306676:=0
def tw10493879595178663861:=0
def tw16384493680703612880:=0
def tw13781226527851262167:=0
def tw2664230204084094646:=0
def tw10430458906044486081:=0
def tw6443221038558830038:=0
def tw11446669619084748561:=0
def tw17696084178164175844:=0
def tw13719086042188013543:=0
def tw12847328929655684990:=0
def tw17007396102095954232:=0
def tw6269453516466198040:=0
def tw12258466247345557099:=0
def tw14772245675443097121:=0
def tw392831469297725908:=0
def tw2216086042689611729:=0
def tw14864730665284719158:=0
def tw17500140542533087456:=0
def tw2778881101235111073:=0
def tw8659997067516772642:=0
def tw13469299909113374378:=0
def tw18063939893029363937:=0
def tw5110077823210248129:=0
def tw312379664339589284:=0
def tw11642678135264965412:=0
def tw469021370764965190:=0
def tw9283530368032596780:=0
def tw16641115020586065037:=0
def tw14824288647616115098:=0
def tw5501152964928291275:=0
end PySem.W.Fast
open PySem PySem.W PyProof.Rows
set_option maxRecDepth 100000 in
set_option maxHeartbeats 0 in
theorem PySem.Challenge.cw_lastwaltz_k28_whole_the_last_waltz_holds : PySem.Challenge.rw_lastwaltz_k28_whole_the_last_waltz.Holds := by
 w_on;o_law;k_head;(case hw=>w_witness2)
 k_fill
 refine Wk28.walk (l:=PySem.Challenge.rw_lastwaltz_k28_whole_the_last_waltz) rfl rfl (fun w h Y=>PySem.W.kIn_of Y) ?F
 case F =>
  intro w mg fa h KX G hmg;refine' Wk28.all_mk2 KX G hmg ?aC ?n_cW ?n_cA ?n_cM ?n_cS ?n_cT ?n_cN ?b_cN ?pg ?hd ?po ?sa ?zM ?rG ?rF ?xc ?e_cA ?e_cM ?e_cS ?e_cT ?e_cN ?g1 ?g2 ?g3 ?g4 ?g5 ?g6 ?g7 ?g8 ?tN ?wS ?wR ?wI ?x_aa ?x_ma ?x_mm ?x_sa ?x_sm ?x_ss ?x_ta ?x_tm ?x_ts ?x_tt ?x_na ?x_nm ?x_ns ?x_nt ?x_nn ?mk ?kc ?n_co ?n_cq ?e_co ?e_cq ?x_oo ?x_oq ?x_on ?x_qq ?x_qn ?k6 ?qM ?pJ ?tV ?pG ?qJ ?pI ?iw ?pH ?tU ?tT ?pF ?k7 ?qK ?pK ?pD ?mj ?pC ?jL ?mx ?tR ?qH ?ju ?jv ?vZ ?k8 ?kX ?jw ?vY ?pE ?kW ?v0 ?pN ?qN ?jO ?tY ?vX ?pM ?jy ?jx ?mz ?k9 ?jN ?qI ?tS ?tX ?jM ?pL ?qL ?tW ?mw ?kY ?mq ?kZ ?my ?Eu ?EO ?Aj ?nO ?Ak ?Dx ?EN ?Dv ?EL ?EM ?xR ?sP ?ES ?ER ?EQ ?Dw ?EV ?p7 ?EU ?ET
  (case aC=>k_is)
  (case n_cW=>k_is)
  (case n_cA=>k_is)
  (case n_cM=>k_is)
  (case n_cS=>k_is)
  (case n_cT=>k_is)
  (case n_cN=>k_is)
  (case b_cN=>k_is)
  (case e_cA=>kernel_rfl)
  (case e_cM=>kernel_rfl)
  (case e_cS=>kernel_rfl)
  (case e_cT=>kernel_rfl)
  (case e_cN=>kernel_rfl)
  (case g8=>kernel_rfl)
  (case x_aa=>kernel_rfl)
  (case x_ma=>kernel_rfl)
  (case x_mm=>kernel_rfl)
  (case x_sa=>kernel_rfl)
  (case x_sm=>kernel_rfl)
  (case x_ss=>kernel_rfl)
  (case x_ta=>kernel_rfl)
  (case x_tm=>kernel_rfl)
  (case x_ts=>kernel_rfl)
  (case x_tt=>kernel_rfl)
  (case x_na=>kernel_rfl)
  (case x_nm=>kernel_rfl)
  (case x_ns=>kernel_rfl)
  (case x_nt=>kernel_rfl)
  (case x_nn=>kernel_rfl)
  (case n_co=>k_is)
  (case n_cq=>k_is)
  (case e_co=>kernel_rfl)
  (case e_cq=>kernel_rfl)
  (case x_oo=>kernel_rfl)
  (case x_oq=>kernel_rfl)
  (case x_on=>kernel_rfl)
  (case x_qq=>kernel_rfl)
  (case x_qn=>kernel_rfl)
  all_goals first | (refine' Wz.fact_mk ?a ?l ?c ?k;(case a=>k_is);(case l=>k_is);(case c=>k_is);(case k=>k_is)) | (refine' Wz.mfact_mk ?a ?i ?l ?c ?k;(case a=>k_is);(case i=>k_is);(case l=>k_is);(case c=>k_is);(case k=>k_is)) | k_is
