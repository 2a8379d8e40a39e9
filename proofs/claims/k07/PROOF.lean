import PyProof.Rows.All
import Wide.All
import OpenK.AllK
import Wide.FinOn
import Lean
import PyProof.EqAt
import PyProof.EqKinds
import PyProof.TupleCall
import PyProof.NeData
import PyProof.DictItems
import PyProof.JoinWalk
import PyProof.CallStr
import OpenK.KOwn
import KE.KTryMore
import PyProof.EnumMake
import KE.KLam
import KE.KNestM
import KE.KEqDict
import PySem.Challenge.RW_lastwaltz_k07_a_quadrille
set_option Elab.async false
set_option linter.all false
set_option maxRecDepth 100000
set_option maxHeartbeats 4000000
namespace L2
open PySem PySem.Spec PyProof.Rows
abbrev Key:=Sum Int Str
def keyIs:Key→Value→Bool
 | .inl k,v=>Value.isInt k v
 | .inr x,v=>Value.isStrOf x v
def keyH (w:World):Key→Int
 | .inl k=>hashInt k
 | .inr x=>hashStr w x
theorem keyIs_shape:∀ {k:Key}{v:Value},keyIs k v=true→(∃ i t,k=Sum.inl i∧v=Value.int i t)∨(∃ x t,k=Sum.inr x∧v=Value.str x t)
 | .inl i,v,h=>by
  obtain⟨t,e⟩:=Value.isInt_shape (k:=i) (v:=v) h
  exact .inl ⟨i,t,rfl,e⟩
 | .inr x,v,h=>by
  obtain⟨t,e⟩:=Value.isStrOf_shape (x:=x) (v:=v) h
  exact .inr ⟨x,t,rfl,e⟩
theorem keyIs_int (i:Int)(t:Tok):keyIs (.inl i) (.int i t)=true:=by simp[keyIs,Value.isInt]
theorem keyIs_str (x:Str)(t:Tok):keyIs (.inr x) (.str x t)=true:=by simp[keyIs,Value.isStrOf]
theorem key_ll (a b:Int):decide ((Sum.inl a:Key)=Sum.inl b)=(a == b):=by
 by_cases e:a=b
 ·subst e;simp
 ·have h:¬ (Sum.inl a:Key)=Sum.inl b:=fun q=>e (Sum.inl.inj q)
  rw[decide_eq_false h]
  exact (beq_eq_false_iff_ne.mpr e).symm
theorem key_rr (a b:Str):decide ((Sum.inr a:Key)=Sum.inr b)=decide (a=b):=by
 by_cases e:a=b
 ·subst e;simp
 ·have h:¬ (Sum.inr a:Key)=Sum.inr b:=fun q=>e (Sum.inr.inj q)
  rw[decide_eq_false h,decide_eq_false e]
theorem key_lr (a:Int)(b:Str):decide ((Sum.inl a:Key)=Sum.inr b)=false:=decide_eq_false (fun q=>nomatch q)
theorem key_rl (a:Str)(b:Int):decide ((Sum.inr a:Key)=Sum.inl b)=false:=decide_eq_false (fun q=>nomatch q)
def mixKind (prog:Program)(w:World):PySem.KeyKind prog w Key where
 is:=keyIs
 hash:=keyH w
 inj:=fun v a b ha hb=>by
  rcases keyIs_shape ha with ⟨i,t,rfl,rfl⟩ | ⟨x,t,rfl,rfl⟩
  ·rcases keyIs_shape hb with ⟨j,u,rfl,e⟩ | ⟨y,u,rfl,e⟩
   ·injection e with e1 _;rw[e1]
   ·exact nomatch e
  ·rcases keyIs_shape hb with ⟨j,u,rfl,e⟩ | ⟨y,u,rfl,e⟩
   ·exact nomatch e
   ·injection e with e1 _;rw[e1]
 byValue:=fun k v h=>by
  rcases keyIs_shape h with ⟨i,t,rfl,rfl⟩ | ⟨x,t,rfl,rfl⟩<;>rfl
 pyHash:=fun hv h=>by
  rcases keyIs_shape hv with ⟨i,t,rfl,rfl⟩ | ⟨x,t,rfl,rfl⟩
  ·exact wpAny_pyHash_int h
  ·exact wpAny_pyHash_str h
 eqBool:=fun hu hv h=>by
  rcases keyIs_shape hu with ⟨i,t,rfl,rfl⟩ | ⟨x,t,rfl,rfl⟩
  ·rcases keyIs_shape hv with ⟨j,u,rfl,rfl⟩ | ⟨y,u,rfl,rfl⟩
   ·rw[key_ll]at h;exact wpAny_eqBool_int h
   ·rw[key_lr]at h;exact SeqAt.EqAt.int_str i t y u _ _ _ _ h
  ·rcases keyIs_shape hv with ⟨j,u,rfl,rfl⟩ | ⟨y,u,rfl,rfl⟩
   ·rw[key_rl]at h;exact SeqAt.EqAt.str_int x t j u _ _ _ _ h
   ·rw[key_rr]at h;exact wpAny_eqBool_str h
 «strs»:=fun k x t v h=>by
  rcases keyIs_shape h with ⟨i,u,rfl,e⟩ | ⟨y,u,rfl,e⟩
  ·exact nomatch e
  ·injection e with e1 _
   subst e1
   cases v<;>rfl
theorem mixKind_int (prog:Program)(w:World)(i:Int)(t:Tok):(mixKind prog w).is (.inl i) (.int i t)=true:=keyIs_int i t
theorem mixKind_str (prog:Program)(w:World)(x:Str)(t:Tok):(mixKind prog w).is (.inr x) (.str x t)=true:=keyIs_str x t
end L2
namespace L2
open PySem PySem.Spec PyProof.Rows
inductive V where
 | non | bl (b:Bool) | int (i:Int) | str (x:Str) | byt (b:Array UInt8) | flt (b:UInt64) | ref (a:Addr) | ty (n:String)
 deriving DecidableEq
def RelV:V→Value→Prop
 | .non,u=>u=Value.none
 | .bl b,u=>u=Value.bool b
 | .int i,u=>∃ t,u=Value.int i t
 | .str x,u=>∃ t,u=Value.str x t
 | .byt b,u=>∃ t,u=Value.bytes b t
 | .flt b,u=>∃ t,u=Value.float b t
 | .ref a,u=>u=Value.ref a
 | .ty n,u=>u=Value.type n
abbrev Vals:List V→List Value→Prop:=Paired RelV
theorem Vals.length {xs:List V}{us:List Value}(r:Vals xs us):xs.length=us.length:=Paired.length r
theorem Vals.get:∀ {xs:List V}{us:List Value}{i:Nat}{x:V},Vals xs us→xs[i]? = some x→∃ u,us[i]? = some u∧RelV x u
 | _,_,_,_,.nil,e=>by simp at e
 | _,_,0,_,.cons r _,e=>by simp at e;subst e;exact⟨_,rfl,r⟩
 | _,_,i+1,x,.cons _ t,e=>by
  obtain⟨u,h1,h2⟩:=Vals.get (i:=i) (x:=x) t (by simpa using e)
  exact⟨u,by simpa using h1,h2⟩
theorem Vals.set {x:V}{u:Value}(r:RelV x u):∀ {xs:List V}{us:List Value}(i:Nat),Vals xs us→Vals (xs.set i x) (us.set i u)
 | _,_,_,.nil=>.nil
 | _,_,0,.cons _ t=>.cons r t
 | _,_,i+1,.cons q t=>.cons q (Vals.set r i t)
theorem Vals.append:∀ {xs ys:List V}{us ws:List Value},Vals xs us→Vals ys ws→Vals (xs++ys) (us++ws)
 | _,_,_,_,.nil,s=>s
 | _,_,_,_,.cons r t,s=>.cons r (Vals.append t s)
theorem Vals.take:∀ {xs:List V}{us:List Value}(n:Nat),Vals xs us→Vals (xs.take n) (us.take n)
 | _,_,0,_=>.nil
 | _,_,_+1,.nil=>.nil
 | _,_,n+1,.cons r t=>.cons r (Vals.take n t)
theorem Vals.drop:∀ {xs:List V}{us:List Value}(n:Nat),Vals xs us→Vals (xs.drop n) (us.drop n)
 | _,_,0,r=>r
 | _,_,_+1,.nil=>.nil
 | _,_,n+1,.cons _ t=>Vals.drop n t
def RelO:Option V→Option Value→Prop
 | some v,some u=>RelV v u
 | none,none=>True
 | _,_=>False
def KV {κ:Type}:List (κ×V)→List (κ×Value)→Prop:=Paired fun (p:κ×V)(q:κ×Value)=>p.1=q.1∧RelV p.2 q.2
def kV:Key→V
 | .inl i=>.int i
 | .inr x=>.str x
inductive HO where
 | lst (xs:List V)
 | tup (xs:List V)
 | dK (kvs:List (Key×V)) | dT (kvs:List (List Key×V))
 | set (S:Int→Bool) (n:Nat)
 | ins (C dx:Addr) (fs:List (Str×V))
 | own (x:Addr)
 | xd (fs:List (Str×V))
 | met (f x:Addr)
 | rng (lo hi:Int)
 | frz (o:Obj) (u:HO)
 | tbl (ps:Array Value)
 | ext (φ:Heap→Prop)
abbrev Hp:=Addr→Option HO
def upd (H:Hp)(a:Addr)(o:HO):Hp:=fun b=>if b=a then some o else H b
theorem upd_same {H:Hp}{a:Addr}{o:HO}:upd H a o a=some o:=by unfold upd;rw[if_pos rfl]
theorem upd_ne {H:Hp}{a b:Addr}{o:HO}(h:b≠a):upd H a o b=H b:=by unfold upd;rw[if_neg h]
theorem upd_upd {H:Hp}{a:Addr}{o u:HO}:upd (upd H a o) a u=upd H a u:=by
 funext b;unfold upd;split<;>rfl
theorem ne_of {H:Hp}{a b:Addr}{o u:HO}(h:H a=some o)(h':H b=some u)(d:o≠u):a≠b:=by
 intro e;subst e;rw[h]at h';exact d (Option.some.inj h')
theorem ne_of_none {H:Hp}{a b:Addr}{o:HO}(h:H a=some o)(h':H b=none):a≠b:=by
 intro e;subst e;rw[h]at h';cases h'
section
variable (P:Program)(w:World)
def ObjOk (H:Hp)(h:Heap)(a:Addr):HO→Prop
 | .lst xs=>xs.length≤sizeLine∧∃ (its:List Value)(n:Nat),Vals xs its∧h.get? a=some { cls:=.type "list",data:=.seq its.toArray n }
 | .tup xs=>xs.length≤sizeLine∧∃ its:List Value,Vals xs its∧IsTup h a its.toArray
 | .dK kvs=>kvs.length≤sizeLine∧(a == sysModules)=false∧∃ vs,KV kvs vs∧h.DictOf (mixKind P w) a vs
 | .dT kvs=>kvs.length≤sizeLine∧(a == sysModules)=false∧∃ xs:List (List Key×Addr×Value),
   Paired (fun (p:List Key×V)(q:List Key×Addr×Value)=>p.1=q.1∧H q.2.1=some (.tup (p.1.map kV))∧RelV p.2 q.2.2) kvs xs ∧
   ∃ o es ep,h.get? a=some o∧o.ExactDict∧o.data=.dict es ep∧es.toList=xs.map (entryOfKey (tupleKind (mixKind P w)))∧(xs.map (·.1)).Nodup
 | .set S n=>h.SetOf (intKind P w) a S n
 | .ins C dx fs=>H dx=some (.own a)∧fs.length≤1000∧dx≠a∧h.get? a=some (PySem.W.instObj C dx) ∧
   ∃ mA,h.Ns1 dx mA∧(∀ f,RelO (fs.lookup f) (mA f))∧PySem.Within mA (fs.map (·.1))
 | .own _=>∃ o,h.get? a=some o
 | .xd fs=>∃ mA,h.Ns1 a mA∧∀ f,RelO (fs.lookup f) (mA f)
 | .rng lo hi=>∃ t u v,h.get? a=some { cls:=.type "range",data:=.fields #[.int lo t,.int hi u,.int 1 v] }
 | .frz o u=>h.get? a=some o∧ObjOk H h a u
 | .tbl ps=>h.get? a=some { cls:=.none,data:=.fields ps }
 | .met f x=>h.get? a=some (PySem.W.methodObj (.ref f) (.ref x))
 | .ext φ=>φ h∧(∃ o,h.get? a=some o)∧∀ h1 h2:Heap,φ h1→(∀ o,h1.get? a=some o→h2.get? a=some o)→φ h2
def HOk (H:Hp)(h:Heap):Prop:=∀ a o,H a=some o→ObjOk P w H h a o
end
section
variable {P:Program}{w:World}{H H':Hp}{h h':Heap}{a:Addr}{o:HO}
theorem ObjOk.lt (x:ObjOk P w H h a o):a<h.objs.size:=by
 cases o with
 | lst xs=>obtain⟨_,_,_,_,e⟩:=x;exact Heap.lt_size e
 | tup xs=>obtain⟨_,_,_,p⟩:=x;exact p.lt
 | dK kvs=>obtain⟨_,_,_,_,o,_,_,e,_⟩:=x;exact Heap.lt_size e
 | dT kvs=>obtain⟨_,_,_,_,o,_,_,e,_⟩:=x;exact Heap.lt_size e
 | set S n=>obtain⟨o,_,_,_,e,_⟩:=x;exact Heap.lt_size e
 | ins C dx fs=>obtain⟨_,_,_,e,_⟩:=x;exact Heap.lt_size e
 | own y=>obtain⟨_,e⟩:=x;exact Heap.lt_size e
 | xd fs=>obtain⟨_,⟨_,_,_,e,_⟩,_⟩:=x;exact Heap.lt_size e
 | rng lo hi=>obtain⟨_,_,_,e⟩:=x;exact Heap.lt_size e
 | frz ob u=>obtain⟨e,_⟩:=x;exact Heap.lt_size e
 | tbl ps=>exact Heap.lt_size (show h.get? a=some _ from x)
 | met f y=>exact Heap.lt_size (show h.get? a=some _ from x)
 | ext φ=>obtain⟨_,⟨_,e⟩,_⟩:=x;exact Heap.lt_size e
theorem Paired.mapP {α β:Type}{F G:α→β→Prop}:∀ {l₁:List α}{l₂:List β},Paired F l₁ l₂→(∀ a b,F a b→G a b)→Paired G l₁ l₂
 | _,_,.nil,_=>.nil
 | _,_,.cons r t,f=>.cons (f _ _ r) (Paired.mapP t f)
theorem ObjOk.stay (x:ObjOk P w H h a o)(k:∀ b u,(b=a∨H b=some (.own a))→h.get? b=some u→h'.get? b=some u)
  (ho:∀ b,H b=some (.own a)→H' b=some (.own a)) (ht:∀ b xs,H b=some (.tup xs)→H' b=some (.tup xs)):ObjOk P w H' h' a o:=by
 induction o with
 | lst xs=>obtain⟨z,its,n,r,e⟩:=x;exact⟨z,its,n,r,k _ _ (.inl rfl) e⟩
 | tup xs=>obtain⟨z,its,r,ob,e,c⟩:=x;exact⟨z,its,r,ob,k _ _ (.inl rfl) e,c⟩
 | dK kvs=>obtain⟨z,y,vs,r,ob,es,ep,e,c⟩:=x;exact⟨z,y,vs,r,ob,es,ep,k _ _ (.inl rfl) e,c⟩
 | dT kvs =>
  obtain⟨z,y,xs,r,ob,es,ep,e,c⟩:=x
  exact⟨z,y,xs,Paired.mapP r fun p q z=>⟨z.1,ht _ _ z.2.1,z.2.2⟩,ob,es,ep,k _ _ (.inl rfl) e,c⟩
 | set S n=>obtain⟨ob,es,ep,t,e,c⟩:=x;exact⟨ob,es,ep,t,k _ _ (.inl rfl) e,c⟩
 | ins C dx fs =>
  obtain⟨d,z,ne,e,mA,⟨od,es,ep,e2,c⟩,r⟩:=x
  exact⟨ho _ d,z,ne,k _ _ (.inl rfl) e,mA,⟨od,es,ep,k _ _ (.inr d) e2,c⟩,r⟩
 | own y=>obtain⟨ob,e⟩:=x;exact⟨ob,k _ _ (.inl rfl) e⟩
 | xd fs=>obtain⟨mA,⟨od,es,ep,e,c⟩,r⟩:=x;exact⟨mA,⟨od,es,ep,k _ _ (.inl rfl) e,c⟩,r⟩
 | rng lo hi=>obtain⟨t,u,v,e⟩:=x;exact⟨t,u,v,k _ _ (.inl rfl) e⟩
 | frz ob u ih=>obtain⟨e,q⟩:=x;exact⟨k _ _ (.inl rfl) e,ih q⟩
 | tbl ps =>
  have e:h.get? a=some { cls:=.none,data:=.fields ps }:=x
  show h'.get? a=some { cls:=.none,data:=.fields ps }
  exact k a _ (.inl rfl) e
 | met f y =>
  have e:h.get? a=some (PySem.W.methodObj (.ref f) (.ref y)):=x
  show h'.get? a=some (PySem.W.methodObj (.ref f) (.ref y))
  exact k a _ (.inl rfl) e
 | ext φ=>obtain⟨p,⟨o,e⟩,st⟩:=x;exact⟨st _ _ p fun o q=>k _ _ (.inl rfl) q,⟨o,k _ _ (.inl rfl) e⟩,st⟩
theorem HOk.lt (x:HOk P w H h)(e:H a=some o):a<h.objs.size:=(x a o e).lt
theorem HOk.fresh (x:HOk P w H h)(e:h.objs.size≤a):H a=none:=by
 cases q:H a with
 | none=>rfl
 | some u=>exact absurd (Nat.lt_of_lt_of_le (x.lt q) e) (Nat.lt_irrefl _)
theorem HOk.kept (x:HOk P w H h)(k:∀ b u,h.get? b=some u→h'.get? b=some u):HOk P w H h':=fun a o e =>
 (x a o e).stay (fun b u _ q=>k b u q) (fun _ q=>q) fun _ _ q=>q
theorem HOk.laid (x:HOk P w H h)(k:∀ b u,h.get? b=some u→h'.get? b=some u)(hp:h.objs.size≤a)(new:ObjOk P w (upd H a o) h' a o):HOk P w (upd H a o) h':=fun b u e=>by
 have hn:=x.fresh hp
 by_cases hb:b=a
 ·subst hb;rw[upd_same]at e;cases e;exact new
 ·rw[upd_ne hb]at e
  exact (x b u e).stay (fun c v _ q=>k c v q) (fun c q=>by rw[upd_ne (ne_of_none q hn)];exact q) fun c xs q=>by rw[upd_ne (ne_of_none q hn)];exact q
end
def Rd (H:Hp)(a:Addr)(u:HO):Prop:=H a=some u∨∃ o,H a=some (.frz o u)
theorem Rd.ok {P:Program}{w:World}{H:Hp}{h:Heap}{a:Addr}{u:HO}(r:Rd H a u)(x:HOk P w H h):ObjOk P w H h a u:=by
 rcases r with r | ⟨o,r⟩
 ·exact x a u r
 ·obtain⟨_,q⟩:=x a _ r
  exact q
def Mut:Option HO→Prop
 | some (.lst _)=>True
 | some (.dK _)=>True
 | some (.dT _)=>True
 | some (.set _ _)=>True
 | some (.ins _ _ _)=>True
 | some (.ext _)=>True
 | _=>False
section
variable {P:Program}{w:World}{H:Hp}{h h':Heap}{x e:Addr}{o':HO}
theorem HOk.write (ok:HOk P w H h)(mu:Mut (H x))(he:e=x∨H e=some (.own x))(k:∀ b u,b≠e→h.get? b=some u→h'.get? b=some u)(heo:∃ u,h'.get? e=some u)
  (new:ObjOk P w (upd H x o') h' x o'):HOk P w (upd H x o') h':=fun b u q=>by
 have nown:∀ c y,H c=some (.own y)→c≠x:=fun c y r z=>by subst z;rw[r]at mu;exact mu
 have ntup:∀ c xs,H c=some (.tup xs)→c≠x:=fun c xs r z=>by subst z;rw[r]at mu;exact mu
 by_cases hb:b=x
 ·subst hb;rw[upd_same]at q;cases q;exact new
 ·rw[upd_ne hb]at q
  by_cases hbe:b=e
  ·have q':H b=some (.own x):=by
    rcases he with z | z
    ·exact absurd (hbe.trans z) hb
    ·rw[hbe];exact z
   rw[q]at q';cases q'
   obtain⟨v,hv⟩:=heo
   exact⟨v,by rw[hbe];exact hv⟩
  ·refine (ok b u q).stay (fun c v hc r=>k c v ?_ r) (fun c r=>by rw[upd_ne (nown c b r)];exact r) fun c xs r=>by rw[upd_ne (ntup c xs r)];exact r
   rcases hc with rfl | hc
   ·exact hbe
   ·rintro rfl
    rcases he with z | z
    ·exact nown c b hc z
    ·rw[hc]at z;cases z;exact hb rfl
end
structure Un (fs ex:List Addr)(H H':Hp)(h h':Heap):Prop where
 keep:∀ b o,h.get? b=some o→H b=none→b∉fs→b∉ex→h'.get? b=some o
 slot:∀ b o,h.get? b=some o→H b=none→b∈fs→b∉ex→∃ sl,h'.get? b=some { o with slots:=sl }
 free:∀ b o,h.get? b=some o→H b=none→b∉ex→H' b=none
 there:∀ b o,h.get? b=some o→b∉ex→∃ o',h'.get? b=some o'
 tups:∀ b xs,H b=some (.tup xs)→H' b=some (.tup xs)
 frzs:∀ b o u,H b=some (.frz o u)→H' b=some (.frz o u)
 tbls:∀ b ps,H b=some (.tbl ps)→∃ more,H' b=some (.tbl (ps++more))
section
variable {fs fs' ex ex':List Addr}{H H1 H2:Hp}{h h1 h2 h':Heap}{a x e:Addr}{o:HO}
theorem Un.any (u:Un fs ex H H1 h h1){b:Addr}{ob:Obj}(q:h.get? b=some ob)(n:H b=none)(hx:b∉ex):∃ sl,h1.get? b=some { ob with slots:=sl }:=by
 by_cases hb:b∈fs
 ·exact u.slot b ob q n hb hx
 ·exact⟨ob.slots,u.keep b ob q n hb hx⟩
theorem Un.kept (k:∀ b u,h.get? b=some u→h'.get? b=some u):Un fs ex H H h h' :=
 ⟨fun b ob q _ _ _=>k b ob q,fun b ob q _ _ _=>⟨ob.slots,k b ob q⟩,fun _ _ _ n _=>n,fun b ob q _=>⟨ob,k b ob q⟩,fun _ _ q=>q,fun _ _ _ q=>q,fun _ ps q=>⟨#[],by rw[q];simp⟩⟩
theorem Un.refl:Un fs ex H H h h:=Un.kept fun _ _ q=>q
theorem Un.laid (k:∀ b u,h.get? b=some u→h'.get? b=some u)(hp:h.objs.size≤a)(hn:H a=none):Un fs ex H (upd H a o) h h' where
 keep:=fun b u q _ _ _=>k b u q
 slot:=fun b u q _ _ _=>⟨u.slots,k b u q⟩
 free:=fun b u q n _=>by rw[upd_ne (Nat.ne_of_lt (Nat.lt_of_lt_of_le (Heap.lt_size q) hp))];exact n
 there:=fun b u q _=>⟨u,k b u q⟩
 tups:=fun b xs q=>by rw[upd_ne (ne_of_none q hn)];exact q
 frzs:=fun b u xs q=>by rw[upd_ne (ne_of_none q hn)];exact q
 tbls:=fun b ps q=>⟨#[],by rw[upd_ne (ne_of_none q hn),q];simp⟩
theorem Un.write (mu:Mut (H x))(he:e=x∨H e=some (.own x))(k:∀ b u,b≠e→h.get? b=some u→h'.get? b=some u)(heo:∃ u,h'.get? e=some u):Un fs ex H (upd H x o) h h':=by
 have hx:∀ b,H b=none→b≠x:=fun b n z=>by subst z;rw[n]at mu;exact mu
 have hb:∀ b,H b=none→b≠e:=fun b n z=>by
  subst z
  rcases he with r | r
  ·exact hx b n r
  ·rw[n]at r;cases r
 have hm:∀ b u,H b=some u→¬ Mut (some u)→b≠x:=fun b u q nm z=>by subst z;rw[q]at mu;exact nm mu
 refine⟨fun b u q n _ _=>k b u (hb b n) q,fun b u q n _ _=>⟨u.slots,k b u (hb b n) q⟩,fun b u q n _=>by rw[upd_ne (hx b n)];exact n,fun b u q _=>?_,
  fun b xs q=>by rw[upd_ne (hm b _ q fun z=>z)];exact q,fun b u xs q=>by rw[upd_ne (hm b _ q fun z=>z)];exact q,fun b ps q=>⟨#[],by rw[upd_ne (hm b _ q fun z=>z),q];simp⟩⟩
 by_cases hbe:b=e
 ·subst hbe;exact heo
 ·exact⟨u,k b u hbe q⟩
end
def trk (h:Heap)(H:Hp):List Addr:=(List.range h.objs.size).filter fun a=>(H a).isSome
def hidT (h:Heap)(H:Hp):Heap:=PySem.W.hideAll h (trk h H)
theorem hidT_size (h:Heap)(H:Hp):(hidT h H).objs.size=h.objs.size:=PySem.W.hideAll_size _ _
theorem hidT_get {h:Heap}{H:Hp}{b:Addr}{o:Obj}(e:h.get? b=some o)(n:H b=none):(hidT h H).get? b=some o :=
 PySem.W.hideAll_get _ e fun hm=>by
  have q:(H b).isSome=true:=(List.mem_filter.mp hm).2
  rw[n]at q;simp at q
theorem of_hidT {h:Heap}{H:Hp}{b:Addr}{o:Obj}(e:(hidT h H).get? b=some o):h.get? b=some o∧H b=none:=by
 have e':h.get? b=some o:=PySem.W.of_hideAll (trk h H) e
 refine⟨e',?_⟩
 cases q:H b with
 | none=>rfl
 | some x =>
  have hm:b∈trk h H:=List.mem_filter.mpr ⟨List.mem_range.mpr (Heap.lt_size e'),by simp[q]⟩
  have z:(hidT h H).get? b=none:=PySem.W.hideAll_none (trk h H) hm
  rw[z]at e;cases e
end L2
namespace L2
open PySem PySem.Spec PyProof.Rows
structure Mod (K:PySem.W.Frag)(mg:Str→Option Value)(base:Heap):Prop where
 kin:K.In base
 glob:base.Ns mainGlobals mg
 blt:∃ mb,base.Ns builtinsNs mb∧∀ x:Str,x≠"__name__"→mb x=bootBuiltins x
 nolimit:base.NoLimit
structure Cx where
 prog:Program
 w:World
 K:PySem.W.Frag
 mg:Str→Option Value
 base:Heap
 A:Around
 N:List Str
 s₀:Shared
 H₀:Hp
 env:Env
 outer:List Env
 stack:List Env
 ex:List Addr
 fn:Str→Bool
 calm:Bool
 pn:List (Addr×Obj)
 xe:Value→Shared→Prop
def frs (l:List Env):List Addr:=l.filterMap (·.frame)
abbrev Cx.fs (X:Cx):List Addr:=frs X.outer
def Vis (sc:Scope)(x:Str):Prop:=sc.names.lookup x=some .local∨sc.names.lookup x=some .cell∨sc.names.lookup x=some .free
def Loc (sc:Scope)(x:Str):Prop:=sc.names.lookup x=some .local∨sc.names.lookup x=some .cell
def Look (env:Env)(h:Heap)(m:Str→Option Value)(x:Str)(u:Value):Prop :=
 (env.kindOf x=some .local∧m x=some u)∨((env.kindOf x=some .cell∨env.kindOf x=some .free)∧∃ c,env.cells.lookup x=some c∧h.IsCell c (some u))
structure Cx.Ok (X:Cx):Prop where
 mod:Mod X.K X.mg X.base
 kind:X.env.scope.kind=.function
 glob:X.env.globals=mainGlobals
 blt:X.env.builtins=builtinsNs
 above:X.s₀.heap.objs.size≤X.env.locals
 inj:∀ x y c,X.env.cells.lookup x=some c→X.env.cells.lookup y=some c→x=y
 has:∀ x,(X.env.kindOf x=some .cell∨X.env.kindOf x=some .free)→∃ c,X.env.cells.lookup x=some c
 cab:∀ x c,X.fn x=true→X.env.cells.lookup x=some c→X.s₀.heap.objs.size≤c
 hd:X.calm=true→X.A.handled=none
 frames:X.A.frames=some X.stack
 stk:X.stack=X.outer∨(X.stack=X.env::X.outer∧X.env.frame=some X.env.locals)
 exf:∀ b∈X.ex,b≠X.env.locals∧∀ x c,X.env.cells.lookup x=some c→c≠b
 bs:∀ b o,X.base.get? b=some o→X.s₀.heap.get? b=some o∧X.H₀ b=none
 bsz:X.base.objs.size≤X.s₀.heap.objs.size
 noex:∀ b o,X.base.get? b=some o→b∉X.ex
 exfs:∀ b∈X.ex,b∉X.fs
 funs:X.s₀.heap.FunFrames X.base X.outer
 frf:∀ b∈X.fs,X.H₀ b=none
structure Inv (X:Cx)(pins:List (Addr×Obj))(σ:List (Option V))(H:Hp)(s:Shared):Prop where
 ok:X.Ok
 os:s.os=X.s₀.os
 bare:AllBare s.gens
 base:Un X.fs X.ex X.H₀ H X.s₀.heap s.heap
 loc:∃ m,s.heap.Ns X.env.locals m∧∀ (i:Nat)(x:Str)(v:V),X.N[i]? = some x→σ[i]? = some (some v)→Vis X.env.scope x→∃ u,RelV v u∧Look X.env s.heap m x u
 cell:∀ x c,X.env.cells.lookup x=some c→∃ v,s.heap.IsCell c v
 free:H X.env.locals=none
 freeC:∀ x c,X.env.cells.lookup x=some c→H c=none
 pin:∀ p∈X.pn++pins,s.heap.get? p.1=some p.2∧H p.1=none∧p.1≠X.env.locals∧p.1∉X.fs∧∀ v,p.2.data≠.cell v
 hok:HOk X.prog X.w H s.heap
 len:σ.length=X.N.length
section
variable {X:Cx}{pins:List (Addr×Obj)}{σ:List (Option V)}{H H':Hp}{s:Shared}{h':Heap}
theorem Cx.Ok.nofr (ok:X.Ok){b:Addr}{o:Obj}(e:X.base.get? b=some o):b∉X.fs:=fun hb=>by
 have:=(ok.funs.mem hb).1
 rw[e]at this;cases this
theorem Inv.bs (I:Inv X pins σ H s):∀ b o,X.base.get? b=some o→s.heap.get? b=some o∧H b=none:=fun b o e =>
 ⟨I.base.keep b o (I.ok.bs b o e).1 (I.ok.bs b o e).2 (I.ok.nofr e) (I.ok.noex b o e),I.base.free b o (I.ok.bs b o e).1 (I.ok.bs b o e).2 (I.ok.noex b o e)⟩
theorem Inv.bk (I:Inv X pins σ H s):∀ b o,X.base.get? b=some o→s.heap.get? b=some o:=fun b o e=>(I.bs b o e).1
theorem Inv.mod (I:Inv X pins σ H s):Mod X.K X.mg X.base:=I.ok.mod
theorem Inv.kIn (I:Inv X pins σ H s):X.K.In s.heap:=I.ok.mod.kin.keeps I.bk
theorem Inv.lt (I:Inv X pins σ H s):X.env.locals<s.heap.objs.size:=let ⟨_,hn,_⟩:=I.loc;hn.lt
theorem Inv.sz (I:Inv X pins σ H s):X.s₀.heap.objs.size≤s.heap.objs.size:=Nat.le_trans I.ok.above (Nat.le_of_lt I.lt)
theorem Inv.nofs (I:Inv X pins σ H s){a:Addr}(h:s.heap.objs.size≤a):a∉X.fs:=fun hb=>by
 obtain⟨_,o,ho,_⟩:=I.ok.funs.mem hb
 exact absurd (Nat.lt_of_lt_of_le (Heap.lt_size ho) (Nat.le_trans I.sz h)) (Nat.lt_irrefl _)
theorem Inv.cne (I:Inv X pins σ H s):∀ x c,X.env.cells.lookup x=some c→c≠X.env.locals:=fun x c e z=>by
 obtain⟨v,o,ho,hd⟩:=I.cell x c e
 obtain⟨m,⟨o',es,ep,ho',hd',_⟩,_⟩:=I.loc
 rw[z,ho']at ho;cases ho;rw[hd']at hd;cases hd
theorem Inv.funs (I:Inv X pins σ H s):s.heap.FunFrames X.base X.outer:=by
 have all:∀ (l:List Env),(∀ b∈frs l,b∈X.fs)→X.s₀.heap.FunFrames X.base l→s.heap.FunFrames X.base l:=by
  intro l
  induction l with
  | nil=>intro _ _;trivial
  | cons env r ih =>
   intro hs hl
   obtain⟨hk,⟨L,o,hf,hn,ho,hd⟩,hr⟩:=hl
   have hL:L∈X.fs:=hs L (by unfold frs;rw[List.filterMap_cons,hf];exact List.mem_cons_self)
   obtain⟨sl,e⟩:=I.base.slot L o ho (I.ok.frf L hL) hL fun z=>I.ok.exfs L z hL
   exact⟨hk,⟨L,_,hf,hn,e,hd⟩,ih (fun b hb=>hs b (by unfold frs;rw[List.filterMap_cons,hf];exact List.mem_cons_of_mem _ hb)) hr⟩
 exact all X.outer (fun _ hb=>hb) I.ok.funs
theorem Inv.stack (I:Inv X pins σ H s):s.heap.FunFrames X.base X.stack:=by
 rcases I.ok.stk with e | ⟨e,hf⟩
 ·rw[e];exact I.funs
 ·rw[e]
  obtain⟨m,hn,_⟩:=I.loc
  refine .cons (by rw[I.ok.kind];decide) hf hn ?_ I.funs
  exact Heap.get?_none_of_le (Nat.le_trans I.ok.bsz I.ok.above)
theorem Inv.stkSub (I:Inv X pins σ H s):∀ b∈frs X.stack,b∈X.env.locals::X.fs:=fun b hb=>by
 rcases I.ok.stk with e | ⟨e,hf⟩
 ·rw[e]at hb;exact List.mem_cons_of_mem _ hb
 ·rw[e]at hb
  unfold frs at hb
  rw[List.filterMap_cons,hf]at hb
  exact hb
theorem Inv.stkFree (I:Inv X pins σ H s):∀ b∈frs X.stack,H b=none:=fun b hb=>by
 rcases List.mem_cons.mp (I.stkSub b hb) with e | hb
 ·rw[e];exact I.free
 ·obtain⟨_,o,ho,_⟩:=I.ok.funs.mem hb
  exact I.base.free b o ho (I.ok.frf b hb) fun z=>I.ok.exfs b z hb
theorem Inv.step {g':Array GenState}{t':Nat}{d':Drawn}{ch:List Addr}(I:Inv X pins σ H s)
  (hch:∀ b∈ch,(b∈X.ex∨X.s₀.heap.objs.size≤b)∧b≠X.env.locals∧(∀ x c,X.env.cells.lookup x=some c→c≠b)∧∀ p∈X.pn++pins,p.1≠b)
  (keep:∀ b o,b≠X.env.locals→b∉X.fs→b∉ch→s.heap.get? b=some o→H b=none→h'.get? b=some o)
  (slot:∀ b o,b≠X.env.locals→b∈X.fs→b∉ch→s.heap.get? b=some o→H b=none→∃ sl,h'.get? b=some { o with slots:=sl }) (free:∀ b o,b∉ch→s.heap.get? b=some o→H b=none→H' b=none)
  (there:∀ b o,b∉ch→s.heap.get? b=some o→∃ o',h'.get? b=some o')
  (tups:∀ b xs,H b=some (.tup xs)→H' b=some (.tup xs)) (frzs:∀ b o u,H b=some (.frz o u)→H' b=some (.frz o u)) (tbls:∀ b ps,H b=some (.tbl ps)→∃ more,H' b=some (.tbl (ps++more)))
  (ns:∀ m,s.heap.Ns X.env.locals m→h'.Ns X.env.locals m) (hok:HOk X.prog X.w H' h') (hg:AllBare g') :
  Inv X pins σ H' { s with heap:=h',gens:=g',drawn:=d',toks:=t' }:=by
 have neL:∀ b o,X.s₀.heap.get? b=some o→b≠X.env.locals:=fun b o e=>Nat.ne_of_lt (Nat.lt_of_lt_of_le (Heap.lt_size e) I.ok.above)
 have neC:∀ b o,X.s₀.heap.get? b=some o→b∉X.ex→b∉ch:=fun b o e hx hb=>by
  rcases (hch b hb).1 with z | z
  ·exact hx z
  ·exact absurd (Nat.lt_of_lt_of_le (Heap.lt_size e) z) (Nat.lt_irrefl _)
 have cellK:∀ x c,X.env.cells.lookup x=some c→∀ v,s.heap.IsCell c v→h'.IsCell c v:=fun x c e v ⟨o,ho,hd⟩=>by
  have nch:c∉ch:=fun z=>(hch c z).2.2.1 x c e rfl
  by_cases hc:c∈X.fs
  ·obtain⟨sl,q⟩:=slot c o (I.cne x c e) hc nch ho (I.freeC x c e)
   exact⟨_,q,hd⟩
  ·exact⟨o,keep c o (I.cne x c e) hc nch ho (I.freeC x c e),hd⟩
 refine⟨I.ok,I.os,hg,⟨fun b o e n hb hx=>?_,fun b o e n hb hx=>?_,fun b o e n hx=>?_,fun b o e hx=>?_,fun b xs e=>tups b xs (I.base.tups b xs e),fun b o xs e=>frzs b o xs (I.base.frzs b o xs e),fun b ps e=>?_⟩,?_,fun x c e=>?_,?_,fun x c e=>?_,fun p hp=>?_,hok,I.len⟩
 ·exact keep b o (neL b o e) hb (neC b o e hx) (I.base.keep b o e n hb hx) (I.base.free b o e n hx)
 ·obtain⟨sl,e1⟩:=I.base.slot b o e n hb hx
  obtain⟨sl',e2⟩:=slot b _ (neL b o e) hb (neC b o e hx) e1 (I.base.free b o e n hx)
  exact⟨sl',e2⟩
 ·obtain⟨o',e1⟩:=I.base.there b o e hx
  exact free b o' (neC b o e hx) e1 (I.base.free b o e n hx)
 ·obtain⟨o',e1⟩:=I.base.there b o e hx
  exact there b o' (neC b o e hx) e1
 ·obtain⟨m1,e1⟩:=I.base.tbls b ps e
  obtain⟨m2,e2⟩:=tbls b _ e1
  exact⟨m1++m2,by rw[e2,Array.append_assoc]⟩
 ·obtain⟨m,hn,hl⟩:=I.loc
  refine⟨m,ns m hn,fun i x v e1 e2 e3=>?_⟩
  obtain⟨u,r,l⟩:=hl i x v e1 e2 e3
  refine⟨u,r,?_⟩
  rcases l with l | ⟨k,c,e,z⟩
  ·exact .inl l
  ·exact .inr ⟨k,c,e,cellK x c e _ z⟩
 ·obtain⟨v,z⟩:=I.cell x c e
  exact⟨v,cellK x c e v z⟩
 ·obtain⟨m,⟨o,_,_,ho,_⟩,_⟩:=I.loc
  exact free _ o (fun z=>(hch _ z).2.1 rfl) ho I.free
 ·obtain⟨v,o,ho,hd⟩:=I.cell x c e
  exact free c o (fun z=>(hch c z).2.2.1 x c e rfl) ho (I.freeC x c e)
 ·obtain⟨e,n,ne,nf,d⟩:=I.pin p hp
  have nch:p.1∉ch:=fun z=>(hch p.1 z).2.2.2 p hp rfl
  exact⟨keep p.1 p.2 ne nf nch e n,free p.1 p.2 nch e n,ne,nf,d⟩
theorem Inv.un {t':Nat}(I:Inv X pins σ H s)(u:Un X.fs [] H H' s.heap h')(hok:HOk X.prog X.w H' h'):Inv X pins σ H' { s with heap:=h',toks:=t' }:=by
 obtain⟨m,⟨o,es,ep,ho,r⟩,_⟩:=id I.loc
 obtain⟨sl,hL⟩:=u.any ho I.free (by simp)
 exact I.step (g':=s.gens) (d':=s.drawn) (ch:=[]) (fun _ z=>nomatch z) (fun b o _ hb _ e n=>u.keep b o e n hb (by simp)) (fun b o _ hb _ e n=>u.slot b o e n hb (by simp)) (fun b o _ e n=>u.free b o e n (by simp)) (fun b o _ e=>u.there b o e (by simp)) u.tups u.frzs u.tbls (fun m' hm=>by
  obtain⟨o',es',ep',ho',r'⟩:=hm
  rw[ho]at ho';cases ho'
  exact⟨_,es',ep',hL,r'⟩) hok I.bare
theorem Inv.call {g':Array GenState}{t':Nat}{d':Drawn}{ch:List Addr}(I:Inv X pins σ H s)(u:Un (frs X.stack) ch H H' s.heap h')(hok:HOk X.prog X.w H' h')(hg:AllBare g')
  (hch:∀ b∈ch,(b∈X.ex∨X.s₀.heap.objs.size≤b)∧b≠X.env.locals∧(∀ x c,X.env.cells.lookup x=some c→c≠b)∧∀ p∈X.pn++pins,p.1≠b) :
  Inv X pins σ H' { s with heap:=h',gens:=g',drawn:=d',toks:=t' }:=by
 obtain⟨m,⟨o,es,ep,ho,r⟩,_⟩:=id I.loc
 obtain⟨sl,hL⟩:=u.any ho I.free fun z=>(hch _ z).2.1 rfl
 exact I.step (ch:=ch) hch (fun b o hL hb hc e n=>u.keep b o e n (fun z=>(List.mem_cons.mp (I.stkSub b z)).elim hL hb) hc) (fun b o _ _ hc e n=>u.any e n hc) (fun b o hc e n=>u.free b o e n hc) (fun b o hc e=>u.there b o e hc) u.tups u.frzs u.tbls (fun m' hm=>by
  obtain⟨o',es',ep',ho',r'⟩:=hm
  rw[ho]at ho';cases ho'
  exact⟨_,es',ep',hL,r'⟩) hok hg
theorem Inv.turned {t':Nat}{it:Addr}(I:Inv X pins σ H s)(k:∀ b o,b≠it→s.heap.get? b=some o→h'.get? b=some o)(hn:H it=none)(hL:it≠X.env.locals)
  (h1:it∈X.ex∨X.s₀.heap.objs.size≤it) (h2:∀ x c,X.env.cells.lookup x=some c→c≠it) (h3:∀ p∈X.pn++pins,p.1≠it):Inv X pins σ H { s with heap:=h',toks:=t' }:=by
 have nit:∀ b u,H b=some u→b≠it:=fun b u e z=>by rw[z,hn]at e;cases e
 refine I.step (g':=s.gens) (d':=s.drawn) (ch:=[it]) (fun b hb=>?_) (fun b o _ _ hc e _=>k b o (fun z=>hc (by simp[z])) e) (fun b o _ _ hc e _=>⟨o.slots,k b o (fun z=>hc (by simp[z])) e⟩) (fun _ _ _ _ n=>n)
  (fun b o hc e=>⟨o,k b o (fun z=>hc (by simp[z])) e⟩) (fun _ _ e=>e) (fun _ _ _ e=>e) (fun b ps e=>⟨#[],by rw[e];simp⟩) (fun m hm=>?_) (fun b u e=>?_) I.bare
 ·have e:b=it:=by simpa using hb
  subst e
  exact⟨h1,hL,h2,h3⟩
 ·obtain⟨o,es,ep,ho,r⟩:=hm
  exact⟨o,es,ep,k _ o (Ne.symm hL) ho,r⟩
 ·refine (I.hok b u e).stay (fun c v hc q=>k c v ?_ q) (fun _ q=>q) fun _ _ q=>q
  rcases hc with z | z
  ·rw[z];exact nit b u e
  ·exact nit c _ z
theorem Inv.tok (I:Inv X pins σ H s)(t:Nat):Inv X pins σ H { s with toks:=t }:=I.un (h':=s.heap) (t':=t) Un.refl I.hok
theorem Inv.kept {t':Nat}(I:Inv X pins σ H s)(k:∀ b u,s.heap.get? b=some u→h'.get? b=some u):Inv X pins σ H { s with heap:=h',toks:=t' }:=I.un (Un.kept k) (I.hok.kept k)
theorem Inv.laid {a:Addr}{o:HO}{t':Nat}(I:Inv X pins σ H s)(k:∀ b u,s.heap.get? b=some u→h'.get? b=some u)(hp:s.heap.objs.size≤a)(new:ObjOk X.prog X.w (upd H a o) h' a o) :
  Inv X pins σ (upd H a o) { s with heap:=h',toks:=t' }:=I.un (Un.laid k hp (I.hok.fresh hp)) (I.hok.laid k hp new)
theorem Inv.write {x e:Addr}{o:HO}{t':Nat}(I:Inv X pins σ H s)(mu:Mut (H x))(he:e=x∨H e=some (.own x))(k:∀ b u,b≠e→s.heap.get? b=some u→h'.get? b=some u)(heo:∃ u,h'.get? e=some u)
  (new:ObjOk X.prog X.w (upd H x o) h' x o):Inv X pins σ (upd H x o) { s with heap:=h',toks:=t' }:=I.un (Un.write mu he k heo) (I.hok.write mu he k heo new)
theorem Inv.pins_of {pins':List (Addr×Obj)}(I:Inv X pins σ H s)(h:∀ p∈pins',s.heap.get? p.1=some p.2∧H p.1=none∧p.1≠X.env.locals∧p.1∉X.fs∧∀ v,p.2.data≠.cell v):Inv X pins' σ H s :=
 ⟨I.ok,I.os,I.bare,I.base,I.loc,I.cell,I.free,I.freeC,fun p hp=>(List.mem_append.mp hp).elim (fun z=>I.pin p (List.mem_append_left _ z)) (h p),I.hok,I.len⟩
theorem nodup_ix {N:List Str}(hN:N.Nodup){i j:Nat}{x:Str}(a:N[i]? = some x)(b:N[j]? = some x):i=j:=by
 obtain⟨h1,e1⟩:=List.getElem?_eq_some_iff.mp a
 obtain⟨h2,e2⟩:=List.getElem?_eq_some_iff.mp b
 exact (List.getElem_inj hN).mp (e1.trans e2.symm)
theorem store_ok2 {M:Model}{A:Around}{E:Value→Shared→Prop}{i:Nat}{x:Str}{v:V}{u:Value}{Q:Unit→Shared→Prop}(I:Inv X pins σ H s)(hN:X.N.Nodup)(hi:X.N[i]? = some x)(hx:Loc X.env.scope x)(r:RelV v u)
  (h:∀ s',Inv X pins (σ.set i (some v)) H s'→(∃ a,Heap.SameBut a s.heap s'.heap∧(a=X.env.locals∨X.env.cells.lookup x=some a))→Q () s') (hf:X.fn x=true∨X.env.scope.names.lookup x=some .local:=by first | exact .inl rfl | exact .inr rfl | assumption):wpAny M A (storeName X.env x u) Q E s:=by
 obtain⟨m,hn,hl⟩:=id I.loc
 have hcls:(X.env.scope.kind == .class||(X.env.scope.kind == .module&&X.env.locals != X.env.globals))=false:=by rw[I.ok.kind];rfl
 have hiσ:i<σ.length:=by rw[I.len];exact (List.getElem?_eq_some_iff.mp hi).1
 have cne:=I.cne
 have tracked:∀ {a:Addr}{h':Heap},(∃ o,s.heap.get? a=some o∧H a=none)→Heap.SameBut a s.heap h'→HOk X.prog X.w H h':=fun {a h'} ha hs b ob e=>by
  obtain⟨_,_,hfree⟩:=ha
  refine (I.hok b ob e).stay (fun c w' hc q=>(hs.2 c ?_).trans q) (fun _ q=>q) fun _ _ q=>q
  rintro rfl
  rcases hc with rfl | hc
  ·rw[hfree]at e;cases e
  ·rw[hfree]at hc;cases hc
 rcases hx with hk | hk
 ·refine wpAny_storeName_local hk hn (fun h' hn' hs=>?_) hcls
  obtain⟨oL,_,_,hoL,_⟩:=id hn
  refine h _ ⟨I.ok,I.os,I.bare,⟨fun b o e n hb hx=>?_,fun b o e n hb hx=>?_,I.base.free,fun b o e hx=>?_,I.base.tups,I.base.frzs,I.base.tbls⟩,⟨_,hn',fun j y v' e1 e2 e3=>?_⟩,fun y c e=>?_,I.free,I.freeC,fun p hp=>?_,tracked ⟨oL,hoL,I.free⟩ hs,by simpa using I.len⟩ ⟨_,hs,.inl rfl⟩
  ·exact (hs.2 b (Nat.ne_of_lt (Nat.lt_of_lt_of_le (Heap.lt_size e) I.ok.above))).trans (I.base.keep b o e n hb hx)
  ·obtain⟨sl,e1⟩:=I.base.slot b o e n hb hx
   exact⟨sl,(hs.2 b (Nat.ne_of_lt (Nat.lt_of_lt_of_le (Heap.lt_size e) I.ok.above))).trans e1⟩
  ·obtain⟨o',e1⟩:=I.base.there b o e hx
   exact⟨o',(hs.2 b (Nat.ne_of_lt (Nat.lt_of_lt_of_le (Heap.lt_size e) I.ok.above))).trans e1⟩
  ·by_cases hj:j=i
   ·subst hj
    rw[hi]at e1;cases e1
    rw[List.getElem?_set_self hiσ]at e2
    cases e2
    exact⟨u,r,.inl ⟨hk,by simp⟩⟩
   ·rw[List.getElem?_set_ne (Ne.symm hj)]at e2
    obtain⟨u',r',q⟩:=hl j y v' e1 e2 e3
    refine⟨u',r',?_⟩
    rcases q with ⟨k,e⟩ | ⟨k,c,e,z⟩
    ·refine .inl ⟨k,?_⟩
     have:y≠x:=fun e=>hj (nodup_ix hN e1 (e▸hi))
     simp[this,e]
    ·exact .inr ⟨k,c,e,z.sameBut hs (cne y c e)⟩
  ·obtain⟨w',z⟩:=I.cell y c e
   exact⟨w',z.sameBut hs (cne y c e)⟩
  ·obtain⟨e,n,ne,nf,d⟩:=I.pin p hp
   exact⟨(hs.2 p.1 ne).trans e,n,ne,nf,d⟩
 ·have hfn:X.fn x=true:=by
   rcases hf with z | z
   ·exact z
   ·rw[z]at hk;cases hk
  obtain⟨c,hc⟩:=I.ok.has x (.inl hk)
  obtain⟨w',z⟩:=I.cell x c hc
  refine wpAny_storeName_cell I.ok.kind hk hc z (fun h' hc' hs=>?_)
  obtain⟨oc,hoc,hocd⟩:=id z
  refine h { s with heap:=h' } ⟨I.ok,I.os,I.bare,⟨fun b o e n hb hx=>?_,fun b o e n hb hx=>?_,I.base.free,fun b o e hx=>?_,I.base.tups,I.base.frzs,I.base.tbls⟩,⟨m,hn.sameBut hs (Ne.symm (cne x c hc)),fun j y v' e1 e2 e3=>?_⟩,fun y c' e=>?_,I.free,I.freeC,fun p hp=>?_,tracked ⟨oc,hoc,I.freeC x c hc⟩ hs,by simpa using I.len⟩ ⟨c,hs,.inr hc⟩
  ·exact (hs.2 b (Nat.ne_of_lt (Nat.lt_of_lt_of_le (Heap.lt_size e) (I.ok.cab x c hfn hc)))).trans (I.base.keep b o e n hb hx)
  ·obtain⟨sl,e1⟩:=I.base.slot b o e n hb hx
   exact⟨sl,(hs.2 b (Nat.ne_of_lt (Nat.lt_of_lt_of_le (Heap.lt_size e) (I.ok.cab x c hfn hc)))).trans e1⟩
  ·obtain⟨o',e1⟩:=I.base.there b o e hx
   exact⟨o',(hs.2 b (Nat.ne_of_lt (Nat.lt_of_lt_of_le (Heap.lt_size e) (I.ok.cab x c hfn hc)))).trans e1⟩
  ·by_cases hj:j=i
   ·subst hj
    rw[hi]at e1;cases e1
    rw[List.getElem?_set_self hiσ]at e2
    cases e2
    exact⟨u,r,.inr ⟨.inl hk,c,hc,hc'⟩⟩
   ·rw[List.getElem?_set_ne (Ne.symm hj)]at e2
    obtain⟨u',r',q⟩:=hl j y v' e1 e2 e3
    refine⟨u',r',?_⟩
    rcases q with q | ⟨k,c',e,z'⟩
    ·exact .inl q
    ·refine .inr ⟨k,c',e,z'.sameBut hs ?_⟩
     rintro rfl
     exact hj (nodup_ix hN e1 (I.ok.inj _ _ _ e hc▸hi))
  ·by_cases hcc:c'=c
   ·subst hcc;exact⟨_,hc'⟩
   ·obtain⟨w2,z2⟩:=I.cell y c' e
    exact⟨w2,z2.sameBut hs hcc⟩
  ·obtain⟨e,n,ne,nf,d⟩:=I.pin p hp
   refine⟨(hs.2 p.1 ?_).trans e,n,ne,nf,d⟩
   intro q
   rw[q,hoc]at e
   have q':oc=p.2:=Option.some.inj e
   exact d w' (by rw[←q'];exact hocd)
theorem store_ok {M:Model}{A:Around}{E:Value→Shared→Prop}{i:Nat}{x:Str}{v:V}{u:Value}{Q:Unit→Shared→Prop}(I:Inv X pins σ H s)(hN:X.N.Nodup)(hi:X.N[i]? = some x)(hx:Loc X.env.scope x)(r:RelV v u)
  (h:∀ s',Inv X pins (σ.set i (some v)) H s'→Q () s') (hf:X.fn x=true∨X.env.scope.names.lookup x=some .local:=by first | exact .inl rfl | exact .inr rfl | assumption):wpAny M A (storeName X.env x u) Q E s :=
 store_ok2 I hN hi hx r (fun s' I' _=>h s' I') hf
theorem Inv.call' {s':Shared}{ch:List Addr}(I:Inv X pins σ H s)(ho:s'.os=s.os)(u:Un (frs X.stack) ch H H' s.heap s'.heap)(hok:HOk X.prog X.w H' s'.heap)(hg:AllBare s'.gens)
  (hch:∀ b∈ch,(b∈X.ex∨X.s₀.heap.objs.size≤b)∧b≠X.env.locals∧(∀ x c,X.env.cells.lookup x=some c→c≠b)∧∀ p∈X.pn++pins,p.1≠b):Inv X pins σ H' s':=by
 obtain⟨h',g',d',t',o'⟩:=s'
 have e:o'=s.os:=ho
 subst e
 exact I.call (g':=g') (t':=t') (d':=d') u hok hg hch
end
abbrev XK:=Value→Option Addr→Hp→Prop
abbrev St:=List (Option V)
abbrev VK:=V→Hp→Prop
abbrev TE:=St→Hp→VK→Prop
abbrev TT:=St→Hp→(Bool→Hp→Prop)→Prop
abbrev TA:=St→Hp→(List V→Hp→Prop)→Prop
structure Ends where
 nx:St→Hp→Prop
 rt:VK
 bk:St→Hp→Prop:=fun _ _=>False
 ct:St→Hp→Prop:=fun _ _=>False
abbrev TS:=Ends→St→Hp→Prop
def EP (X:Cx)(pins:List (Addr×Obj))(σ:St)(Q:VK)(u:Value)(s':Shared):Prop:=∃ v H',Inv X pins σ H' s'∧RelV v u∧Q v H'
def TP (X:Cx)(pins:List (Addr×Obj))(σ:St)(Q:Bool→Hp→Prop)(b:Bool)(s':Shared):Prop:=∃ H',Inv X pins σ H' s'∧Q b H'
def AP (X:Cx)(pins:List (Addr×Obj))(σ:St)(Q:List V→Hp→Prop)(us:List Value)(s':Shared):Prop:=∃ vs H',Inv X pins σ H' s'∧Vals vs us∧Q vs H'
def SP (X:Cx)(pins:List (Addr×Obj))(D:Ends)(f:Flow)(s':Shared):Prop :=
 match f with
 | .next=>∃ σ' H',Inv X pins σ' H' s'∧D.nx σ' H'
 | .brk=>∃ σ' H',Inv X pins σ' H' s'∧D.bk σ' H'
 | .cont=>∃ σ' H',Inv X pins σ' H' s'∧D.ct σ' H'
 | .ret u=>∃ v σ' H',Inv X pins σ' H' s'∧RelV v u∧D.rt v H'
def PE (X:Cx)(e:Expr)(t:TE):Prop :=
 ∀ (pins:List (Addr×Obj))(s:Shared)(σ:St)(H:Hp)(Q:VK),Inv X pins σ H s→t σ H Q→wpAny (model X.prog X.w) X.A (eval e X.env) (EP X pins σ Q) X.xe s
def PT (X:Cx)(e:Expr)(t:TT):Prop :=
 ∀ (pins:List (Addr×Obj))(s:Shared)(σ:St)(H:Hp)(Q:Bool→Hp→Prop),Inv X pins σ H s→t σ H Q→wpAny (model X.prog X.w) X.A (isTrue e X.env (eval e X.env)) (TP X pins σ Q) X.xe s
def PW (X:Cx)(e:Expr)(t:TT):Prop :=
 ∀ (whole:Sem Value)(pins:List (Addr×Obj))(s:Shared)(σ:St)(H:Hp)(Q:Bool→Hp→Prop),Inv X pins σ H s→t σ H Q→wpAny (model X.prog X.w) X.A (isTrue e X.env whole) (TP X pins σ Q) X.xe s
theorem PW.pt {X:Cx}{e:Expr}{t:TT}(h:PW X e t):PT X e t:=h _
def PA (X:Cx)(es:List Expr)(t:TA):Prop :=
 ∀ (pos:Pos)(pins:List (Addr×Obj))(s:Shared)(σ:St)(H:Hp)(Q:List V→Hp→Prop),Inv X pins σ H s→t σ H Q→wpAny (model X.prog X.w) X.A (spliced (backTo pos (starEach es X.env))) (AP X pins σ Q) X.xe s
def PS (X:Cx)(st:Stmt)(t:TS):Prop :=
 ∀ (pins:List (Addr×Obj))(s:Shared)(σ:St)(H:Hp)(D:Ends),Inv X pins σ H s→t D σ H→wpAny (model X.prog X.w) X.A (exec st X.env) (SP X pins D) X.xe s
def PSs (X:Cx)(st:List Stmt)(t:TS):Prop :=
 ∀ (pins:List (Addr×Obj))(s:Shared)(σ:St)(H:Hp)(D:Ends),Inv X pins σ H s→t D σ H→wpAny (model X.prog X.w) X.A (execs st X.env) (SP X pins D) X.xe s
theorem thn {α:Type}{t:Sem α}{Q Q':α→Shared→Prop}{M:Model}{A:Around}{E:Value→Shared→Prop}{s:Shared}(h:wpAny M A t Q E s)(hQ:∀ a s,Q a s→Q' a s):wpAny M A t Q' E s:=wpAny_mono h hQ fun _ _ x=>x
end L2
namespace L2
open PySem PySem.Spec PyProof.Rows
section
variable {X:Cx}
def tVar (i:Nat):TE:=fun σ H Q=>∃ v,σ[i]? = some (some v)∧Q v H
def tC (v:V):TE:=fun _ H Q=>Q v H
theorem pe_var {i:Nat}{x:Str}{pos:Pos}(hN:X.N[i]? = some x)(hv:Vis X.env.scope x)(hd:(x == ("__debug__" : Str))=false:=by decide)(hcd:(x == ("__classdict__" : Str))=false:=by decide):PE X (.Name x pos) (tVar i):=by
 intro pins s σ H Q I h
 obtain⟨v,e,h⟩:=h
 obtain⟨m,hn,hl⟩:=I.loc
 obtain⟨u,r,l⟩:=hl i x v hN e hv
 have fin:EP X pins σ Q u s:=⟨v,H,I,r,h⟩
 rcases l with ⟨hk,hm⟩ | ⟨hk,c,hc,hcell⟩
 ·exact wpAny_Name (wpAny_loadName_local I.ok.kind hk hn hm fin) hd
 ·rcases hk with hk | hk
  ·exact wpAny_Name (wpAny_loadName_cell I.ok.kind hk hc hcell fin) hd
  ·exact wpAny_Name (wpAny_loadName_free I.ok.kind hk hc hcell fin hcd) hd
theorem pe_int {i j pos}:PE X (.Constant (.int i) j pos) (tC (.int i)):=fun _ _ _ H _ I h=>wpAny_Constant_int ⟨.int i,H,I.tok _,⟨_,rfl⟩,h⟩
theorem pe_bl {b j pos}:PE X (.Constant (.bool b) j pos) (tC (.bl b)):=fun _ _ _ H _ I h=>Constant_bool ⟨.bl b,H,I,rfl,h⟩
theorem pe_non {j pos}:PE X (.Constant .none j pos) (tC .non):=fun _ _ _ H _ I h=>Constant_none ⟨.non,H,I,rfl,h⟩
theorem pe_str {x j pos}:PE X (.Constant (.str x) j pos) (tC (.str x)):=fun _ _ _ H _ I h=>Calls.Constant_str ⟨.str x,H,I.tok _,⟨_,rfl⟩,h⟩
def Gl (X:Cx)(x:Str):Prop:=X.env.kindOf x=some .globalImplicit
theorem ld_glob {E:Value→Shared→Prop}{pins:List (Addr×Obj)}{s:Shared}{σ:St}{H:Hp}{x:Str}{u:Value}{pos:Pos}{Q:Value→Shared→Prop}(I:Inv X pins σ H s)(hg:Gl X x)(hm:X.mg x=some u)(h:Q u s)
  (hd:(x == ("__debug__" : Str))=false:=by decide):wpAny (model X.prog X.w) X.A (eval (.Name x pos) X.env) Q E s :=
 Calls.Name_function_global I.ok.kind hg (Calls.loadGlobal_global (by rw[I.ok.glob];exact I.mod.glob.keeps I.bk) hm h) hd
theorem ld_blt {E:Value→Shared→Prop}{pins:List (Addr×Obj)}{s:Shared}{σ:St}{H:Hp}{x:Str}{u:Value}{pos:Pos}{Q:Value→Shared→Prop}(I:Inv X pins σ H s)(hg:Gl X x)(hm:X.mg x=none)(hv:bootBuiltins x=some u)(h:Q u s)
  (hn:x≠"__name__":=by decide) (hd:(x == ("__debug__" : Str))=false:=by decide):wpAny (model X.prog X.w) X.A (eval (.Name x pos) X.env) Q E s:=by
 obtain⟨mb,h1,h2⟩:=I.mod.blt
 exact Calls.Name_function_global I.ok.kind hg (Calls.loadGlobal_builtin (by rw[I.ok.glob];exact I.mod.glob.keeps I.bk) hm (by rw[I.ok.blt];exact h1.keeps I.bk) ((h2 x hn).trans hv) h) hd
theorem pe_bltn {x:Str}{v:V}{u:Value}{pos:Pos}(hg:Gl X x)(hm:X.mg x=none)(hv:bootBuiltins x=some u)(r:RelV v u)(hn:x≠"__name__":=by decide)(hd:(x == ("__debug__" : Str))=false:=by decide):PE X (.Name x pos) (tC v) :=
 fun _ _ _ H _ I h=>ld_blt I hg hm hv ⟨v,H,I,r,h⟩ hn hd
variable {a b:Expr}{ta tb:TE}{pos:Pos}
def tB (t:TE):TT:=fun σ H Q=>t σ H fun x H1=>∃ c,x=.bl c∧Q c H1
theorem pt_val {e:Expr}{t:TE}(h:PE X e t)(he:∀ whole,isTrue e X.env whole=(do let v ←whole;standAt e.pos;holding [v] (truthy v)):=by intro _;rfl):PT X e (tB t):=by
 intro pins s σ H Q I hw
 refine isTrue_plain (thn (h pins s σ H _ I hw) fun v s1 ⟨x,H1,I1,r1,q1⟩=>?_) (he _)
 obtain⟨d,rfl,q⟩:=q1
 cases r1
 exact wpAny_truthy_bool ⟨H1,I1,q⟩
variable {tA tB':TT}{rest:List Expr}
def tOr (t u:TT):TT:=fun σ H Q=>t σ H fun c H1=>if c=true then Q true H1 else u σ H1 Q
def tNot (t:TT):TT:=fun σ H Q=>t σ H fun c H1=>Q (!c) H1
theorem pw_or1 (ha:PT X a tA):PW X (.BoolOp .Or [a] pos) tA:=by
 intro wh pins s σ H Q I h
 refine isTrue_or (thn (ha pins s σ H Q I h) fun c s1 e=>?_)
 cases c with
 | false=>exact isTrue_or_nil e
 | true=>exact e
theorem pw_or (ha:PT X a tA)(hb:PW X (.BoolOp .Or (b::rest) pos) tB'):PW X (.BoolOp .Or (a::b::rest) pos) (tOr tA tB'):=by
 intro wh pins s σ H Q I h
 refine isTrue_or (thn (ha pins s σ H _ I h) fun c s1 ⟨H1,I1,q1⟩=>?_)
 cases c with
 | true=>exact⟨H1,I1,q1⟩
 | false=>exact hb wh pins s1 σ H1 Q I1 q1
theorem pt_not (ha:PT X a tA):PT X (.UnaryOp .Not a pos) (tNot tA):=by
 intro pins s σ H Q I h
 exact isTrue_not (ha pins s σ H (fun c H1=>Q (!c) H1) I h)
def tAndV (ta tb:TE):TE:=fun σ H Q=>ta σ H fun x H1=>∃ c,x=.bl c∧if c=true then tb σ H1 Q else Q (.bl false) H1
def tOrV (ta tb:TE):TE:=fun σ H Q=>ta σ H fun x H1=>∃ c,x=.bl c∧if c=true then Q (.bl true) H1 else tb σ H1 Q
def tNotV (ta:TE):TE:=fun σ H Q=>ta σ H fun x H1=>∃ c,x=.bl c∧Q (.bl (!c)) H1
theorem pe_one {op}{t:TE}(h:PE X a t):PE X (.BoolOp op [a] pos) t:=fun pins s σ H Q I hw=>BoolOp_one (h pins s σ H Q I hw)
theorem pe_and (ha:PE X a ta)(hb:PE X (.BoolOp .And (b::rest) pos) tb):PE X (.BoolOp .And (a::b::rest) pos) (tAndV ta tb):=by
 intro pins s σ H Q I h
 refine BoolOp_and (thn (ha pins s σ H _ I h) fun v s1 ⟨x,H1,I1,r1,q1⟩=>?_)
 obtain⟨c,rfl,q1⟩:=q1
 cases r1
 refine wpAny_truthy_bool ?_
 cases c with
 | true=>exact hb pins s1 σ H1 Q I1 q1
 | false=>exact⟨.bl false,H1,I1,rfl,q1⟩
theorem pe_or (ha:PE X a ta)(hb:PE X (.BoolOp .Or (b::rest) pos) tb):PE X (.BoolOp .Or (a::b::rest) pos) (tOrV ta tb):=by
 intro pins s σ H Q I h
 refine BoolOp_or (thn (ha pins s σ H _ I h) fun v s1 ⟨x,H1,I1,r1,q1⟩=>?_)
 obtain⟨c,rfl,q1⟩:=q1
 cases r1
 refine wpAny_truthy_bool ?_
 cases c with
 | false=>exact hb pins s1 σ H1 Q I1 q1
 | true=>exact⟨.bl true,H1,I1,rfl,q1⟩
theorem pe_not (ha:PE X a ta):PE X (.UnaryOp .Not a pos) (tNotV ta):=by
 intro pins s σ H Q I h
 refine UnaryOp_ (thn (ha pins s σ H _ I h) fun v s1 ⟨x,H1,I1,r1,q1⟩=>?_)
 obtain⟨c,rfl,q1⟩:=q1
 cases r1
 exact not_of (wpAny_truthy_bool ⟨.bl (!c),H1,I1,rfl,q1⟩)
end
end L2
namespace L2
open PySem PySem.Spec PyProof.Rows
def SqL (K:PySem.W.Frag)(H:Hp)(a:Addr)(xs:List V):Prop :=
 Rd H a (.lst xs) ∨
  ∃ (o:Obj)(its:Array Value)(n:Nat),K.lookup a=some o∧o.cls=.type "list"∧o.dict=none∧o.data=.seq its n∧its.size≤sizeLine∧Vals xs its.toList
def SqT (K:PySem.W.Frag)(H:Hp)(a:Addr)(xs:List V):Prop :=
 Rd H a (.tup xs) ∨
  ∃ (o:Obj)(its:Array Value)(n:Nat),K.lookup a=some o∧o.cls=.type "tuple"∧o.data=.seq its n∧its.size≤sizeLine∧Vals xs its.toList
def absV:Value→Option V
 | .none=>some .non
 | .bool b=>some (.bl b)
 | .int i _=>some (.int i)
 | .str x _=>some (.str x)
 | .bytes b _=>some (.byt b)
 | .float b _=>some (.flt b)
 | .ref a=>some (.ref a)
 | .type n=>some (.ty n)
 | _=>none
theorem RelV.abs {x:V}{u:Value}(r:RelV x u):absV u=some x:=by
 cases x with
 | non=>cases r;rfl
 | bl _=>cases r;rfl
 | int _=>obtain⟨t,rfl⟩:=r;rfl
 | str _=>obtain⟨t,rfl⟩:=r;rfl
 | byt _=>obtain⟨t,rfl⟩:=r;rfl
 | flt _=>obtain⟨t,rfl⟩:=r;rfl
 | ref _=>cases r;rfl
 | ty _=>cases r;rfl
theorem RelV.inj {x y:V}{u:Value}(r:RelV x u)(q:RelV y u):x=y:=Option.some.inj (r.abs.symm.trans q.abs)
theorem Vals.inj:∀ {xs ys:List V}{us:List Value},Vals xs us→Vals ys us→xs=ys
 | _,_,_,.nil,.nil=>rfl
 | _,_,_,.cons r t,.cons r' t'=>by rw[r.inj r',Vals.inj t t']
section
variable {X:Cx}{pins:List (Addr×Obj)}{σ:St}{H:Hp}{s:Shared}{a:Addr}{xs ys:List V}
theorem SqL.of {K:PySem.W.Frag}(h:H a=some (.lst xs)):SqL K H a xs:=.inl (.inl h)
theorem SqT.of {K:PySem.W.Frag}(h:H a=some (.tup xs)):SqT K H a xs:=.inl (.inl h)
theorem Inv.list (I:Inv X pins σ H s)(h:SqL X.K H a xs):∃ its:List Value,Vals xs its∧PlainL s.heap a its.toArray∧xs.length≤sizeLine:=by
 rcases h with h | ⟨o,its,n,hk,hc,hd,hs,hz,r⟩
 ·obtain⟨z,its,n,r,e⟩:=h.ok I.hok
  exact⟨its,r,⟨_,n,e,rfl,rfl,rfl⟩,z⟩
 ·refine⟨its.toList,r,⟨o,n,I.kIn a o hk,hc,hd,by simpa using hs⟩,?_⟩
  have e:=r.length
  simp only[Array.length_toList]at e
  omega
theorem Inv.tuple (I:Inv X pins σ H s)(h:SqT X.K H a xs):∃ its:List Value,Vals xs its∧IsTup s.heap a its.toArray∧xs.length≤sizeLine:=by
 rcases h with h | ⟨o,its,n,hk,hc,hs,hz,r⟩
 ·obtain⟨z,its,r,p⟩:=h.ok I.hok
  exact⟨its,r,p,z⟩
 ·refine⟨its.toList,r,⟨o,I.kIn a o hk,hc,n,by simpa using hs⟩,?_⟩
  have e:=r.length
  simp only[Array.length_toList]at e
  omega
theorem Inv.list_inj (I:Inv X pins σ H s)(h:SqL X.K H a xs)(h':SqL X.K H a ys):xs=ys:=by
 obtain⟨its,r,⟨o,n,e,_,_,d⟩,_⟩:=I.list h
 obtain⟨its',r',⟨o',n',e',_,_,d'⟩,_⟩:=I.list h'
 rw[e]at e';cases e'
 rw[d]at d'
 injection d' with d1 _
 have:its=its':=by simpa using congrArg Array.toList d1
 subst this
 exact r.inj r'
theorem Inv.tuple_inj (I:Inv X pins σ H s)(h:SqT X.K H a xs)(h':SqT X.K H a ys):xs=ys:=by
 obtain⟨its,r,⟨o,e,_,n,d⟩,_⟩:=I.tuple h
 obtain⟨its',r',⟨o',e',_,n',d'⟩,_⟩:=I.tuple h'
 rw[e]at e';cases e'
 rw[d]at d'
 injection d' with d1 _
 have:its=its':=by simpa using congrArg Array.toList d1
 subst this
 exact r.inj r'
end
abbrev Cx.wish (X:Cx)(E:Value→Shared→Prop):Cx:={ X with xe:=E }
abbrev Cx.nox (X:Cx):Cx:=X.wish fun _ _=>False
theorem Cx.Ok.wish {X:Cx}(ok:X.Ok)(E:Value→Shared→Prop):(X.wish E).Ok :=
 ⟨ok.mod,ok.kind,ok.glob,ok.blt,ok.above,ok.inj,ok.has,ok.cab,ok.hd,ok.frames,ok.stk,ok.exf,ok.bs,ok.bsz,ok.noex,ok.exfs,ok.funs,ok.frf⟩
theorem Cx.Ok.unwish {X:Cx}{E:Value→Shared→Prop}(ok:(X.wish E).Ok):X.Ok :=
 ⟨ok.mod,ok.kind,ok.glob,ok.blt,ok.above,ok.inj,ok.has,ok.cab,ok.hd,ok.frames,ok.stk,ok.exf,ok.bs,ok.bsz,ok.noex,ok.exfs,ok.funs,ok.frf⟩
section
variable {X:Cx}{pins:List (Addr×Obj)}{σ:St}{H:Hp}{s:Shared}{E:Value→Shared→Prop}
theorem Inv.wish (I:Inv X pins σ H s)(E:Value→Shared→Prop):Inv (X.wish E) pins σ H s:=⟨I.ok.wish E,I.os,I.bare,I.base,I.loc,I.cell,I.free,I.freeC,I.pin,I.hok,I.len⟩
theorem Inv.unwish (I:Inv (X.wish E) pins σ H s):Inv X pins σ H s:=⟨I.ok.unwish,I.os,I.bare,I.base,I.loc,I.cell,I.free,I.freeC,I.pin,I.hok,I.len⟩
theorem SP.unwish {D:Ends}{f:Flow}{s':Shared}(h:SP (X.wish E) pins D f s'):SP X pins D f s':=by
 cases f with
 | next=>obtain⟨σ',H',I,q⟩:=h;exact⟨σ',H',I.unwish,q⟩
 | brk=>obtain⟨σ',H',I,q⟩:=h;exact⟨σ',H',I.unwish,q⟩
 | cont=>obtain⟨σ',H',I,q⟩:=h;exact⟨σ',H',I.unwish,q⟩
 | ret u=>obtain⟨v,σ',H',I,r,q⟩:=h;exact⟨v,σ',H',I.unwish,r,q⟩
theorem PSs.nox {st:List Stmt}{t:TS}(h:PSs X.nox st t):PSs X st t:=fun pins s σ H D I hw =>
 wpAny_mono (h pins s σ H D (I.wish _) hw) (fun _ _ q=>q.unwish) fun _ _ z=>False.elim z
end
section
variable {X:Cx}{st:Stmt}{rest:List Stmt}{t u:TS}{e:Expr}{te:TE}{pos:Pos}
def tNext:TS:=fun D σ H=>D.nx σ H
def tSeq (t u:TS):TS:=fun D σ H=>t { D with nx:=u D } σ H
theorem pss_nil:PSs X [] tNext:=fun _ _ σ H _ I h=>wpAny_execs_nil ⟨σ,H,I,h⟩
theorem pss_cons (h1:PS X st t)(h2:PSs X rest u):PSs X (st::rest) (tSeq t u):=by
 intro pins s σ H D I h
 refine wpAny_execs_cons (thn (h1 pins s σ H { D with nx:=u D } I h) fun f s1 q=>?_)
 cases f with
 | next =>
  obtain⟨σ',H',I',q⟩:=q
  exact h2 pins s1 σ' H' D I' q
 | ret v=>exact q
 | brk=>exact q
 | cont=>exact q
theorem pss_one (h1:PS X st t):PSs X [st] t:=by
 intro pins s σ H D I h
 refine wpAny_execs_cons (thn (h1 pins s σ H D I h) fun f s1 q=>?_)
 cases f with
 | next=>exact wpAny_execs_nil q
 | ret v=>exact q
 | brk=>exact q
 | cont=>exact q
theorem Inv.quiet {pins:List (Addr×Obj)}{σ:St}{H:Hp}{s:Shared}(I:Inv X pins σ H s):interactive X.env=false:=by simp[interactive,I.ok.kind]
def tDrop (te:TE):TS:=fun D σ H=>te σ H fun _ H1=>D.nx σ H1
theorem ps_expr (he:PE X e te)(hs:swapsWith e none pos.line X.env=pure false:=by rfl):PS X (.Expr e pos) (tDrop te):=by
 intro pins s σ H D I h
 exact wpAny_Expr_any (thn (he pins s σ H _ I h) fun v s1 ⟨x,H1,I1,r1,q1⟩=>⟨σ,H1,I1,q1⟩) I.quiet hs
def tRet (te:TE):TS:=fun D σ H=>te σ H D.rt
theorem ps_ret (he:PE X e te):PS X (.Return (some e) pos) (tRet te):=by
 intro pins s σ H D I h
 exact wpAny_Return_some (thn (he pins s σ H _ I h) fun v s1 ⟨x,H1,I1,r1,q1⟩=>⟨x,σ,H1,I1,r1,q1⟩)
def tIfS (c:TT)(t u:TS):TS:=fun D σ H=>c σ H fun b H1=>if b=true then t D σ H1 else u D σ H1
theorem ps_if {c:Expr}{a b:List Stmt}{tc:TT}(hc:PT X c tc)(ha:PSs X a t)(hb:PSs X b u):PS X (.If c a b pos) (tIfS tc t u):=by
 intro pins s σ H D I h
 refine wpAny_If (thn (hc pins s σ H _ I h) fun d s1 ⟨H1,I1,q1⟩=>?_)
 cases d with
 | true=>exact ha pins s1 σ H1 D I1 q1
 | false=>exact hb pins s1 σ H1 D I1 q1
end
abbrev TG:=V→St→Hp→(St→Hp→Prop)→Prop
abbrev TGs:=List V→St→Hp→(St→Hp→Prop)→Prop
def PG (X:Cx)(target:Expr)(t:TG):Prop :=
 ∀ (pins:List (Addr×Obj))(s:Shared)(σ:St)(H:Hp)(v:V)(u:Value)(Q:St→Hp→Prop),Inv X pins σ H s→RelV v u→t v σ H Q →
  wpAny (model X.prog X.w) X.A (assign target X.env u) (fun _ s'=>∃ σ' H',Inv X pins σ' H' s'∧Q σ' H') X.xe s
def PGs (X:Cx)(ts:List Expr)(t:TGs):Prop :=
 ∀ (pins:List (Addr×Obj))(s:Shared)(σ:St)(H:Hp)(vs:List V)(us:List Value)(Q:St→Hp→Prop),Inv X pins σ H s→Vals vs us→t vs σ H Q →
  wpAny (model X.prog X.w) X.A (assignInOrder ((assignEach ts X.env).map (·.2)) us) (fun _ s'=>∃ σ' H',Inv X pins σ' H' s'∧Q σ' H') X.xe s
abbrev TSet:=V→V→V→Hp→(Hp→Prop)→Prop
def PSet (X:Cx)(t:TSet):Prop :=
 ∀ (pins:List (Addr×Obj))(s:Shared)(σ:St)(H:Hp)(o i v:V)(ov iv u:Value)(Q:Hp→Prop),Inv X pins σ H s→RelV o ov→RelV i iv→RelV v u→t o i v H Q →
  wpAny (model X.prog X.w) X.A (setItem ov iv u) (fun _ s'=>∃ H',Inv X pins σ H' s'∧Q H') X.xe s
section
variable {X:Cx}{pos:Pos}
def gName (i:Nat):TG:=fun v σ H Q=>Q (σ.set i (some v)) H
theorem pg_name {i:Nat}{x:Str}(hN:X.N.Nodup)(hi:X.N[i]? = some x)(hx:Loc X.env.scope x)(hf:X.fn x=true∨X.env.scope.names.lookup x=some .local:=by first | exact .inl rfl | exact .inr rfl | assumption):PG X (.Name x pos) (gName i):=by
 intro pins s σ H v u Q I r h
 exact wpAny_assign_Name (store_ok I hN hi hx r (fun s' I'=>⟨_,H,I',h⟩) hf)
def gNil:TGs:=fun vs σ H Q=>vs=[]∧Q σ H
def gCons (t:TG)(u:TGs):TGs:=fun vs σ H Q=>∃ v r,vs=v::r∧t v σ H fun σ' H'=>u r σ' H' Q
theorem pgs_nil:PGs X [] gNil:=by
 intro pins s σ H vs us Q I r h
 obtain⟨e,h⟩:=h
 subst e
 cases r
 exact assignInOrder_nil ⟨σ,H,I,h⟩
theorem pgs_cons {e:Expr}{es:List Expr}{t:TG}{u:TGs}(h1:PG X e t)(h2:PGs X es u)
  (hs:(assignEach (e::es) X.env).map (·.2)=assign e X.env::(assignEach es X.env).map (·.2):=by rfl):PGs X (e::es) (gCons t u):=by
 intro pins s σ H vs us Q I r h
 obtain⟨v,vr,e1,h⟩:=h
 subst e1
 cases r with
 | cons r rr =>
  rw[hs]
  refine assignInOrder_cons (thn (h1 pins s σ H _ _ _ I r h) fun _ s1 ⟨σ1,H1,I1,q1⟩=>?_)
  exact h2 pins s1 σ1 H1 _ _ Q I1 rr q1
def gTup (K:PySem.W.Frag)(n:Nat)(t:TGs):TG:=fun v σ H Q=>∃ a xs,v=.ref a∧SqT K H a xs∧xs.length=n∧t xs σ H Q
theorem pg_tup {es:List Expr}{k:Nat}{t:TGs}{n:Nat}(hc:X.calm=true)(h:PGs X es t)
  (hn:(assignEach es X.env).length=n:=by rfl) (hst:(assignEach es X.env).findIdx? (·.1)=none:=by rfl):PG X (.Tuple es k pos) (gTup X.K n t):=by
 intro pins s σ H v u Q I r hw
 obtain⟨a,xs,e1,hq,hl,hw⟩:=hw
 subst e1
 cases r
 obtain⟨its,rv,ht,hz⟩:=I.tuple hq
 refine assign_Tuple_tuple (I.ok.hd hc) ht (by simp[hn,←hl,rv.length]) hst fun h' hx=>?_
 have I1:Inv X pins σ H { s with heap:=h' }:=I.kept (t':=s.toks) fun b o e=>hx b o (Nat.ne_of_lt (Heap.lt_size e)) e
 exact h pins _ σ H xs _ Q I1 (by simpa using rv) hw
def gSub (to ti:TE)(t:TSet):TG:=fun v σ H Q=>to σ H fun o H1=>ti σ H1 fun i H2=>t o i v H2 fun H3=>Q σ H3
theorem pg_sub {o i:Expr}{to ti:TE}{t:TSet}(ho:PE X o to)(hi:PE X i ti)(hs:PSet X t)
  (ha:∀ v,assign (.Subscript o i pos) X.env v=(do
   let ov ←holding [v] (eval o X.env)
   let iv ←holding [v,ov] (eval i X.env)
   standAt pos
   holding [v,ov,iv] (setItem ov iv v)
   release [v,ov,iv] []):=by intro _;rfl):PG X (.Subscript o i pos) (gSub to ti t):=by
 intro pins s σ H v u Q I r h
 rw[ha]
 refine wpAny_bind (wpAny_holding (thn (ho pins s σ H _ I h) fun ov s1 ⟨x,H1,I1,r1,q1⟩=>?_))
 refine wpAny_bind (wpAny_holding (thn (hi pins s1 σ H1 _ I1 q1) fun iv s2 ⟨y,H2,I2,r2,q2⟩=>?_))
 refine wpAny_bind (wpAny_standAt (wpAny_bind (wpAny_holding (thn (hs pins s2 σ H2 x y v ov iv u _ I2 r1 r2 r q2) fun _ s3 ⟨H3,I3,q3⟩=>?_))))
 exact wpAny_release ⟨σ,H3,I3,q3⟩
def tAsg (te:TE)(g:TG):TS:=fun D σ H=>te σ H fun x H1=>g x σ H1 D.nx
theorem ps_asg {tg e:Expr}{te:TE}{g:TG}(he:PE X e te)(hg:PG X tg g)(hs:swapsWithSole [tg] e pos.line X.env=pure false:=by rfl)(hw:swappedStores [tg] e X.env=pure none:=by rfl)
  (h1:(assignEach [tg] X.env).map (·.2)=[assign tg X.env]:=by rfl):PS X (.Assign [tg] e pos) (tAsg te g):=by
 intro pins s σ H D I h
 refine wpAny_Assign_stores (thn (he pins s σ H _ I h) fun v s1 ⟨x,H1,I1,r1,q1⟩=>?_) hs hw
 rw[h1]
 exact thn (hg pins s1 σ H1 x v _ I1 r1 q1) fun _ s2 q=>q
theorem ps_set {i:Nat}{x:Str}{e:Expr}{te:TE}{pos':Pos}(hN:X.N.Nodup)(hi:X.N[i]? = some x)(hx:Loc X.env.scope x)(he:PE X e te)(hs:swapsWith e (some (.Name x pos')) pos.line X.env=pure false:=by rfl)(hf:X.fn x=true∨X.env.scope.names.lookup x=some .local:=by first | exact .inl rfl | exact .inr rfl | assumption) :
  PS X (.Assign [.Name x pos'] e pos) (tAsg te (gName i)):=by
 intro pins s σ H D I h
 refine wpAny_Assign_Name (thn (he pins s σ H _ I h) fun v s1 ⟨y,H1,I1,r1,q1⟩=>?_) hs
 exact store_ok I1 hN hi hx r1 (fun s2 I2=>⟨_,H1,I2,q1⟩) hf
end
section
variable {X:Cx}{pos:Pos}
end
structure It where
 go:Nat→Hp→Prop
 yld:Nat→Hp→V→Hp→Prop
 stop:Nat→Hp→Prop
def FpOk (X:Cx)(pins:List (Addr×Obj))(H:Hp)(b:Addr):Prop :=
 H b=none∧b≠X.env.locals∧b∉X.fs∧(b∈X.ex∨X.s₀.heap.objs.size≤b)∧(∀ x c,X.env.cells.lookup x=some c→c≠b)∧∀ p∈X.pn++pins,p.1≠b
theorem Inv.fpOk {X:Cx}{pins:List (Addr×Obj)}{σ:St}{H H':Hp}{s:Shared}{b:Addr}(I:Inv X pins σ H s)(hb:s.heap.objs.size≤b)(hn:H' b=none):FpOk X pins H' b:=by
 refine⟨hn,Nat.ne_of_gt (Nat.lt_of_lt_of_le I.lt hb),I.nofs hb,.inr (Nat.le_trans I.sz hb),fun x c e z=>?_,fun p hp z=>?_⟩
 ·obtain⟨v,q⟩:=I.cell x c e
  exact absurd (Nat.lt_of_lt_of_le q.lt (by rw[z];exact hb)) (Nat.lt_irrefl _)
 ·exact absurd (Nat.lt_of_lt_of_le (Heap.lt_size (I.pin p hp).1) (by rw[z];exact hb)) (Nat.lt_irrefl _)
structure Turn (P:Program)(w:World)(K:PySem.W.Frag)(tg:Expr)(J:It)(fp:List Addr)(it:Addr)(tn:Nat→Heap→Prop):Prop where
 mem:it∈fp
 obj:∀ i h,tn i h→∀ b∈fp,∃ o,h.get? b=some o∧∀ v,o.data≠.cell v
 keep:∀ i h h',tn i h→(∀ b∈fp,∀ o,h.get? b=some o→h'.get? b=some o)→tn i h'
 item:∀ (X:Cx),X.prog=P→X.w=w→X.K=K→X.calm=true→∀ (i:Nat)(pins:List (Addr×Obj))(s:Shared)(σ:St)(H:Hp)(E:Value→Shared→Prop),Inv X pins σ H s→(∀ b∈fp,FpOk X pins H b)→tn i s.heap→J.go i H →
  wpAny (model P w) X.A (pyNext (.ref it)) (fun r s1=>∃ u,r=some u ∧
   wpAny (model P w) X.A (letOwnedTupleGo tg (.ref it) u) (fun _ s2=>∃ x H',Inv X pins σ H' s2∧RelV x u∧J.yld i H x H'∧tn (i+1) s2.heap∧∀ b∈fp,H' b=none) E s1) E s
 done:∀ (X:Cx),X.prog=P→X.w=w→X.K=K→X.calm=true→∀ (i:Nat)(pins:List (Addr×Obj))(s:Shared)(σ:St)(H:Hp)(E:Value→Shared→Prop),Inv X pins σ H s→(∀ b∈fp,FpOk X pins H b)→tn i s.heap→J.stop i H →
  wpAny (model P w) X.A (pyNext (.ref it)) (fun r s1=>r=none∧Inv X pins σ H s1) E s
 self:∀ (A:Around)(i:Nat)(s:Shared)(Q:Value→Shared→Prop)(E:Value→Shared→Prop),tn i s.heap→Q (.ref it) s→wpAny (model P w) A (pyIter (.ref it)) Q E s
abbrev TI:=St→Hp→(It→Hp→Prop)→Prop
def PIE (X:Cx)(pins:List (Addr×Obj))(σ:St)(tg:Expr)(R:It→Hp→Prop)(itv:Value)(s2:Shared):Prop :=
 ∃ (it:Addr)(fp:List Addr)(tn:Nat→Heap→Prop)(J:It)(H':Hp),itv=.ref it∧Inv X pins σ H' s2∧Turn X.prog X.w X.K tg J fp it tn∧tn 0 s2.heap∧(∀ b∈fp,FpOk X pins H' b)∧R J H'
def PI (X:Cx)(tg iter:Expr)(wi:TI):Prop :=
 ∀ (pins:List (Addr×Obj))(s:Shared)(σ:St)(H:Hp)(R:It→Hp→Prop),Inv X pins σ H s→wi σ H R →
  wpAny (model X.prog X.w) X.A (eval iter X.env) (fun v s1=>wpAny (model X.prog X.w) X.A (pyIter v) (PIE X pins σ tg R) X.xe s1) X.xe s
theorem go_of {M:Model}{A:Around}{E:Value→Shared→Prop}{s:Shared}{tg:Expr}{it:Addr}{u:Value}{o:Obj}{n:String}{vs:Array Value}{Q:Unit→Shared→Prop}(ho:s.heap.get? it=some o)(hc:o.cls=.type n)(hd:o.data=.fields vs)
  (hn:["enumerate","zip","dict_itemiterator","dict_reverseitemiterator","odict_iterator","itertools.zip_longest","itertools.pairwise"].contains n=false) (hQ:Q () s):wpAny M A (letOwnedTupleGo tg (.ref it) u) Q E s:=by
 unfold letOwnedTupleGo
 cases tg<;>first
  | exact wpAny_pure hQ
  | (cases u<;>first
    | exact wpAny_pure hQ
    | (refine wpAny_bind (wpAny_load ho ?_)
       rw[hc,hd]
       show wpAny M A (if (["enumerate","zip","dict_itemiterator","dict_reverseitemiterator","odict_iterator","itertools.zip_longest","itertools.pairwise"].contains n&&vs[0]? == some (rawInt _))=true then _ else _) Q E s
       rw[if_neg (by intro h;rw[hn,Bool.false_and]at h;cases h)]
       exact wpAny_pure hQ))
def Itl (K:PySem.W.Frag)(a:Addr):It :=
 ⟨fun i H=>∃ xs x,SqL K H a xs∧xs[i]? = some x,fun i H x H'=>H'=H∧∀ xs,SqL K H a xs→xs[i]? = some x,fun i H=>∃ xs,SqL K H a xs∧xs.length≤i⟩
def Itr (lo:Int)(n:Nat):It:=⟨fun i _=>i<n,fun i H x H'=>H'=H∧x=.int (lo+i),fun i _=>n≤i⟩
theorem turn_list {P:Program}{w:World}{K:PySem.W.Frag}{tg:Expr}(a it:Addr):Turn P w K tg (Itl K a) [it] it (fun i h=>h.IsListIter it a i) where
 mem:=by simp
 obj:=fun i h st b hb=>by
  have e:b=it:=by simpa using hb
  subst e
  obtain⟨o,e,c,d⟩:=st
  exact⟨o,e,fun v z=>by rw[d]at z;cases z⟩
 keep:=fun i h h' st k=>st.at fun o e=>k it (by simp) o e
 item:=by
  intro X hP hw hK hc i pins s σ H E I hf st hg
  subst hP hw hK
  obtain⟨xs,x,hq,hx⟩:=hg
  obtain⟨its,rv,p,hz⟩:=I.list hq
  obtain⟨u,hu,ru⟩:=rv.get hx
  obtain⟨f0,f1,f2,f3,f4,f5⟩:=hf it (by simp)
  refine wpAny_pyNext_list_item st p.isList (x:=u) (by simpa using hu) fun h' st' sb=>?_
  have I1:Inv X pins σ H { s with heap:=h' }:=I.turned (t':=s.toks) (fun b o hb e=>(sb.2 b hb).trans e) f0 f1 f3 f4 f5
  obtain⟨o,e,c,d⟩:=id st'
  exact⟨u,rfl,go_of (s:={ s with heap:=h' }) e c d (by decide) ⟨x,H,I1,ru,⟨rfl,fun ys hy=>by rw[I.list_inj hy hq];exact hx⟩,st',fun b hb=>(hf b hb).1⟩⟩
 done:=by
  intro X hP hw hK hc i pins s σ H E I hf st hg
  subst hP hw hK
  obtain⟨xs,hq,hx⟩:=hg
  obtain⟨its,rv,p,hz⟩:=I.list hq
  obtain⟨f0,f1,f2,f3,f4,f5⟩:=hf it (by simp)
  have hl:=rv.length
  exact wpAny_pyNext_list_end (I.ok.hd hc) st p.isList (by simp;omega) fun h' eb=>⟨rfl,I.turned (t':=s.toks) (fun b o hb e=>eb b o hb e) f0 f1 f3 f4 f5⟩
 self:=fun _ _ _ _ _ st h=>wpAny_pyIter_listiter st h
theorem turn_range {P:Program}{w:World}{K:PySem.W.Frag}{tg:Expr}(it:Addr)(lo:Int)(n:Nat):Turn P w K tg (Itr lo n) [it] it (fun i h=>IsRangeIter h it (lo+(i:Nat)*1) ((n:Int)-(i:Nat)) 1) where
 mem:=by simp
 obj:=fun i h st b hb=>by
  have e:b=it:=by simpa using hb
  subst e
  exact⟨_,st,fun v z=>by
   have z':Data.fields _=Data.cell v:=z
   cases z'⟩
 keep:=fun i h h' st k=>k it (by simp) _ st
 item:=by
  intro X hP hw hK hc i pins s σ H E I hf st hg
  subst hP hw hK
  obtain⟨f0,f1,f2,f3,f4,f5⟩:=hf it (by simp)
  have W:=Walks.range (prog:=X.prog) (w:=X.w) (I.ok.hd hc) it lo 1 n
  refine W.item i s _ _ hg st fun v h' tk hv st' kk=>?_
  obtain⟨t,rfl⟩:=hv
  have I1:Inv X pins σ H { s with heap:=h',toks:=tk }:=I.turned (fun b o hb e=>kk b o (by simpa using hb) e) f0 f1 f3 f4 f5
  refine⟨_,rfl,go_of (s:={ s with heap:=h',toks:=tk }) (n:="range_iterator") st' rfl rfl (by decide) ⟨.int (lo+i),H,I1,⟨t,?_⟩,⟨rfl,rfl⟩,st',fun b hb=>(hf b hb).1⟩⟩
  rw[Int.mul_one]
 done:=by
  intro X hP hw hK hc i pins s σ H E I hf st hg
  subst hP hw hK
  obtain⟨f0,f1,f2,f3,f4,f5⟩:=hf it (by simp)
  exact wpAny_pyNext_range_end (I.ok.hd hc) st (by have:n≤i:=hg;omega) fun h' eb=>⟨rfl,I.turned (t':=s.toks) (fun b o hb e=>eb b o hb e) f0 f1 f3 f4 f5⟩
 self:=fun _ _ _ _ _ st h=>wpAny_pyIter_rangeiter st h
end L2
namespace L2
open PySem PySem.Spec PyProof.Rows
section
variable {X:Cx}{tg:Expr}
def iList (K:PySem.W.Frag)(tl:TE):TI:=fun σ H R=>tl σ H fun x H1=>∃ a,x=.ref a∧(∃ xs,SqL K H1 a xs)∧R (Itl K a) H1
theorem pi_list {l:Expr}{tl:TE}(hl:PE X l tl):PI X tg l (iList X.K tl):=by
 intro pins s σ H R I h
 refine thn (hl pins s σ H _ I h) fun v s1 ⟨x,H1,I1,r1,q1⟩=>?_
 obtain⟨a,e,⟨xs,hq⟩,q⟩:=q1
 subst e
 cases r1
 obtain⟨its,rv,p,hz⟩:=I1.list hq
 refine wpAny_pyIter_list p.isList ?_
 refine⟨s1.heap.objs.size,[s1.heap.objs.size],_,_,H1,rfl,I1.kept (t':=s1.toks) fun b o e=>Heap.get?_push_of_some _ e,turn_list a _,⟨_,Heap.get?_push_size _ rfl,rfl,rfl⟩,fun b hb=>?_,q⟩
 have e:b=s1.heap.objs.size:=by simpa using hb
 subst e
 exact I1.fpOk (Nat.le_refl _) (I1.hok.fresh (Nat.le_refl _))
theorem range_it {pins:List (Addr×Obj)}{σ:St}{H:Hp}{s:Shared}{R:It→Hp→Prop}{E:Value→Shared→Prop}{lo hi:Int}{t u v:Tok}{tk:Nat}(I:Inv X pins σ H s)(h1 : -(2 ^ 62)≤lo)(h2:lo<2 ^ 62)(h3 : -(2 ^ 62)≤hi)(h4:hi<2 ^ 62)
  (q:R (Itr lo (hi-lo).toNat) H):wpAny (model X.prog X.w) X.A (pyIter (.ref s.heap.objs.size)) (PIE X pins σ tg R) E { s with heap:=s.heap.push { cls:=.type "range",data:=.fields #[.int lo t,.int hi u,.int 1 v] },toks:=tk }:=by
 refine wpAny_pyIter_range (IsRange.new ..) (small_one h1 h2 h3 h4) ?_
 have I1:Inv X pins σ H { s with heap:=s.heap.push { cls:=.type "range",data:=.fields #[.int lo t,.int hi u,.int 1 v] },toks:=tk }:=I.kept fun b o e=>Heap.get?_push_of_some _ e
 refine⟨(s.heap.push { cls:=.type "range",data:=.fields #[.int lo t,.int hi u,.int 1 v] }).objs.size,[(s.heap.push { cls:=.type "range",data:=.fields #[.int lo t,.int hi u,.int 1 v] }).objs.size],_,_,H,rfl,
  I1.kept (t':=tk) fun b o e=>Heap.get?_push_of_some _ e,turn_range _ lo (hi-lo).toNat,?_,fun b hb=>?_,q⟩
 ·have e1:lo+((0:Nat):Int)*1=lo:=by simp
  have e2:(((hi-lo).toNat:Nat):Int)-((0:Nat):Int)=Builtin.Range.rangeSize lo hi 1:=by rw[rangeSize_one];split<;>omega
  show IsRangeIter _ _ (lo+((0:Nat):Int)*1) ((((hi-lo).toNat:Nat):Int)-((0:Nat):Int)) 1
  rw[e1,e2]
  exact Heap.get?_push_size _ rfl
 ·have e:b=(s.heap.push { cls:=.type "range",data:=.fields #[.int lo t,.int hi u,.int 1 v] }).objs.size:=by simpa using hb
  subst e
  exact I1.fpOk (Nat.le_refl _) (I1.hok.fresh (Nat.le_refl _))
def iRng1 (ta:TA):TI:=fun σ H R=>ta σ H fun vs H1=>∃ j:Int,vs=[.int j]∧-(2 ^ 62)≤j∧j<2 ^ 62∧R (Itr 0 j.toNat) H1
theorem pi_range1 {a:Expr}{ta:TA}{p pos:Pos}(hg:Gl X "range")(hm:X.mg "range" = none)(ha:PA X [a] ta)(hs:starEach [a] X.env=[(false,eval a X.env)]:=by rfl):PI X tg (.Call (.Name "range" p) [a] [] pos) (iRng1 ta):=by
 intro pins s σ H R I h
 refine Call_ (ld_blt I hg hm boot_range (PyProof.Rows.callWith_type1 (thn (ha pos pins s σ H _ I h) fun us s1 ⟨vs,H1,I1,r1,q1⟩=>?_) hs rfl))
 obtain⟨j,e,q1,q2,q⟩:=q1
 subst e
 cases r1 with
 | cons r rr =>
  cases rr
  obtain⟨t,rfl⟩:=r
  exact call_range_1 (range_it I1 (by omega) (by omega) q1 q2 (by simpa using q))
def tFor (wi:TI)(g:TG)(tb:TS):TS:=fun D σ H=>wi σ H fun J H1=>∃ W:Nat→Nat→St→Hp→Prop,(∃ m,W 0 m σ H1)∧∀ i m σ H,W i m σ H →
 (J.stop i H∧D.nx σ H)∨(J.go i H∧∃ N:St→Hp→Prop,(∀ σ' H',N σ' H'→∃ m',m'<m∧W (i+1) m' σ' H')∧∀ x H',J.yld i H x H'→g x σ H' fun σ2 H2=>tb { D with nx:=N,ct:=N,bk:=D.nx } σ2 H2)
def pinsAt (fp:List Addr)(h:Heap):List (Addr×Obj):=fp.filterMap fun b=>(h.get? b).map fun o=>(b,o)
theorem mem_pinsAt {fp:List Addr}{h:Heap}{b:Addr}{o:Obj}(hb:b∈fp)(e:h.get? b=some o):(b,o)∈pinsAt fp h:=List.mem_filterMap.mpr ⟨b,hb,by rw[e];rfl⟩
theorem of_pinsAt {fp:List Addr}{h:Heap}{p:Addr×Obj}(hp:p∈pinsAt fp h):p.1∈fp∧h.get? p.1=some p.2:=by
 obtain⟨b,hb,e⟩:=List.mem_filterMap.mp hp
 cases q:h.get? b with
 | none=>rw[q]at e;cases e
 | some o =>
  rw[q]at e
  have e':(b,o)=p:=Option.some.inj e
  subst e'
  exact⟨hb,q⟩
theorem Inv.pinned {pins:List (Addr×Obj)}{σ:St}{H:Hp}{s:Shared}{fp:List Addr}(I:Inv X pins σ H s)(hf:∀ b∈fp,FpOk X pins H b)(ho:∀ b∈fp,∃ o,s.heap.get? b=some o∧∀ v,o.data≠.cell v):Inv X (pins++pinsAt fp s.heap) σ H s :=
 I.pins_of fun p hp=>(List.mem_append.mp hp).elim (fun z=>I.pin p (List.mem_append_right _ z)) fun z=>by
  obtain⟨hb,e⟩:=of_pinsAt z
  obtain⟨f0,f1,f2,_⟩:=hf p.1 hb
  obtain⟨o,e',d⟩:=ho p.1 hb
  rw[e]at e';cases e'
  exact⟨e,f0,f1,f2,d⟩
theorem Inv.unpinned {pins pl:List (Addr×Obj)}{σ:St}{H:Hp}{s:Shared}(I:Inv X (pins++pl) σ H s):Inv X pins σ H s:=I.pins_of fun p hp=>I.pin p (List.mem_append_right _ (List.mem_append_left _ hp))
theorem ps_for {iter:Expr}{body:List Stmt}{wi:TI}{g:TG}{tb:TS}{pos:Pos}(hp:PassesOwn (model X.prog X.w) X.A X.env X.xe)(hc:X.calm=true)(hi:PI X tg iter wi)(hg:PG X tg g)(hb:PSs X body tb)
  (hs:∀ x,foldedSetIterable iter X.env x=pure x:=by intro _;rfl):PS X (.For tg iter body [] pos) (tFor wi g tb):=by
 intro pins s σ H D I h
 refine wpAny_For (thn (hi pins s σ H _ I h) fun v s1 h1=>thn h1 fun itv s2 h2=>?_) hs
 obtain⟨it,fp,tn,J,H2,e,I2,T,st2,f2,W,⟨m0,w0⟩,turn⟩:=h2
 subst e
 have stat:∀ {H':Hp},(∀ b∈fp,H' b=none)→∀ b∈fp,FpOk X pins H' b:=fun hn b hb=>⟨hn b hb,(f2 b hb).2⟩
 refine codeAny_forLoop_any (fun n s'=>∃ i σ' H',Inv X pins σ' H' s'∧tn i s'.heap∧(∀ b∈fp,H' b=none)∧W i n σ' H') ?_ m0 ⟨0,σ,H2,I2,st2,fun b hb=>(f2 b hb).1,w0⟩
 rintro n s3 ⟨i,σ3,H3,I3,st3,fr3,w3⟩
 rcases turn i n σ3 H3 w3 with ⟨stop,qn⟩ | ⟨go,N,hN,step⟩
 ·refine wpAny_passesOwn hp (thn (T.done X rfl rfl rfl hc i pins s3 σ3 H3 X.xe I3 (stat fr3) st3 stop) fun r s4 ⟨hr,I4⟩=>?_)
  subst hr
  exact wpAny_execs_nil ⟨σ3,H3,I4,qn⟩
 ·refine wpAny_passesOwn hp (thn (T.item X rfl rfl rfl hc i pins s3 σ3 H3 X.xe I3 (stat fr3) st3 go) fun r s4 ⟨u,hr,h4⟩=>?_)
  subst hr
  refine wpAny_passesOwn hp (thn h4 fun _ s5 ⟨x,H5,I5,r5,y5,st5,fr5⟩=>?_)
  have I5':=I5.pinned (stat fr5) (T.obj _ _ st5)
  refine wpAny_passesOwn hp (thn (hg _ s5 σ3 H5 x u _ I5' r5 (step x H5 y5)) fun _ s6 ⟨σ6,H6,I6,q6⟩=>?_)
  refine wpAny_passesOwn hp (thn (hb _ s6 σ6 H6 _ I6 q6) fun f s7 q7=>?_)
  have again:∀ {σ7:St}{H7:Hp},Inv X (pins++pinsAt fp s5.heap) σ7 H7 s7→N σ7 H7→∃ m,m<n∧∃ i σ' H',Inv X pins σ' H' s7∧tn i s7.heap∧(∀ b∈fp,H' b=none)∧W i m σ' H':=fun {σ7 H7} I7 n7=>by
   obtain⟨m',hm,w7⟩:=hN σ7 H7 n7
   refine⟨m',hm,i+1,σ7,H7,I7.unpinned,T.keep _ _ _ st5 fun b hb o e=>(I7.pin (b,o) (List.mem_append_right _ (List.mem_append_right _ (mem_pinsAt hb e)))).1,fun b hb=>?_,w7⟩
   obtain⟨o,e,d⟩:=T.obj _ _ st5 b hb
   exact (I7.pin (b,o) (List.mem_append_right _ (List.mem_append_right _ (mem_pinsAt hb e)))).2.1
  cases f with
  | next=>obtain⟨σ7,H7,I7,n7⟩:=q7;exact again I7 n7
  | cont=>obtain⟨σ7,H7,I7,n7⟩:=q7;exact again I7 n7
  | brk=>obtain⟨σ7,H7,I7,q7⟩:=q7;exact⟨σ7,H7,I7.unpinned,q7⟩
  | ret v=>obtain⟨x7,σ7,H7,I7,r7,q7⟩:=q7;exact⟨x7,σ7,H7,I7.unpinned,r7,q7⟩
end
theorem for_list {K:PySem.W.Frag}{a:Addr}{xs:List V}{g:TG}{tb:TS}{D:Ends}{σ:St}{H:Hp}(Pv:Nat→St→Hp→Prop)(h0:Pv 0 σ H)(hl:∀ i σ H,i≤xs.length→Pv i σ H→SqL K H a xs)
  (hs:∀ i x σ H,xs[i]? = some x→Pv i σ H→g x σ H fun σ2 H2=>tb { D with nx:=Pv (i+1),ct:=Pv (i+1),bk:=D.nx } σ2 H2) (hd:∀ σ H,Pv xs.length σ H→D.nx σ H) :
  ∃ W:Nat→Nat→St→Hp→Prop,(∃ m,W 0 m σ H)∧∀ i m σ H,W i m σ H →
   ((Itl K a).stop i H∧D.nx σ H)∨((Itl K a).go i H∧∃ N:St→Hp→Prop,(∀ σ' H',N σ' H'→∃ m',m'<m∧W (i+1) m' σ' H')∧∀ x H',(Itl K a).yld i H x H'→g x σ H' fun σ2 H2=>tb { D with nx:=N,ct:=N,bk:=D.nx } σ2 H2):=by
 refine⟨fun i m σ H=>m=xs.length-i∧i≤xs.length∧Pv i σ H,⟨xs.length,by simp,Nat.zero_le _,h0⟩,?_⟩
 rintro i m σ H ⟨rfl,hi,p⟩
 have q:=hl i σ H hi p
 by_cases hlt:i<xs.length
 ·refine .inr ⟨⟨xs,xs[i],q,by simp[hlt]⟩,Pv (i+1),fun σ' H' p'=>⟨xs.length-(i+1),by omega,rfl,hlt,p'⟩,fun x H' y=>?_⟩
  obtain⟨e,y⟩:=y
  subst e
  exact hs i x σ _ (y xs q) p
 ·have e:i=xs.length:=by omega
  subst e
  exact .inl ⟨⟨xs,q,Nat.le_refl _⟩,hd σ H p⟩
theorem for_range {lo:Int}{n:Nat}{g:TG}{tb:TS}{D:Ends}{σ:St}{H:Hp}(Pv:Nat→St→Hp→Prop)(h0:Pv 0 σ H)
  (hs:∀ i σ H,i<n→Pv i σ H→g (.int (lo+i)) σ H fun σ2 H2=>tb { D with nx:=Pv (i+1),ct:=Pv (i+1),bk:=D.nx } σ2 H2) (hd:∀ σ H,Pv n σ H→D.nx σ H) :
  ∃ W:Nat→Nat→St→Hp→Prop,(∃ m,W 0 m σ H)∧∀ i m σ H,W i m σ H →
   ((Itr lo n).stop i H∧D.nx σ H)∨((Itr lo n).go i H∧∃ N:St→Hp→Prop,(∀ σ' H',N σ' H'→∃ m',m'<m∧W (i+1) m' σ' H')∧∀ x H',(Itr lo n).yld i H x H'→g x σ H' fun σ2 H2=>tb { D with nx:=N,ct:=N,bk:=D.nx } σ2 H2):=by
 refine⟨fun i m σ H=>m=n-i∧i≤n∧Pv i σ H,⟨n,by simp,Nat.zero_le _,h0⟩,?_⟩
 rintro i m σ H ⟨rfl,hi,p⟩
 by_cases hlt:i<n
 ·refine .inr ⟨hlt,Pv (i+1),fun σ' H' p'=>⟨n-(i+1),by omega,rfl,hlt,p'⟩,fun x H' y=>?_⟩
  obtain⟨e,y⟩:=y
  subst e y
  exact hs i σ _ hlt p
 ·have e:i=n:=by omega
  subst e
  exact .inl ⟨Nat.le_refl _,hd σ H p⟩
end L2
namespace L2
open PySem PySem.Spec PyProof.Rows
abbrev R2:=V→V→Hp→VK→Prop
def OpR (X:Cx)(f:Value→Value→Sem Value)(r:R2):Prop :=
 ∀ (pins:List (Addr×Obj))(s:Shared)(σ:St)(H:Hp)(x y:V)(v u:Value)(Q:VK),Inv X pins σ H s→RelV x v→RelV y u→r x y H Q →
  wpAny (model X.prog X.w) X.A (f v u) (EP X pins σ Q) X.xe s
def UnR (X:Cx)(f:Value→Sem Value)(r:V→Hp→VK→Prop):Prop :=
 ∀ (pins:List (Addr×Obj))(s:Shared)(σ:St)(H:Hp)(x:V)(v:Value)(Q:VK),Inv X pins σ H s→RelV x v→r x H Q →
  wpAny (model X.prog X.w) X.A (f v) (EP X pins σ Q) X.xe s
def CallR (X:Cx)(f:Value)(r:List V→Hp→VK→Prop):Prop :=
 ∀ (pins:List (Addr×Obj))(s:Shared)(σ:St)(H:Hp)(xs:List V)(us:List Value)(Q:VK),Inv X pins σ H s→Vals xs us→r xs H Q →
  wpAny (model X.prog X.w) X.A (call f us) (EP X pins σ Q) X.xe s
def tOp (r:R2)(ta tb:TE):TE:=fun σ H Q=>ta σ H fun x H1=>tb σ H1 fun y H2=>r x y H2 Q
def tUn (r:V→Hp→VK→Prop)(ta:TE):TE:=fun σ H Q=>ta σ H fun x H1=>r x H1 Q
def rI (C:Int→Int→Prop)(g:Int→Int→V):R2:=fun x y H Q=>∃ i j,x=.int i∧y=.int j∧C i j∧Q (g i j) H
def rI0 (g:Int→Int→V):R2:=fun x y H Q=>∃ i j,x=.int i∧y=.int j∧Q (g i j) H
def rU (g:Int→V):V→Hp→VK→Prop:=fun x H Q=>∃ i,x=.int i∧Q (g i) H
section
variable {X:Cx}{a b c:Expr}{ta tb tc:TE}{pos:Pos}
theorem binT (ha:PE X a ta)(hb:PE X b tb){pins:List (Addr×Obj)}{s:Shared}{σ:St}{H:Hp}{R:V→V→Hp→Prop}(I:Inv X pins σ H s)
  (h:ta σ H fun x H1=>tb σ H1 fun y H2=>R x y H2) {Q:Value→Shared→Prop} {f:Value→Value→Sem Value}
  (hf:∀ v u s2 x y H2,Inv X pins σ H2 s2→RelV x v→RelV y u→R x y H2→wpAny (model X.prog X.w) X.A (f v u) Q X.xe s2) :
  wpAny (model X.prog X.w) X.A (eval a X.env) (fun v s₁=>wpAny (model X.prog X.w) X.A (eval b X.env) (fun u s₂=>wpAny (model X.prog X.w) X.A (f v u) Q X.xe s₂) X.xe s₁) X.xe s:=by
 refine thn (ha pins s σ H _ I h) fun v s1 ⟨x,H1,I1,r1,q1⟩=>?_
 refine thn (hb pins s1 σ H1 _ I1 q1) fun u s2 ⟨y,H2,I2,r2,q2⟩=>?_
 exact hf v u s2 x y H2 I2 r1 r2 q2
theorem pe_op {op:Operator}{r:R2}(ho:OpR X (binaryOp op) r)(ha:PE X a ta)(hb:PE X b tb):PE X (.BinOp a op b pos) (tOp r ta tb):=by
 intro pins s σ H Q I h
 exact wpAny_BinOp (binT ha hb I h fun v u s2 x y H2 I2 rx ry q=>ho pins s2 σ H2 x y v u Q I2 rx ry q)
theorem pe_un {op:UnaryOp}{r:V→Hp→VK→Prop}(ho:UnR X (unaryOp op) r)(ha:PE X a ta):PE X (.UnaryOp op a pos) (tUn r ta):=by
 intro pins s σ H Q I h
 exact UnaryOp_ (thn (ha pins s σ H _ I h) fun v s1 ⟨x,H1,I1,r1,q1⟩=>ho pins s1 σ H1 x v Q I1 r1 q1)
theorem opI {f:Value→Value→Sem Value}{C:Int→Int→Prop}{g:Int→Int→Int}
  (rule:∀ (i j:Int)(t u:Tok)(s:Shared)(Q:Value→Shared→Prop)(E:Value→Shared→Prop),C i j→Q (.int (g i j) s.toks) { s with toks:=s.toks+1 }→wpAny (model X.prog X.w) X.A (f (.int i t) (.int j u)) Q E s) :
  OpR X f (rI C fun i j=>.int (g i j)):=by
 intro pins s σ H x y v u Q I rx ry h
 obtain⟨i,j,rfl,rfl,hc,q⟩:=h
 obtain⟨t,rfl⟩:=rx
 obtain⟨t',rfl⟩:=ry
 exact rule i j t t' s _ _ hc ⟨.int (g i j),H,I.tok _,⟨_,rfl⟩,q⟩
theorem opI0 {f:Value→Value→Sem Value}{g:Int→Int→Int}
  (rule:∀ (i j:Int)(t u:Tok)(s:Shared)(Q:Value→Shared→Prop)(E:Value→Shared→Prop),Q (.int (g i j) s.toks) { s with toks:=s.toks+1 }→wpAny (model X.prog X.w) X.A (f (.int i t) (.int j u)) Q E s) :
  OpR X f (rI0 fun i j=>.int (g i j)):=by
 intro pins s σ H x y v u Q I rx ry h
 obtain⟨i,j,rfl,rfl,q⟩:=h
 obtain⟨t,rfl⟩:=rx
 obtain⟨t',rfl⟩:=ry
 exact rule i j t t' s _ _ ⟨.int (g i j),H,I.tok _,⟨_,rfl⟩,q⟩
theorem opB0 {f:Value→Value→Sem Value}{g:Int→Int→Bool}
  (rule:∀ (i j:Int)(t u:Tok)(s:Shared)(Q:Value→Shared→Prop)(E:Value→Shared→Prop),Q (.bool (g i j)) s→wpAny (model X.prog X.w) X.A (f (.int i t) (.int j u)) Q E s) :
  OpR X f (rI0 fun i j=>.bl (g i j)):=by
 intro pins s σ H x y v u Q I rx ry h
 obtain⟨i,j,rfl,rfl,q⟩:=h
 obtain⟨t,rfl⟩:=rx
 obtain⟨t',rfl⟩:=ry
 exact rule i j t t' s _ _ ⟨.bl (g i j),H,I,rfl,q⟩
def CDiv (i j:Int):Prop:=0<j∧j<1073741824
def CPow (i j:Int):Prop:=0≤j∧j≤1000000∧i.natAbs<2 ^ 64
def CMul (i j:Int):Prop:=(-(2 ^ 64)<i∧i<2 ^ 64)∨(-(2 ^ 64)<j∧j<2 ^ 64)
theorem CMul.ok {i j:Int}(h:CMul i j):IntMulOk i j:=by
 rcases h with ⟨h1,h2⟩ | ⟨h1,h2⟩
 ·exact .of_left (intBits_le_64 h1 h2)
 ·exact .of_right (intBits_le_64 h1 h2)
theorem op_add:OpR X (binaryOp .Add) (rI0 fun i j=>.int (i+j)):=opI0 fun _ _ _ _ _ _ _ q=>add_int q
theorem op_sub:OpR X (binaryOp .Sub) (rI0 fun i j=>.int (i-j)):=opI0 fun _ _ _ _ _ _ _ q=>sub_int q
theorem op_mul:OpR X (binaryOp .Mult) (rI CMul fun i j=>.int (i*j)):=opI fun _ _ _ _ _ _ _ hc q=>mul_int q hc.ok
theorem op_fdiv:OpR X (binaryOp .FloorDiv) (rI CDiv fun i j=>.int (i/j)):=opI fun i j _ _ _ _ _ hc q=>by
 have h1:(0:Int)<j:=hc.1
 have h2:j<1073741824:=hc.2
 exact floordiv_int (by omega) (by rw[Int.fdiv_eq_ediv_of_nonneg i (by omega)];exact q) (.inl (PyProof.noPylong_small (by omega)))
theorem op_mod:OpR X (binaryOp .Mod) (rI (fun _ j=>0<j) fun i j=>.int (i%j)):=opI fun i j _ _ _ _ _ hc q=>by
 have h1:(0:Int)<j:=hc
 exact mod_int' (by omega) (by rw[Int.fmod_eq_emod_of_nonneg i (by omega)];exact q)
theorem op_pow:OpR X (binaryOp .Pow) (rI CPow fun i j=>.int (i ^ j.toNat)):=opI fun _ _ _ _ _ _ _ hc q=>pow_int_small hc.1 hc.2.1 hc.2.2 q
theorem unI {f:Value→Sem Value}{g:Int→Int}
  (rule:∀ (i:Int)(t:Tok)(s:Shared)(Q:Value→Shared→Prop)(E:Value→Shared→Prop),Q (.int (g i) s.toks) { s with toks:=s.toks+1 }→wpAny (model X.prog X.w) X.A (f (.int i t)) Q E s) :
  UnR X f (rU fun i=>.int (g i)):=by
 intro pins s σ H x v Q I rx h
 obtain⟨i,rfl,q⟩:=h
 obtain⟨t,rfl⟩:=rx
 exact rule i t s _ _ ⟨.int (g i),H,I.tok _,⟨_,rfl⟩,q⟩
theorem un_neg:UnR X (unaryOp .USub) (rU fun i=>.int (-i)):=unI fun _ _ _ _ _ q=>neg_int q
end
def scal:V→V→Bool
 | .non,.non=>true | .non,.int _=>true | .int _,.non=>true | .non,.bl _=>true | .bl _,.non=>true | .non,.str _=>true | .str _,.non=>true
 | .int _,.int _=>true | .bl _,.bl _=>true | .str _,.str _=>true | .byt _,.byt _=>true
 | .int _,.str _=>true | .str _,.int _=>true | .bl _,.str _=>true | .str _,.bl _=>true
 | _,_=>false
def rEq:R2:=fun x y H Q=>scal x y=true∧Q (.bl (decide (x=y))) H
def rNe:R2:=fun x y H Q=>scal x y=true∧Q (.bl (!decide (x=y))) H
theorem dec_int {i j:Int}:decide (V.int i=V.int j)=(i == j):=by
 rw[Bool.eq_iff_iff]
 simp
theorem dec_bl {i j:Bool}:decide (V.bl i=V.bl j)=(i == j):=by
 rw[Bool.eq_iff_iff]
 simp
theorem dec_str {i j:Str}:decide (V.str i=V.str j)=(i == j):=by
 rw[Bool.eq_iff_iff]
 simp
theorem dec_byt {i j:Array UInt8}:decide (V.byt i=V.byt j)=(i.toList == j.toList):=by
 rw[Bool.eq_iff_iff]
 cases i
 cases j
 simp
section
variable {X:Cx}{a b c:Expr}{ta tb tc:TE}{pos:Pos}
theorem fin_bl {pins:List (Addr×Obj)}{σ:St}{H:Hp}{s:Shared}{Q:VK}{k k':Bool}(I:Inv X pins σ H s)(q:Q (.bl k) H)(e:k=k'):EP X pins σ Q (.bool k') s:=by
 subst e
 exact⟨.bl k,H,I,rfl,q⟩
theorem op_eq:OpR X (compareOp .Eq) rEq:=by
 intro pins s σ H x y v u Q I rx ry h
 obtain⟨hs,q⟩:=h
 cases x with
 | non =>
  cases rx
  cases y with
  | non=>cases ry;exact PySem.EqNone.eq_none_none (fin_bl I q (by simp))
  | bl j=>cases ry;exact PySem.EqNone.eq_none_bool (fin_bl I q (by simp))
  | int j=>obtain⟨t',rfl⟩:=ry;exact PySem.EqNone.eq_none_int (fin_bl I q (by simp))
  | str j=>obtain⟨t',rfl⟩:=ry;exact PySem.EqNone.eq_none_str (fin_bl I q (by simp))
  | _=>exact absurd (show false=true from hs) Bool.false_ne_true
 | bl i =>
  cases rx
  cases y with
  | non=>cases ry;exact PySem.EqNone.eq_bool_none (fin_bl I q (by simp))
  | bl j=>cases ry;exact eq_bool (fin_bl I q dec_bl)
  | str j=>obtain⟨t',rfl⟩:=ry;exact PySem.EqMixed.eq_bool_str (fin_bl I q (by simp))
  | _=>exact absurd (show false=true from hs) Bool.false_ne_true
 | int i =>
  obtain⟨t,rfl⟩:=rx
  cases y with
  | non=>cases ry;exact PySem.EqNone.eq_int_none (fin_bl I q (by simp))
  | int j=>obtain⟨t',rfl⟩:=ry;exact eq_int (fin_bl I q dec_int)
  | str j=>obtain⟨t',rfl⟩:=ry;exact PySem.EqMixed.eq_int_str (fin_bl I q (by simp))
  | _=>exact absurd (show false=true from hs) Bool.false_ne_true
 | str i =>
  obtain⟨t,rfl⟩:=rx
  cases y with
  | non=>cases ry;exact PySem.EqNone.eq_str_none (fin_bl I q (by simp))
  | bl j=>cases ry;exact PySem.EqMixed.eq_str_bool (fin_bl I q (by simp))
  | int j=>obtain⟨t',rfl⟩:=ry;exact PySem.EqMixed.eq_str_int (fin_bl I q (by simp))
  | str j=>obtain⟨t',rfl⟩:=ry;exact eq_str (fin_bl I q dec_str)
  | _=>exact absurd (show false=true from hs) Bool.false_ne_true
 | byt i =>
  obtain⟨t,rfl⟩:=rx
  cases y with
  | byt j=>obtain⟨t',rfl⟩:=ry;exact PySem.W.eq_bytes (fin_bl I q dec_byt)
  | _=>exact absurd (show false=true from hs) Bool.false_ne_true
 | _=>cases y<;>exact absurd (show false=true from hs) Bool.false_ne_true
theorem op_ne:OpR X (compareOp .NotEq) rNe:=by
 intro pins s σ H x y v u Q I rx ry h
 obtain⟨hs,q⟩:=h
 cases x with
 | non =>
  cases rx
  cases y with
  | non=>cases ry;exact PySem.EqNone.ne_none_none (fin_bl I q (by simp))
  | bl j=>cases ry;exact PySem.EqNone.ne_none_bool (fin_bl I q (by simp))
  | int j=>obtain⟨t',rfl⟩:=ry;exact PySem.EqNone.ne_none_int (fin_bl I q (by simp))
  | str j=>obtain⟨t',rfl⟩:=ry;exact PySem.EqNone.ne_none_str (fin_bl I q (by simp))
  | _=>exact absurd (show false=true from hs) Bool.false_ne_true
 | bl i =>
  cases rx
  cases y with
  | non=>cases ry;exact PySem.EqNone.ne_bool_none (fin_bl I q (by simp))
  | bl j=>cases ry;exact ne_bool (fin_bl I q (congrArg not dec_bl))
  | str j=>obtain⟨t',rfl⟩:=ry;exact PySem.EqMixed.ne_bool_str (fin_bl I q (by simp))
  | _=>exact absurd (show false=true from hs) Bool.false_ne_true
 | int i =>
  obtain⟨t,rfl⟩:=rx
  cases y with
  | non=>cases ry;exact PySem.EqNone.ne_int_none (fin_bl I q (by simp))
  | int j=>obtain⟨t',rfl⟩:=ry;exact ne_int (fin_bl I q (congrArg not dec_int))
  | str j=>obtain⟨t',rfl⟩:=ry;exact PySem.EqMixed.ne_int_str (fin_bl I q (by simp))
  | _=>exact absurd (show false=true from hs) Bool.false_ne_true
 | str i =>
  obtain⟨t,rfl⟩:=rx
  cases y with
  | non=>cases ry;exact PySem.EqNone.ne_str_none (fin_bl I q (by simp))
  | bl j=>cases ry;exact PySem.EqMixed.ne_str_bool (fin_bl I q (by simp))
  | int j=>obtain⟨t',rfl⟩:=ry;exact PySem.EqMixed.ne_str_int (fin_bl I q (by simp))
  | str j=>obtain⟨t',rfl⟩:=ry;exact ne_str (fin_bl I q (congrArg not dec_str))
  | _=>exact absurd (show false=true from hs) Bool.false_ne_true
 | byt i =>
  obtain⟨t,rfl⟩:=rx
  cases y with
  | byt j=>obtain⟨t',rfl⟩:=ry;exact PySem.W.ne_bytes (fin_bl I q (congrArg not dec_byt))
  | _=>exact absurd (show false=true from hs) Bool.false_ne_true
 | _=>cases y<;>exact absurd (show false=true from hs) Bool.false_ne_true
theorem op_lt:OpR X (compareOp .Lt) (rI0 fun i j=>.bl (decide (i<j))):=opB0 fun _ _ _ _ _ _ _ q=>lt_int q
theorem op_ge:OpR X (compareOp .GtE) (rI0 fun i j=>.bl (decide (j≤i))):=opB0 fun _ _ _ _ _ _ _ q=>ge_int q
theorem nomark (b:Expr){op:CmpOp}(h:op≠.In:=by decide)(h2:op≠.NotIn:=by decide):behindInMarks op b=false:=by
 have e1:(op == CmpOp.In)=false:=by cases op<;>first | rfl | exact absurd rfl h
 have e2:(op == CmpOp.NotIn)=false:=by cases op<;>first | rfl | exact absurd rfl h2
 cases b<;>simp[behindInMarks,e1,e2]
theorem pe_cmpR {op:CmpOp}{r:R2}(ho:OpR X (compareOp op) r)(ha:PE X a ta)(hb:PE X b tb)(hm:behindInMarks op b=false):PE X (.Compare a [op] [b] pos) (tOp r ta tb):=by
 intro pins s σ H Q I h
 exact wpAny_Compare1 (binT ha hb I h fun v u s2 x y H2 I2 rx ry q=>ho pins s2 σ H2 x y v u Q I2 rx ry q) hm
def tTest (t:TE):TT:=fun σ H Q=>t σ H fun x H'=>∃ k,x=.bl k∧Q k H'
theorem pt_cmpR {op:CmpOp}{r:R2}(ho:OpR X (compareOp op) r)(ha:PE X a ta)(hb:PE X b tb)(hm:behindInMarks op b=false):PT X (.Compare a [op] [b] pos) (tTest (tOp r ta tb)):=by
 intro pins s σ H Q I h
 refine wpAny_isTrue_Compare1 (thn (ha pins s σ H _ I h) fun v s1 ⟨x,H1,I1,r1,q1⟩=>thn (hb pins s1 σ H1 _ I1 q1) fun u s2 ⟨y,H2,I2,r2,q2⟩ =>
  thn (ho pins s2 σ H2 x y v u _ I2 r1 r2 q2) fun c s3 ⟨z,H3,I3,r3,k,e,q3⟩=>?_) hm
 subst e
 cases r3
 exact wpAny_truthy_bool ⟨H3,I3,q3⟩
theorem line63:(sizeLine:Nat)<2 ^ 63:=by rw[sizeLine_eq];decide
theorem vals1 {x:V}{us:List Value}(r:Vals [x] us):∃ u,us=[u]∧RelV x u:=by
 cases r with
 | cons r1 r2=>cases r2;exact⟨_,rfl,r1⟩
end
end L2
namespace L2
open PySem PySem.Spec PyProof.Rows
structure ObjM (h:Heap)(x dx C:Addr)(mA:Str→Option Value):Prop where
 obj:h.get? x=some (PySem.W.instObj C dx)
 ns:h.Ns1 dx mA
 ne:dx≠x
theorem lookIn_ns {h:Heap}{dx:Addr}{mA:Str→Option Value}(n:h.Ns1 dx mA):∃ od,h.get? dx=some od∧∀ name,PySem.W.lookIn name od=some (mA name):=by
 obtain⟨o,es,ep,ho,hd,hk,_,hm⟩:=n
 refine⟨o,ho,fun name=>?_⟩
 have e:=hm name
 unfold nsFind findBy at e
 rw[←Array.find?_toList]at e
 unfold PySem.W.lookIn
 rw[hd]
 dsimp only
 split
 ·rename_i y q
  rw[q]at e
  exact congrArg some e
 ·rename_i q
  rw[q]at e
  have a:es.toList.any (·.refKey)=false:=by
   rw[List.any_eq_false]
   intro y hy
   obtain⟨z,t,hkey⟩:=hk y (Array.mem_toList_iff.mp hy)
   simp[DictEntry.refKey,hkey]
  have a':¬ es.toList.any (·.refKey)=true:=by rw[a];exact Bool.false_ne_true
  rw[if_neg a']
  exact congrArg some e
theorem ObjM.look {h:Heap}{x dx C:Addr}{mA:Str→Option Value}(I:ObjM h x dx C mA):∃ od,PySem.W.InstAt h x (PySem.W.instObj C dx) C (some od)∧∀ name,PySem.W.lookIn name od=some (mA name) :=
 let ⟨od,ho,hl⟩:=lookIn_ns I.ns
 ⟨od,⟨I.obj,rfl,rfl,ho⟩,hl⟩
section
variable {prog:Program}{w:World}{A:Around}{E:Value→Shared→Prop}{s:Shared}{K:PySem.W.Frag}{x dx C f:Addr}{mA:Str→Option Value}{name:Str}{v:Value}
end
theorem RelO.some_of {v:V}{o:Option Value}(r:RelO (some v) o):∃ u,o=some u∧RelV v u:=by
 cases o with
 | none=>exact (show False from r).elim
 | some u=>exact⟨u,rfl,r⟩
section
variable {P:Program}{w:World}{H H':Hp}{h h':Heap}{a C dx:Addr}{fs fs':List (Str×V)}
theorem ins_get (hok:HOk P w H h)(e:H a=some (.ins C dx fs)):∃ mA,ObjM h a dx C mA∧(∀ f,RelO (fs.lookup f) (mA f))∧PySem.Within mA (fs.map (·.1))∧fs.length≤1000∧H dx=some (.own a):=by
 obtain⟨d,z,ne,ob,mA,n,r,q⟩:=(show ObjOk P w H h a (.ins C dx fs) from hok a _ e)
 exact⟨mA,⟨ob,n,ne⟩,r,q,z,d⟩
end
structure Cls (K:PySem.W.Frag)(C:Addr):Prop where
 pg:PySem.W.plainGet K C Str.empty=true
 hd:PySem.W.hasDictIn K C=true
 po:PySem.W.plainOver K C=true
 sa:PySem.W.findIn K (.ref C) "__setattr__" = some (some (.builtin "object.__setattr__"))
theorem Cls.get {K:PySem.W.Frag}{C:Addr}(c:Cls K C)(f:Str):PySem.W.plainGet K C f=true:=c.pg
section
variable {X:Cx}{pins:List (Addr×Obj)}{σ:St}{H:Hp}{s:Shared}{a C dx:Addr}{fs:List (Str×V)}{f:Str}{v:V}{A:Around}{E:Value→Shared→Prop}
end
section
variable {X:Cx}{o e value:Expr}{f:Str}{pos pos' tpos:Pos}{ta tv:TE}
end
section
variable {X:Cx}{pins:List (Addr×Obj)}{σ:St}{H:Hp}{s:Shared}{A:Around}{E:Value→Shared→Prop}{Q:Value→Shared→Prop}{c:Value}{b:Bool}
inductive TyOf (K:PySem.W.Frag) (H:Hp):V→Value→Prop where
 | non:TyOf K H .non (.type "NoneType")
 | bl (x:Bool):TyOf K H (.bl x) (.type "bool")
 | int (i:Int):TyOf K H (.int i) (.type "int")
 | str (x:Str):TyOf K H (.str x) (.type "str")
 | flt (x:UInt64):TyOf K H (.flt x) (.type "float")
 | lst {a:Addr} {xs:List V} (e:H a=some (.lst xs)):TyOf K H (.ref a) (.type "list")
 | frz {a:Addr} {o:Obj} {xs:List V} (e:H a=some (.frz o (.lst xs))):TyOf K H (.ref a) (.type "list")
 | tup {a:Addr} {xs:List V} (e:H a=some (.tup xs)):TyOf K H (.ref a) (.type "tuple")
 | dK {a:Addr} {kvs:List (Key×V)} (e:H a=some (.dK kvs)):TyOf K H (.ref a) (.type "dict")
 | dT {a:Addr} {kvs:List (List Key×V)} (e:H a=some (.dT kvs)):TyOf K H (.ref a) (.type "dict")
 | ins {a C dx:Addr} {fs:List (Str×V)} (e:H a=some (.ins C dx fs)) (cl:Cls K C) (ha:PySem.W.findIn K (.ref C) "__class__" = some (some (.builtin "object.__class__")))
   (hn:PySem.W.specialIn K (.builtin "object.__class__") "__get__" = some (some (.builtin "getset_descriptor.__get__"))) (htk:PySem.W.takesIn K (.builtin "object.__class__")=some true)
   (hm:PySem.W.mroIn K C (.type "object")=some true):TyOf K H (.ref a) (.ref C)
theorem isinst_ok {x:V}{u t:Value}(I:Inv X pins σ H s)(rx:RelV x u)(ty:TyOf X.K H x t)(e:PySem.W.kitOne X.K t c=some b)(h:∀ tk,Q (.bool b) { s with toks:=tk }) :
  wpAny (model X.prog X.w) A (call (.builtin "isinstance") [u,c]) Q E s:=by
 cases ty with
 | non=>cases (show u=Value.none from rx);exact PySem.W.kia_one PySem.W.kitx_none I.kIn True.intro e (fun z=>nomatch z) h
 | bl y=>cases (show u=Value.bool y from rx);exact PySem.W.kia_one PySem.W.kitx_bool I.kIn True.intro e (fun z=>nomatch z) h
 | int i=>obtain⟨t,q⟩:=(show ∃ t,u=Value.int i t from rx);cases q;exact PySem.W.kia_one PySem.W.kitx_int I.kIn True.intro e (fun z=>nomatch z) h
 | str y=>obtain⟨t,q⟩:=(show ∃ t,u=Value.str y t from rx);cases q;exact PySem.W.kia_one PySem.W.kitx_str I.kIn True.intro e (fun z=>nomatch z) h
 | flt y=>obtain⟨t,q⟩:=(show ∃ t,u=Value.float y t from rx);cases q;exact PySem.W.kia_one PySem.W.kitx_float I.kIn True.intro e (fun z=>nomatch z) h
 | @lst a xs ea =>
  cases (show u=Value.ref a from rx)
  obtain⟨_,_,n,_,h1⟩:=(show ObjOk X.prog X.w H s.heap a (.lst xs) from I.hok a _ ea)
  exact PySem.W.kia_one PySem.W.kitx_list I.kIn ⟨_,h1,rfl⟩ e (fun z=>nomatch z) h
 | @frz a ob xs ea =>
  cases (show u=Value.ref a from rx)
  obtain⟨_,_,_,n,_,h1⟩:=(show ObjOk X.prog X.w H s.heap a (.frz ob (.lst xs)) from I.hok a _ ea)
  exact PySem.W.kia_one PySem.W.kitx_list I.kIn ⟨_,h1,rfl⟩ e (fun z=>nomatch z) h
 | @tup a xs ea =>
  cases (show u=Value.ref a from rx)
  obtain⟨_,_,_,p⟩:=(show ObjOk X.prog X.w H s.heap a (.tup xs) from I.hok a _ ea)
  obtain⟨o,h1,h2,_⟩:=p
  exact PySem.W.kia_one PySem.W.kitx_tuple I.kIn ⟨o,h1,h2⟩ e (fun z=>nomatch z) h
 | @dK a kvs ea =>
  cases (show u=Value.ref a from rx)
  obtain⟨_,_,vs,_,p⟩:=(show ObjOk X.prog X.w H s.heap a (.dK kvs) from I.hok a _ ea)
  obtain⟨o,es,ep,h1,h2,_⟩:=p
  exact PySem.W.kia_one PySem.W.kitx_dict I.kIn ⟨o,h1,h2.1⟩ e (fun z=>nomatch z) h
 | @dT a kvs ea =>
  cases (show u=Value.ref a from rx)
  obtain⟨_,_,xs,_,o,es,ep,h1,h2,_⟩:=(show ObjOk X.prog X.w H s.heap a (.dT kvs) from I.hok a _ ea)
  exact PySem.W.kia_one PySem.W.kitx_dict I.kIn ⟨o,h1,h2.1⟩ e (fun z=>nomatch z) h
 | @ins a C dx fs ea cl ha hn htk hm =>
  cases (show u=Value.ref a from rx)
  obtain⟨mA,O,_⟩:=ins_get I.hok ea
  obtain⟨od,J,_⟩:=O.look
  exact PySem.W.kia_one (PySem.W.kitx_own (cl.get _) cl.hd ha hn htk hm) I.kIn J e (fun z=>nomatch z) h
end
end L2
namespace L2
open PySem PySem.Spec PyProof.Rows
structure Room (k:Nat)(A:Around):Prop where
 hd:A.handled=none
 dp:A.depth+3*k+5<recursionLimit
 un:A.units+16*k+200<cLine
theorem Room.mono {j k:Nat}{A:Around}(r:Room k A)(h:j≤k):Room j A:=⟨r.hd,by have:=r.dp;omega,by have:=r.un;omega⟩
theorem Room.deeper {k:Nat}{A:Around}(r:Room (k+1) A)(env:Env):Room k (A.deeper env) :=
 ⟨r.hd,by have:=r.dp;show A.depth+1+3*k+5<_;omega,by have:=r.un;show A.units+3+16*k+200<_;omega⟩
theorem Room.depth {k:Nat}{A:Around}(r:Room k A):A.depth<recursionLimit:=by have:=r.dp;omega
theorem Room.units {k:Nat}{A:Around}(r:Room k A):A.units+64<cLine:=by have:=r.un;omega
def tNil:TA:=fun _ H Q=>Q [] H
def tCons (ta:TE)(tr:TA):TA:=fun σ H Q=>ta σ H fun x H1=>tr σ H1 fun xs H2=>Q (x::xs) H2
section
variable {X:Cx}{e:Expr}{es:List Expr}{te:TE}{t:TA}{pos:Pos}
theorem pa_nil:PA X [] tNil:=fun _ _ _ _ H Q I h=>Calls.spliced_nil ⟨[],H,I,.nil,h⟩
theorem pa_cons (ha:PE X e te)(hr:PA X es t)(hs:starEach (e::es) X.env=(false,eval e X.env)::starEach es X.env:=by rfl):PA X (e::es) (tCons te t):=by
 intro pos pins s σ H Q I h
 rw[hs]
 show wpAny _ _ (spliced ((false,eval e X.env)::backTo pos (starEach es X.env))) _ _ s
 refine Calls.spliced_cons (thn (ha pins s σ H _ I h) fun u s1 ⟨x,H1,I1,r1,q1⟩=>?_)
 exact thn (hr pos pins s1 σ H1 _ I1 q1) fun us s2 ⟨xs,H2,I2,r2,q2⟩=>⟨x::xs,H2,I2,.cons r1 r2,q2⟩
def tTup (t:TA):TE:=fun σ H Q=>t σ H fun xs H1=>xs.length≤sizeLine∧∀ p,H1 p=none→Q (.ref p) (upd H1 p (.tup xs))
def tLst (t:TA):TE:=fun σ H Q=>t σ H fun xs H1=>xs.length≤sizeLine∧∀ p,H1 p=none→Q (.ref p) (upd H1 p (.lst xs))
theorem pe_tup {x1}(h:PA X es t):PE X (.Tuple es x1 pos) (tTup t):=by
 intro pins s σ H Q I hq
 refine wpAny_Tuple_spliced (thn (h pos pins s σ H _ I hq) fun us s1 ⟨xs,H1,I1,r,z,q⟩=>⟨by rw[←r.length];exact z,?_⟩)
 have hf:H1 s1.heap.objs.size=none:=I1.hok.fresh (Nat.le_refl _)
 refine⟨.ref s1.heap.objs.size,upd H1 s1.heap.objs.size (.tup xs),I1.laid (t':=s1.toks) (fun b u e=>Heap.get?_push_of_some _ e) (Nat.le_refl _) ?_,rfl,q _ hf⟩
 exact⟨z,us,r,⟨_,Heap.get?_push_size _ rfl,rfl,_,rfl⟩⟩
theorem pe_lst (h:PA X es t):PE X (.List es pos) (tLst t):=by
 intro pins s σ H Q I hq
 refine wpAny_List_spliced (thn (h pos pins s σ H _ I hq) fun us s1 ⟨xs,H1,I1,r,z,q⟩=>⟨by rw[←r.length];exact z,?_⟩)
 have hf:H1 s1.heap.objs.size=none:=I1.hok.fresh (Nat.le_refl _)
 refine⟨.ref s1.heap.objs.size,upd H1 s1.heap.objs.size (.lst xs),I1.laid (t':=s1.toks) (fun b u e=>Heap.get?_push_of_some _ e) (Nat.le_refl _) ?_,rfl,q _ hf⟩
 exact⟨z,us,0,r,Heap.get?_push_size _ rfl⟩
end
abbrev Sp:=List V→Hp→VK→XK→Prop
abbrev CXT:=List Env→Hp→Shared→XK→Value→Shared→Prop
structure Env0 (P:Program)(w:World)(K:PySem.W.Frag)(mg:Str→Option Value)(base:Heap)(A:Around)(outer:List Env)(s:Shared)(H:Hp):Prop where
 frames:A.frames=some outer
 mod:Mod K mg base
 bs:∀ b o,base.get? b=some o→s.heap.get? b=some o∧H b=none
 bsz:base.objs.size≤s.heap.objs.size
 funs:s.heap.FunFrames base outer
 frf:∀ b∈frs outer,H b=none
 hok:HOk P w H s.heap
 bare:AllBare s.gens
def CE (outer:List Env)(P:Program)(w:World)(H:Hp)(s:Shared)(Q:VK)(u:Value)(s':Shared):Prop :=
 ∃ v H',s'.os=s.os∧AllBare s'.gens∧Un (frs outer) [] H H' s.heap s'.heap∧HOk P w H' s'.heap∧RelV v u∧Q v H'
def CR (CX:CXT)(outer:List Env)(P:Program)(w:World)(H:Hp)(s:Shared)(Q:VK)(E:XK)(r:Result)(s':Shared):Prop :=
 match r with
 | .ok (.ret u)=>CE outer P w H s Q u s'
 | .ok _=>False
 | .error e=>CX outer H s E e s'
structure FnOk (P:Program)(w:World)(K:PySem.W.Frag)(mg:Str→Option Value)(base:Heap)(CX:CXT)(k:Nat)(f:Addr)(fd:FuncData)(ps:List Str)(sp:Sp):Prop where
 len:∀ vs H Q E,sp vs H Q E→vs.length=ps.length
 run:∀ (A:Around)(outer:List Env)(s:Shared)(H:Hp)(args:Args)(us:List Value)(vs:List V)(Q:VK)(E:XK),Room k A→Env0 P w K mg base A outer s H→BindsTo s fd args (ps.zip us)→Vals vs us→sp vs H Q E →
  codeAny (model P w) A (.call (.ref f) args) (CR CX outer P w H s Q E) s
section
variable {X:Cx}{pins:List (Addr×Obj)}{σ:St}{H:Hp}{s s':Shared}
theorem Inv.env0 (I:Inv X pins σ H s):Env0 X.prog X.w X.K X.mg X.base X.A X.stack s H :=
 ⟨I.ok.frames,I.ok.mod,I.bs,Nat.le_trans I.ok.bsz I.sz,I.stack,I.stkFree,I.hok,I.bare⟩
theorem Inv.after {Q:VK}{u:Value}(I:Inv X pins σ H s)(h:CE X.stack X.prog X.w H s Q u s'):EP X pins σ Q u s':=by
 obtain⟨v,H',os,bare,un,hok,r,q⟩:=h
 obtain⟨hh,g,d,t,os'⟩:=s'
 obtain rfl:os'=s.os:=os
 exact⟨v,H',I.call (h':=hh) (g':=g) (d':=d) (t':=t) (ch:=[]) un hok bare (fun b z=>absurd z (by simp)),r,q⟩
end
def tCall (sp:Sp)(dvs:List V)(E:XK)(t:TA):TE:=fun σ H Q=>t σ H fun vs H1=>sp (vs++dvs) H1 Q E
def Binds (K:PySem.W.Frag)(fd:FuncData)(ps:List Str)(ds:List Value):Prop :=
 ∀ (s:Shared)(us:List Value),K.In s.heap→(us++ds).length=ps.length→BindsTo s fd ⟨us,[]⟩ (ps.zip (us++ds))
theorem Binds.all {K:PySem.W.Frag}{fd:FuncData}{ps:List Str}(h:∀ us:List Value,us.length=ps.length→bindArgs fd ⟨us,[]⟩=pure (ps.zip us)):Binds K fd ps []:=fun s us _ hl=>by
 rw[List.append_nil]at hl ⊢
 exact .of_eq (h us hl)
def Passes (CX:CXT)(X:Cx)(E:XK):Prop:=∀ (pins:List (Addr×Obj))(σ:St)(H:Hp)(s:Shared)(e:Value)(s':Shared),Inv X pins σ H s→CX X.stack H s E e s'→X.xe e s'
section
variable {X:Cx}{CX:CXT}{k:Nat}{f C:Addr}{fd:FuncData}{ps:List Str}{sp:Sp}{dvs:List V}{ds:List Value}{E:XK}{x m:Str}{p pos apos:Pos}{e o:Expr}{es:List Expr}{ta:TE}{t:TA}
theorem run_fn {pins:List (Addr×Obj)}{σ:St}{H:Hp}{s:Shared}{Q:VK}{us:List Value}{vs:List V}(F:FnOk X.prog X.w X.K X.mg X.base CX k f fd ps sp)(hr:Room k X.A)(hb:Binds X.K fd ps ds)(hd:Vals dvs ds)(hx:Passes CX X E)
  (I:Inv X pins σ H s) (r:Vals vs us) (h:sp (vs++dvs) H Q E):wpAny (model X.prog X.w) X.A (call (.ref f) us) (EP X pins σ Q) X.xe s:=by
 have r2:Vals (vs++dvs) (us++ds):=r.append hd
 have hl:(us++ds).length=ps.length:=by rw[←r2.length];exact F.len _ _ _ _ h
 refine wpAny_call (codeAny_mono (F.run X.A X.stack s H ⟨us,[]⟩ (us++ds) (vs++dvs) Q E hr I.env0 (hb s us I.kIn hl) r2 h) fun r s' hq=>?_)
 cases r with
 | error e=>exact hx pins σ H s e s' I hq
 | ok fl =>
  cases fl with
  | ret u=>exact I.after hq
  | next=>exact False.elim hq
  | brk=>exact False.elim hq
  | cont=>exact False.elim hq
theorem pe_call (F:FnOk X.prog X.w X.K X.mg X.base CX k f fd ps sp)(hr:Room k X.A)(hg:Gl X x)(hm:X.mg x=some (.ref f))(hk:PySem.W.keepIn X.K (.ref f)=true)(hb:Binds X.K fd ps ds)(hd:Vals dvs ds)(hx:Passes CX X E)
  (ha:PA X (e::es) t) (hdb:(x == ("__debug__" : Str))=false:=by decide) (he:starEach (e::es) X.env=(false,eval e X.env)::starEach es X.env:=by rfl) (hpl:(backTo pos (starEach es X.env)).any (·.1)=false:=by rfl) :
  PE X (.Call (.Name x p) (e::es) [] pos) (tCall sp dvs E t):=by
 intro pins s σ H Q I h
 refine wpAny_Call_Name_kw (ld_glob I hg hm ?_ hdb)
 refine PySem.W.callWith_K (h₀:=X.base) I.ok.mod.kin hk (thn (ha pos pins s σ H _ I h) fun us s1 ⟨vs,H1,I1,r,q⟩=>⟨I1.kIn,?_⟩) he hpl
 exact run_fn F hr hb hd hx I1 r q
end
section
variable {X:Cx}{CX:CXT}{k:Nat}{f C:Addr}{fd:FuncData}{ps ks:List Str}{sp:Sp}{E:XK}{x m:Str}{p pos apos kpos:Pos}{e o:Expr}{es:List Expr}{kws:List Keyword}{te ta:TE}{t tk:TA}{nm:Option Str}
variable {g:List Value→List Value→List Value}{gV:List V→List V→List V}
end
structure FnScope (N P:List Str)(sc:Scope):Prop where
 kind:sc.kind=.function
 co:sc.isCoroutine=false
 gen:sc.isGenerator=false
 nd:N.Nodup
 pre:N.take P.length=P
 par:∀ x∈P,sc.names.lookup x=some .local∨sc.names.lookup x=some .cell
 nofree:∀ y∈sc.names,y.2≠.free
theorem bindL_out {kindOf:Str→Option NameKind}{x:Str}:∀ {binds:List (Str×Value)}{m:Str→Option Value},(∀ v,(x,v)∉binds)→bindL kindOf binds m x=m x
 | [],_,_=>rfl
 | (n,v)::r,m,h=>by
  unfold bindL
  rw[bindL_out fun w hw=>h w (List.mem_cons_of_mem _ hw)]
  split
  ·have:x≠n:=by rintro rfl;exact h v List.mem_cons_self
   simp[this]
  ·rfl
theorem bindC_out {kindOf:Str→Option NameKind}{x:Str}:∀ {binds:List (Str×Value)}{m:Str→Option Value},(∀ v,(x,v)∉binds)→bindC kindOf binds m x=m x
 | [],_,_=>rfl
 | (n,v)::r,m,h=>by
  unfold bindC
  rw[bindC_out fun w hw=>h w (List.mem_cons_of_mem _ hw)]
  split
  ·rfl
  ·have:x≠n:=by rintro rfl;exact h v List.mem_cons_self
   simp[this]
theorem bindL_get {kindOf:Str→Option NameKind}{x:Str}{v:Value}:∀ {P:List Str}{vs:List Value}{i:Nat}{m:Str→Option Value},P.Nodup→P[i]? = some x→vs[i]? = some v→kindOf x=some .local →
  bindL kindOf (P.zip vs) m x=some v
 | [],_,_,_,_,h,_,_=>by simp at h
 | _::_,[],_,_,_,_,h,_=>by simp at h
 | p::P,w::vs,0,m,nd,h1,h2,hk=>by
  simp at h1 h2;subst h1;subst h2
  show bindL kindOf ((p,w)::P.zip vs) m p=_
  unfold bindL
  rw[bindL_out fun v hv=>(List.nodup_cons.mp nd).1 (List.of_mem_zip hv).1,if_pos hk]
  simp
 | p::P,w::vs,i+1,m,nd,h1,h2,hk=>by
  show bindL kindOf ((p,w)::P.zip vs) m x=_
  unfold bindL
  exact bindL_get (i:=i) (List.nodup_cons.mp nd).2 (by simpa using h1) (by simpa using h2) hk
theorem bindC_get {kindOf:Str→Option NameKind}{x:Str}{v:Value}:∀ {P:List Str}{vs:List Value}{i:Nat}{m:Str→Option Value},P.Nodup→P[i]? = some x→vs[i]? = some v→kindOf x≠some .local →
  bindC kindOf (P.zip vs) m x=some v
 | [],_,_,_,_,h,_,_=>by simp at h
 | _::_,[],_,_,_,_,h,_=>by simp at h
 | p::P,w::vs,0,m,nd,h1,h2,hk=>by
  simp at h1 h2;subst h1;subst h2
  show bindC kindOf ((p,w)::P.zip vs) m p=_
  unfold bindC
  rw[bindC_out fun v hv=>(List.nodup_cons.mp nd).1 (List.of_mem_zip hv).1,if_neg hk]
  simp
 | p::P,w::vs,i+1,m,nd,h1,h2,hk=>by
  show bindC kindOf ((p,w)::P.zip vs) m x=_
  unfold bindC
  exact bindC_get (i:=i) (List.nodup_cons.mp nd).2 (by simpa using h1) (by simpa using h2) hk
def start (N:List Str)(vs:List V):St:=vs.map some++List.replicate (N.length-vs.length) none
def cxOf (CX:CXT)(P:Program)(w:World)(K:PySem.W.Frag)(mg:Str→Option Value)(base:Heap)(N:List Str)(qual:Str)(scope:Scope)(f:Addr)(cd:Value)(A:Around)(outer:List Env)(s:Shared)(H:Hp)(E:XK):Cx where
 prog:=P
 w:=w
 K:=K
 mg:=mg
 base:=base
 A:=A.deeper (envOfC qual scope s.heap.objs.size f cd)
 N:=N
 s₀:=s
 H₀:=H
 env:=envOfC qual scope s.heap.objs.size f cd
 outer:=outer
 stack:=envOfC qual scope s.heap.objs.size f cd::outer
 ex:=[]
 calm:=true
 fn:=fun _=>true
 pn:=[]
 xe:=fun e s'=>wpAny (model P w) (A.deeper (envOfC qual scope s.heap.objs.size f cd)) (leaving (envOfC qual scope s.heap.objs.size f cd) e) (fun _ s''=>CX outer H s E e s'') (fun e' s''=>CX outer H s E e' s'') s'
theorem cell_has {sc:Scope}{n:Nat}{x:Str}(h:sc.names.lookup x=some .cell):∃ c,(cellsFrom n sc.names []).lookup x=some c:=by
 have q:=PySem.W.cellsFrom_some sc.names n [] (.inl h)
 exact Option.isSome_iff_exists.mp q
theorem inv_start {CX:CXT}{P:Program}{w:World}{K:PySem.W.Frag}{mg:Str→Option Value}{base:Heap}{N ps:List Str}{qual:Str}{scope:Scope}{f:Addr}{cd:Value}{A:Around}{outer:List Env}{s s1:Shared}{H:Hp}{E:XK}{us:List Value}{vs:List V}
  (S:FnScope N ps scope) (hd:A.handled=none) (e0:Env0 P w K mg base A outer s H) (hl:vs.length=ps.length) (r:Vals vs us)
  (x:InCallC s s.heap.objs.size (bindL (envOfC qual scope s.heap.objs.size f cd).kindOf (ps.zip us) fun _=>none) (cellsFrom (s.heap.objs.size+1) scope.names []) (bindC (envOfC qual scope s.heap.objs.size f cd).kindOf (ps.zip us) fun _=>none) s1) :
  Inv (cxOf CX P w K mg base N qual scope f cd A outer s H E) [] (start N vs) H s1:=by
 have hpl:ps.length≤N.length:=by have:=congrArg List.length S.pre;rw[List.length_take]at this;omega
 obtain⟨h1,tk,rfl,hk⟩:=x.done
 have noA:∀ b:Addr,b∉(cxOf CX P w K mg base N qual scope f cd A outer s H E).ex:=fun b z=>absurd (show b∈([]:List Addr) from z) (by simp)
 refine⟨⟨e0.mod,S.kind,rfl,rfl,Nat.le_refl _,fun y z c h1 h2=>?_,fun y hy=>?_,fun y c _ h=>?_,fun _=>hd,Around.frames_deeper e0.frames,.inr ⟨rfl,rfl⟩,fun b z=>absurd z (noA b),e0.bs,e0.bsz,fun b _ _=>noA b,fun b z=>absurd z (noA b),e0.funs,e0.frf⟩,
  rfl,e0.bare,Un.kept hk,⟨_,x.toInCall.ns,fun i y v h1 h2 h3=>?_⟩,fun y c h=>⟨_,x.cell y c h⟩,e0.hok.fresh (Nat.le_refl _),fun y c h=>?_,fun p hp=>absurd (show p∈([]:List (Addr×Obj)) from hp) (by simp),e0.hok.kept hk,?_⟩
 ·exact name_of_addr x.apart (PySem.mem_of_lookup h1) (PySem.mem_of_lookup h2)
 ·have hy:scope.names.lookup y=some .cell∨scope.names.lookup y=some .free:=hy
  rcases hy with hy | hy
  ·exact cell_has hy
  ·exact absurd rfl (S.nofree _ (PySem.mem_of_lookup hy))
 ·exact Nat.le_of_lt (x.above y c (PySem.mem_of_lookup h))
 ·have hi:i<vs.length:=by
   unfold start at h2
   by_cases hi:i<vs.length
   ·exact hi
   ·rw[List.getElem?_append_right (by simpa using hi)]at h2
    rw[List.getElem?_replicate]at h2
    split at h2<;>cases h2
  have ha:vs[i]? = some v:=by
   unfold start at h2
   rw[List.getElem?_append_left (by simpa using hi),List.getElem?_map]at h2
   cases e:vs[i]? with
   | none=>rw[e]at h2;cases h2
   | some a=>rw[e]at h2;cases h2;rfl
  obtain⟨u,hu,rv⟩:=r.get ha
  have hp:ps[i]? = some y:=by
   rw[←S.pre,List.getElem?_take_of_lt (by omega)];exact h1
  have ndP:ps.Nodup:=by rw[←S.pre];exact S.nd.sublist (List.take_sublist _ _)
  refine⟨u,rv,?_⟩
  rcases S.par y (List.mem_of_getElem? hp) with k | k
  ·exact .inl ⟨k,bindL_get ndP hp hu k⟩
  ·obtain⟨c,e⟩:=cell_has (n:=s.heap.objs.size+1) k
   refine .inr ⟨.inl k,c,e,?_⟩
   have q:=x.cell y c e
   rw[bindC_get ndP hp hu (by show scope.names.lookup y≠_;rw[k];decide)]at q
   exact q
 ·exact e0.hok.fresh (Nat.le_of_lt (x.above y c (PySem.mem_of_lookup h)))
 ·unfold start
  show _=N.length
  rw[List.length_append,List.length_map,List.length_replicate]
  omega
theorem fn_of {CX:CXT}{P:Program}{w:World}{K:PySem.W.Frag}{mg:Str→Option Value}{base:Heap}{k:Nat}{f:Addr}{name qual:Str}{params:Arguments}{body:List Stmt}{scope:Scope}{dV kV doc pm cdv ct oc:Value}{an od:Option Addr}
  {osl:Array (Option Value)} {N ps:List Str} {sp:Sp} (lk:K.lookup f=some ⟨oc,od,.func (PySem.W.fnOf name qual params body scope dV kV doc pm an cdv ct),osl⟩) (hcd:PySem.W.codeIn K cdv qual=true) (S:FnScope N ps scope)
  (len:∀ vs H Q E,sp vs H Q E→vs.length=ps.length)
  (hbody:∀ (A:Around)(outer:List Env)(s:Shared)(H:Hp)(vs:List V)(Q:VK)(E:XK),Room k (A.deeper (envOfC qual scope s.heap.objs.size f cdv))→sp vs H Q E →
   ∃ t,PSs (cxOf CX P w K mg base N qual scope f cdv A outer s H E) body t∧t { nx:=fun _ H'=>Q .non H',rt:=Q } (start N vs) H) :
  FnOk P w K mg base CX (k+1) f (PySem.W.fnOf name qual params body scope dV kV doc pm an cdv ct) ps sp:=by
 refine⟨len,fun A outer s H args us vs Q E hr e0 hb r hsp=>?_⟩
 have hl:=len _ _ _ _ hsp
 have KX:K.In s.heap:=e0.mod.kin.keeps fun b o e=>(e0.bs b o e).1
 have lim:s.heap.NoLimit:=e0.mod.nolimit.keeps fun b o e=>(e0.bs b o e).1
 have hkind:∀ y∈ps.zip us,scope.names.lookup y.1=some .local∨(scope.names.lookup y.1=some .cell∧((cellsFrom (s.heap.objs.size+1) scope.names []).lookup y.1).isSome=true):=fun ⟨n,v⟩ hy=>by
  rcases S.par n (List.of_mem_zip hy).1 with q | q
  ·exact .inl q
  ·exact .inr ⟨q,PySem.W.cellsFrom_some _ _ _ (.inl q)⟩
 refine codeAny_call_function hr.depth (KX _ _ lk) rfl S.co S.gen rfl (PySem.W.codeRec_of KX hcd) (hb _ _ _ _ ?_)
 refine wpAny_newFunctionEnv_cells S.kind hkind fun env he s1 x=>?_
 subst he
 refine⟨lim.keeps x.toInCall.keep,codeAny_func ?_⟩
 obtain⟨t,ht,hq⟩:=hbody A outer s H vs Q E (hr.deeper _) hsp
 have I:Inv (cxOf CX P w K mg base N qual scope f cdv A outer s H E) [] (start N vs) H s1:=inv_start S hr.hd e0 hl r x
 refine wpAny_mono (ht [] s1 (start N vs) H _ I hq) (fun fl s' hs=>?_) fun e s' hs=>hs
 have fin:∀ {σ':St}{H':Hp}{v:V}{u:Value},Inv (cxOf CX P w K mg base N qual scope f cdv A outer s H E) [] σ' H' s'→RelV v u→Q v H'→CE outer P w H s Q u s' :=
  fun {σ' H' v u} J rv q=>⟨v,H',J.os,J.bare,J.base,J.hok,rv,q⟩
 cases fl with
 | ret u =>
  obtain⟨v,σ',H',J,rv,q⟩:=hs
  exact fin J rv q
 | next =>
  obtain⟨σ',H',J,q⟩:=hs
  exact fin (v:=V.non) (u:=Value.none) J rfl q
 | brk =>
  obtain⟨_,_,_,q⟩:=hs
  exact False.elim q
 | cont =>
  obtain⟨_,_,_,q⟩:=hs
  exact False.elim q
end L2
namespace L2
open PySem PySem.Spec PyProof.Rows
section
variable {X:Cx}{x:Str}{p pos:Pos}{e:Expr}{es:List Expr}{t:TA}{id T:String}{r:List V→Hp→VK→Prop}
def tCB (r:List V→Hp→VK→Prop)(t:TA):TE:=fun σ H Q=>t σ H fun vs H1=>r vs H1 Q
theorem pe_callB (hc:CallR X (.builtin id) r)(hg:Gl X x)(hm:X.mg x=none)(hv:bootBuiltins x=some (.builtin id))(ha:PA X (e::es) t)(hn:x≠"__name__":=by decide)(hdb:(x == ("__debug__" : Str))=false:=by decide)
  (he:starEach (e::es) X.env=(false,eval e X.env)::starEach es X.env:=by rfl) (hpl:(backTo pos (starEach es X.env)).any (·.1)=false:=by rfl):PE X (.Call (.Name x p) (e::es) [] pos) (tCB r t):=by
 intro pins s σ H Q I h
 refine wpAny_Call_Name_kw (ld_blt I hg hm hv ?_ hn hdb)
 exact PyProof.Rows.callWith_builtin1 (thn (ha pos pins s σ H _ I h) fun us s1 ⟨vs,H1,I1,r1,q1⟩=>hc pins s1 σ H1 vs us Q I1 r1 q1) he hpl
theorem pe_callTy (hc:CallR X (.type T) r)(hg:Gl X x)(hm:X.mg x=none)(hv:bootBuiltins x=some (.type T))(ha:PA X (e::es) t)(hn:x≠"__name__":=by decide)(hdb:(x == ("__debug__" : Str))=false:=by decide)
  (he:starEach (e::es) X.env=(false,eval e X.env)::starEach es X.env:=by rfl) (hpl:(backTo pos (starEach es X.env)).any (·.1)=false:=by rfl):PE X (.Call (.Name x p) (e::es) [] pos) (tCB r t):=by
 intro pins s σ H Q I h
 refine wpAny_Call_Name_kw (ld_blt I hg hm hv ?_ hn hdb)
 exact PyProof.Rows.callWith_type1 (thn (ha pos pins s σ H _ I h) fun us s1 ⟨vs,H1,I1,r1,q1⟩=>hc pins s1 σ H1 vs us Q I1 r1 q1) he hpl
end
end L2
namespace HT
open PySem PyProof.Rows
section
open PySem.SeqAt
open PySem.AutoSeq1 (wpAny_loadPart')
open PySem.MeetsSeq PySem.MeetsSeq2 PySem.MeetsSeq3
end
section
variable {prog:Program}{w:World}{A:Around}{E:Value→Shared→Prop}{s:Shared}
def sIx (n d:Nat):Option Int→Nat
 | none=>d
 | some v=>if v<0 then (v+(n:Int)).toNat else min v.toNat n
end
end HT
namespace L2
open PySem PySem.Spec PyProof.Rows
abbrev TO:=St→Hp→(Option Int→Hp→Prop)→Prop
def PO (X:Cx)(e:Option Expr)(t:TO):Prop :=
 ∀ (pins:List (Addr×Obj))(s:Shared)(σ:St)(H:Hp)(Q:Option Int→Hp→Prop),Inv X pins σ H s→t σ H Q →
  wpAny (model X.prog X.w) X.A (evalPart e X.env) (fun u s'=>∃ o H',Inv X pins σ H' s'∧IsPart u o∧Q o H') X.xe s
def tPart (t:TE):TO:=fun σ H Q=>t σ H fun x H1=>∃ i,x=.int i∧Q (some i) H1
section
variable {X:Cx}{e:Expr}{te:TE}{lo hi:Option Expr}{tl th:TO}{pos p2:Pos}
theorem po_some (h:PE X e te):PO X (some e) (tPart te):=by
 intro pins s σ H Q I hw
 rw[evalPart_some]
 refine thn (h pins s σ H _ I hw) fun u s1 ⟨x,H1,I1,r1,q1⟩=>?_
 obtain⟨i,rfl,q⟩:=q1
 obtain⟨t,rfl⟩:=r1
 exact⟨some i,H1,I1,.int i t,q⟩
def SlR (X:Cx)(r:V→Option Int→Option Int→Hp→VK→Prop):Prop :=
 ∀ (pins:List (Addr×Obj))(s:Shared)(σ:St)(H:Hp)(x:V)(v vl vu:Value)(lo hi:Option Int)(sl:Addr)(Q:VK),Inv X pins σ H s→RelV x v→s.heap.IsSliceOf sl vl vu .none→IsPart vl lo→IsPart vu hi→r x lo hi H Q →
  ∃ T id,typeLookup (.type T) "__getitem__" = pure (some (.builtin id))∧s.TypeIs v T∧wpAny (model X.prog X.w) X.A (getItem v (.ref sl)) (EP X pins σ Q) X.xe s
def tSl (r:V→Option Int→Option Int→Hp→VK→Prop)(te:TE)(tl th:TO):TE:=fun σ H Q=>te σ H fun x H1=>tl σ H1 fun l H2=>th σ H2 fun u H3=>r x l u H3 Q
theorem pe_slice {r:V→Option Int→Option Int→Hp→VK→Prop}(hr:SlR X r)(he:PE X e te)(hl:PO X lo tl)(hu:PO X hi th):PE X (.Subscript e (.Slice lo hi none p2) pos) (tSl r te tl th):=by
 intro pins s σ H Q I h
 refine Subscript_ (thn (he pins s σ H _ I h) fun v s1 ⟨x,H1,I1,r1,q1⟩=>?_)
 refine wpAny_Slice (thn (hl pins s1 σ H1 _ I1 q1) fun vl s2 ⟨l,H2,I2,pl,q2⟩=>thn (hu pins s2 σ H2 _ I2 q2) fun vu s3 ⟨u,H3,I3,pu,q3⟩=>?_)
 rw[evalPart_none]
 refine wpAny_pure ?_
 have I4:Inv X pins σ H3 { s3 with heap:=s3.heap.push { cls:=.type "slice",data:=.fields #[vl,vu,.none] } }:=I3.kept (t':=s3.toks) fun b ob q=>Heap.get?_push_of_some _ q
 obtain⟨T,id,hT,ht,hg⟩:=hr pins { s3 with heap:=s3.heap.push { cls:=.type "slice",data:=.fields #[vl,vu,.none] } } σ H3 x v vl vu l u s3.heap.objs.size Q I4 r1 (Heap.IsSliceOf.new ..) pl pu q3
 show wpAny (model X.prog X.w) X.A (subscriptTail e (.Slice lo hi none p2) v (.ref s3.heap.objs.size)) (EP X pins σ Q) X.xe { s3 with heap:=s3.heap.push { cls:=.type "slice",data:=.fields #[vl,vu,.none] } }
 exact tail_any (ops:=[.ref s3.heap.objs.size,v]) ht hT hg (by with_unfolding_all rfl)
def cutV (xs:List V)(lo hi:Option Int):List V:=(xs.drop (HT.sIx xs.length 0 lo)).take (HT.sIx xs.length xs.length hi-HT.sIx xs.length 0 lo)
theorem cutV_length (xs:List V)(lo hi:Option Int):(cutV xs lo hi).length≤xs.length:=by
 unfold cutV
 rw[List.length_take,List.length_drop]
 omega
end
end L2
namespace L2
open PySem PySem.Spec PyProof.Rows
def ixN (n:Nat)(i:Int):Option Nat:=if 0≤i then (if i<n then some i.toNat else none) else if -(n:Int)≤i then some (i+n).toNat else none
def atI {α:Type}(xs:List α)(i:Int):Option α:=(ixN xs.length i).bind fun j=>xs[j]?
theorem ixN_seq {n:Nat}{i:Int}{j:Nat}(h:ixN n i=some j):seqIndex? i n=some j∧j<n∧-(n:Int)≤i∧i<n:=by
 unfold ixN at h
 by_cases h0:0≤i
 ·rw[if_pos h0]at h
  by_cases h1:i<n
  ·rw[if_pos h1]at h
   have e:i.toNat=j:=Option.some.inj h
   exact⟨by rw[seqIndex_of h0 h1,e],by omega,by omega,h1⟩
  ·rw[if_neg h1]at h;cases h
 ·rw[if_neg h0]at h
  by_cases h1 : -(n:Int)≤i
  ·rw[if_pos h1]at h
   have e:(i+n).toNat=j:=Option.some.inj h
   exact⟨by rw[seqIndex_neg (by omega) h1,e],by omega,h1,by omega⟩
  ·rw[if_neg h1]at h;cases h
theorem atI_get {α:Type}{xs:List α}{i:Int}{v:α}(h:atI xs i=some v):∃ j,seqIndex? i xs.length=some j∧xs[j]? = some v∧j<xs.length∧-(xs.length:Int)≤i∧i<xs.length:=by
 unfold atI at h
 cases e:ixN xs.length i with
 | none=>rw[e]at h;cases h
 | some j =>
  rw[e]at h
  obtain⟨h1,h2,h3,h4⟩:=ixN_seq e
  exact⟨j,h1,h,h2,h3,h4⟩
theorem atI_nat {α:Type}{xs:List α}{j:Nat}{v:α}(h:xs[j]? = some v):atI xs (j:Int)=some v:=by
 have hj:j<xs.length:=(List.getElem?_eq_some_iff.mp h).1
 have e:ixN xs.length (j:Int)=some j:=by
  unfold ixN
  rw[if_pos (by omega),if_pos (by omega)];simp
 unfold atI;rw[e];exact h
def PlainIx (b:Expr):Prop:=∀ o i,subscripted b false o i=operate [o,i] (getItem o i)
def IxR (X:Cx)(r:R2):Prop :=
 ∀ (value slice:Expr)(pins:List (Addr×Obj))(s:Shared)(σ:St)(H:Hp)(x y:V)(v u:Value)(Q:VK),Inv X pins σ H s→RelV x v→RelV y u→r x y H Q →
  subscripted slice false v u=operate [v,u] (getItem v u)→wpAny (model X.prog X.w) X.A (subscriptTail value slice v u) (EP X pins σ Q) X.xe s
def MtR (X:Cx)(id:String)(r:V→List V→Hp→VK→Prop):Prop :=
 ∀ (pins:List (Addr×Obj))(s:Shared)(σ:St)(H:Hp)(x:V)(xs:List V)(v:Value)(us:List Value)(Q:VK),Inv X pins σ H s→RelV x v→Vals xs us→r x xs H Q →
  wpAny (model X.prog X.w) X.A (call (.builtin id) (v::us)) (EP X pins σ Q) X.xe s
section
variable {X:Cx}{a b:Expr}{ta tb:TE}{pos:Pos}
theorem pe_ix {r:R2}(hr:IxR X r)(ha:PE X a ta)(hb:PE X b tb)(hs:PlainIx b):PE X (.Subscript a b pos) (tOp r ta tb):=by
 intro pins s σ H Q I h
 exact Subscript_ (binT ha hb I h fun v u s2 x y H2 I2 rx ry q=>hr a b pins s2 σ H2 x y v u Q I2 rx ry q (hs _ _))
def rIxL (K:PySem.W.Frag):R2:=fun x y H Q=>∃ p xs i v,x=.ref p∧y=.int i∧SqL K H p xs∧atI xs i=some v∧Q v H
def rIxT (K:PySem.W.Frag):R2:=fun x y H Q=>∃ p xs i v,x=.ref p∧y=.int i∧SqT K H p xs∧atI xs i=some v∧Q v H
theorem ix_list:IxR X (rIxL X.K):=by
 intro value slice pins s σ H x y v u Q I rx ry h hs
 obtain⟨p,xs,i,z,rfl,rfl,hq,he,q⟩:=h
 cases rx
 obtain⟨t,rfl⟩:=ry
 obtain⟨its,r,pl,hz⟩:=I.list hq
 obtain⟨j,h1,h2,h3,h4,h5⟩:=atI_get he
 obtain⟨w,ew,rw'⟩:=r.get h2
 have hl:=r.length
 have hn:=line63
 have fin:EP X pins σ Q w s:=⟨z,H,I,rw',q⟩
 by_cases h0:0≤i
 ·have hj:i.toNat=j:=by
   rw[seqIndex_of h0 h5]at h1
   exact Option.some.inj h1
  exact item_listR pl.isList h0 (by omega) (by rw[hj];simpa using ew) fin hs
 ·have hj:(i+(its.toArray.size:Int)).toNat=j:=by
   rw[seqIndex_neg (by omega) h4]at h1
   rw[List.size_toArray,←hl]
   exact Option.some.inj h1
  exact subscriptTail_builtinR (x:=w) pl.isList.typeIs slot_list_getitem.lookup
   (wpAny_getItem_list_neg (Q:=fun r s'=>r=w∧EP X pins σ Q r s') pl.isList (by omega) (by rw[List.size_toArray]<;>omega) (by omega) (by rw[hj];simpa using ew) ⟨rfl,fin⟩) hs
theorem ix_tup:IxR X (rIxT X.K):=by
 intro value slice pins s σ H x y v u Q I rx ry h hs
 obtain⟨p,xs,i,z,rfl,rfl,hq,he,q⟩:=h
 cases rx
 obtain⟨t,rfl⟩:=ry
 obtain⟨its,r,pl,hz⟩:=I.tuple hq
 obtain⟨j,h1,h2,h3,h4,h5⟩:=atI_get he
 obtain⟨w,ew,rw'⟩:=r.get h2
 have hl:=r.length
 have hn:=line63
 have fin:EP X pins σ Q w s:=⟨z,H,I,rw',q⟩
 exact subscriptTail_builtinR (x:=w) pl.typeIs slot_tuple_getitem.lookup
  (getItem_tuple (j:=j) (Q:=fun r s'=>r=w∧EP X pins σ Q r s') pl (by omega) (by omega) (by rw[List.size_toArray,←hl];exact h1) (by simpa using ew) ⟨rfl,fin⟩) hs
theorem mapSeq_set (its:List Value)(n j:Nat)(u:Value):Obj.mapSeq (·.setIfInBounds j u) { cls:=.type "list",data:=.seq its.toArray n }={ cls:=.type "list",data:=.seq (its.set j u).toArray n }:=by
 simp[Obj.mapSeq]
theorem Inv.lst {pins:List (Addr×Obj)}{σ:St}{H:Hp}{s:Shared}{p:Addr}{xs:List V}(I:Inv X pins σ H s)(h:H p=some (.lst xs)) :
  ∃ (its:List Value)(n:Nat),Vals xs its∧s.heap.get? p=some { cls:=.type "list",data:=.seq its.toArray n }∧xs.length≤sizeLine:=by
 obtain⟨z,its,n,r,e⟩:=I.hok p _ h
 exact⟨its,n,r,e,z⟩
theorem Inv.lstUpd {pins:List (Addr×Obj)}{σ:St}{H:Hp}{s:Shared}{p:Addr}{xs ys:List V}{its its':List Value}{n n':Nat}{f:Obj→Obj}(I:Inv X pins σ H s)(h:H p=some (.lst xs))
  (ho:s.heap.get? p=some { cls:=.type "list",data:=.seq its.toArray n }) (hf:f { cls:=.type "list",data:=.seq its.toArray n }={ cls:=.type "list",data:=.seq its'.toArray n' }) (r:Vals ys its') (hz:ys.length≤sizeLine) (t:Nat) :
  Inv X pins σ (upd H p (.lst ys)) { s with heap:=s.heap.update p f,toks:=t }:=by
 have e:(s.heap.update p f).get? p=some { cls:=.type "list",data:=.seq its'.toArray n' }:=by
  rw[Heap.get?_update_self f ho (by rw[hf]<;>rfl),hf]
 refine I.write (x:=p) (e:=p) (by rw[h];trivial) (.inl rfl) (fun b u hb q=>(Heap.get?_update_other _ _ (Ne.symm hb)).trans q) ⟨_,e⟩ ?_
 exact⟨hz,its',n',r,e⟩
def rSetL:V→V→V→Hp→(Hp→Prop)→Prop:=fun o i v H Q=>∃ p xs k j,o=.ref p∧i=.int k∧H p=some (.lst xs)∧ixN xs.length k=some j∧Q (upd H p (.lst (xs.set j v)))
theorem set_list:PSet X rSetL:=by
 intro pins s σ H o i v ov iv u Q I ro ri rv h
 obtain⟨p,xs,k,j,rfl,rfl,hp,hj,q⟩:=h
 cases ro
 obtain⟨t,rfl⟩:=ri
 obtain⟨its,n,r,ho,hz⟩:=I.lst hp
 obtain⟨h1,h2,h3,h4⟩:=ixN_seq hj
 have hl:=r.length
 have hn:=line63
 have I':Inv X pins σ (upd H p (.lst (xs.set j v))) { s with heap:=s.heap.update p (Obj.mapSeq (·.setIfInBounds j u)) } :=
  I.lstUpd hp ho (mapSeq_set its n j u) (r.set rv j) (by rw[List.length_set];exact hz) s.toks
 by_cases h0:0≤k
 ·have hk:k.toNat=j:=by
   rw[seqIndex_of h0 h4]at h1
   exact Option.some.inj h1
  exact PySem.W.ki_setAt ho h0 (by omega) (by rw[List.size_toArray,←hl];exact h4) (by rw[hk];exact⟨_,I',q⟩)
 ·have hk:(k+(its.toArray.size:Int)).toNat=j:=by
   rw[seqIndex_neg (by omega) h3]at h1
   rw[List.size_toArray,←hl]
   exact Option.some.inj h1
  exact PySem.W.ki_setBack ho (by omega) (by rw[List.size_toArray,←hl];exact h3) (by omega) (by rw[hk];exact⟨_,I',q⟩)
theorem slice_bounds (lo hi:Option Int)(n:Nat):(sliceBounds lo hi none n).1=((HT.sIx n 0 lo:Nat):Int)∧(sliceBounds lo hi none n).2.1=((HT.sIx n n hi:Nat):Int)∧(sliceBounds lo hi none n).2.2=1:=by
 refine⟨?_,?_,rfl⟩
 ·cases lo with
  | none=>simp[sliceBounds,HT.sIx]
  | some i =>
   simp only[sliceBounds,HT.sIx,Option.getD_none,show (1:Int)>0 by decide,if_true]
   by_cases h:i<0
   ·simp only[h,if_true]<;>omega
   ·simp only[h,if_false]<;>omega
 ·cases hi with
  | none=>simp[sliceBounds,HT.sIx]
  | some i =>
   simp only[sliceBounds,HT.sIx,Option.getD_none,show (1:Int)>0 by decide,if_true]
   by_cases h:i<0
   ·simp only[h,if_true]<;>omega
   ·simp only[h,if_false]<;>omega
theorem slicePick_cut (its:List Value)(lo hi:Option Int):slicePick its.toArray lo hi none=((its.drop (HT.sIx its.length 0 lo)).take (HT.sIx its.length its.length hi-HT.sIx its.length 0 lo)).toArray:=by
 obtain⟨h1,h2,h3⟩:=slice_bounds lo hi its.toArray.size
 unfold slicePick
 rw[h1,h2,h3]
 simp only[sliceRange_one,pick_run,List.size_toArray]<;>rfl
def rSlL (K:PySem.W.Frag):V→Option Int→Option Int→Hp→VK→Prop:=fun x lo hi H Q=>∃ a xs,x=.ref a∧SqL K H a xs∧∀ p,H p=none→Q (.ref p) (upd H p (.lst (cutV xs lo hi)))
theorem sl_list:SlR X (rSlL X.K):=by
 intro pins s σ H x v vl vu lo hi sl Q I rx hs pl pu h
 obtain⟨a,xs,rfl,hx,q⟩:=h
 cases rx
 obtain⟨its,r,ht,hz⟩:=I.list hx
 have hlen:=r.length
 refine⟨"list",_,slot_list_getitem.lookup,ht.isList.typeIs,?_⟩
 refine wpAny_getItem_list_slice ht.isList hs pl pu .none (by simp) ?_ (by rw[List.size_toArray]<;>omega)
 rw[slicePick_cut,←hlen]
 refine⟨.ref s.heap.objs.size,_,I.laid (t':=s.toks) (o:=.lst (cutV xs lo hi)) (fun b ob q=>Heap.get?_push_of_some _ q) (Nat.le_refl _) ?_,rfl,q _ (I.hok.fresh (Nat.le_refl _))⟩
 exact⟨Nat.le_trans (cutV_length xs lo hi) hz,_,0,(r.drop (HT.sIx xs.length 0 lo)).take (HT.sIx xs.length xs.length hi-HT.sIx xs.length 0 lo),Heap.get?_push_size _ rfl⟩
def flatV:V→Bool
 | .non=>true
 | .bl _=>true
 | .int _=>true
 | .str _=>true
 | _=>false
def eqV:V→V→Bool
 | .non,.non=>true
 | .bl a,.bl b=>a == b
 | .bl a,.int b=>(if a then 1 else 0) == b
 | .int a,.bl b=>a == (if b then 1 else 0)
 | .int a,.int b=>a == b
 | .str a,.str b=>a == b
 | _,_=>false
theorem eqAt_V {A:Around}{s:Shared}{y x:V}{u v:Value}(ry:RelV y u)(rx:RelV x v)(fy:flatV y=true)(fx:flatV x=true):SeqAt.EqAt A s u v (eqV y x):=by
 cases y with
 | non =>
  cases ry
  cases x with
  | non=>cases rx;exact SeqAt.EqAt.same _
  | bl b=>cases rx;exact SeqAt.EqAt.none_bool b
  | int b=>obtain⟨t,rfl⟩:=rx;exact SeqAt.EqAt.none_int b t
  | str b=>obtain⟨t,rfl⟩:=rx;exact SeqAt.EqAt.none_str b t
  | _=>exact absurd (show false=true from fx) Bool.false_ne_true
 | bl a =>
  cases ry
  cases x with
  | non=>cases rx;exact SeqAt.EqAt.bool_none a
  | bl b=>cases rx;exact SeqAt.EqAt.bool_bool a b
  | int b=>obtain⟨t,rfl⟩:=rx;exact SeqAt.EqAt.bool_int a b t
  | str b=>obtain⟨t,rfl⟩:=rx;exact SeqAt.EqAt.bool_str a b t
  | _=>exact absurd (show false=true from fx) Bool.false_ne_true
 | int a =>
  obtain⟨t',rfl⟩:=ry
  cases x with
  | non=>cases rx;exact SeqAt.EqAt.int_none a t'
  | bl b=>cases rx;exact SeqAt.EqAt.int_bool a t' b
  | int b=>obtain⟨t,rfl⟩:=rx;exact SeqAt.EqAt.int_int a t' b t
  | str b=>obtain⟨t,rfl⟩:=rx;exact SeqAt.EqAt.int_str a t' b t
  | _=>exact absurd (show false=true from fx) Bool.false_ne_true
 | str a =>
  obtain⟨t',rfl⟩:=ry
  cases x with
  | non=>cases rx;exact SeqAt.EqAt.str_none a t'
  | bl b=>cases rx;exact SeqAt.EqAt.str_bool a t' b
  | int b=>obtain⟨t,rfl⟩:=rx;exact SeqAt.EqAt.str_int a t' b t
  | str b=>obtain⟨t,rfl⟩:=rx;exact SeqAt.EqAt.str_str a t' b t
  | _=>exact absurd (show false=true from fx) Bool.false_ne_true
 | _=>exact absurd (show false=true from fy) Bool.false_ne_true
def eqU (x:V)(u:Value):Bool:=match u with
 | .none=>eqV .non x
 | .bool b=>eqV (.bl b) x
 | .int i _=>eqV (.int i) x
 | .str z _=>eqV (.str z) x
 | _=>false
theorem eqU_of {x y:V}{u:Value}(r:RelV y u)(f:flatV y=true):eqU x u=eqV y x:=by
 cases y with
 | non=>cases r;rfl
 | bl b=>cases r;rfl
 | int i=>obtain⟨t,rfl⟩:=r;rfl
 | str z=>obtain⟨t,rfl⟩:=r;rfl
 | _=>exact absurd (show false=true from f) Bool.false_ne_true
theorem any_eqU {x:V}:∀ {xs:List V}{us:List Value},Vals xs us→xs.all flatV=true→us.any (eqU x)=xs.any fun y=>eqV y x
 | _,_,.nil,_=>rfl
 | y::xs,u::us,.cons r t,f=>by
  rw[List.all_cons,Bool.and_eq_true]at f
  rw[List.any_cons,List.any_cons,eqU_of r f.1,any_eqU t f.2]
theorem mem_eqAt {A:Around}{s:Shared}{x:V}{v:Value}(rx:RelV x v)(fx:flatV x=true):∀ {xs:List V}{us:List Value},Vals xs us→xs.all flatV=true→∀ u∈us,SeqAt.EqAt A s u v (eqU x u)
 | _,_,.nil,_=>fun u hu=>by cases hu
 | y::xs,u::us,.cons r t,f=>fun u' hu=>by
  rw[List.all_cons,Bool.and_eq_true]at f
  rcases List.mem_cons.mp hu with rfl | hu
  ·rw[eqU_of r f.1];exact eqAt_V r rx f.1 fx
  ·exact mem_eqAt rx fx t f.2 u' hu
def inV (x:V)(xs:List V):Bool:=xs.any fun y=>eqV y x
def rIn (K:PySem.W.Frag)(neg:Bool):R2:=fun x y H Q=>∃ p xs,y=.ref p∧(SqL K H p xs∨SqT K H p xs)∧flatV x=true∧xs.all flatV=true∧Q (.bl (if neg then !inV x xs else inV x xs)) H
theorem op_notIn_seq:OpR X (compareOp .NotIn) (rIn X.K true):=by
 intro pins s σ H x y v u Q I rx ry h
 obtain⟨p,xs,rfl,hq,fx,fs,q⟩:=h
 cases ry
 rcases hq with hq | hq
 ·obtain⟨its,r,pl,hz⟩:=I.list hq
  refine SeqAt.notIn_listAt (eqU x) pl.isList (fun w hw=>mem_eqAt rx fx r fs w (by simpa using hw)) ⟨.bl _,H,I,rfl,?_⟩
  rw[show its.toArray.any (eqU x)=its.any (eqU x) by simp,any_eqU r fs]
  exact q
 ·obtain⟨its,r,pl,hz⟩:=I.tuple hq
  refine SeqAt.notIn_tupleAt (eqU x) pl (fun w hw=>mem_eqAt rx fx r fs w (by simpa using hw)) ⟨.bl _,H,I,rfl,?_⟩
  rw[show its.toArray.any (eqU x)=its.any (eqU x) by simp,any_eqU r fs]
  exact q
theorem call_len_seq:CallR X (.builtin "len") (fun xs H Q=>∃ p ys,xs=[.ref p]∧(SqL X.K H p ys∨SqT X.K H p ys)∧Q (.int ys.length) H):=by
 intro pins s σ H xs us Q I r h
 obtain⟨p,ys,rfl,hq,q⟩:=h
 obtain⟨u,rfl,rx⟩:=vals1 r
 cases rx
 have hn:=line63
 rcases hq with hq | hq
 ·obtain⟨its,r',pl,hz⟩:=I.list hq
  have hlen:=r'.length
  exact Calls.call_len_list pl.isList (by simp only[List.size_toArray]<;>omega) ⟨.int ys.length,H,I.tok _,⟨s.toks+1,by rw[List.size_toArray,hlen]⟩,q⟩
 ·obtain⟨its,r',pl,hz⟩:=I.tuple hq
  have hlen:=r'.length
  exact len_tuple pl (by simp only[List.size_toArray]<;>omega) ⟨.int ys.length,H,I.tok _,⟨s.toks+1,by rw[List.size_toArray,hlen]⟩,q⟩
theorem call_list_of:CallR X (.type "list") (fun xs H Q=>∃ p ys,xs=[.ref p]∧(SqL X.K H p ys∨SqT X.K H p ys)∧∀ l,H l=none→Q (.ref l) (upd H l (.lst ys))):=by
 intro pins s σ H xs us Q I r h
 obtain⟨p,ys,rfl,hq,q⟩:=h
 obtain⟨u,rfl,rx⟩:=vals1 r
 cases rx
 have fin:∀ (its:List Value),Vals ys its→ys.length≤sizeLine→∀ (h':Heap)(c':Nat),(∀ b o',s.heap.get? b=some o'→h'.get? b=some o') →
   h'.get? s.heap.objs.size=some { cls:=.type "list",dict:=none,data:=.seq its.toArray c',slots:=#[] }→EP X pins σ Q (.ref s.heap.objs.size) { s with heap:=h' }:=fun its r' hz h' c' kp e =>
  ⟨.ref s.heap.objs.size,_,I.laid (t':=s.toks) kp (Nat.le_refl _) (show ObjOk X.prog X.w _ h' _ (.lst ys) from ⟨hz,its,c',r',e⟩),rfl,q _ (I.hok.fresh (Nat.le_refl _))⟩
 rcases hq with hq | hq
 ·obtain⟨its,r',pl,hz⟩:=I.list hq
  have hlen:=r'.length
  obtain⟨o,ho,hc,n,hd⟩:=pl.isList
  exact call_list_seq p (.inl rfl) ho hc hd (fun h' c' kp e=>fin its r' hz h' c' kp e) (by simp only[List.size_toArray]<;>omega)
 ·obtain⟨its,r',pl,hz⟩:=I.tuple hq
  have hlen:=r'.length
  obtain⟨o,ho,hc,n,hd⟩:=pl
  exact call_list_seq p (.inr rfl) ho hc hd (fun h' c' kp e=>fin its r' hz h' c' kp e) (by simp only[List.size_toArray]<;>omega)
def tyV (K:PySem.W.Frag)(T:String)(x:V)(H:Hp):Prop:=match x with
 | .str _=>T="str"
 | .int _=>T="int"
 | .ref p=>(T="list"∧∃ xs,SqL K H p xs)∨(T="tuple"∧∃ o,K.lookup p=some o∧o.cls=.type "tuple"∧o.dict=none) ∨
   (T="dict"∧((∃ kvs,H p=some (.dK kvs))∨∃ kvs,H p=some (.dT kvs)))∨(T="set"∧∃ S n,H p=some (.set S n))
 | _=>False
theorem tyV_is {pins:List (Addr×Obj)}{σ:St}{H:Hp}{s:Shared}{T:String}{x:V}{v:Value}(I:Inv X pins σ H s)(r:RelV x v)(ty:tyV X.K T x H) :
  s.TypeIs v T∧∀ a,v=.ref a→∃ ob,s.heap.get? a=some ob∧ob.dict=none:=by
 cases x with
 | str z =>
  obtain⟨t,rfl⟩:=r
  cases (show T="str" from ty)
  exact⟨typeIs_str s z t,fun _ e=>nomatch e⟩
 | int i =>
  obtain⟨t,rfl⟩:=r
  cases (show T="int" from ty)
  exact⟨typeIs_int s i t,fun _ e=>nomatch e⟩
 | ref p =>
  cases r
  rcases ty with ⟨rfl,xs,hq⟩ | ⟨rfl,o,hk,hc,hd⟩ | ⟨rfl,hk⟩ | ⟨rfl,S,n,hk⟩
  ·obtain⟨its,_,pl,_⟩:=I.list hq
   refine⟨pl.isList.typeIs,fun a e=>?_⟩
   cases e
   obtain⟨o,n,e,c,hd,_⟩:=pl
   exact⟨o,e,hd⟩
  ·refine⟨⟨o,I.kIn p o hk,hc⟩,fun a e=>?_⟩
   cases e
   exact⟨o,I.kIn _ o hk,hd⟩
  ·have z:∃ o,s.heap.get? p=some o∧o.ExactDict:=by
    rcases hk with ⟨kvs,hk⟩ | ⟨kvs,hk⟩
    ·obtain⟨_,_,_,_,o,_,_,e,ex,_⟩:=I.hok p _ hk
     exact⟨o,e,ex⟩
    ·obtain⟨_,_,_,_,o,_,_,e,ex,_⟩:=I.hok p _ hk
     exact⟨o,e,ex⟩
   obtain⟨o,e,ex⟩:=z
   refine⟨⟨o,e,ex.1⟩,fun a e2=>?_⟩
   cases e2
   exact⟨o,e,ex.2.1⟩
  ·obtain⟨o,_,_,_,e,ex,_⟩:=I.hok p _ hk
   refine⟨⟨o,e,ex.1⟩,fun a e2=>?_⟩
   cases e2
   exact⟨o,e,ex.2.1⟩
 | _=>exact False.elim ty
def tBM0 (K:PySem.W.Frag)(T:String)(r:V→List V→Hp→VK→Prop)(to:TE):TE:=fun σ H Q=>to σ H fun x H1=>tyV K T x H1∧r x [] H1 Q
def tBM (K:PySem.W.Frag)(T:String)(r:V→List V→Hp→VK→Prop)(to:TE)(t:TA):TE:=fun σ H Q=>to σ H fun x H1=>tyV K T x H1∧t σ H1 fun xs H2=>r x xs H2 Q
variable {o e:Expr}{es:List Expr}{to:TE}{t:TA}{name:Str}{apos cpos:Pos}{T id:String}{r:V→List V→Hp→VK→Prop}
theorem pe_bm0 (pa:PlainAttrs T)(slot:Slot T name id)(hty:typeOf (.builtin id)=pure (.type "method_descriptor"))(hm:MtR X id r)(ho:PE X o to)
  (hbase:attributeBase o name X.env (eval o X.env)=eval o X.env:=by rfl) (hline:(apos.endLine == cpos.line)=true:=by rfl):PE X (.Call (.Attribute o name apos) [] [] cpos) (tBM0 X.K T r to):=by
 intro pins s σ H Q I h
 refine wpAny_Call_method0_late hbase hline (thn (ho pins s σ H _ I h) fun v s1 ⟨x,H1,I1,r1,ty,q1⟩=>?_)
 obtain⟨h1,h2⟩:=tyV_is I1 r1 ty
 exact⟨T,id,pa,slot,hty,h1,h2,Calls.callWith_builtin rfl (PySem.evalArgs_none (hm pins s1 σ H1 x [] v [] Q I1 r1 .nil q1))⟩
theorem pe_bm (pa:PlainAttrs T)(slot:Slot T name id)(hty:typeOf (.builtin id)=pure (.type "method_descriptor"))(hm:MtR X id r)(ho:PE X o to)(ha:PA X (e::es) t)
  (hbase:attributeBase o name X.env (eval o X.env)=eval o X.env:=by rfl)
  (hfew:((backTo cpos (starEach (e::es) X.env)).all (fun x=>!x.1)&&(backToKw cpos (keywordEach [] X.env)).all (fun x=>x.1.isSome)
   && decide ((e::es).length+([]:List Keyword).length+(if ([]:List Keyword).isEmpty then 0 else 1)<30))=true:=by rfl)
  (hline:(apos.endLine == cpos.line)=true:=by rfl) (hs:starEach (e::es) X.env=(false,eval e X.env)::starEach es X.env:=by rfl) (hplain:(backTo cpos (starEach es X.env)).any (·.1)=false:=by rfl) :
  PE X (.Call (.Attribute o name apos) (e::es) [] cpos) (tBM X.K T r to t):=by
 intro pins s σ H Q I h
 refine wpAny_Call_method_late hbase hfew hline rfl (thn (ho pins s σ H _ I h) fun v s1 ⟨x,H1,I1,r1,ty,q1⟩=>?_)
 obtain⟨h1,h2⟩:=tyV_is I1 r1 ty
 refine⟨T,id,pa,slot,hty,h1,h2,?_⟩
 have hA:=ha cpos pins s1 σ H1 _ I1 q1
 rw[hs]at hA ⊢
 refine Calls.callWith_builtin (by show (false||(backTo cpos (starEach es X.env)).any (·.1))=false;rw[hplain]<;>rfl) (Calls.evalArgs_plain ?_)
 exact thn hA fun us s2 ⟨vs,H2,I2,r2,q2⟩=>hm pins s2 σ H2 x vs v us Q I2 r1 r2 q2
end
end L2
namespace L2
open PySem PySem.Spec PyProof.Rows
def MtM (X:Cx)(id:String)(r:V→List V→Hp→VK→Prop):Prop :=
 ∀ (pins:List (Addr×Obj))(s:Shared)(σ:St)(H:Hp)(x:V)(xs:List V)(v:Value)(us:List Value)(Q:VK),Inv X pins σ H s→RelV x v→Vals xs us→r x xs H Q →
  wpAny (model X.prog X.w) X.A (call (.builtin id) (v::us)) (EP X pins σ Q) X.xe s
theorem Vals.one:∀ {x:V}{us:List Value},Vals [x] us→∃ u,us=[u]∧RelV x u
 | _,_,.cons r .nil=>⟨_,rfl,r⟩
theorem Vals.zero:∀ {us:List Value},Vals [] us→us=[]
 | _,.nil=>rfl
section
variable {X:Cx}{pins:List (Addr×Obj)}{σ:St}{H:Hp}{s:Shared}{l b:Addr}{xs ys zs:List V}
theorem Inv.lset {its its':List Value}{n:Nat}{f:Array Value→Array Value}{t':Nat}(I:Inv X pins σ H s)(hH:H l=some (.lst xs))
  (e:s.heap.get? l=some { cls:=.type "list",data:=.seq its.toArray n }) (hf:f its.toArray=its'.toArray) (hv:Vals ys its') (hz:ys.length≤sizeLine) :
  Inv X pins σ (upd H l (.lst ys)) { s with heap:=s.heap.update l (Obj.mapSeq f),toks:=t' }:=by
 have q:=PySem.IsL.update e f
 rw[hf]at q
 refine I.write (x:=l) (e:=l) (by rw[hH];exact trivial) (.inl rfl) (fun b' u hb hu=>(Heap.get?_update_other s.heap (Obj.mapSeq f) (Ne.symm hb)).trans hu) ⟨_,q⟩ ?_
 exact⟨hz,its',_,hv,q⟩
theorem Inv.lstM (I:Inv X pins σ H s)(hH:H l=some (.lst xs)):xs.length≤sizeLine∧∃ (its:List Value)(n:Nat),Vals xs its∧xs.length=its.length∧s.heap.get? l=some { cls:=.type "list",data:=.seq its.toArray n }:=by
 obtain⟨z,its,n,r,e⟩:=I.hok l _ hH
 exact⟨z,its,n,r,r.length,e⟩
end
section
variable {X:Cx}
def rAppend:V→List V→Hp→VK→Prop:=fun x vs H Q=>∃ l xs y,x=.ref l∧vs=[y]∧H l=some (.lst xs)∧xs.length<sizeLine∧Q .non (upd H l (.lst (xs++[y])))
theorem mt_append:MtM X "list.append" rAppend:=by
 intro pins s σ H x vs v us Q I rx rv h
 obtain⟨l,xs,y,rfl,rfl,hH,hz,q⟩:=h
 cases rx
 obtain⟨u,rfl,ru⟩:=rv.one
 obtain⟨z,its,n,r,hl,e⟩:=I.lstM hH
 refine call_meets F.slot_list_append ⟨_,e,rfl⟩ F.entry_list_append (F.args_list_append_2 _ _) (PySem.list_append l its.toArray n u (by rw[List.size_toArray];omega)) ⟨e,?_⟩
 refine⟨.non,_,I.lset (its':=its++[u]) hH e (by simp) (r.append (.cons ru .nil)) ?_,rfl,q⟩
 rw[List.length_append,List.length_singleton]
 omega
def rClear:V→List V→Hp→VK→Prop:=fun x vs H Q=>∃ l xs,x=.ref l∧vs=[]∧H l=some (.lst xs)∧Q .non (upd H l (.lst []))
theorem mt_clear:MtM X "list.clear" rClear:=by
 intro pins s σ H x vs v us Q I rx rv h
 obtain⟨l,xs,rfl,rfl,hH,q⟩:=h
 cases rx
 have hus:=rv.zero
 subst hus
 obtain⟨z,its,n,r,hl,e⟩:=I.lstM hH
 refine call_meets F.slot_list_clear ⟨_,e,rfl⟩ F.entry_list_clear (F.args_list_clear_1 _) (AutoSeq1.list_clear_list_0 l its.toArray n (by rw[List.size_toArray];omega)) ⟨e,?_⟩
 exact⟨.non,_,I.lset (its':=[]) (ys:=[]) hH e rfl .nil (Nat.zero_le _),rfl,q⟩
end
section
variable {prog:Program}{w:World}{A:Around}{E:Value→Shared→Prop}{s:Shared}
end
section
variable {X:Cx}
end
end L2
namespace L2
open PySem PySem.Spec PyProof.Rows
section
variable {κ:Type} [DecidableEq κ]
def valV (kvs:List (κ×V))(k:κ):Option V:=(kvs.find? fun kv=>decide (kv.1=k)).map (·.2)
def putK (kvs:List (κ×V))(k:κ)(v:V):List (κ×V) :=
 if (kvs.any fun kv=>decide (kv.1=k))=true then kvs.map (fun kv=>if kv.1=k then (kv.1,v) else kv) else kvs++[(k,v)]
theorem valV_pos {p:κ×V}{r:List (κ×V)}{k:κ}(e:p.1=k):valV (p::r) k=some p.2:=by simp[valV,List.find?_cons,e]
theorem valV_neg {p:κ×V}{r:List (κ×V)}{k:κ}(e:¬ p.1=k):valV (p::r) k=valV r k:=by simp[valV,List.find?_cons,e]
theorem valV_any (k:κ):∀ kvs:List (κ×V),(kvs.any fun kv=>decide (kv.1=k))=(valV kvs k).isSome
 | []=>rfl
 | p::r=>by
  rw[List.any_cons]
  by_cases e:p.1=k
  ·simp only[valV_pos e,decide_eq_true e,Bool.true_or,Option.isSome_some]
  ·rw[valV_neg e,decide_eq_false e,Bool.false_or];exact valV_any k r
theorem length_putK (kvs:List (κ×V))(k:κ)(v:V):(putK kvs k v).length≤kvs.length+1:=by
 unfold putK
 split
 ·rw[List.length_map];omega
 ·rw[List.length_append,List.length_cons,List.length_nil];omega
theorem RelO.isSome_eq {o:Option V}{u:Option Value}(r:RelO o u):o.isSome=u.isSome:=by
 cases o with
 | none=>cases u with
  | none=>rfl
  | some _=>exact (show False from r).elim
 | some _=>cases u with
  | none=>exact (show False from r).elim
  | some _=>rfl
theorem RelO.getD {o:Option V}{u:Option Value}{d:V}{d':Value}(r:RelO o u)(rd:RelV d d'):RelV (o.getD d) (u.getD d'):=by
 cases o with
 | none=>cases u with
  | none=>exact rd
  | some _=>exact (show False from r).elim
 | some _=>cases u with
  | none=>exact (show False from r).elim
  | some _=>exact r
theorem KV.val {kvs:List (κ×V)}{vs:List (κ×Value)}(r:KV kvs vs)(k:κ):RelO (valV kvs k) (valueAt vs k):=by
 unfold KV at r
 induction r with
 | nil=>exact True.intro
 | @cons p q ps qs h t ih =>
  obtain⟨h1,h2⟩:=h
  by_cases e:p.1=k
  ·have e':q.1=k:=h1.symm.trans e
   have b:valueAt (q::qs) k=some q.2:=by simp[valueAt,List.find?_cons,e']
   rw[valV_pos e,b];exact h2
  ·have e':¬ q.1=k:=fun z=>e (h1.trans z)
   have b:valueAt (q::qs) k=valueAt qs k:=by simp[valueAt,List.find?_cons,e']
   rw[valV_neg e,b];exact ih
theorem KV.any {kvs:List (κ×V)}{vs:List (κ×Value)}(r:KV kvs vs)(k:κ):(kvs.any fun kv=>decide (kv.1=k))=vs.any fun kv=>decide (kv.1=k):=by
 unfold KV at r
 induction r with
 | nil=>rfl
 | cons h t ih=>rw[List.any_cons,List.any_cons,ih,h.1]
theorem KV.repl {kvs:List (κ×V)}{vs:List (κ×Value)}(r:KV kvs vs)(k:κ){y:V}{u:Value}(ry:RelV y u) :
  KV (kvs.map fun kv=>if kv.1=k then (kv.1,y) else kv) (vs.map fun kv=>if kv.1=k then (kv.1,u) else kv):=by
 unfold KV at r ⊢
 induction r with
 | nil=>exact .nil
 | @cons p q ps qs h t ih =>
  rw[List.map_cons,List.map_cons]
  refine .cons ?_ ih
  obtain⟨h1,h2⟩:=h
  by_cases e:p.1=k
  ·rw[if_pos e,if_pos (h1.symm.trans e)];exact⟨h1,ry⟩
  ·rw[if_neg e,if_neg (fun z=>e (h1.trans z))];exact⟨h1,h2⟩
theorem KV.put {kvs:List (κ×V)}{vs:List (κ×Value)}(r:KV kvs vs)(k:κ){y:V}{u:Value}(ry:RelV y u):KV (putK kvs k y) (stored vs k u):=by
 unfold putK stored
 rw[r.any k]
 by_cases e:(vs.any fun kv=>decide (kv.1=k))=true
 ·rw[if_pos e,if_pos e];exact r.repl k ry
 ·rw[if_neg e,if_neg e];exact Paired.snoc r ⟨rfl,ry⟩
theorem KV.keys {kvs:List (κ×V)}{vs:List (κ×Value)}(r:KV kvs vs):kvs.map (·.1)=vs.map (·.1):=by
 unfold KV at r
 induction r with
 | nil=>rfl
 | cons h t ih=>rw[List.map_cons,List.map_cons,ih,h.1]
theorem KV.length {kvs:List (κ×V)}{vs:List (κ×Value)}(r:KV kvs vs):kvs.length=vs.length:=Paired.length r
end
theorem kV_is {P:Program}{w:World}{k:Key}{u:Value}(r:RelV (kV k) u):(mixKind P w).is k u=true:=by
 cases k with
 | inl i=>obtain⟨t,e⟩:=(show ∃ t,u=Value.int i t from r);subst e;exact mixKind_int P w i t
 | inr x=>obtain⟨t,e⟩:=(show ∃ t,u=Value.str x t from r);subst e;exact mixKind_str P w x t
theorem items_are {P:Program}{w:World}:∀ {ks:List Key}{us:List Value},Vals (ks.map kV) us→ItemsAre (mixKind P w) ks us
 | [],_,r=>by rw[List.map_nil]at r;cases r;exact .nil
 | k::ks,_,r=>by
  rw[List.map_cons]at r
  cases r with
  | cons h t=>exact .cons (kV_is h) (items_are t)
abbrev KT (H:Hp):List (List Key×V)→List (List Key×Addr×Value)→Prop:=Paired fun p q=>p.1=q.1∧H q.2.1=some (.tup (p.1.map kV))∧RelV p.2 q.2.2
theorem KT.val {H:Hp}{kvs:List (List Key×V)}{xs:List (List Key×Addr×Value)}(r:KT H kvs xs)(k:List Key):RelO (valV kvs k) ((atKey xs k).map (·.2)):=by
 induction r with
 | nil=>exact True.intro
 | @cons p q ps qs h t ih =>
  obtain⟨h1,_,h2⟩:=h
  by_cases e:p.1=k
  ·have e':q.1=k:=h1.symm.trans e
   have b:atKey (q::qs) k=some q.2:=by simp[atKey,List.find?_cons,e']
   rw[valV_pos e,b];exact h2
  ·have e':¬ q.1=k:=fun z=>e (h1.trans z)
   have b:atKey (q::qs) k=atKey qs k:=by simp[atKey,List.find?_cons,e']
   rw[valV_neg e,b];exact ih
theorem KT.repl {H:Hp}{kvs:List (List Key×V)}{xs:List (List Key×Addr×Value)}(r:KT H kvs xs)(k:List Key){y:V}{u:Value}(ry:RelV y u) :
  KT H (kvs.map fun kv=>if kv.1=k then (kv.1,y) else kv) (xs.map (putAt k u)):=by
 induction r with
 | nil=>exact .nil
 | @cons p q ps qs h t ih =>
  rw[List.map_cons,List.map_cons]
  refine .cons ?_ ih
  obtain⟨h1,h2,h3⟩:=h
  unfold putAt
  by_cases e:p.1=k
  ·rw[if_pos e,if_pos (h1.symm.trans e)];exact⟨h1,h2,ry⟩
  ·rw[if_neg e,if_neg (fun z=>e (h1.trans z))];exact⟨h1,h2,h3⟩
theorem KT.put {H:Hp}{kvs:List (List Key×V)}{xs:List (List Key×Addr×Value)}(r:KT H kvs xs)(k:List Key){b:Addr}{y:V}{u:Value}(hb:H b=some (.tup (k.map kV)))(ry:RelV y u) :
  KT H (putK kvs k y) (storedH xs k b u):=by
 have e:(kvs.any fun kv=>decide (kv.1=k))=(atKey xs k).isSome:=by
  rw[valV_any,(r.val k).isSome_eq,Option.isSome_map]
 unfold putK storedH
 rw[e]
 by_cases q:(atKey xs k).isSome=true
 ·rw[if_pos q,if_pos q];exact r.repl k ry
 ·rw[if_neg q,if_neg q];exact Paired.snoc r ⟨rfl,hb,ry⟩
theorem KT.keeps {H H':Hp}{kvs:List (List Key×V)}{xs:List (List Key×Addr×Value)}(r:KT H kvs xs)(ht:∀ b ys,H b=some (.tup ys)→H' b=some (.tup ys)):KT H' kvs xs :=
 Paired.mapP r fun _ _ z=>⟨z.1,ht _ _ z.2.1,z.2.2⟩
section
variable {P:Program}{w:World}{H:Hp}{h:Heap}{a:Addr}
theorem rd_of {u:HO}(ok:HOk P w H h)(e:Rd H a u):ObjOk P w H h a u:=e.ok ok
theorem dk_rd {kvs:List (Key×V)}(ok:HOk P w H h)(e:Rd H a (.dK kvs)):kvs.length≤sizeLine∧(a == sysModules)=false∧∃ vs,KV kvs vs∧h.DictOf (mixKind P w) a vs :=
 show ObjOk P w H h a (.dK kvs) from rd_of ok e
theorem dk_of {kvs:List (Key×V)}(ok:HOk P w H h)(e:H a=some (.dK kvs)):kvs.length≤sizeLine∧(a == sysModules)=false∧∃ vs,KV kvs vs∧h.DictOf (mixKind P w) a vs:=dk_rd ok (.inl e)
theorem key_of {ks:List Key}(ok:HOk P w H h)(e:H a=some (.tup (ks.map kV))):(tupleKind (mixKind P w)).is h ks a:=by
 obtain⟨_,its,r,o,h1,h2,n,h3⟩:=(show ObjOk P w H h a (.tup (ks.map kV)) from ok a _ e)
 exact⟨o,its.toArray,n,h1,h2,h3,by simpa using items_are r⟩
theorem dt_rd {kvs:List (List Key×V)}(ok:HOk P w H h)(e:Rd H a (.dT kvs)):kvs.length≤sizeLine∧(a == sysModules)=false ∧
  ∃ xs,KT H kvs xs∧h.DictOfH (tupleKind (mixKind P w)) a xs:=by
 obtain⟨z,y,xs,r,o,es,ep,h1,h2,h3,h4,h5⟩:=(show ObjOk P w H h a (.dT kvs) from rd_of ok e)
 refine⟨z,y,xs,r,o,es,ep,h1,h2,h3,h4,fun x hx=>?_,h5⟩
 have all:∀ {l:List (List Key×V)}{m:List (List Key×Addr×Value)},KT H l m→∀ x∈m,(tupleKind (mixKind P w)).is h x.1 x.2.1:=by
  intro l m q
  induction q with
  | nil=>intro x hx;exact nomatch hx
  | @cons p q ps qs hq t ih =>
   intro x hx
   rcases List.mem_cons.mp hx with e | hx
   ·subst e
    exact key_of ok (by rw[←hq.1];exact hq.2.1)
   ·exact ih x hx
 exact all r x hx
theorem dt_of {kvs:List (List Key×V)}(ok:HOk P w H h)(e:H a=some (.dT kvs)):kvs.length≤sizeLine∧(a == sysModules)=false ∧
  ∃ xs,KT H kvs xs∧h.DictOfH (tupleKind (mixKind P w)) a xs:=dt_rd ok (.inl e)
end
def DGet (H:Hp)(a:Addr)(y:V)(r:Option V):Prop :=
 (∃ kvs k,Rd H a (.dK kvs)∧y=kV k∧r=valV kvs k)∨∃ kvs k b,Rd H a (.dT kvs)∧y=.ref b∧H b=some (.tup (k.map kV))∧r=valV kvs k
def DPut (H:Hp)(a:Addr)(y v:V)(H':Hp):Prop :=
 (∃ kvs k,H a=some (.dK kvs)∧y=kV k∧kvs.length<sizeLine∧H'=upd H a (.dK (putK kvs k v))) ∨
 ∃ kvs k b,H a=some (.dT kvs)∧y=.ref b∧H b=some (.tup (k.map kV))∧kvs.length<sizeLine∧H'=upd H a (.dT (putK kvs k v))
theorem DGet.k {H:Hp}{a:Addr}{kvs:List (Key×V)}{k:Key}(e:H a=some (.dK kvs)):DGet H a (kV k) (valV kvs k):=.inl ⟨kvs,k,.inl e,rfl,rfl⟩
theorem DPut.k {H:Hp}{a:Addr}{kvs:List (Key×V)}{k:Key}{v:V}(e:H a=some (.dK kvs))(hl:kvs.length<sizeLine):DPut H a (kV k) v (upd H a (.dK (putK kvs k v))):=.inl ⟨kvs,k,e,rfl,hl,rfl⟩
section
variable {X:Cx}{pins:List (Addr×Obj)}{σ:St}{H:Hp}{s:Shared}{a:Addr}{y v:V}{u r:Value}{o:Option V}{A:Around}{E:Value→Shared→Prop}
theorem Inv.big (I:Inv X pins σ H s):sysModules<s.heap.objs.size:=by
 have h:mainGlobals<s.heap.objs.size:=(I.mod.glob.keeps I.bk).lt
 exact Nat.lt_trans (by decide) h
theorem d_getItem {Q:Value→Shared→Prop}(hu:A.units+1<cLine)(I:Inv X pins σ H s)(g:DGet H a y (some v))(ry:RelV y u)(h:∀ w' s',Inv X pins σ H s'→RelV v w'→Q w' s') :
  wpAny (model X.prog X.w) A (getItem (.ref a) u) Q E s:=by
 rcases g with ⟨kvs,k,e,ey,l⟩ | ⟨kvs,k,b,e,ey,eb,l⟩
 ·subst ey
  obtain⟨z,hd,vs,rel,dd⟩:=dk_rd I.hok e
  obtain⟨w',hw,rw'⟩:=RelO.some_of (v:=v) (o:=valueAt vs k) (by rw[l];exact rel.val k)
  exact wpAny_getItem_of (kV_is ry) dd.mapOf hw (h w' _ (I.tok _) rw')
 ·subst ey
  cases (show u=Value.ref b from ry)
  obtain⟨z,hd,xs,rel,dd⟩:=dt_rd I.hok e
  obtain⟨w',hw,rw'⟩:=RelO.some_of (v:=v) (o:=(atKey xs k).map (·.2)) (by rw[l];exact rel.val k)
  obtain⟨p,hp,hp2⟩:=Option.map_eq_some_iff.mp hw
  refine wpAny_getItem_heap (tupleKind_room_in1 hu) (key_of I.hok eb) dd hp ?_
  rw[hp2]
  exact h w' _ (I.tok _) rw'
theorem d_write {h':Heap}{t':Nat}{ob:HO}(I:Inv X pins σ H s)(mu:Mut (H a))(hs:Heap.SameBut a s.heap h')(he:∃ q,h'.get? a=some q)(new:ObjOk X.prog X.w (upd H a ob) h' a ob) :
  Inv X pins σ (upd H a ob) { s with heap:=h',toks:=t' } :=
 I.write (x:=a) (e:=a) mu (.inl rfl) (fun b q hb z=>(hs.2 b hb).trans z) he new
theorem dk_new {P:Program}{w:World}{H':Hp}{h':Heap}{kvs:List (Key×V)}{vs:List (Key×Value)}(z:kvs.length≤sizeLine)(hd:(a == sysModules)=false)(rel:KV kvs vs)(dd:h'.DictOf (mixKind P w) a vs) :
  ObjOk P w H' h' a (.dK kvs):=⟨z,hd,vs,rel,dd⟩
theorem d_setItem {H':Hp}{Q:Unit→Shared→Prop}(hu:A.units+1<cLine)(I:Inv X pins σ H s)(g:DPut H a y v H')(ry:RelV y u)(rv:RelV v r)(h:∀ s',Inv X pins σ H' s'→Q () s') :
  wpAny (model X.prog X.w) A (setItem (.ref a) u r) Q E s:=by
 rcases g with ⟨kvs,k,e,ey,l,eH⟩ | ⟨kvs,k,b,e,ey,eb,l,eH⟩
 ·subst ey eH
  obtain⟨z,hd,vs,rel,dd⟩:=dk_of I.hok e
  have hz:vs.length≤sizeLine:=by rw[←rel.length];exact z
  have hl:(putK kvs k v).length≤sizeLine:=by have:=length_putK kvs k v;omega
  refine wpAny_setItem_pairs (hsz:=hz) (kV_is ry) dd fun h' dd' hs=>h _ ?_
  have he:∃ q,h'.get? a=some q:=let ⟨q,_,_,hq,_⟩:=dd';⟨q,hq⟩
  exact d_write I (by rw[e];exact True.intro) hs he (dk_new hl hd (rel.put k rv) dd')
 ·subst ey eH
  cases (show u=Value.ref b from ry)
  obtain⟨z,hd,xs,rel,dd⟩:=dt_of I.hok e
  have hz:xs.length≤sizeLine:=by rw[←Paired.length rel];exact z
  have hl:(putK kvs k v).length≤sizeLine:=by have:=length_putK kvs k v;omega
  refine wpAny_setItem_heap (hsz:=hz) (tupleKind_room_in1 hu) (key_of I.hok eb) dd fun h' dd' hs=>h _ ?_
  obtain⟨q,es,ep,hq,h2,h3,h4,_,h5⟩:=dd'
  refine d_write I (by rw[e];exact True.intro) hs ⟨q,hq⟩ ⟨hl,hd,_,(rel.put k eb rv).keeps fun c ys ec=>?_,q,es,ep,hq,h2,h3,h4,h5⟩
  rw[upd_ne (ne_of ec e (fun z=>nomatch z))]
  exact ec
end
section
variable {X:Cx}{pins:List (Addr×Obj)}{σ:St}{H:Hp}{s:Shared}{a:Addr}{kvs:List (Key×V)}{k:Key}{u:Value}{A:Around}{E:Value→Shared→Prop}
end
def NoSl (i:Expr):Prop:=∀ ov iv,subscripted i false ov iv=operate [ov,iv] (getItem ov iv)
theorem subD_of {prog:Program}{w:World}{A:Around}{E:Value→Shared→Prop}{s:Shared}{env:Env}{value slice:Expr}{pos:Pos}{T id:String}{Q:Value→Shared→Prop}
  (hl:typeLookup (.type T) "__getitem__" = pure (some (.builtin id))) (hs:NoSl slice)
  (h:wpAny (model prog w) A (eval value env) (fun o s₁=>wpAny (model prog w) A (eval slice env) (fun i s₂=>s₂.TypeIs o T∧wpAny (model prog w) A (getItem o i) Q E s₂) E s₁) E s) :
  wpAny (model prog w) A (eval (.Subscript value slice pos) env) Q E s:=by
 refine Subscript_ (wpAny_mono h (fun o s₁ h₁=>wpAny_mono h₁ (fun i s₂ h₂=>?_) fun _ _ x=>x) fun _ _ x=>x)
 obtain⟨hT,h₂⟩:=h₂
 unfold subscriptTail
 refine wpAny_bind ?_
 rw[getitemInPython_of_ne hT.not_modules]
 refine wpAny_bind (wpAny_specialOf hT hl ?_)
 have fin:wpAny (model prog w) A (subscripted slice false o i) (fun r s₃=>wpAny (model prog w) A (letTemporaryGo value o r >>= fun _=>pure r) Q E s₃) E s₂:=by
  rw[hs o i]
  exact wpAny_operating (wpAny_mono h₂ (fun r s₃ h₃=>wpAny_bind (wpAny_letTemporaryGo (wpAny_pure h₃))) fun _ _ x=>x)
 first
  | exact wpAny_pure (wpAny_bind fin)
  | exact wpAny_bind (wpAny_pure (wpAny_bind fin))
  | exact wpAny_bind fin
theorem dict_typeIs {X:Cx}{pins:List (Addr×Obj)}{σ:St}{H:Hp}{s:Shared}{a:Addr}{y:V}{o:Option V}(I:Inv X pins σ H s)(g:DGet H a y o):s.TypeIs (.ref a) "dict":=by
 rcases g with ⟨kvs,k,e,_,_⟩ | ⟨kvs,k,b,e,_,_,_⟩
 ·obtain⟨_,_,vs,_,dd⟩:=dk_rd I.hok e
  exact dd.typeIs
 ·obtain⟨_,_,xs,_,dd⟩:=dt_rd I.hok e
  exact dd.typeIs
def tDGet (td ty:TE):TE:=fun σ H Q=>td σ H fun x H1=>ty σ H1 fun y H2=>∃ a v,x=.ref a∧DGet H2 a y (some v)∧Q v H2
def sDPut (td ty tv:TE):TS:=fun D σ H=>tv σ H fun v H1=>td σ H1 fun x H2=>ty σ H2 fun y H3=>∃ a H4,x=.ref a∧DPut H3 a y v H4∧D.nx σ H4
section
variable {X:Cx}{o i e value:Expr}{pos pos' tpos:Pos}{td ty tv:TE}
theorem pe_dget (hu:X.A.units+1<cLine)(ho:PE X o td)(hi:PE X i ty)(hs:NoSl i):PE X (.Subscript o i pos) (tDGet td ty):=by
 intro pins s σ H Q I h
 refine subD_of PySem.F.slot_dict_getitem.lookup hs (thn (ho pins s σ H _ I h) fun u s1 ⟨x,H1,I1,rx,q1⟩=>thn (hi pins s1 σ H1 _ I1 q1) fun iv s2 ⟨y,H2,I2,ry,a,v,ex,g,q2⟩=>?_)
 subst ex
 obtain rfl:u=Value.ref a:=rx
 exact⟨dict_typeIs I2 g,d_getItem hu I2 g ry fun w' s3 I3 rw'=>⟨v,H2,I3,rw',q2⟩⟩
theorem ps_dput (hu:X.A.units+1<cLine)(ho:PE X o td)(hi:PE X i ty)(hv:PE X value tv)(hs:swapsWith value (some (.Subscript o i pos')) pos.line X.env=pure false) :
  PS X (.Assign [.Subscript o i pos'] value pos) (sDPut td ty tv):=by
 intro pins s σ H D I h
 refine wpAny_Assign_Subscript (thn (hv pins s σ H _ I h) fun r s1 ⟨v,H1,I1,rv,q1⟩=>thn (ho pins s1 σ H1 _ I1 q1) fun u s2 ⟨x,H2,I2,rx,q2⟩=>thn (hi pins s2 σ H2 _ I2 q2) fun iv s3 ⟨y,H3,I3,ry,a,H4,ex,g,q3⟩=>?_) hs
 subst ex
 obtain rfl:u=Value.ref a:=rx
 exact d_setItem hu I3 g ry rv fun s4 I4=>⟨σ,H4,I4,q3⟩
end
theorem dk_empty {P:Program}{w:World}{H:Hp}(h:Heap)(hb:sysModules<h.objs.size):ObjOk P w H (h.push { cls:=.type "dict",data:=.dict #[] }) h.objs.size (.dK []) :=
 ⟨Nat.zero_le _,beq_eq_false_iff_ne.mpr (Ne.symm (Nat.ne_of_lt hb)),[],.nil,Heap.DictOf.new h⟩
def tDNewK:TE:=fun _ H Q=>∀ p,H p=none→Q (.ref p) (upd H p (.dK []))
section
variable {X:Cx}{pos:Pos}
theorem pe_dnewK:PE X (.Dict [] [] pos) tDNewK:=fun pins s σ H Q I h =>
 wpAny_Dict_empty ⟨.ref s.heap.objs.size,_,I.laid (a:=s.heap.objs.size) (o:=.dK []) (t':=s.toks) (fun _ _ q=>Heap.get?_push_of_some _ q) (Nat.le_refl _) (dk_empty s.heap I.big),rfl,h _ (I.hok.fresh (Nat.le_refl _))⟩
end
structure M2 (X:Cx)(o:Expr)(m:Str)(apos:Pos)(e f:Expr)(cpos:Pos):Prop where
 base:attributeBase o m X.env (eval o X.env)=eval o X.env
 few:((backTo cpos (starEach [e,f] X.env)).all (fun x=>!x.1)&&(backToKw cpos (keywordEach [] X.env)).all (fun x=>x.1.isSome)
  && decide (([e,f]:List Expr).length+([]:List Keyword).length+(if ([]:List Keyword).isEmpty then 0 else 1)<30))=true
 line:(apos.endLine == cpos.line)=true
 trees:backTo cpos (starEach [e,f] X.env)=[(false,eval e X.env),(false,eval f X.env)]
def IsD (H:Hp)(a:Addr):Prop:=(∃ kvs,Rd H a (.dK kvs))∨∃ kvs,Rd H a (.dT kvs)
theorem isD_at {X:Cx}{pins:List (Addr×Obj)}{σ:St}{H:Hp}{s:Shared}{a:Addr}(I:Inv X pins σ H s)(d:IsD H a) :
  s.TypeIs (.ref a) "dict"∧(∀ b,Value.ref a=.ref b→∃ ob,s.heap.get? b=some ob∧ob.dict=none)∧(a == sysModules)=false:=by
 rcases d with ⟨kvs,e⟩ | ⟨kvs,e⟩
 ·obtain⟨_,hd,vs,_,dd⟩:=dk_rd I.hok e
  refine⟨dd.typeIs,fun b q=>?_,hd⟩
  cases q
  obtain⟨ob,_,_,h1,h2,_⟩:=dd
  exact⟨ob,h1,h2.2.1⟩
 ·obtain⟨_,hd,xs,_,dd⟩:=dt_rd I.hok e
  refine⟨dd.typeIs,fun b q=>?_,hd⟩
  cases q
  obtain⟨ob,_,_,h1,h2,_⟩:=dd
  exact⟨ob,h1,h2.2.1⟩
section
variable {X:Cx}{pins:List (Addr×Obj)}{σ:St}{H:Hp}{s:Shared}{a:Addr}{y d:V}{u r:Value}{o:Option V}{A:Around}{E:Value→Shared→Prop}
theorem d_get2 {Q:Value→Shared→Prop}(hu:A.units+1<cLine)(I:Inv X pins σ H s)(g:DGet H a y o)(ry:RelV y u)(rd:RelV d r)(h:∀ w' s',Inv X pins σ H s'→RelV (o.getD d) w'→Q w' s') :
  wpAny (model X.prog X.w) A (call (.builtin "dict.get") [.ref a,u,r]) Q E s:=by
 rcases g with ⟨kvs,k,e,ey,l⟩ | ⟨kvs,k,b,e,ey,eb,l⟩
 ·subst ey
  obtain⟨z,hd,vs,rel,dd⟩:=dk_rd I.hok e
  refine call_meetsIn PySem.F.slot_dict_get dd.typeIs PySem.F.entry_dict_get (PySem.F.args_dict_get_3 _ _ _) (meets_dict_get_default (mixKind X.prog X.w) a (kV_is ry) hd r) ⟨_,dd.mapOf,h _ _ (I.tok _) ?_⟩
  rw[l]
  exact (rel.val k).getD rd
 ·subst ey
  cases (show u=Value.ref b from ry)
  obtain⟨z,hd,xs,rel,dd⟩:=dt_rd I.hok e
  refine call_meetsIn PySem.F.slot_dict_get dd.typeIs PySem.F.entry_dict_get (PySem.F.args_dict_get_3 _ _ _) (meetsH_dict_get_default (tupleKind (mixKind X.prog X.w)) a b hd r) ⟨tupleKind_room_in1 hu,k,xs,key_of I.hok eb,dd,h _ _ (I.tok _) ?_⟩
  rw[l]
  exact (rel.val k).getD rd
end
def tDGet2 (td ty tx:TE):TE:=fun σ H Q=>td σ H fun x H1=>∃ a,x=.ref a∧IsD H1 a∧ty σ H1 fun y H2=>tx σ H2 fun z H3=>∃ o,DGet H3 a y o∧Q (o.getD z) H3
section
variable {X:Cx}{o e f:Expr}{apos cpos:Pos}{td ty tx:TE}
theorem pe_dget2 (hu:X.A.units+1<cLine)(ho:PE X o td)(he:PE X e ty)(hf:PE X f tx)(m:M2 X o "get" apos e f cpos):PE X (.Call (.Attribute o "get" apos) [e,f] [] cpos) (tDGet2 td ty tx):=by
 intro pins s σ H Q I h
 refine wpAny_Call_method m.base m.few m.line PySem.F.plainAttrs_dict PySem.F.slot_dict_get PySem.F.type_dict_get (thn (ho pins s σ H _ I h) fun u s1 ⟨x,H1,I1,rx,a,ex,d,q1⟩=>?_)
 subst ex
 obtain rfl:u=Value.ref a:=rx
 obtain⟨t1,t2,_⟩:=isD_at I1 d
 refine⟨t1,t2,?_⟩
 rw[m.trees]
 refine Calls.callWith_builtin rfl (Calls.evalArgs_plain (Calls.spliced_cons (thn (he pins s1 σ H1 _ I1 q1) fun iv s2 ⟨y,H2,I2,ry,q2⟩ =>
  Calls.spliced_cons (thn (hf pins s2 σ H2 _ I2 q2) fun fv s3 ⟨z,H3,I3,rz,ov,g,q3⟩=>Calls.spliced_nil ?_))))
 exact d_get2 hu I3 g ry rz fun w' s4 I4 rw'=>⟨_,H3,I4,rw',q3⟩
end
section
variable {X:Cx}{pins:List (Addr×Obj)}{σ:St}{H:Hp}{s:Shared}{a:Addr}{kvs:List (Key×V)}{A:Around}{E:Value→Shared→Prop}
end
section
variable {X:Cx}{pins:List (Addr×Obj)}{σ:St}{H:Hp}{s:Shared}{a:Addr}{y:V}{u:Value}{A:Around}{E:Value→Shared→Prop}
end
end L2
namespace Att
open PySem PySem.W PySem.Calls PyProof.Rows
theorem ints_of_wellAll {P:Params}{h:Heap}:∀ (ns:List Int)(vs:List Value),WellAll P h vs (ns.map WData.int)→IntsAre vs ns:=by
 intro ns
 induction ns with
 | nil =>
  intro vs w
  rw[List.map_nil]at w
  cases w
  exact .nil
 | cons n ns ih =>
  intro vs w
  rw[List.map_cons]at w
  cases w with
  | cons a b =>
   cases a
   exact .cons _ _ (ih _ b)
theorem script_of {l:OpenLaw}{n:Nat}(hn:l.most=some n){P:Params}{h:Heap}{args:List WData}{vals:List Value}
  (hpre:l.row.toRowW.claim.pre args=true) (hwl:WellAll P h vals args) :
  ∃ a vs ns,vals=[Value.ref a]∧args=[WData.list (ns.map WData.int)]∧h.get? a=some { cls:=.type "list",data:=.seq vs.toArray }∧IntsAre vs ns∧ns.length≤n:=by
 have hsh:WShape.hasAll [] args [.list .int]=true:=(pre_splitW hpre).1
 have hc:l.pre.holds [] { args:=args }=true:=(pre_splitW hpre).2
 obtain⟨d,r,rfl,h1,h2⟩:=hasAllW_cons hsh
 obtain rfl:=hasAllW_nil h2
 obtain⟨xs,rfl,h3⟩:=hasW_list h1
 obtain⟨ns,rfl⟩:=items_int h3
 have hlen:ns.length≤n:=by
  unfold OpenLaw.pre at hc
  have h4:(WTm.not (.lt (.lit (.int (n:Int))) (.len (.arg 0)))).holds [] { args:=[.list (ns.map .int)] }=true:=by
   have h4:=(holds_andW hc).1
   rw[hn]at h4
   exact h4
  have h5:=condW_of h4 (w_not (w_lt w_lit (w_len_list (w_arg rfl))))
  rw[List.length_map]at h5
  refine Nat.le_of_not_lt fun q=>?_
  have q':(n:Int)<((ns.length:Nat):Int):=by omega
  first
   | (rw[decide_eq_true q']at h5;exact absurd h5 (by decide))
   | (simp at h5;omega)
 cases hwl with
 | cons w1 w2 =>
  cases w2
  cases w1 with
  | list ho hall=>exact⟨_,_,ns,rfl,rfl,ho,ints_of_wellAll ns _ hall,hlen⟩
theorem post_true (l:OpenLaw)(args:List WData):l.row.toRowW.claim.post args (.bool true) args=true :=
 postW_of (r:=l.row.toRowW) (X:=(true == true))
  (show WShape.has [] (.bool true) .bool=true by first | rfl | decide | simp[WShape.has,WShape.arms,WShape.armsAll])
  (show (WTm.eq .res (.lit (.bool true))).value [] { args:=args,res:=some (.bool true),after:=args }=some (.bool (true == true)) from w_eq_bool (w_res rfl) w_lit) rfl
theorem attach_call {l:OpenLaw}{n:Nat}{q:Program}{loose:List Str}{XP:(Str→Option Value)→Heap→Prop}{YP:World→Heap→Prop}{d:DefRec}
  (hn:l.most=some n) (hdf:d.params.defaults=[])
  (call:∀ (w:World)(s₀ s₁:Shared)(mg mb:Str→Option Value)(fa:Addr)(o:Obj)(pm cd doc:Value)(a:Addr)(vs:List Value)(ns:List Int),
   Ground q loose [] XP w s₀ mg mb s₁.heap→YP w s₁.heap →
   s₁.heap.get? fa=some o→o.data=.func (docDef d.name d.params d.body d.scope pm cd doc)→s₁.heap.CodeRec cd d.name→mg d.name=some (.ref fa) →
   s₁.heap.get? a=some { cls:=.type "list",data:=.seq vs.toArray }→IntsAre vs ns→ns.length≤n→s₁.gens = #[] →
   codeAny (model l.prog w) callerA (.call (.ref fa) ⟨[.ref a],[]⟩) (fun r s'=>r=.ok (.ret (.bool true))∧OldK s₁.heap s'.heap∧s'.os=s₁.os∧AllBare s'.gens) s₁) :
  WalkO q loose XP YP l.row.toRowW d [] (fun f vs=>PySem.call f vs):=by
 intro w s₀ s₁ mg mb G Y fa o pm cd doc dV kV ho hd hcd hD hmg hg args vals as hpre hlay hrd hwl hlo
 obtain rfl:dV=.none:=Dflts.none hD hdf
 obtain rfl:kV=.none:=Dflts.noKw hD
 obtain⟨a,vs,ns,rfl,rfl,hobj,hints,hlen⟩:=script_of hn hpre hwl
 refine enter_call (codeAny_mono (call w s₀ s₁ mg mb fa o pm cd doc a vs ns G Y ho (fd_plain hd) hcd hmg hobj hints hlen hg) fun r s' hq=>?_)
 obtain⟨rfl,h2,h3,h4⟩:=hq
 exact⟨.inl ⟨.bool true,.bool true,[],rfl,fun _=>rfl,.bool true,post_true l _,fun _=>⟨List.Pairwise.nil,fun _ hm=>(nomatch hm)⟩⟩,h2,h3,h4⟩
section
variable {prog:Program}{w:World}{A:Around}{E:Value→Shared→Prop}{s:Shared}{K:Frag}
def noObjs (h:Heap):Heap:={ h with objs:=#[] }
def ledger (h:Heap)(L d:Addr):List (Addr×Obj):=(List.range h.objs.size).filterMap fun a=>if a=L∨a=d then none else (h.get? a).map fun o=>(a,o)
end
end Att
namespace L2
open PySem PySem.Spec PyProof.Rows
theorem vals_ints:∀ {vs:List Value}{ns:List Int},IntsAre vs ns→Vals (ns.map V.int) vs
 | _,_,.nil=>.nil
 | _,_,.cons n t h=>.cons ⟨t,rfl⟩ (vals_ints h)
def Only (H:Hp):Prop:=∀ b,H b=none∨∃ o xs,H b=some (.frz o (.lst xs))
theorem law_call {P:Program}{w:World}{K:PySem.W.Frag}{mg mb:Str→Option Value}{CX:CXT}{k:Nat}{fa a:Addr}{fd:FuncData}{x:Str}{sp:Sp}{s₁:Shared}{vs:List Value}{ns:List Int}
  (KX:K.In s₁.heap) (hns:s₁.heap.Ns mainGlobals mg) (hb:s₁.heap.Ns builtinsNs mb) (hbb:∀ x:Str,x≠"__name__"→mb x=bootBuiltins x) (hlim:s₁.heap.NoLimit) (hg:s₁.gens = #[])
  (ha:s₁.heap.get? a=some { cls:=.type "list",data:=.seq vs.toArray }) (hi:IntsAre vs ns) (hl:ns.length≤sizeLine) (hr:Room k callerA)
  (F:∀ base:Heap,K.In base→base.Ns mainGlobals mg→FnOk P w K mg base CX k fa fd [x] sp) (hbind:∀ (s:Shared)(u:Value),BindsTo s fd ⟨[u],[]⟩ [(x,u)])
  (hsp:∀ H:Hp,Only H→SqL K H a (ns.map V.int)→sp [.ref a] H (fun v _=>v=.bl true) fun _ _ _=>False)
  (hCX:∀ H e s',CX [] H s₁ (fun _ _ _=>False) e s'→False) :
  codeAny (model P w) callerA (.call (.ref fa) ⟨[.ref a],[]⟩) (fun r s'=>r=.ok (.ret (.bool true))∧OldK s₁.heap s'.heap∧s'.os=s₁.os∧AllBare s'.gens) s₁:=by
 have rv:=vals_ints hi
 have lenV:=hi.length
 have core:∀ H:Hp,Only H→SqL K H a (ns.map V.int)→HOk P w H s₁.heap→(∀ b,H b≠none→b=a)→(H a≠none→K.lookup a=none) →
   codeAny (model P w) callerA (.call (.ref fa) ⟨[.ref a],[]⟩) (fun r s'=>r=.ok (.ret (.bool true))∧OldK s₁.heap s'.heap∧s'.os=s₁.os∧AllBare s'.gens) s₁:=by
  intro H hO hS hok hA hK
  have base_of:∀ {b:Addr}{o:Obj},s₁.heap.get? b=some o→H b=none→(hidT s₁.heap H).get? b=some o:=fun e n=>hidT_get e n
  have noA:∀ {b:Addr}{o:Obj}{es:Array DictEntry}{ep:Nat},s₁.heap.get? b=some o→o.data=.dict es ep→H b=none:=fun {b o es ep} e d=>by
   cases q:H b with
   | none=>rfl
   | some u =>
    have e':b=a:=hA b (by rw[q];simp)
    subst e'
    rw[ha]at e;cases e
    have d':Data.seq vs.toArray _=Data.dict es ep:=d
    cases d'
  have nsK:∀ {b:Addr}{m:Str→Option Value},s₁.heap.Ns b m→(hidT s₁.heap H).Ns b m:=fun {b m} ⟨o,es,ep,e,d,r⟩=>⟨o,es,ep,base_of e (noA e d),d,r⟩
  have hKb:K.In (hidT s₁.heap H):=fun b o e=>base_of (KX b o e) (by
   cases q:H b with
   | none=>rfl
   | some u =>
    have e':b=a:=hA b (by rw[q];simp)
    subst e'
    rw[hK (by rw[q];simp)]at e;cases e)
  have hM:Mod K mg (hidT s₁.heap H):=⟨hKb,nsK hns,⟨mb,nsK hb,hbb⟩,let ⟨mc,h1,h2⟩:=hlim;⟨mc,nsK h1,h2⟩⟩
  have e0:Env0 P w K mg (hidT s₁.heap H) callerA [] s₁ H:=⟨rfl,hM,fun b o e=>of_hidT e,Nat.le_of_eq (hidT_size _ _),trivial,fun b hb=>absurd (show b∈([]:List Addr) from hb) (by simp),hok,.of_eq hg⟩
  refine codeAny_mono ((F _ hKb (nsK hns)).run callerA [] s₁ H ⟨[.ref a],[]⟩ [.ref a] [.ref a] _ _ hr e0 (hbind s₁ (.ref a)) (.cons rfl .nil) (hsp H hO hS)) fun r s' h=>?_
  cases r with
  | error e=>exact (hCX H e s' h).elim
  | ok fl =>
   cases fl with
   | next=>exact False.elim h
   | brk=>exact False.elim h
   | cont=>exact False.elim h
   | ret u =>
    obtain⟨v,H',os,bare,un,hok',r',q⟩:=h
    have q':v=.bl true:=q
    subst q'
    obtain rfl:u=Value.bool true:=r'
    refine⟨rfl,OldK.of_keep fun b o e=>?_,os,bare⟩
    cases q:H b with
    | none=>exact un.keep b o e q (by intro z;exact absurd (show b∈([]:List Addr) from z) (by simp)) (by simp)
    | some u =>
     rcases hO b with z | ⟨ob,xs,z⟩
     ·rw[q]at z;cases z
     ·have z2:=un.frzs b ob _ z
      obtain⟨e1,_⟩:=hok b _ z
      obtain⟨e2,_⟩:=hok' b _ z2
      rw[e]at e1;cases e1
      exact e2
 cases hk:K.lookup a with
 | some o =>
  have e:=KX a o hk
  rw[ha]at e
  cases e
  refine core (fun _=>none) (fun _=>.inl rfl) (.inr ⟨_,vs.toArray,_,hk,rfl,rfl,rfl,by rw[List.size_toArray,lenV];exact hl,by simpa using rv⟩) (fun b u z=>by have z':(none:Option HO)=some u:=z;cases z') (fun b z=>absurd rfl z) fun z=>absurd rfl z
 | none =>
  refine core (fun b=>if b=a then some (.frz { cls:=.type "list",data:=.seq vs.toArray } (.lst (ns.map V.int))) else none) (fun b=>?_) (.inl (.inr ⟨{ cls:=.type "list",data:=.seq vs.toArray },if_pos rfl⟩)) (fun b u z=>?_) (fun b z=>?_) fun _=>hk
  ·by_cases hb:b=a
   ·exact .inr ⟨_,_,if_pos hb⟩
   ·exact .inl (if_neg hb)
  ·by_cases hb:b=a
   ·have z':=(if_pos hb).symm.trans z
    cases z'
    subst hb
    exact⟨ha,by rw[List.length_map];exact hl,vs,_,rv,ha⟩
   ·have z':=(if_neg hb).symm.trans z
    cases z'
  ·by_cases hb:b=a
   ·exact hb
   ·exact absurd (if_neg hb) z
end L2
namespace L2
open PySem PySem.Spec PyProof.Rows
theorem walk_of {l:PySem.W.OpenLaw}{n k:Nat}{q:Program}{loose:List Str}{XP:(Str→Option Value)→Heap→Prop}{YP:World→Heap→Prop}{d:DefRec}{K:Params→PySem.W.Frag}{CX:World→CXT}{sp:World→Sp}{x:Str}
  (hn:l.most=some n) (hn2:n≤sizeLine) (hdf:d.params.defaults=[]) (hr:Room k callerA)
  (hY:∀ (w:World)(h:Heap),YP w h→(K w.params).In h)
  (F:∀ (w:World)(mg:Str→Option Value)(fa:Addr)(h:Heap),(K w.params).In h→h.Ns mainGlobals mg→mg d.name=some (.ref fa) →
   ∃ fd:FuncData,(∀ (s:Shared)(u:Value),BindsTo s fd ⟨[u],[]⟩ [(x,u)]) ∧
    ∀ base:Heap,(K w.params).In base→base.Ns mainGlobals mg→FnOk l.prog w (K w.params) mg base (CX w) k fa fd [x] (sp w))
  (hsp:∀ (w:World)(H:Hp)(a:Addr)(ns:List Int),ns.length≤n→Only H→SqL (K w.params) H a (ns.map V.int)→sp w [.ref a] H (fun v _=>v=.bl true) fun _ _ _=>False)
  (hCX:∀ (w:World)(H:Hp)(s:Shared)(e:Value)(s':Shared),CX w [] H s (fun _ _ _=>False) e s'→False) :
  PySem.W.WalkO q loose XP YP l.row.toRowW d [] (fun f vs=>PySem.call f vs):=by
 refine Att.attach_call hn hdf fun w s₀ s₁ mg mb fa o pm cd doc a vs ns G Y ho hd hcd hmg hobj hints hlen hg=>?_
 have KX:=hY w _ Y
 obtain⟨fd,hb,hF⟩:=F w mg fa _ KX G.T.g hmg
 exact law_call KX G.T.g G.T.b G.T.builtins G.T.nolimit hg hobj hints (Nat.le_trans hlen hn2) hr hF hb (fun H hO hS=>hsp w H a ns hlen hO hS) fun H e s'=>hCX w H s₁ e s'
end L2
namespace L2
open PySem PySem.Spec PyProof.Rows
def defArgs (s:Stmt):Arguments:=match s with
 | .FunctionDef _ a _ _ _ _ _ _ _ _=>a
 | _=>{ posonlyargs:=[],args:=[],vararg:=none,kwonlyargs:=[],kw_defaults:=[],kwarg:=none,defaults:=[] }
def defBody (s:Stmt):List Stmt:=match s with
 | .FunctionDef _ _ b _ _ _ _ _ _ _=>b
 | _=>[]
def defScope (s:Stmt):Scope:=match s with
 | .FunctionDef _ _ _ _ _ _ sc _ _ _=>sc
 | _=>{ kind:=.function,names:=[],isGenerator:=false,isCoroutine:=false }
abbrev CX0:CXT:=fun _ _ _ _ _ _=>False
abbrev E0:XK:=fun _ _ _=>False
theorem pass0 {X:Cx}:Passes CX0 X E0:=fun _ _ _ _ _ _ _ h=>h.elim
structure Fun (K:PySem.W.Frag)(x qual:Str)(st:Stmt)(f:Addr)(fd:FuncData):Prop where
 ex:∃ (oc:Value)(od:Option Addr)(kV doc pm:Value)(an:Option Addr)(cdv ct:Value)(osl:Array (Option Value)),
  fd=PySem.W.fnOf x qual (defArgs st) (defBody st) (defScope st) .none kV doc pm an cdv ct∧K.lookup f=some ⟨oc,od,.func fd,osl⟩∧PySem.W.codeIn K cdv qual=true
 kp:PySem.W.keepIn K (.ref f)=true
section
variable {P:Program}{w:World}{K:PySem.W.Frag}{mg:Str→Option Value}{base:Heap}
theorem Fun.ok {x qual:Str}{st:Stmt}{f:Addr}{fd:FuncData}{N ps:List Str}{k:Nat}{sp:Sp}(F:Fun K x qual st f fd)(S:FnScope N ps (defScope st))(len:∀ vs H Q E,sp vs H Q E→vs.length=ps.length)
  (hbody:∀ (cdv:Value)(A:Around)(outer:List Env)(s:Shared)(H:Hp)(vs:List V)(Q:VK)(E:XK),Room k (A.deeper (envOfC qual (defScope st) s.heap.objs.size f cdv))→sp vs H Q E →
   ∃ t,PSs (cxOf CX0 P w K mg base N qual (defScope st) f cdv A outer s H E).nox (defBody st) t∧t { nx:=fun _ H'=>Q .non H',rt:=Q } (start N vs) H):FnOk P w K mg base CX0 (k+1) f fd ps sp:=by
 obtain⟨oc,od,kV,doc,pm,an,cdv,ct,osl,rfl,lk,hcd⟩:=F.ex
 refine fn_of lk hcd S len fun A outer s H vs Q E hr hsp=>?_
 obtain⟨t,h,q⟩:=hbody cdv A outer s H vs Q E hr hsp
 exact⟨t,h.nox,q⟩
theorem Fun.binds {x qual:Str}{st:Stmt}{f:Addr}{fd:FuncData}{ps:List Str}(F:Fun K x qual st f fd)
  (h:∀ (kV doc pm:Value)(an:Option Addr)(cdv ct:Value)(us:List Value),us.length=ps.length→bindArgs (PySem.W.fnOf x qual (defArgs st) (defBody st) (defScope st) .none kV doc pm an cdv ct) ⟨us,[]⟩=pure (ps.zip us)):Binds K fd ps []:=by
 obtain⟨oc,od,kV,doc,pm,an,cdv,ct,osl,rfl,lk,hcd⟩:=F.ex
 exact .all (h kV doc pm an cdv ct)
theorem fun_mk {x qual:Str}{st:Stmt}{f:Addr}{oc:Value}{od an:Option Addr}{osl:Array (Option Value)}{kV doc pm cdv ct:Value}(l:K.lookup f=some ⟨oc,od,.func (PySem.W.fnOf x qual (defArgs st) (defBody st) (defScope st) .none kV doc pm an cdv ct),osl⟩)
  (c:PySem.W.codeIn K cdv qual=true) (k:PySem.W.keepIn K (.ref f)=true):Fun K x qual st f (PySem.W.fnOf x qual (defArgs st) (defBody st) (defScope st) .none kV doc pm an cdv ct):=⟨⟨oc,od,kV,doc,pm,an,cdv,ct,osl,rfl,l,c⟩,k⟩
end
theorem hu_of {A:Around}{k:Nat}(hr:Room k A):A.units+1<cLine:=Nat.lt_of_le_of_lt (Nat.add_le_add_left (by decide:1≤64) _) hr.units
theorem small1000 {n:Nat}(h:n≤1000):n<sizeLine:=Nat.lt_of_le_of_lt h (by decide)
section
variable {X:Cx}
theorem pv (i:Nat){x:Str}{pos:Pos}(hN:X.N[i]? = some x:=by rfl)(hv:Vis X.env.scope x:=by first | exact Or.inl rfl | exact Or.inr (Or.inl rfl) | exact Or.inr (Or.inr rfl))(hd:(x == ("__debug__" : Str))=false:=by decide)
  (hcd:(x == ("__classdict__" : Str))=false:=by decide):PE X (.Name x pos) (tVar i):=pe_var hN hv hd hcd
end
theorem iteF {A B:Prop}(h:B):if false=true then A else B:=by
 rw[if_neg Bool.false_ne_true]
 exact h
theorem iteT {A B:Prop}(h:A):if true=true then A else B:=by
 rw[if_pos rfl]
 exact h
theorem ite2 {c A B:Prop} [Decidable c] (h1:c→A)(h2:¬ c→B):if c then A else B:=by
 by_cases h:c
 ·rw[if_pos h]
  exact h1 h
 ·rw[if_neg h]
  exact h2 h
def Same (H H':Hp):Prop:=∀ b o,H b=some o→H' b=some o
theorem Same.refl (H:Hp):Same H H:=fun _ _ h=>h
theorem Same.trans {H H1 H2:Hp}(a:Same H H1)(b:Same H1 H2):Same H H2:=fun c o h=>b c o (a c o h)
theorem Same.free {H H':Hp}(e:Same H H'){l:Addr}(h:H' l=Option.none):H l=Option.none:=by
 cases q:H l with
 | none=>rfl
 | some o =>
  rw[e l o q]at h
  cases h
theorem Same.seq {K:PySem.W.Frag}{H H':Hp}{a:Addr}{xs:List V}(e:Same H H')(h:SqL K H a xs):SqL K H' a xs:=by
 rcases h with (h | ⟨o,h⟩) | h
 ·exact .inl (.inl (e _ _ h))
 ·exact .inl (.inr ⟨o,e _ _ h⟩)
 ·exact .inr h
section
variable {κ:Type} [DecidableEq κ]
theorem nd_snoc:∀ {l:List κ}{k:κ},l.Nodup→¬ k∈l→(l++[k]).Nodup
 | [],k,_,_=>by simp
 | a::r,k,h,hk=>by
  obtain⟨h1,h2⟩:=List.nodup_cons.mp h
  show (a::(r++[k])).Nodup
  refine List.nodup_cons.mpr ⟨fun m=>?_,nd_snoc h2 fun m=>hk (List.mem_cons.mpr (Or.inr m))⟩
  rcases List.mem_append.mp m with q | q
  ·exact h1 q
  ·exact hk (List.mem_cons.mpr (Or.inl (List.mem_singleton.mp q).symm))
end
end L2
set_option maxHeartbeats 4000000
namespace L2
open PySem PySem.Spec PyProof.Rows
structure CmpSc (so sc:Scope)(N N':List Str)(src:List (Option Nat)):Prop where
 kind:sc.kind=.function
 nocell:∀ y∈sc.names,y.2≠.cell
 loc:∀ y∈sc.names,y.2=.local→sc.names.lookup y.1=some .local
 fre:∀ y∈sc.names,y.2=.free→so.names.lookup y.1=some .cell∨so.names.lookup y.1=some .free
 nd:N'.Nodup
 len:src.length=N'.length
 cap:∀ p∈N'.zip src,(match p.2 with | none=>true | some j=>decide (N[j]? = some p.1∧sc.names.lookup p.1=some .free))=true
def compSt (src:List (Option Nat))(σ:St):St:=src.map fun o=>o.bind fun j=>(σ[j]?).join
def compCx (X:Cx)(sc:Scope)(cl:List (Str×Addr))(C:Addr)(N':List Str)(s:Shared)(H:Hp)(ex:List Addr):Cx where
 prog:=X.prog
 w:=X.w
 K:=X.K
 mg:=X.mg
 base:=X.base
 A:=X.A
 N:=N'
 s₀:=s
 H₀:=H
 env:=compEnvC sc cl C X.env
 outer:=X.stack
 stack:=X.stack
 ex:=ex
 fn:=fun _=>false
 calm:=X.calm
 pn:=[]
 xe:=fun _ _=>False
theorem closure_loop {env:Env}:∀ (names:List (Str×NameKind))(cs:List (Str×Addr)),(∀ y∈names,y.2=.free→∃ c,env.cells.lookup y.1=some c) →
  (∀ x c,cs.lookup x=some c→env.cells.lookup x=some c) →
  ∃ cl:List (Str×Addr),(forIn names cs fun x r=>if (x.2 == NameKind.free)=true then (do let a ←cellOf env x.1;pure (ForInStep.yield ((x.1,a)::r))) else pure (ForInStep.yield r):Sem (List (Str×Addr)))=pure cl ∧
   (∀ x c,cl.lookup x=some c→env.cells.lookup x=some c)∧(∀ x,(∃ c,cs.lookup x=some c)→∃ c,cl.lookup x=some c)∧∀ y∈names,y.2=.free→∃ c,cl.lookup y.1=some c
 | [],cs,_,h2=>⟨cs,by rw[List.forIn_nil],h2,fun _ h=>h,fun _ h=>nomatch h⟩
 | (n,k)::r,cs,h1,h2=>by
  by_cases hk:k=.free
  ·subst hk
   obtain⟨c,hc⟩:=h1 (n,.free) List.mem_cons_self rfl
   have h2':∀ x d,((n,c)::cs).lookup x=some d→env.cells.lookup x=some d:=fun x d e=>by
    rw[List.lookup_cons]at e
    split at e
    ·rename_i hx
     cases e
     have:x=n:=by simpa using hx
     rw[this];exact hc
    ·exact h2 x d e
   obtain⟨cl,e,q1,q2,q3⟩:=closure_loop r ((n,c)::cs) (fun y hy=>h1 y (List.mem_cons_of_mem _ hy)) h2'
   have has:∃ d,((n,c)::cs).lookup n=some d:=⟨c,by simp⟩
   refine⟨cl,?_,q1,fun x ⟨d,hd⟩=>q2 x ?_,fun y hy hf=>?_⟩
   ·rw[List.forIn_cons,←e]
    simp[cellOf,hc]
   ·rw[List.lookup_cons]
    split
    ·exact⟨_,rfl⟩
    ·exact⟨d,hd⟩
   ·rcases List.mem_cons.mp hy with rfl | hy
    ·exact q2 _ has
    ·exact q3 y hy hf
  ·obtain⟨cl,e,q1,q2,q3⟩:=closure_loop r cs (fun y hy=>h1 y (List.mem_cons_of_mem _ hy)) h2
   have hb:(k == NameKind.free)=false:=by simpa using hk
   refine⟨cl,?_,q1,q2,fun y hy hf=>?_⟩
   ·rw[List.forIn_cons,←e]
    simp[hb]
   ·rcases List.mem_cons.mp hy with rfl | hy
    ·exact absurd hf hk
    ·exact q3 y hy hf
theorem closure_of {sc:Scope}{env:Env}(h:∀ y∈sc.names,y.2=.free→∃ c,env.cells.lookup y.1=some c) :
  ∃ cl:List (Str×Addr),closureFor sc env=pure cl∧(∀ x c,cl.lookup x=some c→env.cells.lookup x=some c)∧∀ y∈sc.names,y.2=.free→∃ c,cl.lookup y.1=some c:=by
 obtain⟨cl,e,q1,_,q3⟩:=closure_loop sc.names [] h (fun x c z=>by simp at z)
 refine⟨cl,?_,q1,q3⟩
 unfold closureFor
 show (forIn sc.names [] _ >>= fun cs=>pure cs)=_
 refine Eq.trans (congrArg (fun t=>t >>= fun cs=>pure cs) (Eq.trans ?_ e)) (by simp)
 congr 1
theorem relabel_free {env:Env}:∀ {names:List (Str×NameKind)}{x:Str},(∀ y∈names,y.2≠.cell) →
  ((names.map fun (n,k)=>if (k == NameKind.free&&env.scope.kind == .function&&env.kindOf n == some .cell) then (n,NameKind.cell) else (n,k)).lookup x=some .cell ∨
    (names.map fun (n,k)=>if (k == NameKind.free&&env.scope.kind == .function&&env.kindOf n == some .cell) then (n,NameKind.cell) else (n,k)).lookup x=some .free)→(x,NameKind.free)∈names
 | [],_,_,h=>by simp at h
 | (n,k)::r,x,hc,h=>by
  have ih:=@relabel_free env r x (fun y hy=>hc y (List.mem_cons_of_mem _ hy))
  have h:List.lookup x ((if (k == NameKind.free&&env.scope.kind == .function&&env.kindOf n == some .cell)=true then (n,NameKind.cell) else (n,k))::_)=some .cell∨List.lookup x ((if (k == NameKind.free&&env.scope.kind == .function&&env.kindOf n == some .cell)=true then (n,NameKind.cell) else (n,k))::_)=some .free:=h
  by_cases hb:(k == NameKind.free&&env.scope.kind == .function&&env.kindOf n == some .cell)=true
  ·rw[if_pos hb]at h
   cases hx:x == n with
   | true =>
    have e:x=n:=by simpa using hx
    subst e
    have:k=NameKind.free:=by
     simp only[Bool.and_eq_true,beq_iff_eq]at hb
     exact hb.1.1
    subst this;exact List.mem_cons_self
   | false =>
    simp only[List.lookup_cons,hx]at h
    exact List.mem_cons_of_mem _ (ih h)
  ·rw[if_neg hb]at h
   cases hx:x == n with
   | true =>
    have e:x=n:=by simpa using hx
    subst e
    have hk:=hc (x,k) List.mem_cons_self
    simp only[List.lookup_cons,beq_self_eq_true,Option.some.injEq]at h
    rcases h with h | h
    ·exact absurd h hk
    ·subst h;exact List.mem_cons_self
   | false =>
    simp only[List.lookup_cons,hx]at h
    exact List.mem_cons_of_mem _ (ih h)
theorem relabel_free' {env:Env}:∀ {names:List (Str×NameKind)}{x:Str},names.lookup x=some .free →
  ((names.map fun (n,k)=>if (k == NameKind.free&&env.scope.kind == .function&&env.kindOf n == some .cell) then (n,NameKind.cell) else (n,k)).lookup x=some .cell ∨
    (names.map fun (n,k)=>if (k == NameKind.free&&env.scope.kind == .function&&env.kindOf n == some .cell) then (n,NameKind.cell) else (n,k)).lookup x=some .free)
 | [],_,h=>by simp at h
 | (n,k)::r,x,h=>by
  have ih:=@relabel_free' env r x
  show List.lookup x ((if (k == NameKind.free&&env.scope.kind == .function&&env.kindOf n == some .cell)=true then (n,NameKind.cell) else (n,k))::_)=some .cell∨List.lookup x ((if (k == NameKind.free&&env.scope.kind == .function&&env.kindOf n == some .cell)=true then (n,NameKind.cell) else (n,k))::_)=some .free
  cases hx:x == n with
  | true =>
   simp only[List.lookup_cons,hx,Option.some.injEq]at h
   subst h
   by_cases hb:(NameKind.free == NameKind.free&&env.scope.kind == .function&&env.kindOf n == some .cell)=true
   ·rw[if_pos hb];left;simp only[List.lookup_cons,hx]
   ·rw[if_neg hb];right;simp only[List.lookup_cons,hx]
  | false =>
   simp only[List.lookup_cons,hx]at h
   by_cases hb:(k == NameKind.free&&env.scope.kind == .function&&env.kindOf n == some .cell)=true
   ·rw[if_pos hb];simp only[List.lookup_cons,hx];exact ih h
   ·rw[if_neg hb];simp only[List.lookup_cons,hx];exact ih h
theorem codeAny_compLoop_gen {prog:Program}{w:World}{A:Around}{R:Result→Shared→Prop}{s:Shared}{elt target iter:Expr}{ifs:List Expr}{scope:Scope}{pos:Pos}{it acc:Value}{env:Env}(I:Nat→Shared→Prop)
  (turn:∀ n s,I n s→wpAny (model prog w) A (pyNext it) (fun r s₁=>match r with
   | none=>R (.ok .next) s₁
   | some v=>wpAny (model prog w) A (letOwnedTupleGo target it v) (fun _ s₁'=>wpAny (model prog w) A (assign target env v) (fun _ s₂ =>
     wpAny (model prog w) A (forIn ifs true fun c r=>if r=true then do let ok ←isTrue c env (eval c env);pure (ForInStep.yield ok) else pure (ForInStep.yield r)) (fun ok s₃ =>
      if ok=true then wpAny (model prog w) A (eval elt env) (fun x s₄ =>
       wpAny (model prog w) A (call (.builtin "list.append") [acc,x]) (fun _ s₅=>∃ m,m<n∧I m s₅) (fun _ _=>False) s₄) (fun _ _=>False) s₃
      else ∃ m,m<n∧I m s₃) (fun _ _=>False) s₂) (fun _ _=>False) s₁') (fun _ _=>False) s₁) (fun _ _=>False) s)
  (n:Nat) (h:I n s) :
  codeAny (model prog w) A (.compLoop (.ListComp elt [⟨target,iter,ifs,0⟩] scope pos) 0 it acc env) R s:=by
 refine codeAny_loop rfl I (fun n s hI=>?_) n h
 show wpAny _ A ((compTurn (.ListComp elt [⟨target,iter,ifs,0⟩] scope pos) 0 it acc env).onRaise (fun x=>do noteFrame x env;theTreesLotGoes x)) _ _ s
 refine wpAny_noted ?_
 rw[compTurn_list]
 refine wpAny_bind (wpAny_standAt (wpAny_bind (wpAny_mono (turn n s hI) (fun r s₁ h₁=>?_) fun _ _ h'=>h'.elim)))
 cases r with
 | none=>exact wpAny_pure h₁
 | some v =>
  refine wpAny_bind (wpAny_mono h₁ (fun _ s₁' h₁'=>?_) fun _ _ h'=>h'.elim)
  refine wpAny_bind (wpAny_mono h₁' (fun _ s₂ h₂=>wpAny_bind (wpAny_mono h₂ (fun ok s₃ h₃=>?_) fun _ _ h'=>h'.elim)) fun _ _ h'=>h'.elim)
  cases ok with
  | false=>exact wpAny_pure ⟨rfl,h₃⟩
  | true =>
   exact wpAny_bind (wpAny_bind (wpAny_mono h₃ (fun x s₄ h₄=>wpAny_bind (wpAny_mono h₄ (fun _ s₅ h₅=>wpAny_pure (wpAny_pure ⟨rfl,h₅⟩)) fun _ _ h'=>h'.elim)) fun _ _ h'=>h'.elim))
def PTs (X:Cx)(ifs:List Expr)(t:TT):Prop :=
 ∀ (pins:List (Addr×Obj))(s:Shared)(σ:St)(H:Hp)(Q:Bool→Hp→Prop),Inv X pins σ H s→t σ H Q →
  wpAny (model X.prog X.w) X.A (forIn ifs true fun c r=>if r=true then do let ok ←isTrue c X.env (eval c X.env);pure (ForInStep.yield ok) else pure (ForInStep.yield r)) (TP X pins σ Q) X.xe s
def tYes:TT:=fun _ H Q=>Q true H
theorem pts_nil {X:Cx}:PTs X [] tYes:=fun pins s σ H Q I h=>wpAny_tests_nil ⟨H,I,h⟩
def tbC (tt:TT)(te:TE)(a:Addr):TS:=fun D σ H=>tt σ H fun b H1=>if b=true then te σ H1 fun y H2=>∃ ys,H2 a=some (.lst ys)∧ys.length<sizeLine∧D.nx σ (upd H2 a (.lst (ys++[y]))) else D.nx σ H1
def LoopF (J:It)(g:TG)(tb:TS)(D:Ends)(σ:St)(H:Hp):Prop:=∃ W:Nat→Nat→St→Hp→Prop,(∃ m,W 0 m σ H)∧∀ i m σ H,W i m σ H →
 (J.stop i H∧D.nx σ H)∨(J.go i H∧∃ N:St→Hp→Prop,(∀ σ' H',N σ' H'→∃ m',m'<m∧W (i+1) m' σ' H')∧∀ x H',J.yld i H x H'→g x σ H' fun σ2 H2=>tb { D with nx:=N,ct:=N,bk:=D.nx } σ2 H2)
def tComp (wi:TI)(g:TG)(tt:TT)(te:TE)(src:List (Option Nat)):TE:=fun σ H Q=>wi σ H fun J H1=>∀ a,H1 a=none →
 LoopF J g (tbC tt te a) { nx:=fun _ H'=>Q (.ref a) H',rt:=fun _ _=>False } (compSt src σ) (upd H1 a (.lst []))
theorem inv_comp {X:Cx}{pins:List (Addr×Obj)}{σ:St}{H:Hp}{s:Shared}{sc so:Scope}{N':List Str}{src:List (Option Nat)}{cl:List (Str×Addr)}{fp:List Addr}{h':Heap}
  (I:Inv X pins σ H s) (hso:X.env.scope=so) (S:CmpSc so sc X.N N' src) (q1:∀ x c,cl.lookup x=some c→X.env.cells.lookup x=some c) (q3:∀ y∈sc.names,y.2=.free→∃ c,cl.lookup y.1=some c)
  (hf:∀ b∈fp,FpOk X pins H b) (hlt:∀ b∈fp,b<s.heap.objs.size) (hns:h'.Ns s.heap.objs.size fun _=>none) (hk:∀ b o,s.heap.get? b=some o→h'.get? b=some o) (tk:Nat) :
  Inv (compCx X sc cl s.heap.objs.size N' s H fp) [] (compSt src σ) H { s with heap:=h',toks:=tk }:=by
 have hb:∀ b∈fp,b≠s.heap.objs.size∧∀ x c,cl.lookup x=some c→c≠b:=fun b z=>⟨Nat.ne_of_lt (hlt b z),fun x c e=>(hf b z).2.2.2.2.1 x c (q1 x c e)⟩
 refine⟨⟨I.ok.mod,?_,I.ok.glob,I.ok.blt,Nat.le_refl _,fun x y c h1 h2=>I.ok.inj x y c (q1 _ _ h1) (q1 _ _ h2),fun x hx=>?_,fun x c hx _=>(by cases hx),I.ok.hd,I.ok.frames,.inl rfl,hb,I.bs,Nat.le_trans I.ok.bsz I.sz,fun b o e z=>?_,fun b z hz=>?_,I.stack,I.stkFree⟩,
  rfl,I.bare,Un.kept hk,⟨_,hns,fun i x v h1 h2 h3=>?_⟩,fun x c e=>?_,I.hok.fresh (Nat.le_refl _),fun x c e=>I.freeC x c (q1 x c e),fun p hp=>absurd (show p∈([]:List (Addr×Obj)) from hp) (by simp),I.hok.kept hk,?_⟩
 ·show (relabel sc X.env).kind=_
  exact S.kind
 ·have hx':(x,NameKind.free)∈sc.names:=relabel_free S.nocell hx
  exact q3 _ hx' rfl
 ·rcases (hf b z).2.2.2.1 with y | y
  ·exact I.ok.noex b o e y
  ·exact absurd (Nat.lt_of_lt_of_le (Heap.lt_size e) (Nat.le_trans I.ok.bsz y)) (Nat.lt_irrefl _)
 ·rcases List.mem_cons.mp (I.stkSub b hz) with y | y
  ·exact (hf b z).2.1 y
  ·exact (hf b z).2.2.1 y
 ·-- the captured names
  have h1':N'[i]? = some x:=h1
  have h2':(compSt src σ)[i]? = some (some v):=h2
  unfold compSt at h2'
  rw[List.getElem?_map]at h2'
  cases hs:src[i]? with
  | none=>rw[hs]at h2';cases h2'
  | some o =>
   rw[hs]at h2'
   have h2'':(o.bind fun j=>(σ[j]?).join)=some v:=Option.some.inj h2'
   cases o with
   | none=>cases h2''
   | some j =>
    have hj:(σ[j]?).join=some v:=h2''
    have hσ:σ[j]? = some (some v):=by
     cases e:σ[j]? with
     | none=>rw[e]at hj;cases hj
     | some z=>rw[e]at hj;rw[show z=some v from hj]
    have hzip:(x,some j)∈N'.zip src:=by
     have:(N'.zip src)[i]? = some (x,some j):=by
      rw[List.getElem?_zip_eq_some];exact⟨h1',hs⟩
     exact List.mem_of_getElem? this
    have hc:=of_decide_eq_true (S.cap _ hzip)
    obtain⟨hN,hfr⟩:X.N[j]? = some x∧sc.names.lookup x=some .free:=hc
    have hmem:(x,NameKind.free)∈sc.names:=PySem.mem_of_lookup hfr
    have hvis:=S.fre _ hmem rfl
    rw[←hso]at hvis
    obtain⟨m,hn,hl⟩:=I.loc
    obtain⟨u,ru,lk⟩:=hl j x v hN hσ (.inr hvis)
    refine⟨u,ru,.inr ⟨relabel_free' hfr,?_⟩⟩
    obtain⟨c,hcl⟩:=q3 _ hmem rfl
    refine⟨c,hcl,?_⟩
    rcases lk with ⟨k,_⟩ | ⟨_,c',e',z⟩
    ·have k:X.env.scope.names.lookup x=some .local:=k
     rcases hvis with y | y<;>(rw[k]at y;cases y)
    ·have:=q1 x c hcl
     rw[e']at this;cases this
     obtain⟨ob,e1,e2⟩:=z
     exact⟨ob,hk _ _ e1,e2⟩
 ·obtain⟨v,ob,e1,e2⟩:=I.cell x c (q1 x c e)
  exact⟨v,ob,hk _ _ e1,e2⟩
 ·show (compSt src σ).length=N'.length
  unfold compSt
  rw[List.length_map];exact S.len
theorem call_append {X:Cx}{pins:List (Addr×Obj)}{σ:St}{H:Hp}{s:Shared}{l:Addr}{xs:List V}{y:V}{u:Value}{E:Value→Shared→Prop}(I:Inv X pins σ H s)(hH:H l=some (.lst xs))(hz:xs.length<sizeLine)(ru:RelV y u) :
  wpAny (model X.prog X.w) X.A (call (.builtin "list.append") [.ref l,u]) (fun _ s'=>Inv X pins σ (upd H l (.lst (xs++[y]))) s') E s:=by
 obtain⟨z,its,n,r,hl,e⟩:=I.lstM hH
 refine call_meets F.slot_list_append ⟨_,e,rfl⟩ F.entry_list_append (F.args_list_append_2 _ _) (PySem.list_append l its.toArray n u (by rw[List.size_toArray];omega)) ⟨e,?_⟩
 refine I.lset (its':=its++[u]) hH e (by simp) (r.append (.cons ru .nil)) ?_
 rw[List.length_append,List.length_singleton]
 omega
theorem pe_comp {X:Cx}{elt tg iter:Expr}{ifs:List Expr}{sc so:Scope}{pos:Pos}{N':List Str}{src:List (Option Nat)}{wi:TI}{g:TG}{tt:TT}{te:TE}{N:List Str}(hso:X.env.scope=so)(hXN:X.N=N)(S:CmpSc so sc N N' src)(hc:X.calm=true)(hi:PI X tg iter wi)
  (hb:∀ (cl:List (Str×Addr))(C:Addr)(s:Shared)(H:Hp)(ex:List Addr),PG (compCx X sc cl C N' s H ex) tg g∧PTs (compCx X sc cl C N' s H ex) ifs tt∧PE (compCx X sc cl C N' s H ex) elt te)
  (hs:∀ x,foldedSetIterable iter X.env x=pure x:=by intro _;rfl):PE X (.ListComp elt [⟨tg,iter,ifs,0⟩] sc pos) (tComp wi g tt te src):=by
 subst hXN
 intro pins s σ H Q I h
 obtain⟨cl,hcl,q1,q3⟩:=closure_of (sc:=sc) (env:=X.env) fun y hy hf=>by
  have:=S.fre y hy hf
  rw[←hso]at this
  exact I.ok.has y.1 this
 rw[eval_ListComp]
 refine wpAny_comprehension_free (use:=none) rfl hs hcl S.kind S.loc (thn (hi pins s σ H _ I h) fun v s1 h1=>thn h1 fun itv s2 h2=>?_)
 obtain⟨it,fp,tn,J,H2,e,I2,T,st2,f2,hR⟩:=h2
 subst e
 refine wpAny_newObj_type ?_
 have I3:Inv X pins σ (upd H2 s2.heap.objs.size (.lst [])) { s2 with heap:=s2.heap.push { cls:=.type "list",dict:=none,data:=.seq ([]:List Value).toArray } } :=
  I2.laid (t':=s2.toks) (fun b u q=>Heap.get?_push_of_some _ q) (Nat.le_refl _) ⟨Nat.zero_le _,[],0,.nil,Heap.get?_push_size _ rfl⟩
 have hfr:=I2.hok.fresh (Nat.le_refl s2.heap.objs.size)
 obtain⟨W,⟨m0,w0⟩,turn⟩:=hR _ hfr
 have flt:∀ b∈fp,b<s2.heap.objs.size:=fun b hb=>by obtain⟨o,e,_⟩:=T.obj _ _ st2 b hb;exact Heap.lt_size e
 generalize hs3:({ s2 with heap:=s2.heap.push { cls:=.type "list",dict:=none,data:=.seq ([]:List Value).toArray } }:Shared)=s3 at I3 ⊢
 have e3:s3.heap=s2.heap.push { cls:=.type "list",dict:=none,data:=.seq ([]:List Value).toArray }:=by rw[←hs3]
 have sz3:s3.heap.objs.size=s2.heap.objs.size+1:=by rw[e3,Heap.size_push]
 have hf3:∀ b∈fp,FpOk X pins (upd H2 s2.heap.objs.size (.lst [])) b:=fun b hb=>⟨by rw[upd_ne (Nat.ne_of_lt (flt b hb))];exact (f2 b hb).1,(f2 b hb).2⟩
 have flt3:∀ b∈fp,b<s3.heap.objs.size:=fun b hb=>by rw[sz3];exact Nat.lt_succ_of_lt (flt b hb)
 have st3:tn 0 s3.heap:=T.keep _ _ _ st2 fun b _ o e=>by rw[e3];exact Heap.get?_push_of_some _ e
 refine wpAny_newFunctionEnv S.nocell (by intro y hy;simp at hy) (fun h4 hns4 hsb4=>?_) S.kind
 have kp4:∀ b o,s3.heap.get? b=some o→h4.get? b=some o:=fun b o e=>hsb4.extBut b o (Nat.ne_of_lt (Heap.lt_size e)) (Heap.get?_push_of_some _ e)
 have I4:=inv_comp (h':=h4) I3 hso S q1 q3 hf3 flt3 (by simpa using hns4) kp4 (s3.toks+([]:List (Str×Value)).length)
 have st4:tn 0 h4:=T.keep _ _ _ st3 fun b _ o e=>kp4 b o e
 generalize hC:s3.heap.objs.size=C at I4 hns4 hsb4 ⊢
 obtain⟨hg,ht,he⟩:=hb cl C s3 (upd H2 s2.heap.objs.size (.lst [])) fp
 let Y:Cx:=compCx X sc cl C N' s3 (upd H2 s2.heap.objs.size (.lst [])) fp
 have loop:∀ s5:Shared,s5={ s3 with heap:=h4,toks:=s3.toks+([]:List (Str×Value)).length }→codeAny (model X.prog X.w) X.A (.compLoop (.ListComp elt [⟨tg,iter,ifs,0⟩] sc pos) 0 (.ref it) (.ref s2.heap.objs.size) (compEnvC sc cl C X.env))
   (compPost (model X.prog X.w) X.A X.xe none (EP X pins σ Q) (.ref s2.heap.objs.size) C) s5:=by
  rintro s5 rfl
  have stat:∀ {H':Hp},(∀ b∈fp,H' b=none)→∀ b∈fp,FpOk Y [] H' b:=fun {H'} hn b hb=>by
   obtain⟨f0,f1,f2',f3,f4,f5⟩:=hf3 b hb
   refine⟨hn b hb,?_,fun z=>?_,.inl hb,fun x c e=>f4 x c (q1 x c e),fun p hp=>absurd (show p∈([]:List (Addr×Obj)) from hp) (by simp)⟩
   ·show b≠C
    rw[←hC];exact Nat.ne_of_lt (flt3 b hb)
   ·have z:b∈frs X.stack:=z
    rcases List.mem_cons.mp (I3.stkSub b z) with y | y
    ·exact f1 y
    ·exact f2' y
  refine codeAny_compLoop_gen (fun n s'=>∃ i σ' H',Inv Y [] σ' H' s'∧tn i s'.heap∧(∀ b∈fp,H' b=none)∧W i n σ' H') ?_ m0 ⟨0,_,_,I4,st4,fun b hb=>(hf3 b hb).1,w0⟩
  rintro n s6 ⟨i,σ6,H6,I6,st6,fr6,w6⟩
  rcases turn i n σ6 H6 w6 with ⟨stop,qn⟩ | ⟨go,Nx,hN,step⟩
  ·refine thn (T.done Y rfl rfl rfl hc i [] s6 σ6 H6 _ I6 (stat fr6) st6 stop) fun r s7 ⟨hr,I7⟩=>?_
   subst hr
   obtain⟨m,hn,_⟩:=id I7.loc
   refine⟨m,hn,fun h' hsb=>?_⟩
   have neC:∀ b o,s3.heap.get? b=some o→b≠C:=fun b o e=>by rw[←hC];exact Nat.ne_of_lt (Heap.lt_size e)
   have freeC:H6 C=none:=I7.free
   have un:Un (frs X.stack) fp (upd H2 s2.heap.objs.size (.lst [])) H6 s3.heap h' :=
    ⟨fun b o e n hb hx=>(hsb.2 b (neC b o e)).trans (I7.base.keep b o e n hb hx),fun b o e n hb hx=>by
      obtain⟨sl,q⟩:=I7.base.slot b o e n hb hx
      exact⟨sl,(hsb.2 b (neC b o e)).trans q⟩,I7.base.free,fun b o e hx=>by
      obtain⟨o',q⟩:=I7.base.there b o e hx
      exact⟨o',(hsb.2 b (neC b o e)).trans q⟩,I7.base.tups,I7.base.frzs,I7.base.tbls⟩
   have hok:HOk X.prog X.w H6 h':=fun b ob e=>by
    refine (I7.hok b ob e).stay (fun c w' hc' q=>(hsb.2 c ?_).trans q) (fun _ q=>q) fun _ _ q=>q
    rintro rfl
    rcases hc' with z | z
    ·rw[←z,freeC]at e;cases e
    ·rw[freeC]at z;cases z
   have J7:Inv X pins σ H6 { s7 with heap:=h' }:=I3.call' (ch:=fp) (s':={ s7 with heap:=h' }) I7.os un hok I7.bare fun b hb=>⟨(hf3 b hb).2.2.2.1,(hf3 b hb).2.1,(hf3 b hb).2.2.2.2.1,(hf3 b hb).2.2.2.2.2⟩
   exact⟨.ref s2.heap.objs.size,H6,J7,rfl,qn⟩
  ·refine thn (T.item Y rfl rfl rfl hc i [] s6 σ6 H6 _ I6 (stat fr6) st6 go) fun r s7 ⟨u,hr,h7⟩=>?_
   subst hr
   refine thn h7 fun _ s8 ⟨x,H8,I8,r8,y8,st8,fr8⟩=>?_
   have I8':=I8.pinned (stat fr8) (T.obj _ _ st8)
   refine thn (hg _ s8 σ6 H8 x u _ I8' r8 (step x H8 y8)) fun _ s9 ⟨σ9,H9,I9,q9⟩=>?_
   have again:∀ {s':Shared}{σ7:St}{H7:Hp},Inv Y ([]++pinsAt fp s8.heap) σ7 H7 s'→Nx σ7 H7→∃ m,m<n∧∃ i σ' H',Inv Y [] σ' H' s'∧tn i s'.heap∧(∀ b∈fp,H' b=none)∧W i m σ' H':=fun {s' σ7 H7} I7 n7=>by
    obtain⟨m',hm,w7⟩:=hN σ7 H7 n7
    refine⟨m',hm,i+1,σ7,H7,I7.unpinned,T.keep _ _ _ st8 fun b hb o e=>(I7.pin (b,o) (List.mem_append_right _ (List.mem_append_right _ (mem_pinsAt hb e)))).1,fun b hb=>?_,w7⟩
    obtain⟨o,e,d⟩:=T.obj _ _ st8 b hb
    exact (I7.pin (b,o) (List.mem_append_right _ (List.mem_append_right _ (mem_pinsAt hb e)))).2.1
   refine thn (ht _ s9 σ9 H9 _ I9 q9) fun ok s10 ⟨H10,I10,q10⟩=>?_
   cases ok with
   | false =>
    rw[if_neg Bool.false_ne_true]at q10 ⊢
    exact again I10 q10
   | true =>
    rw[if_pos rfl]at q10 ⊢
    refine thn (he _ s10 σ9 H10 _ I10 q10) fun y s11 ⟨yv,H11,I11,ry,ys,hys,hlen,q11⟩=>?_
    exact thn (call_append (X:=Y) I11 hys hlen ry) fun _ s12 I12=>again I12 q11
 exact codeAny_compStart_list (loop _ rfl) (T.self _ 0 _ _ _ st4 (loop _ rfl))
end L2
namespace L2
open PySem PySem.Spec PyProof.Rows
section
variable {X:Cx}
def CDivB (i j:Int):Prop:=0<j∧j<1152921504606846976
theorem op_fdivB:OpR X (binaryOp .FloorDiv) (rI CDivB fun i j=>.int (i/j)):=opI fun i j _ _ _ _ _ hc q=>by
 have h1:(0:Int)<j:=hc.1
 have h2:j<1152921504606846976:=hc.2
 refine floordiv_int (by omega) (by rw[Int.fdiv_eq_ediv_of_nonneg i (by omega)];exact q) (.inl (PyProof.noPylong_of_log2 ?_))
 have h0:j.natAbs≠0:=by omega
 have:j.natAbs.log2<60:=(Nat.log2_lt h0).mpr (by omega)
 omega
theorem call_isi:CallR X (.builtin "isinstance") (fun xs H Q=>∃ x T t b,xs=[x,.ty T]∧TyOf X.K H x t∧PySem.W.kitOne X.K t (.type T)=some b∧Q (.bl b) H):=by
 intro pins s σ H xs us Q I r h
 obtain⟨x,T,t,b,rfl,ty,e,q⟩:=h
 cases r with
 | cons rx r2 =>
  cases r2 with
  | cons rt r3 =>
   cases r3
   cases rt
   exact isinst_ok I rx ty e fun tk=>⟨.bl b,H,I.tok tk,rfl,q⟩
theorem truth_bools {A:Around}{bs:List Bool}{its:List Value}(r:Vals (bs.map V.bl) its) :
  TruthOf X.prog X.w A (fun i v=>its.toArray[i]? = some v) (fun i=>bs.getD i false):=by
 intro i v s Q E hv hq
 have hv':its[i]? = some v:=by simpa using hv
 have hi:i<its.length:=(List.getElem?_eq_some_iff.mp hv').1
 have hl:=r.length
 rw[List.length_map]at hl
 obtain⟨u,hu,ru⟩:=r.get (i:=i) (x:=V.bl (bs[i]'(by omega))) (by rw[List.getElem?_map,List.getElem?_eq_getElem (by omega)];rfl)
 rw[hv']at hu;cases hu
 cases ru
 have e:bs.getD i false=bs[i]'(by omega):=by simp[List.getD,List.getElem?_eq_getElem (show i<bs.length by omega)]
 have hq':Q (bs.getD i false) s:=hq
 rw[e]at hq'
 exact wpAny_truthy_bool hq'
theorem range_all (bs:List Bool):(List.range bs.length).all (fun i=>bs.getD i false)=bs.all id:=by
 have h:(List.range bs.length).map (fun i=>bs.getD i false)=bs:=by
  apply List.ext_getElem
  ·simp
  ·intro i h1 h2;simp[List.getD,List.getElem?_eq_getElem h2]
 have e:(List.range bs.length).all (fun i=>bs.getD i false)=((List.range bs.length).map (fun i=>bs.getD i false)).all id:=by rw[List.all_map];rfl
 rw[e,h]
theorem range_any (bs:List Bool):(List.range bs.length).any (fun i=>bs.getD i false)=bs.any id:=by
 have h:(List.range bs.length).map (fun i=>bs.getD i false)=bs:=by
  apply List.ext_getElem
  ·simp
  ·intro i h1 h2;simp[List.getD,List.getElem?_eq_getElem h2]
 have e:(List.range bs.length).any (fun i=>bs.getD i false)=((List.range bs.length).map (fun i=>bs.getD i false)).any id:=by rw[List.any_map];rfl
 rw[e,h]
theorem list_walk {pins:List (Addr×Obj)}{σ:St}{H:Hp}{s:Shared}{A:Around}{E:Value→Shared→Prop}{p:Addr}{xs:List V}{its:List Value}{R:Value→Shared→Prop}(I:Inv X pins σ H s)(hA:A.handled=none)(pl:PlainL s.heap p its.toArray)
  (h:∀ (I':Addr)(St:Nat→Heap→Prop)(s2:Shared),s2.heap.objs.size=s.heap.objs.size+1→I'=s.heap.objs.size→Walks X.prog X.w A I' [I',p] [I'] its.length (fun i v=>its.toArray[i]? = some v) St→St 0 s2.heap→(∀ b o,s.heap.get? b=some o→s2.heap.get? b=some o)→(∀ h' tk,(∀ b o,b∉[I']→s2.heap.get? b=some o→h'.get? b=some o)→Inv X pins σ H { s2 with heap:=h',toks:=tk })→R (.ref I') s2) :
  wpAny (model X.prog X.w) A (pyIter (.ref p)) R E s:=by
 refine wpAny_pyIter_list pl.isList ?_
 have hlt:p<s.heap.objs.size:=by obtain⟨o,n,e,_⟩:=pl;exact Heap.lt_size e
 have W:=Walks.list (prog:=X.prog) (w:=X.w) hA s.heap.objs.size p (Nat.ne_of_lt hlt) its.toArray
 rw[List.size_toArray]at W
 refine h _ _ _ (by rw[Heap.size_push]) rfl W ⟨⟨_,Heap.get?_push_size _ rfl,rfl,rfl⟩,pl.isList.at fun o e=>Heap.get?_push_of_some _ e⟩ (fun b o e=>Heap.get?_push_of_some _ e) fun h' tk kp=>?_
 exact I.kept (t':=tk) fun b o e=>kp b o (by simpa using Nat.ne_of_lt (Heap.lt_size e)) (Heap.get?_push_of_some _ e)
theorem call_allB (hc:X.calm=true):CallR X (.builtin "all") (fun xs H Q=>∃ (p:Addr)(bs:List Bool),xs=[.ref p]∧SqL X.K H p (bs.map V.bl)∧Q (.bl (bs.all id)) H):=by
 intro pins s σ H xs us Q I r h
 obtain⟨p,bs,rfl,hq,q⟩:=h
 obtain⟨u,rfl,rx⟩:=vals1 r
 cases rx
 obtain⟨its,rv,pl,hz⟩:=I.list hq
 have hl:=rv.length
 rw[List.length_map]at hl
 refine call_all_walk (list_walk (xs:=bs.map V.bl) I (I.ok.hd hc) pl fun I' St s2 hs2 hI W st kp fin=>?_)
 refine⟨I',_,_,_,_,St,_,rfl,W,st,truth_bools rv,fun h' tk k=>⟨.bl _,H,fin h' tk k,rfl,?_⟩⟩
 rw[←hl,range_all];exact q
theorem call_anyB (hc:X.calm=true):CallR X (.builtin "any") (fun xs H Q=>∃ (p:Addr)(bs:List Bool),xs=[.ref p]∧SqL X.K H p (bs.map V.bl)∧Q (.bl (bs.any id)) H):=by
 intro pins s σ H xs us Q I r h
 obtain⟨p,bs,rfl,hq,q⟩:=h
 obtain⟨u,rfl,rx⟩:=vals1 r
 cases rx
 obtain⟨its,rv,pl,hz⟩:=I.list hq
 have hl:=rv.length
 rw[List.length_map]at hl
 refine call_any_walk (list_walk (xs:=bs.map V.bl) I (I.ok.hd hc) pl fun I' St s2 hs2 hI W st kp fin=>?_)
 refine⟨I',_,_,_,_,St,_,rfl,W,st,truth_bools rv,fun h' tk k=>⟨.bl _,H,fin h' tk k,rfl,?_⟩⟩
 rw[←hl,range_any];exact q
theorem ints_of_vals:∀ {ns:List Int}{us:List Value},Vals (ns.map V.int) us→IntsAre us ns
 | [],_,r=>by cases r;exact IntsAre.nil
 | n::ns,_,r=>by
  cases r with
  | cons r t=>obtain⟨tk,rfl⟩:=r;exact IntsAre.cons _ _ (ints_of_vals t)
end
end L2
namespace L2
open PySem PySem.Spec PyProof.Rows
inductive Dt where
 | at (v:V)
 | sq (tup:Bool) (ds:List Dt)
def flat3:V→Bool
 | .non=>true
 | .int _=>true
 | .str _=>true
 | _=>false
theorem flat3_flat {v:V}(h:flat3 v=true):flatV v=true:=by cases v<;>first | rfl | cases h
theorem eqV_iff {x y:V}(hx:flat3 x=true)(hy:flat3 y=true):eqV x y=true↔x=y:=by
 cases x<;>cases y<;>first | (cases hx;done) | (cases hy;done) | simp[eqV]
def SqQ (K:PySem.W.Frag)(H:Hp)(t:Bool)(a:Addr)(xs:List V):Prop:=if t=true then SqT K H a xs else SqL K H a xs
def RD (K:PySem.W.Frag)(H:Hp):Nat→V→Dt→Prop
 | 0,v,d=>flat3 v=true∧d=.at v
 | n+1,v,d=>(flat3 v=true∧d=.at v)∨∃ a t xs ds,v=.ref a∧d=.sq t ds∧SqQ K H t a xs∧Paired (RD K H n) xs ds
theorem RD.flat {K:PySem.W.Frag}{H:Hp}{v:V}(h:flat3 v=true):∀ n,RD K H n v (.at v)
 | 0=>⟨h,rfl⟩
 | _+1=>.inl ⟨h,rfl⟩
theorem RD.lst {K:PySem.W.Frag}{H:Hp}{a:Addr}{xs:List V}{ds:List Dt}{n:Nat}(h:SqL K H a xs)(r:Paired (RD K H n) xs ds):RD K H (n+1) (.ref a) (.sq false ds) :=
 .inr ⟨a,false,xs,ds,rfl,rfl,by unfold SqQ;rw[if_neg Bool.false_ne_true];exact h,r⟩
theorem RD.tup {K:PySem.W.Frag}{H:Hp}{a:Addr}{xs:List V}{ds:List Dt}{n:Nat}(h:SqT K H a xs)(r:Paired (RD K H n) xs ds):RD K H (n+1) (.ref a) (.sq true ds) :=
 .inr ⟨a,true,xs,ds,rfl,rfl,by unfold SqQ;rw[if_pos rfl];exact h,r⟩
section
variable {X:Cx}{pins:List (Addr×Obj)}{σ:St}{H:Hp}{s:Shared}
theorem RD.inj (I:Inv X pins σ H s):∀ {n m:Nat}{v:V}{d e:Dt},RD X.K H n v d→RD X.K H m v e→d=e:=by
 intro n
 induction n with
 | zero =>
  intro m v d e h1 h2
  obtain⟨f,rfl⟩:=h1
  cases m with
  | zero=>exact h2.2.symm
  | succ m =>
   rcases h2 with h2 | ⟨a,t,xs,ds,rfl,_⟩
   ·exact h2.2.symm
   ·cases f
 | succ n ih =>
  intro m v d e h1 h2
  rcases h1 with h1 | ⟨a,t,xs,ds,rfl,rfl,q,r⟩
  ·obtain⟨f,rfl⟩:=h1
   cases m with
   | zero=>exact h2.2.symm
   | succ m =>
    rcases h2 with h2 | ⟨a,t,xs,ds,rfl,_⟩
    ·exact h2.2.symm
    ·cases f
  ·cases m with
   | zero=>cases h2.1
   | succ m =>
    rcases h2 with h2 | ⟨a',t',xs',ds',ea,rfl,q',r'⟩
    ·cases h2.1
    ·cases ea
     have pr:∀ {l:List V}{l1 l2:List Dt},Paired (RD X.K H n) l l1→Paired (RD X.K H m) l l2→l1=l2:=by
      intro l
      induction l with
      | nil=>intro l1 l2 p1 p2;cases p1;cases p2;rfl
      | cons z l ihl =>
       intro l1 l2 p1 p2
       cases p1 with
       | cons r1 t1 =>
        cases p2 with
        | cons r2 t2=>rw[ih r1 r2,ihl t1 t2]
     cases t with
     | false =>
      have q:SqL X.K H a xs:=by unfold SqQ at q;rwa [if_neg Bool.false_ne_true]at q
      cases t' with
      | false =>
       have q':SqL X.K H a xs':=by unfold SqQ at q';rwa [if_neg Bool.false_ne_true]at q'
       have:=I.list_inj q q'
       subst this
       rw[pr r r']
      | true =>
       have q':SqT X.K H a xs':=by unfold SqQ at q';rwa [if_pos rfl]at q'
       obtain⟨_,_,p1,_⟩:=I.list q
       obtain⟨_,_,p2,_⟩:=I.tuple q'
       exact absurd rfl (SeqAt.ne_of_list_tuple p1.isList p2)
     | true =>
      have q:SqT X.K H a xs:=by unfold SqQ at q;rwa [if_pos rfl]at q
      cases t' with
      | false =>
       have q':SqL X.K H a xs':=by unfold SqQ at q';rwa [if_neg Bool.false_ne_true]at q'
       obtain⟨_,_,p1,_⟩:=I.tuple q
       obtain⟨_,_,p2,_⟩:=I.list q'
       exact absurd rfl (SeqAt.ne_of_list_tuple p2.isList p1)
      | true =>
       have q':SqT X.K H a xs':=by unfold SqQ at q';rwa [if_pos rfl]at q'
       have:=I.tuple_inj q q'
       subst this
       rw[pr r r']
theorem rcAt_D (I:Inv X pins σ H s):∀ (n:Nat){A:Around}{l b:Addr}{d e:Dt},A.units+n<cLine→RD X.K H (n+1) (.ref l) d→RD X.K H (n+1) (.ref b) e →
  (∀ {A:Around}{y x:V}{u v:Value}{d e:Dt},A.units+n<cLine+1→RD X.K H n y d→RD X.K H n x e→RelV y u→RelV x v→∃ k:Bool,(k=true↔d=e)∧SeqAt.EqAt A s u v k) →
  ∃ k:Bool,(k=true↔d=e)∧SeqAt.RcAt A s (.ref l) (.ref b) k:=by
 intro n A l b d e hu h1 h2 ih
 rcases h1 with h1 | ⟨a,t,xs,ds,ea,rfl,q,r⟩
 ·cases h1.1
 cases ea
 rcases h2 with h2 | ⟨a',t',xs',ds',ea,rfl,q',r'⟩
 ·cases h2.1
 cases ea
 have pw:∀ {us us':List Value},Vals xs us→Vals xs' us'→∃ ks:Nat→Bool,(∀ j (h1:j<us.length) (h2:j<us'.length),SeqAt.EqAt A.in1 s us[j] us'[j] (ks j)) ∧
   (∀ j d1 d2,ds[j]? = some d1→ds'[j]? = some d2→(ks j=true↔d1=d2)):=by
  intro us us' rv rv'
  have ex:∀ j:Nat,∃ k:Bool,(∀ (h1:j<us.length)(h2:j<us'.length),SeqAt.EqAt A.in1 s us[j] us'[j] k)∧(∀ d1 d2,ds[j]? = some d1→ds'[j]? = some d2→(k=true↔d1=d2)):=by
   intro j
   by_cases hj:j<us.length∧j<us'.length
   ·obtain⟨h1,h2⟩:=hj
    have l1:=rv.length
    have l2:=rv'.length
    have l3:=Paired.length r
    have l4:=Paired.length r'
    have gx:xs[j]? = some xs[j]:=List.getElem?_eq_getElem (by omega)
    have gx':xs'[j]? = some xs'[j]:=List.getElem?_eq_getElem (by omega)
    obtain⟨u,eu,ru⟩:=rv.get gx
    obtain⟨u',eu',ru'⟩:=rv'.get gx'
    have eu2:us[j]=u:=by rw[List.getElem?_eq_getElem h1]at eu;exact Option.some.inj eu
    have eu2':us'[j]=u':=by rw[List.getElem?_eq_getElem h2]at eu';exact Option.some.inj eu'
    have pget:∀ {m:Nat}{zs:List V}{es:List Dt}(j:Nat){z:V},Paired (RD X.K H m) zs es→zs[j]? = some z→∃ f,es[j]? = some f∧RD X.K H m z f:=by
     intro m zs
     induction zs with
     | nil=>intro es j z p hz;simp at hz
     | cons z0 zs ihz =>
      intro es j z p hz
      cases p with
      | cons p1 p2 =>
       cases j with
       | zero=>simp at hz;subst hz;exact⟨_,rfl,p1⟩
       | succ j=>obtain⟨f,e1,e2⟩:=ihz j p2 (by simpa using hz);exact⟨f,by simpa using e1,e2⟩
    obtain⟨f,ef,rf⟩:=pget j r gx
    obtain⟨f',ef',rf'⟩:=pget j r' gx'
    obtain⟨k,hk,he⟩:=ih (A:=A.in1) (by show A.units+1+n<cLine+1;omega) rf rf' ru ru'
    refine⟨k,fun _ _=>by rw[eu2,eu2'];exact he,fun d1 d2 e1 e2=>?_⟩
    rw[ef]at e1;rw[ef']at e2;cases e1;cases e2;exact hk
   ·refine⟨false,fun h1 h2=>absurd ⟨h1,h2⟩ hj,fun d1 d2 e1 e2=>?_⟩
    have l1:=rv.length
    have l2:=rv'.length
    have l3:=Paired.length r
    have l4:=Paired.length r'
    have:=(List.getElem?_eq_some_iff.mp e1).1
    have:=(List.getElem?_eq_some_iff.mp e2).1
    exact absurd ⟨by omega,by omega⟩ hj
  exact⟨fun j=>Classical.choose (ex j),fun j h1 h2=>(Classical.choose_spec (ex j)).1 h1 h2,fun j=>(Classical.choose_spec (ex j)).2⟩
 have allEq:∀ (ks:Nat→Bool),(∀ j d1 d2,ds[j]? = some d1→ds'[j]? = some d2→(ks j=true↔d1=d2))→ds.length=ds'.length→((List.range ds.length).all ks=true↔ds=ds'):=by
  intro ks hk hl
  rw[List.all_eq_true]
  constructor
  ·intro h
   apply List.ext_getElem hl
   intro j h1 h2
   exact (hk j _ _ (List.getElem?_eq_getElem h1) (List.getElem?_eq_getElem h2)).mp (h j (List.mem_range.mpr h1))
  ·rintro rfl j hj
   have h1:=List.mem_range.mp hj
   exact (hk j _ _ (List.getElem?_eq_getElem h1) (List.getElem?_eq_getElem h1)).mpr rfl
 have l3:=Paired.length r
 have l4:=Paired.length r'
 cases t with
 | false =>
  have q:SqL X.K H l xs:=by unfold SqQ at q;rwa [if_neg Bool.false_ne_true]at q
  obtain⟨us,rv,p1,_⟩:=I.list q
  have l1:=rv.length
  cases t' with
  | true =>
   have q':SqT X.K H b xs':=by unfold SqQ at q';rwa [if_pos rfl]at q'
   obtain⟨us',rv',p2,_⟩:=I.tuple q'
   exact⟨false,by simp,SeqAt.RcAt.list_tuple p1.isList p2 (by omega)⟩
  | false =>
   have q':SqL X.K H b xs':=by unfold SqQ at q';rwa [if_neg Bool.false_ne_true]at q'
   obtain⟨us',rv',p2,_⟩:=I.list q'
   have l2:=rv'.length
   by_cases hl:us.length=us'.length
   ·obtain⟨ks,he,hk⟩:=pw rv rv'
    refine⟨(List.range us.toArray.size).all ks,?_,SeqAt.RcAt.lists p1.isList p2.isList (by simpa using hl) (by omega) fun j h1 h2=>by simpa using he j (by simpa using h1) (by simpa using h2)⟩
    rw[List.size_toArray,show us.length=ds.length by omega,allEq ks hk (by omega)]
    constructor
    ·rintro rfl;rfl
    ·intro h;injection h
   ·refine⟨false,?_,SeqAt.RcAt.lists_lengths p1.isList p2.isList (by simpa using hl) (by omega)⟩
    constructor
    ·intro h;cases h
    ·intro h
     injection h with _ h
     exact absurd (by rw[←l1,l3,h,←l4,l2]) hl
 | true =>
  have q:SqT X.K H l xs:=by unfold SqQ at q;rwa [if_pos rfl]at q
  obtain⟨us,rv,p1,_⟩:=I.tuple q
  have l1:=rv.length
  cases t' with
  | false =>
   have q':SqL X.K H b xs':=by unfold SqQ at q';rwa [if_neg Bool.false_ne_true]at q'
   obtain⟨us',rv',p2,_⟩:=I.list q'
   exact⟨false,by simp,SeqAt.RcAt.tuple_list p1 p2.isList (by omega)⟩
  | true =>
   have q':SqT X.K H b xs':=by unfold SqQ at q';rwa [if_pos rfl]at q'
   obtain⟨us',rv',p2,_⟩:=I.tuple q'
   have l2:=rv'.length
   obtain⟨ks,he,hk⟩:=pw rv rv'
   refine⟨_,?_,SeqAt.RcAt.tuples (e:=ks) (show s.heap.IsTuple l us.toArray from p1) (show s.heap.IsTuple b us'.toArray from p2) (by omega) fun j h1 h2=>by simpa using he j (by simpa using h1) (by simpa using h2)⟩
   by_cases hl:us.length=us'.length
   ·rw[List.size_toArray,List.size_toArray,←hl,Nat.min_self,beq_self_eq_true,Bool.and_true,show us.length=ds.length by omega,allEq ks hk (by omega)]
    constructor
    ·rintro rfl;rfl
    ·intro h;injection h
   ·have:(us.toArray.size == us'.toArray.size)=false:=by simpa using hl
    rw[this,Bool.and_false]
    constructor
    ·intro h;cases h
    ·intro h
     injection h with _ h
     exact absurd (by rw[←l1,l3,h,←l4,l2]) hl
theorem eqAt_D (I:Inv X pins σ H s):∀ (n:Nat){A:Around}{y x:V}{u v:Value}{d e:Dt},A.units+n<cLine+1→RD X.K H n y d→RD X.K H n x e→RelV y u→RelV x v→∃ k:Bool,(k=true↔d=e)∧SeqAt.EqAt A s u v k:=by
 intro n
 have flatCase:∀ {A:Around}{y x:V}{u v:Value},flat3 y=true→flat3 x=true→RelV y u→RelV x v→∃ k:Bool,(k=true↔Dt.at y=Dt.at x)∧SeqAt.EqAt A s u v k:=by
  intro A y x u v fy fx ry rx
  refine⟨eqV y x,?_,eqAt_V ry rx (flat3_flat fy) (flat3_flat fx)⟩
  rw[eqV_iff fy fx]
  constructor
  ·rintro rfl;rfl
  ·intro h;injection h
 induction n with
 | zero =>
  intro A y x u v d e hu h1 h2 ry rx
  obtain⟨f1,rfl⟩:=h1
  obtain⟨f2,rfl⟩:=h2
  exact flatCase f1 f2 ry rx
 | succ n ih =>
  intro A y x u v d e hu h1 h2 ry rx
  rcases id h1 with ⟨f1,rfl⟩ | ⟨a,t,xs,ds,rfl,rfl,q,r⟩
  ·rcases id h2 with ⟨f2,rfl⟩ | ⟨a',t',xs',ds',rfl,rfl,q',r'⟩
   ·exact flatCase f1 f2 ry rx
   ·cases rx
    refine⟨false,by simp,?_⟩
    cases t' with
    | false =>
     have q':SqL X.K H a' xs':=by unfold SqQ at q';rwa [if_neg Bool.false_ne_true]at q'
     obtain⟨_,_,p,_⟩:=I.list q'
     cases y with
     | non=>cases ry;exact SeqAt.EqAt.none_list p.isList (by omega)
     | int _=>obtain⟨tk,rfl⟩:=ry;exact SeqAt.EqAt.int_list _ _ p.isList (by omega)
     | str _=>obtain⟨tk,rfl⟩:=ry;exact SeqAt.EqAt.str_list _ _ p.isList (by omega)
     | _=>cases f1
    | true =>
     have q':SqT X.K H a' xs':=by unfold SqQ at q';rwa [if_pos rfl]at q'
     obtain⟨_,_,p,_⟩:=I.tuple q'
     cases y with
     | non=>cases ry;exact SeqAt.EqAt.none_tuple p (by omega)
     | int _=>obtain⟨tk,rfl⟩:=ry;exact SeqAt.EqAt.int_tuple _ _ p (by omega)
     | str _=>obtain⟨tk,rfl⟩:=ry;exact SeqAt.EqAt.str_tuple _ _ p (by omega)
     | _=>cases f1
  ·cases ry
   rcases id h2 with ⟨f2,rfl⟩ | ⟨a',t',xs',ds',rfl,rfl,q',r'⟩
   ·refine⟨false,by simp,?_⟩
    cases t with
    | false =>
     have q:SqL X.K H a xs:=by unfold SqQ at q;rwa [if_neg Bool.false_ne_true]at q
     obtain⟨_,_,p,_⟩:=I.list q
     cases x with
     | non=>cases rx;exact SeqAt.EqAt.list_none p.isList (by omega)
     | int _=>obtain⟨tk,rfl⟩:=rx;exact SeqAt.EqAt.list_int _ _ p.isList (by omega)
     | str _=>obtain⟨tk,rfl⟩:=rx;exact SeqAt.EqAt.list_str _ _ p.isList (by omega)
     | _=>cases f2
    | true =>
     have q:SqT X.K H a xs:=by unfold SqQ at q;rwa [if_pos rfl]at q
     obtain⟨_,_,p,_⟩:=I.tuple q
     cases x with
     | non=>cases rx;exact SeqAt.EqAt.tuple_none p (by omega)
     | int _=>obtain⟨tk,rfl⟩:=rx;exact SeqAt.EqAt.tuple_int _ _ p (by omega)
     | str _=>obtain⟨tk,rfl⟩:=rx;exact SeqAt.EqAt.tuple_str _ _ p (by omega)
     | _=>cases f2
   ·cases rx
    by_cases hab:a=a'
    ·subst hab
     exact⟨true,by rw[RD.inj I h1 h2];simp,SeqAt.EqAt.same _⟩
    ·obtain⟨k,hk,hr⟩:=rcAt_D I n (A:=A) (by omega) h1 h2 (fun hu'=>ih hu')
     exact⟨k,hk,.of_refs hab hr⟩
end
def rEqD (K:PySem.W.Frag)(n:Nat)(neg:Bool):R2:=fun x y H Q=>∃ a b d e,x=.ref a∧y=.ref b∧RD K H (n+1) x d∧RD K H (n+1) y e∧∀ k:Bool,(k=true↔d=e)→Q (.bl (if neg then !k else k)) H
section
variable {X:Cx}
theorem op_eqD (n:Nat)(hu:X.A.units+n<cLine):OpR X (compareOp .Eq) (rEqD X.K n false):=by
 intro pins s σ H x y v u Q I rx ry h
 obtain⟨a,b,d,e,rfl,rfl,h1,h2,q⟩:=h
 cases rx
 cases ry
 obtain⟨k,hk,hr⟩:=rcAt_D I n (A:=X.A) hu h1 h2 (fun hu'=>eqAt_D I n hu')
 exact hr _ _ _ _ ⟨.bl k,H,I,rfl,q k hk⟩
end
end L2
namespace L2
open PySem PySem.Spec PyProof.Rows PySem.Calls
section
variable {prog:Program}{w:World}{A:Around}{E:Value→Shared→Prop}{s:Shared}{r d:Addr}{items:Array Value}
end
end L2
namespace Wz
open PySem L2
def absI (c:Int):Int:=if c<0 then -c else c
theorem absI_nn (c:Int):0≤absI c:=by unfold absI;split<;>omega
def cellAt (ns:List Int)(k:Int):Int:=if k<(ns.length:Int) then ns.getD k.toNat 0 else 0
def gst (k c:Int):Int :=
 let left:=absI c
 let number:=(k*(1+left*1234567891%2147483646)+left/2147483646)%2147483647
 if left%5=4 then number+997852516353 else number
def Among (m c:Int)(ps:List (Int×Int)):Prop:=∀ p∈ps,∃ i j:Int,(0≤i∧i<m)∧(0≤j∧j<m)∧i≠j∧p=(gst i c,gst j c)
def dk (l:List (Int×Int)):List (Key×V):=l.map fun p=>(Sum.inl p.1,V.int p.2)
def look:List (Int×Int)→Int→Option Int
 | [],_=>none
 | p::r,g=>if p.1=g then some p.2 else look r g
def put (l:List (Int×Int))(g m:Int):List (Int×Int):=if (l.any fun p=>decide (p.1=g))=true then l.map (fun p=>if p.1=g then (p.1,m) else p) else l++[(g,m)]
def wr (l:List (Int×Int))(g:Int):Int:=(look l g).getD g
def swapL (l:List (Int×Int))(p:Int×Int):List (Int×Int):=put (put l p.1 (wr l p.2)) p.2 (wr l p.1)
def paperL (w:List (Int×Int))(ps:List (Int×Int)):List (Int×Int):=ps.foldl swapL w
def wornL (ps:List (Int×Int)):List (Int×Int):=paperL [] ps
def keysL (l:List (Int×Int)):List Int:=l.map (·.1)
theorem valV_dk:∀ (l:List (Int×Int))(g:Int),valV (dk l) (Sum.inl g:Key)=(look l g).map V.int
 | [],_=>rfl
 | p::r,g=>by
  by_cases h:p.1=g
  ·have e:valV (dk (p::r)) (Sum.inl g:Key)=some (V.int p.2):=valV_pos (p:=(Sum.inl p.1,V.int p.2)) (r:=dk r) (by rw[h])
   rw[e];simp[look,h]
  ·have e:valV (dk (p::r)) (Sum.inl g:Key)=valV (dk r) (Sum.inl g):=valV_neg (p:=(Sum.inl p.1,V.int p.2)) (r:=dk r) (fun z=>h (Sum.inl.inj z))
   rw[e,valV_dk r g];simp[look,h]
theorem any_dk (l:List (Int×Int))(g:Int):((dk l).any fun kv=>decide (kv.1=(Sum.inl g:Key)))=l.any fun p=>decide (p.1=g):=by
 unfold dk
 rw[List.any_map]
 congr 1
 funext p
 simp[Function.comp]
theorem putK_dk (l:List (Int×Int))(g m:Int):putK (dk l) (Sum.inl g:Key) (V.int m)=dk (put l g m):=by
 unfold putK put
 rw[any_dk]
 by_cases h:(l.any fun p=>decide (p.1=g))=true
 ·rw[if_pos h,if_pos h]
  unfold dk
  rw[List.map_map,List.map_map]
  apply List.map_congr_left
  intro p _
  simp only[Function.comp]
  by_cases e:p.1=g
  ·rw[if_pos (by rw[e]),if_pos e]
  ·rw[if_neg (fun z=>e (Sum.inl.inj z)),if_neg e]
 ·rw[if_neg h,if_neg h]
  unfold dk
  simp
theorem look_any (l:List (Int×Int))(g:Int):(l.any fun p=>decide (p.1=g))=(look l g).isSome:=by
 induction l with
 | nil=>rfl
 | cons p r ih =>
  rw[List.any_cons,ih]
  show _=(if p.1=g then some p.2 else look r g).isSome
  by_cases h:p.1=g<;>simp[h]
theorem look_mem {l:List (Int×Int)}{g:Int}:(look l g).isSome=true↔g∈keysL l:=by
 rw[←look_any,List.any_eq_true]
 unfold keysL
 simp
theorem look_map (l:List (Int×Int))(g m h:Int):look (l.map (fun p=>if p.1=g then (p.1,m) else p)) h=if h=g then (look l g).map (fun _=>m) else look l h:=by
 induction l with
 | nil=>simp[look]
 | cons p r ih =>
  rw[List.map_cons]
  by_cases hp:p.1=g
  ·rw[if_pos hp]
   show (if p.1=h then some m else look _ h)=_
   rw[ih]
   by_cases hh:h=g
   ·subst hh;simp[hp,look]
   ·have:¬ p.1=h:=fun z=>hh (z.symm.trans hp)
    simp[hh,this,look]
  ·rw[if_neg hp]
   show (if p.1=h then some p.2 else look _ h)=_
   rw[ih]
   by_cases hh:h=g
   ·subst hh;simp[hp,look]
   ·simp[hh,look]
theorem look_append (l r:List (Int×Int))(h:Int):look (l++r) h=(look l h).orElse fun _=>look r h:=by
 induction l with
 | nil=>rfl
 | cons p l ih =>
  show (if p.1=h then some p.2 else look (l++r) h)=_
  rw[ih]
  by_cases e:p.1=h<;>simp[look,e]
theorem look_put (l:List (Int×Int))(g m h:Int):look (put l g m) h=if h=g then some m else look l h:=by
 unfold put
 rw[look_any]
 by_cases e:(look l g).isSome=true
 ·rw[if_pos e,look_map]
  obtain⟨v,hv⟩:=Option.isSome_iff_exists.mp e
  by_cases hh:h=g
  ·simp[hh,hv]
  ·simp[hh]
 ·rw[if_neg e,look_append]
  have hn:look l g=none:=by simpa using e
  by_cases hh:h=g
  ·subst hh;simp[hn,look]
  ·have:¬ g=h:=fun z=>hh z.symm
   simp[hh,look,this]
theorem keys_put (l:List (Int×Int))(g m:Int):keysL (put l g m)=if g∈keysL l then keysL l else keysL l++[g]:=by
 unfold put
 rw[look_any]
 by_cases e:(look l g).isSome=true
 ·rw[if_pos e,if_pos (look_mem.mp e)]
  unfold keysL
  rw[List.map_map]
  apply List.map_congr_left
  intro p _
  simp only[Function.comp]
  split<;>rfl
 ·rw[if_neg e,if_neg (fun z=>e (look_mem.mpr z))]
  simp[keysL]
theorem nodup_put {l:List (Int×Int)}(g m:Int)(h:(keysL l).Nodup):(keysL (put l g m)).Nodup:=by
 rw[keys_put]
 split
 ·exact h
 ·rename_i hn
  exact nd_snoc h hn
theorem mem_put {l:List (Int×Int)}{g m h:Int}:h∈keysL (put l g m)↔h=g∨h∈keysL l:=by
 rw[keys_put]
 split
 ·rename_i hn
  constructor
  ·exact .inr
  ·rintro (rfl | z)
   ·exact hn
   ·exact z
 ·simp[or_comm]
theorem wr_put (l:List (Int×Int))(g m h:Int):wr (put l g m) h=if h=g then m else wr l h:=by
 unfold wr;rw[look_put];split<;>simp_all
theorem wr_swap (l:List (Int×Int))(p:Int×Int)(h:Int):wr (swapL l p) h=if h=p.2 then wr l p.1 else if h=p.1 then wr l p.2 else wr l h:=by
 unfold swapL;rw[wr_put,wr_put]
theorem nodup_swap {l:List (Int×Int)}(p:Int×Int)(h:(keysL l).Nodup):(keysL (swapL l p)).Nodup:=nodup_put _ _ (nodup_put _ _ h)
theorem mem_swap {l:List (Int×Int)}{p:Int×Int}{h:Int}:h∈keysL (swapL l p)↔h=p.2∨h=p.1∨h∈keysL l:=by
 unfold swapL;rw[mem_put,mem_put]
theorem nodup_paper:∀ (ps:List (Int×Int)){w:List (Int×Int)},(keysL w).Nodup→(keysL (paperL w ps)).Nodup
 | [],_,h=>h
 | p::r,_,h=>nodup_paper r (nodup_swap p h)
theorem mem_paper:∀ (ps:List (Int×Int)){w:List (Int×Int)}{h:Int},h∈keysL (paperL w ps)↔h∈keysL w∨∃ p∈ps,h=p.1∨h=p.2
 | [],_,_=>by simp[paperL]
 | p::r,w,h=>by
  show h∈keysL (paperL (swapL w p) r)↔_
  rw[mem_paper r,mem_swap]
  constructor
  ·rintro ((e | e | e) | ⟨q,hq,e⟩)
   ·exact .inr ⟨p,List.mem_cons_self,.inr e⟩
   ·exact .inr ⟨p,List.mem_cons_self,.inl e⟩
   ·exact .inl e
   ·exact .inr ⟨q,List.mem_cons_of_mem _ hq,e⟩
  ·rintro (e | ⟨q,hq,e⟩)
   ·exact .inl (.inr (.inr e))
   ·rcases List.mem_cons.mp hq with rfl | hq
    ·rcases e with e | e
     ·exact .inl (.inr (.inl e))
     ·exact .inl (.inl e)
    ·exact .inr ⟨q,hq,e⟩
theorem len_put (l:List (Int×Int))(g m:Int):(put l g m).length≤l.length+1:=by
 unfold put;split<;>simp
theorem len_swap (l:List (Int×Int))(p:Int×Int):(swapL l p).length≤l.length+2:=by
 unfold swapL
 have h1:=len_put (put l p.1 (wr l p.2)) p.2 (wr l p.1)
 have h2:=len_put l p.1 (wr l p.2)
 omega
theorem len_paper:∀ (ps w:List (Int×Int)),(paperL w ps).length≤w.length+2*ps.length
 | [],_=>by simp[paperL]
 | p::r,w=>by
  have h1:=len_paper r (swapL w p)
  have h2:=len_swap w p
  show (paperL (swapL w p) r).length≤_
  rw[List.length_cons]
  omega
def swapF (f:Int→Int)(p:Int×Int):Int→Int:=fun h=>if h=p.2 then f p.1 else if h=p.1 then f p.2 else f h
theorem wr_paper:∀ (ps w:List (Int×Int)),wr (paperL w ps)=ps.foldl swapF (wr w)
 | [],_=>rfl
 | p::r,w=>by
  show wr (paperL (swapL w p) r)=r.foldl swapF (swapF (wr w) p)
  rw[wr_paper r]
  congr 1
  funext h
  exact wr_swap w p h
theorem nodup_len:∀ {l m:List Int},l.Nodup→(∀ x∈l,x∈m)→l.length≤m.length
 | [],_,_,_=>Nat.zero_le _
 | a::r,m,h,hs=>by
  obtain⟨h1,h2⟩:=List.nodup_cons.mp h
  have ha:a∈m:=hs a List.mem_cons_self
  have hl:(m.erase a).length=m.length-1:=List.length_erase_of_mem ha
  have hpos:0<m.length:=List.length_pos_of_mem ha
  have ih:=nodup_len (l:=r) (m:=m.erase a) h2 fun x hx=>(List.mem_erase_of_ne (show x≠a from fun e=>h1 (by rw[←e];exact hx))).mpr (hs x (List.mem_cons_of_mem _ hx))
  rw[List.length_cons]
  omega
theorem among_len {m c:Int}{ps:List (Int×Int)}(h:Among m c ps)(hm:m≤12):(wornL ps).length≤12:=by
 have e:(wornL ps).length=(keysL (wornL ps)).length:=by simp[keysL]
 rw[e]
 have hnd:(keysL (wornL ps)).Nodup:=nodup_paper ps (w:=[]) (by simp[keysL])
 have:=nodup_len (m:=(List.range 12).map fun i:Nat=>gst (i:Int) c) hnd fun x hx=>by
  rcases (mem_paper ps).mp hx with z | ⟨p,hp,e⟩
  ·simp[keysL]at z
  ·obtain⟨i,j,hi,hj,_,rfl⟩:=h p hp
   rw[List.mem_map]
   rcases e with e | e
   ·exact⟨i.toNat,List.mem_range.mpr (by omega),by rw[e];simp[Int.toNat_of_nonneg hi.1]⟩
   ·exact⟨j.toNat,List.mem_range.mpr (by omega),by rw[e];simp[Int.toNat_of_nonneg hj.1]⟩
 simpa using this
theorem among_append {m c:Int}{ps qs:List (Int×Int)}(h:Among m c ps)(h':Among m c qs):Among m c (ps++qs):=fun p hp=>(List.mem_append.mp hp).elim (h p) (h' p)
theorem len_dk (l:List (Int×Int)):(dk l).length=l.length:=by unfold dk;simp
end Wz
namespace Wz
open PySem L2
def Callee (P:Program)(w:World)(K:PySem.W.Frag)(mg:Str→Option Value)(base:Heap)(x:Str)(k:Nat)(ps:List Str)(sp:Sp):Prop :=
 ∃ (f:Addr)(fd:FuncData),FnOk P w K mg base CX0 k f fd ps sp∧mg x=some (.ref f)∧PySem.W.keepIn K (.ref f)=true∧Binds K fd ps []
theorem pcall {X:Cx}{x:Str}{k:Nat}{ps:List Str}{sp:Sp}{e:Expr}{es:List Expr}{t:TA}{p pos:Pos}(C:Callee X.prog X.w X.K X.mg X.base x k ps sp)(hr:Room k X.A)(hg:Gl X x)(ha:PA X (e::es) t)
  (hdb:(x == ("__debug__" : Str))=false:=by decide) (he:starEach (e::es) X.env=(false,eval e X.env)::starEach es X.env:=by rfl) (hpl:(backTo pos (starEach es X.env)).any (·.1)=false:=by rfl) :
  PE X (.Call (.Name x p) (e::es) [] pos) (tCall sp [] E0 t):=by
 obtain⟨f,fd,G,hm,hk,hb⟩:=C
 exact pe_call G hr hg hm hk hb .nil pass0 ha hdb he hpl
theorem ix_tupK {X:Cx}(K:PySem.W.Frag)(hK:X.K=K:=by rfl):IxR X (rIxT K):=by subst hK;exact ix_tup
def RowAt (H:Hp)(l:Addr)(ps:List (Int×Int)):Prop:=∃ as:List Addr,H l=some (.lst (as.map V.ref))∧Paired (fun a (p:Int×Int)=>H a=some (.tup [.int p.1,.int p.2])) as ps
theorem RowAt.mono {H H':Hp}{l:Addr}{ps:List (Int×Int)}(r:RowAt H l ps)(s:Same H H'):RowAt H' l ps:=by
 obtain⟨as,h,p⟩:=r
 exact⟨as,s _ _ h,Paired.mapP p fun a q z=>s _ _ z⟩
theorem same_new {H:Hp}{l:Addr}{o:HO}(h:H l=none):Same H (upd H l o):=fun b u e=>by rw[upd_ne (ne_of_none e h)];exact e
theorem same_upd {H H':Hp}{l:Addr}{o:HO}(s:Same H H')(h:H l=none):Same H (upd H' l o):=fun b u e=>by rw[upd_ne (ne_of_none e h)];exact s b u e
theorem paired_snoc {α β:Type}{F:α→β→Prop}{a:α}{b:β}{l:List α}{m:List β}(p:Paired F l m)(h:F a b):Paired F (l++[a]) (m++[b]):=Paired.snoc p h
theorem paired_get {α β:Type}{F:α→β→Prop}:∀ {l:List α}{m:List β}{i:Nat}{a:α},Paired F l m→l[i]? = some a→∃ b,m[i]? = some b∧F a b
 | _,_,_,_,.nil,h=>by simp at h
 | _,_,0,_,.cons r _,h=>by simp at h;subst h;exact⟨_,rfl,r⟩
 | _,_,i+1,a,.cons _ t,h=>by
  obtain⟨b,e1,e2⟩:=paired_get (i:=i) (a:=a) t (by simpa using h)
  exact⟨b,by simpa using e1,e2⟩
theorem paired_append {α β:Type}{F:α→β→Prop}:∀ {l l':List α}{m m':List β},Paired F l m→Paired F l' m'→Paired F (l++l') (m++m')
 | _,_,_,_,.nil,s=>s
 | _,_,_,_,.cons r t,s=>.cons r (paired_append t s)
theorem map_get {α β:Type}{f:α→β}{l:List α}{i:Nat}{y:β}(h:(l.map f)[i]? = some y):∃ x,l[i]? = some x∧y=f x:=by
 rw[List.getElem?_map]at h
 cases e:l[i]? with
 | none=>rw[e]at h;cases h
 | some x=>rw[e]at h;exact⟨x,rfl,(Option.some.inj h).symm⟩
theorem take_snoc {α:Type}{l:List α}{i:Nat}{x:α}(h:l[i]? = some x):l.take (i+1)=l.take i++[x]:=by
 rw[List.take_add_one,h];rfl
theorem tbc_yes {te:TE}{a:Addr}{D:Ends}{σ:St}{H:Hp}(h:te σ H fun y H2=>∃ ys,H2 a=some (.lst ys)∧ys.length<sizeLine∧D.nx σ (upd H2 a (.lst (ys++[y])))):tbC tYes te a D σ H:=by
 unfold tbC tYes
 dsimp only
 rw[if_pos rfl]
 exact h
def spCell (K:PySem.W.Frag):Sp:=fun vs H Q _=>∃ (a:Addr)(ns:List Int)(k:Int),vs=[.ref a,.int k]∧SqL K H a (ns.map V.int)∧0≤k∧Q (.int (cellAt ns k)) H
def spSize:Sp:=fun vs H Q _=>∃ c:Int,vs=[.int c]∧Q (.int (absI c)) H
def spDraws:Sp:=fun vs H Q _=>∃ c m b:Int,vs=[.int c,.int m,.int b]∧(0≤m∧m≤1000)∧(0<b∧b<1073741824)∧∀ (l:Addr)(ds:List Int),H l=none→(∀ d∈ds,0≤d∧d<b)→(ds.length:Int)≤m→Q (.ref l) (upd H l (.lst (ds.map V.int)))
def spFrom (K:PySem.W.Frag):Sp:=fun vs H Q _=>∃ (a:Addr)(ns:List Int)(st m b:Int),vs=[.ref a,.int st,.int m,.int b]∧SqL K H a (ns.map V.int)∧(0≤st∧st≤63)∧(0≤m∧m≤1000)∧(0<b∧b<1073741824) ∧
 ∀ (l:Addr)(H':Hp)(ds:List Int),H l=none→Same H H'→H' l=some (.lst (ds.map V.int))→(∀ d∈ds,0≤d∧d<b)→(ds.length:Int)≤m→Q (.ref l) H'
def spGuest:Sp:=fun vs H Q _=>∃ k c:Int,vs=[.int k,.int c]∧(0≤k∧k≤1000000)∧Q (.int (gst k c)) H
def spPairs (K:PySem.W.Frag):Sp:=fun vs H Q _=>∃ (a:Addr)(ds:List Int)(m c:Int),vs=[.ref a,.int m,.int c]∧SqL K H a (ds.map V.int)∧(∀ d∈ds,0≤d)∧(2≤m∧m≤12)∧ds.length≤1000 ∧
 ∀ (l:Addr)(H':Hp)(ps:List (Int×Int)),H l=none→Same H H'→RowAt H' l ps→Among m c ps→ps.length=ds.length→Q (.ref l) H'
def spWhole:Sp:=fun vs H Q _=>∃ i:Int,vs=[.int i]∧Q (.bl true) H
def spPairT:Sp:=fun vs H Q _=>∃ (a:Addr)(p:Int×Int),vs=[.ref a]∧H a=some (.tup [.int p.1,.int p.2])∧Q (.bl true) H
def spRowT:Sp:=fun vs H Q _=>∃ (l:Addr)(ps:List (Int×Int)),vs=[.ref l]∧RowAt H l ps∧ps.length≤1000∧∀ H',Same H H'→Q (.bl true) H'
def spPaper:Sp:=fun vs H Q _=>∃ (l d:Addr)(ps w:List (Int×Int)),vs=[.ref l,.ref d]∧RowAt H l ps∧ps.length≤1000∧H d=some (.dK (dk w))∧w.length≤1000∧Q (.ref d) (upd H d (.dK (dk (paperL w ps))))
def spLaw (K:PySem.W.Frag):Sp:=fun vs H Q _=>∃ (a:Addr)(ns:List Int),vs=[.ref a]∧SqL K H a (ns.map V.int)∧ns.length≤63∧∀ H',Q (.bl true) H'
def pairD (p:Int×Int):Dt:=.sq true [.at (.int p.1),.at (.int p.2)]
def rowD (ps:List (Int×Int)):Dt:=.sq false (ps.map pairD)
theorem rd_row {K:PySem.W.Frag}{H:Hp}{l:Addr}{ps:List (Int×Int)}(r:RowAt H l ps):RD K H 2 (.ref l) (rowD ps):=by
 obtain⟨as,h,p⟩:=r
 refine RD.lst (SqL.of h) ?_
 clear h
 induction p with
 | nil=>exact .nil
 | cons h _ ih=>exact .cons (RD.tup (SqT.of h) (.cons (RD.flat rfl 0) (.cons (RD.flat rfl 0) .nil))) ih
end Wz
namespace L2
open PySem PySem.Spec PyProof.Rows
def TrD (g B:Heap)(e:Addr)(c:Value)(od:Option Addr)(fl:Value):Prop :=
 ∃ oe us T oT ts,g.get? e=some oe∧(oe.cls=c∧oe.dict=od)∧oe.data=.fields us∧us[1]? = some (.ref T)∧B.get? T=none∧T≠e∧g.get? T=some oT∧oT.data=.fields ts∧ts[3]? = some fl
def FlyD (B:Heap)(l:List Env)(e:Addr)(c:Value)(od:Option Addr)(g:Heap):Prop:=B.StaysIn g∧B.get? e=none∧g.FunFrames B l∧TrD g B e c od .none
def HeldD (B:Heap)(l:List Env)(e:Addr)(c:Value)(od:Option Addr)(L:Addr)(g:Heap):Prop:=B.StaysIn g∧B.get? e=none∧g.FunFrames B l∧TrD g B e c od (rawInt L)
theorem dict_mf (f:Array Value→Array Value)(o:Obj):(Obj.mapFields f o).dict=o.dict:=by
 unfold Obj.mapFields
 split<;>rfl
theorem FlyD.obj {B g:Heap}{l:List Env}{e:Addr}{c:Value}{od:Option Addr}(x:FlyD B l e c od g):∃ ob us,g.get? e=some ob∧ob.cls=c∧ob.dict=od∧ob.data=.fields us:=by
 obtain⟨_,_,_,oe,us,_,_,_,he,hc,hd,_⟩:=x
 exact⟨oe,us,he,hc.1,hc.2,hd⟩
section
variable {M:Model}{A:Around}{E:Value→Shared→Prop}{s:Shared}{B:Heap}{env:Env}{outer:List Env}{L e:Addr}{od:Option Addr}{c:Value}
def Rec (g g':Heap):Prop:=∀ b o,g.get? b=some o→(∀ us,o.data≠.fields us)→∃ sl,g'.get? b=some { o with slots:=sl }
theorem entryD {oe:Obj}{us:Array Value}{head:Value}{hn:Bool}{Q:Unit→Shared→Prop}(fr:A.frames=some (env::outer))(hl:s.heap.FunFrames B (env::outer))(hf:env.frame=some L)
  (he:s.heap.get? e=some oe) (hk:B.StaysIn s.heap) (hb:B.get? e=none) (hd:oe.data=.fields us) (h1:1<us.size)
  (h:∀ g,B.StaysIn g→g.FunFrames B (env::outer)→TrD g B e oe.cls oe.dict (rawInt L)→Rec s.heap g→Q () { s with heap:=g }) :
  wpAny M A (do let a ←frameOf env;let pl ←entryPlaceOf L hn;let b ←EntryCells.newEntry head a .none (rawInt L) .none pl;setField (.ref e) 1 b) Q E s:=by
 have hne:e∉(env::outer).filterMap (·.frame):=fun z=>by
  obtain⟨_,o,ho,nf⟩:=hl.mem z
  rw[he]at ho;cases ho;exact nf us hd
 refine wpAny_bind (wpAny_frameOf_fun fr hl hf fun g1 sl1=>wpAny_bind (wpAny_entryPlaceOf fun pl hpl=>?_))
 unfold EntryCells.newEntry newFields
 refine wpAny_bind (wpAny_newObj_type ?_ (hpl.sizeOk5 _ _ _ _ _))
 have e1:g1.get? e=some oe:=(sl1.2.1 e hne).trans he
 have k1:B.StaysIn g1:=fun b o q=>(sl1.2.1 b fun z=>by rw[(hl.mem z).1]at q;cases q).trans (hk b o q)
 generalize hob:({ cls:=.type "traceback",dict:=none,data:=.fields ([head,.ref L,.none,rawInt L,.none]++(if pl.isEmpty then List.replicate 6 Value.none else pl)).toArray }:Obj)=ob
 have obd:ob.data=.fields ([head,.ref L,.none,rawInt L,.none]++(if pl.isEmpty then List.replicate 6 Value.none else pl)).toArray:=by rw[←hob]
 have e2:=Heap.get?_push_of_some (h:=g1) ob e1
 refine wpAny_setField e2 hd h1 ?_
 have ne:g1.objs.size≠e:=Nat.ne_of_gt (Heap.lt_size e1)
 have d3:=Obj.data_mapFields hd (·.setIfInBounds 1 (Value.ref g1.objs.size))
 have e3:=Heap.get?_update_self (Obj.mapFields (·.setIfInBounds 1 (Value.ref g1.objs.size))) e2 (Obj.isFreed_of_fields d3)
 have keep:∀ b o,b≠e→g1.get? b=some o→((g1.push ob).update e (Obj.mapFields (·.setIfInBounds 1 (Value.ref g1.objs.size)))).get? b=some o:=fun b o n q=>by
  rw[Heap.get?_update_other _ _ (Ne.symm n)];exact Heap.get?_push_of_some _ q
 have nr:∀ b o,s.heap.get? b=some o→(∀ vs,o.data≠.fields vs)→b≠e:=fun b o q nf z=>by
  rw[z,he]at q;cases q;exact nf us hd
 refine h _ (fun b o q=>keep b o (fun z=>by rw[z,hb]at q;cases q) (k1 b o q)) (hl.of_keeps fun b o q nf=>?_) ?_ fun b o q nf=>?_
 ·obtain⟨sl,z⟩:=sl1.2.2 b o q
  exact⟨_,keep b _ (nr b o q nf) z,rfl⟩
 ·refine⟨_,_,g1.objs.size,ob,_,e3,⟨Obj.cls_mapFields _ _,dict_mf _ _⟩,d3,by simp[h1],k1.fresh,ne,?_,obd,by first | (simp;done) | (rcases hpl with rfl | ⟨_,_,_,_,_,_,_,rfl⟩<;>simp)⟩
  rw[Heap.get?_update_other _ _ (Ne.symm ne)]
  exact Heap.get?_push_size g1 (by rw[←hob];rfl)
 ·obtain⟨sl,z⟩:=sl1.2.2 b o q
  exact⟨sl,keep b _ (nr b o q nf) z⟩
theorem note_firstD {oe:Obj}{us:Array Value}{Q:Unit→Shared→Prop}(fr:A.frames=some (env::outer))(hl:s.heap.FunFrames B (env::outer))(hf:env.frame=some L)
  (he:s.heap.get? e=some oe) (hk:B.StaysIn s.heap) (hb:B.get? e=none) (hd:oe.data=.fields us) (h1:us[1]? = some .none)
  (h:∀ g,B.StaysIn g→g.FunFrames B (env::outer)→TrD g B e oe.cls oe.dict (rawInt L)→Rec s.heap g→Q () { s with heap:=g }):wpAny M A (noteFrame (.ref e) env) Q E s:=by
 unfold noteFrame
 simp only[hf]
 refine wpAny_bind (wpAny_field he hd h1 ?_)
 rw[if_neg (by decide)]
 exact entryD fr hl hf he hk hb hd (Array.getElem?_eq_some_iff.mp h1).1 h
theorem note_nextD {Q:Unit→Shared→Prop}(fr:A.frames=some (env::outer))(hl:s.heap.FunFrames B (env::outer))(hf:env.frame=some L)(ht:TrD s.heap B e c od .none)(hk:B.StaysIn s.heap)(hb:B.get? e=none)
  (h:∀ g,B.StaysIn g→g.FunFrames B (env::outer)→TrD g B e c od (rawInt L)→Rec s.heap g→Q () { s with heap:=g }):wpAny M A (noteFrame (.ref e) env) Q E s:=by
 obtain⟨oe,us,T,oT,ts,he,⟨rfl,rfl⟩,hd,h1,nT,ne,hT,dT,h3⟩:=ht
 unfold noteFrame
 simp only[hf]
 refine wpAny_bind (wpAny_field he hd h1 ?_)
 rw[if_pos (show (Value.ref T != Value.none)=true by simp)]
 refine wpAny_bind (wpAny_field hT dT h3 ?_)
 rw[if_neg (show ¬((Value.none == rawInt L)=true) by simp[rawInt])]
 refine wpAny_bind (wpAny_setField hT dT (Array.getElem?_eq_some_iff.mp h3).1 ?_)
 have ot:∀ b,b≠T→(s.heap.update T (Obj.mapFields (·.setIfInBounds 3 Value.none))).get? b=s.heap.get? b:=fun b z=>Heap.get?_update_other _ _ (Ne.symm z)
 have nr:∀ b o,s.heap.get? b=some o→(∀ vs,o.data≠.fields vs)→b≠T:=fun b o q nf z=>by
  rw[z,hT]at q;cases q;exact nf ts dT
 refine entryD fr (hl.of_keeps fun b o q nf=>⟨o,(ot b (nr b o q nf)).trans q,rfl⟩) hf ((ot e (Ne.symm ne)).trans he) (fun b o q=>(ot b fun z=>by rw[z,nT]at q;cases q).trans (hk b o q)) hb hd (Array.getElem?_eq_some_iff.mp h1).1 fun g a1 a2 a3 a4=>h g a1 a2 a3 fun b o q nf=>?_
 exact a4 b o ((ot b (nr b o q nf)).trans q) nf
theorem flightD {l:List Env}{fl:Value}{Q:Unit→Shared→Prop}(hk:B.StaysIn s.heap)(hl:s.heap.FunFrames B l)(ht:TrD s.heap B e c od fl)
  (h:∀ g,B.StaysIn g→g.FunFrames B l→TrD g B e c od .none→s.heap.UpToSlots g→Q () { s with heap:=g }):wpAny M A (setFlight (.ref e) none) Q E s:=by
 obtain⟨oe,us,T,oT,ts,he,hc,hd,h1,nT,ne,hT,dT,h3⟩:=ht
 have z3:3<ts.size:=(Array.getElem?_eq_some_iff.mp h3).1
 have ot:∀ b,b≠T→(s.heap.update T (Obj.mapFields (·.setIfInBounds 3 ((none:Option Addr).elim Value.none fun f=>rawInt f)))).get? b=s.heap.get? b:=fun b z=>Heap.get?_update_other _ _ (Ne.symm z)
 have nr:∀ b o,s.heap.get? b=some o→(∀ vs,o.data≠.fields vs)→b≠T:=fun b o q nf z=>by
  rw[z,hT]at q;cases q;exact nf ts dT
 unfold setFlight
 refine wpAny_bind (wpAny_field he hd h1 ?_)
 rw[if_pos (show (Value.ref T != Value.none)=true by simp)]
 refine wpAny_setField hT dT z3 (h _ (fun b o q=>(ot b fun z=>by rw[z,nT]at q;cases q).trans (hk b o q)) (hl.of_keeps fun b o q nf=>⟨o,(ot b (nr b o q nf)).trans q,rfl⟩) ?_ fun b o q nf=>⟨o.slots,(ot b (nr b o q nf)).trans q⟩)
 exact⟨oe,us,T,_,_,(ot e (Ne.symm ne)).trans he,hc,hd,h1,nT,ne,Heap.get?_update_self _ hT (Obj.isFreed_of_fields (Obj.data_mapFields dT _)),Obj.data_mapFields dT _,by simp[z3]⟩
theorem rec_up {g g' g'':Heap}(a:Rec g g')(b:g'.UpToSlots g''):g.UpToSlots g'':=fun x o q nf=>by
 obtain⟨sl,z⟩:=a x o q nf
 obtain⟨sl2,z2⟩:=b x _ z nf
 exact⟨sl2,z2⟩
theorem leaves_madeD {oe:Obj}{us:Array Value}{Q:Unit→Shared→Prop}(fr:A.frames=some (env::outer))(hf:env.frame=some L)(hk:B.StaysIn s.heap)(hl:s.heap.FunFrames B (env::outer))
  (he:s.heap.get? e=some oe) (hb:B.get? e=none) (hd:oe.data=.fields us) (h1:us[1]? = some .none)
  (hq:∀ g,FlyD B outer e oe.cls oe.dict g→s.heap.UpToSlots g→Q () { s with heap:=g }):wpAny M A (leaving env (.ref e)) Q E s:=by
 unfold leaving
 refine wpAny_bind (note_firstD fr hl hf he hk hb hd h1 fun g a1 a2 a3 a4=>?_)
 exact flightD (s:={ s with heap:=g }) a1 a2 a3 fun g2 b1 b2 b3 b4=>hq g2 ⟨b1,hb,b2.2.2,b3⟩ (rec_up a4 b4)
theorem looks_onD {Q:Unit→Shared→Prop}(fr:A.frames=some (env::outer))(hf:env.frame=some L)(fl:FlyD B (env::outer) e c od s.heap)
  (hq:∀ g,HeldD B (env::outer) e c od L g→s.heap.UpToSlots g→Q () { s with heap:=g }):wpAny M A (noteFrame (.ref e) env) Q E s:=by
 obtain⟨f1,f2,f3,f4⟩:=fl
 exact note_nextD fr f3 hf f4 f1 f2 fun g a1 a2 a3 a4=>hq g ⟨a1,f2,a2,a3⟩ a4
theorem landsD {l:List Env}{Q:Unit→Shared→Prop}(hh:HeldD B l e c od L s.heap)(hq:∀ g,FlyD B l e c od g→s.heap.UpToSlots g→Q () { s with heap:=g }):wpAny M A (setFlight (.ref e) none) Q E s:=by
 obtain⟨f1,f2,f3,f4⟩:=hh
 exact flightD f1 f3 f4 fun g a1 a2 a3 a4=>hq g ⟨a1,f2,a2,a3⟩ a4
theorem lands_againD {l:List Env}{Q:Unit→Shared→Prop}(hh:FlyD B l e c od s.heap)(hq:∀ g,FlyD B l e c od g→s.heap.UpToSlots g→Q () { s with heap:=g }):wpAny M A (setFlight (.ref e) none) Q E s:=by
 obtain⟨f1,f2,f3,f4⟩:=hh
 exact flightD f1 f3 f4 fun g a1 a2 a3 a4=>hq g ⟨a1,f2,a2,a3⟩ a4
end
end L2
namespace L2
open PySem PySem.Spec PyProof.Rows
abbrev bmV:List Value:=[.type "ValueError",.type "Exception",.type "BaseException",.type "object"]
def exOb (C t:Addr)(od:Option Addr):Obj:={ cls:=.ref C,dict:=od,data:=.fields #[.ref t,.none,.none,.none,.bool false,.none] }
section
variable {prog:Program}{w:World}{A:Around}{E:Value→Shared→Prop}{s:Shared}{K:PySem.W.Frag}{x dx C:Addr}{mA:Str→Option Value}{f:Str}{v:Value}
end
end L2
namespace PySem
open Sem (wp)
section
variable {prog:Program}{w:World}{A:Around}{E:Value→Shared→Prop}{h:Heap}{g:Array GenState}{d:Drawn}{t:Nat}{os:OsState}
variable {nm q:Str}{C N:Addr}{bs bm bmB:List Value}{hdct:Bool}{sn:List Str}{sub:List Value}{ab:Bool}{col:Option Bool}{dd:Option Addr}{k0 k1 k2 k3 k5:Option Value}{B newId initId:String}
end
end PySem
namespace L2
open PySem PySem.Spec PyProof.Rows
abbrev OwnExc (K:PySem.W.Frag)(C:Addr):Prop:=PySem.W.excIn K C bmV "ValueError.__new__" = true
theorem exc_obj {K:PySem.W.Frag}{h:Heap}{C:Addr}(X:K.In h)(q:OwnExc K C) :
  ∃ bm N nm qn bs hdct sn sub ab col dd k0 k1 k2 k3 k5 mN,h.get? C=some (excClassObj nm qn C N bs bm hdct sn sub ab col dd k0 k1 k2 k3 k5 "ValueError.__new__")∧h.Ns N mN∧mN "__init__" = none∧OwnTail h bmV bm:=by
 have q:PySem.W.excIn K C bmV "ValueError.__new__" = true:=q
 unfold PySem.W.excIn at q
 split at q
 ·rename_i dd cd sl ho
  split at q
  ·rename_i C' bm k0 k1 k2 k3 n k5 hm hs
   simp only[Bool.and_eq_true,beq_iff_eq,Bool.not_eq_true']at q
   obtain⟨⟨⟨⟨⟨rfl,rfl⟩,hdel⟩,ht⟩,hok⟩,hni⟩:=q
   obtain⟨nm,bs,mro,ns,qn,hd,sn,sub,ab,col,del⟩:=cd
   dsimp only at hm hdel hok hni
   subst hm hdel
   have hsl:sl = #[k0,k1,k2,k3,some (.builtin "ValueError.__new__"),k5]:=by
    obtain⟨l⟩:=sl
    simp only at hs
    rw[hs]
   subst hsl
   exact⟨bm,ns,nm,qn,bs,hd,sn,sub,ab,col,dd,k0,k1,k2,k3,k5,_,X _ _ ho,.of_isNs (PySem.W.isNs_of_in X hok),PySem.W.nsMap_none_of_in X hok hni,PySem.W.tail_of_in X ht⟩
  ·cases q
 ·cases q
theorem ObjOk.has {P:Program}{w:World}{H:Hp}{h:Heap}{a:Addr}{o:HO}(x:ObjOk P w H h a o):∃ u,h.get? a=some u:=by
 cases o with
 | lst xs=>obtain⟨_,_,_,_,e⟩:=x;exact⟨_,e⟩
 | tup xs=>obtain⟨_,_,_,u,e,_⟩:=x;exact⟨u,e⟩
 | dK kvs=>obtain⟨_,_,_,_,o,_,_,e,_⟩:=x;exact⟨o,e⟩
 | dT kvs=>obtain⟨_,_,_,_,o,_,_,e,_⟩:=x;exact⟨o,e⟩
 | set S n=>obtain⟨o,_,_,_,e,_⟩:=x;exact⟨o,e⟩
 | ins C dx fs=>obtain⟨_,_,_,e,_⟩:=x;exact⟨_,e⟩
 | own y=>exact x
 | xd fs=>obtain⟨_,⟨o,_,_,e,_⟩,_⟩:=x;exact⟨o,e⟩
 | rng lo hi=>obtain⟨_,_,_,e⟩:=x;exact⟨_,e⟩
 | frz ob u=>obtain⟨e,_⟩:=x;exact⟨ob,e⟩
 | tbl ps=>exact⟨_,(show h.get? a=some _ from x)⟩
 | met f y=>exact⟨_,(show h.get? a=some _ from x)⟩
 | ext φ=>obtain⟨_,e,_⟩:=x;exact e
def CXD (P:Program)(w:World):CXT:=fun outer H s E e s'=>∃ (ea C:Addr)(od:Option Addr)(H':Hp)(B:Heap),e=.ref ea∧FlyD B outer ea (.ref C) od s'.heap∧Un (frs outer) [] H H' s.heap s'.heap∧HOk P w H' s'.heap∧s'.os=s.os∧AllBare s'.gens ∧
 (∀ b o,s.heap.get? b=some o→b∉frs outer→∃ o',B.get? b=some o')∧(∀ b o,H' b=some o→∃ o',B.get? b=some o')∧E (.ref C) od H'
theorem un_on {fs:List Addr}{H H':Hp}{h h1 h2 B:Heap}(u:Un fs [] H H' h h1)(b1:B.StaysIn h1)(b2:B.StaysIn h2)(hb:∀ b o,h.get? b=some o→b∉fs→∃ o',B.get? b=some o')(sl:∀ b o,b∈fs→h.get? b=some o→H b=none→∃ sl,h2.get? b=some { o with slots:=sl })(th:∀ b o,b∈fs→h.get? b=some o→∃ o',h2.get? b=some o'):Un fs [] H H' h h2:=by
 have eq:∀ b o,h.get? b=some o→b∉fs→h2.get? b=h1.get? b:=fun b o e hf=>by
  obtain⟨o',e'⟩:=hb b o e hf
  rw[b1 b o' e',b2 b o' e']
 refine⟨fun b o e n hf hx=>(eq b o e hf).trans (u.keep b o e n hf hx),fun b o e n hf hx=>sl b o hf e n,u.free,fun b o e hx=>?_,u.tups,u.frzs,u.tbls⟩
 by_cases hf:b∈fs
 ·exact th b o hf e
 ·rw[eq b o e hf];exact u.there b o e hx
theorem hok_on {P:Program}{w:World}{H:Hp}{h1 h2 B:Heap}(x:HOk P w H h1)(b1:B.StaysIn h1)(b2:B.StaysIn h2)(hb:∀ b o,H b=some o→∃ o',B.get? b=some o'):HOk P w H h2:=fun a o e =>
 (x a o e).stay (fun b u hc q=>by
  have:∃ o',B.get? b=some o':=by
   rcases hc with z | z
   ·rw[z];exact hb a o e
   ·exact hb b _ z
  obtain⟨o',e'⟩:=this
  rw[b1 b o' e']at q
  rw[←q]
  exact b2 b o' e') (fun _ q=>q) fun _ _ q=>q
def Flies (X:Cx)(E:XK):Prop:=∀ (pins:List (Addr×Obj))(σ:St)(H:Hp)(s:Shared)(ea C t:Addr)(od:Option Addr),Inv X pins σ H s→s.heap.get? ea=some (exOb C t od)→H ea=none→X.s₀.heap.get? ea=none→E (.ref C) od H→X.xe (.ref ea) s
section
variable {P:Program}{w:World}{K:PySem.W.Frag}{mg:Str→Option Value}{base:Heap}{N:List Str}{qual:Str}{sc:Scope}{f:Addr}{cd:Value}{A:Around}{outer:List Env}{s0:Shared}{H0:Hp}{E:XK}
theorem flies_cx:Flies (cxOf (CXD P w) P w K mg base N qual sc f cd A outer s0 H0 E) E:=by
 intro pins σ H s ea C t od I hx hn hs hE
 let X:Cx:=cxOf (CXD P w) P w K mg base N qual sc f cd A outer s0 H0 E
 show wpAny _ _ (leaving _ _) _ _ _
 have hstk:(X.A.frames:Option (List Env))=some (X.env::outer):=I.ok.frames
 have frS:frs X.stack=X.env.locals::frs outer:=by unfold frs;rfl
 let B:Heap:=PySem.W.hideAll s.heap (ea::frs X.stack)
 have hkb:B.StaysIn s.heap:=fun b o q=>PySem.W.of_hideAll _ q
 have inB:∀ b o,s.heap.get? b=some o→b≠ea→b∉frs X.stack→B.get? b=some o:=fun b o e ne hf=>PySem.W.hideAll_get _ e (fun z=>(List.mem_cons.mp z).elim ne hf)
 have hl:s.heap.FunFrames B (X.env::outer):=PySem.W.funFrames_hide I.stack fun env he a hf=>List.mem_cons_of_mem _ (List.mem_filterMap.mpr ⟨env,he,hf⟩)
 refine leaves_madeD (s:=s) hstk rfl hkb hl hx (PySem.W.hideAll_none _ List.mem_cons_self) rfl rfl fun h2 fl ups=>?_
 have ltl:∀ b o,s0.heap.get? b=some o→b≠X.env.locals:=fun b o e=>Nat.ne_of_lt (Nat.lt_of_lt_of_le (Heap.lt_size e) I.ok.above)
 have h0B:∀ b o,s0.heap.get? b=some o→b∉frs outer→∃ o',B.get? b=some o':=fun b o e hf=>by
  obtain⟨o',e'⟩:=I.base.there b o e (by intro z;exact absurd (show b∈([]:List Addr) from z) (by simp))
  refine⟨o',inB b o' e' (fun z=>?_) ?_⟩
  ·have hs':s0.heap.get? ea=none:=hs
   rw[z,hs']at e;cases e
  ·rw[frS]
   intro z
   rcases List.mem_cons.mp z with z | z
   ·exact ltl b o e z
   ·exact hf z
 have trB:∀ b o,H b=some o→∃ o',B.get? b=some o':=fun b o e=>by
  obtain⟨u,q⟩:=(I.hok b o e).has
  exact⟨u,inB b u q (fun z=>by rw[z,hn]at e;cases e) fun z=>by rw[I.stkFree b z]at e;cases e⟩
 have noEx:∀ b,b∉X.ex:=fun b z=>absurd (show b∈([]:List Addr) from z) (by simp)
 have slot2:∀ b o,b∈frs outer→s0.heap.get? b=some o→H0 b=none→∃ sl,h2.get? b=some { o with slots:=sl }:=fun b o hf e n=>by
  obtain⟨sl,e1⟩:=I.base.slot b o e n hf (noEx b)
  obtain⟨_,o2,ho2,hnf⟩:=I.ok.funs.mem hf
  have e2:o2=o:=by
   have:s0.heap.get? b=some o2:=ho2
   rw[e]at this;exact (Option.some.inj this).symm
  subst e2
  obtain⟨sl2,e3⟩:=ups b _ e1 hnf
  exact⟨sl2,e3⟩
 refine⟨ea,C,od,H,B,rfl,fl,?_,hok_on I.hok hkb fl.1 trB,I.os,I.bare,h0B,trB,hE⟩
 refine un_on (h1:=s.heap) I.base hkb fl.1 h0B (fun b o hf e n=>?_) fun b o hf e=>?_
 ·exact slot2 b o hf e n
 ·obtain⟨sl,q⟩:=slot2 b o hf e (I.ok.frf b hf)
  exact⟨_,q⟩
end
theorem Inv.fresh0 {X:Cx}{pins:List (Addr×Obj)}{σ:St}{H:Hp}{s:Shared}{a:Addr}(I:Inv X pins σ H s)(hx:a∉X.ex)(h:s.heap.get? a=none):X.s₀.heap.get? a=none:=by
 cases e:X.s₀.heap.get? a with
 | none=>rfl
 | some o =>
  obtain⟨o',q⟩:=I.base.there a o e hx
  rw[h]at q;cases q
theorem Inv.unheld {X:Cx}{pins:List (Addr×Obj)}{σ:St}{H:Hp}{s:Shared}{a:Addr}(I:Inv X pins σ H s)(h:s.heap.get? a=none):H a=none:=by
 cases e:H a with
 | none=>rfl
 | some o =>
  obtain⟨u,q⟩:=(I.hok a o e).has
  rw[h]at q;cases q
def tRaise (te:TE)(C:Addr)(E:XK):TS:=fun _ σ H=>te σ H fun _ H1=>E (.ref C) none H1
theorem ps_raise {X:Cx}{C:Addr}{E:XK}{x:Str}{e:Expr}{te:TE}{np cpos pos:Pos}(q:OwnExc X.K C)(hfl:Flies X E)(hex:X.ex=[])(hh:X.A.handled=none)(hg:Gl X x)(hm:X.mg x=some (.ref C))(he:PE X e te)
  (hdb:(x == ("__debug__" : Str))=false:=by decide) (hs:starEach [e] X.env=[(false,eval e X.env)]:=by rfl) :
  PS X (.Raise (some (.Call (.Name x np) [e] [] cpos)) none pos) (tRaise te C E):=by
 intro pins s σ H D I h
 obtain⟨bm,N,nm,qn,bs,hdct,sn,sub,ab,col,dd,k0,k1,k2,k3,k5,mN,hC,hN,hni,T⟩:=exc_obj I.ok.mod.kin q
 refine wpAny_Raise_call_subT (C:=C) (nm:=nm) (q:=qn) (N:=N) (bs:=bs) (bm:=bm) (hdct:=hdct) (sn:=sn) (sub:=sub) (ab:=ab) (col:=col) (dd:=dd) (k0:=k0) (k1:=k1) (k2:=k2) (k3:=k3) (k5:=k5)
  PySem.F.excBase_ValueError (mN:=mN) (T.hasType PySem.F.excBase_ValueError.hasBase) hh (by rw[hs];rfl) hni (ld_glob I hg hm ⟨rfl,?_⟩ hdb)
 rw[hs]
 refine Calls.evalArgs_plain (Calls.spliced_cons (thn (he pins s σ H _ I h) fun u s1 ⟨v,H1,I1,rv,q1⟩=>Calls.spliced_nil ?_))
 refine⟨rfl,(show 1≤sizeLine by decide),I1.bk _ _ hC,hN.keeps I1.bk,T.keeps I1.bk,fun h' ea hx=>?_⟩
 obtain⟨t,hea,_,_⟩:=hx.there
 exact hfl pins σ H1 { s1 with heap:=h' } ea C t none (I1.kept (t':=s1.toks) hx.keeps) hea (I1.unheld hx.new) (I1.fresh0 (by rw[hex];simp) hx.new) q1
end L2
namespace L2
open PySem PySem.Spec PyProof.Rows
section
variable {X:Cx}{pins:List (Addr×Obj)}{σ:St}{H:Hp}{s:Shared}
end
end L2
namespace L2
open PySem PySem.Spec PyProof.Rows
def Land (X:Cx)(pins:List (Addr×Obj))(σ:St)(H:Hp)(ea C:Addr)(od:Option Addr)(B:Heap)(s':Shared):Prop:=H ea=none∧∀ h2,FlyD B X.stack ea (.ref C) od h2→s'.heap.UpToSlots h2→Inv X pins σ H { s' with heap:=h2 }
theorem land_of {X:Cx}{pins:List (Addr×Obj)}{σ:St}{H H':Hp}{s s':Shared}{ea C:Addr}{od:Option Addr}{B:Heap}(I:Inv X pins σ H s)(fl:FlyD B X.stack ea (.ref C) od s'.heap)(un:Un (frs X.stack) [] H H' s.heap s'.heap)(hok:HOk X.prog X.w H' s'.heap)(os:s'.os=s.os)(bare:AllBare s'.gens)
  (hsB:∀ b o,s.heap.get? b=some o→b∉frs X.stack→∃ o',B.get? b=some o') (trB:∀ b o,H' b=some o→∃ o',B.get? b=some o'):Land X pins σ H' ea C od B s':=by
 refine⟨?_,fun h2 fl2 ups=>?_⟩
 ·cases e:H' ea with
  | none=>rfl
  | some o =>
   obtain⟨o',q⟩:=trB ea o e
   rw[fl.2.1]at q;cases q
 have slot2:∀ b o,b∈frs X.stack→s.heap.get? b=some o→H b=none→∃ sl,h2.get? b=some { o with slots:=sl }:=fun b o hf e n=>by
  obtain⟨sl,e1⟩:=un.slot b o e n hf (by simp)
  obtain⟨_,o2,ho2,hnf⟩:=I.stack.mem hf
  have e2:o2=o:=by
   have:s.heap.get? b=some o2:=ho2
   rw[e]at this;exact (Option.some.inj this).symm
  subst e2
  obtain⟨sl2,e3⟩:=ups b _ e1 hnf
  exact⟨sl2,e3⟩
 refine I.call' (ch:=[]) (s':={ s' with heap:=h2 }) os ?_ (hok_on hok fl.1 fl2.1 trB) bare fun b z=>absurd z (by simp)
 refine un_on (h1:=s'.heap) un fl.1 fl2.1 hsB (fun b o hf e n=>slot2 b o hf e n) fun b o hf e=>?_
 obtain⟨sl,q⟩:=slot2 b o hf e (I.stkFree b hf)
 exact⟨_,q⟩
def Cx.marked (X:Cx)(ea:Addr)(oe:Obj):Cx:={ X with A:=X.A.mark (some (.ref ea)),calm:=false,xe:=fun _ _=>False,pn:=(ea,oe)::X.pn }
theorem Inv.marked {X:Cx}{pins:List (Addr×Obj)}{σ:St}{H:Hp}{s:Shared}{ea:Addr}{oe:Obj}{us:Array Value}(I:Inv X pins σ H s)(he:s.heap.get? ea=some oe)(hd:oe.data=.fields us)(hn:H ea=none):Inv (X.marked ea oe) pins σ H s:=by
 refine⟨⟨I.ok.mod,I.ok.kind,I.ok.glob,I.ok.blt,I.ok.above,I.ok.inj,I.ok.has,I.ok.cab,fun z=>(by cases z),I.ok.frames,I.ok.stk,I.ok.exf,I.ok.bs,I.ok.bsz,I.ok.noex,I.ok.exfs,I.ok.funs,I.ok.frf⟩,I.os,I.bare,I.base,I.loc,I.cell,I.free,I.freeC,fun p hp=>?_,I.hok,I.len⟩
 rcases List.mem_cons.mp (show p∈(ea,oe)::(X.pn++pins) from hp) with z | z
 ·subst z
  refine⟨he,hn,fun z=>?_,fun z=>?_,fun v z=>?_⟩
  ·obtain⟨m,⟨o,es,ep,ho,hdd,_⟩,_⟩:=I.loc
   have z:ea=X.env.locals:=z
   rw[←z,he]at ho
   cases ho
   rw[hd]at hdd;cases hdd
  ·obtain⟨_,o,ho,nf⟩:=I.funs.mem z
   rw[he]at ho;cases ho
   exact nf us hd
  ·have z:oe.data=.cell v:=z
   rw[hd]at z;cases z
 ·exact I.pin p z
theorem Inv.unmarked {X:Cx}{pins:List (Addr×Obj)}{σ:St}{H:Hp}{s:Shared}{ea:Addr}{oe:Obj}(ok:X.Ok)(I:Inv (X.marked ea oe) pins σ H s):Inv X pins σ H s :=
 ⟨ok,I.os,I.bare,I.base,I.loc,I.cell,I.free,I.freeC,fun p hp=>I.pin p (show p∈(ea,oe)::(X.pn++pins) from List.mem_cons_of_mem _ hp),I.hok,I.len⟩
theorem SP.unmarked {X:Cx}{pins:List (Addr×Obj)}{D:Ends}{f:Flow}{s':Shared}{ea:Addr}{oe:Obj}(ok:X.Ok)(h:SP (X.marked ea oe) pins D f s'):SP X pins D f s':=by
 cases f with
 | next=>obtain⟨σ',H',I,q⟩:=h;exact⟨σ',H',I.unmarked ok,q⟩
 | brk=>obtain⟨σ',H',I,q⟩:=h;exact⟨σ',H',I.unmarked ok,q⟩
 | cont=>obtain⟨σ',H',I,q⟩:=h;exact⟨σ',H',I.unmarked ok,q⟩
 | ret u=>obtain⟨v,σ',H',I,r,q⟩:=h;exact⟨v,σ',H',I.unmarked ok,r,q⟩
def PHd (X:Cx)(hdl:List ExceptHandler)(th:Value→Option Addr→TS):Prop:=∀ (pins:List (Addr×Obj))(σ:St)(H:Hp)(D:Ends)(ea C:Addr)(od:Option Addr)(B:Heap)(s':Shared)(h:Heap),Land X pins σ H ea C od B s'→FlyD B X.stack ea (.ref C) od h→s'.heap.UpToSlots h→th (.ref C) od D σ H →
 wpAny (model X.prog X.w) X.A (handleBy (.ref ea) X.env hdl) (SP X pins D) X.xe { s' with heap:=h }
theorem ph_more {X:Cx}{y:Str}{C1:Addr}{b0:Stmt}{suite:List Stmt}{t1:TS}{th:Value→Option Addr→TS}{np pos:Pos}{rest:List ExceptHandler}(hg:Gl X y)(hm:X.mg y=some (.ref C1))(hs:∀ ea oe,PSs (X.marked ea oe) (b0::suite) t1)(hr:PHd X rest th)
  (hdb:(y == ("__debug__" : Str))=false:=by decide):PHd X (.ExceptHandler (some (.Name y np)) none (b0::suite) pos::rest) (fun cls od D σ H=>∃ b,PySem.W.exmOne X.K cls (.ref C1)=some b∧if b=true then t1 D σ H else th cls od D σ H):=by
 intro pins σ H D ea C od B s' h ld fl ups ht
 obtain⟨b,hb,ht⟩:=ht
 have I:=ld.2 h fl ups
 obtain⟨ob,us,hob,hobc,hobd,hobf⟩:=fl.obj
 have Im:=I.marked (ea:=ea) hob hobf ld.1
 have LT:PySem.W.Looks (model X.prog X.w) h (typeOf (.ref ea)) (.ref C):=by
  rw[←hobc]
  exact (PySem.W.Looks.ld hob).andThen .now
 refine wpAny_handleBy_cons (codeAny_handlers_test (ld_glob (X:=X.marked ea ob) Im hg hm ?_ hdb)) (by intro z;cases z)
 refine (PySem.W.exm_one (K:=X.K) I.kIn LT hb).here ?_
 cases b with
 | true =>
  rw[if_pos rfl]at ht
  refine codeAny_handlers_suite ?_
  refine lands_againD fl fun h6 fl6 ups6=>?_
  obtain⟨oe,us6,hoe,hoec,hoed,hoef⟩:=fl6.obj
  have I6:=(ld.2 h6 fl6 (ups.trans ups6)).marked (ea:=ea) hoe hoef ld.1
  exact wpAny_mono (hs ea oe pins _ σ H D I6 ht) (fun f s2 hq=>hq.unmarked I.ok) fun _ _ z=>z.elim
 | false =>
  rw[if_neg Bool.false_ne_true]at ht
  exact hr pins σ H D ea C od B s' h ld fl ups ht
theorem ph_nil {X:Cx}:PHd X [] (fun _ _ _ _ _=>False):=fun _ _ _ _ _ _ _ _ _ _ _ _ _ h=>h.elim
def tTryC (sp:Sp)(t:TA)(i:Nat)(th:Value→Option Addr→TS):TS:=fun D σ H=>t σ H fun vs H1=>sp vs H1 (fun v H2=>D.nx (σ.set i (some v)) H2) (fun cls od H2=>th cls od D σ H2)
theorem ps_tryCall {X:Cx}{k:Nat}{f:Addr}{fd:FuncData}{ps:List Str}{sp:Sp}{i:Nat}{x fn:Str}{e:Expr}{es:List Expr}{t:TA}{hd0:ExceptHandler}{hdl:List ExceptHandler}{th:Value→Option Addr→TS}{px p cpos spos pos:Pos}
  (G:FnOk X.prog X.w X.K X.mg X.base (CXD X.prog X.w) k f fd ps sp) (hr:Room k X.A) (hg:Gl X fn) (hm:X.mg fn=some (.ref f)) (hk:PySem.W.keepIn X.K (.ref f)=true) (hb:Binds X.K fd ps []) (ha:PA X.nox (e::es) t)
  (hst:X.stack=X.env::X.outer) (hfr:X.env.frame=some X.env.locals) (hN:X.N.Nodup) (hi:X.N[i]? = some x) (hx:Loc X.env.scope x) (hh:PHd X (hd0::hdl) th)
  (hs:swapsWith (.Call (.Name fn p) (e::es) [] cpos) (some (.Name x px)) spos.line X.env=pure false:=by rfl) (hf:X.fn x=true∨X.env.scope.names.lookup x=some .local:=by first | exact .inl rfl | exact .inr rfl | assumption)
  (hdb:(fn == ("__debug__" : Str))=false:=by decide) (he:starEach (e::es) X.env=(false,eval e X.env)::starEach es X.env:=by rfl) (hpl:(backTo cpos (starEach es X.env)).any (·.1)=false:=by rfl) :
  PS X (.Try [.Assign [.Name x px] (.Call (.Name fn p) (e::es) [] cpos) spos] (hd0::hdl) [] [] pos) (tTryC sp t i th):=by
 intro pins s σ H D I h
 refine wpAny_Try_except ?_
 refine wpAny_execs_cons ?_
 refine wpAny_Assign_Name ?_ hs
 refine wpAny_Call_Name_kw (ld_glob I hg hm ?_ hdb)
 refine PySem.W.callWith_K (h₀:=X.base) I.ok.mod.kin hk (wpAny_mono (ha cpos pins s σ H _ (I.wish _) h) (fun us s1 ⟨vs,H1,I1,r,q⟩=>⟨I1.unwish.kIn,?_⟩) fun _ _ z=>z.elim) he hpl
 have I1:=I1.unwish
 have hl:us.length=ps.length:=by rw[←r.length];exact G.len _ _ _ _ q
 have hb':=hb s1 us I1.kIn (by rw[List.append_nil];exact hl)
 rw[List.append_nil]at hb'
 refine wpAny_call (codeAny_mono (G.run X.A X.stack s1 H1 ⟨us,[]⟩ us vs _ _ hr I1.env0 hb' r q) fun rs s' hq=>?_)
 cases rs with
 | error er =>
  obtain⟨ea,C,od,H',B,rfl,fl,un,hok,os,bare,hsB,trB,hE⟩:=hq
  have ld:=land_of I1 fl un hok os bare hsB trB
  have fl':=fl
  rw[hst]at fl'
  refine looks_onD (by rw[I.ok.frames,hst]) hfr fl' fun h4 held ups4=>?_
  refine landsD held fun h5 fl5 ups5=>?_
  rw[←hst]at fl5
  exact hh pins σ H' D ea C od B s' h5 ld fl5 (ups4.trans ups5) hE
 | ok fl =>
  cases fl with
  | ret u =>
   obtain⟨v,H2,I2,rv,q2⟩:=I1.after hq
   exact store_ok I2 hN hi hx rv (fun s3 I3=>wpAny_execs_nil (wpAny_execs_nil ⟨_,H2,I3,q2⟩)) hf
  | next=>exact False.elim hq
  | brk=>exact False.elim hq
  | cont=>exact False.elim hq
theorem Fun.okX {P:Program}{w:World}{K:PySem.W.Frag}{mg:Str→Option Value}{base:Heap}{x qual:Str}{st:Stmt}{f:Addr}{fd:FuncData}{N ps:List Str}{k:Nat}{sp:Sp}(F:Fun K x qual st f fd)(S:FnScope N ps (defScope st))(len:∀ vs H Q E,sp vs H Q E→vs.length=ps.length)
  (hbody:∀ (cdv:Value)(A:Around)(outer:List Env)(s:Shared)(H:Hp)(vs:List V)(Q:VK)(E:XK),Room k (A.deeper (envOfC qual (defScope st) s.heap.objs.size f cdv))→sp vs H Q E →
   ∃ t,PSs (cxOf (CXD P w) P w K mg base N qual (defScope st) f cdv A outer s H E) (defBody st) t∧t { nx:=fun _ H'=>Q .non H',rt:=Q } (start N vs) H):FnOk P w K mg base (CXD P w) (k+1) f fd ps sp:=by
 obtain⟨oc,od,kV,doc,pm,an,cdv,ct,osl,rfl,lk,hcd⟩:=F.ex
 exact fn_of lk hcd S len fun A outer s H vs Q E hr hsp=>hbody cdv A outer s H vs Q E hr hsp
end L2
namespace Wz
open PySem L2
def XCallee (P:Program)(w:World)(K:PySem.W.Frag)(mg:Str→Option Value)(base:Heap)(x:Str)(k:Nat)(ps:List Str)(sp:Sp):Prop :=
 ∃ (f:Addr)(fd:FuncData),FnOk P w K mg base (CXD P w) k f fd ps sp∧mg x=some (.ref f)∧PySem.W.keepIn K (.ref f)=true∧Binds K fd ps []
section
variable {X:Cx}{CX:CXT}{k:Nat}{C:Addr}{ps:List Str}{sp:Sp}{E:XK}{m x:Str}{p pos apos:Pos}{e o:Expr}{es:List Expr}{ta:TE}{t:TA}
theorem pxcall (M:XCallee X.prog X.w X.K X.mg X.base x k ps sp)(hr:Room k X.A)(hg:Gl X x)(hx:Passes (CXD X.prog X.w) X E)(ha:PA X (e::es) t)
  (hdb:(x == ("__debug__" : Str))=false:=by decide) (he:starEach (e::es) X.env=(false,eval e X.env)::starEach es X.env:=by rfl) (hpl:(backTo pos (starEach es X.env)).any (·.1)=false:=by rfl) :
  PE X (.Call (.Name x p) (e::es) [] pos) (tCall sp [] E t):=by
 obtain⟨f,fd,G,hm,hk,hb⟩:=M
 exact pe_call G hr hg hm hk hb .nil hx ha hdb he hpl
theorem ptry {X:Cx}{k:Nat}{ps:List Str}{sp:Sp}{i:Nat}{x fn:Str}{e:Expr}{es:List Expr}{t:TA}{hd0:ExceptHandler}{hdl:List ExceptHandler}{th:Value→Option Addr→TS}{px p cpos spos pos:Pos}
  (M:XCallee X.prog X.w X.K X.mg X.base fn k ps sp) (hr:Room k X.A) (hg:Gl X fn) (ha:PA X.nox (e::es) t)
  (hst:X.stack=X.env::X.outer) (hfr:X.env.frame=some X.env.locals) (hN:X.N.Nodup) (hi:X.N[i]? = some x) (hx:Loc X.env.scope x) (hh:PHd X (hd0::hdl) th)
  (hs:swapsWith (.Call (.Name fn p) (e::es) [] cpos) (some (.Name x px)) spos.line X.env=pure false:=by rfl) (hf:X.fn x=true∨X.env.scope.names.lookup x=some .local:=by first | exact .inl rfl | exact .inr rfl | assumption)
  (hdb:(fn == ("__debug__" : Str))=false:=by decide) (he:starEach (e::es) X.env=(false,eval e X.env)::starEach es X.env:=by rfl) (hpl:(backTo cpos (starEach es X.env)).any (·.1)=false:=by rfl) :
  PS X (.Try [.Assign [.Name x px] (.Call (.Name fn p) (e::es) [] cpos) spos] (hd0::hdl) [] [] pos) (tTryC sp t i th):=by
 obtain⟨f,fd,G,hm,hk,hb⟩:=M
 exact ps_tryCall G hr hg hm hk hb ha hst hfr hN hi hx hh hs hf hdb he hpl
end
inductive Deed where
 | come (g:Int) | go (g:Int) | exch (a b:Int)
 deriving DecidableEq
inductive Out where
 | done | already | masked | same | met | noguest (g:Int)
 deriving DecidableEq
end Wz
namespace Wz
open PySem L2
section
variable {C:Addr}{H:Hp}{p t:Addr}{A:HA}{st:HSt}
end
section
variable {H:Hp}
end
end Wz
namespace L2
open PySem PySem.Spec PyProof.Rows
end L2
namespace L2
open PySem PySem.Spec PyProof.Rows
section
variable {X:Cx}
end
end L2
namespace Wz
open PySem L2
theorem hun {A:Around}{k n:Nat}(hr:Room k A)(h:n≤200):A.units+n<cLine:=by have:=hr.un;omega
def keyP (a b:Int):Int×Int:=if b<a then (b,a) else (a,b)
def spKey:Sp:=fun vs H Q _=>∃ a b:Int,vs=[.int a,.int b]∧∀ t,H t=none→Q (.ref t) (upd H t (.tup [.int (keyP a b).1,.int (keyP a b).2]))
end Wz
namespace Wz
open PySem L2
end Wz
namespace Wz
open PySem L2
end Wz
namespace Wz
open PySem L2
end Wz
namespace Wz
open PySem L2
end Wz
namespace Wz
open PySem L2
end Wz
namespace Wz
open PySem L2
end Wz
namespace Wz
open PySem L2
end Wz
namespace Wz
open PySem L2
end Wz
namespace L2
open PySem PySem.Spec PyProof.Rows
theorem passN {X:Cx}{P:Program}{w:World}:Passes (CXD P w) X (fun _ _ _=>False):=by
 intro pins σ H s e s' I hc
 obtain⟨ea,C,od,H',B,rfl,fl,un,hok,os,bare,hsB,trB,hE⟩:=hc
 exact hE.elim
def Itd (d:Addr)(o:Obj)(kvs:List (Key×V)):It :=
 ⟨fun i H=>H d=some (.frz o (.dK kvs))∧i<kvs.length,fun i H x H'=>H'=H∧∃ p,kvs[i]? = some p∧x=kV p.1,fun i H=>H d=some (.frz o (.dK kvs))∧kvs.length≤i⟩
theorem dict_ep {P:Program}{w:World}{H:Hp}{h:Heap}{d:Addr}{o:Obj}{kvs:List (Key×V)}{ep:Nat}(hep:∀ es ep',o.data=.dict es ep'→ep'=ep)(x:ObjOk P w H h d (.frz o (.dK kvs))):(d == sysModules)=false∧∃ vs,KV kvs vs∧h.DictAt (mixKind P w) d vs ep:=by
 obtain⟨hg,hz,lo,vs,rel,dd⟩:=x
 obtain⟨ep',hat⟩:=dd.dictAt
 refine⟨lo,vs,rel,?_⟩
 obtain⟨od,es,hod,hcd,hdd,r⟩:=id hat
 rw[hg]at hod
 cases hod
 rw[←hep _ _ hdd]
 exact hat
theorem turn_dict {P:Program}{w:World}{K:PySem.W.Frag}{tg:Expr}(d it:Addr)(o:Obj)(kvs:List (Key×V))(ep:Nat)(hep:∀ es ep',o.data=.dict es ep'→ep'=ep):Turn P w K tg (Itd d o kvs) [it] it (fun i h=>h.IsKeyIter it d i kvs.length ep) where
 mem:=by simp
 obj:=fun i h st b hb=>by
  have e:b=it:=by simpa using hb
  subst e
  obtain⟨o,e,c,d⟩:=st
  exact⟨o,e,fun v z=>by rw[d]at z;cases z⟩
 keep:=fun i h h' st k=>st.at fun o e=>k it (by simp) o e
 item:=by
  intro X hP hw hK hc i pins s σ H E I hf st hg
  subst hP hw hK
  obtain⟨hH,hi⟩:=hg
  obtain⟨lo,vs,rel,hat⟩:=dict_ep hep (I.hok d _ hH)
  obtain⟨f0,f1,f2,f3,f4,f5⟩:=hf it (by simp)
  have hl:kvs.length=vs.length:=Paired.length rel
  obtain⟨p,hp⟩:∃ p,kvs[i]? = some p:=⟨kvs[i],by simp[hi]⟩
  obtain⟨q,hq⟩:∃ q,vs[i]? = some q:=⟨vs[i]'(by omega),by simp[show i<vs.length by omega]⟩
  obtain⟨k,v⟩:=q
  have ek:p.1=k:=by
   have e1:(kvs.map (·.1))[i]? = some p.1:=by rw[List.getElem?_map,hp];rfl
   rw[rel.keys,List.getElem?_map,hq]at e1
   exact (Option.some.inj e1).symm
  rw[hl]at st
  refine wpAny_pyNext_dict_item (knd:=mixKind X.prog X.w) st hat hq fun key h' hk st' sb=>?_
  have I1:Inv X pins σ H { s with heap:=h' }:=I.turned (t':=s.toks) (fun b o hb e=>(sb.2 b hb).trans e) f0 f1 f3 f4 f5
  obtain⟨o2,e,c,d2⟩:=id st'
  refine⟨key,rfl,go_of (s:={ s with heap:=h' }) e c d2 (by decide) ⟨kV k,H,I1,?_,⟨rfl,p,hp,by rw[ek]⟩,by rw[hl];exact st',fun b hb=>(hf b hb).1⟩⟩
  rcases keyIs_shape (k:=k) (v:=key) hk with ⟨j,t,ej,ev⟩ | ⟨j,t,ej,ev⟩
  ·subst ej;exact⟨t,ev⟩
  ·subst ej;exact⟨t,ev⟩
 done:=by
  intro X hP hw hK hc i pins s σ H E I hf st hg
  subst hP hw hK
  obtain⟨hH,hi⟩:=hg
  obtain⟨lo,vs,rel,hat⟩:=dict_ep hep (I.hok d _ hH)
  have hl:kvs.length=vs.length:=Paired.length rel
  obtain⟨f0,f1,f2,f3,f4,f5⟩:=hf it (by simp)
  rw[hl]at st
  exact wpAny_pyNext_dict_end (knd:=mixKind X.prog X.w) (I.ok.hd hc) st hat (by simp;omega) fun h' eb=>⟨rfl,I.turned (t':=s.toks) (fun b o hb e=>eb b o hb e) f0 f1 f3 f4 f5⟩
 self:=fun _ _ _ _ _ st h=>wpAny_pyIter_keyiter st h
def iDict (tl:TE):TI:=fun σ H R=>tl σ H fun x H1=>∃ d kvs,x=.ref d∧H1 d=some (.dK kvs)∧∀ o:Obj,R (Itd d o kvs) (upd H1 d (.frz o (.dK kvs)))
theorem pi_dict {X:Cx}{tg l:Expr}{tl:TE}(hl:PE X l tl):PI X tg l (iDict tl):=by
 intro pins s σ H R I h
 refine thn (hl pins s σ H _ I h) fun v s1 ⟨x,H1,I1,r1,q1⟩=>?_
 obtain⟨d,kvs,e,hH,q⟩:=q1
 subst e
 cases r1
 obtain⟨hz,lo,vs,rel,dd⟩:=(show ObjOk X.prog X.w H1 s1.heap d (.dK kvs) from I1.hok d _ hH)
 obtain⟨ep,hat⟩:=dd.dictAt
 obtain⟨o,es,ho,hc,hdat,r⟩:=id hat
 have hl2:kvs.length=vs.length:=Paired.length rel
 refine wpAny_pyIter_dict (knd:=mixKind X.prog X.w) lo hat ?_
 have I2:Inv X pins σ (upd H1 d (.frz o (.dK kvs))) { s1 with heap:=s1.heap,toks:=s1.toks }:=I1.write (by rw[hH];trivial) (.inl rfl) (fun b u _ e=>e) ⟨_,ho⟩ ⟨ho,hz,lo,vs,rel,dd⟩
 refine⟨s1.heap.objs.size,[s1.heap.objs.size],_,_,_,rfl,I2.kept (t':=s1.toks) fun b o e=>Heap.get?_push_of_some _ e,turn_dict d _ o kvs ep (fun es' ep' e=>?_),⟨_,Heap.get?_push_size _ rfl,rfl,by rw[hl2];rfl⟩,fun b hb=>?_,q o⟩
 ·rw[hdat]at e;cases e;rfl
 ·have e:b=s1.heap.objs.size:=by simpa using hb
  subst e
  exact I2.fpOk (Nat.le_refl _) (I2.hok.fresh (Nat.le_refl _))
theorem for_dict {d:Addr}{o:Obj}{kvs:List (Key×V)}{g:TG}{tb:TS}{D:Ends}{σ:St}{H:Hp}(Pv:Nat→St→Hp→Prop)(h0:Pv 0 σ H)(hl:∀ i σ H,i≤kvs.length→Pv i σ H→H d=some (.frz o (.dK kvs)))
  (hs:∀ i p σ H,kvs[i]? = some p→Pv i σ H→g (kV p.1) σ H fun σ2 H2=>tb { D with nx:=Pv (i+1),ct:=Pv (i+1),bk:=D.nx } σ2 H2) (hd:∀ σ H,Pv kvs.length σ H→D.nx σ H) :
  ∃ W:Nat→Nat→St→Hp→Prop,(∃ m,W 0 m σ H)∧∀ i m σ H,W i m σ H →
   ((Itd d o kvs).stop i H∧D.nx σ H)∨((Itd d o kvs).go i H∧∃ N:St→Hp→Prop,(∀ σ' H',N σ' H'→∃ m',m'<m∧W (i+1) m' σ' H')∧∀ x H',(Itd d o kvs).yld i H x H'→g x σ H' fun σ2 H2=>tb { D with nx:=N,ct:=N,bk:=D.nx } σ2 H2):=by
 refine⟨fun i m σ H=>m=kvs.length-i∧i≤kvs.length∧Pv i σ H,⟨kvs.length,by simp,Nat.zero_le _,h0⟩,?_⟩
 rintro i m σ H ⟨rfl,hi,p⟩
 have q:=hl i σ H hi p
 by_cases hlt:i<kvs.length
 ·refine .inr ⟨⟨q,hlt⟩,Pv (i+1),fun σ' H' p'=>⟨kvs.length-(i+1),by omega,rfl,hlt,p'⟩,fun x H' y=>?_⟩
  obtain⟨e,p2,hp,ex⟩:=y
  subst e ex
  exact hs i p2 σ _ hp p
 ·have e:i=kvs.length:=by omega
  subst e
  exact .inl ⟨⟨q,Nat.le_refl _⟩,hd σ H p⟩
end L2
namespace Wz
open PySem L2
end Wz
namespace L2
open PySem PySem.Spec PyProof.Rows
theorem call_lenS {X:Cx}:CallR X (.builtin "len") (fun xs H Q=>∃ p S n,xs=[.ref p]∧H p=some (.set S n)∧Q (.int n) H):=by
 intro pins s σ H xs us Q I r h
 obtain⟨p,S,n,rfl,hp,q⟩:=h
 obtain⟨u,rfl,rx⟩:=vals1 r
 cases rx
 obtain⟨o,es,ep,t,ho,hex,hd,_,_,hb,hf,hn⟩:=(show s.heap.SetOf (intKind X.prog X.w) p S n from I.hok p _ hp)
 subst hn
 refine call_len_set ho hex hd hf ?_ ⟨.int es.size,H,I.tok _,⟨_,rfl⟩,q⟩
 have:es.size<4096:=hb
 omega
end L2
namespace Wz
open PySem L2
end Wz
namespace L2
open PySem PySem.Spec PyProof.Rows
section
variable {prog:Program}{w:World}{A:Around}{R:Result→Shared→Prop}{s:Shared}{elt t0 i0 t1 i1:Expr}{c0 c1:List Expr}{scope:Scope}{pos:Pos}{it acc:Value}{env:Env}
end
end L2
namespace Qs
open PySem PySem.W PyProof.Rows
structure Lin (n:Nat)(lt:Nat→Nat→Bool):Prop where
 irr:∀ i,lt i i=false
 tot:∀ i j,i<n→j<n→i≠j→lt i j=true∨lt j i=true
 tr:∀ i j k,lt i j=true→lt j k=true→lt i k=true
def ask {α:Type}(lt:Nat→Nat→Bool):KasT α→α
 | .ret a=>a
 | .ask i j k=>ask lt (k (lt i j))
def Okk {α:Type}(n:Nat)(lt:Nat→Nat→Bool):KasT α→Prop
 | .ret _=>True
 | .ask i j k=>i<n∧j<n∧Okk n lt (k (lt i j))
def Run {α:Type}(n:Nat)(lt:Nat→Nat→Bool)(t:KasT α)(R:α→Prop):Prop:=Okk n lt t∧R (ask lt t)
section
variable {n:Nat}{lt:Nat→Nat→Bool}{p:Array Nat}
def Pm (n:Nat)(p:Array Nat):Prop:=p.Perm (List.toArray (List.range n))
def Up (lt:Nat→Nat→Bool)(p:Array Nat)(k:Nat):Prop:=∀ i j,i<j→j<k→lt (p.getD i 0) (p.getD j 0)=true
def Dn (lt:Nat→Nat→Bool)(p:Array Nat)(k:Nat):Prop:=∀ i j,i<j→j<k→lt (p.getD j 0) (p.getD i 0)=true
end
end Qs
namespace Qs
open PySem PySem.W PyProof.Rows
def ltP (p q:Int×Int):Bool:=decide (p.1<q.1∨(p.1=q.1∧p.2<q.2))
def ltIx (ps:List (Int×Int))(i j:Nat):Bool:=ltP (ps.getD i (0,0)) (ps.getD j (0,0))
def PairAt (h:Heap)(v:Value)(p:Int×Int):Prop:=∃ (b:Addr)(o:Obj)(n:Nat)(t u:Tok),v=.ref b∧h.get? b=some o∧o.cls=.type "tuple"∧o.data=.seq #[.int p.1 t,.int p.2 u] n
section
variable {prog:Program}{w:World}{A:Around}{E:Value→Shared→Prop}{s:Shared}
def Sorted (vs:List Value)(ps:List (Int×Int))(out:List Value):Prop:=∃ ix:List Nat,ix.Perm (List.range vs.length)∧out=ix.map (fun i=>vs.getD i Value.none)∧(ix.map fun i=>ps.getD i (0,0)).Pairwise (fun a b=>ltP a b=true)
end
end Qs
namespace Qs
open PySem PySem.W PyProof.Rows
section
variable {prog:Program}{w:World}{A:Around}{E:Value→Shared→Prop}{s:Shared}
end
end Qs
namespace Qs
open PySem PySem.W PyProof.Rows
def RawAt (h:Heap)(d:Addr)(es:Array DictEntry)(ep:Nat):Prop:=∃ o,h.get? d=some o∧o.ExactDict∧o.data=.dict es ep
section
variable {prog:Program}{w:World}{A:Around}{E:Value→Shared→Prop}{s:Shared}{d it:Addr}{es:Array DictEntry}{ep i:Nat}
end
end Qs
namespace Wz
open PySem PySem.Spec PyProof.Rows L2
theorem getD_range {α:Type}(d:α)(l:List α):(List.range l.length).map (fun i=>l.getD i d)=l:=by
 apply List.ext_getElem?
 intro i
 rw[List.getElem?_map]
 by_cases hi:i<l.length
 ·rw[List.getElem?_range hi];simp[hi]
 ·rw[List.getElem?_eq_none (by simp;omega),List.getElem?_eq_none (by omega)];rfl
end Wz
namespace L2
open PySem PySem.Spec PyProof.Rows
end L2
namespace Wz
open PySem L2
end Wz
namespace L2
open PySem PySem.Spec PyProof.Rows
end L2
namespace Wz
open PySem L2
end Wz
namespace L2
open PySem PySem.Spec PyProof.Rows
end L2
namespace Wz
open PySem L2
end Wz
namespace L2
open PySem PySem.Spec PyProof.Rows
end L2
namespace Wz
open PySem L2
end Wz
namespace L2
open PySem PySem.Spec PyProof.Rows
theorem op_notInK {X:Cx}(K:PySem.W.Frag)(hK:X.K=K:=by rfl):OpR X (compareOp .NotIn) (rIn K true):=by subst hK;exact op_notIn_seq
theorem flat_ints (ns:List Int):(ns.map V.int).all flatV=true:=by rw[List.all_map];simp[flatV,Function.comp_def]
theorem in_ints (x:Int)(ns:List Int):inV (.int x) (ns.map V.int)=decide (x∈ns):=by
 unfold inV
 rw[List.any_map]
 induction ns with
 | nil=>rfl
 | cons n r ih =>
  rw[List.any_cons,ih]
  have e:(eqV (V.int n) (V.int x))=decide (x=n):=by
   by_cases h:x=n
   ·subst h;simp[eqV]
   ·simp[eqV,h,Ne.symm h]
  show (eqV (V.int n) (V.int x)||_)=_
  rw[e]
  by_cases h:x=n<;>simp[h]
end L2
namespace Wz
open PySem L2
end Wz
namespace Wz
open PySem L2
end Wz
namespace Wz
open PySem L2
end Wz
namespace Wz
open PySem L2
end Wz
namespace Wz
open PySem L2
theorem look_wr {W:List (Int×Int)}{g:Int}(h:g∈keysL W):look W g=some (wr W g):=by
 obtain⟨m,e⟩:=Option.isSome_iff_exists.mp (look_mem.mpr h)
 unfold wr
 rw[e]
 rfl
end Wz
namespace L2
open PySem PySem.Spec PyProof.Rows
theorem call_dictD {X:Cx}:CallR X (.type "dict") (fun xs H Q=>∃ p kvs,xs=[.ref p]∧H p=some (.dK kvs)∧∀ l,H l=none→Q (.ref l) (upd H l (.dK kvs))):=by
 intro pins s σ H xs us Q I r h
 obtain⟨p,kvs,rfl,hp,q⟩:=h
 obtain⟨u,rfl,rx⟩:=vals1 r
 cases rx
 obtain⟨hz,hS,vs,rv,m⟩:kvs.length≤sizeLine∧(p == sysModules)=false∧∃ vs,KV kvs vs∧s.heap.DictOf (mixKind X.prog X.w) p vs:=I.hok p _ hp
 have hlen:kvs.length=vs.length:=Paired.length rv
 refine kt_call_dict hS m (by omega) fun h' hm hs=>?_
 have kp:∀ b o',s.heap.get? b=some o'→h'.get? b=some o':=fun b o' e=>hs.extBut b o' (Nat.ne_of_lt (Heap.lt_size e)) (Heap.get?_push_of_some _ e)
 have e0:ObjOk X.prog X.w (upd H s.heap.objs.size (.dK [])) _ s.heap.objs.size (.dK []):=dk_empty s.heap I.big
 have e1:(s.heap.objs.size == sysModules)=false:=e0.2.1
 exact⟨.ref s.heap.objs.size,_,I.laid (t':=s.toks) kp (Nat.le_refl _) (show ObjOk X.prog X.w _ h' _ (.dK kvs) from ⟨hz,e1,vs,rv,hm⟩),rfl,q _ (I.hok.fresh (Nat.le_refl _))⟩
end L2
namespace Wz
open PySem L2
end Wz
namespace Wz
open PySem L2
end Wz
namespace L2
open PySem PySem.Spec PyProof.Rows PySem.Calls
section
variable {X:Cx}{pins:List (Addr×Obj)}{σ:St}{H H':Hp}{s:Shared}
end
section
variable {prog:Program}{w:World}{A:Around}{E:Value→Shared→Prop}{s:Shared}
end
end L2
namespace Wz
open PySem L2
end Wz
namespace L2
open PySem PySem.Spec PyProof.Rows
end L2
namespace Wz
open PySem L2
end Wz
namespace L2
open PySem PySem.Spec PyProof.Rows
end L2
namespace Wz
open PySem L2
end Wz
namespace L2
open PySem PySem.Spec PyProof.Rows
end L2
namespace L2
open PySem
end L2
namespace Wz
open PySem L2
end Wz
namespace Wz
open PySem L2
end Wz
namespace L2
open PySem PySem.Spec PyProof.Rows
end L2
namespace Wz
open PySem L2
def keyR (p:Int×Int):Int×Int:=keyP p.1 p.2
theorem bool_loop {K:PySem.W.Frag}{te:TE}{Qf:Hp→Prop}{lr q:Addr}{as:List Addr}{α:Type}{rs:List α}{f:α→Bool}{rest:St}{H:Hp}(hq:H q=none)(h1:H lr=some (.lst (as.map V.ref)))(hpl:as.length=rs.length)(hlen:as.length≤1000)
  (ht:∀ (i:Nat)(a:Addr)(r:α)(HK:Hp)(Q':VK),as[i]? = some a→rs[i]? = some r→Same H HK→(∀ H5,Same HK H5→Q' (.bl (f r)) H5)→te (some (.ref a)::rest) HK Q')
  (k:∀ (HK:Hp),Same H HK→HK q=some (.lst ((rs.map f).map V.bl))→Qf HK) :
  LoopF (Itl K lr) (gName 0) (tbC tYes te q) { nx:=fun _ H'=>Qf H',rt:=fun _ _=>False } (none::rest) (upd H q (.lst [])):=by
 refine for_list (K:=K) (a:=lr) (xs:=as.map V.ref) (fun i σ HK=>∃ v:Option V,σ=v::rest∧Same H HK∧HK q=some (.lst (((rs.take i).map f).map V.bl)))
  ⟨none,rfl,same_new hq,upd_same⟩ (fun i σ HK _ ⟨_,_,s2,_⟩=>SqL.of (s2 _ _ h1)) ?_ ?_
 ·rintro i y σ HK hi ⟨v,rfl,t1,hq2⟩
  obtain⟨a,ha,rfl⟩:=map_get hi
  have hil:i<as.length:=(List.getElem?_eq_some_iff.mp ha).1
  have hr:rs[i]? = some rs[i]:=List.getElem?_eq_getElem (by omega)
  refine tbc_yes (ht i a rs[i] HK _ ha hr t1 fun H5 s5=>?_)
  refine⟨_,s5 _ _ hq2,by rw[List.length_map,List.length_map,List.length_take];exact small1000 (by omega),_,rfl,same_upd (t1.trans s5) hq,?_⟩
  rw[upd_same,List.take_add_one,hr,Option.toList_some,List.map_append,List.map_append]
  rfl
 ·rintro σ HK ⟨v,rfl,t1,hq2⟩
  rw[List.length_map,hpl,List.take_length]at hq2
  exact k HK t1 hq2
end Wz
namespace Wz
open PySem L2
end Wz
namespace Wz
open PySem L2
end Wz
namespace Wz
open PySem L2
end Wz
namespace Wz
end Wz
namespace Wz
open L2
end Wz
namespace L2
open PySem PySem.Spec PyProof.Rows
end L2
namespace Wz
open PySem L2
end Wz
namespace Wz
open PySem L2
end Wz
namespace Wz
open PySem L2
end Wz
namespace L2
open PySem PySem.Spec PyProof.Rows PySem.Calls
end L2
namespace Wz
open PySem L2
theorem row_push {HH:Hp}{q t:Addr}{ds:List Addr}{ps:List (Int×Int)}{a b:Int}(h1:HH q=some (.lst (ds.map V.ref)))(h2:Paired (fun b (e:Int×Int)=>HH b=some (.tup [.int e.1,.int e.2])) ds ps)(ht:HH t=none) :
  RowAt (upd (upd HH t (.tup [.int a,.int b])) q (.lst (ds.map V.ref++[V.ref t]))) q (ps++[(a,b)]):=by
 refine⟨ds++[t],by rw[upd_same,List.map_append];rfl,?_⟩
 exact paired_append (Paired.mapP h2 fun b e y=>by rw[upd_ne (ne_of y h1 (by intro u;cases u))];exact (same_new ht) _ _ y) (.cons (by rw[upd_ne ((ne_of_none h1 ht).symm),upd_same]) .nil)
end Wz
namespace Wz
open PySem L2
end Wz
namespace Wz
end Wz
namespace Wz
open PySem L2
end Wz
namespace Wz
open L2
end Wz
namespace Wz
open L2
end Wz
namespace Wz
open L2
end Wz
namespace Wz
open PySem L2
section
variable {st:HSt}
end
end Wz
namespace Wz
open PySem L2
end Wz
namespace Wz
open PySem L2
section
variable {st:HSt}{ml:List (Int×Int)}
end
end Wz
namespace Wz
open PySem L2
end Wz
namespace Wz
open PySem L2
end Wz
namespace Wz
open PySem L2
end Wz
namespace L2
open PySem
theorem Room.m {j k:Nat}{A:Around}(r:Room k A)(h:j≤k:=by decide):Room j A:=r.mono h
theorem pa1 {X:Cx}{e:Expr}{t:TE}(h:PE X e t)(hs:starEach [e] X.env=(false,eval e X.env)::starEach [] X.env:=by rfl):PA X [e] (tCons t tNil):=pa_cons h pa_nil hs
theorem pa2 {X:Cx}{e e2:Expr}{t t2:TE}(h:PE X e t)(h2:PE X e2 t2)(hs:starEach [e,e2] X.env=(false,eval e X.env)::starEach [e2] X.env:=by rfl)(hs2:starEach [e2] X.env=(false,eval e2 X.env)::starEach [] X.env:=by rfl):PA X [e,e2] (tCons t (tCons t2 tNil)):=pa_cons h (pa_cons h2 pa_nil hs2) hs
theorem pa3 {X:Cx}{e e2 e3:Expr}{t t2 t3:TE}(h:PE X e t)(h2:PE X e2 t2)(h3:PE X e3 t3)(hs:starEach [e,e2,e3] X.env=(false,eval e X.env)::starEach [e2,e3] X.env:=by rfl)(hs2:starEach [e2,e3] X.env=(false,eval e2 X.env)::starEach [e3] X.env:=by rfl)(hs3:starEach [e3] X.env=(false,eval e3 X.env)::starEach [] X.env:=by rfl):PA X [e,e2,e3] (tCons t (tCons t2 (tCons t3 tNil))):=pa_cons h (pa_cons h2 (pa_cons h3 pa_nil hs3) hs2) hs
theorem ps_st {X:Cx}{pos:Pos}(i:Nat){x:Str}{e:Expr}{te:TE}{pos':Pos}(hN:X.N.Nodup)(he:PE X e te)(hi:X.N[i]? = some x:=by rfl)(hx:Loc X.env.scope x:=by first | exact Or.inl rfl | exact Or.inr rfl)(hs:swapsWith e (some (.Name x pos')) pos.line X.env=pure false:=by rfl)(hf:X.fn x=true∨X.env.scope.names.lookup x=some .local:=by first | exact .inl rfl | exact .inr rfl | assumption) :
  PS X (.Assign [.Name x pos'] e pos) (tAsg te (gName i)):=ps_set hN hi hx he hs hf
theorem pgn {X:Cx}{pos:Pos}(i:Nat){x:Str}(hN:X.N.Nodup)(hi:X.N[i]? = some x:=by rfl)(hx:Loc X.env.scope x:=by first | exact Or.inl rfl | exact Or.inr rfl)(hf:X.fn x=true∨X.env.scope.names.lookup x=some .local:=by first | exact .inl rfl | exact .inr rfl | assumption):PG X (.Name x pos) (gName i):=pg_name hN hi hx hf
theorem csc {so sc:Scope}{N N':List Str}{src:List (Option Nat)}(a:sc.kind=.function:=by rfl)(b:∀ y∈sc.names,y.2≠.cell:=by decide +kernel)(c:∀ y∈sc.names,y.2=.local→sc.names.lookup y.1=some .local:=by decide +kernel)(d:∀ y∈sc.names,y.2=.free→so.names.lookup y.1=some .cell∨so.names.lookup y.1=some .free:=by decide +kernel)(e:N'.Nodup:=by decide +kernel)(f:src.length=N'.length:=by rfl)
  (g:∀ p∈N'.zip src,(match p.2 with | none=>true | some j=>decide (N[j]? = some p.1∧sc.names.lookup p.1=some .free))=true:=by decide +kernel):CmpSc so sc N N' src:=⟨a,b,c,d,e,f,g⟩
theorem fsc {N P:List Str}{sc:Scope}(a:sc.kind=.function:=by rfl)(b:sc.isCoroutine=false:=by rfl)(c:sc.isGenerator=false:=by rfl)(d:N.Nodup:=by decide +kernel)(e:N.take P.length=P:=by rfl)(f:∀ x∈P,sc.names.lookup x=some .local∨sc.names.lookup x=some .cell:=by decide +kernel)(g:∀ y∈sc.names,y.2≠.free:=by decide +kernel):FnScope N P sc:=⟨a,b,c,d,e,f,g⟩
end L2
namespace Wz
open PySem L2
def FnFact (K:PySem.W.Frag)(x:Str)(st:Stmt):Prop:=∃ (f:Addr)(fd:FuncData),PySem.W.nsIn K mainGlobals x=some (some (.ref f))∧Fun K x x st f fd
theorem fact_mk {K:PySem.W.Frag}{x:Str}{st:Stmt}{f:Addr}{oc:Value}{od an:Option Addr}{osl:Array (Option Value)}{kV doc pm cdv ct:Value}(a:PySem.W.nsIn K mainGlobals x=some (some (.ref f)))(l:K.lookup f=some ⟨oc,od,.func (PySem.W.fnOf x x (defArgs st) (defBody st) (defScope st) .none kV doc pm an cdv ct),osl⟩)
  (c:PySem.W.codeIn K cdv x=true) (k:PySem.W.keepIn K (.ref f)=true):FnFact K x st:=⟨f,_,a,fun_mk l c k⟩
section
variable {P:Program}{w:World}{K:PySem.W.Frag}{h base:Heap}{mg:Str→Option Value}{x m q:Str}{st:Stmt}{k:Nat}{ps:List Str}{sp:Sp}{C:Addr}{CX:CXT}
theorem mkC (X:K.In h)(G:h.Ns mainGlobals mg)(F:FnFact K x st)(ok:∀ f fd,Fun K x x st f fd→FnOk P w K mg base CX0 k f fd ps sp)
  (hb:∀ (kV doc pm:Value)(an:Option Addr)(cdv ct:Value)(us:List Value),us.length=ps.length→bindArgs (PySem.W.fnOf x x (defArgs st) (defBody st) (defScope st) .none kV doc pm an cdv ct) ⟨us,[]⟩=pure (ps.zip us):=by intro _ _ _ _ _ _ us hl;first | exact (match us,hl with | [_],_=>rfl) | exact (match us,hl with | [_,_],_=>rfl) | exact (match us,hl with | [_,_,_],_=>rfl) | exact (match us,hl with | [_,_,_,_],_=>rfl) | exact (match us,hl with | [_,_,_,_,_],_=>rfl) | exact (match us,hl with | [],_=>rfl)):Callee P w K mg base x k ps sp:=by
 obtain⟨f,fd,a,g⟩:=F
 exact⟨f,fd,ok f fd g,PySem.W.mg_of X G a,g.kp,g.binds hb⟩
theorem mkX (X:K.In h)(G:h.Ns mainGlobals mg)(F:FnFact K x st)(ok:∀ f fd,Fun K x x st f fd→FnOk P w K mg base (CXD P w) k f fd ps sp)
  (hb:∀ (kV doc pm:Value)(an:Option Addr)(cdv ct:Value)(us:List Value),us.length=ps.length→bindArgs (PySem.W.fnOf x x (defArgs st) (defBody st) (defScope st) .none kV doc pm an cdv ct) ⟨us,[]⟩=pure (ps.zip us):=by intro _ _ _ _ _ _ us hl;first | exact (match us,hl with | [_],_=>rfl) | exact (match us,hl with | [_,_],_=>rfl) | exact (match us,hl with | [_,_,_],_=>rfl) | exact (match us,hl with | [_,_,_,_],_=>rfl) | exact (match us,hl with | [_,_,_,_,_],_=>rfl) | exact (match us,hl with | [],_=>rfl)):XCallee P w K mg base x k ps sp:=by
 obtain⟨f,fd,a,g⟩:=F
 exact⟨f,fd,ok f fd g,PySem.W.mg_of X G a,g.kp,g.binds hb⟩
end
end Wz
namespace L2
open PySem PySem.Spec PyProof.Rows
end L2
namespace Wz
open PySem L2
end Wz
namespace Wz
open PySem L2
end Wz
namespace Wz
open PySem L2
end Wz
namespace Wz
open L2
end Wz
namespace PySem
open Sem (wp)
section
variable {M:Model}{A:Around}{E:Value→Shared→Prop}{s:Shared}{env:Env}
def compPostX (M:Model)(A:Around)(E:Value→Shared→Prop)(use:Option (Value→Sem Unit))(Q:Value→Shared→Prop)(acc:Value)(C:Addr)(fr:Option Addr)(r:Result)(s':Shared):Prop :=
 match r,use with
 | .ok _,none=>∃ m,s'.heap.Ns C m∧∀ h',Heap.SameBut C s'.heap h'→Q acc { s' with heap:=h' }
 | .ok _,some u=>wpAny M A (u acc) (fun _ s''=>∃ m,s''.heap.Ns C m∧∀ h',Heap.SameBut C s''.heap h'→Q .none { s'' with heap:=h' }) E s'
 | .error x,_=>∃ m,s'.heap.Ns C m∧∀ h',Heap.SameBut C s'.heap h'→∀ cenv:Env,cenv.frame=fr→wpAny M A (passOn "comprehension.variables-let-go" x cenv:Sem Value) (fun _ _=>False) E { s' with heap:=h' }
end
end PySem
namespace L2
open PySem PySem.Spec PyProof.Rows
section
variable {M:Model}{A:Around}{E:Value→Shared→Prop}{s:Shared}{B:Heap}{env:Env}{outer:List Env}{L e:Addr}{od:Option Addr}{c:Value}
end
section
variable {P:Program}{w:World}{K:PySem.W.Frag}{mg:Str→Option Value}{base:Heap}{N:List Str}{qual:Str}{sc:Scope}{f:Addr}{cd:Value}{A:Around}{outer:List Env}{s0:Shared}{H0:Hp}{E:XK}
end
end L2
namespace Wz
open PySem L2
end Wz
namespace Wz
open PySem L2
end Wz
namespace Wz
open PySem L2
end Wz
namespace Wz
open PySem L2
end Wz
namespace L2
open PySem PySem.Spec PyProof.Rows
section
variable {P:Program}{w:World}{A:Around}{E:Value→Shared→Prop}{s:Shared}
end
end L2
namespace Wz
open PySem L2
end Wz
namespace Wz
open PySem L2
end Wz
namespace Wz
open PySem L2
end Wz
namespace L2
open PySem PySem.Spec PyProof.Rows
open AutoSeq1 (wpAny_loadPart')
section
variable {prog:Program}{w:World}{A:Around}{E:Value→Shared→Prop}{s:Shared}
end
end L2
namespace L2
open PySem PySem.Spec PyProof.Rows
end L2
namespace L2
open PySem PySem.Spec PyProof.Rows
section
variable {X:Cx}{pins:List (Addr×Obj)}{σ:St}{H:Hp}{s:Shared}
end
end L2
namespace L2
open PySem PySem.Spec PyProof.Rows
section
variable {X:Cx}{CX:CXT}{k:Nat}{E:XK}{x y:Str}{p pos:Pos}{e e1 e2:Expr}{es:List Expr}{te t1 t2:TE}{t:TA}
end
end L2
namespace L2
open PySem PySem.Spec PyProof.Rows
end L2
namespace Wz
open PySem L2
end Wz
namespace Wz
open PySem L2
end Wz
namespace L2
open PySem PySem.Spec PyProof.Rows
end L2
namespace Wz
open PySem L2
end Wz
namespace Wz
open PySem L2
end Wz
namespace Wz
open PySem L2
end Wz
namespace L2
open PySem PySem.Spec PyProof.Rows
end L2
namespace Wz
open PySem L2
inductive Walk (R:Int→Int→Bool) (gs:List Int):Int→Int→Nat→Prop
 | nil (x:Int):Walk R gs x x 0
 | snoc {x y z:Int} {k:Nat}:Walk R gs x y k→R y z=true→z∈gs→Walk R gs x z (k+1)
end Wz
namespace L2
open PySem PySem.Spec PyProof.Rows
end L2
namespace Wz
open PySem L2
end Wz
namespace Wz
open PySem L2
end Wz
namespace Wz
open PySem PySem.SetTable
def Rise (l:List Nat):Prop:=l.Pairwise (· < ·)
theorem rise_get {xs:Array Nat}(h:Rise xs.toList){i k:Nat}(hik:i<k)(hk:k<xs.size):xs[i]'(by omega)<xs[k]:=by
 have:=List.pairwise_iff_getElem.mp h i k (by simpa using (by omega:i<xs.size)) (by simpa using hk) hik
 simpa using this
theorem below_go {xs:Array Nat}{j:Nat}(hr:Rise xs.toList):∀ (f lo hi:Nat),lo≤hi→hi≤xs.size→hi-lo≤f→(∀ i (h:i<xs.size),i<lo→xs[i]<j)→(∀ i (h:i<xs.size),hi≤i→j≤xs[i]) →
  below.go xs j f lo hi≤xs.size∧(∀ i (h:i<xs.size),i<below.go xs j f lo hi→xs[i]<j)∧(∀ i (h:i<xs.size),below.go xs j f lo hi≤i→j≤xs[i])
 | 0,lo,hi,h1,h2,h3,h4,h5=>by
  have e:lo=hi:=by omega
  subst e
  exact⟨h2,h4,h5⟩
 | f+1,lo,hi,h1,h2,h3,h4,h5=>by
  unfold below.go
  by_cases hlt:lo<hi
  ·rw[if_pos hlt]
   dsimp only
   have hm:(lo+hi)/2<xs.size:=by omega
   have eg:xs.getD ((lo+hi)/2) j=xs[(lo+hi)/2]:=by simp[Array.getD,hm]
   rw[eg]
   by_cases hc:xs[(lo+hi)/2]<j
   ·rw[if_pos hc]
    refine below_go hr f _ hi (by omega) h2 (by omega) (fun i h hi'=>?_) h5
    by_cases z:i=(lo+hi)/2
    ·subst z;exact hc
    ·exact Nat.lt_trans (rise_get hr (by omega) hm) hc
   ·rw[if_neg hc]
    refine below_go hr f lo _ (by omega) (by omega) (by omega) h4 (fun i h hi'=>?_)
    by_cases z:i=(lo+hi)/2
    ·subst z;omega
    ·have:=rise_get hr (show (lo+hi)/2<i by omega) h
     omega
  ·rw[if_neg hlt]
   have e:lo=hi:=by omega
   subst e
   exact⟨h2,h4,h5⟩
theorem below_is {xs:Array Nat}{j:Nat}(hr:Rise xs.toList):below xs j≤xs.size∧(∀ i (h:i<xs.size),i<below xs j→xs[i]<j)∧(∀ i (h:i<xs.size),below xs j≤i→j≤xs[i]) :=
 below_go hr xs.size 0 xs.size (by omega) (Nat.le_refl _) (by omega) (fun i h z=>by omega) (fun i h z=>by omega)
theorem has_none (j:Nat):has #[] j=false:=rfl
theorem slot_of {t:SetTable}(hd:t.dummies = #[])(hr:Rise t.place.toList)(j:Nat):(∀ i,t.slot j=.live i↔t.place[i]? = some j)∧(t.slot j=.empty↔j∉t.place.toList):=by
 obtain⟨b1,b2,b3⟩:=below_is (j:=j) hr
 unfold slot
 dsimp only
 by_cases hc:t.place[below t.place j]? = some j
 ·rw[if_pos (by rw[hc];simp)]
  obtain⟨hl,he⟩:=Array.getElem?_eq_some_iff.mp hc
  refine⟨fun i=>⟨fun e=>?_,fun e=>?_⟩,⟨fun e=>(by cases e),fun e=>absurd ?_ e⟩⟩
  ·cases e;exact hc
  ·obtain⟨hl2,he2⟩:=Array.getElem?_eq_some_iff.mp e
   have:below t.place j=i:=by
    rcases Nat.lt_trichotomy (below t.place j) i with z | z | z
    ·have:=rise_get hr z hl2;omega
    ·exact z
    ·have:=rise_get hr z hl;omega
   rw[this]
  ·rw[←he];exact List.mem_of_getElem? (i:=below t.place j) (by rw[Array.getElem?_toList,he];exact hc)
 ·have h0:(t.place[below t.place j]? == some j)=false:=by
   cases q:(t.place[below t.place j]? == some j) with
   | false=>rfl
   | true=>exact absurd (eq_of_beq q) hc
  rw[if_neg (by rw[h0];exact Bool.false_ne_true),hd,has_none,if_neg Bool.false_ne_true]
  have nm:j∉t.place.toList:=fun z=>by
   obtain⟨i,hi⟩:=List.getElem?_of_mem z
   rw[Array.getElem?_toList]at hi
   obtain⟨hl2,he2⟩:=Array.getElem?_eq_some_iff.mp hi
   have bi:below t.place j≤i:=by
    by_cases q:i<below t.place j
    ·have:=b2 i hl2 q;omega
    ·omega
   have hbl:below t.place j<t.place.size:=by omega
   have q1:=b3 _ hbl (Nat.le_refl _)
   have q2:t.place[below t.place j]≤j:=by
    by_cases z:below t.place j=i
    ·subst z;omega
    ·have:=rise_get hr (show below t.place j<i by omega) hl2;omega
   exact hc (Array.getElem?_eq_some_iff.mpr ⟨hbl,by omega⟩)
  refine⟨fun i=>⟨fun e=>(by cases e),fun e=>absurd ?_ nm⟩,⟨fun _=>nm,fun _=>rfl⟩⟩
  exact List.mem_of_getElem? (i:=i) (by rw[Array.getElem?_toList];exact e)
def advM (m:Nat)(p:Probe):Probe:=if p.more>0 then { p with j:=p.j+1,more:=p.more-1 } else { p with j:=(leap m p.i p.perturb).1,more:=runEnd m (leap m p.i p.perturb).1-(leap m p.i p.perturb).1,i:=(leap m p.i p.perturb).1,perturb:=(leap m p.i p.perturb).2 }
def itA (m:Nat):Nat→Probe→Probe
 | 0,p=>p
 | n+1,p=>itA m n (advM m p)
theorem itA_add (m:Nat):∀ (a b:Nat)(p:Probe),itA m (a+b) p=itA m b (itA m a p)
 | 0,b,p=>by rw[Nat.zero_add];rfl
 | a+1,b,p=>by rw[show a+1+b=(a+b)+1 by omega];exact itA_add m a b (advM m p)
theorem itA_dummy (m:Nat):∀ (n:Nat)(p:Probe),(itA m n p).dummy=p.dummy
 | 0,_=>rfl
 | n+1,p=>by
  show (itA m n (advM m p)).dummy=_
  rw[itA_dummy m n]
  unfold advM
  split<;>rfl
theorem go_skip {t:SetTable}{hashAt:Nat→Int}{h:Int}:∀ (n f:Nat)(p:Probe),n<f→(∀ k,k<n→∃ i,t.slot (itA t.mask k p).j=.live i∧(hashAt i == h)=false) →
  probe.go t hashAt h f p=probe.go t hashAt h (f-n) (itA t.mask n p)
 | 0,f,p,_,_=>rfl
 | n+1,0,p,hf,_=>by omega
 | n+1,f+1,p,hf,hk=>by
  obtain⟨i,e1,e2⟩:=hk 0 (by omega)
  have e1:t.slot p.j=.live i:=e1
  have ih:=go_skip (t:=t) (hashAt:=hashAt) (h:=h) n f (advM t.mask p) (by omega) (fun k hkn=>hk (k+1) (by omega))
  rw[show f+1-(n+1)=f-n by omega]
  show _=probe.go t hashAt h (f-n) (itA t.mask n (advM t.mask p))
  rw[←ih]
  rw[probe.go.eq_def]
  dsimp only
  rw[e1]
  show (if (hashAt i == h)=true then _ else _)=_
  rw[e2,if_neg Bool.false_ne_true]
  rfl
theorem go_empty {t:SetTable}{hashAt:Nat→Int}{h:Int}{n f:Nat}{p:Probe}(hn:n<f)(hk:∀ k,k<n→∃ i,t.slot (itA t.mask k p).j=.live i∧(hashAt i == h)=false)(he:t.slot (itA t.mask n p).j=.empty) :
  probe.go t hashAt h f p=some (.empty (itA t.mask n p).j p.dummy):=by
 rw[go_skip n f p hn hk]
 obtain⟨g,hg⟩:∃ g,f-n=g+1:=⟨f-n-1,by omega⟩
 rw[hg]
 unfold probe.go
 rw[he,itA_dummy]
theorem go_cand {t:SetTable}{hashAt:Nat→Int}{h:Int}{n f i:Nat}{p:Probe}(hn:n<f)(hk:∀ k,k<n→∃ i,t.slot (itA t.mask k p).j=.live i∧(hashAt i == h)=false)(he:t.slot (itA t.mask n p).j=.live i)(hi:(hashAt i == h)=true) :
  probe.go t hashAt h f p=some (.candidate (itA t.mask n p).j i (itA t.mask (n+1) p)):=by
 rw[go_skip n f p hn hk]
 obtain⟨g,hg⟩:∃ g,f-n=g+1:=⟨f-n-1,by omega⟩
 rw[hg]
 unfold probe.go
 rw[he]
 show (if (hashAt i == h)=true then _ else _)=_
 rw[if_pos hi,itA_add]
 rfl
def stP (m i pb:Nat):Probe:={ j:=i,more:=runEnd m i-i,i:=i,perturb:=pb,dummy:=none }
theorem run_le (m i:Nat):runEnd m i-i≤9:=by unfold runEnd;split<;>omega
theorem run_ge (m i:Nat):i≤runEnd m i:=by unfold runEnd;split<;>omega
theorem run_in {m i pb:Nat}:∀ k,k≤runEnd m i-i→itA m k (stP m i pb)={ j:=i+k,more:=runEnd m i-i-k,i:=i,perturb:=pb,dummy:=none }
 | 0,_=>rfl
 | k+1,h=>by
  rw[itA_add,run_in k (by omega)]
  show advM m _=_
  unfold advM
  rw[if_pos (by show runEnd m i-i-k>0;omega)]
  show ({ j:=i+k+1,more:=runEnd m i-i-k-1,i:=i,perturb:=pb,dummy:=none }:Probe)=_
  congr 1
theorem run_out {m i pb:Nat}:itA m (runEnd m i-i+1) (stP m i pb)=stP m (leap m i pb).1 (leap m i pb).2:=by
 rw[itA_add,run_in _ (Nat.le_refl _)]
 show advM m _=_
 unfold advM
 rw[if_neg (by show ¬ (runEnd m i-i-(runEnd m i-i)>0);omega)]
 rfl
def lpN (m:Nat):Nat→Nat→Nat→Nat×Nat
 | 0,i,pb=>(i,pb)
 | b+1,i,pb=>lpN m b (leap m i pb).1 (leap m i pb).2
theorem lp_at {m:Nat}:∀ (b i pb:Nat),∃ n,n≤10*b∧itA m n (stP m i pb)=stP m (lpN m b i pb).1 (lpN m b i pb).2
 | 0,i,pb=>⟨0,Nat.le_refl _,rfl⟩
 | b+1,i,pb=>by
  obtain⟨n,h1,h2⟩:=lp_at (m:=m) b (leap m i pb).1 (leap m i pb).2
  have:=run_le m i
  refine⟨(runEnd m i-i+1)+n,by omega,?_⟩
  rw[itA_add,run_out,h2]
  rfl
def fN (m:Nat):Nat→Nat→Nat
 | 0,i=>i
 | c+1,i=>fN m c ((i*5+1)%(m+1))
theorem fN_add (m:Nat):∀ (a b i:Nat),fN m (a+b) i=fN m b (fN m a i)
 | 0,b,i=>by rw[Nat.zero_add];rfl
 | a+1,b,i=>by rw[show a+1+b=(a+b)+1 by omega];exact fN_add m a b _
theorem lp_zero {m:Nat}:∀ (c i:Nat),lpN m c i 0=(fN m c i,0)
 | 0,i=>rfl
 | c+1,i=>by
  show lpN m c (leap m i 0).1 (leap m i 0).2=_
  exact lp_zero c _
theorem lp_add {m:Nat}:∀ (a b i pb:Nat),lpN m (a+b) i pb=lpN m b (lpN m a i pb).1 (lpN m a i pb).2
 | 0,b,i,pb=>by rw[Nat.zero_add];rfl
 | a+1,b,i,pb=>by rw[show a+1+b=(a+b)+1 by omega];exact lp_add a b _ _
theorem lp_pb {m:Nat}:∀ (b i pb:Nat),(lpN m b i pb).2=pb/32 ^ b
 | 0,i,pb=>by simp[lpN]
 | b+1,i,pb=>by
  show (lpN m b (leap m i pb).1 (leap m i pb).2).2=_
  rw[lp_pb b]
  show pb/32/32 ^ b=_
  rw[Nat.div_div_eq_div_mul,Nat.pow_succ,Nat.mul_comm]
theorem lp_lt {m:Nat}:∀ (b i pb:Nat),i<m+1→(lpN m b i pb).1<m+1
 | 0,i,pb,h=>h
 | b+1,i,pb,_=>lp_lt b _ _ (Nat.mod_lt _ (by omega))
def TabM (m:Nat):Prop:=m=7∨m=31∨m=127
def orbOk (m:Nat):Bool:=((List.range (m+1)).all fun j=>((List.range (m+1)).map fun c=>fN m c 0).contains j)&&fN m (m+1) 0 == 0
theorem orb7:orbOk 7=true:=by decide +kernel
theorem orb31:orbOk 31=true:=by decide +kernel
theorem orb127:orbOk 127=true:=by decide +kernel
theorem f_cover {m:Nat}(hm:TabM m){i j:Nat}(hi:i<m+1)(hj:j<m+1):∃ c,c<m+1∧fN m c i=j:=by
 have ok:orbOk m=true:=by rcases hm with e | e | e<;>rw[e];exact orb7;exact orb31;exact orb127
 unfold orbOk at ok
 rw[Bool.and_eq_true]at ok
 have hz:fN m (m+1) 0=0:=by simpa using ok.2
 have ex:∀ k,k<m+1→∃ c,c<m+1∧fN m c 0=k:=fun k hk=>by
  have:=List.all_eq_true.mp ok.1 k (List.mem_range.mpr hk)
  rw[List.contains_iff_mem]at this
  obtain⟨c,hc,e⟩:=List.mem_map.mp this
  exact⟨c,List.mem_range.mp hc,e⟩
 obtain⟨a,ha,ea⟩:=ex i hi
 obtain⟨b,hb,eb⟩:=ex j hj
 by_cases hab:a≤b
 ·exact⟨b-a,by omega,by rw[←ea,←fN_add,show a+(b-a)=b by omega,eb]⟩
 ·refine⟨m+1-a+b,by omega,?_⟩
  rw[←ea,←fN_add,show a+(m+1-a+b)=(m+1)+b by omega,fN_add,hz,eb]
theorem lp_cover {m:Nat}(hm:TabM m){i pb j:Nat}(hi:i<m+1)(hp:pb<2 ^ 64)(hj:j<m+1):∃ b,b<turns m∧(lpN m b i pb).1=j:=by
 obtain⟨c,hc,e⟩:=f_cover hm (lp_lt 13 i pb hi) hj
 have z:(lpN m 13 i pb).2=0:=by rw[lp_pb];exact Nat.div_eq_of_lt (Nat.lt_of_lt_of_le hp (by decide))
 refine⟨13+c,by unfold turns;omega,?_⟩
 rw[lp_add,z,lp_zero]
 exact e
theorem bits_lt (h:Int):bits h<2 ^ 64:=by
 unfold bits
 have h1:=Int.emod_nonneg h (show (2 ^ 64:Int)≠0 by decide)
 have h2:=Int.emod_lt_of_pos h (show (0:Int)<2 ^ 64 by decide)
 omega
def stH (m:Nat)(h:Int):Probe:=stP m (bits h%(m+1)) (bits h)
theorem probeStart_eq (t:SetTable)(h:Int):t.probeStart h=stH t.mask h:=rfl
theorem it_cover {m:Nat}(hm:TabM m)(h:Int){j:Nat}(hj:j<m+1):∃ n,n<10*turns m∧(itA m n (stH m h)).j=j:=by
 obtain⟨b,hb,e⟩:=lp_cover hm (Nat.mod_lt (bits h) (show 0<m+1 by omega)) (bits_lt h) hj
 obtain⟨n,h1,h2⟩:=lp_at (m:=m) b (bits h%(m+1)) (bits h)
 refine⟨n,by omega,?_⟩
 unfold stH
 rw[h2]
 exact e
theorem least_nat {p:Nat→Prop}(h:∃ n,p n):∃ n,p n∧∀ k,k<n→¬ p k:=by
 obtain⟨n,hn⟩:=h
 have go:∀ n,p n→∃ n,p n∧∀ k,k<n→¬ p k:=by
  intro n
  induction n using Nat.strongRecOn with
  | ind n ih =>
   intro hn
   by_cases z:∃ k,k<n∧p k
   ·obtain⟨k,h1,h2⟩:=z;exact ih k h1 h2
   ·exact⟨n,hn,fun k hk q=>z ⟨k,hk,q⟩⟩
 exact go n hn
end Wz
namespace Wz
open PySem PySem.SetTable
def Occ (ow:Array (Option Nat))(j:Nat):Prop:=ow.getD j (some 0)≠none
theorem tfree_of {m:Nat}{ow:Array (Option Nat)}:∀ (f i pb:Nat),(∃ b,b<f∧¬ Occ ow (lpN m b i pb).1)→∃ n j,layClean.free m ow f i pb=some j∧n<10*f∧j=(itA m n (stP m i pb)).j∧¬ Occ ow j∧∀ k,k<n→Occ ow (itA m k (stP m i pb)).j
 | 0,i,pb,⟨b,hb,_⟩=>by omega
 | f+1,i,pb,⟨b,hb,ho⟩=>by
  unfold layClean.free
  have rl:=run_le m i
  have rg:=run_ge m i
  cases hfd:(List.range (runEnd m i+1-i)).find? fun k=>(ow.getD (i+k) (some 0)).isNone with
  | some k =>
   obtain⟨h1,h2,h3⟩:=List.find?_range_eq_some.mp hfd
   have hk:k≤runEnd m i-i:=by have:=List.mem_range.mp h2;omega
   refine⟨k,i+k,rfl,by omega,by rw[run_in k hk],fun z=>z (by simpa using h1),fun q hq z=>?_⟩
   rw[run_in q (by omega)]at z
   have:=h3 q hq
   rw[show ow.getD (i+q) (some 0)=none from z]at this
   cases this
  | none =>
   have hn:=List.find?_range_eq_none.mp hfd
   have occ:∀ k,k≤runEnd m i-i→Occ ow (i+k):=fun k hk z=>by
    have:=hn k (by omega)
    rw[show ow.getD (i+k) (some 0)=none from z]at this
    cases this
   cases b with
   | zero=>exact absurd (occ 0 (by omega)) ho
   | succ b =>
    obtain⟨n,j,e1,e2,e3,e4,e5⟩:=tfree_of f (leap m i pb).1 (leap m i pb).2 ⟨b,by omega,ho⟩
    refine⟨(runEnd m i-i+1)+n,j,e1,by omega,by rw[itA_add,run_out];exact e3,e4,fun k hk=>?_⟩
    by_cases z:k≤runEnd m i-i
    ·rw[run_in k z];exact occ k z
    ·obtain⟨q,rfl⟩:∃ q,k=(runEnd m i-i+1)+q:=⟨k-(runEnd m i-i+1),by omega⟩
     rw[itA_add,run_out]
     exact e5 q (by omega)
structure Ow (m:Nat)(hs:List Int)(ow:Array (Option Nat)):Prop where
 sz:ow.size=m+1
 lt:∀ j a:Nat,ow[j]? = some (some a)→a<hs.length
 inj:∀ j j' a:Nat,ow[j]? = some (some a)→ow[j']? = some (some a)→j=j'
 ex:∀ (a:Nat)(h:Int),hs[a]? = some h→∃ n,n<10*turns m∧ow[(itA m n (stH m h)).j]? = some (some a)∧∀ k,k<n→Occ ow (itA m k (stH m h)).j
theorem nodup_lenN:∀ {l m:List Nat},l.Nodup→(∀ x∈l,x∈m)→l.length≤m.length
 | [],_,_,_=>Nat.zero_le _
 | a::r,m,h,hs=>by
  obtain⟨h1,h2⟩:=List.nodup_cons.mp h
  have ha:a∈m:=hs a List.mem_cons_self
  have hl:(m.erase a).length=m.length-1:=List.length_erase_of_mem ha
  have hpos:0<m.length:=List.length_pos_of_mem ha
  have ih:=nodup_lenN (l:=r) (m:=m.erase a) h2 fun x hx=>(List.mem_erase_of_ne (show x≠a from fun e=>h1 (by rw[←e];exact hx))).mpr (hs x (List.mem_cons_of_mem _ hx))
  rw[List.length_cons]
  omega
theorem occ_iff {ow:Array (Option Nat)}{j:Nat}(h:j<ow.size):Occ ow j↔∃ a,ow[j]? = some (some a):=by
 unfold Occ
 have e:ow.getD j (some 0)=ow[j]:=by simp[Array.getD,h]
 rw[e,Array.getElem?_eq_getElem h]
 cases ow[j] with
 | none=>simp
 | some a=>simp
theorem Ow.hole {m:Nat}{hs:List Int}{ow:Array (Option Nat)}(O:Ow m hs ow)(hl:hs.length≤m):∃ j,j<m+1∧¬ Occ ow j:=by
 by_cases z:∃ j,j<m+1∧¬ Occ ow j
 ·exact z
 ·have all:∀ j,j<m+1→∃ a,ow[j]? = some (some a):=fun j hj=>(occ_iff (by rw[O.sz];exact hj)).mp (Classical.byContradiction fun q=>z ⟨j,hj,q⟩)
  let g:Nat→Nat:=fun j=>((ow[j]?).getD none).getD 0
  have hg:∀ j,j<m+1→ow[j]? = some (some (g j)):=fun j hj=>by
   obtain⟨a,e⟩:=all j hj
   show ow[j]? = some (some (((ow[j]?).getD none).getD 0))
   rw[e];rfl
  have nd:((List.range (m+1)).map g).Nodup:=by
   unfold List.Nodup
   rw[List.pairwise_map]
   refine List.Pairwise.imp_of_mem (R:=(· < ·)) ?_ List.pairwise_lt_range
   intro a b ha hb hab e
   have h1:=hg a (List.mem_range.mp ha)
   have h2:=hg b (List.mem_range.mp hb)
   rw[←e]at h2
   have:=O.inj _ _ _ h1 h2
   omega
  have:=nodup_lenN (m:=List.range hs.length) nd fun x hx=>by
   obtain⟨j,hj,rfl⟩:=List.mem_map.mp hx
   exact List.mem_range.mpr (O.lt j _ (hg j (List.mem_range.mp hj)))
  rw[List.length_map,List.length_range,List.length_range]at this
  omega
theorem Ow.add {m:Nat}(hm:TabM m){hs:List Int}{ow:Array (Option Nat)}(O:Ow m hs ow)(hl:hs.length≤m)(h:Int):∃ j,layClean.free m ow (turns m) (bits h%(m+1)) (bits h)=some j∧Ow m (hs++[h]) (ow.setIfInBounds j (some hs.length)):=by
 obtain⟨j0,hj0,ho0⟩:=O.hole hl
 obtain⟨b,hb,eb⟩:=lp_cover hm (Nat.mod_lt (bits h) (show 0<m+1 by omega)) (bits_lt h) hj0
 obtain⟨n,j,e1,e2,e3,e4,e5⟩:=tfree_of (ow:=ow) (turns m) (bits h%(m+1)) (bits h) ⟨b,hb,by rw[eb];exact ho0⟩
 have hj:j<ow.size:=by
  by_cases z:j<ow.size
  ·exact z
  ·exact absurd (show ow.getD j (some 0)≠none by simp[Array.getD,z]) e4
 have nj:∀ a:Nat,ow[j]?≠some (some a):=fun a z=>e4 ((occ_iff hj).mpr ⟨a,z⟩)
 have gs:∀ i:Nat,(ow.setIfInBounds j (some hs.length))[i]? = if j=i then some (some hs.length) else ow[i]?:=fun i=>by
  rw[Array.getElem?_setIfInBounds]
  split
  ·rfl
  ·rfl
 have oc:∀ i:Nat,Occ ow i→Occ (ow.setIfInBounds j (some hs.length)) i:=fun i hi=>by
  by_cases z:i<ow.size
  ·obtain⟨a,ha⟩:=(occ_iff z).mp hi
   refine (occ_iff (by simpa using z)).mpr ?_
   rw[gs]
   split
   ·exact⟨_,rfl⟩
   ·exact⟨a,ha⟩
  ·unfold Occ;simp[Array.getD,z]
 refine⟨j,e1,⟨by simpa using O.sz,fun i a hi=>?_,fun i i' a hi hi'=>?_,fun a h' ha=>?_⟩⟩
 ·rw[gs]at hi
  rw[List.length_append,List.length_singleton]
  split at hi
  ·cases hi;omega
  ·have:=O.lt i a hi;omega
 ·rw[gs]at hi hi'
  split at hi<;>split at hi'
  ·omega
  ·cases hi;have:=O.lt i' _ hi';omega
  ·cases hi';have:=O.lt i _ hi;omega
  ·exact O.inj _ _ _ hi hi'
 ·by_cases z:a<hs.length
  ·rw[List.getElem?_append_left z]at ha
   obtain⟨q,q1,q2,q3⟩:=O.ex a h' ha
   refine⟨q,q1,?_,fun k hk=>oc _ (q3 k hk)⟩
   rw[gs,if_neg (fun z=>nj a (by rw[z];exact q2))]
   exact q2
  ·have za:a=hs.length:=by have:=(List.getElem?_eq_some_iff.mp ha).1;rw[List.length_append,List.length_singleton]at this;omega
   rw[List.getElem?_append_right (by omega),za,Nat.sub_self]at ha
   cases ha
   refine⟨n,e2,?_,fun k hk=>oc _ (e5 k hk)⟩
   rw[gs,za]
   unfold stH
   rw[if_pos e3]
theorem Ow.nil (m:Nat):Ow m [] (Array.replicate (m+1) none):=by
 have g:∀ j a:Nat,(Array.replicate (m+1) (none:Option Nat))[j]?≠some (some a):=fun j a z=>by
  rw[Array.getElem?_replicate]at z
  split at z<;>cases z
 exact⟨by simp,fun j a h=>absurd h (g j a),fun j _ a h=>absurd h (g j a),fun a h z=>by simp at z⟩
theorem clean_ow {m:Nat}(hm:TabM m)(hs:Array Int)(hl:hs.size≤m):∃ ow,layClean m hs=some ow∧Ow m hs.toList ow:=by
 unfold layClean
 rw[←Array.foldl_toList]
 have go:∀ (l pre:List Int)(ow:Array (Option Nat)),pre.length+l.length≤m→Ow m pre ow →
   ∃ ow',l.foldl (fun acc h=>do
    let (owner,k) ←acc
    let j ←layClean.free m owner (turns m) (bits h%(m+1)) (bits h)
    pure (owner.setIfInBounds j (some k),k+1)) (some (ow,pre.length))=some (ow',pre.length+l.length)∧Ow m (pre++l) ow':=by
  intro l
  induction l with
  | nil=>intro pre ow _ O;exact⟨ow,rfl,by rw[List.append_nil];exact O⟩
  | cons h l ih =>
   intro pre ow hl O
   rw[List.length_cons]at hl
   obtain⟨j,ej,O2⟩:=O.add hm (by omega) h
   obtain⟨ow',e,O3⟩:=ih (pre++[h]) _ (by rw[List.length_append,List.length_singleton];omega) O2
   refine⟨ow',?_,by rw[List.append_assoc]at O3;exact O3⟩
   rw[List.length_append,List.length_singleton]at e
   rw[List.foldl_cons,List.length_cons,show pre.length+(l.length+1)=pre.length+1+l.length by omega,←e]
   congr 1
   show (layClean.free m ow (turns m) (bits h%(m+1)) (bits h)).bind _=_
   rw[ej]
   rfl
 obtain⟨ow,e,O⟩:=go hs.toList [] _ (by simpa using hl) (Ow.nil m)
 refine⟨ow,?_,O⟩
 have e':hs.toList.foldl (fun acc h=>do
    let (owner,k) ←acc
    let j ←layClean.free m owner (turns m) (bits h%(m+1)) (bits h)
    pure (owner.setIfInBounds j (some k),k+1)) (some (Array.replicate (m+1) none,0))=some (ow,[].length+hs.toList.length):=e
 rw[e']
 rfl
theorem opt_fst (o:Option Nat)(j:Nat):(o.map fun x=>(j,x)).map (fun x:Nat×Nat=>x.1)=if o.isSome=true then some j else none:=by cases o<;>rfl
theorem laid_of {m fg mv:Nat}{ld pl:Bool}(hm:TabM m)(hs:Array Int)(hl:hs.size≤m):∃ (lv:List (Nat×Nat)),laid m fg mv ld pl hs=some ({ mask:=m,place:=(lv.map (·.1)).toArray,dummies:=#[],finger:=fg,led:=ld,moves:=mv,plain:=pl },(lv.map (·.2)).toArray) ∧
  Rise (lv.map (·.1))∧(∀ j∈lv.map (·.1),j≤m)∧(lv.map (·.2)).Perm (List.range hs.size) ∧
  ∀ p∈lv,∀ h,hs[p.2]? = some h→∃ n,n<10*turns m∧(itA m n (stH m h)).j=p.1∧∀ k,k<n→(itA m k (stH m h)).j∈lv.map (·.1):=by
 obtain⟨ow,e,O⟩:=clean_ow hm hs hl
 let lv:List (Nat×Nat):=(List.range (m+1)).filterMap fun j=>(ow.getD j none).map (j,·)
 have gd:∀ j,j<m+1→∀ a,ow.getD j none=some a↔ow[j]? = some (some a):=fun j hj a=>by
  have hz:j<ow.size:=by rw[O.sz];exact hj
  have e:ow.getD j none=ow[j]:=by simp[Array.getD,hz]
  rw[e,Array.getElem?_eq_getElem hz]
  simp
 have mem:∀ p,p∈lv↔p.1<m+1∧ow[p.1]? = some (some p.2):=fun p=>by
  show p∈(List.range (m+1)).filterMap _↔_
  rw[List.mem_filterMap]
  constructor
  ·rintro⟨j,hj,hp⟩
   rw[Option.map_eq_some_iff]at hp
   obtain⟨a,ha,rfl⟩:=hp
   exact⟨List.mem_range.mp hj,(gd j (List.mem_range.mp hj) a).mp ha⟩
  ·rintro⟨hj,hp⟩
   exact⟨p.1,List.mem_range.mpr hj,by rw[(gd p.1 hj p.2).mpr hp];rfl⟩
 have fst:lv.map (·.1)=(List.range (m+1)).filter fun j=>(ow.getD j none).isSome:=by
  show ((List.range (m+1)).filterMap _).map _=_
  rw[List.map_filterMap,←List.filterMap_eq_filter]
  congr 1
  funext j
  unfold Option.guard
  dsimp only
  exact (opt_fst _ _).trans (by congr)
 have ri:Rise (lv.map (·.1)):=by rw[fst];exact List.pairwise_lt_range.sublist List.filter_sublist
 refine⟨lv,?_,ri,fun j hj=>?_,?_,fun p hp h hh=>?_⟩
 ·unfold laid
  rw[e]
  rfl
 ·rw[fst]at hj
  have:=List.mem_range.mp (List.mem_filter.mp hj).1
  omega
 ·have nd1:lv.Nodup:=by
   have:(lv.map (·.1)).Nodup:=ri.imp (fun h=>Nat.ne_of_lt h)
   unfold List.Nodup at this
   rw[List.pairwise_map]at this
   exact this.imp fun h z=>h (by rw[z])
  have nd:(lv.map (·.2)).Nodup:=by
   unfold List.Nodup
   rw[List.pairwise_map]
   refine List.Pairwise.imp_of_mem ?_ nd1
   intro a b ha hb hab z
   obtain⟨_,q1⟩:=(mem a).mp ha
   obtain⟨_,q2⟩:=(mem b).mp hb
   rw[←z]at q2
   exact hab (Prod.ext (O.inj _ _ _ q1 q2) z)
  refine (List.perm_ext_iff_of_nodup nd List.nodup_range).mpr fun a=>⟨fun h=>?_,fun h=>?_⟩
  ·obtain⟨p,hp,rfl⟩:=List.mem_map.mp h
   have:=O.lt _ _ ((mem p).mp hp).2
   exact List.mem_range.mpr (by simpa using this)
  ·have ha:=List.mem_range.mp h
   obtain⟨n,n1,n2,_⟩:=O.ex a hs[a] (by rw[Array.getElem?_toList];exact Array.getElem?_eq_getElem ha)
   refine List.mem_map.mpr ⟨(_,a),(mem _).mpr ⟨?_,n2⟩,rfl⟩
   have:=(Array.getElem?_eq_some_iff.mp n2).1
   rw[O.sz]at this
   exact this
 ·obtain⟨p1,p2⟩:=(mem p).mp hp
  obtain⟨n,n1,n2,n3⟩:=O.ex p.2 h (by rw[Array.getElem?_toList];exact hh)
  have ej:=O.inj _ _ _ n2 p2
  refine⟨n,n1,ej,fun k hk=>?_⟩
  have oc:=n3 k hk
  have hz:(itA m k (stH m h)).j<ow.size:=by
   rw[O.sz]
   have:∀ k i pb,i<m+1→(itA m k (stP m i pb)).j<m+1:=by
    intro k
    induction k using Nat.strongRecOn with
    | ind k ih =>
     intro i pb hi
     by_cases z:k≤runEnd m i-i
     ·rw[run_in k z]
      show i+k<m+1
      unfold runEnd at z
      split at z<;>omega
     ·obtain⟨q,rfl⟩:∃ q,k=(runEnd m i-i+1)+q:=⟨k-(runEnd m i-i+1),by omega⟩
      rw[itA_add,run_out]
      exact ih q (by omega) _ _ (Nat.mod_lt _ (by omega))
   exact this k _ _ (Nat.mod_lt _ (by omega))
  obtain⟨a,ha⟩:=(occ_iff hz).mp oc
  exact List.mem_map.mpr ⟨(_,a),(mem _).mpr ⟨by rw[O.sz]at hz;exact hz,ha⟩,rfl⟩
end Wz
namespace Wz
open PySem PySem.SetTable
structure TabW (t:SetTable)(es:Array (Int×Value)):Prop where
 dm:t.dummies = #[]
 sz:t.place.size=es.size
 ri:Rise t.place.toList
 le:∀ j∈t.place.toList,j≤t.mask
 tm:TabM t.mask
 lm:es.size≤t.mask
 fd:∀ p∈t.place.toList.zip es.toList,∃ n,n<10*turns t.mask∧(itA t.mask n (stH t.mask p.2.1)).j=p.1∧∀ k,k<n→(itA t.mask k (stH t.mask p.2.1)).j∈t.place.toList
def TabN (m n:Nat):Prop:=(m=7∧n≤4)∨(m=31∧n≤18)∨(m=127∧n≤76)
theorem TabW.fill {t:SetTable}{es:Array (Int×Value)}(T:TabW t es):t.fill=es.size:=by unfold SetTable.fill;rw[T.dm,T.sz];rfl
theorem TabW.fits {t:SetTable}{es:Array (Int×Value)}(T:TabW t es):t.fits es.size=true:=by
 unfold SetTable.fits
 rw[T.fill,T.sz]
 simp[T.lm]
theorem TabW.hole {t:SetTable}{es:Array (Int×Value)}(T:TabW t es)(h:Int):∃ N,N<10*turns t.mask∧t.slot (itA t.mask N (stH t.mask h)).j=.empty∧(itA t.mask N (stH t.mask h)).j∉t.place.toList∧(itA t.mask N (stH t.mask h)).j≤t.mask∧∀ k,k<N→∃ i,t.slot (itA t.mask k (stH t.mask h)).j=.live i:=by
 have ex:∃ j,j<t.mask+1∧j∉t.place.toList:=by
  by_cases z:∃ j,j<t.mask+1∧j∉t.place.toList
  ·exact z
  ·have:=nodup_lenN (l:=List.range (t.mask+1)) (m:=t.place.toList) List.nodup_range fun x hx=>Classical.byContradiction fun q=>z ⟨x,List.mem_range.mp hx,q⟩
   rw[List.length_range,Array.length_toList,T.sz]at this
   have:=T.lm
   omega
 obtain⟨j,hj,nj⟩:=ex
 obtain⟨n,hn,en⟩:=it_cover T.tm h hj
 obtain⟨N,hN,lN⟩:=least_nat (p:=fun n=>(itA t.mask n (stH t.mask h)).j∉t.place.toList) ⟨n,by rw[en];exact nj⟩
 have hNn:N≤n:=by
  by_cases z:N≤n
  ·exact z
  ·exact absurd (show (itA t.mask n (stH t.mask h)).j∉t.place.toList by rw[en];exact nj) (lN n (by omega))
 have jl:∀ k i pb,i<t.mask+1→(itA t.mask k (stP t.mask i pb)).j<t.mask+1:=by
  intro k
  induction k using Nat.strongRecOn with
  | ind k ih =>
   intro i pb hi
   by_cases z:k≤runEnd t.mask i-i
   ·rw[run_in k z]
    show i+k<t.mask+1
    unfold runEnd at z
    split at z<;>omega
   ·obtain⟨q,rfl⟩:∃ q,k=(runEnd t.mask i-i+1)+q:=⟨k-(runEnd t.mask i-i+1),by omega⟩
    rw[itA_add,run_out]
    exact ih q (by omega) _ _ (Nat.mod_lt _ (by omega))
 refine⟨N,by omega,((slot_of T.dm T.ri _).2).mpr hN,hN,Nat.lt_succ_iff.mp (jl N _ _ (Nat.mod_lt _ (by omega))),fun k hk=>?_⟩
 have hk2:(itA t.mask k (stH t.mask h)).j∈t.place.toList:=Classical.byContradiction (lN k hk)
 obtain⟨i,hi⟩:=List.getElem?_of_mem hk2
 exact⟨i,((slot_of T.dm T.ri _).1 i).mpr (by rw[←Array.getElem?_toList];exact hi)⟩
theorem zip_ins {α β:Type}(l:List α)(m:List β)(p:Nat)(x:α)(y:β)(h:l.length=m.length):(l.take p++x::l.drop p).zip (m.take p++y::m.drop p)=(l.zip m).take p++(x,y)::(l.zip m).drop p:=by
 rw[List.zip_append (by rw[List.length_take,List.length_take,h]),List.zip_cons_cons]
 show List.zipWith Prod.mk _ _++_::List.zipWith Prod.mk _ _=(List.zipWith Prod.mk l m).take p++(x,y)::(List.zipWith Prod.mk l m).drop p
 rw[List.take_zipWith,List.drop_zipWith]
theorem fm_map {α β:Type}{f:α→Option β}{g:α→β}:∀ {l:List α},(∀ p∈l,f p=some (g p))→l.filterMap f=l.map g
 | [],_=>rfl
 | a::l,h=>by
  rw[List.filterMap_cons_some (h a List.mem_cons_self),fm_map fun p hp=>h p (List.mem_cons_of_mem _ hp)]
  rfl
theorem TabW.put {t:SetTable}{es:Array (Int×Value)}(T:TabW t es)(h:Int)(x:Value)(hl:es.size+1≤t.mask){N:Nat}(hN:N<10*turns t.mask)(nj:(itA t.mask N (stH t.mask h)).j∉t.place.toList)(jm:(itA t.mask N (stH t.mask h)).j≤t.mask)(hk:∀ k,k<N→(itA t.mask k (stH t.mask h)).j∈t.place.toList) :
  TabW (t.put (itA t.mask N (stH t.mask h)).j).1 (insertAt es (t.put (itA t.mask N (stH t.mask h)).j).2 (h,x))∧(t.put (itA t.mask N (stH t.mask h)).j).1.mask=t.mask∧(t.put (itA t.mask N (stH t.mask h)).j).1.plain=t.plain∧(t.put (itA t.mask N (stH t.mask h)).j).1.led=t.led∧(insertAt es (t.put (itA t.mask N (stH t.mask h)).j).2 (h,x)).size=es.size+1:=by
 obtain⟨j,ej⟩:∃ j,j=(itA t.mask N (stH t.mask h)).j:=⟨_,rfl⟩
 rw[←ej]at nj jm ⊢
 obtain⟨b1,b2,b3⟩:=below_is (j:=j) T.ri
 have ep:(t.put j).1.place.toList=t.place.toList.take (below t.place j)++j::t.place.toList.drop (below t.place j):=toList_insertAt _ _ _
 have ee:(insertAt es (t.put j).2 (h,x)).toList=es.toList.take (below t.place j)++(h,x)::es.toList.drop (below t.place j):=toList_insertAt _ _ _
 have sz1:(insertAt es (t.put j).2 (h,x)).size=es.size+1:=by
  rw[←Array.length_toList,ee,List.length_append,List.length_take,List.length_cons,List.length_drop,Array.length_toList]
  have:=T.sz
  omega
 have memp:∀ q,q∈(t.put j).1.place.toList↔q=j∨q∈t.place.toList:=fun q=>by
  rw[ep,List.mem_append,List.mem_cons]
  have e:=List.take_append_drop (below t.place j) t.place.toList
  constructor
  ·rintro (z | z | z)
   ·exact .inr (List.mem_of_mem_take z)
   ·exact .inl z
   ·exact .inr (List.mem_of_mem_drop z)
  ·rintro (z | z)
   ·exact .inr (.inl z)
   ·rw[←e]at z
    rcases List.mem_append.mp z with z | z
    ·exact .inl z
    ·exact .inr (.inr z)
 refine⟨⟨?_,?_,?_,fun q hq=>?_,T.tm,by rw[sz1];exact hl,fun p hp=>?_⟩,rfl,rfl,rfl,sz1⟩
 ·show (if has t.dummies j then _ else t.dummies)=_
  rw[T.dm,has_none,if_neg Bool.false_ne_true]
 ·rw[←Array.length_toList,ep,sz1,List.length_append,List.length_take,List.length_cons,List.length_drop,Array.length_toList,T.sz]
  rw[T.sz]at b1
  omega
 ·unfold Rise
  rw[ep,List.pairwise_append]
  have lt1:∀ a∈t.place.toList.take (below t.place j),a<j:=fun a ha=>by
   obtain⟨i,hi⟩:=List.getElem?_of_mem ha
   rw[List.getElem?_take]at hi
   split at hi
   ·rename_i hib
    rw[Array.getElem?_toList]at hi
    obtain⟨q1,q2⟩:=Array.getElem?_eq_some_iff.mp hi
    rw[←q2];exact b2 i q1 hib
   ·cases hi
  have lt2:∀ a∈t.place.toList.drop (below t.place j),j<a:=fun a ha=>by
   obtain⟨i,hi⟩:=List.getElem?_of_mem ha
   rw[List.getElem?_drop,Array.getElem?_toList]at hi
   obtain⟨q1,q2⟩:=Array.getElem?_eq_some_iff.mp hi
   have:=b3 _ q1 (by omega)
   rw[q2]at this
   rcases Nat.lt_or_eq_of_le this with z | z
   ·exact z
   ·exact absurd (by rw[z];exact List.mem_of_mem_drop ha) nj
  refine⟨T.ri.sublist (List.take_sublist _ _),List.pairwise_cons.mpr ⟨lt2,T.ri.sublist (List.drop_sublist _ _)⟩,fun a ha b hb=>?_⟩
  rcases List.mem_cons.mp hb with z | z
  ·rw[z];exact lt1 a ha
  ·exact Nat.lt_trans (lt1 a ha) (lt2 b z)
 ·rcases (memp q).mp hq with z | z
  ·rw[z];exact jm
  ·exact T.le q z
 ·rw[ep,ee,zip_ins _ _ _ _ _ (by rw[Array.length_toList,Array.length_toList,T.sz])]at hp
  have old:∀ p∈t.place.toList.zip es.toList,∃ n,n<10*turns t.mask∧(itA t.mask n (stH t.mask p.2.1)).j=p.1∧∀ k,k<n→(itA t.mask k (stH t.mask p.2.1)).j∈(t.put j).1.place.toList:=fun p hp=>by
   obtain⟨n,n1,n2,n3⟩:=T.fd p hp
   exact⟨n,n1,n2,fun k hk=>(memp _).mpr (.inr (n3 k hk))⟩
  rcases List.mem_append.mp hp with z | z
  ·exact old p (List.mem_of_mem_take z)
  ·rcases List.mem_cons.mp z with z | z
   ·rw[z]
    exact⟨N,hN,ej.symm,fun k hk'=>(memp _).mpr (.inr (hk k hk'))⟩
   ·exact old p (List.mem_of_mem_drop z)
theorem above20:sizeAbove 20=32:=by decide
theorem above76:sizeAbove 76=128:=by decide
theorem TabW.full {t:SetTable}{es:Array (Int×Value)}(T:TabW t es){n:Nat}(hn:TabN t.mask n)(he:es.size=n+1)(h70:n+1≤70):(t.tooFull=false∧TabN t.mask es.size)∨(t.tooFull=true∧∃ m,TabM m∧sizeAbove (grown es.size)=m+1∧TabN m es.size):=by
 have ef:t.tooFull=decide ((n+1)*5≥t.mask*3):=by unfold SetTable.tooFull;rw[T.fill,he]
 rw[ef,he]
 unfold TabN at *
 rcases hn with ⟨h1,h2⟩ | ⟨h1,h2⟩ | ⟨h1,h2⟩
 ·by_cases z:n+1≤4
  ·exact .inl ⟨decide_eq_false (by rw[h1];omega),.inl ⟨h1,z⟩⟩
  ·have e:n+1=5:=by omega
   rw[e]
   exact .inr ⟨decide_eq_true (by rw[h1];omega),31,.inr (.inl rfl),above20,.inr (.inl ⟨rfl,by omega⟩)⟩
 ·by_cases z:n+1≤18
  ·exact .inl ⟨decide_eq_false (by rw[h1];omega),.inr (.inl ⟨h1,z⟩)⟩
  ·have e:n+1=19:=by omega
   rw[e]
   exact .inr ⟨decide_eq_true (by rw[h1];omega),127,.inr (.inr rfl),above76,.inr (.inr ⟨rfl,by omega⟩)⟩
 ·exact .inl ⟨decide_eq_false (by rw[h1];omega),.inr (.inr ⟨h1,by omega⟩)⟩
theorem TabN.lm {m n:Nat}(h:TabN m n):n+1≤m:=by unfold TabN at h;omega
theorem TabW.relay {t:SetTable}{es:Array (Int×Value)}(T:TabW t es){m wn:Nat}(hm:TabM m)(hw:sizeAbove wn=m+1)(hN:TabN m es.size):∃ t' order,t.relaid (es.map (·.1)) wn=some (t',order)∧order.toList.Perm (List.range es.size)∧(order.filterMap (es[·]?)).toList.Perm es.toList ∧
  (order.filterMap (es[·]?)).size=es.size∧TabW t' (order.filterMap (es[·]?))∧t'.mask=m∧t'.plain=t.plain∧t'.led=t.led:=by
 have hl:(es.map (·.1)).size≤m:=by rw[Array.size_map];have:=hN.lm;omega
 obtain⟨lv,e,ri,le,pm,fd⟩:=laid_of (fg:=t.finger) (mv:=t.movedTo m) (ld:=t.led) (pl:=t.plain) hm (es.map (·.1)) hl
 rw[Array.size_map]at pm
 have hlt:∀ p∈lv,p.2<es.size:=fun p hp=>List.mem_range.mp (pm.mem_iff.mp (List.mem_map_of_mem hp))
 have efm:((lv.map (·.2)).toArray.filterMap (es[·]?)).toList=lv.map fun p=>es.getD p.2 (0,.none):=by
  rw[Array.toList_filterMap,List.filterMap_map]
  refine fm_map fun p hp=>?_
  have h:=hlt p hp
  show es[p.2]? = some (es.getD p.2 (0,.none))
  rw[Array.getElem?_eq_getElem h]
  simp[Array.getD,h]
 have pe:((lv.map (·.2)).toArray.filterMap (es[·]?)).toList.Perm es.toList:=by
  rw[Array.toList_filterMap]
  exact (pm.filterMap _).trans (by rw[filterMap_getElem?_range])
 have sz:((lv.map (·.2)).toArray.filterMap (es[·]?)).size=es.size:=by rw[←Array.length_toList,pe.length_eq,Array.length_toList]
 refine⟨{ mask:=m,place:=(lv.map (·.1)).toArray,dummies:=#[],finger:=t.finger,led:=t.led,moves:=t.movedTo m,plain:=t.plain },(lv.map (·.2)).toArray,?_,by simpa using pm,pe,sz,⟨rfl,?_,ri,le,hm,by rw[sz];show es.size≤m;have:=hN.lm;omega,fun q hq=>?_⟩,rfl,rfl,rfl⟩
 ·unfold relaid
  rw[hw]
  exact e
 ·rw[sz]
  show ((lv.map (·.1)).toArray).size=_
  have:=pm.length_eq
  rw[List.length_map,List.length_range]at this
  simpa using this
 ·rw[efm]at hq
  have hq:q∈(lv.map (·.1)).zip (lv.map fun p=>es.getD p.2 (0,.none)):=hq
  rw[List.zip_map']at hq
  obtain⟨p,hp,rfl⟩:=List.mem_map.mp hq
  have h:=hlt p hp
  refine fd p hp _ ?_
  rw[Array.getElem?_map,Array.getElem?_eq_getElem h]
  simp[Array.getD,h]
theorem TabW.fresh (led:Bool):TabW (SetTable.fresh 0 0 led) #[]∧TabN (SetTable.fresh 0 0 led).mask 0:=by
 have z:(SetTable.fresh 0 0 led).place.toList=[]:=rfl
 refine⟨⟨rfl,rfl,by rw[z];exact List.Pairwise.nil,fun j hj=>by rw[z]at hj;simp at hj,.inl rfl,Nat.zero_le _,fun p hp=>by rw[z]at hp;simp at hp⟩,.inl ⟨rfl,Nat.zero_le _⟩⟩
end Wz
namespace Wz
open PySem PySem.Spec PyProof.Rows L2 PySem.SetTable
abbrev sObj (es:Array (Int×Value))(ep:Nat)(t:SetTable):Obj:={ cls:=.type "set",dict:=none,data:=.set es ep t }
section
variable {P:Program}{w:World}{A:Around}{E:Value→Shared→Prop}{s:Shared}{a:Addr}{es:Array (Int×Value)}{ep:Nat}{t:SetTable}{L:List Int}
theorem sput (es':Array (Int×Value))(t':SetTable){h:Heap}(ho:h.get? a=some (sObj es ep t)):(h.update a (Obj.putSet es' t')).get? a=some (sObj es' (ep+1) t'):=by
 have:=Heap.get?_update_self (Obj.putSet es' t') ho (by rw[putSet_of es' t' rfl];rfl)
 rw[putSet_of es' t' rfl]at this
 exact this
end
end Wz
namespace Wz
open PySem PySem.Spec PyProof.Rows L2 PySem.SetTable
section
variable {P:Program}{w:World}{A:Around}{E:Value→Shared→Prop}{s:Shared}{a d I:Addr}{es:Array (Int×Value)}{ep:Nat}{t:SetTable}{L:List Int}
end
end Wz
set_option maxRecDepth 1000000
set_option maxHeartbeats 8000000
namespace Wz
open PySem PySem.Spec PyProof.Rows L2 PySem.SetTable
section
variable {P:Program}{w:World}{A:Around}{E:Value→Shared→Prop}{s:Shared}
end
end Wz
namespace Wz
open PySem PySem.Spec PyProof.Rows L2 PySem.SetTable
section
variable {X:Cx}
end
end Wz
namespace Wz
open PySem L2
end Wz
namespace Wz
open PySem PySem.Spec PyProof.Rows L2 PySem.SetTable
def kP (p:Int×Int):List Key:=[Sum.inl p.1,Sum.inl p.2]
theorem kP_inj {p q:Int×Int}(h:kP p=kP q):p=q:=by
 unfold kP at h
 injection h with h1 h2
 injection h2 with h2 _
 exact Prod.ext (Sum.inl.inj h1) (Sum.inl.inj h2)
def hP (P:Program)(w:World)(p:Int×Int):Int:=tupleKeyHash (mixKind P w) (kP p)
abbrev TK (P:Program)(w:World)(h:Heap)(p:Int×Int)(b:Addr):Prop:=IsTupleKey (mixKind P w) h (kP p) b
def PEnt (P:Program)(w:World)(h:Heap)(e:Int×Value)(p:Int×Int):Prop:=∃ b,e=(hP P w p,.ref b)∧TK P w h p b
section
variable {P:Program}{w:World}{A:Around}{E:Value→Shared→Prop}{s:Shared}{a b:Addr}{es:Array (Int×Value)}{ep:Nat}{t:SetTable}{ps:List (Int×Int)}{p:Int×Int}
theorem tk_two {h:Heap}{p:Int×Int}{b:Addr}(hk:TK P w h p b):∃ o n t1 t2,h.get? b=some o∧o.cls=.type "tuple"∧o.data=.seq #[.int p.1 t1,.int p.2 t2] n:=by
 obtain⟨o,items,n,ho,hc,hd,hi⟩:=hk
 have go:∀ l:List Value,ItemsAre (mixKind P w) (kP p) l→∃ t1 t2,l=[.int p.1 t1,.int p.2 t2]:=fun l hl=>by
  cases hl with
  | cons h1 r =>
   cases r with
   | cons h2 r2 =>
    cases r2
    rcases keyIs_shape (k:=Sum.inl p.1) h1 with ⟨i,t,e1,e2⟩ | ⟨i,t,e1,_⟩
    ·rcases keyIs_shape (k:=Sum.inl p.2) h2 with ⟨j,u,f1,f2⟩ | ⟨j,u,f1,_⟩
     ·cases e1;cases f1
      exact⟨t,u,by rw[e2,f2]⟩
     ·cases f1
    ·cases e1
 obtain⟨t1,t2,e⟩:=go _ hi
 refine⟨o,n,t1,t2,ho,hc,?_⟩
 rw[hd]
 congr 1
 exact Array.toList_inj.mp e
theorem noclass {p:Int×Int}{b:Addr}{Q:Bool→Shared→Prop}(hk:TK P w s.heap p b)(h:Q false s):wpAny (model P w) A (ofAClassStatement 8 (.ref b)) Q E s:=by
 obtain⟨o,n,t1,t2,ho,hc,hd⟩:=tk_two hk
 have hT:s.TypeIs (.ref b) "tuple":=⟨o,ho,hc⟩
 unfold ofAClassStatement
 refine wpAny_bind (wpAny_typeOf hT ?_)
 dsimp only
 rw[if_pos (by decide)]
 refine wpAny_bind (wpAny_pure ?_)
 rw[if_neg (by decide)]
 refine wpAny_bind (wpAny_seqItems ho hd ?_)
 dsimp only
 rw[←Array.forIn_toList]
 simp only[List.forIn_cons,List.forIn_nil,ofAClassStatement,bind_assoc,pure_bind,Bool.false_eq_true,if_false]
 exact wpAny_pure h
theorem byval {p:Int×Int}{b:Addr}{Q:Bool→Shared→Prop}(hk:TK P w s.heap p b)(h:Q true s):wpAny (model P w) A (hashByValue 8 (.ref b)) Q E s:=by
 obtain⟨o,n,t1,t2,ho,hc,hd⟩:=tk_two hk
 have hT:s.TypeIs (.ref b) "tuple":=⟨o,ho,hc⟩
 unfold hashByValue
 refine wpAny_bind (wpAny_specialOf hT F.slot_tuple_hash.lookup ?_)
 refine wpAny_bind (wpAny_seqItems ho hd ?_)
 show wpAny (model P w) A (do
   let __s ←forIn #[Value.int p.fst t1,Value.int p.snd t2] (none,()) fun x __s=>do
      let __do_lift ←hashByValue 7 x
      if (!__do_lift)=true then pure (ForInStep.done (some false,())) else pure (ForInStep.yield (none,()))
   match __s.1 with
    | some r=>pure r
    | none=>pure true) Q E s
 rw[←Array.forIn_toList]
 simp only[List.forIn_cons,List.forIn_nil,hashByValue,bind_assoc,pure_bind,Bool.not_true,Bool.false_eq_true,if_false]
 exact wpAny_pure h
theorem unseen {p:Int×Int}{b:Addr}{Q:Bool→Shared→Prop}(hk:TK P w s.heap p b):∀ (st:List Value),(∀ v∈st,∃ q c,v=.ref c∧TK P w s.heap q c)→Q false s→wpAny (model P w) A (searchCouldBeSeen (.ref b) st) Q E s:=by
 intro st hst h
 unfold searchCouldBeSeen
 refine wpAny_bind ?_
 refine wpAny_forIn_list _ (fun rest (r:Option Bool×Unit) s'=>r.1=none∧s'=s∧∀ v∈rest,∃ q c,v=.ref c∧TK P w s.heap q c) _ ?_ ?_ _ _ ⟨rfl,rfl,hst⟩
 ·rintro v rest r s' ⟨hr,rfl,hall⟩
  obtain⟨q,c,rfl,hc⟩:=hall _ List.mem_cons_self
  have tl:∀ v∈rest,∃ q c,v=Value.ref c∧TK P w s'.heap q c:=fun v hv=>hall v (List.mem_cons_of_mem _ hv)
  dsimp only
  split
  ·exact wpAny_pure ⟨rfl,rfl,tl⟩
  ·refine wpAny_bind (wpAny_eqIsQuiet_tuple hk ?_)
   simp only[Bool.not_true,Bool.false_eq_true,if_false]
   refine wpAny_bind (wpAny_eqIsQuiet_tuple hc ?_)
   simp only[Bool.not_true,Bool.false_eq_true,if_false]
   refine wpAny_bind (noclass hk ?_)
   simp only[Bool.false_eq_true,if_false]
   refine wpAny_bind (noclass hc ?_)
   simp only[Bool.false_eq_true,if_false]
   exact wpAny_pure ⟨rfl,rfl,tl⟩
 ·rintro⟨r1,r2⟩ s' ⟨hr,rfl,_⟩
  simp only at hr
  subst hr
  exact wpAny_pure h
theorem pent_at {h:Heap}{es:Array (Int×Value)}{ps:List (Int×Int)}(el:Paired (PEnt P w h) es.toList ps){i:Nat}(hi:i<es.size):∃ q c,ps[i]? = some q∧es[i]? = some (hP P w q,.ref c)∧TK P w h q c:=by
 have hl:=Paired.length el
 rw[Array.length_toList]at hl
 have h1:ps[i]? = some (ps[i]'(by omega)):=List.getElem?_eq_getElem _
 have h2:es.toList[i]? = some es[i]:=by rw[Array.getElem?_toList];exact Array.getElem?_eq_getElem hi
 obtain⟨e,he,hp⟩:=paired_get el h2
 obtain⟨c,ec,hc⟩:=hp
 exact⟨e,c,he,by rw[Array.getElem?_eq_getElem hi,ec],hc⟩
theorem psearch {adding:Bool}{Q:SetFound→Shared→Prop}(hu:A.units<cLine)(ho:s.heap.get? a=some (sObj es ep t))(T:TabW t es)(el:Paired (PEnt P w s.heap) es.toList ps)(hk:TK P w s.heap p b)
  (h1:p∈ps→∀ i,(adding=false→i.isSome=true)→Q (.there i) s)
  (h2:p∉ps→∀ N,N<10*turns t.mask→(itA t.mask N (stH t.mask (hP P w p))).j∉t.place.toList→(itA t.mask N (stH t.mask (hP P w p))).j≤t.mask→(∀ k,k<N→(itA t.mask k (stH t.mask (hP P w p))).j∈t.place.toList)→Q (.free (itA t.mask N (stH t.mask (hP P w p))).j false) s) :
  wpAny (model P w) A (setSearch a (.ref b) (hP P w p) adding) Q E s:=by
 obtain⟨N,n1,n2,n3,n4,n5⟩:=T.hole (hP P w p)
 obtain⟨st,est⟩:∃ st,st=stH t.mask (hP P w p):=⟨_,rfl⟩
 rw[←est]at n2 n3 n4 n5 h2
 have hin:∀ k,k<N→(itA t.mask k st).j∈t.place.toList:=fun k hk=>by
  obtain⟨i,hi⟩:=n5 k hk
  exact List.mem_of_getElem? (i:=i) (by rw[Array.getElem?_toList];exact ((slot_of T.dm T.ri _).1 i).mp hi)
 have ilt:∀ k i,t.slot (itA t.mask k st).j=.live i→i<es.size:=fun k i hi=>by
  have:=(Array.getElem?_eq_some_iff.mp (((slot_of T.dm T.ri _).1 i).mp hi)).1
  rw[T.sz]at this
  exact this
 have gw:t.gaveWay=false:=by
  unfold SetTable.gaveWay
  rcases T.tm with e | e | e<;>rw[e]<;>rfl
 have pst:t.probeStart (hP P w p)=st:=by rw[probeStart_eq,est]
 have main:∀ (d n fuel:Nat)(stand:Option Probe),n+d=N→d<fuel→stand.getD (t.probeStart (hP P w p))=itA t.mask n st→(∀ k,k<n→∀ i,t.slot (itA t.mask k st).j=.live i→ps[i]?≠some p) →
   wpAny (model P w) A (setSearchFrom a (.ref b) (hP P w p) adding fuel stand) Q E s:=by
  intro d
  induction d using Nat.strongRecOn with
  | ind d ih =>
   intro n fuel stand hnd hf hst bef
   obtain⟨fuel,rfl⟩:∃ f,fuel=f+1:=⟨fuel-1,by omega⟩
   unfold setSearchFrom
   refine wpAny_bind (wpAny_setState_of ho rfl T.fits ?_)
   dsimp only
   rw[gw]
   simp only[Bool.false_eq_true,if_false]
   rw[hst]
   obtain⟨m,hm,lm⟩:=least_nat (p:=fun m=>n+m=N∨∃ i e,t.slot (itA t.mask (n+m) st).j=.live i∧es[i]? = some e∧e.1=hP P w p) ⟨d,.inl (by omega)⟩
   have mN:n+m≤N:=by
    by_cases z:n+m≤N
    ·exact z
    ·exact absurd (.inl hnd) (lm d (by omega))
   have skip:∀ f:Nat→Int,(∀ i e,es[i]? = some e→f i=e.1)→∀ k,k<m→∃ i,t.slot (itA t.mask k (itA t.mask n st)).j=.live i∧(f i == hP P w p)=false:=fun f hf k hk=>by
    obtain⟨i,hi⟩:=n5 (n+k) (by omega)
    have he:es[i]? = some (es[i]'(ilt _ _ hi)):=Array.getElem?_eq_getElem _
    refine⟨i,by rw[←itA_add];exact hi,?_⟩
    rw[beq_eq_false_iff_ne,hf i _ he]
    exact fun z=>lm k hk (.inr ⟨i,_,hi,he,z⟩)
   rcases hm with hm | ⟨i,e,hi,he,hh⟩
   ·have key:∀ f:Nat→Int,(∀ i e,es[i]? = some e→f i=e.1)→t.probe f (hP P w p) (itA t.mask n st)=some (.empty (itA t.mask N st).j none):=fun f hf=>by
     unfold SetTable.probe
     rw[go_empty (n:=m) (by omega) (skip f hf) (by rw[←itA_add,hm];exact n2),←itA_add,hm,itA_dummy,est]
     rfl
    rw[key _ (fun i e he=>by show ((es[i]?).map (·.1)).getD 0=e.1;rw[he];rfl)]
    have hp:p∉ps:=fun z=>by
     obtain⟨i0,hi0⟩:=List.getElem?_of_mem z
     have l0:i0<es.size:=by
      have:=(List.getElem?_eq_some_iff.mp hi0).1
      have hl:=Paired.length el
      rw[Array.length_toList]at hl
      omega
     obtain⟨q,c,q1,q2,q3⟩:=pent_at el l0
     rw[hi0]at q1
     cases q1
     have l0':i0<t.place.size:=by rw[T.sz];exact l0
     obtain⟨n0,f1,f2,f3⟩:=T.fd (t.place[i0],(hP P w p,.ref c)) (List.mem_of_getElem? (i:=i0) (by
      rw[List.getElem?_zip_eq_some]
      exact⟨by rw[Array.getElem?_toList];exact Array.getElem?_eq_getElem l0',by rw[Array.getElem?_toList];exact q2⟩))
     have f2:(itA t.mask n0 (stH t.mask (hP P w p))).j=t.place[i0]:=f2
     have f3:∀ k,k<n0→(itA t.mask k (stH t.mask (hP P w p))).j∈t.place.toList:=f3
     rw[←est]at f2 f3
     have lv:t.slot (itA t.mask n0 st).j=.live i0:=((slot_of T.dm T.ri _).1 i0).mpr (by rw[f2];exact Array.getElem?_eq_getElem l0')
     have nN:n0<N:=by
      rcases Nat.lt_trichotomy n0 N with y | y | y
      ·exact y
      ·rw[y,n2]at lv;cases lv
      ·exact absurd (f3 N y) n3
     by_cases y:n0<n
     ·exact bef n0 y i0 lv hi0
     ·exact lm (n0-n) (by omega) (.inr ⟨i0,_,by rw[show n+(n0-n)=n0 by omega];exact lv,q2,rfl⟩)
    exact wpAny_pure (h2 hp N n1 n3 n4 hin)
   ·have key:∀ f:Nat→Int,(∀ i e,es[i]? = some e→f i=e.1)→t.probe f (hP P w p) (itA t.mask n st)=some (.candidate (itA t.mask (n+m) st).j i (itA t.mask (n+m+1) st)):=fun f hf=>by
     unfold SetTable.probe
     rw[go_cand (n:=m) (i:=i) (by omega) (skip f hf) (by rw[←itA_add];exact hi) (by rw[hf i e he,hh];simp),←itA_add,←itA_add]
     rfl
    rw[key _ (fun i e he=>by show ((es[i]?).map (·.1)).getD 0=e.1;rw[he];rfl)]
    dsimp only
    obtain⟨q,c,q1,q2,q3⟩:=pent_at el (ilt _ _ hi)
    have lt:n+m<N:=by
     rcases Nat.lt_or_eq_of_le mN with y | y
     ·exact y
     ·rw[y,n2]at hi;cases hi
    have sm:t.sameMemory t.moves t.mask=some true:=by unfold sameMemory;simp
    cases hl:t.led
    case' false =>
     simp only[Bool.not_false,if_true]
     refine wpAny_bind (unseen hk _ (fun v hv=>?_) ?_)
     case' refine_2=>simp only[Bool.false_eq_true,if_false]
    case' true=>simp only[Bool.not_true,Bool.false_eq_true,if_false]
    case refine_1 =>
     obtain⟨e',he',rfl⟩:=List.mem_map.mp hv
     have he':=Array.mem_toList_iff.mp he'
     obtain⟨he2,_⟩:=Array.mem_filter.mp he'
     obtain⟨i2,l2,e2⟩:=Array.getElem_of_mem he2
     obtain⟨q',c',r1,r2,r3⟩:=pent_at el l2
     rw[Array.getElem?_eq_getElem l2,e2]at r2
     exact⟨q',c',by rw[Option.some.inj r2],r3⟩
    all_goals
     rw[q2]
     dsimp only
     refine wpAny_bind (wpAny_holding (wpAny_eqBool_tuple hu q3 hk ?_))
     refine wpAny_bind (wpAny_setState_of ho rfl T.fits ?_)
     dsimp only
     by_cases hq:q=p
     ·rw[decide_eq_true (by rw[hq])]
      have hp:p∈ps:=List.mem_of_getElem? (by rw[hq]at q1;exact q1)
      cases adding with
      | true =>
       simp only[Bool.and_self,if_true]
       exact wpAny_pure (h1 hp none (fun z=>by cases z))
      | false =>
       simp only[Bool.false_and,Bool.false_eq_true,if_false]
       rw[sm]
       dsimp only
       rw[if_pos rfl,hi]
       dsimp only
       rw[q2]
       dsimp only
       refine wpAny_bind (wpAny_isSame_ref_self (wpAny_bind (wpAny_pure ?_)))
       simp only[if_true]
       exact wpAny_pure (h1 hp (some i) fun _=>rfl)
     ·rw[decide_eq_false (fun z=>hq (kP_inj z))]
      simp only[Bool.and_false,Bool.false_eq_true,if_false]
      rw[sm]
      dsimp only
      rw[if_pos rfl,hi]
      dsimp only
      rw[q2]
      dsimp only
      refine wpAny_bind (wpAny_isSame_ref_self (wpAny_bind (wpAny_pure ?_)))
      simp only[if_true]
      refine ih (N-(n+m+1)) (by omega) (n+m+1) fuel (some _) (by omega) (by omega) rfl (fun k hk i' hi' z=>?_)
      by_cases y:k<n
      ·exact bef k y i' hi' z
      ·by_cases y2:k=n+m
       ·rw[y2,hi]at hi'
        cases hi'
        rw[q1]at z
        exact hq (Option.some.inj z)
       ·obtain⟨q',c',r1,r2,r3⟩:=pent_at el (ilt _ _ hi')
        rw[r1]at z
        cases z
        exact lm (k-n) (by omega) (.inr ⟨i',_,by rw[show n+(k-n)=k by omega];exact hi',r2,rfl⟩)
 exact main N 0 100000 none (by omega) (by have:=T.tm;unfold TabM at this;unfold turns at n1;omega) (by rw[←pst];rfl) (fun k hk=>by omega)
end
end Wz
namespace Wz
open PySem PySem.Spec PyProof.Rows L2 PySem.SetTable
section
variable {P:Program}{w:World}{A:Around}{E:Value→Shared→Prop}{s:Shared}{a b:Addr}{es:Array (Int×Value)}{ep:Nat}{t:SetTable}{ps:List (Int×Int)}{p:Int×Int}
theorem noscan {b:Addr}{es:Array (Int×Value)}:byScan (.ref b) es=false:=rfl
theorem pset_add {Q:Bool→Shared→Prop}(hu:A.units<cLine)(ho:s.heap.get? a=some (sObj es ep t))(T:TabW t es)(N:TabN t.mask es.size)(el:Paired (PEnt P w s.heap) es.toList ps)(hk:TK P w s.heap p b)(hl:ps.length+1≤70)
  (h1:p∈ps→Q false s)
  (h2:p∉ps→∀ h' es' ep' t',Heap.SameBut a s.heap h'→h'.get? a=some (sObj es' ep' t')→TabW t' es'→TabN t'.mask es'.size→es'.toList.Perm (es.toList++[(hP P w p,.ref b)])→Q true { s with heap:=h' }) :
  wpAny (model P w) A (setAddHashed a (.ref b) (hP P w p)) Q E s:=by
 have hsz:es.size=ps.length:=by have:=Paired.length el;rw[Array.length_toList]at this;exact this
 unfold setAddHashed setAddHashedIn
 refine wpAny_holding (wpAny_bind (wpAny_setState_of ho rfl T.fits ?_))
 dsimp only
 rw[noscan,if_neg Bool.false_ne_true]
 refine wpAny_bind (psearch hu ho T el hk (fun hp i hi=>wpAny_pure (h1 hp)) (fun hp n g1 g2 g3 g4=>?_))
 dsimp only
 refine wpAny_bind (wpAny_setState_of ho rfl T.fits ?_)
 dsimp only
 obtain⟨T1,m1,p1,l1,z1⟩:=T.put (hP P w p) (.ref b) N.lm g1 g2 g3 g4
 obtain⟨j,ej⟩:∃ j,j=(itA t.mask n (stH t.mask (hP P w p))).j:=⟨_,rfl⟩
 rw[←ej]at T1 m1 p1 l1 z1 ⊢
 have pm1:(insertAt es (t.put j).2 (hP P w p,.ref b)).toList.Perm (es.toList++[(hP P w p,.ref b)]):=by have:=insertAt_perm es (t.put j).2 (hP P w p,Value.ref b);rw[Array.toList_push]at this;exact this
 generalize insertAt es (t.put j).2 (hP P w p,.ref b)=es1 at T1 z1 pm1 ⊢
 generalize (t.put j).1=t1 at T1 m1 p1 l1 ⊢
 have zb:es1.size≤sizeLine:=by rw[z1,hsz,sizeLine_eq];omega
 have fin:∀ t2:SetTable,TabW t2 es1→t2.mask=t1.mask→wpAny (model P w) A (do
   storeSet a es1 t2
   if (!false&&t2.tooFull)=true then setRelay a (grown (es.size+1))
   pure true) Q E s:=by
  intro t2 T2 m2
  refine wpAny_bind (wpAny_storeSet_of ho rfl ?_ zb)
  have ho1:=sput es1 t2 ho
  have sb1:=Heap.SameBut.update s.heap a (Obj.putSet es1 t2)
  rcases T2.full (n:=es.size) (by rw[m2,m1];exact N) z1 (by rw[hsz];exact hl) with ⟨f1,f2⟩ | ⟨f1,m,f2,f3,f4⟩
  ·rw[f1]
   simp only[Bool.not_false,Bool.true_and,Bool.false_eq_true,if_false]
   exact wpAny_pure (h2 hp _ es1 (ep+1) t2 sb1 ho1 T2 f2 pm1)
  ·rw[f1]
   simp only[Bool.not_false,Bool.true_and,if_true]
   obtain⟨t3,order,r1,r2,r3,r4,r5,r6,r7,r8⟩:=T2.relay f2 f3 f4
   rw[←z1]
   unfold setRelay
   refine wpAny_bind (wpAny_bind (wpAny_setState_of ho1 rfl T2.fits ?_))
   dsimp only
   rw[if_neg (by rw[f3,sizeLine_eq];have:=f4.lm;unfold TabN at f4;omega)]
   rw[r1]
   refine wpAny_bind ?_
   show wpAny (model P w) A (if ((order.filterMap (es1[·]?)).size != es1.size)=true then _ else _) _ _ _
   rw[r4,if_neg (by simp)]
   refine wpAny_pure ?_
   refine wpAny_storeSet_of ho1 rfl ?_ (by rw[r4];exact zb)
   have ho2:=sput (order.filterMap (es1[·]?)) t3 ho1
   exact wpAny_pure (h2 hp _ _ (ep+1+1) t3 (sb1.trans (Heap.SameBut.update _ a _)) ho2 r5 (by rw[r6,r4];exact f4) (r3.trans pm1))
 by_cases hp1:t1.plain=true
 ·rw[if_pos hp1]
  refine wpAny_bind (byval hk ?_)
  rw[if_pos rfl]
  exact fin t1 T1 rfl
 ·rw[if_neg hp1]
  refine wpAny_bind (wpAny_pure ?_)
  rw[if_pos rfl]
  exact fin t1 T1 rfl
end
theorem paired_perm {α β:Type}{F:α→β→Prop}{l l':List α}(p:l.Perm l'):∀ {m:List β},Paired F l m→∃ m',m.Perm m'∧Paired F l' m':=by
 induction p with
 | nil=>intro m h;exact⟨m,.refl _,h⟩
 | cons x p ih =>
  intro m h
  cases h with
  | cons r q =>
   obtain⟨m',h1,h2⟩:=ih q
   exact⟨_::m',.cons _ h1,.cons r h2⟩
 | swap x y l =>
  intro m h
  cases h with
  | cons r q =>
   cases q with
   | cons r2 q=>exact⟨_,.swap _ _ _,.cons r2 (.cons r q)⟩
 | trans p q ih1 ih2 =>
  intro m h
  obtain⟨m1,a1,b1⟩:=ih1 h
  obtain⟨m2,a2,b2⟩:=ih2 b1
  exact⟨m2,a1.trans a2,b2⟩
def PSet (a:Addr)(es:Array (Int×Value))(ep:Nat)(t:SetTable):HO:=.ext fun h=>h.get? a=some (sObj es ep t)
def PAt (P:Program)(w:World)(H:Hp)(a:Addr)(ps:List (Int×Int)):Prop:=∃ es ep t qs,H a=some (PSet a es ep t)∧TabW t es∧TabN t.mask es.size∧qs.Perm ps∧ps.Nodup∧Paired (fun (e:Int×Value)(p:Int×Int)=>∃ b,e=(hP P w p,.ref b)∧H b=some (.tup [.int p.1,.int p.2])) es.toList qs
section
variable {X:Cx}
theorem pset_ok {H:Hp}{h:Heap}{a:Addr}{es:Array (Int×Value)}{ep:Nat}{t:SetTable}(e:h.get? a=some (sObj es ep t)):ObjOk X.prog X.w H h a (PSet a es ep t):=⟨e,⟨_,e⟩,fun h1 h2 e' k=>k _ e'⟩
theorem PAt.heap {H:Hp}{s:Shared}{pins:List (Addr×Obj)}{σ:L2.St}{a:Addr}{ps:List (Int×Int)}(h:PAt X.prog X.w H a ps)(I:Inv X pins σ H s):∃ es ep t qs,H a=some (PSet a es ep t)∧s.heap.get? a=some (sObj es ep t)∧TabW t es∧TabN t.mask es.size∧qs.Perm ps∧ps.Nodup∧Paired (PEnt X.prog X.w s.heap) es.toList qs∧Paired (fun (e:Int×Value)(p:Int×Int)=>∃ b,e=(hP X.prog X.w p,.ref b)∧H b=some (.tup [.int p.1,.int p.2])) es.toList qs:=by
 obtain⟨es,ep,t,qs,e,T,N,pm,nd,el⟩:=h
 obtain⟨e1,_⟩:=(show ObjOk X.prog X.w H s.heap a (PSet a es ep t) from I.hok a _ e)
 exact⟨es,ep,t,qs,e,e1,T,N,pm,nd,Paired.mapP el fun x y ⟨b,e1,e2⟩=>⟨b,e1,key_of (ks:=kP y) I.hok e2⟩,el⟩
end
end Wz
namespace L2
open PySem PySem.Spec PyProof.Rows
end L2
namespace Wz
open PySem L2
theorem shareP {P:Hp→Prop}{G:Prop}(C:Hp→Prop)(main:(∀ HH,C HH→P HH)→G)(key:∀ HH,C HH→P HH):G:=main key
end Wz
set_option maxRecDepth 1000000
set_option maxHeartbeats 8000000
namespace Wz
open PySem PySem.Spec PyProof.Rows L2 PySem.SetTable
theorem nodup_sub_len {α:Type} [BEq α] [LawfulBEq α]:∀ {l m:List α},l.Nodup→(∀ x∈l,x∈m)→l.length≤m.length
 | [],_,_,_=>Nat.zero_le _
 | a::r,m,h,hs=>by
  obtain⟨h1,h2⟩:=List.nodup_cons.mp h
  have ha:a∈m:=hs a List.mem_cons_self
  have hl:(m.erase a).length=m.length-1:=List.length_erase_of_mem ha
  have hpos:0<m.length:=List.length_pos_of_mem ha
  have ih:=nodup_sub_len (l:=r) (m:=m.erase a) h2 fun x hx=>(List.mem_erase_of_ne (show x≠a from fun e=>h1 (by rw[←e];exact hx))).mpr (hs x (List.mem_cons_of_mem _ hx))
  rw[List.length_cons]
  omega
section
variable {P:Program}{w:World}{A:Around}{E:Value→Shared→Prop}{s:Shared}
def PGot (P:Program)(w:World)(S:Addr)(B:List Addr)(ps:List (Int×Int))(h:Heap):Prop:=∃ es ep t qs,h.get? S=some (sObj es ep t)∧TabW t es∧TabN t.mask es.size∧qs.Nodup∧(∀ p,p∈qs↔p∈ps)∧Paired (fun e p=>PEnt P w h e p∧∀ b,e.2=.ref b→b∈B) es.toList qs
theorem PEnt.keeps {h h':Heap}{e:Int×Value}{p:Int×Int}(x:PEnt P w h e p)(k:∀ b,TK P w h p b→TK P w h' p b):PEnt P w h' e p:=let ⟨b,e1,e2⟩:=x;⟨b,e1,k b e2⟩
theorem tk_keeps {h h':Heap}{p:Int×Int}{b:Addr}(x:TK P w h p b)(k:∀ o,h.get? b=some o→o.cls=.type "tuple"→h'.get? b=some o):TK P w h' p b:=let ⟨o,i,n,e,c,r⟩:=x;⟨o,i,n,k o e c,c,r⟩
theorem pgot_keeps {S:Addr}{B:List Addr}{ps:List (Int×Int)}{h h':Heap}(g:PGot P w S B ps h)(k:∀ b o,h.get? b=some o→(b=S∨o.cls=.type "tuple")→h'.get? b=some o):PGot P w S B ps h':=by
 obtain⟨es,ep,t,qs,e,T,N,nd,mm,el⟩:=g
 exact⟨es,ep,t,qs,k _ _ e (.inl rfl),T,N,nd,mm,Paired.mapP el fun x y z=>⟨z.1.keeps fun b tb=>tk_keeps tb fun o e c=>k b o e (.inr c),z.2⟩⟩
theorem pgot_add {S b:Addr}{B:List Addr}{ps:List (Int×Int)}{p:Int×Int}{Q:Bool→Shared→Prop}(hu:A.units<cLine)(g:PGot P w S B ps s.heap)(hB:b∈B)(hk:TK P w s.heap p b)(hl:ps.length+1≤70)
  (h:∀ (r:Bool) h',Heap.SameBut S s.heap h'→PGot P w S B (ps++[p]) h'→Q r { s with heap:=h' }):wpAny (model P w) A (setAddHashed S (.ref b) (hP P w p)) Q E s:=by
 obtain⟨es,ep,t,qs,e,T,N,nd,mm,el⟩:=g
 have ql:qs.length≤ps.length:=nodup_sub_len nd fun x hx=>(mm x).mp hx
 refine pset_add hu e T N (Paired.mapP el fun x y z=>z.1) hk (by omega) (fun z=>?_) (fun z h' es' ep' t' sb e' T' N' pm=>?_)
 ·have es:s={ s with heap:=s.heap }:=by cases s;rfl
  rw[es]
  refine h false s.heap (Heap.SameBut.refl _ _) ⟨_,ep,t,qs,e,T,N,nd,fun x=>?_,el⟩
  rw[List.mem_append,mm x]
  exact⟨.inl,fun y=>y.elim id fun y=>by rw[List.mem_singleton.mp y];exact (mm p).mp z⟩
 ·have nS:∀ {q:Int×Int}{c:Addr},TK P w s.heap q c→c≠S:=fun {q c} x y=>by
   obtain⟨o,i,n,e1,e2,_⟩:=x
   rw[y,e]at e1
   cases e1
   exact absurd (Value.type.inj e2) (by decide)
  have kk:∀ {q:Int×Int}{c:Addr},TK P w s.heap q c→TK P w h' q c:=fun {q c} x=>tk_keeps x fun o e c=>(sb.2 _ (nS x)).trans e
  have elA:Paired (fun e p=>PEnt P w h' e p∧∀ b,e.2=.ref b→b∈B) (es.toList++[(hP P w p,.ref b)]) (qs++[p]):=paired_append (Paired.mapP el fun x y z=>⟨z.1.keeps fun b tb=>kk tb,z.2⟩) (.cons ⟨⟨b,rfl,kk hk⟩,fun c ec=>by cases ec;exact hB⟩ .nil)
  obtain⟨rs,r1,r2⟩:=paired_perm pm.symm elA
  refine h true h' sb ⟨es',ep',t',rs,e',T',N',r1.nodup_iff.mp (List.nodup_append.mpr ⟨nd,by simp,fun x hx y hy q=>z (by rw[←List.mem_singleton.mp hy,←q];exact hx)⟩),fun x=>?_,r2⟩
  rw[←r1.mem_iff,List.mem_append,List.mem_append,mm x]
theorem ploop {R:Result→Shared→Prop}{I:Addr}{fp wr:List Addr}{G:Array GenState→Array GenState→Prop}{n:Nat}{st:Nat→Shared→Prop}{Pi:Nat→Value→Prop}{items:List Addr}{ps:List (Int×Int)}(W:WalksS P w A.in1 I fp wr G n Pi st)(hPi:∀ i v,Pi i v→∃ b,items[i]? = some b∧v=.ref b)(S:Addr)(hSf:S∉fp)(hu:A.in1.units<cLine)(hn:n=ps.length)(hl:ps.length≤60)
  (hwr:∀ i s,st i s→∀ b∈wr,∀ o,s.heap.get? b=some o→o.cls≠.type "tuple") :
  ∀ (k i:Nat)(s:Shared),n-i=k→i≤n→st i s→PGot P w S items (ps.take i) s.heap→Paired (fun b p=>TK P w s.heap p b) items ps →
   (∀ s',PySem.Moved (S::wr) G s s'→PGot P w S items ps s'.heap→R (.ok (.ret .none)) s')→codeAny (model P w) A (.builtin "set.update.loop" ⟨[.ref S,.ref I],[]⟩) R s:=by
 have hSw:S∉wr:=fun h=>hSf (W.sub _ h)
 have sub:∀ b∈wr,b∈S::wr:=fun b hb=>List.mem_cons_of_mem _ hb
 intro k
 induction k with
 | zero =>
  intro i s hk hi hst g el hR
  have e:i=n:=by omega
  subst e
  rw[hn,List.take_length]at g
  refine codeAny_builtin PyProof.Rows.F.entry_set_update_loop ?_
  rw[Around.under_plainId PyProof.Rows.F.plain_set_update_loop _]
  show wpAny _ A.in1 (pyNext (.ref I) >>= _) _ _ s
  refine wpAny_bind (W.done s _ _ hst fun s' hm=>wpAny_pure (hR s' (hm.mono sub) (pgot_keeps g fun b o e c=>hm.heap b o (fun hb=>?_) e)))
  rcases c with c | c
  ·exact hSw (by rw[←c];exact hb)
  ·exact hwr _ s hst b hb o e c
 | succ k ih =>
  intro i s hk hi hst g el hR
  have hlt:i<n:=by omega
  have nw:∀ {p b},TK P w s.heap p b→b∉wr:=fun {p b} x hb=>by
   obtain⟨o,it,m,e1,e2,_⟩:=x
   exact hwr _ s hst b hb o e1 e2
  refine codeAny_builtin PyProof.Rows.F.entry_set_update_loop ?_
  rw[Around.under_plainId PyProof.Rows.F.plain_set_update_loop _]
  show wpAny _ A.in1 (pyNext (.ref I) >>= _) _ _ s
  refine wpAny_bind (W.item i s _ _ hlt hst fun v s' hv hst' hm=>?_)
  obtain⟨b,hb,rfl⟩:=hPi i v hv
  obtain⟨p,hp,htb⟩:=paired_get el hb
  have kk:∀ {p b},TK P w s.heap p b→TK P w s'.heap p b:=fun {p b} x=>tk_keeps x fun o e _=>hm.heap b o (nw x) e
  have g':PGot P w S items (ps.take i) s'.heap:=pgot_keeps g fun b o e c=>hm.heap b o (fun hb=>by
   rcases c with c | c
   ·exact hSw (by rw[←c];exact hb)
   ·exact hwr _ s hst b hb o e c) e
  have el':Paired (fun b p=>TK P w s'.heap p b) items ps:=Paired.mapP el fun x y z=>kk z
  show wpAny _ A.in1 (holding [Value.ref b] (setAdd S (.ref b)) >>= _) _ _ s'
  refine wpAny_bind (wpAny_holding ?_)
  unfold setAdd
  refine wpAny_holding (wpAny_bind (wpAny_pyHash_tuple hu (kk htb) ?_))
  refine pgot_add (s:={ s' with toks:=s'.toks+((kP p).length+1) }) hu g' (List.mem_of_getElem? hb) (kk htb) (by rw[List.length_take];omega) fun r h' sb g2=>?_
  have nS:∀ {q c},TK P w s'.heap q c→c≠S:=fun {q c} x y=>by
   obtain⟨o,it,m,e1,e2,_⟩:=x
   obtain⟨es,ep,t,qs,e,_⟩:=g'
   rw[y,e]at e1
   cases e1
   exact absurd (Value.type.inj e2) (by decide)
  have et:ps.take (i+1)=ps.take i++[p]:=by rw[List.take_add_one,hp,Option.toList_some]
  refine wpAny_pure ⟨plainId_quiet PyProof.Rows.F.plain_set_update_loop _,ih (i+1) _ (by omega) hlt (W.frame _ s' _ _ hst' (Nat.le_add_right _ _) fun c hc o e=>?_) (by rw[et];exact g2) (Paired.mapP el' fun x y z=>tk_keeps z fun o e _=>(sb.2 _ (nS z)).trans e) fun s2 hm2 g3=>?_⟩
  ·exact (sb.2 c (fun z=>hSf (by rw[←z];exact hc))).trans e
  ·refine hR s2 (PySem.Moved.trans W.gtrans ((hm.mono sub).then_heap (Nat.le_add_right _ _) fun c o hc e=>?_) hm2) g3
   exact (sb.2 c (fun z=>hc (by rw[z];exact List.mem_cons_self))).trans e
theorem pgot_fresh {S:Addr}{B:List Addr}{led:Bool}{h:Heap}(e:h.get? S=some (sObj #[] 0 (.fresh 0 0 led))):PGot P w S B [] h:=⟨#[],0,_,[],e,(TabW.fresh led).1,(TabW.fresh led).2,List.nodup_nil,fun _=>Iff.rfl,.nil⟩
theorem set_pairs {l:Addr}{items:List Addr}{ps:List (Int×Int)}{Q:Value→Shared→Prop}(hh:A.handled=none)(hu:A.units+5<cLine)(hl:s.heap.IsList l (items.map Value.ref).toArray)(el:Paired (fun b p=>TK P w s.heap p b) items ps)(hb:ps.length≤60)
  (h:∀ (h':Heap)(tk:Nat),PGot P w s.heap.objs.size items ps h'→(∀ b o,b<s.heap.objs.size→s.heap.get? b=some o→h'.get? b=some o)→Q (.ref s.heap.objs.size) { s with heap:=h',toks:=tk }) :
  wpAny (model P w) A (call (.type "set") [.ref l]) Q E s:=by
 obtain⟨c,tl,mro⟩:=F.called_set.mro
 have made:=F.called_set.made
 have sub:=F.called_set.sub
 have nt:=F.called_set.notType
 have cc:=F.called_set.canCreate
 have tc:=F.typeCall_set_1 (.ref l)
 refine wpAny_call (codeAny_of_tree ?_)
 show wpAny _ _ (callAny (.type "set") _) _ _ _
 refine wpAny_pure ⟨Code.quiet_builtin _ (by decide +kernel),codeAny_builtin F.entry_type_call ?_⟩
 rw[Around.under_plain (weight_type_call_type "set" [.ref l] []) rfl]
 repeat (any_goals (first | assumption | wp_step))
 refine codeAny_mono (code_set_new_1 (.ref l) (E:=E) (Q₁:=fun obj s₁=>∃ led:Bool,obj=.ref s.heap.objs.size∧s₁={ s with heap:=s.heap.push (sObj #[] 0 (.fresh 0 0 led)) }) fun led=>⟨led,rfl,rfl⟩) fun r s₁ hr=>?_
 cases r with
 | error e=>exact hr
 | ok fl =>
  cases fl with
  | ret obj =>
   obtain⟨led,rfl,rfl⟩:=hr
   have hS:(s.heap.push (sObj #[] 0 (.fresh 0 0 led))).get? s.heap.objs.size=some (sObj #[] 0 (.fresh 0 0 led)):=Heap.get?_push_size _ rfl
   have hT:Shared.TypeIs { s with heap:=s.heap.push (sObj #[] 0 (.fresh 0 0 led)) } (.ref s.heap.objs.size) "set":=⟨_,hS,rfl⟩
   have li:=F.called_set.init.lookup
   have bi:=F.called_set.init.bind (.ref s.heap.objs.size)
   repeat (any_goals (first | assumption | wp_step))
   refine codeAny_mono (codeAny_call_builtin (R:=wants (fun r s₂=>r=.none∧∃ h' tk,s₂={ s with heap:=h',toks:=tk }∧PGot P w s.heap.objs.size items ps h'∧(∀ b o,b<s.heap.objs.size→s.heap.get? b=some o→h'.get? b=some o)) E) F.called_set.init.plain F.entry_set_init (check_set_init_1 hT ?_)) fun r₂ s₂ hr₂=>?_
   ·obtain⟨⟨oc,od,odt,osl⟩,ho,hc,nl,hd⟩:=hl
    have hc:oc=.type "list":=hc
    have hd:odt=.seq (items.map Value.ref).toArray nl:=hd
    subst hc;subst hd
    have ho':(s.heap.push (sObj #[] 0 (.fresh 0 0 led))).get? l=some _:=Heap.get?_push_of_some _ ho
    have s1:=F.sub_list_set
    have s2:=F.sub_list_frozenset
    have ne:(Value.type "list" == Value.type "dict")=false:=by decide
    have hl1:(s.heap.push (sObj #[] 0 (.fresh 0 0 led))).IsList l (items.map Value.ref).toArray:=⟨_,ho',rfl,nl,rfl⟩
    unfold Builtin.«set.__init__» noKeywords Builtin.Frozenset.updateFrom
    generalize hPI:pyIter=PI
    wp_walk
    subst hPI
    refine wpAny_pyIter_list hl1 (wpAny_bind (wpAny_runValue ?_))
    have lt:l<s.heap.objs.size:=Heap.lt_size ho
    have h3:A.in1.in1.in1.handled=none:=by simp[hh]
    have neI:l≠(s.heap.push (sObj #[] 0 (.fresh 0 0 led))).objs.size:=by rw[Heap.size_push];exact Nat.ne_of_lt (Nat.lt_succ_of_lt lt)
    have Sf:s.heap.objs.size∉[(s.heap.push (sObj #[] 0 (.fresh 0 0 led))).objs.size,l]:=by
     rw[Heap.size_push]
     intro z
     rcases List.mem_cons.mp z with z | z
     ·exact absurd z (Nat.ne_of_lt (Nat.lt_succ_self _))
     ·exact absurd (List.mem_singleton.mp z) (Nat.ne_of_gt lt)
    have W:=(Walks.list (prog:=P) (w:=w) h3 _ l neI (items.map Value.ref).toArray).toS
    have szn:(items.map Value.ref).toArray.size=ps.length:=by rw[List.size_toArray,List.length_map];exact Paired.length el
    refine ploop W (items:=items) (ps:=ps) (fun i v hv=>?_) s.heap.objs.size Sf (by show A.units+3<cLine;omega) szn hb ?wr ((items.map Value.ref).toArray.size-0) 0 _ (by omega) (Nat.zero_le _) ⟨⟨_,Heap.get?_push_size _ rfl,rfl,rfl⟩,hl1.push _⟩ ?g0 ?el ?fin
    case wr =>
     intro i s' st b hb' o e c
     obtain⟨⟨o',e',c',_⟩,_⟩:=st
     rw[List.mem_singleton.mp hb',e']at e
     cases e
     rw[c']at c
     exact absurd (Value.type.inj c) (by decide)
    case g0 =>
     rw[List.take_zero]
     exact pgot_fresh (led:=led) (Heap.get?_push_of_some _ hS)
    case el=>exact Paired.mapP el fun x y z=>tk_keeps z fun o e _=>Heap.get?_push_of_some _ (Heap.get?_push_of_some _ e)
    case fin =>
     rintro⟨h',g',d',tk',os'⟩ hm hS'
     have eg:g'=s.gens:=hm.gens
     have ed:d'=s.drawn:=hm.drawn
     have eo:os'=s.os:=hm.os
     subst eg;subst ed;subst eo
     refine wpAny_pure (wpAny_pure ⟨rfl,h',tk',rfl,hS',fun b o hb e=>hm.heap b o (fun z=>?_) (Heap.get?_push_of_some _ (Heap.get?_push_of_some _ e))⟩)
     rw[Heap.size_push]at z
     rcases List.mem_cons.mp z with z | z
     ·exact absurd z (Nat.ne_of_lt hb)
     ·exact absurd (List.mem_singleton.mp z) (Nat.ne_of_lt (Nat.lt_succ_of_lt hb))
    rw[List.getElem?_toArray,List.getElem?_map]at hv
    cases q:items[i]? with
    | none=>rw[q]at hv;cases hv
    | some b=>rw[q]at hv;exact⟨b,rfl,(Option.some.inj hv).symm⟩
   ·cases r₂ with
    | error e=>exact hr₂
    | ok g =>
     cases g with
     | ret r =>
      obtain⟨rfl,h',tk,rfl,hg,hk⟩:=hr₂
      repeat (any_goals (first | assumption | wp_step))
      exact h _ _ hg hk
     | _=>exact hr₂.elim
  | _=>exact hr.elim
end
section
variable {X:Cx}
theorem call_setP (hc:X.calm=true)(hu:X.A.units+5<cLine):CallR X (.type "set") (fun xs H Q=>∃ (l:Addr)(ps:List (Int×Int)),xs=[.ref l]∧RowAt H l ps∧ps.length≤60∧∀ (q:Addr)(H':Hp)(qs:List (Int×Int)),H q=none→Same H H'→PAt X.prog X.w H' q qs→(∀ p,p∈qs↔p∈ps)→Q (.ref q) H'):=by
 intro pins s σ H xs us Q I r h
 obtain⟨l,ps,rfl,⟨as,hl,hp⟩,hb,q⟩:=h
 obtain⟨u,rfl,rx⟩:=vals1 r
 cases rx
 obtain⟨_,its,n,rv,ho⟩:=(show ObjOk X.prog X.w H s.heap l (.lst (as.map V.ref)) from I.hok l _ hl)
 have ei:∀ {bs:List Addr}{us:List Value},Vals (bs.map V.ref) us→us=bs.map Value.ref:=by
  intro bs
  induction bs with
  | nil=>intro us h;cases h;rfl
  | cons b bs ih =>
   intro us h
   cases h with
   | cons r t =>
    obtain rfl:_=Value.ref b:=r
    rw[ih t];rfl
 rw[ei rv]at ho
 have el:Paired (fun b p=>TK X.prog X.w s.heap p b) as ps:=Paired.mapP hp fun b p e=>key_of (ks:=kP p) I.hok e
 have szb:=I.hok.fresh (Nat.le_refl s.heap.objs.size)
 refine set_pairs (I.ok.hd hc) hu ⟨_,ho,rfl,n,rfl⟩ el hb fun h' tk hg hk=>?_
 obtain⟨es,ep,t,qs,e,T,N,nd,mm,el'⟩:=hg
 refine⟨.ref s.heap.objs.size,_,I.laid (t':=tk) (o:=PSet s.heap.objs.size es ep t) (fun b u e=>hk b u (Heap.lt_size e) e) (Nat.le_refl _) (pset_ok e),rfl,q _ _ qs szb (same_new szb) ⟨es,ep,t,qs,upd_same,T,N,.refl _,nd,?_⟩ mm⟩
 refine Paired.mapP el' fun x y ⟨⟨b,e1,e2⟩,e3⟩=>⟨b,e1,(same_new szb) _ _ ?_⟩
 obtain⟨j,hj⟩:=List.getElem?_of_mem (e3 b (by rw[e1]))
 obtain⟨p',hp',hB⟩:=paired_get hp hj
 have k1:=key_of (ks:=kP p') I.hok hB
 have k2:TK X.prog X.w h' p' b:=tk_keeps k1 fun o e _=>hk b o (Heap.lt_size e) e
 have ey:y=p':=kP_inj (PySem.IsTupleKey.inj e2 k2)
 rw[ey]
 exact hB
theorem call_lenP:CallR X (.builtin "len") (fun xs H Q=>∃ p qs,xs=[.ref p]∧PAt X.prog X.w H p qs∧Q (.int qs.length) H):=by
 intro pins s σ H xs us Q I r h
 obtain⟨p,qs,rfl,hp,q⟩:=h
 obtain⟨u,rfl,rx⟩:=vals1 r
 cases rx
 obtain⟨es,ep,t,rs,_,e,T,N,pm,nd,el,_⟩:=hp.heap I
 have hl:=Paired.length el
 rw[Array.length_toList,pm.length_eq]at hl
 have hb:es.size≤76:=by have:=N;unfold TabN at this;omega
 refine call_len_set e ⟨rfl,rfl,rfl⟩ rfl T.fits (by omega) ⟨.int es.size,H,I.tok _,⟨_,rfl⟩,?_⟩
 rw[hl]
 exact q
theorem dedup_len:∀ (l acc:List Int),acc.Nodup→(l.foldl step_dedup acc).length≤acc.length+l.length∧((l.foldl step_dedup acc).length=acc.length+l.length↔(acc++l).Nodup)
 | [],acc,nd=>by simp[nd]
 | x::l,acc,nd=>by
  rw[List.foldl_cons]
  by_cases hx:x∈acc
  ·have e:step_dedup acc x=acc:=by unfold step_dedup;rw[if_pos (by simpa using hx)]
   rw[e]
   obtain⟨h1,h2⟩:=dedup_len l acc nd
   rw[List.length_cons]
   refine⟨by omega,⟨fun z=>by omega,fun z=>?_⟩⟩
   rw[List.nodup_append]at z
   exact absurd rfl (z.2.2 x hx x List.mem_cons_self)
  ·have e:step_dedup acc x=acc++[x]:=by unfold step_dedup;rw[if_neg (by simpa using hx)]
   rw[e]
   obtain⟨h1,h2⟩:=dedup_len l (acc++[x]) (List.nodup_append.mpr ⟨nd,by simp,fun a ha b hb z=>hx (by rw[←List.mem_singleton.mp hb,←z];exact ha)⟩)
   rw[List.length_append,List.length_singleton]at h1 h2
   rw[List.length_cons,show acc.length+(l.length+1)=acc.length+1+l.length by omega,h2,List.append_assoc]
   exact⟨h1,Iff.rfl⟩
theorem call_setN (hc:X.calm=true):CallR X (.type "set") (fun xs H Q=>∃ (p:Addr)(ns:List Int),xs=[.ref p]∧SqL X.K H p (ns.map V.int)∧ns.length≤1000∧∀ l S (n:Nat),H l=none→n≤ns.length→(n=ns.length↔ns.Nodup)→Q (.ref l) (upd H l (.set S n))):=by
 intro pins s σ H xs us Q I r h
 obtain⟨p,ns,rfl,hq,hz,q⟩:=h
 obtain⟨u,rfl,rx⟩:=vals1 r
 cases rx
 obtain⟨its,rv,pl,_⟩:=I.list hq
 have hl:=rv.length
 rw[List.length_map]at hl
 refine call_set_list (I.ok.hd hc) pl.isList (ns:=ns) (by simpa using ints_of_vals rv) (by rw[List.size_toArray,←hl];exact Nat.lt_of_le_of_lt (Nat.succ_le_succ hz) (by decide)) fun h' tk hS hk=>?_
 have en:(firstMet (fun i=>ns.getD i 0) its.toArray.size)=ns.foldl step_dedup []:=by
  unfold firstMet
  rw[List.size_toArray,←hl,getD_range]
 rw[en]at hS
 obtain⟨d1,d2⟩:=dedup_len ns [] List.nodup_nil
 refine⟨.ref s.heap.objs.size,_,I.laid (t':=tk) (o:=.set _ (ns.foldl step_dedup []).length) (fun b u e=>hk b u (Heap.lt_size e) e) (Nat.le_refl _) (show ObjOk X.prog X.w _ _ _ (.set _ (ns.foldl step_dedup []).length) from hS),rfl,q _ _ _ (I.hok.fresh (Nat.le_refl _)) (by simpa using d1) (by simpa using d2)⟩
end
end Wz
namespace Wz
open PySem L2
structure HSm (K:PySem.W.Frag)(mg:Str→Option Value)(o:Addr):Prop where
 e:OwnExc K o
 m:mg "Same" = some (.ref o)
 x:PySem.W.exmOne K (.ref o) (.ref o)=some true
def quadL (a b c d:Int):List (Int×Int):=[(a,b),(c,d),(a,c),(b,d),(a,d),(b,c)]
def spQuadr (co:Addr):Sp:=fun vs H Q E=>∃ a b c d:Int,vs=[.int a,.int b,.int c,.int d] ∧
 ([a,b,c,d].Nodup→∀ (l:Addr)(H':Hp),H l=none→Same H H'→RowAt H' l (quadL a b c d)→Q (.ref l) H')∧(¬ [a,b,c,d].Nodup→∀ H',Same H H'→E (.ref co) none H')
theorem four_ne {a b c d:Int}(h:[a,b,c,d].Nodup):a≠b∧a≠c∧a≠d∧b≠c∧b≠d∧c≠d:=by
 simp at h
 omega
theorem quad_id {a b c d:Int}(h:[a,b,c,d].Nodup)(f:Int→Int):(quadL a b c d).foldl swapF f=f:=by
 obtain⟨h1,h2,h3,h4,h5,h6⟩:=four_ne h
 funext x
 unfold quadL
 simp only[List.foldl_cons,List.foldl_nil,swapF]
 by_cases e1:x=a
 ·subst e1;simp[h1,h2,h3,h4,h5,h6,h1.symm,h2.symm,h3.symm,h4.symm,h5.symm,h6.symm]
 by_cases e2:x=b
 ·subst e2;simp[h1,h2,h3,h4,h5,h6,h1.symm,h2.symm,h3.symm,h4.symm,h5.symm,h6.symm]
 by_cases e3:x=c
 ·subst e3;simp[h1,h2,h3,h4,h5,h6,h1.symm,h2.symm,h3.symm,h4.symm,h5.symm,h6.symm]
 by_cases e4:x=d
 ·subst e4;simp[h1,h2,h3,h4,h5,h6,h1.symm,h2.symm,h3.symm,h4.symm,h5.symm,h6.symm]
 simp[e1,e2,e3,e4]
theorem quad_keys {a b c d:Int}(h:[a,b,c,d].Nodup):((quadL a b c d).map keyR).Nodup:=by
 obtain⟨h1,h2,h3,h4,h5,h6⟩:=four_ne h
 have key:∀ {a b c d:Int},keyP a b=keyP c d→(a=c∧b=d)∨(a=d∧b=c):=fun {a b c d} e=>by
  unfold keyP at e
  split at e<;>split at e<;>(have e1:=(Prod.mk.inj e).1;have e2:=(Prod.mk.inj e).2;omega)
 unfold quadL
 simp only[List.map_cons,List.map_nil,List.nodup_cons,List.mem_cons,List.not_mem_nil,or_false,not_or,List.nodup_nil,and_true,not_false_eq_true,keyR]
 refine⟨⟨?_,?_,?_,?_,?_⟩,⟨?_,?_,?_,?_⟩,⟨?_,?_,?_⟩,⟨?_,?_⟩,?_⟩<;>(intro z;rcases key z with ⟨y1,y2⟩ | ⟨y1,y2⟩<;>omega)
theorem paper_le {W:List (Int×Int)}(nd:(keysL W).Nodup)(ps:List (Int×Int)):(paperL W ps).length≤W.length+2*ps.length:=by
 have e:(paperL W ps).length=(keysL (paperL W ps)).length:=by simp[keysL]
 rw[e]
 have:=nodup_len (m:=keysL W++(ps.map (·.1)++ps.map (·.2))) (nodup_paper ps nd) fun x hx=>by
  rcases (mem_paper ps).mp hx with z | ⟨p,hp,z | z⟩
  ·exact List.mem_append_left _ z
  ·exact List.mem_append_right _ (List.mem_append_left _ (by rw[z];exact List.mem_map_of_mem (f:=(·.1)) hp))
  ·exact List.mem_append_right _ (List.mem_append_right _ (by rw[z];exact List.mem_map_of_mem (f:=(·.2)) hp))
 rw[List.length_append,List.length_append,List.length_map,List.length_map]at this
 have e2:(keysL W).length=W.length:=by simp[keysL]
 omega
end Wz
namespace Wk07
open PySem L2 Wz
def top (i:Nat):Stmt:=PySem.Challenge.pw_lastwaltz_k07_a_quadrille.main.body.getD i (.Pass ⟨0,0,0,0⟩)
structure Txt (mg:Str→Option Value):Prop where
 len:mg "len" = none
 range:mg "range" = none
 isinstance:mg "isinstance" = none
 tuple:mg "tuple" = none
 list:mg "list" = none
 int:mg "int" = none
 bool:mg "bool" = none
 all:mg "all" = none
 any:mg "any" = none
 sorted:mg "sorted" = none
 reversed:mg "reversed" = none
 bset:mg "set" = none
 bmin:mg "min" = none
 bmax:mg "max" = none
 dict:mg "dict" = none
 zip:mg "zip" = none
 enumerate:mg "enumerate" = none
 sum:mg "sum" = none
 str:mg "str" = none
section
variable {P:Program}{w:World}{K:PySem.W.Frag}{mg:Str→Option Value}{base:Heap}{c:HX}{co cq f P0:Addr}{fd:FuncData}
abbrev st_quadrille:Stmt:=top 4
abbrev n_quadrille:List Str:=["a","b","c","d"]
theorem sc_quadrille:FnScope n_quadrille ["a","b","c","d"] (defScope st_quadrille):=fsc
abbrev st_law_cell_at:Stmt:=top 6
abbrev n_law_cell_at:List Str:=["_law_script","_law_k"]
theorem sc_law_cell_at:FnScope n_law_cell_at ["_law_script","_law_k"] (defScope st_law_cell_at):=fsc
abbrev st_law_whole:Stmt:=top 7
abbrev n_law_whole:List Str:=["_law_found"]
theorem sc_law_whole:FnScope n_law_whole ["_law_found"] (defScope st_law_whole):=fsc
abbrev st_law_size:Stmt:=top 8
abbrev n_law_size:List Str:=["_law_cell"]
theorem sc_law_size:FnScope n_law_size ["_law_cell"] (defScope st_law_size):=fsc
abbrev st_law_draws:Stmt:=top 9
abbrev n_law_draws:List Str:=["_law_cell","_law_many","_law_base","_law_left","_law_row_here","_law_count","_law_k","_law_now"]
theorem sc_law_draws:FnScope n_law_draws ["_law_cell","_law_many","_law_base"] (defScope st_law_draws):=fsc
abbrev st_law_draws_from:Stmt:=top 10
abbrev n_law_draws_from:List Str:=["_law_script","_law_start","_law_most","_law_base","_law_row_here","_law_cell","_law_drawn"]
theorem sc_law_draws_from:FnScope n_law_draws_from ["_law_script","_law_start","_law_most","_law_base"] (defScope st_law_draws_from):=fsc
abbrev st_law_guest:Stmt:=top 11
abbrev n_law_guest:List Str:=["_law_k","_law_cell","_law_left","_law_turn","_law_number"]
theorem sc_law_guest:FnScope n_law_guest ["_law_k","_law_cell"] (defScope st_law_guest):=fsc
abbrev st_law_key:Stmt:=top 12
abbrev n_law_key:List Str:=["_law_one","_law_other"]
theorem sc_law_key:FnScope n_law_key ["_law_one","_law_other"] (defScope st_law_key):=fsc
abbrev st_law_pair:Stmt:=top 13
abbrev n_law_pair:List Str:=["_law_found"]
theorem sc_law_pair:FnScope n_law_pair ["_law_found"] (defScope st_law_pair):=fsc
abbrev st_law_row:Stmt:=top 14
abbrev n_law_row:List Str:=["_law_found"]
theorem sc_law_row:FnScope n_law_row ["_law_found"] (defScope st_law_row):=fsc
abbrev st_law_paper:Stmt:=top 15
abbrev n_law_paper:List Str:=["_law_row_here","_law_worn","_law_one","_law_other","_law_kept"]
theorem sc_law_paper:FnScope n_law_paper ["_law_row_here","_law_worn"] (defScope st_law_paper):=fsc
abbrev st_law_pairs_from:Stmt:=top 16
abbrev n_law_pairs_from:List Str:=["_law_draws_here","_law_many","_law_cell","_law_row_here","_law_drawn","_law_one","_law_other"]
theorem sc_law_pairs_from:FnScope n_law_pairs_from ["_law_draws_here","_law_many","_law_cell"] (defScope st_law_pairs_from):=fsc
abbrev st_law:Stmt:=top 17
abbrev n_law:List Str:=["_law_script","_law_names","_law_first","_law_four","_law_bend","_law_unlike","_law_worn","_law_found","_law_word","_law_behind","_law_due"]
theorem sc_law:FnScope n_law ["_law_script"] (defScope st_law):=fsc
variable (T:Txt mg)(UO:HSm K mg co)
include T UO
theorem ok_quadrille (F:Fun K "quadrille" "quadrille" st_quadrille f fd) : FnOk P w K mg base (CXD P w) 2 f fd ["a","b","c","d"] (spQuadr co):=by
 refine F.okX sc_quadrille (fun vs H Q E h=>?_) (fun cdv A outer s H vs Q E hr h=>?_)
 ·obtain⟨a,b,c,d,rfl,_⟩:=h
  rfl
 ·obtain⟨a,b,c',d,rfl,k1,k2⟩:=h
  have hu:=hu_of hr
  have two:(2:Nat)≤sizeLine:=by decide
  have four:(4:Nat)≤sizeLine:=by decide
  have six:(6:Nat)≤sizeLine:=by decide
  refine⟨_,pss_cons (ps_if (pt_cmpR op_lt (pe_callB call_lenS (by rfl) T.len PySem.boot_len (pa1 (pe_callTy (call_setN rfl) (by rfl) T.bset PyProof.Rows.boot_set (pa1 (pe_lst (pa_cons (pv 0) (pa_cons (pv 1) (pa_cons (pv 2) (pa_cons (pv 3) pa_nil))))))))) (pe_int) (nomark _)) (pss_one (ps_raise UO.e flies_cx rfl hr.hd rfl UO.m (pe_str))) (pss_nil)) (
   pss_one (ps_ret (pe_lst (pa_cons (pe_tup (pa2 (pv 0) (pv 1))) (pa_cons (pe_tup (pa2 (pv 2) (pv 3))) (pa_cons (pe_tup (pa2 (pv 0) (pv 2))) (pa_cons (pe_tup (pa2 (pv 1) (pv 3))) (pa_cons (pe_tup (pa2 (pv 0) (pv 3))) (pa_cons (pe_tup (pa2 (pv 1) (pv 2))) pa_nil))))))))),?_⟩
  refine⟨_,rfl,_,rfl,_,rfl,_,rfl,four,fun l hl=>?_⟩
  have s1:=same_new (o:=.lst [V.int a,V.int b,V.int c',V.int d]) hl
  refine⟨l,[a,b,c',d],rfl,SqL.of upd_same,by show (4:Nat)≤1000;decide,fun q S n hq hn hnd=>?_⟩
  have s2:=same_new (o:=.set S n) hq
  refine⟨q,_,_,rfl,upd_same,_,_,rfl,rfl,_,rfl,?_⟩
  have s12:=s1.trans s2
  generalize upd (upd H l (.lst [V.int a,V.int b,V.int c',V.int d])) q (.set S n)=H2 at s12 ⊢
  have hn:n≤4:=hn
  have hnd:n=4↔[a,b,c',d].Nodup:=hnd
  by_cases nd:[a,b,c',d].Nodup
  ·rw[decide_eq_false (by have:=hnd.mpr nd;omega)]
   refine iteF ⟨_,rfl,_,rfl,two,fun t1 h1=>⟨_,rfl,_,rfl,two,fun t2 h2=>⟨_,rfl,_,rfl,two,fun t3 h3=>⟨_,rfl,_,rfl,two,fun t4 h4=>⟨_,rfl,_,rfl,two,fun t5 h5=>⟨_,rfl,_,rfl,two,fun t6 h6=>⟨six,fun lq hlq=>?_⟩⟩⟩⟩⟩⟩⟩
   have g1:=same_new (o:=.tup [V.int a,V.int b]) h1
   have g2:=same_new (o:=.tup [V.int c',V.int d]) h2
   have g3:=same_new (o:=.tup [V.int a,V.int c']) h3
   have g4:=same_new (o:=.tup [V.int b,V.int d]) h4
   have g5:=same_new (o:=.tup [V.int a,V.int d]) h5
   have g6:=same_new (o:=.tup [V.int b,V.int c']) h6
   have g7:=same_new (o:=.lst [V.ref t1,V.ref t2,V.ref t3,V.ref t4,V.ref t5,V.ref t6]) hlq
   have g67:=g6.trans g7
   have g57:=g5.trans g67
   have g47:=g4.trans g57
   have g37:=g3.trans g47
   have g27:=g2.trans g37
   have g17:=g1.trans g27
   refine k1 nd lq _ (s12.free (g1.free (g2.free (g3.free (g4.free (g5.free (g6.free hlq))))))) (s12.trans g17) ⟨[t1,t2,t3,t4,t5,t6],upd_same,?_⟩
   exact .cons (g27 _ _ upd_same) (.cons (g37 _ _ upd_same) (.cons (g47 _ _ upd_same) (.cons (g57 _ _ upd_same) (.cons (g67 _ _ upd_same) (.cons (g7 _ _ upd_same) .nil)))))
  ·rw[decide_eq_true (by have:n≠4:=fun z=>nd (hnd.mp z);omega)]
   exact iteT (k2 nd H2 s12)
theorem ok_law_cell_at (F:Fun K "_law_cell_at" "_law_cell_at" st_law_cell_at f fd) : FnOk P w K mg base CX0 1 f fd ["_law_script","_law_k"] (spCell K):=by
 refine F.ok sc_law_cell_at (fun vs H Q E h=>?_) (fun cdv A outer s H vs Q E hr h=>?_)
 ·obtain⟨a,ns,k,rfl,_⟩:=h
  rfl
 ·obtain⟨a,ns,i,rfl,hS,hi,k⟩:=h
  refine⟨_,pss_cons (ps_if (pt_cmpR op_lt (pv 1) (pe_callB call_len_seq (by rfl) T.len PySem.boot_len (pa_cons (pv 0) pa_nil)) (nomark _)) (pss_one (ps_ret (pe_ix ix_list (pv 0) (pv 1) (fun _ _=>rfl)))) pss_nil) (pss_one (ps_ret pe_int)),?_⟩
  refine⟨_,rfl,_,rfl,a,_,rfl,.inl hS,_,_,rfl,rfl,_,rfl,?_⟩
  unfold cellAt at k
  rw[List.length_map]
  by_cases hc:i<(ns.length:Int)
  ·rw[if_pos hc]at k
   rw[decide_eq_true hc]
   refine iteT ⟨_,rfl,_,rfl,a,_,_,_,rfl,rfl,hS,?_,k⟩
   have e:i=((i.toNat:Nat):Int):=(Int.toNat_of_nonneg hi).symm
   have hl:i.toNat<ns.length:=by omega
   rw[e]
   refine atI_nat ?_
   rw[List.getElem?_map,List.getD_eq_getElem?_getD,Int.toNat_natCast,List.getElem?_eq_getElem hl]
   rfl
  ·rw[if_neg hc]at k
   rw[decide_eq_false hc]
   exact iteF k
theorem ok_law_whole (F:Fun K "_law_whole" "_law_whole" st_law_whole f fd) : FnOk P w K mg base CX0 1 f fd ["_law_found"] spWhole:=by
 refine F.ok sc_law_whole (fun vs H Q E h=>?_) (fun cdv A outer s H vs Q E hr h=>?_)
 ·obtain⟨i,rfl,_⟩:=h
  rfl
 ·obtain⟨i,rfl,k⟩:=h
  refine⟨_,pss_one (ps_ret (pe_and (pe_callB call_isi (by rfl) T.isinstance PyProof.Rows.boot_isinstance (pa_cons (pv 0) (pa_cons (pe_bltn (v:=.ty "int") (by rfl) T.int PyProof.Rows.boot_int rfl) pa_nil))) (pe_one (pe_not (pe_callB call_isi (by rfl) T.isinstance PyProof.Rows.boot_isinstance (pa_cons (pv 0) (pa_cons (pe_bltn (v:=.ty "bool") (by rfl) T.bool PyProof.Rows.boot_bool rfl) pa_nil))))))),?_⟩
  refine⟨_,rfl,_,_,_,true,rfl,TyOf.int i,rfl,_,rfl,iteT ?_⟩
  exact⟨_,rfl,_,_,_,false,rfl,TyOf.int i,rfl,_,rfl,k⟩
theorem ok_law_size (F:Fun K "_law_size" "_law_size" st_law_size f fd) : FnOk P w K mg base CX0 1 f fd ["_law_cell"] spSize:=by
 refine F.ok sc_law_size (fun vs H Q E h=>?_) (fun cdv A outer s H vs Q E hr h=>?_)
 ·obtain⟨c,rfl,_⟩:=h
  rfl
 ·obtain⟨c,rfl,k⟩:=h
  refine⟨_,pss_cons (ps_if (pt_cmpR op_lt (pv 0) pe_int (nomark _)) (pss_one (ps_ret (pe_un un_neg (pv 0)))) pss_nil) (pss_one (ps_ret (pv 0))),?_⟩
  refine⟨_,rfl,_,_,rfl,rfl,_,rfl,?_⟩
  unfold absI at k
  by_cases hc:c<0
  ·rw[if_pos hc]at k
   rw[decide_eq_true hc]
   exact iteT ⟨_,rfl,_,rfl,k⟩
  ·rw[if_neg hc]at k
   rw[decide_eq_false hc]
   exact iteF ⟨_,rfl,k⟩
theorem ok_law_draws (F:Fun K "_law_draws" "_law_draws" st_law_draws f fd)(C_law_size:Callee P w K mg base "_law_size" 1 ["_law_cell"] spSize) : FnOk P w K mg base CX0 2 f fd ["_law_cell","_law_many","_law_base"] spDraws:=by
 refine F.ok sc_law_draws (fun vs H Q E h=>?_) (fun cdv A outer s H vs Q E hr h=>?_)
 ·obtain⟨c,m,b,rfl,_⟩:=h
  rfl
 ·obtain⟨c,m,b,rfl,⟨m0,m1⟩,⟨b0,b1⟩,k⟩:=h
  refine⟨_,pss_cons (ps_set (i:=3) sc_law_draws.nd rfl (Or.inl rfl) (pcall C_law_size hr rfl (pa_cons (pv 0) pa_nil)))
   (pss_cons (ps_set (i:=4) sc_law_draws.nd rfl (Or.inl rfl) (pe_lst pa_nil))
   (pss_cons (ps_if (pt_cmpR op_ge (pv 3) (pe_op op_pow pe_int pe_int) (nomark _))
    (pss_cons (ps_set (i:=3) sc_law_draws.nd rfl (Or.inl rfl) (pe_op op_sub (pv 3) (pe_op op_pow pe_int pe_int)))
    (pss_cons (ps_set (i:=5) sc_law_draws.nd rfl (Or.inl rfl) (pe_op op_mod (pv 3) (pe_op op_add (pv 1) pe_int)))
    (pss_cons (ps_set (i:=3) sc_law_draws.nd rfl (Or.inl rfl) (pe_op op_fdiv (pv 3) (pe_op op_add (pv 1) pe_int)))
    (pss_cons (ps_for PassesOwn.never rfl (pi_range1 rfl T.range (pa_cons (pv 5) pa_nil)) (pg_name (i:=6) sc_law_draws.nd rfl (Or.inl rfl))
     (pss_cons (ps_expr (pe_bm PySem.F.plainAttrs_list PySem.F.slot_list_append PySem.F.type_list_append mt_append (pv 4) (pa_cons (pe_op op_mod (pv 3) (pv 2)) pa_nil)))
     (pss_one (ps_set (i:=3) sc_law_draws.nd rfl (Or.inl rfl) (pe_op op_fdiv (pv 3) (pv 2))))))
    (pss_one (ps_ret (pv 4)))))))
    pss_nil)
   (pss_cons (ps_set (i:=7) sc_law_draws.nd rfl (Or.inl rfl) (pe_op op_add (pe_op op_mod (pv 3) pe_int) pe_int))
   (pss_cons (ps_for PassesOwn.never rfl (pi_range1 rfl T.range (pa_cons (pe_op op_mod (pv 3) (pe_op op_add (pv 1) pe_int)) pa_nil)) (pg_name (i:=6) sc_law_draws.nd rfl (Or.inl rfl))
     (pss_cons (ps_set (i:=7) sc_law_draws.nd rfl (Or.inl rfl) (pe_op op_mod (pe_op op_mul (pv 7) pe_int) pe_int))
     (pss_one (ps_expr (pe_bm PySem.F.plainAttrs_list PySem.F.slot_list_append PySem.F.type_list_append mt_append (pv 4) (pa_cons (pe_op op_mod (pe_op op_fdiv (pe_op op_mod (pe_op op_mul (pv 7) pe_int) pe_int) pe_int) (pv 2)) pa_nil))))))
   (pss_one (ps_ret (pv 4))))))),?_⟩
  refine⟨_,rfl,_,rfl,by show 0≤sizeLine;exact Nat.zero_le _,fun l hl=>?_⟩
  have big:(10:Int) ^ (18:Int).toNat=1000000000000000000:=by decide
  have room:∀ ds:List Int,(ds.length:Int)≤1000→(ds.map V.int).length<sizeLine:=fun ds h=>by rw[List.length_map];exact small1000 (by omega)
  have app:∀ (ds:List Int)(z:Int),upd (upd H l (.lst (ds.map V.int))) l (.lst (ds.map V.int++[V.int z]))=upd H l (.lst ((ds++[z]).map V.int)):=fun ds z=>by rw[upd_upd,List.map_append];rfl
  have inb:∀ (ds:List Int)(z:Int),(∀ d∈ds,0≤d∧d<b)→∀ d∈ds++[z%b],0≤d∧d<b:=fun ds z h d hd=>by
   rcases List.mem_append.mp hd with hd | hd
   ·exact h d hd
   ·rw[List.mem_singleton.mp hd];exact⟨Int.emod_nonneg _ (by omega),Int.emod_lt_of_pos _ b0⟩
  refine⟨_,rfl,_,_,rfl,rfl,⟨by decide,by decide,by decide⟩,_,_,rfl,rfl,_,rfl,?_⟩
  refine ite2 (fun _=>?_) (fun _=>?_)
  ·refine⟨_,rfl,_,_,rfl,rfl,⟨by decide,by decide,by decide⟩,_,_,rfl,rfl,?_⟩
   refine⟨_,rfl,_,rfl,_,_,rfl,rfl,_,_,rfl,rfl,by show (0:Int)<m+1;omega,?_⟩
   refine⟨_,rfl,_,rfl,_,_,rfl,rfl,_,_,rfl,rfl,⟨by show (0:Int)<m+1;omega,by show m+1<1073741824;omega⟩,?_⟩
   have cb:=Int.emod_lt_of_pos (absI c-(10:Int) ^ (18:Int).toNat) (show 0<m+1 by omega)
   have cn:=Int.emod_nonneg (absI c-(10:Int) ^ (18:Int).toNat) (show m+1≠0 by omega)
   refine⟨_,rfl,_,rfl,by omega,by omega,for_range (n:=((absI c-(10:Int) ^ (18:Int).toNat)%(m+1)).toNat) (fun i σ H2=>∃ (z:Int)(v:Option V)(ds:List Int),σ=[some (.int c),some (.int m),some (.int b),some (.int z),some (.ref l),some (.int ((absI c-(10:Int) ^ (18:Int).toNat)%(m+1))),v,none]∧H2=upd H l (.lst (ds.map V.int))∧ds.length=i∧∀ d∈ds,0≤d∧d<b)
    ⟨_,none,[],rfl,rfl,rfl,fun _ z=>nomatch z⟩ ?_ ?_⟩
   ·rintro i σ H2 hi ⟨z,v,ds,rfl,rfl,hlen,hds⟩
    refine⟨_,rfl,.inl ⟨rfl,_,SqL.of upd_same⟩,_,rfl,_,rfl,_,_,rfl,rfl,b0,l,_,_,rfl,rfl,upd_same,room ds (by omega),?_⟩
    refine⟨_,rfl,_,rfl,_,_,rfl,rfl,⟨b0,b1⟩,?_⟩
    exact⟨_,_,ds++[z%b],rfl,app ds _,by rw[List.length_append,hlen];rfl,inb ds z hds⟩
   ·rintro σ H2 ⟨z,v,ds,rfl,rfl,hlen,hds⟩
    exact⟨_,rfl,k l ds hl hds (by omega)⟩
  ·refine⟨_,rfl,_,_,rfl,rfl,by show (0:Int)<2147483629;decide,_,_,rfl,rfl,?_⟩
   have cb:=Int.emod_lt_of_pos (absI c) (show 0<m+1 by omega)
   have cn:=Int.emod_nonneg (absI c) (show m+1≠0 by omega)
   refine⟨_,rfl,_,rfl,_,_,rfl,rfl,_,_,rfl,rfl,by show (0:Int)<m+1;omega,?_⟩
   refine⟨_,rfl,by omega,by omega,for_range (n:=(absI c%(m+1)).toNat) (fun i σ H2=>∃ (z:Int)(v:Option V)(ds:List Int),σ=[some (.int c),some (.int m),some (.int b),some (.int (absI c)),some (.ref l),none,v,some (.int z)]∧H2=upd H l (.lst (ds.map V.int))∧ds.length=i∧∀ d∈ds,0≤d∧d<b)
    ⟨_,none,[],rfl,rfl,rfl,fun _ z=>nomatch z⟩ ?_ ?_⟩
   ·rintro i σ H2 hi ⟨z,v,ds,rfl,rfl,hlen,hds⟩
    refine⟨_,rfl,_,_,rfl,rfl,.inr ⟨by decide,by decide⟩,_,_,rfl,rfl,by show (0:Int)<2147483647;decide,?_⟩
    refine⟨_,rfl,.inl ⟨rfl,_,SqL.of upd_same⟩,_,rfl,_,_,rfl,rfl,.inr ⟨by decide,by decide⟩,_,_,rfl,rfl,by show (0:Int)<998244353;decide,_,_,rfl,rfl,⟨by decide,by decide⟩,_,rfl,_,_,rfl,rfl,b0,l,_,_,rfl,rfl,upd_same,room ds (by omega),?_⟩
    exact⟨_,_,ds++[_],rfl,app ds _,by rw[List.length_append,hlen];rfl,inb ds _ hds⟩
   ·rintro σ H2 ⟨z,v,ds,rfl,rfl,hlen,hds⟩
    exact⟨_,rfl,k l ds hl hds (by omega)⟩
theorem ok_law_draws_from (F:Fun K "_law_draws_from" "_law_draws_from" st_law_draws_from f fd)(C_law_draws:Callee P w K mg base "_law_draws" 2 ["_law_cell","_law_many","_law_base"] spDraws) : FnOk P w K mg base CX0 3 f fd ["_law_script","_law_start","_law_most","_law_base"] (spFrom K):=by
 refine F.ok sc_law_draws_from (fun vs H Q E h=>?_) (fun cdv A outer s H vs Q E hr h=>?_)
 ·obtain⟨a,ns,st,m,b,rfl,_⟩:=h
  rfl
 ·obtain⟨a,ns,st,m,b,rfl,hS,⟨s0,s1⟩,⟨m0,m1⟩,⟨b0,b1⟩,k⟩:=h
  refine⟨_,pss_cons (ps_set (i:=4) sc_law_draws_from.nd rfl (Or.inl rfl) (pe_lst pa_nil))
   (pss_cons (ps_for PassesOwn.never rfl (pi_list (pe_slice sl_list (pv 0) (po_some (pv 1)) (po_some pe_int))) (pg_name (i:=5) sc_law_draws_from.nd rfl (Or.inl rfl))
    (pss_one (ps_for PassesOwn.never rfl (pi_list (pcall C_law_draws hr rfl (pa_cons (pv 5) (pa_cons pe_int (pa_cons (pv 3) pa_nil))))) (pg_name (i:=6) sc_law_draws_from.nd rfl (Or.inl rfl))
     (pss_one (ps_if (pt_cmpR op_lt (pe_callB call_len_seq (by rfl) T.len PySem.boot_len (pa_cons (pv 4) pa_nil)) (pv 2) (nomark _))
      (pss_one (ps_expr (pe_bm PySem.F.plainAttrs_list PySem.F.slot_list_append PySem.F.type_list_append mt_append (pv 4) (pa_cons (pv 6) pa_nil)))) pss_nil)))))
   (pss_one (ps_ret (pv 4)))),?_⟩
  refine⟨by show 0≤sizeLine;exact Nat.zero_le _,fun l hl=>?_⟩
  have hS':SqL K (upd H l (.lst [])) a (ns.map V.int):=(same_new hl).seq hS
  refine⟨_,rfl,_,rfl,_,rfl,_,rfl,a,_,rfl,hS',fun q hq=>?_⟩
  have hlq:l≠q:=fun e=>by rw[←e,upd_same]at hq;cases hq
  have hHq:H q=none:=by rw[upd_ne (Ne.symm hlq)]at hq;exact hq
  obtain⟨zs,hzs⟩:∃ zs:List Int,cutV (ns.map V.int) (some st) (some 63)=zs.map V.int:=⟨(ns.drop (HT.sIx ns.length 0 (some st))).take (HT.sIx ns.length ns.length (some 63)-HT.sIx ns.length 0 (some st)),by unfold cutV;rw[List.length_map,List.map_take,List.map_drop]⟩
  rw[hzs]
  refine⟨q,rfl,⟨_,SqL.of upd_same⟩,for_list (K:=K) (a:=q) (xs:=zs.map V.int) (fun i σ H2=>∃ (v u:Option V)(ds:List Int),σ=[some (.ref a),some (.int st),some (.int m),some (.int b),some (.ref l),v,u]∧Same H H2∧H2 q=some (.lst (zs.map V.int))∧H2 l=some (.lst (ds.map V.int))∧(∀ d∈ds,0≤d∧d<b)∧(ds.length:Int)≤m)
   ⟨none,none,[],rfl,same_upd (same_new hl) hHq,upd_same,by rw[upd_ne hlq,upd_same];rfl,(fun _ z=>nomatch z),by simpa using m0⟩ (fun i σ H2 _ ⟨_,_,_,_,_,h,_⟩=>SqL.of h) ?_ ?_⟩
  ·rintro i y σ H2 hi ⟨v,u,ds,rfl,s2,hq2,hl2,hds,hlen⟩
   obtain⟨z,_,rfl⟩:=map_get hi
   refine⟨_,rfl,_,rfl,z,24,b,rfl,⟨by decide,by decide⟩,⟨b0,b1⟩,fun r es hr2 hes hel=>?_⟩
   have hrq:q≠r:=ne_of_none hq2 hr2
   have hrl:l≠r:=ne_of_none hl2 hr2
   refine⟨r,rfl,⟨_,SqL.of upd_same⟩,for_list (K:=K) (a:=r) (xs:=es.map V.int) (fun i σ H3=>∃ (u:Option V)(ds:List Int),σ=[some (.ref a),some (.int st),some (.int m),some (.int b),some (.ref l),some (.int z),u]∧Same H H3∧H3 q=some (.lst (zs.map V.int))∧H3 r=some (.lst (es.map V.int))∧H3 l=some (.lst (ds.map V.int))∧(∀ d∈ds,0≤d∧d<b)∧(ds.length:Int)≤m)
    ⟨u,ds,rfl,same_upd s2 (s2.free hr2),by rw[upd_ne hrq];exact hq2,upd_same,by rw[upd_ne hrl];exact hl2,hds,hlen⟩ (fun i σ H2 _ ⟨_,_,_,_,_,h,_⟩=>SqL.of h) ?_ ?_⟩
   ·rintro i y σ H3 hi ⟨u,ds,rfl,s3,hq3,hr3,hl3,hds,hlen⟩
    obtain⟨d,hd,rfl⟩:=map_get hi
    refine⟨_,rfl,l,_,rfl,.inl (SqL.of hl3),_,rfl,_,_,rfl,rfl,_,rfl,?_⟩
    rw[List.length_map]
    refine ite2 (fun hc=>?_) (fun _=>?_)
    ·have hc:=of_decide_eq_true hc
     refine⟨_,rfl,.inl ⟨rfl,_,SqL.of hl3⟩,_,rfl,l,_,_,rfl,rfl,hl3,by rw[List.length_map];exact small1000 (by omega),?_⟩
     refine⟨_,ds++[d],rfl,same_upd s3 hl,by rw[upd_ne (Ne.symm hlq)];exact hq3,by rw[upd_ne (Ne.symm hrl)];exact hr3,by rw[upd_same,List.map_append];rfl,fun x hx=>?_,by rw[List.length_append];show ((ds.length+1:Nat):Int)≤m;omega⟩
     rcases List.mem_append.mp hx with hx | hx
     ·exact hds x hx
     ·rw[List.mem_singleton.mp hx];exact hes d (List.mem_of_getElem? hd)
    ·exact⟨_,ds,rfl,s3,hq3,hr3,hl3,hds,hlen⟩
   ·rintro σ H3 ⟨u,ds,rfl,s3,hq3,hr3,hl3,hds,hlen⟩
    exact⟨_,_,ds,rfl,s3,hq3,hl3,hds,hlen⟩
  ·rintro σ H2 ⟨v,u,ds,rfl,s2,hq2,hl2,hds,hlen⟩
   exact⟨_,rfl,k l H2 ds hl s2 hl2 hds hlen⟩
theorem ok_law_guest (F:Fun K "_law_guest" "_law_guest" st_law_guest f fd)(C_law_size:Callee P w K mg base "_law_size" 1 ["_law_cell"] spSize) : FnOk P w K mg base CX0 2 f fd ["_law_k","_law_cell"] spGuest:=by
 refine F.ok sc_law_guest (fun vs H Q E h=>?_) (fun cdv A outer s H vs Q E hr h=>?_)
 ·obtain⟨k,c,rfl,_⟩:=h
  rfl
 ·obtain⟨i,c,rfl,⟨i0,i1⟩,k⟩:=h
  refine⟨_,pss_cons (ps_set (i:=2) sc_law_guest.nd rfl (Or.inl rfl) (pcall C_law_size hr rfl (pa_cons (pv 1) pa_nil)))
   (pss_cons (ps_set (i:=3) sc_law_guest.nd rfl (Or.inl rfl) (pe_op op_add pe_int (pe_op op_mod (pe_op op_mul (pv 2) pe_int) pe_int)))
   (pss_cons (ps_set (i:=4) sc_law_guest.nd rfl (Or.inl rfl) (pe_op op_mod (pe_op op_add (pe_op op_mul (pv 0) (pv 3)) (pe_op op_fdivB (pv 2) pe_int)) pe_int))
   (pss_cons (ps_if (pt_cmpR op_eq (pe_op op_mod (pv 2) pe_int) pe_int (nomark _)) (pss_one (ps_ret (pe_op op_add (pv 4) pe_int))) pss_nil)
   (pss_one (ps_ret (pv 4)))))),?_⟩
  refine⟨_,rfl,_,rfl,?_⟩
  refine⟨_,rfl,_,_,rfl,rfl,.inr ⟨by decide,by decide⟩,_,_,rfl,rfl,by show (0:Int)<2147483646;decide,_,_,rfl,rfl,?_⟩
  refine⟨_,rfl,_,rfl,_,_,rfl,rfl,.inl ⟨by show (-(2 ^ 64):Int)<i;omega,by show i<(2 ^ 64:Int);omega⟩,_,rfl,_,_,rfl,rfl,⟨by decide,by decide⟩,_,_,rfl,rfl,_,_,rfl,rfl,by show (0:Int)<2147483647;decide,?_⟩
  refine⟨_,rfl,_,_,rfl,rfl,by show (0:Int)<5;decide,rfl,_,rfl,?_⟩
  unfold gst at k
  dsimp only at k
  by_cases hc:absI c%5=4
  ·rw[if_pos hc]at k
   rw[decide_eq_true (show V.int (absI c%5)=V.int 4 by rw[hc])]
   exact iteT ⟨_,rfl,_,_,rfl,rfl,k⟩
  ·rw[if_neg hc]at k
   rw[decide_eq_false (show ¬ V.int (absI c%5)=V.int 4 from fun z=>hc (by injection z))]
   exact iteF ⟨_,rfl,k⟩
theorem ok_law_key (F:Fun K "_law_key" "_law_key" st_law_key f fd) : FnOk P w K mg base CX0 1 f fd ["_law_one","_law_other"] spKey:=by
 refine F.ok sc_law_key (fun vs H Q E h=>?_) (fun cdv A outer s H vs Q E hr h=>?_)
 ·obtain⟨a,b,rfl,_⟩:=h
  rfl
 ·obtain⟨a,b,rfl,k⟩:=h
  refine⟨_,pss_cons (ps_if (pt_cmpR op_lt (pv 1) (pv 0) (nomark _)) (pss_one (ps_ret (pe_tup (pa2 (pv 1) (pv 0))))) (pss_nil)) (
   pss_one (ps_ret (pe_tup (pa2 (pv 0) (pv 1))))),?_⟩
  refine⟨_,rfl,_,rfl,_,_,rfl,rfl,_,rfl,?_⟩
  unfold keyP at k
  by_cases hc:b<a
  ·rw[if_pos hc]at k
   rw[decide_eq_true hc]
   exact iteT ⟨_,rfl,_,rfl,by show 2≤sizeLine;decide,k⟩
  ·rw[if_neg hc]at k
   rw[decide_eq_false hc]
   exact iteF ⟨_,rfl,_,rfl,by show 2≤sizeLine;decide,k⟩
theorem ok_law_pair (F:Fun K "_law_pair" "_law_pair" st_law_pair f fd)(C_law_whole:Callee P w K mg base "_law_whole" 1 ["_law_found"] spWhole) : FnOk P w K mg base CX0 2 f fd ["_law_found"] spPairT:=by
 refine F.ok sc_law_pair (fun vs H Q E h=>?_) (fun cdv A outer s H vs Q E hr h=>?_)
 ·obtain⟨a,p,rfl,_⟩:=h
  rfl
 ·obtain⟨a,p,rfl,hp,k⟩:=h
  refine⟨_,pss_cons (ps_if (pw_or (pt_not (pt_val (pe_callB call_isi (by rfl) T.isinstance PyProof.Rows.boot_isinstance (pa_cons (pv 0) (pa_cons (pe_bltn (v:=.ty "tuple") (by rfl) T.tuple PyProof.Rows.boot_tuple rfl) pa_nil))))) (pw_or1 (pt_cmpR op_ne (pe_callB call_len_seq (by rfl) T.len PySem.boot_len (pa_cons (pv 0) pa_nil)) pe_int (nomark _)))).pt (pss_one (ps_ret pe_bl)) pss_nil)
   (pss_one (ps_ret (pe_and (pcall C_law_whole hr rfl (pa_cons (pe_ix ix_tup (pv 0) pe_int (fun _ _=>rfl)) pa_nil)) (pe_one (pcall C_law_whole hr rfl (pa_cons (pe_ix ix_tup (pv 0) pe_int (fun _ _=>rfl)) pa_nil)))))),?_⟩
  refine⟨_,rfl,_,_,_,true,rfl,TyOf.tup hp,rfl,_,rfl,iteF ?_⟩
  refine⟨_,rfl,a,_,rfl,.inr (SqT.of hp),rfl,_,rfl,iteF ?_⟩
  refine⟨_,rfl,a,_,_,_,rfl,rfl,SqT.of hp,rfl,_,rfl,_,rfl,iteT ?_⟩
  exact⟨_,rfl,a,_,_,_,rfl,rfl,SqT.of hp,rfl,_,rfl,k⟩
theorem ok_law_row (F:Fun K "_law_row" "_law_row" st_law_row f fd)(C_law_pair:Callee P w K mg base "_law_pair" 2 ["_law_found"] spPairT) : FnOk P w K mg base CX0 3 f fd ["_law_found"] spRowT:=by
 refine F.ok sc_law_row (fun vs H Q E h=>?_) (fun cdv A outer s H vs Q E hr h=>?_)
 ·obtain⟨l,ps,rfl,_⟩:=h
  rfl
 ·obtain⟨l,ps,rfl,⟨as,hl,hp⟩,hlen,k⟩:=h
  refine⟨_,pss_cons (ps_if (pt_not (pt_val (pe_callB call_isi (by rfl) T.isinstance PyProof.Rows.boot_isinstance (pa_cons (pv 0) (pa_cons (pe_bltn (v:=.ty "list") (by rfl) T.list PyProof.Rows.boot_list rfl) pa_nil))))) (pss_one (ps_ret pe_bl)) pss_nil)
   (pss_one (ps_ret (pe_callB (call_allB rfl) (by rfl) T.all PyProof.Rows.boot_all (pa_cons (pe_comp (so:=defScope st_law_row) (N:=n_law_row) (N':=["_law_pair_here"]) (src:=[none]) rfl rfl ⟨rfl,by decide +kernel,by decide +kernel,by decide +kernel,by decide +kernel,rfl,by decide +kernel⟩ rfl (pi_list (pv 0))
    (fun cl C s2 H2 ex=>⟨pg_name (i:=0) (show (["_law_pair_here"]:List Str).Nodup by decide +kernel) rfl (Or.inl rfl),pts_nil,pcall C_law_pair hr rfl (pa_cons (pv 0) pa_nil)⟩)) pa_nil)))),?_⟩
  refine⟨_,rfl,_,_,_,true,rfl,TyOf.lst hl,rfl,_,rfl,iteF ?_⟩
  refine⟨_,rfl,l,rfl,⟨_,SqL.of hl⟩,fun q hq=>?_⟩
  have hlq:l≠q:=ne_of_none hl hq
  refine for_list (K:=K) (a:=l) (xs:=as.map V.ref) (fun i σ H2=>∃ (v:Option V),σ=[v]∧Same H H2∧H2 q=some (.lst ((List.replicate i true).map V.bl)))
   ⟨none,rfl,same_new hq,upd_same⟩ (fun i σ H2 _ ⟨_,_,s2,_⟩=>SqL.of (s2 _ _ hl)) ?_ ?_
  ·rintro i y σ H2 hi ⟨v,rfl,s2,hq2⟩
   have hil:i<as.length:=by have:=(List.getElem?_eq_some_iff.mp hi).1;simpa using this
   obtain⟨a,ha,rfl⟩:=map_get hi
   obtain⟨p,_,hpa⟩:=paired_get hp ha
   have hpl:=Paired.length hp
   refine tbc_yes ⟨_,rfl,a,p,rfl,s2 _ _ hpa,_,hq2,by rw[List.length_map,List.length_replicate];exact small1000 (by omega),?_⟩
   exact⟨_,rfl,same_upd s2 hq,by rw[upd_same,List.replicate_succ',List.map_append];rfl⟩
  ·rintro σ H2 ⟨v,rfl,s2,hq2⟩
   refine⟨q,List.replicate as.length true,rfl,SqL.of (by rw[hq2,List.length_map]),?_⟩
   rw[show (List.replicate as.length true).all id=true by simp]
   exact k H2 s2
theorem ok_law_paper (F:Fun K "_law_paper" "_law_paper" st_law_paper f fd) : FnOk P w K mg base CX0 1 f fd ["_law_row_here","_law_worn"] spPaper:=by
 refine F.ok sc_law_paper (fun vs H Q E h=>?_) (fun cdv A outer s H vs Q E hr h=>?_)
 ·obtain⟨l,d,ps,w,rfl,_⟩:=h
  rfl
 ·obtain⟨l,d,ps,w0,rfl,⟨as,hl,hp⟩,hlen,hd,hwl,k⟩:=h
  have hu:=hu_of hr
  have wrI:∀ (w:List (Int×Int))(g:Int),((valV (dk w) (Sum.inl g:Key)).getD (.int g))=.int (wr w g):=fun w g=>by
   rw[valV_dk];unfold wr
   cases look w g<;>rfl
  refine⟨_,pss_cons (ps_for PassesOwn.never rfl (pi_list (pv 0)) (pg_tup rfl (pgs_cons (pg_name (i:=2) sc_law_paper.nd rfl (Or.inl rfl)) (pgs_cons (pg_name (i:=3) sc_law_paper.nd rfl (Or.inl rfl)) pgs_nil))) (pss_cons (ps_set (i:=4) sc_law_paper.nd rfl (Or.inl rfl) (pe_dget2 hu (pv 1) (pv 2) (pv 2) ⟨rfl,rfl,rfl,rfl⟩)) (pss_cons (ps_dput hu (pv 1) (pv 2) (pe_dget2 hu (pv 1) (pv 3) (pv 3) ⟨rfl,rfl,rfl,rfl⟩) rfl) (pss_one (ps_dput hu (pv 1) (pv 3) (pv 4) rfl))))) (pss_one (ps_ret (pv 1))),?_⟩
  have hld:l≠d:=ne_of hl hd (by intro z;cases z)
  refine⟨_,rfl,l,rfl,⟨_,SqL.of hl⟩,for_list (K:=K) (a:=l) (xs:=as.map V.ref) (fun i σ H2=>∃ (v1 v2 v3:Option V),σ=[some (.ref l),some (.ref d),v1,v2,v3]∧H2=upd H d (.dK (dk (paperL w0 (ps.take i)))))
   ⟨none,none,none,rfl,by funext b;by_cases hb:b=d;subst hb;rw[upd_same,hd];rfl;rw[upd_ne hb]⟩ (fun i σ H2 _ ⟨_,_,_,_,h⟩=>SqL.of (by rw[h,upd_ne hld];exact hl)) ?_ ?_⟩
  ·rintro i y σ H2 hi ⟨v1,v2,v3,rfl,rfl⟩
   have hil:i<as.length:=by have:=(List.getElem?_eq_some_iff.mp hi).1;simpa using this
   obtain⟨a,ha,rfl⟩:=map_get hi
   obtain⟨p,hpi,hpa⟩:=paired_get hp ha
   have had:a≠d:=ne_of hpa hd (by intro z;cases z)
   have hpl:=Paired.length hp
   have lw:=len_paper (ps.take i) w0
   rw[List.length_take]at lw
   generalize hw:paperL w0 (ps.take i)=w at lw
   have nxt:paperL w0 (ps.take (i+1))=swapL w p:=by rw[take_snoc hpi];unfold paperL at hw ⊢;rw[List.foldl_append,hw];rfl
   have sz:∀ v:List (Int×Int),v.length≤w.length+1→(dk v).length<sizeLine:=fun v h=>by rw[len_dk];exact Nat.lt_of_lt_of_le (show v.length<5000 by omega) (by decide)
   refine⟨a,_,rfl,SqT.of (by rw[upd_ne had];exact hpa),rfl,_,_,rfl,_,_,rfl,rfl,?_⟩
   refine⟨_,rfl,d,rfl,.inl ⟨_,.inl upd_same⟩,_,rfl,_,rfl,_,DGet.k (k:=Sum.inl p.1) upd_same,?_⟩
   refine⟨_,rfl,d,rfl,.inl ⟨_,.inl upd_same⟩,_,rfl,_,rfl,_,DGet.k (k:=Sum.inl p.2) upd_same,_,rfl,_,rfl,d,_,rfl,DPut.k (k:=Sum.inl p.1) upd_same (sz w (by omega)),?_⟩
   refine⟨_,rfl,_,rfl,_,rfl,d,_,rfl,DPut.k (k:=Sum.inl p.2) upd_same ?_,?_⟩
   ·rw[wrI,putK_dk]
    exact sz _ (by have:=len_put w p.1 (wr w p.2);omega)
   ·refine⟨_,_,_,rfl,?_⟩
    rw[nxt,wrI,wrI,putK_dk,putK_dk,upd_upd,upd_upd]
    rfl
  ·rintro σ H2 ⟨v1,v2,v3,rfl,rfl⟩
   refine⟨_,rfl,?_⟩
   have e:ps.take (as.map V.ref).length=ps:=by rw[List.length_map,Paired.length hp,List.take_length]
   rw[e]
   exact k
theorem ok_law_pairs_from (F:Fun K "_law_pairs_from" "_law_pairs_from" st_law_pairs_from f fd)(C_law_guest:Callee P w K mg base "_law_guest" 2 ["_law_k","_law_cell"] spGuest) : FnOk P w K mg base CX0 3 f fd ["_law_draws_here","_law_many","_law_cell"] (spPairs K):=by
 refine F.ok sc_law_pairs_from (fun vs H Q E h=>?_) (fun cdv A outer s H vs Q E hr h=>?_)
 ·obtain⟨a,ds,m,c,rfl,_⟩:=h
  rfl
 ·obtain⟨a,ds,m,c,rfl,hS,hds,⟨m0,m1⟩,hlen,k⟩:=h
  refine⟨_,pss_cons (ps_set (i:=3) sc_law_pairs_from.nd rfl (Or.inl rfl) (pe_lst pa_nil))
   (pss_cons (ps_for PassesOwn.never rfl (pi_list (pv 0)) (pg_name (i:=4) sc_law_pairs_from.nd rfl (Or.inl rfl))
    (pss_cons (ps_set (i:=5) sc_law_pairs_from.nd rfl (Or.inl rfl) (pe_op op_mod (pv 4) (pv 1)))
    (pss_cons (ps_set (i:=6) sc_law_pairs_from.nd rfl (Or.inl rfl) (pe_op op_mod (pe_op op_add (pe_op op_add (pv 5) pe_int) (pe_op op_mod (pe_op op_fdiv (pv 4) (pv 1)) (pe_op op_sub (pv 1) pe_int))) (pv 1)))
    (pss_one (ps_expr (pe_bm PySem.F.plainAttrs_list PySem.F.slot_list_append PySem.F.type_list_append mt_append (pv 3) (pa_cons (pe_tup (pa_cons (pcall C_law_guest hr rfl (pa_cons (pv 5) (pa_cons (pv 2) pa_nil))) (pa_cons (pcall C_law_guest hr rfl (pa_cons (pv 6) (pa_cons (pv 2) pa_nil))) pa_nil))) pa_nil)))))))
   (pss_one (ps_ret (pv 3)))),?_⟩
  refine⟨by show 0≤sizeLine;exact Nat.zero_le _,fun l hl=>?_⟩
  refine⟨_,rfl,a,rfl,⟨_,(same_new hl).seq hS⟩,for_list (K:=K) (a:=a) (xs:=ds.map V.int) (fun i σ H2=>∃ (v u t:Option V)(as:List Addr)(ps:List (Int×Int)),σ=[some (.ref a),some (.int m),some (.int c),some (.ref l),v,u,t]∧Same H H2∧H2 l=some (.lst (as.map V.ref))∧Paired (fun a (p:Int×Int)=>H2 a=some (.tup [.int p.1,.int p.2])) as ps∧Among m c ps∧ps.length=i)
   ⟨none,none,none,[],[],rfl,same_new hl,upd_same,.nil,(fun _ z=>nomatch z),rfl⟩ (fun i σ H2 _ ⟨_,_,_,_,_,_,h,_⟩=>h.seq hS) ?_ ?_⟩
  ·rintro i y σ H2 hi ⟨v,u,t,as,ps,rfl,s2,hl2,hp,ham,hpl⟩
   have hil:i<ds.length:=by have:=(List.getElem?_eq_some_iff.mp hi).1;simpa using this
   obtain⟨d,hd,rfl⟩:=map_get hi
   have d0:=hds d (List.mem_of_getElem? hd)
   refine⟨_,rfl,_,rfl,_,_,rfl,rfl,by show 0<m;omega,?_⟩
   refine⟨_,rfl,_,_,rfl,rfl,_,rfl,_,rfl,_,_,rfl,rfl,⟨by show 0<m;omega,by show m<1073741824;omega⟩,_,rfl,_,_,rfl,rfl,_,_,rfl,rfl,by show 0<m-1;omega,_,_,rfl,rfl,_,rfl,_,_,rfl,rfl,by show 0<m;omega,?_⟩
   have i0:=Int.emod_nonneg d (show m≠0 by omega)
   have i1:=Int.emod_lt_of_pos d (show 0<m by omega)
   have e0:=Int.emod_nonneg (d/m) (show m-1≠0 by omega)
   have e1:=Int.emod_lt_of_pos (d/m) (show 0<m-1 by omega)
   have j0:=Int.emod_nonneg (d%m+1+d/m%(m-1)) (show m≠0 by omega)
   have j1:=Int.emod_lt_of_pos (d%m+1+d/m%(m-1)) (show 0<m by omega)
   have hne:d%m≠(d%m+1+d/m%(m-1))%m:=by
    generalize hx:d%m=x at *
    generalize hy:d/m%(m-1)=y at *
    by_cases hs:x+1+y<m
    ·rw[Int.emod_eq_of_lt (by omega) hs];omega
    ·have e:(x+1+y)%m=x+1+y-m:=by
      rw[←Int.sub_emod_right]
      exact Int.emod_eq_of_lt (by omega) (by omega)
     rw[e];omega
   refine⟨_,rfl,.inl ⟨rfl,_,SqL.of hl2⟩,_,rfl,_,rfl,_,c,rfl,⟨i0,by omega⟩,_,rfl,_,rfl,_,c,rfl,⟨j0,by omega⟩,by show 2≤sizeLine;decide,fun p hp2=>?_⟩
   have hlp:l≠p:=ne_of_none hl2 hp2
   have s3:=same_new (o:=.tup [.int (gst (d%m) c),.int (gst ((d%m+1+d/m%(m-1))%m) c)]) hp2
   refine⟨l,_,_,rfl,rfl,by rw[upd_ne hlp];exact hl2,?_,?_⟩
   ·rw[List.length_map,Paired.length hp,hpl]
    exact small1000 (by omega)
   ·have hpn:∀ x∈as,x≠l:=fun x hx e=>by
     obtain⟨n,hn,rfl⟩:=List.getElem_of_mem hx
     obtain⟨pp,_,q2⟩:=paired_get (i:=n) hp (List.getElem?_eq_getElem hn)
     rw[e,hl2]at q2;cases q2
    have s4:∀ x,x≠l→∀ o,(upd H2 p (.tup [.int (gst (d%m) c),.int (gst ((d%m+1+d/m%(m-1))%m) c)])) x=some o→upd (upd H2 p (.tup [.int (gst (d%m) c),.int (gst ((d%m+1+d/m%(m-1))%m) c)])) l (.lst (as.map V.ref++[V.ref p])) x=some o:=fun x hx o e=>by rw[upd_ne hx];exact e
    refine⟨_,_,_,as++[p],ps++[(gst (d%m) c,gst ((d%m+1+d/m%(m-1))%m) c)],rfl,same_upd (fun b o e=>s3 b o (s2 b o e)) hl,by rw[upd_same,List.map_append];rfl,?_,?_,by rw[List.length_append,hpl];rfl⟩
    ·refine paired_snoc ?_ (s4 p (Ne.symm hlp) _ upd_same)
     have aux:∀ {xs:List Addr}{qs:List (Int×Int)},(∀ x∈xs,x≠l)→Paired (fun a (p:Int×Int)=>H2 a=some (.tup [.int p.1,.int p.2])) xs qs→Paired (fun a (q:Int×Int)=>upd (upd H2 p (.tup [.int (gst (d%m) c),.int (gst ((d%m+1+d/m%(m-1))%m) c)])) l (.lst (as.map V.ref++[V.ref p])) a=some (.tup [.int q.1,.int q.2])) xs qs:=by
      intro xs qs hx hq
      induction hq with
      | nil=>exact .nil
      | cons h _ ih=>exact .cons (s4 _ (hx _ List.mem_cons_self) _ (s3 _ _ h)) (ih fun x hm=>hx x (List.mem_cons_of_mem _ hm))
     exact aux hpn hp
    ·refine among_append ham fun p hp=>?_
     rw[List.mem_singleton.mp hp]
     exact⟨_,_,⟨i0,i1⟩,⟨j0,j1⟩,hne,rfl⟩
  ·rintro σ H2 ⟨v,u,t,as,ps,rfl,s2,hl2,hp,ham,hpl⟩
   exact⟨_,rfl,k l H2 ps hl s2 ⟨as,hl2,hp⟩ ham (by rw[hpl,List.length_map])⟩
theorem ok_law (F:Fun K "law" "law" st_law f fd)(C_law_cell_at:Callee P w K mg base "_law_cell_at" 1 ["_law_script","_law_k"] (spCell K))(C_law_size:Callee P w K mg base "_law_size" 1 ["_law_cell"] spSize)(C_law_guest:Callee P w K mg base "_law_guest" 2 ["_law_k","_law_cell"] spGuest)(C_law_draws_from:Callee P w K mg base "_law_draws_from" 3 ["_law_script","_law_start","_law_most","_law_base"] (spFrom K))(C_law_pairs_from:Callee P w K mg base "_law_pairs_from" 3 ["_law_draws_here","_law_many","_law_cell"] (spPairs K))(C_law_paper:Callee P w K mg base "_law_paper" 1 ["_law_row_here","_law_worn"] spPaper)(Cquadrille:XCallee P w K mg base "quadrille" 2 ["a","b","c","d"] (spQuadr co))(C_law_row:Callee P w K mg base "_law_row" 3 ["_law_found"] spRowT)(C_law_key:Callee P w K mg base "_law_key" 1 ["_law_one","_law_other"] spKey) : FnOk P w K mg base CX0 7 f fd ["_law_script"] (spLaw K):=by
 refine F.ok sc_law (fun vs H Q E h=>?_) (fun cdv A outer s H vs Q E hr h=>?_)
 ·obtain⟨a,ns,rfl,_⟩:=h
  rfl
 ·obtain⟨a,ns,rfl,hS,hlen,k⟩:=h
  have hu:=hu_of hr
  have two:(2:Nat)≤sizeLine:=by decide
  refine⟨_,pss_cons (ps_st 1 sc_law.nd (pcall C_law_cell_at hr.m rfl (pa2 (pv 0) (pe_int)))) (
   pss_cons (ps_st 2 sc_law.nd (pcall C_law_size hr.m rfl (pa1 (pcall C_law_cell_at hr.m rfl (pa2 (pv 0) (pe_int)))))) (
   pss_cons (ps_st 3 sc_law.nd (pe_comp (so:=defScope st_law) (N:=n_law) (N':=["_law_k","_law_names","_law_first"]) (src:=[none,some 1,some 2]) rfl rfl csc rfl (pi_range1 (by rfl) T.range (pa1 (pe_int))) (fun cl C s2 H2 ex=>⟨pgn 0 (show (["_law_k","_law_names","_law_first"]:List Str).Nodup by decide +kernel),pts_nil,pcall C_law_guest hr.m rfl (pa2 (pe_op op_mod (pe_op op_add (pv 2) (pe_op op_mul (pe_op op_add (pe_int) (pe_op op_mod (pe_op op_fdiv (pv 2) (pe_int)) (pe_int))) (pv 0))) (pe_int)) (pv 1))⟩))) (
   pss_cons (ps_st 4 sc_law.nd (pcall C_law_size hr.m rfl (pa1 (pcall C_law_cell_at hr.m rfl (pa2 (pv 0) (pe_int)))))) (
   pss_cons (ps_if (pt_cmpR op_eq (pe_op op_mod (pv 4) (pe_int)) (pe_int) (nomark _)) (pss_one (ps_asg (pe_ix ix_list (pv 3) (pe_op op_mod (pe_op op_fdiv (pv 4) (pe_int)) (pe_int)) (fun _ _=>rfl)) (pg_sub (pv 3) (pe_op op_mod (pe_op op_fdiv (pv 4) (pe_int)) (pe_int)) set_list))) (pss_nil)) (
   pss_cons (ps_st 5 sc_law.nd (pe_cmpR op_eq (pe_callB call_lenS (by rfl) T.len PySem.boot_len (pa1 (pe_callTy (call_setN rfl) (by rfl) T.bset PyProof.Rows.boot_set (pa1 (pv 3))))) (pe_int) (nomark _))) (
   pss_cons (ps_st 6 sc_law.nd (pcall C_law_paper hr.m rfl (pa2 (pcall C_law_pairs_from hr.m rfl (pa3 (pcall C_law_draws_from hr.m rfl (pa_cons (pv 0) (pa_cons (pe_int) (pa_cons (pe_int) (pa_cons (pe_int) pa_nil))))) (pe_int) (pv 1))) (pe_dnewK)))) (
   pss_cons (ps_st 7 sc_law.nd (pe_non)) (
   pss_cons (ps_st 8 sc_law.nd (pe_str)) (
   pss_cons (ptry (i:=7) Cquadrille hr.m rfl (pa_cons (pe_ix ix_list (pv 3) (pe_int) (fun _ _=>rfl)) (pa_cons (pe_ix ix_list (pv 3) (pe_int) (fun _ _=>rfl)) (pa_cons (pe_ix ix_list (pv 3) (pe_int) (fun _ _=>rfl)) (pa_cons (pe_ix ix_list (pv 3) (pe_int) (fun _ _=>rfl)) pa_nil)))) rfl rfl sc_law.nd rfl (Or.inl rfl) (ph_more rfl UO.m (fun ea oe=>pss_one (ps_st 8 sc_law.nd (pe_str))) ph_nil)) (
   pss_cons (ps_if (pt_not (pt_val (pv 5))) (pss_one (ps_ret (pe_cmpR op_eq (pv 8) (pe_str) (nomark _)))) (pss_nil)) (
   pss_cons (ps_if (PW.pt (pw_or (pt_cmpR op_ne (pv 8) (pe_str) (nomark _)) (pw_or (pt_not (pt_val (pcall C_law_row hr.m rfl (pa1 (pv 7))))) (pw_or1 (pt_cmpR op_ne (pe_callB call_len_seq (by rfl) T.len PySem.boot_len (pa1 (pv 7))) (pe_int) (nomark _)))))) (pss_one (ps_ret (pe_bl))) (pss_nil)) (
   pss_cons (ps_if (pt_cmpR op_ne (pe_callB call_lenP (by rfl) T.len PySem.boot_len (pa1 (pe_callTy (call_setP rfl (hun hr (by decide))) (by rfl) T.bset PyProof.Rows.boot_set (pa1 (pe_comp (so:=defScope st_law) (N:=n_law) (N':=["_law_pair_here"]) (src:=[none]) rfl rfl csc rfl (pi_list (pv 7)) (fun cl C s2 H2 ex=>⟨pgn 0 (show (["_law_pair_here"]:List Str).Nodup by decide +kernel),pts_nil,pcall C_law_key hr.m rfl (pa2 (pe_ix (ix_tupK K) (pv 0) (pe_int) (fun _ _=>rfl)) (pe_ix (ix_tupK K) (pv 0) (pe_int) (fun _ _=>rfl)))⟩)))))) (pe_int) (nomark _)) (pss_one (ps_ret (pe_bl))) (pss_nil)) (
   pss_cons (ps_if (pt_val (pe_callB (call_anyB rfl) (by rfl) T.any PyProof.Rows.boot_any (pa1 (pe_comp (so:=defScope st_law) (N:=n_law) (N':=["_law_pair_here","_law_four"]) (src:=[none,some 3]) rfl rfl csc rfl (pi_list (pv 7)) (fun cl C s2 H2 ex=>⟨pgn 0 (show (["_law_pair_here","_law_four"]:List Str).Nodup by decide +kernel),pts_nil,(pe_or (pe_cmpR op_eq (pe_ix (ix_tupK K) (pv 0) (pe_int) (fun _ _=>rfl)) (pe_ix (ix_tupK K) (pv 0) (pe_int) (fun _ _=>rfl)) (nomark _)) (pe_or (pe_cmpR (op_notInK K) (pe_ix (ix_tupK K) (pv 0) (pe_int) (fun _ _=>rfl)) (pv 1) rfl) (pe_one (pe_cmpR (op_notInK K) (pe_ix (ix_tupK K) (pv 0) (pe_int) (fun _ _=>rfl)) (pv 1) rfl))))⟩))))) (pss_one (ps_ret (pe_bl))) (pss_nil)) (
   pss_cons (ps_st 9 sc_law.nd (pcall C_law_paper hr.m rfl (pa2 (pv 7) (pe_callTy call_dictD (by rfl) T.dict PyProof.Rows.boot_dict (pa1 (pv 6)))))) (
   pss_cons (ps_if (pt_not (pt_val (pe_callB (call_allB rfl) (by rfl) T.all PyProof.Rows.boot_all (pa1 (pe_comp (so:=defScope st_law) (N:=n_law) (N':=["_law_guest_here","_law_behind","_law_worn"]) (src:=[none,some 9,some 6]) rfl rfl csc rfl (pi_dict (pv 9)) (fun cl C s2 H2 ex=>⟨pgn 0 (show (["_law_guest_here","_law_behind","_law_worn"]:List Str).Nodup by decide +kernel),pts_nil,pe_cmpR op_eq (pe_dget hu (pv 1) (pv 0) (fun _ _=>rfl)) (pe_dget2 hu (pv 2) (pv 0) (pv 0) ⟨rfl,rfl,rfl,rfl⟩) (nomark _)⟩)))))) (pss_one (ps_ret (pe_bl))) (pss_nil)) (
   pss_cons (ps_st 10 sc_law.nd (pe_callTy call_list_of (by rfl) T.list PyProof.Rows.boot_list (pa1 (pv 7)))) (
   pss_cons (ps_expr (pe_bm0 PySem.F.plainAttrs_list PySem.F.slot_list_clear PySem.F.type_list_clear mt_clear (pv 7))) (
   pss_one (ps_ret (pe_cmpR (op_eqD 1 (hun hr (by decide))) (pxcall Cquadrille hr.m rfl passN (pa_cons (pe_ix ix_list (pv 3) (pe_int) (fun _ _=>rfl)) (pa_cons (pe_ix ix_list (pv 3) (pe_int) (fun _ _=>rfl)) (pa_cons (pe_ix ix_list (pv 3) (pe_int) (fun _ _=>rfl)) (pa_cons (pe_ix ix_list (pv 3) (pe_int) (fun _ _=>rfl)) pa_nil))))) (pv 10) (nomark _))))))))))))))))))))),?_⟩
  refine⟨_,rfl,a,ns,1,rfl,hS,by decide,?_⟩
  refine⟨_,rfl,a,ns,0,rfl,hS,by decide,_,rfl,?_⟩
  have f0:=absI_nn (cellAt ns 0)
  obtain⟨fi,efi⟩:∃ fi,fi=absI (cellAt ns 0):=⟨_,rfl⟩
  rw[←efi]at f0 ⊢
  have m3a:=Int.emod_nonneg (fi/12) (show (3:Int)≠0 by decide)
  have m3b:=Int.emod_lt_of_pos (fi/12) (show (0:Int)<3 by decide)
  refine⟨4,rfl,by decide,by decide,fun lq hlq=>?_⟩
  refine for_range (n:=4) (fun i σ H2=>∃ (v:Option V)(xs:List Int),σ=[v,some (.int (cellAt ns 1)),some (.int fi)]∧xs.length=i∧H2=upd H lq (.lst (xs.map V.int)))
   ⟨none,[],rfl,rfl,rfl⟩ ?_ ?_
  ·rintro i σ H2 hi ⟨v,xs,rfl,hx,rfl⟩
   refine tbc_yes ⟨_,rfl,_,rfl,_,_,rfl,rfl,⟨by decide,by decide⟩,_,_,rfl,rfl,by show (0:Int)<3;decide,_,_,rfl,rfl,_,rfl,_,_,rfl,rfl,.inl ⟨by omega,by omega⟩,_,_,rfl,rfl,_,_,rfl,rfl,by show (0:Int)<12;decide,_,rfl,_,_,rfl,⟨Int.emod_nonneg _ (by decide),Int.le_trans (Int.le_of_lt (Int.emod_lt_of_pos _ (by decide))) (by decide)⟩,_,upd_same,by rw[List.length_map];exact small1000 (by omega),?_⟩
   refine⟨_,xs++[gst ((fi+(1+fi/12%3)*(0+(i:Int)))%12) (cellAt ns 1)],rfl,by rw[List.length_append,hx];rfl,?_⟩
   rw[upd_upd,List.map_append]
   rfl
  rintro σ H1 ⟨v,xs,rfl,hx,rfl⟩
  have s1:=same_new (o:=.lst (xs.map V.int)) hlq
  have hq1:upd H lq (.lst (xs.map V.int)) lq=some (.lst (xs.map V.int)):=upd_same
  generalize upd H lq (.lst (xs.map V.int))=H1 at s1 hq1 ⊢
  refine⟨_,rfl,a,ns,2,rfl,s1.seq hS,by decide,_,rfl,?_⟩
  have bd0:=absI_nn (cellAt ns 2)
  obtain⟨bd,ebd⟩:∃ bd,bd=absI (cellAt ns 2):=⟨_,rfl⟩
  rw[←ebd]at bd0 ⊢
  refine⟨_,rfl,bd,4,rfl,rfl,by show (0:Int)<4;decide,rfl,_,rfl,?_⟩
  apply shareP (fun HH=>∃ ys:List Int,Same H HH∧HH lq=some (.lst (ys.map V.int))∧ys.length=4)
  ·intro rest
   by_cases c1:bd%4=3
   ·rw[decide_eq_true (congrArg V.int c1)]
    have ixd:∀ z:Int,∃ j:Nat,ixN (xs.map V.int).length (z%4)=some j∧j<4:=fun z=>by
     have b1:=Int.emod_nonneg z (show (4:Int)≠0 by decide)
     have b2:=Int.emod_lt_of_pos z (show (0:Int)<4 by decide)
     refine⟨(z%4).toNat,?_,by omega⟩
     unfold ixN
     rw[if_pos b1,if_pos (by rw[List.length_map,hx];exact b2)]
    obtain⟨j1,e1,l1⟩:=ixd (bd/16)
    obtain⟨j2,e2,l2⟩:=ixd (bd/4)
    have hat:atI (xs.map V.int) (bd/16%4)=some (V.int (xs[j1]'(by omega))):=by
     unfold atI
     rw[e1]
     show (xs.map V.int)[j1]? = _
     rw[List.getElem?_map,List.getElem?_eq_getElem (by omega)]
     rfl
    refine iteT ⟨_,rfl,_,rfl,_,_,rfl,rfl,⟨by decide,by decide⟩,_,_,rfl,rfl,by show (0:Int)<4;decide,lq,_,_,_,rfl,rfl,SqL.of hq1,hat,?_⟩
    refine⟨_,rfl,_,rfl,_,_,rfl,rfl,⟨by decide,by decide⟩,_,_,rfl,rfl,by show (0:Int)<4;decide,lq,_,_,j2,rfl,rfl,hq1,e2,?_⟩
    have s2:=same_upd (o:=.lst ((xs.map V.int).set j2 (V.int (xs[j1]'(by omega))))) s1 hlq
    have hq2:upd H1 lq (.lst ((xs.map V.int).set j2 (V.int (xs[j1]'(by omega))))) lq=some (.lst ((xs.set j2 (xs[j1]'(by omega))).map V.int)):=by rw[upd_same,List.map_set]
    generalize upd H1 lq (.lst ((xs.map V.int).set j2 (V.int (xs[j1]'(by omega)))))=H2 at s2 hq2 ⊢
    exact rest H2 ⟨_,s2,hq2,by rw[List.length_set];exact hx⟩
   ·rw[decide_eq_false (fun z=>c1 (V.int.inj z))]
    exact iteF (rest H1 ⟨xs,s1,hq1,hx⟩)
  clear s1 hq1 hx
  rintro H2 ⟨ys,s2,hq2,yl⟩
  obtain⟨x0,x1,x2,x3,rfl⟩:∃ x0 x1 x2 x3,ys=[x0,x1,x2,x3]:=by
   match ys,yl with
   | [p,q,r,t],_=>exact⟨p,q,r,t,rfl⟩
  refine⟨_,rfl,lq,[x0,x1,x2,x3],rfl,SqL.of hq2,by show (4:Nat)≤1000;decide,fun q3 S3 n3 hq3 hn3 hnd3=>?_⟩
  have s3:=same_new (o:=.set S3 n3) hq3
  refine⟨q3,_,_,rfl,upd_same,rfl,?_⟩
  have hq3':=s3 _ _ hq2
  have s23:=s2.trans s3
  generalize upd H2 q3 (.set S3 n3)=H3 at s3 hq3' s23 ⊢
  have hn3:n3≤4:=hn3
  have hnd3:n3=4↔[x0,x1,x2,x3].Nodup:=hnd3
  obtain⟨un,eun⟩:∃ un:Bool,un=decide (V.int (n3:Int)=V.int 4):=⟨_,rfl⟩
  rw[←eun]
  refine⟨_,rfl,a,ns,3,30,132,rfl,s23.seq hS,⟨by decide,by decide⟩,⟨by decide,by decide⟩,⟨by decide,by decide⟩,fun ld HA ds hld sA hdA dps dln=>?_⟩
  refine⟨_,rfl,ld,ds,12,_,rfl,SqL.of hdA,fun d hd=>(dps d hd).1,⟨by decide,by decide⟩,by omega,fun lr HB ps hlr sB rowB ham pln=>?_⟩
  intro dw hdw
  have sW:=same_new (o:=.dK []) hdw
  refine⟨lr,dw,ps,[],rfl,rowB.mono sW,by omega,upd_same,by show (0:Nat)≤1000;decide,?_⟩
  rw[upd_upd]
  have sX:=same_new (o:=.dK (dk (paperL [] ps))) hdw
  have hw4:upd HB dw (.dK (dk (paperL [] ps))) dw=some (.dK (dk (paperL [] ps))):=upd_same
  have s34:=(sA.trans sB).trans sX
  have hq4:=s34 _ _ hq3'
  have wl:(paperL [] ps).length≤12:=among_len ham (by decide)
  generalize upd HB dw (.dK (dk (paperL [] ps)))=H4 at hw4 s34 hq4 ⊢
  clear sX sW hdw hdA hlr hld
  have s4:=s23.trans s34
  refine⟨_,rfl,lq,_,0,_,rfl,rfl,SqL.of hq4,rfl,_,rfl,lq,_,1,_,rfl,rfl,SqL.of hq4,rfl,_,rfl,lq,_,2,_,rfl,rfl,SqL.of hq4,rfl,_,rfl,lq,_,3,_,rfl,rfl,SqL.of hq4,rfl,x0,x1,x2,x3,rfl,fun nd l H5 hl s5 r5=>?_,fun nd H5 s5=>?_⟩
  rotate_left
  ·have eu:un=false:=by rw[eun];exact decide_eq_false (fun z=>nd (hnd3.mp (by have:=V.int.inj z;omega)))
   rw[eu]
   refine⟨_,UO.x,iteT ⟨_,rfl,_,rfl,iteT ⟨_,rfl,rfl,?_⟩⟩⟩
   rw[decide_eq_true rfl]
   exact k _
  have eu:un=true:=by rw[eun];exact decide_eq_true (congrArg V.int (by have:=hnd3.mpr nd;omega))
  rw[eu]
  obtain⟨h01,h02,h03,h12,h13,h23⟩:=four_ne nd
  refine⟨_,rfl,_,rfl,iteF ⟨_,rfl,rfl,_,rfl,?_⟩⟩
  rw[show (!decide (V.str "" = V.str ""))=false by rw[decide_eq_true rfl];rfl]
  have q6:(quadL x0 x1 x2 x3).length=6:=rfl
  refine iteF ⟨_,rfl,l,_,rfl,r5,by rw[q6];decide,fun H6 s6=>⟨_,rfl,iteF ?_⟩⟩
  have r6:=r5.mono s6
  obtain⟨as,hl6,hp6⟩:=id r6
  have al:=Paired.length hp6
  rw[q6]at al
  refine⟨_,rfl,l,_,rfl,.inl (SqL.of hl6),rfl,_,rfl,?_⟩
  rw[List.length_map,al,show (!decide (V.int ((6:Nat):Int)=V.int 6))=false from rfl]
  refine iteF ⟨_,rfl,l,rfl,⟨_,SqL.of hl6⟩,fun lk hlk=>?_⟩
  refine for_list (K:=K) (a:=l) (xs:=as.map V.ref) (fun i σ HK=>∃ (v:Option V),σ=[v]∧Same H6 HK∧RowAt HK lk (((quadL x0 x1 x2 x3).take i).map keyR))
   ⟨none,rfl,same_new hlk,⟨[],upd_same,.nil⟩⟩ (fun i σ HK _ ⟨_,_,s2,_⟩=>SqL.of (s2 _ _ hl6)) ?_ ?_
  ·rintro i y σ HK hi ⟨v,rfl,t1,rk⟩
   obtain⟨b,hb,rfl⟩:=map_get hi
   obtain⟨p,hp,hB⟩:=paired_get hp6 hb
   have hil:i<6:=by have:=(List.getElem?_eq_some_iff.mp hp).1;rw[q6]at this;exact this
   obtain⟨ds7,hd7,pd7⟩:=rk
   have dl7:=Paired.length pd7
   rw[List.length_map,List.length_take]at dl7
   refine tbc_yes ⟨_,rfl,b,_,0,_,rfl,rfl,SqT.of (t1 _ _ hB),rfl,_,rfl,b,_,1,_,rfl,rfl,SqT.of (t1 _ _ hB),rfl,p.1,p.2,rfl,fun kt hkt=>?_⟩
   have st:=same_new (o:=.tup [.int (keyP p.1 p.2).1,.int (keyP p.1 p.2).2]) hkt
   refine⟨_,st _ _ hd7,by rw[List.length_map];exact small1000 (by omega),_,rfl,same_upd (t1.trans st) hlk,?_⟩
   have:=row_push (a:=(keyP p.1 p.2).1) (b:=(keyP p.1 p.2).2) hd7 pd7 hkt
   rw[List.take_add_one,hp,Option.toList_some,List.map_append]
   exact this
  rintro σ H7 ⟨v,rfl,s7,rk⟩
  rw[List.length_map,al,show (quadL x0 x1 x2 x3).take 6=quadL x0 x1 x2 x3 from rfl]at rk
  refine⟨lk,_,rfl,rk,by rw[List.length_map,q6];decide,fun lp H8 qs hlp s8 pq mm=>⟨lp,qs,rfl,pq,rfl,_,rfl,?_⟩⟩
  have qn:qs.length=6:=by
   obtain⟨_,_,_,_,_,_,_,_,ndq,_⟩:=pq
   have pm:qs.Perm ((quadL x0 x1 x2 x3).map keyR):=(List.perm_ext_iff_of_nodup ndq (quad_keys nd)).mpr mm
   rw[pm.length_eq,List.length_map,q6]
  rw[qn,show (!decide (V.int ((6:Nat):Int)=V.int 6))=false from rfl]
  have s68:=s7.trans s8
  refine iteF ⟨_,rfl,l,rfl,⟨_,SqL.of (s68 _ _ hl6)⟩,fun lb hlb=>?_⟩
  have hq8:=(s5.trans (s6.trans s68)) _ _ hq4
  refine bool_loop (K:=K) (as:=as) (rs:=quadL x0 x1 x2 x3) (f:=fun _=>false) hlb (s68 _ _ hl6) (by rw[al,q6]) (by omega) (fun i b p HK Q' hb hp sK kk=>?_) (fun H9 s9 h9=>?_)
  ·obtain⟨p',hp',hB⟩:=paired_get hp6 hb
   rw[hp]at hp'
   cases hp'
   have hB':=(s68.trans sK) _ _ hB
   have hq9:=sK _ _ hq8
   have pq:p.1≠p.2∧p.1∈[x0,x1,x2,x3]∧p.2∈[x0,x1,x2,x3]:=by
    have:=List.mem_of_getElem? hp
    unfold quadL at this
    simp only[List.mem_cons,List.not_mem_nil,or_false]at this ⊢
    rcases this with rfl | rfl | rfl | rfl | rfl | rfl<;>simp[*]
   refine⟨_,rfl,b,_,0,_,rfl,rfl,SqT.of hB',rfl,_,rfl,b,_,1,_,rfl,rfl,SqT.of hB',rfl,rfl,_,rfl,?_⟩
   rw[decide_eq_false (fun z=>pq.1 (V.int.inj z))]
   refine iteF ⟨_,rfl,b,_,0,_,rfl,rfl,SqT.of hB',rfl,_,rfl,lq,_,rfl,.inl (SqL.of hq9),rfl,flat_ints [x0,x1,x2,x3],_,rfl,?_⟩
   have ei:∀ z:Int,z∈[x0,x1,x2,x3]→(if true=true then !inV (V.int z) ([x0,x1,x2,x3].map V.int) else inV (V.int z) ([x0,x1,x2,x3].map V.int))=false:=fun z hz=>by rw[if_pos rfl,in_ints,decide_eq_true hz];rfl
   rw[ei _ pq.2.1]
   refine iteF ⟨_,rfl,b,_,1,_,rfl,rfl,SqT.of hB',rfl,_,rfl,lq,_,rfl,.inl (SqL.of hq9),rfl,flat_ints [x0,x1,x2,x3],?_⟩
   rw[ei _ pq.2.2]
   exact kk HK (Same.refl _)
  refine⟨lb,_,rfl,SqL.of h9,_,rfl,?_⟩
  rw[show ((quadL x0 x1 x2 x3).map fun _=>false).any id=false from rfl]
  have s69:=s68.trans s9
  have s49:=s5.trans (s6.trans s69)
  refine iteF ⟨_,rfl,_,rfl,dw,_,rfl,s49 _ _ hw4,fun dd hdd=>?_⟩
  have sD:=same_new (o:=.dK (dk (paperL [] ps))) hdd
  refine⟨l,dd,_,_,rfl,(r6.mono s69).mono sD,by rw[q6];decide,upd_same,by omega,?_⟩
  rw[upd_upd]
  have sE:=same_new (o:=.dK (dk (paperL (paperL [] ps) (quadL x0 x1 x2 x3)))) hdd
  have hdd1:upd H9 dd (.dK (dk (paperL (paperL [] ps) (quadL x0 x1 x2 x3)))) dd=some (.dK (dk (paperL (paperL [] ps) (quadL x0 x1 x2 x3)))):=upd_same
  have hw10:=sE _ _ (s49 _ _ hw4)
  have hl10:=sE _ _ (s69 _ _ hl6)
  have hq10:=sE _ _ (s49 _ _ hq4)
  have r10:=(r6.mono s69).mono sE
  generalize upd H9 dd (.dK (dk (paperL (paperL [] ps) (quadL x0 x1 x2 x3))))=H10 at sE hdd1 hw10 hl10 hq10 r10 ⊢
  have same:wr (paperL (paperL [] ps) (quadL x0 x1 x2 x3))=wr (paperL [] ps):=by rw[wr_paper,quad_id nd]
  have w2l:(paperL (paperL [] ps) (quadL x0 x1 x2 x3)).length≤30:=Nat.le_trans (paper_le (nodup_paper ps (w:=[]) (by simp[keysL])) _) (by rw[q6];omega)
  generalize paperL (paperL [] ps) (quadL x0 x1 x2 x3)=W2 at hdd1 same w2l ⊢
  generalize paperL [] ps=W1 at hw10 same hw4 wl sD ⊢
  refine⟨_,rfl,dd,_,rfl,hdd1,fun o lc hlc=>?_⟩
  have kp:∀ b u,H10 b=some u→b≠dd→(upd (upd H10 dd (.frz o (.dK (dk W2)))) lc (.lst [])) b=some u:=fun b u e n=>same_new hlc _ _ (by rw[upd_ne n];exact e)
  have nlc:dd≠lc:=fun z=>by rw[←z,upd_same]at hlc;cases hlc
  have lcn:H10 lc=none:=by rw[upd_ne nlc.symm]at hlc;exact hlc
  have ndw:dw≠dd:=fun z=>by rw[z]at hw4;rw[s49 _ _ hw4]at hdd;cases hdd
  have ndl:l≠dd:=fun z=>by rw[z]at hl6;rw[s69 _ _ hl6]at hdd;cases hdd
  have ndq:lq≠dd:=fun z=>by rw[z]at hq4;rw[s49 _ _ hq4]at hdd;cases hdd
  refine for_dict (d:=dd) (o:=o) (kvs:=dk W2) (fun i σ HH=>∃ v,σ=[v,some (.ref dd),some (.ref dw)]∧HH dd=some (.frz o (.dK (dk W2)))∧(∀ b u,H10 b=some u→b≠dd→HH b=some u)∧HH lc=some (.lst ((List.replicate i true).map V.bl)))
   ⟨none,rfl,by rw[upd_ne nlc,upd_same],kp,upd_same⟩ (fun i σ HH _ ⟨_,_,e,_⟩=>e) ?_ ?_
  ·rintro i y σ HH hi ⟨v,rfl,hF,kH,hc⟩
   obtain⟨q,hq,rfl⟩:=map_get hi
   have hil:=(List.getElem?_eq_some_iff.mp hq).1
   have qk:q.1∈keysL W2:=List.mem_map_of_mem (f:=(·.1)) (List.mem_of_getElem? hq)
   have g1:DGet HH dd (.int q.1) (some (.int (wr W2 q.1))):=.inl ⟨dk W2,Sum.inl q.1,.inr ⟨o,hF⟩,rfl,by rw[valV_dk,look_wr qk];rfl⟩
   have hwH:=kH _ _ hw10 ndw
   have g2:DGet HH dw (.int q.1) ((look W1 q.1).map V.int):=by have:=DGet.k (k:=Sum.inl q.1) hwH;rw[valV_dk]at this;exact this
   have eg:((look W1 q.1).map V.int).getD (V.int q.1)=V.int (wr W1 q.1):=by unfold wr;cases look W1 q.1<;>rfl
   refine tbc_yes ⟨_,rfl,_,rfl,dd,_,rfl,g1,_,rfl,dw,rfl,.inl ⟨_,.inl hwH⟩,_,rfl,_,rfl,_,g2,?_⟩
   show rEq (V.int (wr W2 q.1)) (((look W1 q.1).map V.int).getD (V.int q.1)) HH _
   rw[eg,same]
   refine⟨rfl,?_⟩
   rw[decide_eq_true rfl]
   refine⟨_,hc,by rw[List.length_map,List.length_replicate];exact small1000 (by omega),_,rfl,by rw[upd_ne nlc];exact hF,fun b u e n=>?_,?_⟩
   ·rw[upd_ne (fun z=>by rw[z,lcn]at e;cases e)];exact kH b u e n
   ·rw[upd_same,List.replicate_succ',List.map_append];rfl
  rintro σ HH ⟨v,rfl,hF,kH,hc⟩
  refine⟨lc,_,rfl,SqL.of hc,_,rfl,?_⟩
  rw[show (List.replicate (dk W2).length true).all id=true from List.all_eq_true.mpr fun b hb=>(List.mem_replicate.mp hb).2]
  have hlH:=kH _ _ hl10 ndl
  have hqH:=kH _ _ hq10 ndq
  refine iteF ⟨_,rfl,l,_,rfl,.inl (SqL.of hlH),fun lu hlu=>?_⟩
  have su:=same_new (o:=.lst (as.map V.ref)) hlu
  have nlu:lu≠l:=fun z=>by rw[z,hlH]at hlu;cases hlu
  have nql:lq≠l:=fun z=>by rw[z,hl]at hq4;cases hq4
  have rH:∀ b (e:Int×Int),H6 b=some (.tup [.int e.1,.int e.2])→HH b=some (.tup [.int e.1,.int e.2]):=fun b e z=>kH _ _ (sE _ _ (s69 _ _ z)) (fun q=>by rw[q]at z;rw[s69 _ _ z]at hdd;cases hdd)
  refine⟨_,rfl,.inl ⟨rfl,_,SqL.of (su _ _ hlH)⟩,l,_,rfl,rfl,su _ _ hlH,?_⟩
  have rU:RowAt (upd (upd HH lu (.lst (as.map V.ref))) l (.lst [])) lu (quadL x0 x1 x2 x3):=⟨as,by rw[upd_ne nlu,upd_same],Paired.mapP hp6 fun b e z=>by rw[upd_ne (fun q=>by rw[q,hl6]at z;cases z)];exact su _ _ (rH b e z)⟩
  have hqU:upd (upd HH lu (.lst (as.map V.ref))) l (.lst []) lq=some (.lst ([x0,x1,x2,x3].map V.int)):=by rw[upd_ne nql];exact su _ _ hqH
  generalize upd (upd HH lu (.lst (as.map V.ref))) l (.lst [])=HU at rU hqU ⊢
  refine⟨_,rfl,lq,_,0,_,rfl,rfl,SqL.of hqU,rfl,_,rfl,lq,_,1,_,rfl,rfl,SqL.of hqU,rfl,_,rfl,lq,_,2,_,rfl,rfl,SqL.of hqU,rfl,_,rfl,lq,_,3,_,rfl,rfl,SqL.of hqU,rfl,x0,x1,x2,x3,rfl,fun _ l2 H12 hl2 s12 r12=>?_,fun nn=>absurd nd nn⟩
  refine⟨_,rfl,l2,lu,_,_,rfl,rfl,rd_row r12,rd_row (rU.mono s12),fun b hb=>?_⟩
  rw[show (if false=true then !b else b)=true from hb.mpr rfl]
  exact k _
end
theorem all_mk2 {l:PySem.W.OpenLaw}{w:World}{K:PySem.W.Frag}{h:Heap}{mg:Str→Option Value}{fa:Addr}{co:Addr}(X:K.In h)(G:h.Ns mainGlobals mg)(hfa:mg "law" = some (.ref fa))(n_co:PySem.W.nsIn K mainGlobals "Same" = some (some (.ref co)))(e_co:OwnExc K co)(x_oo:PySem.W.exmOne K (.ref co) (.ref co)=some true)(F_law_cell_at:FnFact K "_law_cell_at" st_law_cell_at)(F_law_size:FnFact K "_law_size" st_law_size)(F_law_guest:FnFact K "_law_guest" st_law_guest)(F_law_draws:FnFact K "_law_draws" st_law_draws)(F_law_draws_from:FnFact K "_law_draws_from" st_law_draws_from)(F_law_pairs_from:FnFact K "_law_pairs_from" st_law_pairs_from)(F_law_paper:FnFact K "_law_paper" st_law_paper)(F_quadrille:FnFact K "quadrille" st_quadrille)(F_law_whole:FnFact K "_law_whole" st_law_whole)(F_law_pair:FnFact K "_law_pair" st_law_pair)(F_law_row:FnFact K "_law_row" st_law_row)(F_law_key:FnFact K "_law_key" st_law_key)(F_law:FnFact K "law" st_law)(z_len:PySem.W.nsIn K mainGlobals "len" = some none)(z_range:PySem.W.nsIn K mainGlobals "range" = some none)(z_isinstance:PySem.W.nsIn K mainGlobals "isinstance" = some none)(z_tuple:PySem.W.nsIn K mainGlobals "tuple" = some none)(z_list:PySem.W.nsIn K mainGlobals "list" = some none)(z_int:PySem.W.nsIn K mainGlobals "int" = some none)(z_bool:PySem.W.nsIn K mainGlobals "bool" = some none)(z_all:PySem.W.nsIn K mainGlobals "all" = some none)(z_any:PySem.W.nsIn K mainGlobals "any" = some none)(z_sorted:PySem.W.nsIn K mainGlobals "sorted" = some none)(z_reversed:PySem.W.nsIn K mainGlobals "reversed" = some none)(z_set:PySem.W.nsIn K mainGlobals "set" = some none)(z_min:PySem.W.nsIn K mainGlobals "min" = some none)(z_max:PySem.W.nsIn K mainGlobals "max" = some none)(z_dict:PySem.W.nsIn K mainGlobals "dict" = some none)(z_zip:PySem.W.nsIn K mainGlobals "zip" = some none)(z_enumerate:PySem.W.nsIn K mainGlobals "enumerate" = some none)(z_sum:PySem.W.nsIn K mainGlobals "sum" = some none)(z_str:PySem.W.nsIn K mainGlobals "str" = some none) :
  ∃ fd:FuncData,(∀ (s:Shared)(v:Value),BindsTo s fd ⟨[v],[]⟩ [("_law_script",v)])∧∀ base:Heap,K.In base→base.Ns mainGlobals mg→FnOk l.prog w K mg base CX0 7 fa fd ["_law_script"] (spLaw K):=by
 have T:Txt mg:=⟨PySem.W.mg_none_of X G z_len,PySem.W.mg_none_of X G z_range,PySem.W.mg_none_of X G z_isinstance,PySem.W.mg_none_of X G z_tuple,PySem.W.mg_none_of X G z_list,PySem.W.mg_none_of X G z_int,PySem.W.mg_none_of X G z_bool,PySem.W.mg_none_of X G z_all,PySem.W.mg_none_of X G z_any,PySem.W.mg_none_of X G z_sorted,PySem.W.mg_none_of X G z_reversed,PySem.W.mg_none_of X G z_set,PySem.W.mg_none_of X G z_min,PySem.W.mg_none_of X G z_max,PySem.W.mg_none_of X G z_dict,PySem.W.mg_none_of X G z_zip,PySem.W.mg_none_of X G z_enumerate,PySem.W.mg_none_of X G z_sum,PySem.W.mg_none_of X G z_str⟩
 have UO:HSm K mg co:=⟨e_co,PySem.W.mg_of X G n_co,x_oo⟩
 obtain⟨f_law,fd_law,a_law,G_law⟩:=F_law
 have e:=hfa.symm.trans (PySem.W.mg_of X G a_law)
 cases e
 refine⟨fd_law,?_,fun base _ _=>?_⟩
 ·obtain⟨_,_,_,_,_,_,_,_,_,rfl,_,_⟩:=G_law.ex
  exact fun s v=>.of_eq rfl
 ·have C_law_cell_at:Callee l.prog w K mg base "_law_cell_at" 1 ["_law_script","_law_k"] (spCell K):=mkC X G F_law_cell_at fun _ _ h=>ok_law_cell_at T UO h
  have C_law_size:Callee l.prog w K mg base "_law_size" 1 ["_law_cell"] spSize:=mkC X G F_law_size fun _ _ h=>ok_law_size T UO h
  have C_law_guest:Callee l.prog w K mg base "_law_guest" 2 ["_law_k","_law_cell"] spGuest:=mkC X G F_law_guest fun _ _ h=>ok_law_guest T UO h C_law_size
  have C_law_draws:Callee l.prog w K mg base "_law_draws" 2 ["_law_cell","_law_many","_law_base"] spDraws:=mkC X G F_law_draws fun _ _ h=>ok_law_draws T UO h C_law_size
  have C_law_draws_from:Callee l.prog w K mg base "_law_draws_from" 3 ["_law_script","_law_start","_law_most","_law_base"] (spFrom K):=mkC X G F_law_draws_from fun _ _ h=>ok_law_draws_from T UO h C_law_draws
  have C_law_pairs_from:Callee l.prog w K mg base "_law_pairs_from" 3 ["_law_draws_here","_law_many","_law_cell"] (spPairs K):=mkC X G F_law_pairs_from fun _ _ h=>ok_law_pairs_from T UO h C_law_guest
  have C_law_paper:Callee l.prog w K mg base "_law_paper" 1 ["_law_row_here","_law_worn"] spPaper:=mkC X G F_law_paper fun _ _ h=>ok_law_paper T UO h
  have Cquadrille:XCallee l.prog w K mg base "quadrille" 2 ["a","b","c","d"] (spQuadr co):=mkX X G F_quadrille fun _ _ h=>ok_quadrille T UO h
  have C_law_whole:Callee l.prog w K mg base "_law_whole" 1 ["_law_found"] spWhole:=mkC X G F_law_whole fun _ _ h=>ok_law_whole T UO h
  have C_law_pair:Callee l.prog w K mg base "_law_pair" 2 ["_law_found"] spPairT:=mkC X G F_law_pair fun _ _ h=>ok_law_pair T UO h C_law_whole
  have C_law_row:Callee l.prog w K mg base "_law_row" 3 ["_law_found"] spRowT:=mkC X G F_law_row fun _ _ h=>ok_law_row T UO h C_law_pair
  have C_law_key:Callee l.prog w K mg base "_law_key" 1 ["_law_one","_law_other"] spKey:=mkC X G F_law_key fun _ _ h=>ok_law_key T UO h
  exact ok_law T UO G_law C_law_cell_at C_law_size C_law_guest C_law_draws_from C_law_pairs_from C_law_paper Cquadrille C_law_row C_law_key
theorem walk {l:PySem.W.OpenLaw}{q:Program}{loose:List Str}{XP:(Str→Option Value)→Heap→Prop}{YP:World→Heap→Prop}{d:DefRec}{K:Params→PySem.W.Frag}(hn:l.most=some 63)(hdf:d.params.defaults=[])
  (hY:∀ (w:World)(h:Heap),YP w h→(K w.params).In h)
  (F:∀ (w:World)(mg:Str→Option Value)(fa:Addr)(h:Heap),(K w.params).In h→h.Ns mainGlobals mg→mg d.name=some (.ref fa) →
   ∃ fd:FuncData,(∀ (s:Shared)(u:Value),BindsTo s fd ⟨[u],[]⟩ [("_law_script",u)])∧∀ base:Heap,(K w.params).In base→base.Ns mainGlobals mg→FnOk l.prog w (K w.params) mg base CX0 7 fa fd ["_law_script"] (spLaw (K w.params))) :
  PySem.W.WalkO q loose XP YP l.row.toRowW d [] (fun f vs=>PySem.call f vs) :=
 L2.walk_of (n:=63) (k:=7) (x:="_law_script") (CX:=fun _=>CX0) (sp:=fun w=>spLaw (K w.params)) hn (by decide) hdf ⟨rfl,by decide,by decide⟩ hY F (fun _ _ a ns hl _ hS=>⟨a,ns,rfl,hS,hl,fun _=>rfl⟩) fun _ _ _ _ _ z=>z
end Wk07
def PySem.W.Fast.tw16320628781705783112:Nat:=0
def PySem.W.Fast.tw6326813426583952334:Nat:=0
def PySem.W.Fast.tw15601614640980650637:Nat:=0
def PySem.W.Fast.tw15676458349174836599:Nat:=0
def PySem.W.Fast.tw17824289851645652171:Nat:=0
def PySem.W.Fast.tw7222503733178905130:Nat:=0
def PySem.W.Fast.tw13678365901055025651:Nat:=0
def PySem.W.Fast.tw15066565822824580898:Nat:=0
def PySem.W.Fast.tw603978750488764088:Nat:=0
def PySem.W.Fast.tw17174832484592715591:Nat:=0
open PySem PySem.W PyProof.Rows
set_option maxRecDepth 100000 in
set_option maxHeartbeats 0 in
theorem PySem.Challenge.cw_lastwaltz_k07_a_quadrille_holds : PySem.Challenge.rw_lastwaltz_k07_a_quadrille.Holds := by
 w_on;o_law;k_head;(case hw=>w_witness2)
 k_fill
 refine Wk07.walk (l:=PySem.Challenge.rw_lastwaltz_k07_a_quadrille) rfl rfl (fun w h Y=>PySem.W.kIn_of Y) ?F
 case F =>
  intro w mg fa h KX G hmg
  refine' Wk07.all_mk2 KX G hmg ?n_co ?e_co ?x_oo ?F_law_cell_at ?F_law_size ?F_law_guest ?F_law_draws ?F_law_draws_from ?F_law_pairs_from ?F_law_paper ?F_quadrille ?F_law_whole ?F_law_pair ?F_law_row ?F_law_key ?F_law ?z_len ?z_range ?z_isinstance ?z_tuple ?z_list ?z_int ?z_bool ?z_all ?z_any ?z_sorted ?z_reversed ?z_set ?z_min ?z_max ?z_dict ?z_zip ?z_enumerate ?z_sum ?z_str
  (case n_co=>k_is)
  (case e_co=>kernel_rfl)
  (case x_oo=>kernel_rfl)
  all_goals first | (refine' Wz.fact_mk ?a ?l ?c ?k;(case a=>k_is);(case l=>k_is);(case c=>k_is);(case k=>k_is)) | (refine' Wz.mfact_mk ?a ?i ?l ?c ?k;(case a=>k_is);(case i=>k_is);(case l=>k_is);(case c=>k_is);(case k=>k_is)) | k_is
