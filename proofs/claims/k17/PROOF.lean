import PyProof.Rows.All
import Wide.All
import OpenK.AllK
import Wide.FinOn
import Lean
import PyProof.EqAt
import PyProof.EqKinds
import PyProof.TupleCall
import PyProof.NeData
import PyProof.DictItems
import PyProof.JoinWalk
import PyProof.CallStr
import OpenK.KOwn
import KE.KTryMore
import PyProof.EnumMake
import KE.KLam
import KE.KNestM
import KE.KEqDict
import PySem.Challenge.RW_lastwaltz_k17_closed_groups
set_option Elab.async false
set_option linter.all false
set_option maxRecDepth 100000
set_option maxHeartbeats 4000000
namespace L2
open PySem PySem.Spec PyProof.Rows
abbrev Key:=Sum Int Str
def keyIs:Key→Value→Bool
 | .inl k,v=>Value.isInt k v
 | .inr x,v=>Value.isStrOf x v
def keyH (w:World):Key→Int
 | .inl k=>hashInt k
 | .inr x=>hashStr w x
theorem keyIs_shape:∀ {k:Key}{v:Value},keyIs k v=true→(∃ i t,k=Sum.inl i∧v=Value.int i t)∨(∃ x t,k=Sum.inr x∧v=Value.str x t)
 | .inl i,v,h=>by
  obtain⟨t,e⟩:=Value.isInt_shape (k:=i) (v:=v) h
  exact .inl ⟨i,t,rfl,e⟩
 | .inr x,v,h=>by
  obtain⟨t,e⟩:=Value.isStrOf_shape (x:=x) (v:=v) h
  exact .inr ⟨x,t,rfl,e⟩
theorem keyIs_int (i:Int)(t:Tok):keyIs (.inl i) (.int i t)=true:=by simp[keyIs,Value.isInt]
theorem keyIs_str (x:Str)(t:Tok):keyIs (.inr x) (.str x t)=true:=by simp[keyIs,Value.isStrOf]
theorem key_ll (a b:Int):decide ((Sum.inl a:Key)=Sum.inl b)=(a == b):=by
 by_cases e:a=b
 ·subst e;simp
 ·have h:¬ (Sum.inl a:Key)=Sum.inl b:=fun q=>e (Sum.inl.inj q)
  rw[decide_eq_false h]
  exact (beq_eq_false_iff_ne.mpr e).symm
theorem key_rr (a b:Str):decide ((Sum.inr a:Key)=Sum.inr b)=decide (a=b):=by
 by_cases e:a=b
 ·subst e;simp
 ·have h:¬ (Sum.inr a:Key)=Sum.inr b:=fun q=>e (Sum.inr.inj q)
  rw[decide_eq_false h,decide_eq_false e]
theorem key_lr (a:Int)(b:Str):decide ((Sum.inl a:Key)=Sum.inr b)=false:=decide_eq_false (fun q=>nomatch q)
theorem key_rl (a:Str)(b:Int):decide ((Sum.inr a:Key)=Sum.inl b)=false:=decide_eq_false (fun q=>nomatch q)
def mixKind (prog:Program)(w:World):PySem.KeyKind prog w Key where
 is:=keyIs
 hash:=keyH w
 inj:=fun v a b ha hb=>by
  rcases keyIs_shape ha with ⟨i,t,rfl,rfl⟩ | ⟨x,t,rfl,rfl⟩
  ·rcases keyIs_shape hb with ⟨j,u,rfl,e⟩ | ⟨y,u,rfl,e⟩
   ·injection e with e1 _;rw[e1]
   ·exact nomatch e
  ·rcases keyIs_shape hb with ⟨j,u,rfl,e⟩ | ⟨y,u,rfl,e⟩
   ·exact nomatch e
   ·injection e with e1 _;rw[e1]
 byValue:=fun k v h=>by
  rcases keyIs_shape h with ⟨i,t,rfl,rfl⟩ | ⟨x,t,rfl,rfl⟩<;>rfl
 pyHash:=fun hv h=>by
  rcases keyIs_shape hv with ⟨i,t,rfl,rfl⟩ | ⟨x,t,rfl,rfl⟩
  ·exact wpAny_pyHash_int h
  ·exact wpAny_pyHash_str h
 eqBool:=fun hu hv h=>by
  rcases keyIs_shape hu with ⟨i,t,rfl,rfl⟩ | ⟨x,t,rfl,rfl⟩
  ·rcases keyIs_shape hv with ⟨j,u,rfl,rfl⟩ | ⟨y,u,rfl,rfl⟩
   ·rw[key_ll]at h;exact wpAny_eqBool_int h
   ·rw[key_lr]at h;exact SeqAt.EqAt.int_str i t y u _ _ _ _ h
  ·rcases keyIs_shape hv with ⟨j,u,rfl,rfl⟩ | ⟨y,u,rfl,rfl⟩
   ·rw[key_rl]at h;exact SeqAt.EqAt.str_int x t j u _ _ _ _ h
   ·rw[key_rr]at h;exact wpAny_eqBool_str h
 «strs»:=fun k x t v h=>by
  rcases keyIs_shape h with ⟨i,u,rfl,e⟩ | ⟨y,u,rfl,e⟩
  ·exact nomatch e
  ·injection e with e1 _
   subst e1
   cases v<;>rfl
theorem mixKind_int (prog:Program)(w:World)(i:Int)(t:Tok):(mixKind prog w).is (.inl i) (.int i t)=true:=keyIs_int i t
theorem mixKind_str (prog:Program)(w:World)(x:Str)(t:Tok):(mixKind prog w).is (.inr x) (.str x t)=true:=keyIs_str x t
end L2
namespace L2
open PySem PySem.Spec PyProof.Rows
inductive V where
 | non | bl (b:Bool) | int (i:Int) | str (x:Str) | byt (b:Array UInt8) | flt (b:UInt64) | ref (a:Addr) | ty (n:String)
 deriving DecidableEq
def RelV:V→Value→Prop
 | .non,u=>u=Value.none
 | .bl b,u=>u=Value.bool b
 | .int i,u=>∃ t,u=Value.int i t
 | .str x,u=>∃ t,u=Value.str x t
 | .byt b,u=>∃ t,u=Value.bytes b t
 | .flt b,u=>∃ t,u=Value.float b t
 | .ref a,u=>u=Value.ref a
 | .ty n,u=>u=Value.type n
abbrev Vals:List V→List Value→Prop:=Paired RelV
theorem Vals.length {xs:List V}{us:List Value}(r:Vals xs us):xs.length=us.length:=Paired.length r
theorem Vals.get:∀ {xs:List V}{us:List Value}{i:Nat}{x:V},Vals xs us→xs[i]? = some x→∃ u,us[i]? = some u∧RelV x u
 | _,_,_,_,.nil,e=>by simp at e
 | _,_,0,_,.cons r _,e=>by simp at e;subst e;exact⟨_,rfl,r⟩
 | _,_,i+1,x,.cons _ t,e=>by
  obtain⟨u,h1,h2⟩:=Vals.get (i:=i) (x:=x) t (by simpa using e)
  exact⟨u,by simpa using h1,h2⟩
theorem Vals.append:∀ {xs ys:List V}{us ws:List Value},Vals xs us→Vals ys ws→Vals (xs++ys) (us++ws)
 | _,_,_,_,.nil,s=>s
 | _,_,_,_,.cons r t,s=>.cons r (Vals.append t s)
theorem Vals.take:∀ {xs:List V}{us:List Value}(n:Nat),Vals xs us→Vals (xs.take n) (us.take n)
 | _,_,0,_=>.nil
 | _,_,_+1,.nil=>.nil
 | _,_,n+1,.cons r t=>.cons r (Vals.take n t)
theorem Vals.drop:∀ {xs:List V}{us:List Value}(n:Nat),Vals xs us→Vals (xs.drop n) (us.drop n)
 | _,_,0,r=>r
 | _,_,_+1,.nil=>.nil
 | _,_,n+1,.cons _ t=>Vals.drop n t
def RelO:Option V→Option Value→Prop
 | some v,some u=>RelV v u
 | none,none=>True
 | _,_=>False
def KV {κ:Type}:List (κ×V)→List (κ×Value)→Prop:=Paired fun (p:κ×V)(q:κ×Value)=>p.1=q.1∧RelV p.2 q.2
def kV:Key→V
 | .inl i=>.int i
 | .inr x=>.str x
inductive HO where
 | lst (xs:List V)
 | tup (xs:List V)
 | dK (kvs:List (Key×V)) | dT (kvs:List (List Key×V))
 | set (S:Int→Bool) (n:Nat)
 | ins (C dx:Addr) (fs:List (Str×V))
 | own (x:Addr)
 | xd (fs:List (Str×V))
 | met (f x:Addr)
 | rng (lo hi:Int)
 | frz (o:Obj) (u:HO)
 | tbl (ps:Array Value)
 | ext (φ:Heap→Prop)
abbrev Hp:=Addr→Option HO
def upd (H:Hp)(a:Addr)(o:HO):Hp:=fun b=>if b=a then some o else H b
theorem upd_same {H:Hp}{a:Addr}{o:HO}:upd H a o a=some o:=by unfold upd;rw[if_pos rfl]
theorem upd_ne {H:Hp}{a b:Addr}{o:HO}(h:b≠a):upd H a o b=H b:=by unfold upd;rw[if_neg h]
theorem upd_upd {H:Hp}{a:Addr}{o u:HO}:upd (upd H a o) a u=upd H a u:=by
 funext b;unfold upd;split<;>rfl
theorem ne_of {H:Hp}{a b:Addr}{o u:HO}(h:H a=some o)(h':H b=some u)(d:o≠u):a≠b:=by
 intro e;subst e;rw[h]at h';exact d (Option.some.inj h')
theorem ne_of_none {H:Hp}{a b:Addr}{o:HO}(h:H a=some o)(h':H b=none):a≠b:=by
 intro e;subst e;rw[h]at h';cases h'
section
variable (P:Program)(w:World)
def ObjOk (H:Hp)(h:Heap)(a:Addr):HO→Prop
 | .lst xs=>xs.length≤sizeLine∧∃ (its:List Value)(n:Nat),Vals xs its∧h.get? a=some { cls:=.type "list",data:=.seq its.toArray n }
 | .tup xs=>xs.length≤sizeLine∧∃ its:List Value,Vals xs its∧IsTup h a its.toArray
 | .dK kvs=>kvs.length≤sizeLine∧(a == sysModules)=false∧∃ vs,KV kvs vs∧h.DictOf (mixKind P w) a vs
 | .dT kvs=>kvs.length≤sizeLine∧(a == sysModules)=false∧∃ xs:List (List Key×Addr×Value),
   Paired (fun (p:List Key×V)(q:List Key×Addr×Value)=>p.1=q.1∧H q.2.1=some (.tup (p.1.map kV))∧RelV p.2 q.2.2) kvs xs ∧
   ∃ o es ep,h.get? a=some o∧o.ExactDict∧o.data=.dict es ep∧es.toList=xs.map (entryOfKey (tupleKind (mixKind P w)))∧(xs.map (·.1)).Nodup
 | .set S n=>h.SetOf (intKind P w) a S n
 | .ins C dx fs=>H dx=some (.own a)∧fs.length≤1000∧dx≠a∧h.get? a=some (PySem.W.instObj C dx) ∧
   ∃ mA,h.Ns1 dx mA∧(∀ f,RelO (fs.lookup f) (mA f))∧PySem.Within mA (fs.map (·.1))
 | .own _=>∃ o,h.get? a=some o
 | .xd fs=>∃ mA,h.Ns1 a mA∧∀ f,RelO (fs.lookup f) (mA f)
 | .rng lo hi=>∃ t u v,h.get? a=some { cls:=.type "range",data:=.fields #[.int lo t,.int hi u,.int 1 v] }
 | .frz o u=>h.get? a=some o∧ObjOk H h a u
 | .tbl ps=>h.get? a=some { cls:=.none,data:=.fields ps }
 | .met f x=>h.get? a=some (PySem.W.methodObj (.ref f) (.ref x))
 | .ext φ=>φ h∧(∃ o,h.get? a=some o)∧∀ h1 h2:Heap,φ h1→(∀ o,h1.get? a=some o→h2.get? a=some o)→φ h2
def HOk (H:Hp)(h:Heap):Prop:=∀ a o,H a=some o→ObjOk P w H h a o
end
section
variable {P:Program}{w:World}{H H':Hp}{h h':Heap}{a:Addr}{o:HO}
theorem ObjOk.lt (x:ObjOk P w H h a o):a<h.objs.size:=by
 cases o with
 | lst xs=>obtain⟨_,_,_,_,e⟩:=x;exact Heap.lt_size e
 | tup xs=>obtain⟨_,_,_,p⟩:=x;exact p.lt
 | dK kvs=>obtain⟨_,_,_,_,o,_,_,e,_⟩:=x;exact Heap.lt_size e
 | dT kvs=>obtain⟨_,_,_,_,o,_,_,e,_⟩:=x;exact Heap.lt_size e
 | set S n=>obtain⟨o,_,_,_,e,_⟩:=x;exact Heap.lt_size e
 | ins C dx fs=>obtain⟨_,_,_,e,_⟩:=x;exact Heap.lt_size e
 | own y=>obtain⟨_,e⟩:=x;exact Heap.lt_size e
 | xd fs=>obtain⟨_,⟨_,_,_,e,_⟩,_⟩:=x;exact Heap.lt_size e
 | rng lo hi=>obtain⟨_,_,_,e⟩:=x;exact Heap.lt_size e
 | frz ob u=>obtain⟨e,_⟩:=x;exact Heap.lt_size e
 | tbl ps=>exact Heap.lt_size (show h.get? a=some _ from x)
 | met f y=>exact Heap.lt_size (show h.get? a=some _ from x)
 | ext φ=>obtain⟨_,⟨_,e⟩,_⟩:=x;exact Heap.lt_size e
theorem Paired.mapP {α β:Type}{F G:α→β→Prop}:∀ {l₁:List α}{l₂:List β},Paired F l₁ l₂→(∀ a b,F a b→G a b)→Paired G l₁ l₂
 | _,_,.nil,_=>.nil
 | _,_,.cons r t,f=>.cons (f _ _ r) (Paired.mapP t f)
theorem ObjOk.stay (x:ObjOk P w H h a o)(k:∀ b u,(b=a∨H b=some (.own a))→h.get? b=some u→h'.get? b=some u)
  (ho:∀ b,H b=some (.own a)→H' b=some (.own a)) (ht:∀ b xs,H b=some (.tup xs)→H' b=some (.tup xs)):ObjOk P w H' h' a o:=by
 induction o with
 | lst xs=>obtain⟨z,its,n,r,e⟩:=x;exact⟨z,its,n,r,k _ _ (.inl rfl) e⟩
 | tup xs=>obtain⟨z,its,r,ob,e,c⟩:=x;exact⟨z,its,r,ob,k _ _ (.inl rfl) e,c⟩
 | dK kvs=>obtain⟨z,y,vs,r,ob,es,ep,e,c⟩:=x;exact⟨z,y,vs,r,ob,es,ep,k _ _ (.inl rfl) e,c⟩
 | dT kvs =>
  obtain⟨z,y,xs,r,ob,es,ep,e,c⟩:=x
  exact⟨z,y,xs,Paired.mapP r fun p q z=>⟨z.1,ht _ _ z.2.1,z.2.2⟩,ob,es,ep,k _ _ (.inl rfl) e,c⟩
 | set S n=>obtain⟨ob,es,ep,t,e,c⟩:=x;exact⟨ob,es,ep,t,k _ _ (.inl rfl) e,c⟩
 | ins C dx fs =>
  obtain⟨d,z,ne,e,mA,⟨od,es,ep,e2,c⟩,r⟩:=x
  exact⟨ho _ d,z,ne,k _ _ (.inl rfl) e,mA,⟨od,es,ep,k _ _ (.inr d) e2,c⟩,r⟩
 | own y=>obtain⟨ob,e⟩:=x;exact⟨ob,k _ _ (.inl rfl) e⟩
 | xd fs=>obtain⟨mA,⟨od,es,ep,e,c⟩,r⟩:=x;exact⟨mA,⟨od,es,ep,k _ _ (.inl rfl) e,c⟩,r⟩
 | rng lo hi=>obtain⟨t,u,v,e⟩:=x;exact⟨t,u,v,k _ _ (.inl rfl) e⟩
 | frz ob u ih=>obtain⟨e,q⟩:=x;exact⟨k _ _ (.inl rfl) e,ih q⟩
 | tbl ps =>
  have e:h.get? a=some { cls:=.none,data:=.fields ps }:=x
  show h'.get? a=some { cls:=.none,data:=.fields ps }
  exact k a _ (.inl rfl) e
 | met f y =>
  have e:h.get? a=some (PySem.W.methodObj (.ref f) (.ref y)):=x
  show h'.get? a=some (PySem.W.methodObj (.ref f) (.ref y))
  exact k a _ (.inl rfl) e
 | ext φ=>obtain⟨p,⟨o,e⟩,st⟩:=x;exact⟨st _ _ p fun o q=>k _ _ (.inl rfl) q,⟨o,k _ _ (.inl rfl) e⟩,st⟩
theorem HOk.lt (x:HOk P w H h)(e:H a=some o):a<h.objs.size:=(x a o e).lt
theorem HOk.fresh (x:HOk P w H h)(e:h.objs.size≤a):H a=none:=by
 cases q:H a with
 | none=>rfl
 | some u=>exact absurd (Nat.lt_of_lt_of_le (x.lt q) e) (Nat.lt_irrefl _)
theorem HOk.kept (x:HOk P w H h)(k:∀ b u,h.get? b=some u→h'.get? b=some u):HOk P w H h':=fun a o e =>
 (x a o e).stay (fun b u _ q=>k b u q) (fun _ q=>q) fun _ _ q=>q
theorem HOk.laid (x:HOk P w H h)(k:∀ b u,h.get? b=some u→h'.get? b=some u)(hp:h.objs.size≤a)(new:ObjOk P w (upd H a o) h' a o):HOk P w (upd H a o) h':=fun b u e=>by
 have hn:=x.fresh hp
 by_cases hb:b=a
 ·subst hb;rw[upd_same]at e;cases e;exact new
 ·rw[upd_ne hb]at e
  exact (x b u e).stay (fun c v _ q=>k c v q) (fun c q=>by rw[upd_ne (ne_of_none q hn)];exact q) fun c xs q=>by rw[upd_ne (ne_of_none q hn)];exact q
end
def Rd (H:Hp)(a:Addr)(u:HO):Prop:=H a=some u∨∃ o,H a=some (.frz o u)
theorem Rd.ok {P:Program}{w:World}{H:Hp}{h:Heap}{a:Addr}{u:HO}(r:Rd H a u)(x:HOk P w H h):ObjOk P w H h a u:=by
 rcases r with r | ⟨o,r⟩
 ·exact x a u r
 ·obtain⟨_,q⟩:=x a _ r
  exact q
def Mut:Option HO→Prop
 | some (.lst _)=>True
 | some (.dK _)=>True
 | some (.dT _)=>True
 | some (.set _ _)=>True
 | some (.ins _ _ _)=>True
 | some (.ext _)=>True
 | _=>False
section
variable {P:Program}{w:World}{H:Hp}{h h':Heap}{x e:Addr}{o':HO}
theorem HOk.write (ok:HOk P w H h)(mu:Mut (H x))(he:e=x∨H e=some (.own x))(k:∀ b u,b≠e→h.get? b=some u→h'.get? b=some u)(heo:∃ u,h'.get? e=some u)
  (new:ObjOk P w (upd H x o') h' x o'):HOk P w (upd H x o') h':=fun b u q=>by
 have nown:∀ c y,H c=some (.own y)→c≠x:=fun c y r z=>by subst z;rw[r]at mu;exact mu
 have ntup:∀ c xs,H c=some (.tup xs)→c≠x:=fun c xs r z=>by subst z;rw[r]at mu;exact mu
 by_cases hb:b=x
 ·subst hb;rw[upd_same]at q;cases q;exact new
 ·rw[upd_ne hb]at q
  by_cases hbe:b=e
  ·have q':H b=some (.own x):=by
    rcases he with z | z
    ·exact absurd (hbe.trans z) hb
    ·rw[hbe];exact z
   rw[q]at q';cases q'
   obtain⟨v,hv⟩:=heo
   exact⟨v,by rw[hbe];exact hv⟩
  ·refine (ok b u q).stay (fun c v hc r=>k c v ?_ r) (fun c r=>by rw[upd_ne (nown c b r)];exact r) fun c xs r=>by rw[upd_ne (ntup c xs r)];exact r
   rcases hc with rfl | hc
   ·exact hbe
   ·rintro rfl
    rcases he with z | z
    ·exact nown c b hc z
    ·rw[hc]at z;cases z;exact hb rfl
end
structure Un (fs ex:List Addr)(H H':Hp)(h h':Heap):Prop where
 keep:∀ b o,h.get? b=some o→H b=none→b∉fs→b∉ex→h'.get? b=some o
 slot:∀ b o,h.get? b=some o→H b=none→b∈fs→b∉ex→∃ sl,h'.get? b=some { o with slots:=sl }
 free:∀ b o,h.get? b=some o→H b=none→b∉ex→H' b=none
 there:∀ b o,h.get? b=some o→b∉ex→∃ o',h'.get? b=some o'
 tups:∀ b xs,H b=some (.tup xs)→H' b=some (.tup xs)
 frzs:∀ b o u,H b=some (.frz o u)→H' b=some (.frz o u)
 tbls:∀ b ps,H b=some (.tbl ps)→∃ more,H' b=some (.tbl (ps++more))
section
variable {fs fs' ex ex':List Addr}{H H1 H2:Hp}{h h1 h2 h':Heap}{a x e:Addr}{o:HO}
theorem Un.any (u:Un fs ex H H1 h h1){b:Addr}{ob:Obj}(q:h.get? b=some ob)(n:H b=none)(hx:b∉ex):∃ sl,h1.get? b=some { ob with slots:=sl }:=by
 by_cases hb:b∈fs
 ·exact u.slot b ob q n hb hx
 ·exact⟨ob.slots,u.keep b ob q n hb hx⟩
theorem Un.kept (k:∀ b u,h.get? b=some u→h'.get? b=some u):Un fs ex H H h h' :=
 ⟨fun b ob q _ _ _=>k b ob q,fun b ob q _ _ _=>⟨ob.slots,k b ob q⟩,fun _ _ _ n _=>n,fun b ob q _=>⟨ob,k b ob q⟩,fun _ _ q=>q,fun _ _ _ q=>q,fun _ ps q=>⟨#[],by rw[q];simp⟩⟩
theorem Un.refl:Un fs ex H H h h:=Un.kept fun _ _ q=>q
theorem Un.laid (k:∀ b u,h.get? b=some u→h'.get? b=some u)(hp:h.objs.size≤a)(hn:H a=none):Un fs ex H (upd H a o) h h' where
 keep:=fun b u q _ _ _=>k b u q
 slot:=fun b u q _ _ _=>⟨u.slots,k b u q⟩
 free:=fun b u q n _=>by rw[upd_ne (Nat.ne_of_lt (Nat.lt_of_lt_of_le (Heap.lt_size q) hp))];exact n
 there:=fun b u q _=>⟨u,k b u q⟩
 tups:=fun b xs q=>by rw[upd_ne (ne_of_none q hn)];exact q
 frzs:=fun b u xs q=>by rw[upd_ne (ne_of_none q hn)];exact q
 tbls:=fun b ps q=>⟨#[],by rw[upd_ne (ne_of_none q hn),q];simp⟩
theorem Un.write (mu:Mut (H x))(he:e=x∨H e=some (.own x))(k:∀ b u,b≠e→h.get? b=some u→h'.get? b=some u)(heo:∃ u,h'.get? e=some u):Un fs ex H (upd H x o) h h':=by
 have hx:∀ b,H b=none→b≠x:=fun b n z=>by subst z;rw[n]at mu;exact mu
 have hb:∀ b,H b=none→b≠e:=fun b n z=>by
  subst z
  rcases he with r | r
  ·exact hx b n r
  ·rw[n]at r;cases r
 have hm:∀ b u,H b=some u→¬ Mut (some u)→b≠x:=fun b u q nm z=>by subst z;rw[q]at mu;exact nm mu
 refine⟨fun b u q n _ _=>k b u (hb b n) q,fun b u q n _ _=>⟨u.slots,k b u (hb b n) q⟩,fun b u q n _=>by rw[upd_ne (hx b n)];exact n,fun b u q _=>?_,
  fun b xs q=>by rw[upd_ne (hm b _ q fun z=>z)];exact q,fun b u xs q=>by rw[upd_ne (hm b _ q fun z=>z)];exact q,fun b ps q=>⟨#[],by rw[upd_ne (hm b _ q fun z=>z),q];simp⟩⟩
 by_cases hbe:b=e
 ·subst hbe;exact heo
 ·exact⟨u,k b u hbe q⟩
end
def trk (h:Heap)(H:Hp):List Addr:=(List.range h.objs.size).filter fun a=>(H a).isSome
def hidT (h:Heap)(H:Hp):Heap:=PySem.W.hideAll h (trk h H)
theorem hidT_size (h:Heap)(H:Hp):(hidT h H).objs.size=h.objs.size:=PySem.W.hideAll_size _ _
theorem hidT_get {h:Heap}{H:Hp}{b:Addr}{o:Obj}(e:h.get? b=some o)(n:H b=none):(hidT h H).get? b=some o :=
 PySem.W.hideAll_get _ e fun hm=>by
  have q:(H b).isSome=true:=(List.mem_filter.mp hm).2
  rw[n]at q;simp at q
theorem of_hidT {h:Heap}{H:Hp}{b:Addr}{o:Obj}(e:(hidT h H).get? b=some o):h.get? b=some o∧H b=none:=by
 have e':h.get? b=some o:=PySem.W.of_hideAll (trk h H) e
 refine⟨e',?_⟩
 cases q:H b with
 | none=>rfl
 | some x =>
  have hm:b∈trk h H:=List.mem_filter.mpr ⟨List.mem_range.mpr (Heap.lt_size e'),by simp[q]⟩
  have z:(hidT h H).get? b=none:=PySem.W.hideAll_none (trk h H) hm
  rw[z]at e;cases e
end L2
namespace L2
open PySem PySem.Spec PyProof.Rows
structure Mod (K:PySem.W.Frag)(mg:Str→Option Value)(base:Heap):Prop where
 kin:K.In base
 glob:base.Ns mainGlobals mg
 blt:∃ mb,base.Ns builtinsNs mb∧∀ x:Str,x≠"__name__"→mb x=bootBuiltins x
 nolimit:base.NoLimit
structure Cx where
 prog:Program
 w:World
 K:PySem.W.Frag
 mg:Str→Option Value
 base:Heap
 A:Around
 N:List Str
 s₀:Shared
 H₀:Hp
 env:Env
 outer:List Env
 stack:List Env
 ex:List Addr
 fn:Str→Bool
 calm:Bool
 pn:List (Addr×Obj)
 xe:Value→Shared→Prop
def frs (l:List Env):List Addr:=l.filterMap (·.frame)
abbrev Cx.fs (X:Cx):List Addr:=frs X.outer
def Vis (sc:Scope)(x:Str):Prop:=sc.names.lookup x=some .local∨sc.names.lookup x=some .cell∨sc.names.lookup x=some .free
def Loc (sc:Scope)(x:Str):Prop:=sc.names.lookup x=some .local∨sc.names.lookup x=some .cell
def Look (env:Env)(h:Heap)(m:Str→Option Value)(x:Str)(u:Value):Prop :=
 (env.kindOf x=some .local∧m x=some u)∨((env.kindOf x=some .cell∨env.kindOf x=some .free)∧∃ c,env.cells.lookup x=some c∧h.IsCell c (some u))
structure Cx.Ok (X:Cx):Prop where
 mod:Mod X.K X.mg X.base
 kind:X.env.scope.kind=.function
 glob:X.env.globals=mainGlobals
 blt:X.env.builtins=builtinsNs
 above:X.s₀.heap.objs.size≤X.env.locals
 inj:∀ x y c,X.env.cells.lookup x=some c→X.env.cells.lookup y=some c→x=y
 has:∀ x,(X.env.kindOf x=some .cell∨X.env.kindOf x=some .free)→∃ c,X.env.cells.lookup x=some c
 cab:∀ x c,X.fn x=true→X.env.cells.lookup x=some c→X.s₀.heap.objs.size≤c
 hd:X.calm=true→X.A.handled=none
 frames:X.A.frames=some X.stack
 stk:X.stack=X.outer∨(X.stack=X.env::X.outer∧X.env.frame=some X.env.locals)
 exf:∀ b∈X.ex,b≠X.env.locals∧∀ x c,X.env.cells.lookup x=some c→c≠b
 bs:∀ b o,X.base.get? b=some o→X.s₀.heap.get? b=some o∧X.H₀ b=none
 bsz:X.base.objs.size≤X.s₀.heap.objs.size
 noex:∀ b o,X.base.get? b=some o→b∉X.ex
 exfs:∀ b∈X.ex,b∉X.fs
 funs:X.s₀.heap.FunFrames X.base X.outer
 frf:∀ b∈X.fs,X.H₀ b=none
structure Inv (X:Cx)(pins:List (Addr×Obj))(σ:List (Option V))(H:Hp)(s:Shared):Prop where
 ok:X.Ok
 os:s.os=X.s₀.os
 bare:AllBare s.gens
 base:Un X.fs X.ex X.H₀ H X.s₀.heap s.heap
 loc:∃ m,s.heap.Ns X.env.locals m∧∀ (i:Nat)(x:Str)(v:V),X.N[i]? = some x→σ[i]? = some (some v)→Vis X.env.scope x→∃ u,RelV v u∧Look X.env s.heap m x u
 cell:∀ x c,X.env.cells.lookup x=some c→∃ v,s.heap.IsCell c v
 free:H X.env.locals=none
 freeC:∀ x c,X.env.cells.lookup x=some c→H c=none
 pin:∀ p∈X.pn++pins,s.heap.get? p.1=some p.2∧H p.1=none∧p.1≠X.env.locals∧p.1∉X.fs∧∀ v,p.2.data≠.cell v
 hok:HOk X.prog X.w H s.heap
 len:σ.length=X.N.length
section
variable {X:Cx}{pins:List (Addr×Obj)}{σ:List (Option V)}{H H':Hp}{s:Shared}{h':Heap}
theorem Cx.Ok.nofr (ok:X.Ok){b:Addr}{o:Obj}(e:X.base.get? b=some o):b∉X.fs:=fun hb=>by
 have:=(ok.funs.mem hb).1
 rw[e]at this;cases this
theorem Inv.bs (I:Inv X pins σ H s):∀ b o,X.base.get? b=some o→s.heap.get? b=some o∧H b=none:=fun b o e =>
 ⟨I.base.keep b o (I.ok.bs b o e).1 (I.ok.bs b o e).2 (I.ok.nofr e) (I.ok.noex b o e),I.base.free b o (I.ok.bs b o e).1 (I.ok.bs b o e).2 (I.ok.noex b o e)⟩
theorem Inv.bk (I:Inv X pins σ H s):∀ b o,X.base.get? b=some o→s.heap.get? b=some o:=fun b o e=>(I.bs b o e).1
theorem Inv.mod (I:Inv X pins σ H s):Mod X.K X.mg X.base:=I.ok.mod
theorem Inv.kIn (I:Inv X pins σ H s):X.K.In s.heap:=I.ok.mod.kin.keeps I.bk
theorem Inv.lt (I:Inv X pins σ H s):X.env.locals<s.heap.objs.size:=let ⟨_,hn,_⟩:=I.loc;hn.lt
theorem Inv.sz (I:Inv X pins σ H s):X.s₀.heap.objs.size≤s.heap.objs.size:=Nat.le_trans I.ok.above (Nat.le_of_lt I.lt)
theorem Inv.nofs (I:Inv X pins σ H s){a:Addr}(h:s.heap.objs.size≤a):a∉X.fs:=fun hb=>by
 obtain⟨_,o,ho,_⟩:=I.ok.funs.mem hb
 exact absurd (Nat.lt_of_lt_of_le (Heap.lt_size ho) (Nat.le_trans I.sz h)) (Nat.lt_irrefl _)
theorem Inv.cne (I:Inv X pins σ H s):∀ x c,X.env.cells.lookup x=some c→c≠X.env.locals:=fun x c e z=>by
 obtain⟨v,o,ho,hd⟩:=I.cell x c e
 obtain⟨m,⟨o',es,ep,ho',hd',_⟩,_⟩:=I.loc
 rw[z,ho']at ho;cases ho;rw[hd']at hd;cases hd
theorem Inv.funs (I:Inv X pins σ H s):s.heap.FunFrames X.base X.outer:=by
 have all:∀ (l:List Env),(∀ b∈frs l,b∈X.fs)→X.s₀.heap.FunFrames X.base l→s.heap.FunFrames X.base l:=by
  intro l
  induction l with
  | nil=>intro _ _;trivial
  | cons env r ih =>
   intro hs hl
   obtain⟨hk,⟨L,o,hf,hn,ho,hd⟩,hr⟩:=hl
   have hL:L∈X.fs:=hs L (by unfold frs;rw[List.filterMap_cons,hf];exact List.mem_cons_self)
   obtain⟨sl,e⟩:=I.base.slot L o ho (I.ok.frf L hL) hL fun z=>I.ok.exfs L z hL
   exact⟨hk,⟨L,_,hf,hn,e,hd⟩,ih (fun b hb=>hs b (by unfold frs;rw[List.filterMap_cons,hf];exact List.mem_cons_of_mem _ hb)) hr⟩
 exact all X.outer (fun _ hb=>hb) I.ok.funs
theorem Inv.stack (I:Inv X pins σ H s):s.heap.FunFrames X.base X.stack:=by
 rcases I.ok.stk with e | ⟨e,hf⟩
 ·rw[e];exact I.funs
 ·rw[e]
  obtain⟨m,hn,_⟩:=I.loc
  refine .cons (by rw[I.ok.kind];decide) hf hn ?_ I.funs
  exact Heap.get?_none_of_le (Nat.le_trans I.ok.bsz I.ok.above)
theorem Inv.stkSub (I:Inv X pins σ H s):∀ b∈frs X.stack,b∈X.env.locals::X.fs:=fun b hb=>by
 rcases I.ok.stk with e | ⟨e,hf⟩
 ·rw[e]at hb;exact List.mem_cons_of_mem _ hb
 ·rw[e]at hb
  unfold frs at hb
  rw[List.filterMap_cons,hf]at hb
  exact hb
theorem Inv.stkFree (I:Inv X pins σ H s):∀ b∈frs X.stack,H b=none:=fun b hb=>by
 rcases List.mem_cons.mp (I.stkSub b hb) with e | hb
 ·rw[e];exact I.free
 ·obtain⟨_,o,ho,_⟩:=I.ok.funs.mem hb
  exact I.base.free b o ho (I.ok.frf b hb) fun z=>I.ok.exfs b z hb
theorem Inv.step {g':Array GenState}{t':Nat}{d':Drawn}{ch:List Addr}(I:Inv X pins σ H s)
  (hch:∀ b∈ch,(b∈X.ex∨X.s₀.heap.objs.size≤b)∧b≠X.env.locals∧(∀ x c,X.env.cells.lookup x=some c→c≠b)∧∀ p∈X.pn++pins,p.1≠b)
  (keep:∀ b o,b≠X.env.locals→b∉X.fs→b∉ch→s.heap.get? b=some o→H b=none→h'.get? b=some o)
  (slot:∀ b o,b≠X.env.locals→b∈X.fs→b∉ch→s.heap.get? b=some o→H b=none→∃ sl,h'.get? b=some { o with slots:=sl }) (free:∀ b o,b∉ch→s.heap.get? b=some o→H b=none→H' b=none)
  (there:∀ b o,b∉ch→s.heap.get? b=some o→∃ o',h'.get? b=some o')
  (tups:∀ b xs,H b=some (.tup xs)→H' b=some (.tup xs)) (frzs:∀ b o u,H b=some (.frz o u)→H' b=some (.frz o u)) (tbls:∀ b ps,H b=some (.tbl ps)→∃ more,H' b=some (.tbl (ps++more)))
  (ns:∀ m,s.heap.Ns X.env.locals m→h'.Ns X.env.locals m) (hok:HOk X.prog X.w H' h') (hg:AllBare g') :
  Inv X pins σ H' { s with heap:=h',gens:=g',drawn:=d',toks:=t' }:=by
 have neL:∀ b o,X.s₀.heap.get? b=some o→b≠X.env.locals:=fun b o e=>Nat.ne_of_lt (Nat.lt_of_lt_of_le (Heap.lt_size e) I.ok.above)
 have neC:∀ b o,X.s₀.heap.get? b=some o→b∉X.ex→b∉ch:=fun b o e hx hb=>by
  rcases (hch b hb).1 with z | z
  ·exact hx z
  ·exact absurd (Nat.lt_of_lt_of_le (Heap.lt_size e) z) (Nat.lt_irrefl _)
 have cellK:∀ x c,X.env.cells.lookup x=some c→∀ v,s.heap.IsCell c v→h'.IsCell c v:=fun x c e v ⟨o,ho,hd⟩=>by
  have nch:c∉ch:=fun z=>(hch c z).2.2.1 x c e rfl
  by_cases hc:c∈X.fs
  ·obtain⟨sl,q⟩:=slot c o (I.cne x c e) hc nch ho (I.freeC x c e)
   exact⟨_,q,hd⟩
  ·exact⟨o,keep c o (I.cne x c e) hc nch ho (I.freeC x c e),hd⟩
 refine⟨I.ok,I.os,hg,⟨fun b o e n hb hx=>?_,fun b o e n hb hx=>?_,fun b o e n hx=>?_,fun b o e hx=>?_,fun b xs e=>tups b xs (I.base.tups b xs e),fun b o xs e=>frzs b o xs (I.base.frzs b o xs e),fun b ps e=>?_⟩,?_,fun x c e=>?_,?_,fun x c e=>?_,fun p hp=>?_,hok,I.len⟩
 ·exact keep b o (neL b o e) hb (neC b o e hx) (I.base.keep b o e n hb hx) (I.base.free b o e n hx)
 ·obtain⟨sl,e1⟩:=I.base.slot b o e n hb hx
  obtain⟨sl',e2⟩:=slot b _ (neL b o e) hb (neC b o e hx) e1 (I.base.free b o e n hx)
  exact⟨sl',e2⟩
 ·obtain⟨o',e1⟩:=I.base.there b o e hx
  exact free b o' (neC b o e hx) e1 (I.base.free b o e n hx)
 ·obtain⟨o',e1⟩:=I.base.there b o e hx
  exact there b o' (neC b o e hx) e1
 ·obtain⟨m1,e1⟩:=I.base.tbls b ps e
  obtain⟨m2,e2⟩:=tbls b _ e1
  exact⟨m1++m2,by rw[e2,Array.append_assoc]⟩
 ·obtain⟨m,hn,hl⟩:=I.loc
  refine⟨m,ns m hn,fun i x v e1 e2 e3=>?_⟩
  obtain⟨u,r,l⟩:=hl i x v e1 e2 e3
  refine⟨u,r,?_⟩
  rcases l with l | ⟨k,c,e,z⟩
  ·exact .inl l
  ·exact .inr ⟨k,c,e,cellK x c e _ z⟩
 ·obtain⟨v,z⟩:=I.cell x c e
  exact⟨v,cellK x c e v z⟩
 ·obtain⟨m,⟨o,_,_,ho,_⟩,_⟩:=I.loc
  exact free _ o (fun z=>(hch _ z).2.1 rfl) ho I.free
 ·obtain⟨v,o,ho,hd⟩:=I.cell x c e
  exact free c o (fun z=>(hch c z).2.2.1 x c e rfl) ho (I.freeC x c e)
 ·obtain⟨e,n,ne,nf,d⟩:=I.pin p hp
  have nch:p.1∉ch:=fun z=>(hch p.1 z).2.2.2 p hp rfl
  exact⟨keep p.1 p.2 ne nf nch e n,free p.1 p.2 nch e n,ne,nf,d⟩
theorem Inv.un {t':Nat}(I:Inv X pins σ H s)(u:Un X.fs [] H H' s.heap h')(hok:HOk X.prog X.w H' h'):Inv X pins σ H' { s with heap:=h',toks:=t' }:=by
 obtain⟨m,⟨o,es,ep,ho,r⟩,_⟩:=id I.loc
 obtain⟨sl,hL⟩:=u.any ho I.free (by simp)
 exact I.step (g':=s.gens) (d':=s.drawn) (ch:=[]) (fun _ z=>nomatch z) (fun b o _ hb _ e n=>u.keep b o e n hb (by simp)) (fun b o _ hb _ e n=>u.slot b o e n hb (by simp)) (fun b o _ e n=>u.free b o e n (by simp)) (fun b o _ e=>u.there b o e (by simp)) u.tups u.frzs u.tbls (fun m' hm=>by
  obtain⟨o',es',ep',ho',r'⟩:=hm
  rw[ho]at ho';cases ho'
  exact⟨_,es',ep',hL,r'⟩) hok I.bare
theorem Inv.call {g':Array GenState}{t':Nat}{d':Drawn}{ch:List Addr}(I:Inv X pins σ H s)(u:Un (frs X.stack) ch H H' s.heap h')(hok:HOk X.prog X.w H' h')(hg:AllBare g')
  (hch:∀ b∈ch,(b∈X.ex∨X.s₀.heap.objs.size≤b)∧b≠X.env.locals∧(∀ x c,X.env.cells.lookup x=some c→c≠b)∧∀ p∈X.pn++pins,p.1≠b) :
  Inv X pins σ H' { s with heap:=h',gens:=g',drawn:=d',toks:=t' }:=by
 obtain⟨m,⟨o,es,ep,ho,r⟩,_⟩:=id I.loc
 obtain⟨sl,hL⟩:=u.any ho I.free fun z=>(hch _ z).2.1 rfl
 exact I.step (ch:=ch) hch (fun b o hL hb hc e n=>u.keep b o e n (fun z=>(List.mem_cons.mp (I.stkSub b z)).elim hL hb) hc) (fun b o _ _ hc e n=>u.any e n hc) (fun b o hc e n=>u.free b o e n hc) (fun b o hc e=>u.there b o e hc) u.tups u.frzs u.tbls (fun m' hm=>by
  obtain⟨o',es',ep',ho',r'⟩:=hm
  rw[ho]at ho';cases ho'
  exact⟨_,es',ep',hL,r'⟩) hok hg
theorem Inv.turned {t':Nat}{it:Addr}(I:Inv X pins σ H s)(k:∀ b o,b≠it→s.heap.get? b=some o→h'.get? b=some o)(hn:H it=none)(hL:it≠X.env.locals)
  (h1:it∈X.ex∨X.s₀.heap.objs.size≤it) (h2:∀ x c,X.env.cells.lookup x=some c→c≠it) (h3:∀ p∈X.pn++pins,p.1≠it):Inv X pins σ H { s with heap:=h',toks:=t' }:=by
 have nit:∀ b u,H b=some u→b≠it:=fun b u e z=>by rw[z,hn]at e;cases e
 refine I.step (g':=s.gens) (d':=s.drawn) (ch:=[it]) (fun b hb=>?_) (fun b o _ _ hc e _=>k b o (fun z=>hc (by simp[z])) e) (fun b o _ _ hc e _=>⟨o.slots,k b o (fun z=>hc (by simp[z])) e⟩) (fun _ _ _ _ n=>n)
  (fun b o hc e=>⟨o,k b o (fun z=>hc (by simp[z])) e⟩) (fun _ _ e=>e) (fun _ _ _ e=>e) (fun b ps e=>⟨#[],by rw[e];simp⟩) (fun m hm=>?_) (fun b u e=>?_) I.bare
 ·have e:b=it:=by simpa using hb
  subst e
  exact⟨h1,hL,h2,h3⟩
 ·obtain⟨o,es,ep,ho,r⟩:=hm
  exact⟨o,es,ep,k _ o (Ne.symm hL) ho,r⟩
 ·refine (I.hok b u e).stay (fun c v hc q=>k c v ?_ q) (fun _ q=>q) fun _ _ q=>q
  rcases hc with z | z
  ·rw[z];exact nit b u e
  ·exact nit c _ z
theorem Inv.tok (I:Inv X pins σ H s)(t:Nat):Inv X pins σ H { s with toks:=t }:=I.un (h':=s.heap) (t':=t) Un.refl I.hok
theorem Inv.kept {t':Nat}(I:Inv X pins σ H s)(k:∀ b u,s.heap.get? b=some u→h'.get? b=some u):Inv X pins σ H { s with heap:=h',toks:=t' }:=I.un (Un.kept k) (I.hok.kept k)
theorem Inv.laid {a:Addr}{o:HO}{t':Nat}(I:Inv X pins σ H s)(k:∀ b u,s.heap.get? b=some u→h'.get? b=some u)(hp:s.heap.objs.size≤a)(new:ObjOk X.prog X.w (upd H a o) h' a o) :
  Inv X pins σ (upd H a o) { s with heap:=h',toks:=t' }:=I.un (Un.laid k hp (I.hok.fresh hp)) (I.hok.laid k hp new)
theorem Inv.write {x e:Addr}{o:HO}{t':Nat}(I:Inv X pins σ H s)(mu:Mut (H x))(he:e=x∨H e=some (.own x))(k:∀ b u,b≠e→s.heap.get? b=some u→h'.get? b=some u)(heo:∃ u,h'.get? e=some u)
  (new:ObjOk X.prog X.w (upd H x o) h' x o):Inv X pins σ (upd H x o) { s with heap:=h',toks:=t' }:=I.un (Un.write mu he k heo) (I.hok.write mu he k heo new)
theorem Inv.pins_of {pins':List (Addr×Obj)}(I:Inv X pins σ H s)(h:∀ p∈pins',s.heap.get? p.1=some p.2∧H p.1=none∧p.1≠X.env.locals∧p.1∉X.fs∧∀ v,p.2.data≠.cell v):Inv X pins' σ H s :=
 ⟨I.ok,I.os,I.bare,I.base,I.loc,I.cell,I.free,I.freeC,fun p hp=>(List.mem_append.mp hp).elim (fun z=>I.pin p (List.mem_append_left _ z)) (h p),I.hok,I.len⟩
theorem nodup_ix {N:List Str}(hN:N.Nodup){i j:Nat}{x:Str}(a:N[i]? = some x)(b:N[j]? = some x):i=j:=by
 obtain⟨h1,e1⟩:=List.getElem?_eq_some_iff.mp a
 obtain⟨h2,e2⟩:=List.getElem?_eq_some_iff.mp b
 exact (List.getElem_inj hN).mp (e1.trans e2.symm)
theorem store_ok2 {M:Model}{A:Around}{E:Value→Shared→Prop}{i:Nat}{x:Str}{v:V}{u:Value}{Q:Unit→Shared→Prop}(I:Inv X pins σ H s)(hN:X.N.Nodup)(hi:X.N[i]? = some x)(hx:Loc X.env.scope x)(r:RelV v u)
  (h:∀ s',Inv X pins (σ.set i (some v)) H s'→(∃ a,Heap.SameBut a s.heap s'.heap∧(a=X.env.locals∨X.env.cells.lookup x=some a))→Q () s') (hf:X.fn x=true∨X.env.scope.names.lookup x=some .local:=by first | exact .inl rfl | exact .inr rfl | assumption):wpAny M A (storeName X.env x u) Q E s:=by
 obtain⟨m,hn,hl⟩:=id I.loc
 have hcls:(X.env.scope.kind == .class||(X.env.scope.kind == .module&&X.env.locals != X.env.globals))=false:=by rw[I.ok.kind];rfl
 have hiσ:i<σ.length:=by rw[I.len];exact (List.getElem?_eq_some_iff.mp hi).1
 have cne:=I.cne
 have tracked:∀ {a:Addr}{h':Heap},(∃ o,s.heap.get? a=some o∧H a=none)→Heap.SameBut a s.heap h'→HOk X.prog X.w H h':=fun {a h'} ha hs b ob e=>by
  obtain⟨_,_,hfree⟩:=ha
  refine (I.hok b ob e).stay (fun c w' hc q=>(hs.2 c ?_).trans q) (fun _ q=>q) fun _ _ q=>q
  rintro rfl
  rcases hc with rfl | hc
  ·rw[hfree]at e;cases e
  ·rw[hfree]at hc;cases hc
 rcases hx with hk | hk
 ·refine wpAny_storeName_local hk hn (fun h' hn' hs=>?_) hcls
  obtain⟨oL,_,_,hoL,_⟩:=id hn
  refine h _ ⟨I.ok,I.os,I.bare,⟨fun b o e n hb hx=>?_,fun b o e n hb hx=>?_,I.base.free,fun b o e hx=>?_,I.base.tups,I.base.frzs,I.base.tbls⟩,⟨_,hn',fun j y v' e1 e2 e3=>?_⟩,fun y c e=>?_,I.free,I.freeC,fun p hp=>?_,tracked ⟨oL,hoL,I.free⟩ hs,by simpa using I.len⟩ ⟨_,hs,.inl rfl⟩
  ·exact (hs.2 b (Nat.ne_of_lt (Nat.lt_of_lt_of_le (Heap.lt_size e) I.ok.above))).trans (I.base.keep b o e n hb hx)
  ·obtain⟨sl,e1⟩:=I.base.slot b o e n hb hx
   exact⟨sl,(hs.2 b (Nat.ne_of_lt (Nat.lt_of_lt_of_le (Heap.lt_size e) I.ok.above))).trans e1⟩
  ·obtain⟨o',e1⟩:=I.base.there b o e hx
   exact⟨o',(hs.2 b (Nat.ne_of_lt (Nat.lt_of_lt_of_le (Heap.lt_size e) I.ok.above))).trans e1⟩
  ·by_cases hj:j=i
   ·subst hj
    rw[hi]at e1;cases e1
    rw[List.getElem?_set_self hiσ]at e2
    cases e2
    exact⟨u,r,.inl ⟨hk,by simp⟩⟩
   ·rw[List.getElem?_set_ne (Ne.symm hj)]at e2
    obtain⟨u',r',q⟩:=hl j y v' e1 e2 e3
    refine⟨u',r',?_⟩
    rcases q with ⟨k,e⟩ | ⟨k,c,e,z⟩
    ·refine .inl ⟨k,?_⟩
     have:y≠x:=fun e=>hj (nodup_ix hN e1 (e▸hi))
     simp[this,e]
    ·exact .inr ⟨k,c,e,z.sameBut hs (cne y c e)⟩
  ·obtain⟨w',z⟩:=I.cell y c e
   exact⟨w',z.sameBut hs (cne y c e)⟩
  ·obtain⟨e,n,ne,nf,d⟩:=I.pin p hp
   exact⟨(hs.2 p.1 ne).trans e,n,ne,nf,d⟩
 ·have hfn:X.fn x=true:=by
   rcases hf with z | z
   ·exact z
   ·rw[z]at hk;cases hk
  obtain⟨c,hc⟩:=I.ok.has x (.inl hk)
  obtain⟨w',z⟩:=I.cell x c hc
  refine wpAny_storeName_cell I.ok.kind hk hc z (fun h' hc' hs=>?_)
  obtain⟨oc,hoc,hocd⟩:=id z
  refine h { s with heap:=h' } ⟨I.ok,I.os,I.bare,⟨fun b o e n hb hx=>?_,fun b o e n hb hx=>?_,I.base.free,fun b o e hx=>?_,I.base.tups,I.base.frzs,I.base.tbls⟩,⟨m,hn.sameBut hs (Ne.symm (cne x c hc)),fun j y v' e1 e2 e3=>?_⟩,fun y c' e=>?_,I.free,I.freeC,fun p hp=>?_,tracked ⟨oc,hoc,I.freeC x c hc⟩ hs,by simpa using I.len⟩ ⟨c,hs,.inr hc⟩
  ·exact (hs.2 b (Nat.ne_of_lt (Nat.lt_of_lt_of_le (Heap.lt_size e) (I.ok.cab x c hfn hc)))).trans (I.base.keep b o e n hb hx)
  ·obtain⟨sl,e1⟩:=I.base.slot b o e n hb hx
   exact⟨sl,(hs.2 b (Nat.ne_of_lt (Nat.lt_of_lt_of_le (Heap.lt_size e) (I.ok.cab x c hfn hc)))).trans e1⟩
  ·obtain⟨o',e1⟩:=I.base.there b o e hx
   exact⟨o',(hs.2 b (Nat.ne_of_lt (Nat.lt_of_lt_of_le (Heap.lt_size e) (I.ok.cab x c hfn hc)))).trans e1⟩
  ·by_cases hj:j=i
   ·subst hj
    rw[hi]at e1;cases e1
    rw[List.getElem?_set_self hiσ]at e2
    cases e2
    exact⟨u,r,.inr ⟨.inl hk,c,hc,hc'⟩⟩
   ·rw[List.getElem?_set_ne (Ne.symm hj)]at e2
    obtain⟨u',r',q⟩:=hl j y v' e1 e2 e3
    refine⟨u',r',?_⟩
    rcases q with q | ⟨k,c',e,z'⟩
    ·exact .inl q
    ·refine .inr ⟨k,c',e,z'.sameBut hs ?_⟩
     rintro rfl
     exact hj (nodup_ix hN e1 (I.ok.inj _ _ _ e hc▸hi))
  ·by_cases hcc:c'=c
   ·subst hcc;exact⟨_,hc'⟩
   ·obtain⟨w2,z2⟩:=I.cell y c' e
    exact⟨w2,z2.sameBut hs hcc⟩
  ·obtain⟨e,n,ne,nf,d⟩:=I.pin p hp
   refine⟨(hs.2 p.1 ?_).trans e,n,ne,nf,d⟩
   intro q
   rw[q,hoc]at e
   have q':oc=p.2:=Option.some.inj e
   exact d w' (by rw[←q'];exact hocd)
theorem store_ok {M:Model}{A:Around}{E:Value→Shared→Prop}{i:Nat}{x:Str}{v:V}{u:Value}{Q:Unit→Shared→Prop}(I:Inv X pins σ H s)(hN:X.N.Nodup)(hi:X.N[i]? = some x)(hx:Loc X.env.scope x)(r:RelV v u)
  (h:∀ s',Inv X pins (σ.set i (some v)) H s'→Q () s') (hf:X.fn x=true∨X.env.scope.names.lookup x=some .local:=by first | exact .inl rfl | exact .inr rfl | assumption):wpAny M A (storeName X.env x u) Q E s :=
 store_ok2 I hN hi hx r (fun s' I' _=>h s' I') hf
theorem Inv.call' {s':Shared}{ch:List Addr}(I:Inv X pins σ H s)(ho:s'.os=s.os)(u:Un (frs X.stack) ch H H' s.heap s'.heap)(hok:HOk X.prog X.w H' s'.heap)(hg:AllBare s'.gens)
  (hch:∀ b∈ch,(b∈X.ex∨X.s₀.heap.objs.size≤b)∧b≠X.env.locals∧(∀ x c,X.env.cells.lookup x=some c→c≠b)∧∀ p∈X.pn++pins,p.1≠b):Inv X pins σ H' s':=by
 obtain⟨h',g',d',t',o'⟩:=s'
 have e:o'=s.os:=ho
 subst e
 exact I.call (g':=g') (t':=t') (d':=d') u hok hg hch
end
abbrev XK:=Value→Option Addr→Hp→Prop
abbrev St:=List (Option V)
abbrev VK:=V→Hp→Prop
abbrev TE:=St→Hp→VK→Prop
abbrev TT:=St→Hp→(Bool→Hp→Prop)→Prop
abbrev TA:=St→Hp→(List V→Hp→Prop)→Prop
structure Ends where
 nx:St→Hp→Prop
 rt:VK
 bk:St→Hp→Prop:=fun _ _=>False
 ct:St→Hp→Prop:=fun _ _=>False
abbrev TS:=Ends→St→Hp→Prop
def EP (X:Cx)(pins:List (Addr×Obj))(σ:St)(Q:VK)(u:Value)(s':Shared):Prop:=∃ v H',Inv X pins σ H' s'∧RelV v u∧Q v H'
def TP (X:Cx)(pins:List (Addr×Obj))(σ:St)(Q:Bool→Hp→Prop)(b:Bool)(s':Shared):Prop:=∃ H',Inv X pins σ H' s'∧Q b H'
def AP (X:Cx)(pins:List (Addr×Obj))(σ:St)(Q:List V→Hp→Prop)(us:List Value)(s':Shared):Prop:=∃ vs H',Inv X pins σ H' s'∧Vals vs us∧Q vs H'
def SP (X:Cx)(pins:List (Addr×Obj))(D:Ends)(f:Flow)(s':Shared):Prop :=
 match f with
 | .next=>∃ σ' H',Inv X pins σ' H' s'∧D.nx σ' H'
 | .brk=>∃ σ' H',Inv X pins σ' H' s'∧D.bk σ' H'
 | .cont=>∃ σ' H',Inv X pins σ' H' s'∧D.ct σ' H'
 | .ret u=>∃ v σ' H',Inv X pins σ' H' s'∧RelV v u∧D.rt v H'
def PE (X:Cx)(e:Expr)(t:TE):Prop :=
 ∀ (pins:List (Addr×Obj))(s:Shared)(σ:St)(H:Hp)(Q:VK),Inv X pins σ H s→t σ H Q→wpAny (model X.prog X.w) X.A (eval e X.env) (EP X pins σ Q) X.xe s
def PT (X:Cx)(e:Expr)(t:TT):Prop :=
 ∀ (pins:List (Addr×Obj))(s:Shared)(σ:St)(H:Hp)(Q:Bool→Hp→Prop),Inv X pins σ H s→t σ H Q→wpAny (model X.prog X.w) X.A (isTrue e X.env (eval e X.env)) (TP X pins σ Q) X.xe s
def PW (X:Cx)(e:Expr)(t:TT):Prop :=
 ∀ (whole:Sem Value)(pins:List (Addr×Obj))(s:Shared)(σ:St)(H:Hp)(Q:Bool→Hp→Prop),Inv X pins σ H s→t σ H Q→wpAny (model X.prog X.w) X.A (isTrue e X.env whole) (TP X pins σ Q) X.xe s
theorem PW.pt {X:Cx}{e:Expr}{t:TT}(h:PW X e t):PT X e t:=h _
def PA (X:Cx)(es:List Expr)(t:TA):Prop :=
 ∀ (pos:Pos)(pins:List (Addr×Obj))(s:Shared)(σ:St)(H:Hp)(Q:List V→Hp→Prop),Inv X pins σ H s→t σ H Q→wpAny (model X.prog X.w) X.A (spliced (backTo pos (starEach es X.env))) (AP X pins σ Q) X.xe s
def PS (X:Cx)(st:Stmt)(t:TS):Prop :=
 ∀ (pins:List (Addr×Obj))(s:Shared)(σ:St)(H:Hp)(D:Ends),Inv X pins σ H s→t D σ H→wpAny (model X.prog X.w) X.A (exec st X.env) (SP X pins D) X.xe s
def PSs (X:Cx)(st:List Stmt)(t:TS):Prop :=
 ∀ (pins:List (Addr×Obj))(s:Shared)(σ:St)(H:Hp)(D:Ends),Inv X pins σ H s→t D σ H→wpAny (model X.prog X.w) X.A (execs st X.env) (SP X pins D) X.xe s
theorem thn {α:Type}{t:Sem α}{Q Q':α→Shared→Prop}{M:Model}{A:Around}{E:Value→Shared→Prop}{s:Shared}(h:wpAny M A t Q E s)(hQ:∀ a s,Q a s→Q' a s):wpAny M A t Q' E s:=wpAny_mono h hQ fun _ _ x=>x
end L2
namespace L2
open PySem PySem.Spec PyProof.Rows
section
variable {X:Cx}
def tVar (i:Nat):TE:=fun σ H Q=>∃ v,σ[i]? = some (some v)∧Q v H
def tC (v:V):TE:=fun _ H Q=>Q v H
theorem pe_var {i:Nat}{x:Str}{pos:Pos}(hN:X.N[i]? = some x)(hv:Vis X.env.scope x)(hd:(x == ("__debug__" : Str))=false:=by decide)(hcd:(x == ("__classdict__" : Str))=false:=by decide):PE X (.Name x pos) (tVar i):=by
 intro pins s σ H Q I h
 obtain⟨v,e,h⟩:=h
 obtain⟨m,hn,hl⟩:=I.loc
 obtain⟨u,r,l⟩:=hl i x v hN e hv
 have fin:EP X pins σ Q u s:=⟨v,H,I,r,h⟩
 rcases l with ⟨hk,hm⟩ | ⟨hk,c,hc,hcell⟩
 ·exact wpAny_Name (wpAny_loadName_local I.ok.kind hk hn hm fin) hd
 ·rcases hk with hk | hk
  ·exact wpAny_Name (wpAny_loadName_cell I.ok.kind hk hc hcell fin) hd
  ·exact wpAny_Name (wpAny_loadName_free I.ok.kind hk hc hcell fin hcd) hd
theorem pe_int {i j pos}:PE X (.Constant (.int i) j pos) (tC (.int i)):=fun _ _ _ H _ I h=>wpAny_Constant_int ⟨.int i,H,I.tok _,⟨_,rfl⟩,h⟩
theorem pe_bl {b j pos}:PE X (.Constant (.bool b) j pos) (tC (.bl b)):=fun _ _ _ H _ I h=>Constant_bool ⟨.bl b,H,I,rfl,h⟩
theorem pe_non {j pos}:PE X (.Constant .none j pos) (tC .non):=fun _ _ _ H _ I h=>Constant_none ⟨.non,H,I,rfl,h⟩
theorem pe_str {x j pos}:PE X (.Constant (.str x) j pos) (tC (.str x)):=fun _ _ _ H _ I h=>Calls.Constant_str ⟨.str x,H,I.tok _,⟨_,rfl⟩,h⟩
def Gl (X:Cx)(x:Str):Prop:=X.env.kindOf x=some .globalImplicit
theorem ld_glob {E:Value→Shared→Prop}{pins:List (Addr×Obj)}{s:Shared}{σ:St}{H:Hp}{x:Str}{u:Value}{pos:Pos}{Q:Value→Shared→Prop}(I:Inv X pins σ H s)(hg:Gl X x)(hm:X.mg x=some u)(h:Q u s)
  (hd:(x == ("__debug__" : Str))=false:=by decide):wpAny (model X.prog X.w) X.A (eval (.Name x pos) X.env) Q E s :=
 Calls.Name_function_global I.ok.kind hg (Calls.loadGlobal_global (by rw[I.ok.glob];exact I.mod.glob.keeps I.bk) hm h) hd
theorem ld_blt {E:Value→Shared→Prop}{pins:List (Addr×Obj)}{s:Shared}{σ:St}{H:Hp}{x:Str}{u:Value}{pos:Pos}{Q:Value→Shared→Prop}(I:Inv X pins σ H s)(hg:Gl X x)(hm:X.mg x=none)(hv:bootBuiltins x=some u)(h:Q u s)
  (hn:x≠"__name__":=by decide) (hd:(x == ("__debug__" : Str))=false:=by decide):wpAny (model X.prog X.w) X.A (eval (.Name x pos) X.env) Q E s:=by
 obtain⟨mb,h1,h2⟩:=I.mod.blt
 exact Calls.Name_function_global I.ok.kind hg (Calls.loadGlobal_builtin (by rw[I.ok.glob];exact I.mod.glob.keeps I.bk) hm (by rw[I.ok.blt];exact h1.keeps I.bk) ((h2 x hn).trans hv) h) hd
theorem pe_bltn {x:Str}{v:V}{u:Value}{pos:Pos}(hg:Gl X x)(hm:X.mg x=none)(hv:bootBuiltins x=some u)(r:RelV v u)(hn:x≠"__name__":=by decide)(hd:(x == ("__debug__" : Str))=false:=by decide):PE X (.Name x pos) (tC v) :=
 fun _ _ _ H _ I h=>ld_blt I hg hm hv ⟨v,H,I,r,h⟩ hn hd
variable {a b:Expr}{ta tb:TE}{pos:Pos}
def PC (X:Cx)(op:CmpOp)(a b:Expr)(t:TE):Prop :=
 ∀ (pins:List (Addr×Obj))(s:Shared)(σ:St)(H:Hp)(Q:VK),Inv X pins σ H s→t σ H Q →
  wpAny (model X.prog X.w) X.A (eval a X.env) (fun v s₁=>wpAny (model X.prog X.w) X.A (eval b X.env) (fun u s₂=>wpAny (model X.prog X.w) X.A (compareOp op v u) (EP X pins σ Q) X.xe s₂) X.xe s₁) X.xe s
def tB (t:TE):TT:=fun σ H Q=>t σ H fun x H1=>∃ c,x=.bl c∧Q c H1
theorem pe_cmp {op:CmpOp}{t:TE}(h:PC X op a b t)(h1:behindInMarks op b=false:=by first | exact nobehind _ (by decide) (by decide) | rfl):PE X (.Compare a [op] [b] pos) t:=fun pins s σ H Q I hw=>wpAny_Compare1 (h pins s σ H Q I hw) h1
theorem pt_cmp {op:CmpOp}{t:TE}(h:PC X op a b t)(h1:behindInMarks op b=false:=by first | exact nobehind _ (by decide) (by decide) | rfl):PT X (.Compare a [op] [b] pos) (tB t):=by
 intro pins s σ H Q I hw
 refine wpAny_isTrue_Compare1 (thn (h pins s σ H _ I hw) fun v s1 h1=>thn h1 fun u s2 h2=>thn h2 fun c s3 ⟨x,H1,I1,r1,q1⟩=>?_) h1
 obtain⟨d,rfl,q⟩:=q1
 cases r1
 exact wpAny_truthy_bool ⟨H1,I1,q⟩
theorem pt_val {e:Expr}{t:TE}(h:PE X e t)(he:∀ whole,isTrue e X.env whole=(do let v ←whole;standAt e.pos;holding [v] (truthy v)):=by intro _;rfl):PT X e (tB t):=by
 intro pins s σ H Q I hw
 refine isTrue_plain (thn (h pins s σ H _ I hw) fun v s1 ⟨x,H1,I1,r1,q1⟩=>?_) (he _)
 obtain⟨d,rfl,q⟩:=q1
 cases r1
 exact wpAny_truthy_bool ⟨H1,I1,q⟩
variable {tA tB':TT}{rest:List Expr}
def tAnd (t u:TT):TT:=fun σ H Q=>t σ H fun c H1=>if c=true then u σ H1 Q else Q false H1
def tOr (t u:TT):TT:=fun σ H Q=>t σ H fun c H1=>if c=true then Q true H1 else u σ H1 Q
theorem pw_and1 (ha:PT X a tA):PW X (.BoolOp .And [a] pos) tA:=by
 intro wh pins s σ H Q I h
 refine isTrue_and (thn (ha pins s σ H Q I h) fun c s1 e=>?_)
 cases c with
 | true=>exact isTrue_and_nil e
 | false=>exact e
theorem pw_or1 (ha:PT X a tA):PW X (.BoolOp .Or [a] pos) tA:=by
 intro wh pins s σ H Q I h
 refine isTrue_or (thn (ha pins s σ H Q I h) fun c s1 e=>?_)
 cases c with
 | false=>exact isTrue_or_nil e
 | true=>exact e
theorem pw_and (ha:PT X a tA)(hb:PW X (.BoolOp .And (b::rest) pos) tB'):PW X (.BoolOp .And (a::b::rest) pos) (tAnd tA tB'):=by
 intro wh pins s σ H Q I h
 refine isTrue_and (thn (ha pins s σ H _ I h) fun c s1 ⟨H1,I1,q1⟩=>?_)
 cases c with
 | true=>exact hb wh pins s1 σ H1 Q I1 q1
 | false=>exact⟨H1,I1,q1⟩
theorem pw_or (ha:PT X a tA)(hb:PW X (.BoolOp .Or (b::rest) pos) tB'):PW X (.BoolOp .Or (a::b::rest) pos) (tOr tA tB'):=by
 intro wh pins s σ H Q I h
 refine isTrue_or (thn (ha pins s σ H _ I h) fun c s1 ⟨H1,I1,q1⟩=>?_)
 cases c with
 | true=>exact⟨H1,I1,q1⟩
 | false=>exact hb wh pins s1 σ H1 Q I1 q1
end
end L2
namespace L2
open PySem PySem.Spec PyProof.Rows
def SqL (K:PySem.W.Frag)(H:Hp)(a:Addr)(xs:List V):Prop :=
 Rd H a (.lst xs) ∨
  ∃ (o:Obj)(its:Array Value)(n:Nat),K.lookup a=some o∧o.cls=.type "list"∧o.dict=none∧o.data=.seq its n∧its.size≤sizeLine∧Vals xs its.toList
def SqT (K:PySem.W.Frag)(H:Hp)(a:Addr)(xs:List V):Prop :=
 Rd H a (.tup xs) ∨
  ∃ (o:Obj)(its:Array Value)(n:Nat),K.lookup a=some o∧o.cls=.type "tuple"∧o.data=.seq its n∧its.size≤sizeLine∧Vals xs its.toList
def absV:Value→Option V
 | .none=>some .non
 | .bool b=>some (.bl b)
 | .int i _=>some (.int i)
 | .str x _=>some (.str x)
 | .bytes b _=>some (.byt b)
 | .float b _=>some (.flt b)
 | .ref a=>some (.ref a)
 | .type n=>some (.ty n)
 | _=>none
theorem RelV.abs {x:V}{u:Value}(r:RelV x u):absV u=some x:=by
 cases x with
 | non=>cases r;rfl
 | bl _=>cases r;rfl
 | int _=>obtain⟨t,rfl⟩:=r;rfl
 | str _=>obtain⟨t,rfl⟩:=r;rfl
 | byt _=>obtain⟨t,rfl⟩:=r;rfl
 | flt _=>obtain⟨t,rfl⟩:=r;rfl
 | ref _=>cases r;rfl
 | ty _=>cases r;rfl
theorem RelV.inj {x y:V}{u:Value}(r:RelV x u)(q:RelV y u):x=y:=Option.some.inj (r.abs.symm.trans q.abs)
theorem Vals.inj:∀ {xs ys:List V}{us:List Value},Vals xs us→Vals ys us→xs=ys
 | _,_,_,.nil,.nil=>rfl
 | _,_,_,.cons r t,.cons r' t'=>by rw[r.inj r',Vals.inj t t']
section
variable {X:Cx}{pins:List (Addr×Obj)}{σ:St}{H:Hp}{s:Shared}{a:Addr}{xs ys:List V}
theorem SqL.of {K:PySem.W.Frag}(h:H a=some (.lst xs)):SqL K H a xs:=.inl (.inl h)
theorem SqT.of {K:PySem.W.Frag}(h:H a=some (.tup xs)):SqT K H a xs:=.inl (.inl h)
theorem Inv.list (I:Inv X pins σ H s)(h:SqL X.K H a xs):∃ its:List Value,Vals xs its∧PlainL s.heap a its.toArray∧xs.length≤sizeLine:=by
 rcases h with h | ⟨o,its,n,hk,hc,hd,hs,hz,r⟩
 ·obtain⟨z,its,n,r,e⟩:=h.ok I.hok
  exact⟨its,r,⟨_,n,e,rfl,rfl,rfl⟩,z⟩
 ·refine⟨its.toList,r,⟨o,n,I.kIn a o hk,hc,hd,by simpa using hs⟩,?_⟩
  have e:=r.length
  simp only[Array.length_toList]at e
  omega
theorem Inv.tuple (I:Inv X pins σ H s)(h:SqT X.K H a xs):∃ its:List Value,Vals xs its∧IsTup s.heap a its.toArray∧xs.length≤sizeLine:=by
 rcases h with h | ⟨o,its,n,hk,hc,hs,hz,r⟩
 ·obtain⟨z,its,r,p⟩:=h.ok I.hok
  exact⟨its,r,p,z⟩
 ·refine⟨its.toList,r,⟨o,I.kIn a o hk,hc,n,by simpa using hs⟩,?_⟩
  have e:=r.length
  simp only[Array.length_toList]at e
  omega
theorem Inv.list_inj (I:Inv X pins σ H s)(h:SqL X.K H a xs)(h':SqL X.K H a ys):xs=ys:=by
 obtain⟨its,r,⟨o,n,e,_,_,d⟩,_⟩:=I.list h
 obtain⟨its',r',⟨o',n',e',_,_,d'⟩,_⟩:=I.list h'
 rw[e]at e';cases e'
 rw[d]at d'
 injection d' with d1 _
 have:its=its':=by simpa using congrArg Array.toList d1
 subst this
 exact r.inj r'
theorem Inv.tuple_inj (I:Inv X pins σ H s)(h:SqT X.K H a xs)(h':SqT X.K H a ys):xs=ys:=by
 obtain⟨its,r,⟨o,e,_,n,d⟩,_⟩:=I.tuple h
 obtain⟨its',r',⟨o',e',_,n',d'⟩,_⟩:=I.tuple h'
 rw[e]at e';cases e'
 rw[d]at d'
 injection d' with d1 _
 have:its=its':=by simpa using congrArg Array.toList d1
 subst this
 exact r.inj r'
end
abbrev Cx.wish (X:Cx)(E:Value→Shared→Prop):Cx:={ X with xe:=E }
abbrev Cx.nox (X:Cx):Cx:=X.wish fun _ _=>False
theorem Cx.Ok.wish {X:Cx}(ok:X.Ok)(E:Value→Shared→Prop):(X.wish E).Ok :=
 ⟨ok.mod,ok.kind,ok.glob,ok.blt,ok.above,ok.inj,ok.has,ok.cab,ok.hd,ok.frames,ok.stk,ok.exf,ok.bs,ok.bsz,ok.noex,ok.exfs,ok.funs,ok.frf⟩
theorem Cx.Ok.unwish {X:Cx}{E:Value→Shared→Prop}(ok:(X.wish E).Ok):X.Ok :=
 ⟨ok.mod,ok.kind,ok.glob,ok.blt,ok.above,ok.inj,ok.has,ok.cab,ok.hd,ok.frames,ok.stk,ok.exf,ok.bs,ok.bsz,ok.noex,ok.exfs,ok.funs,ok.frf⟩
section
variable {X:Cx}{pins:List (Addr×Obj)}{σ:St}{H:Hp}{s:Shared}{E:Value→Shared→Prop}
theorem Inv.wish (I:Inv X pins σ H s)(E:Value→Shared→Prop):Inv (X.wish E) pins σ H s:=⟨I.ok.wish E,I.os,I.bare,I.base,I.loc,I.cell,I.free,I.freeC,I.pin,I.hok,I.len⟩
theorem Inv.unwish (I:Inv (X.wish E) pins σ H s):Inv X pins σ H s:=⟨I.ok.unwish,I.os,I.bare,I.base,I.loc,I.cell,I.free,I.freeC,I.pin,I.hok,I.len⟩
theorem SP.unwish {D:Ends}{f:Flow}{s':Shared}(h:SP (X.wish E) pins D f s'):SP X pins D f s':=by
 cases f with
 | next=>obtain⟨σ',H',I,q⟩:=h;exact⟨σ',H',I.unwish,q⟩
 | brk=>obtain⟨σ',H',I,q⟩:=h;exact⟨σ',H',I.unwish,q⟩
 | cont=>obtain⟨σ',H',I,q⟩:=h;exact⟨σ',H',I.unwish,q⟩
 | ret u=>obtain⟨v,σ',H',I,r,q⟩:=h;exact⟨v,σ',H',I.unwish,r,q⟩
theorem PSs.nox {st:List Stmt}{t:TS}(h:PSs X.nox st t):PSs X st t:=fun pins s σ H D I hw =>
 wpAny_mono (h pins s σ H D (I.wish _) hw) (fun _ _ q=>q.unwish) fun _ _ z=>False.elim z
end
section
variable {X:Cx}{st:Stmt}{rest:List Stmt}{t u:TS}{e:Expr}{te:TE}{pos:Pos}
def tNext:TS:=fun D σ H=>D.nx σ H
def tSeq (t u:TS):TS:=fun D σ H=>t { D with nx:=u D } σ H
theorem pss_nil:PSs X [] tNext:=fun _ _ σ H _ I h=>wpAny_execs_nil ⟨σ,H,I,h⟩
theorem pss_cons (h1:PS X st t)(h2:PSs X rest u):PSs X (st::rest) (tSeq t u):=by
 intro pins s σ H D I h
 refine wpAny_execs_cons (thn (h1 pins s σ H { D with nx:=u D } I h) fun f s1 q=>?_)
 cases f with
 | next =>
  obtain⟨σ',H',I',q⟩:=q
  exact h2 pins s1 σ' H' D I' q
 | ret v=>exact q
 | brk=>exact q
 | cont=>exact q
theorem pss_one (h1:PS X st t):PSs X [st] t:=by
 intro pins s σ H D I h
 refine wpAny_execs_cons (thn (h1 pins s σ H D I h) fun f s1 q=>?_)
 cases f with
 | next=>exact wpAny_execs_nil q
 | ret v=>exact q
 | brk=>exact q
 | cont=>exact q
theorem Inv.quiet {pins:List (Addr×Obj)}{σ:St}{H:Hp}{s:Shared}(I:Inv X pins σ H s):interactive X.env=false:=by simp[interactive,I.ok.kind]
def tDrop (te:TE):TS:=fun D σ H=>te σ H fun _ H1=>D.nx σ H1
theorem ps_expr (he:PE X e te)(hs:swapsWith e none pos.line X.env=pure false:=by rfl):PS X (.Expr e pos) (tDrop te):=by
 intro pins s σ H D I h
 exact wpAny_Expr_any (thn (he pins s σ H _ I h) fun v s1 ⟨x,H1,I1,r1,q1⟩=>⟨σ,H1,I1,q1⟩) I.quiet hs
def tRet (te:TE):TS:=fun D σ H=>te σ H D.rt
theorem ps_ret (he:PE X e te):PS X (.Return (some e) pos) (tRet te):=by
 intro pins s σ H D I h
 exact wpAny_Return_some (thn (he pins s σ H _ I h) fun v s1 ⟨x,H1,I1,r1,q1⟩=>⟨x,σ,H1,I1,r1,q1⟩)
def tIfS (c:TT)(t u:TS):TS:=fun D σ H=>c σ H fun b H1=>if b=true then t D σ H1 else u D σ H1
theorem ps_if {c:Expr}{a b:List Stmt}{tc:TT}(hc:PT X c tc)(ha:PSs X a t)(hb:PSs X b u):PS X (.If c a b pos) (tIfS tc t u):=by
 intro pins s σ H D I h
 refine wpAny_If (thn (hc pins s σ H _ I h) fun d s1 ⟨H1,I1,q1⟩=>?_)
 cases d with
 | true=>exact ha pins s1 σ H1 D I1 q1
 | false=>exact hb pins s1 σ H1 D I1 q1
end
abbrev TG:=V→St→Hp→(St→Hp→Prop)→Prop
abbrev TGs:=List V→St→Hp→(St→Hp→Prop)→Prop
def PG (X:Cx)(target:Expr)(t:TG):Prop :=
 ∀ (pins:List (Addr×Obj))(s:Shared)(σ:St)(H:Hp)(v:V)(u:Value)(Q:St→Hp→Prop),Inv X pins σ H s→RelV v u→t v σ H Q →
  wpAny (model X.prog X.w) X.A (assign target X.env u) (fun _ s'=>∃ σ' H',Inv X pins σ' H' s'∧Q σ' H') X.xe s
def PGs (X:Cx)(ts:List Expr)(t:TGs):Prop :=
 ∀ (pins:List (Addr×Obj))(s:Shared)(σ:St)(H:Hp)(vs:List V)(us:List Value)(Q:St→Hp→Prop),Inv X pins σ H s→Vals vs us→t vs σ H Q →
  wpAny (model X.prog X.w) X.A (assignInOrder ((assignEach ts X.env).map (·.2)) us) (fun _ s'=>∃ σ' H',Inv X pins σ' H' s'∧Q σ' H') X.xe s
section
variable {X:Cx}{pos:Pos}
def gName (i:Nat):TG:=fun v σ H Q=>Q (σ.set i (some v)) H
theorem pg_name {i:Nat}{x:Str}(hN:X.N.Nodup)(hi:X.N[i]? = some x)(hx:Loc X.env.scope x)(hf:X.fn x=true∨X.env.scope.names.lookup x=some .local:=by first | exact .inl rfl | exact .inr rfl | assumption):PG X (.Name x pos) (gName i):=by
 intro pins s σ H v u Q I r h
 exact wpAny_assign_Name (store_ok I hN hi hx r (fun s' I'=>⟨_,H,I',h⟩) hf)
def gNil:TGs:=fun vs σ H Q=>vs=[]∧Q σ H
def gCons (t:TG)(u:TGs):TGs:=fun vs σ H Q=>∃ v r,vs=v::r∧t v σ H fun σ' H'=>u r σ' H' Q
theorem pgs_nil:PGs X [] gNil:=by
 intro pins s σ H vs us Q I r h
 obtain⟨e,h⟩:=h
 subst e
 cases r
 exact assignInOrder_nil ⟨σ,H,I,h⟩
theorem pgs_cons {e:Expr}{es:List Expr}{t:TG}{u:TGs}(h1:PG X e t)(h2:PGs X es u)
  (hs:(assignEach (e::es) X.env).map (·.2)=assign e X.env::(assignEach es X.env).map (·.2):=by rfl):PGs X (e::es) (gCons t u):=by
 intro pins s σ H vs us Q I r h
 obtain⟨v,vr,e1,h⟩:=h
 subst e1
 cases r with
 | cons r rr =>
  rw[hs]
  refine assignInOrder_cons (thn (h1 pins s σ H _ _ _ I r h) fun _ s1 ⟨σ1,H1,I1,q1⟩=>?_)
  exact h2 pins s1 σ1 H1 _ _ Q I1 rr q1
def gTup (K:PySem.W.Frag)(n:Nat)(t:TGs):TG:=fun v σ H Q=>∃ a xs,v=.ref a∧SqT K H a xs∧xs.length=n∧t xs σ H Q
theorem pg_tup {es:List Expr}{k:Nat}{t:TGs}{n:Nat}(hc:X.calm=true)(h:PGs X es t)
  (hn:(assignEach es X.env).length=n:=by rfl) (hst:(assignEach es X.env).findIdx? (·.1)=none:=by rfl):PG X (.Tuple es k pos) (gTup X.K n t):=by
 intro pins s σ H v u Q I r hw
 obtain⟨a,xs,e1,hq,hl,hw⟩:=hw
 subst e1
 cases r
 obtain⟨its,rv,ht,hz⟩:=I.tuple hq
 refine assign_Tuple_tuple (I.ok.hd hc) ht (by simp[hn,←hl,rv.length]) hst fun h' hx=>?_
 have I1:Inv X pins σ H { s with heap:=h' }:=I.kept (t':=s.toks) fun b o e=>hx b o (Nat.ne_of_lt (Heap.lt_size e)) e
 exact h pins _ σ H xs _ Q I1 (by simpa using rv) hw
def tAsg (te:TE)(g:TG):TS:=fun D σ H=>te σ H fun x H1=>g x σ H1 D.nx
theorem ps_asg {tg e:Expr}{te:TE}{g:TG}(he:PE X e te)(hg:PG X tg g)(hs:swapsWithSole [tg] e pos.line X.env=pure false:=by rfl)(hw:swappedStores [tg] e X.env=pure none:=by rfl)
  (h1:(assignEach [tg] X.env).map (·.2)=[assign tg X.env]:=by rfl):PS X (.Assign [tg] e pos) (tAsg te g):=by
 intro pins s σ H D I h
 refine wpAny_Assign_stores (thn (he pins s σ H _ I h) fun v s1 ⟨x,H1,I1,r1,q1⟩=>?_) hs hw
 rw[h1]
 exact thn (hg pins s1 σ H1 x v _ I1 r1 q1) fun _ s2 q=>q
theorem ps_set {i:Nat}{x:Str}{e:Expr}{te:TE}{pos':Pos}(hN:X.N.Nodup)(hi:X.N[i]? = some x)(hx:Loc X.env.scope x)(he:PE X e te)(hs:swapsWith e (some (.Name x pos')) pos.line X.env=pure false:=by rfl)(hf:X.fn x=true∨X.env.scope.names.lookup x=some .local:=by first | exact .inl rfl | exact .inr rfl | assumption) :
  PS X (.Assign [.Name x pos'] e pos) (tAsg te (gName i)):=by
 intro pins s σ H D I h
 refine wpAny_Assign_Name (thn (he pins s σ H _ I h) fun v s1 ⟨y,H1,I1,r1,q1⟩=>?_) hs
 exact store_ok I1 hN hi hx r1 (fun s2 I2=>⟨_,H1,I2,q1⟩) hf
end
section
variable {X:Cx}{pos:Pos}
def tWhile (c:TT)(tb:TS):TS:=fun D σ H=>∃ W:Nat→St→Hp→Prop,(∃ m,W m σ H)∧∀ m σ H,W m σ H →
 c σ H fun b H1=>if b=true then ∃ N:St→Hp→Prop,(∀ σ' H',N σ' H'→∃ m',m'<m∧W m' σ' H')∧tb { D with nx:=N,ct:=N,bk:=D.nx } σ H1 else D.nx σ H1
theorem ps_while {c:Expr}{body:List Stmt}{tc:TT}{tb:TS}(hp:PassesOwn (model X.prog X.w) X.A X.env X.xe)(hc:PT X c tc)(hb:PSs X body tb):PS X (.While c body [] pos) (tWhile tc tb):=by
 intro pins s σ H D I h
 obtain⟨W,⟨m0,w0⟩,turn⟩:=h
 refine wpAny_While (codeAny_whileLoop (fun n s'=>∃ σ' H',Inv X pins σ' H' s'∧W n σ' H') ?_ m0 ⟨σ,H,I,w0⟩)
 rintro n s1 ⟨σ1,H1,I1,w1⟩
 refine wpAny_passesOwn hp (thn (hc pins s1 σ1 H1 _ I1 (turn n σ1 H1 w1)) fun b s2 ⟨H2,I2,q2⟩=>?_)
 cases b with
 | true =>
  obtain⟨N,hN,q2⟩:=q2
  rw[if_pos rfl]
  refine wpAny_passesOwn hp (thn (hb pins s2 σ1 H2 _ I2 q2) fun f s3 q3=>?_)
  cases f with
  | next =>
   obtain⟨σ3,H3,I3,n3⟩:=q3
   obtain⟨m',hm,w3⟩:=hN σ3 H3 n3
   exact⟨m',hm,σ3,H3,I3,w3⟩
  | cont =>
   obtain⟨σ3,H3,I3,n3⟩:=q3
   obtain⟨m',hm,w3⟩:=hN σ3 H3 n3
   exact⟨m',hm,σ3,H3,I3,w3⟩
  | brk=>exact q3
  | ret v=>exact q3
 | false =>
  rw[if_neg Bool.false_ne_true]
  exact wpAny_execs_nil ⟨σ1,H2,I2,q2⟩
end
structure It where
 go:Nat→Hp→Prop
 yld:Nat→Hp→V→Hp→Prop
 stop:Nat→Hp→Prop
def FpOk (X:Cx)(pins:List (Addr×Obj))(H:Hp)(b:Addr):Prop :=
 H b=none∧b≠X.env.locals∧b∉X.fs∧(b∈X.ex∨X.s₀.heap.objs.size≤b)∧(∀ x c,X.env.cells.lookup x=some c→c≠b)∧∀ p∈X.pn++pins,p.1≠b
theorem Inv.fpOk {X:Cx}{pins:List (Addr×Obj)}{σ:St}{H H':Hp}{s:Shared}{b:Addr}(I:Inv X pins σ H s)(hb:s.heap.objs.size≤b)(hn:H' b=none):FpOk X pins H' b:=by
 refine⟨hn,Nat.ne_of_gt (Nat.lt_of_lt_of_le I.lt hb),I.nofs hb,.inr (Nat.le_trans I.sz hb),fun x c e z=>?_,fun p hp z=>?_⟩
 ·obtain⟨v,q⟩:=I.cell x c e
  exact absurd (Nat.lt_of_lt_of_le q.lt (by rw[z];exact hb)) (Nat.lt_irrefl _)
 ·exact absurd (Nat.lt_of_lt_of_le (Heap.lt_size (I.pin p hp).1) (by rw[z];exact hb)) (Nat.lt_irrefl _)
structure Turn (P:Program)(w:World)(K:PySem.W.Frag)(tg:Expr)(J:It)(fp:List Addr)(it:Addr)(tn:Nat→Heap→Prop):Prop where
 mem:it∈fp
 obj:∀ i h,tn i h→∀ b∈fp,∃ o,h.get? b=some o∧∀ v,o.data≠.cell v
 keep:∀ i h h',tn i h→(∀ b∈fp,∀ o,h.get? b=some o→h'.get? b=some o)→tn i h'
 item:∀ (X:Cx),X.prog=P→X.w=w→X.K=K→X.calm=true→∀ (i:Nat)(pins:List (Addr×Obj))(s:Shared)(σ:St)(H:Hp)(E:Value→Shared→Prop),Inv X pins σ H s→(∀ b∈fp,FpOk X pins H b)→tn i s.heap→J.go i H →
  wpAny (model P w) X.A (pyNext (.ref it)) (fun r s1=>∃ u,r=some u ∧
   wpAny (model P w) X.A (letOwnedTupleGo tg (.ref it) u) (fun _ s2=>∃ x H',Inv X pins σ H' s2∧RelV x u∧J.yld i H x H'∧tn (i+1) s2.heap∧∀ b∈fp,H' b=none) E s1) E s
 done:∀ (X:Cx),X.prog=P→X.w=w→X.K=K→X.calm=true→∀ (i:Nat)(pins:List (Addr×Obj))(s:Shared)(σ:St)(H:Hp)(E:Value→Shared→Prop),Inv X pins σ H s→(∀ b∈fp,FpOk X pins H b)→tn i s.heap→J.stop i H →
  wpAny (model P w) X.A (pyNext (.ref it)) (fun r s1=>r=none∧Inv X pins σ H s1) E s
 self:∀ (A:Around)(i:Nat)(s:Shared)(Q:Value→Shared→Prop)(E:Value→Shared→Prop),tn i s.heap→Q (.ref it) s→wpAny (model P w) A (pyIter (.ref it)) Q E s
abbrev TI:=St→Hp→(It→Hp→Prop)→Prop
def PIE (X:Cx)(pins:List (Addr×Obj))(σ:St)(tg:Expr)(R:It→Hp→Prop)(itv:Value)(s2:Shared):Prop :=
 ∃ (it:Addr)(fp:List Addr)(tn:Nat→Heap→Prop)(J:It)(H':Hp),itv=.ref it∧Inv X pins σ H' s2∧Turn X.prog X.w X.K tg J fp it tn∧tn 0 s2.heap∧(∀ b∈fp,FpOk X pins H' b)∧R J H'
def PI (X:Cx)(tg iter:Expr)(wi:TI):Prop :=
 ∀ (pins:List (Addr×Obj))(s:Shared)(σ:St)(H:Hp)(R:It→Hp→Prop),Inv X pins σ H s→wi σ H R →
  wpAny (model X.prog X.w) X.A (eval iter X.env) (fun v s1=>wpAny (model X.prog X.w) X.A (pyIter v) (PIE X pins σ tg R) X.xe s1) X.xe s
theorem go_of {M:Model}{A:Around}{E:Value→Shared→Prop}{s:Shared}{tg:Expr}{it:Addr}{u:Value}{o:Obj}{n:String}{vs:Array Value}{Q:Unit→Shared→Prop}(ho:s.heap.get? it=some o)(hc:o.cls=.type n)(hd:o.data=.fields vs)
  (hn:["enumerate","zip","dict_itemiterator","dict_reverseitemiterator","odict_iterator","itertools.zip_longest","itertools.pairwise"].contains n=false) (hQ:Q () s):wpAny M A (letOwnedTupleGo tg (.ref it) u) Q E s:=by
 unfold letOwnedTupleGo
 cases tg<;>first
  | exact wpAny_pure hQ
  | (cases u<;>first
    | exact wpAny_pure hQ
    | (refine wpAny_bind (wpAny_load ho ?_)
       rw[hc,hd]
       show wpAny M A (if (["enumerate","zip","dict_itemiterator","dict_reverseitemiterator","odict_iterator","itertools.zip_longest","itertools.pairwise"].contains n&&vs[0]? == some (rawInt _))=true then _ else _) Q E s
       rw[if_neg (by intro h;rw[hn,Bool.false_and]at h;cases h)]
       exact wpAny_pure hQ))
def Itl (K:PySem.W.Frag)(a:Addr):It :=
 ⟨fun i H=>∃ xs x,SqL K H a xs∧xs[i]? = some x,fun i H x H'=>H'=H∧∀ xs,SqL K H a xs→xs[i]? = some x,fun i H=>∃ xs,SqL K H a xs∧xs.length≤i⟩
def Itt (K:PySem.W.Frag)(a:Addr):It :=
 ⟨fun i H=>∃ xs x,SqT K H a xs∧xs[i]? = some x,fun i H x H'=>H'=H∧∀ xs,SqT K H a xs→xs[i]? = some x,fun i H=>∃ xs,SqT K H a xs∧xs.length≤i⟩
def Itr (lo:Int)(n:Nat):It:=⟨fun i _=>i<n,fun i H x H'=>H'=H∧x=.int (lo+i),fun i _=>n≤i⟩
theorem turn_list {P:Program}{w:World}{K:PySem.W.Frag}{tg:Expr}(a it:Addr):Turn P w K tg (Itl K a) [it] it (fun i h=>h.IsListIter it a i) where
 mem:=by simp
 obj:=fun i h st b hb=>by
  have e:b=it:=by simpa using hb
  subst e
  obtain⟨o,e,c,d⟩:=st
  exact⟨o,e,fun v z=>by rw[d]at z;cases z⟩
 keep:=fun i h h' st k=>st.at fun o e=>k it (by simp) o e
 item:=by
  intro X hP hw hK hc i pins s σ H E I hf st hg
  subst hP hw hK
  obtain⟨xs,x,hq,hx⟩:=hg
  obtain⟨its,rv,p,hz⟩:=I.list hq
  obtain⟨u,hu,ru⟩:=rv.get hx
  obtain⟨f0,f1,f2,f3,f4,f5⟩:=hf it (by simp)
  refine wpAny_pyNext_list_item st p.isList (x:=u) (by simpa using hu) fun h' st' sb=>?_
  have I1:Inv X pins σ H { s with heap:=h' }:=I.turned (t':=s.toks) (fun b o hb e=>(sb.2 b hb).trans e) f0 f1 f3 f4 f5
  obtain⟨o,e,c,d⟩:=id st'
  exact⟨u,rfl,go_of (s:={ s with heap:=h' }) e c d (by decide) ⟨x,H,I1,ru,⟨rfl,fun ys hy=>by rw[I.list_inj hy hq];exact hx⟩,st',fun b hb=>(hf b hb).1⟩⟩
 done:=by
  intro X hP hw hK hc i pins s σ H E I hf st hg
  subst hP hw hK
  obtain⟨xs,hq,hx⟩:=hg
  obtain⟨its,rv,p,hz⟩:=I.list hq
  obtain⟨f0,f1,f2,f3,f4,f5⟩:=hf it (by simp)
  have hl:=rv.length
  exact wpAny_pyNext_list_end (I.ok.hd hc) st p.isList (by simp;omega) fun h' eb=>⟨rfl,I.turned (t':=s.toks) (fun b o hb e=>eb b o hb e) f0 f1 f3 f4 f5⟩
 self:=fun _ _ _ _ _ st h=>wpAny_pyIter_listiter st h
theorem turn_tuple {P:Program}{w:World}{K:PySem.W.Frag}{tg:Expr}(a it:Addr):Turn P w K tg (Itt K a) [it] it (fun i h=>h.IsTupleIter it a i) where
 mem:=by simp
 obj:=fun i h st b hb=>by
  have e:b=it:=by simpa using hb
  subst e
  obtain⟨o,e,c,d⟩:=st
  exact⟨o,e,fun v z=>by rw[d]at z;cases z⟩
 keep:=fun i h h' st k=>st.at fun o e=>k it (by simp) o e
 item:=by
  intro X hP hw hK hc i pins s σ H E I hf st hg
  subst hP hw hK
  obtain⟨xs,x,hq,hx⟩:=hg
  obtain⟨its,rv,p,hz⟩:=I.tuple hq
  obtain⟨u,hu,ru⟩:=rv.get hx
  obtain⟨f0,f1,f2,f3,f4,f5⟩:=hf it (by simp)
  refine wpAny_pyNext_tuple_item st (show s.heap.IsTuple a its.toArray from p) (x:=u) (by simpa using hu) fun h' st' sb=>?_
  have I1:Inv X pins σ H { s with heap:=h' }:=I.turned (t':=s.toks) (fun b o hb e=>(sb.2 b hb).trans e) f0 f1 f3 f4 f5
  obtain⟨o,e,c,d⟩:=id st'
  exact⟨u,rfl,go_of (s:={ s with heap:=h' }) e c d (by decide) ⟨x,H,I1,ru,⟨rfl,fun ys hy=>by rw[I.tuple_inj hy hq];exact hx⟩,st',fun b hb=>(hf b hb).1⟩⟩
 done:=by
  intro X hP hw hK hc i pins s σ H E I hf st hg
  subst hP hw hK
  obtain⟨xs,hq,hx⟩:=hg
  obtain⟨its,rv,p,hz⟩:=I.tuple hq
  obtain⟨f0,f1,f2,f3,f4,f5⟩:=hf it (by simp)
  have hl:=rv.length
  exact wpAny_pyNext_tuple_end (I.ok.hd hc) st (show s.heap.IsTuple a its.toArray from p) (by simp;omega) fun h' eb=>⟨rfl,I.turned (t':=s.toks) (fun b o hb e=>eb b o hb e) f0 f1 f3 f4 f5⟩
 self:=fun _ _ _ _ _ st h=>wpAny_pyIter_tupleiter st h
theorem turn_range {P:Program}{w:World}{K:PySem.W.Frag}{tg:Expr}(it:Addr)(lo:Int)(n:Nat):Turn P w K tg (Itr lo n) [it] it (fun i h=>IsRangeIter h it (lo+(i:Nat)*1) ((n:Int)-(i:Nat)) 1) where
 mem:=by simp
 obj:=fun i h st b hb=>by
  have e:b=it:=by simpa using hb
  subst e
  exact⟨_,st,fun v z=>by
   have z':Data.fields _=Data.cell v:=z
   cases z'⟩
 keep:=fun i h h' st k=>k it (by simp) _ st
 item:=by
  intro X hP hw hK hc i pins s σ H E I hf st hg
  subst hP hw hK
  obtain⟨f0,f1,f2,f3,f4,f5⟩:=hf it (by simp)
  have W:=Walks.range (prog:=X.prog) (w:=X.w) (I.ok.hd hc) it lo 1 n
  refine W.item i s _ _ hg st fun v h' tk hv st' kk=>?_
  obtain⟨t,rfl⟩:=hv
  have I1:Inv X pins σ H { s with heap:=h',toks:=tk }:=I.turned (fun b o hb e=>kk b o (by simpa using hb) e) f0 f1 f3 f4 f5
  refine⟨_,rfl,go_of (s:={ s with heap:=h',toks:=tk }) (n:="range_iterator") st' rfl rfl (by decide) ⟨.int (lo+i),H,I1,⟨t,?_⟩,⟨rfl,rfl⟩,st',fun b hb=>(hf b hb).1⟩⟩
  rw[Int.mul_one]
 done:=by
  intro X hP hw hK hc i pins s σ H E I hf st hg
  subst hP hw hK
  obtain⟨f0,f1,f2,f3,f4,f5⟩:=hf it (by simp)
  exact wpAny_pyNext_range_end (I.ok.hd hc) st (by have:n≤i:=hg;omega) fun h' eb=>⟨rfl,I.turned (t':=s.toks) (fun b o hb e=>eb b o hb e) f0 f1 f3 f4 f5⟩
 self:=fun _ _ _ _ _ st h=>wpAny_pyIter_rangeiter st h
end L2
namespace L2
open PySem PySem.Spec PyProof.Rows
section
variable {X:Cx}{tg:Expr}
def iList (K:PySem.W.Frag)(tl:TE):TI:=fun σ H R=>tl σ H fun x H1=>∃ a,x=.ref a∧(∃ xs,SqL K H1 a xs)∧R (Itl K a) H1
def iTup (K:PySem.W.Frag)(tl:TE):TI:=fun σ H R=>tl σ H fun x H1=>∃ a,x=.ref a∧(∃ xs,SqT K H1 a xs)∧R (Itt K a) H1
theorem pi_list {l:Expr}{tl:TE}(hl:PE X l tl):PI X tg l (iList X.K tl):=by
 intro pins s σ H R I h
 refine thn (hl pins s σ H _ I h) fun v s1 ⟨x,H1,I1,r1,q1⟩=>?_
 obtain⟨a,e,⟨xs,hq⟩,q⟩:=q1
 subst e
 cases r1
 obtain⟨its,rv,p,hz⟩:=I1.list hq
 refine wpAny_pyIter_list p.isList ?_
 refine⟨s1.heap.objs.size,[s1.heap.objs.size],_,_,H1,rfl,I1.kept (t':=s1.toks) fun b o e=>Heap.get?_push_of_some _ e,turn_list a _,⟨_,Heap.get?_push_size _ rfl,rfl,rfl⟩,fun b hb=>?_,q⟩
 have e:b=s1.heap.objs.size:=by simpa using hb
 subst e
 exact I1.fpOk (Nat.le_refl _) (I1.hok.fresh (Nat.le_refl _))
theorem pi_tup {l:Expr}{tl:TE}(hl:PE X l tl):PI X tg l (iTup X.K tl):=by
 intro pins s σ H R I h
 refine thn (hl pins s σ H _ I h) fun v s1 ⟨x,H1,I1,r1,q1⟩=>?_
 obtain⟨a,e,⟨xs,hq⟩,q⟩:=q1
 subst e
 cases r1
 obtain⟨its,rv,p,hz⟩:=I1.tuple hq
 refine wpAny_pyIter_tuple (show s1.heap.IsTuple a its.toArray from p) ?_
 refine⟨s1.heap.objs.size,[s1.heap.objs.size],_,_,H1,rfl,I1.kept (t':=s1.toks) fun b o e=>Heap.get?_push_of_some _ e,turn_tuple a _,⟨_,Heap.get?_push_size _ rfl,rfl,rfl⟩,fun b hb=>?_,q⟩
 have e:b=s1.heap.objs.size:=by simpa using hb
 subst e
 exact I1.fpOk (Nat.le_refl _) (I1.hok.fresh (Nat.le_refl _))
theorem range_it {pins:List (Addr×Obj)}{σ:St}{H:Hp}{s:Shared}{R:It→Hp→Prop}{E:Value→Shared→Prop}{lo hi:Int}{t u v:Tok}{tk:Nat}(I:Inv X pins σ H s)(h1 : -(2 ^ 62)≤lo)(h2:lo<2 ^ 62)(h3 : -(2 ^ 62)≤hi)(h4:hi<2 ^ 62)
  (q:R (Itr lo (hi-lo).toNat) H):wpAny (model X.prog X.w) X.A (pyIter (.ref s.heap.objs.size)) (PIE X pins σ tg R) E { s with heap:=s.heap.push { cls:=.type "range",data:=.fields #[.int lo t,.int hi u,.int 1 v] },toks:=tk }:=by
 refine wpAny_pyIter_range (IsRange.new ..) (small_one h1 h2 h3 h4) ?_
 have I1:Inv X pins σ H { s with heap:=s.heap.push { cls:=.type "range",data:=.fields #[.int lo t,.int hi u,.int 1 v] },toks:=tk }:=I.kept fun b o e=>Heap.get?_push_of_some _ e
 refine⟨(s.heap.push { cls:=.type "range",data:=.fields #[.int lo t,.int hi u,.int 1 v] }).objs.size,[(s.heap.push { cls:=.type "range",data:=.fields #[.int lo t,.int hi u,.int 1 v] }).objs.size],_,_,H,rfl,
  I1.kept (t':=tk) fun b o e=>Heap.get?_push_of_some _ e,turn_range _ lo (hi-lo).toNat,?_,fun b hb=>?_,q⟩
 ·have e1:lo+((0:Nat):Int)*1=lo:=by simp
  have e2:(((hi-lo).toNat:Nat):Int)-((0:Nat):Int)=Builtin.Range.rangeSize lo hi 1:=by rw[rangeSize_one];split<;>omega
  show IsRangeIter _ _ (lo+((0:Nat):Int)*1) ((((hi-lo).toNat:Nat):Int)-((0:Nat):Int)) 1
  rw[e1,e2]
  exact Heap.get?_push_size _ rfl
 ·have e:b=(s.heap.push { cls:=.type "range",data:=.fields #[.int lo t,.int hi u,.int 1 v] }).objs.size:=by simpa using hb
  subst e
  exact I1.fpOk (Nat.le_refl _) (I1.hok.fresh (Nat.le_refl _))
def iRng1 (ta:TA):TI:=fun σ H R=>ta σ H fun vs H1=>∃ j:Int,vs=[.int j]∧-(2 ^ 62)≤j∧j<2 ^ 62∧R (Itr 0 j.toNat) H1
theorem pi_range1 {a:Expr}{ta:TA}{p pos:Pos}(hg:Gl X "range")(hm:X.mg "range" = none)(ha:PA X [a] ta)(hs:starEach [a] X.env=[(false,eval a X.env)]:=by rfl):PI X tg (.Call (.Name "range" p) [a] [] pos) (iRng1 ta):=by
 intro pins s σ H R I h
 refine Call_ (ld_blt I hg hm boot_range (PyProof.Rows.callWith_type1 (thn (ha pos pins s σ H _ I h) fun us s1 ⟨vs,H1,I1,r1,q1⟩=>?_) hs rfl))
 obtain⟨j,e,q1,q2,q⟩:=q1
 subst e
 cases r1 with
 | cons r rr =>
  cases rr
  obtain⟨t,rfl⟩:=r
  exact call_range_1 (range_it I1 (by omega) (by omega) q1 q2 (by simpa using q))
def tFor (wi:TI)(g:TG)(tb:TS):TS:=fun D σ H=>wi σ H fun J H1=>∃ W:Nat→Nat→St→Hp→Prop,(∃ m,W 0 m σ H1)∧∀ i m σ H,W i m σ H →
 (J.stop i H∧D.nx σ H)∨(J.go i H∧∃ N:St→Hp→Prop,(∀ σ' H',N σ' H'→∃ m',m'<m∧W (i+1) m' σ' H')∧∀ x H',J.yld i H x H'→g x σ H' fun σ2 H2=>tb { D with nx:=N,ct:=N,bk:=D.nx } σ2 H2)
def pinsAt (fp:List Addr)(h:Heap):List (Addr×Obj):=fp.filterMap fun b=>(h.get? b).map fun o=>(b,o)
theorem mem_pinsAt {fp:List Addr}{h:Heap}{b:Addr}{o:Obj}(hb:b∈fp)(e:h.get? b=some o):(b,o)∈pinsAt fp h:=List.mem_filterMap.mpr ⟨b,hb,by rw[e];rfl⟩
theorem of_pinsAt {fp:List Addr}{h:Heap}{p:Addr×Obj}(hp:p∈pinsAt fp h):p.1∈fp∧h.get? p.1=some p.2:=by
 obtain⟨b,hb,e⟩:=List.mem_filterMap.mp hp
 cases q:h.get? b with
 | none=>rw[q]at e;cases e
 | some o =>
  rw[q]at e
  have e':(b,o)=p:=Option.some.inj e
  subst e'
  exact⟨hb,q⟩
theorem Inv.pinned {pins:List (Addr×Obj)}{σ:St}{H:Hp}{s:Shared}{fp:List Addr}(I:Inv X pins σ H s)(hf:∀ b∈fp,FpOk X pins H b)(ho:∀ b∈fp,∃ o,s.heap.get? b=some o∧∀ v,o.data≠.cell v):Inv X (pins++pinsAt fp s.heap) σ H s :=
 I.pins_of fun p hp=>(List.mem_append.mp hp).elim (fun z=>I.pin p (List.mem_append_right _ z)) fun z=>by
  obtain⟨hb,e⟩:=of_pinsAt z
  obtain⟨f0,f1,f2,_⟩:=hf p.1 hb
  obtain⟨o,e',d⟩:=ho p.1 hb
  rw[e]at e';cases e'
  exact⟨e,f0,f1,f2,d⟩
theorem Inv.unpinned {pins pl:List (Addr×Obj)}{σ:St}{H:Hp}{s:Shared}(I:Inv X (pins++pl) σ H s):Inv X pins σ H s:=I.pins_of fun p hp=>I.pin p (List.mem_append_right _ (List.mem_append_left _ hp))
theorem ps_for {iter:Expr}{body:List Stmt}{wi:TI}{g:TG}{tb:TS}{pos:Pos}(hp:PassesOwn (model X.prog X.w) X.A X.env X.xe)(hc:X.calm=true)(hi:PI X tg iter wi)(hg:PG X tg g)(hb:PSs X body tb)
  (hs:∀ x,foldedSetIterable iter X.env x=pure x:=by intro _;rfl):PS X (.For tg iter body [] pos) (tFor wi g tb):=by
 intro pins s σ H D I h
 refine wpAny_For (thn (hi pins s σ H _ I h) fun v s1 h1=>thn h1 fun itv s2 h2=>?_) hs
 obtain⟨it,fp,tn,J,H2,e,I2,T,st2,f2,W,⟨m0,w0⟩,turn⟩:=h2
 subst e
 have stat:∀ {H':Hp},(∀ b∈fp,H' b=none)→∀ b∈fp,FpOk X pins H' b:=fun hn b hb=>⟨hn b hb,(f2 b hb).2⟩
 refine codeAny_forLoop_any (fun n s'=>∃ i σ' H',Inv X pins σ' H' s'∧tn i s'.heap∧(∀ b∈fp,H' b=none)∧W i n σ' H') ?_ m0 ⟨0,σ,H2,I2,st2,fun b hb=>(f2 b hb).1,w0⟩
 rintro n s3 ⟨i,σ3,H3,I3,st3,fr3,w3⟩
 rcases turn i n σ3 H3 w3 with ⟨stop,qn⟩ | ⟨go,N,hN,step⟩
 ·refine wpAny_passesOwn hp (thn (T.done X rfl rfl rfl hc i pins s3 σ3 H3 X.xe I3 (stat fr3) st3 stop) fun r s4 ⟨hr,I4⟩=>?_)
  subst hr
  exact wpAny_execs_nil ⟨σ3,H3,I4,qn⟩
 ·refine wpAny_passesOwn hp (thn (T.item X rfl rfl rfl hc i pins s3 σ3 H3 X.xe I3 (stat fr3) st3 go) fun r s4 ⟨u,hr,h4⟩=>?_)
  subst hr
  refine wpAny_passesOwn hp (thn h4 fun _ s5 ⟨x,H5,I5,r5,y5,st5,fr5⟩=>?_)
  have I5':=I5.pinned (stat fr5) (T.obj _ _ st5)
  refine wpAny_passesOwn hp (thn (hg _ s5 σ3 H5 x u _ I5' r5 (step x H5 y5)) fun _ s6 ⟨σ6,H6,I6,q6⟩=>?_)
  refine wpAny_passesOwn hp (thn (hb _ s6 σ6 H6 _ I6 q6) fun f s7 q7=>?_)
  have again:∀ {σ7:St}{H7:Hp},Inv X (pins++pinsAt fp s5.heap) σ7 H7 s7→N σ7 H7→∃ m,m<n∧∃ i σ' H',Inv X pins σ' H' s7∧tn i s7.heap∧(∀ b∈fp,H' b=none)∧W i m σ' H':=fun {σ7 H7} I7 n7=>by
   obtain⟨m',hm,w7⟩:=hN σ7 H7 n7
   refine⟨m',hm,i+1,σ7,H7,I7.unpinned,T.keep _ _ _ st5 fun b hb o e=>(I7.pin (b,o) (List.mem_append_right _ (List.mem_append_right _ (mem_pinsAt hb e)))).1,fun b hb=>?_,w7⟩
   obtain⟨o,e,d⟩:=T.obj _ _ st5 b hb
   exact (I7.pin (b,o) (List.mem_append_right _ (List.mem_append_right _ (mem_pinsAt hb e)))).2.1
  cases f with
  | next=>obtain⟨σ7,H7,I7,n7⟩:=q7;exact again I7 n7
  | cont=>obtain⟨σ7,H7,I7,n7⟩:=q7;exact again I7 n7
  | brk=>obtain⟨σ7,H7,I7,q7⟩:=q7;exact⟨σ7,H7,I7.unpinned,q7⟩
  | ret v=>obtain⟨x7,σ7,H7,I7,r7,q7⟩:=q7;exact⟨x7,σ7,H7,I7.unpinned,r7,q7⟩
end
theorem for_list {K:PySem.W.Frag}{a:Addr}{xs:List V}{g:TG}{tb:TS}{D:Ends}{σ:St}{H:Hp}(Pv:Nat→St→Hp→Prop)(h0:Pv 0 σ H)(hl:∀ i σ H,i≤xs.length→Pv i σ H→SqL K H a xs)
  (hs:∀ i x σ H,xs[i]? = some x→Pv i σ H→g x σ H fun σ2 H2=>tb { D with nx:=Pv (i+1),ct:=Pv (i+1),bk:=D.nx } σ2 H2) (hd:∀ σ H,Pv xs.length σ H→D.nx σ H) :
  ∃ W:Nat→Nat→St→Hp→Prop,(∃ m,W 0 m σ H)∧∀ i m σ H,W i m σ H →
   ((Itl K a).stop i H∧D.nx σ H)∨((Itl K a).go i H∧∃ N:St→Hp→Prop,(∀ σ' H',N σ' H'→∃ m',m'<m∧W (i+1) m' σ' H')∧∀ x H',(Itl K a).yld i H x H'→g x σ H' fun σ2 H2=>tb { D with nx:=N,ct:=N,bk:=D.nx } σ2 H2):=by
 refine⟨fun i m σ H=>m=xs.length-i∧i≤xs.length∧Pv i σ H,⟨xs.length,by simp,Nat.zero_le _,h0⟩,?_⟩
 rintro i m σ H ⟨rfl,hi,p⟩
 have q:=hl i σ H hi p
 by_cases hlt:i<xs.length
 ·refine .inr ⟨⟨xs,xs[i],q,by simp[hlt]⟩,Pv (i+1),fun σ' H' p'=>⟨xs.length-(i+1),by omega,rfl,hlt,p'⟩,fun x H' y=>?_⟩
  obtain⟨e,y⟩:=y
  subst e
  exact hs i x σ _ (y xs q) p
 ·have e:i=xs.length:=by omega
  subst e
  exact .inl ⟨⟨xs,q,Nat.le_refl _⟩,hd σ H p⟩
theorem for_tup {K:PySem.W.Frag}{a:Addr}{xs:List V}{g:TG}{tb:TS}{D:Ends}{σ:St}{H:Hp}(Pv:Nat→St→Hp→Prop)(h0:Pv 0 σ H)(hl:∀ i σ H,i≤xs.length→Pv i σ H→SqT K H a xs)
  (hs:∀ i x σ H,xs[i]? = some x→Pv i σ H→g x σ H fun σ2 H2=>tb { D with nx:=Pv (i+1),ct:=Pv (i+1),bk:=D.nx } σ2 H2) (hd:∀ σ H,Pv xs.length σ H→D.nx σ H) :
  ∃ W:Nat→Nat→St→Hp→Prop,(∃ m,W 0 m σ H)∧∀ i m σ H,W i m σ H →
   ((Itt K a).stop i H∧D.nx σ H)∨((Itt K a).go i H∧∃ N:St→Hp→Prop,(∀ σ' H',N σ' H'→∃ m',m'<m∧W (i+1) m' σ' H')∧∀ x H',(Itt K a).yld i H x H'→g x σ H' fun σ2 H2=>tb { D with nx:=N,ct:=N,bk:=D.nx } σ2 H2):=by
 refine⟨fun i m σ H=>m=xs.length-i∧i≤xs.length∧Pv i σ H,⟨xs.length,by simp,Nat.zero_le _,h0⟩,?_⟩
 rintro i m σ H ⟨rfl,hi,p⟩
 have q:=hl i σ H hi p
 by_cases hlt:i<xs.length
 ·refine .inr ⟨⟨xs,xs[i],q,by simp[hlt]⟩,Pv (i+1),fun σ' H' p'=>⟨xs.length-(i+1),by omega,rfl,hlt,p'⟩,fun x H' y=>?_⟩
  obtain⟨e,y⟩:=y
  subst e
  exact hs i x σ _ (y xs q) p
 ·have e:i=xs.length:=by omega
  subst e
  exact .inl ⟨⟨xs,q,Nat.le_refl _⟩,hd σ H p⟩
theorem for_range {lo:Int}{n:Nat}{g:TG}{tb:TS}{D:Ends}{σ:St}{H:Hp}(Pv:Nat→St→Hp→Prop)(h0:Pv 0 σ H)
  (hs:∀ i σ H,i<n→Pv i σ H→g (.int (lo+i)) σ H fun σ2 H2=>tb { D with nx:=Pv (i+1),ct:=Pv (i+1),bk:=D.nx } σ2 H2) (hd:∀ σ H,Pv n σ H→D.nx σ H) :
  ∃ W:Nat→Nat→St→Hp→Prop,(∃ m,W 0 m σ H)∧∀ i m σ H,W i m σ H →
   ((Itr lo n).stop i H∧D.nx σ H)∨((Itr lo n).go i H∧∃ N:St→Hp→Prop,(∀ σ' H',N σ' H'→∃ m',m'<m∧W (i+1) m' σ' H')∧∀ x H',(Itr lo n).yld i H x H'→g x σ H' fun σ2 H2=>tb { D with nx:=N,ct:=N,bk:=D.nx } σ2 H2):=by
 refine⟨fun i m σ H=>m=n-i∧i≤n∧Pv i σ H,⟨n,by simp,Nat.zero_le _,h0⟩,?_⟩
 rintro i m σ H ⟨rfl,hi,p⟩
 by_cases hlt:i<n
 ·refine .inr ⟨hlt,Pv (i+1),fun σ' H' p'=>⟨n-(i+1),by omega,rfl,hlt,p'⟩,fun x H' y=>?_⟩
  obtain⟨e,y⟩:=y
  subst e y
  exact hs i σ _ hlt p
 ·have e:i=n:=by omega
  subst e
  exact .inl ⟨Nat.le_refl _,hd σ H p⟩
end L2
namespace L2
open PySem PySem.Spec PyProof.Rows
abbrev R2:=V→V→Hp→VK→Prop
def OpR (X:Cx)(f:Value→Value→Sem Value)(r:R2):Prop :=
 ∀ (pins:List (Addr×Obj))(s:Shared)(σ:St)(H:Hp)(x y:V)(v u:Value)(Q:VK),Inv X pins σ H s→RelV x v→RelV y u→r x y H Q →
  wpAny (model X.prog X.w) X.A (f v u) (EP X pins σ Q) X.xe s
def UnR (X:Cx)(f:Value→Sem Value)(r:V→Hp→VK→Prop):Prop :=
 ∀ (pins:List (Addr×Obj))(s:Shared)(σ:St)(H:Hp)(x:V)(v:Value)(Q:VK),Inv X pins σ H s→RelV x v→r x H Q →
  wpAny (model X.prog X.w) X.A (f v) (EP X pins σ Q) X.xe s
def CallR (X:Cx)(f:Value)(r:List V→Hp→VK→Prop):Prop :=
 ∀ (pins:List (Addr×Obj))(s:Shared)(σ:St)(H:Hp)(xs:List V)(us:List Value)(Q:VK),Inv X pins σ H s→Vals xs us→r xs H Q →
  wpAny (model X.prog X.w) X.A (call f us) (EP X pins σ Q) X.xe s
def tOp (r:R2)(ta tb:TE):TE:=fun σ H Q=>ta σ H fun x H1=>tb σ H1 fun y H2=>r x y H2 Q
def tUn (r:V→Hp→VK→Prop)(ta:TE):TE:=fun σ H Q=>ta σ H fun x H1=>r x H1 Q
def rI (C:Int→Int→Prop)(g:Int→Int→V):R2:=fun x y H Q=>∃ i j,x=.int i∧y=.int j∧C i j∧Q (g i j) H
def rI0 (g:Int→Int→V):R2:=fun x y H Q=>∃ i j,x=.int i∧y=.int j∧Q (g i j) H
def rU (g:Int→V):V→Hp→VK→Prop:=fun x H Q=>∃ i,x=.int i∧Q (g i) H
section
variable {X:Cx}{a b c:Expr}{ta tb tc:TE}{pos:Pos}
theorem binT (ha:PE X a ta)(hb:PE X b tb){pins:List (Addr×Obj)}{s:Shared}{σ:St}{H:Hp}{R:V→V→Hp→Prop}(I:Inv X pins σ H s)
  (h:ta σ H fun x H1=>tb σ H1 fun y H2=>R x y H2) {Q:Value→Shared→Prop} {f:Value→Value→Sem Value}
  (hf:∀ v u s2 x y H2,Inv X pins σ H2 s2→RelV x v→RelV y u→R x y H2→wpAny (model X.prog X.w) X.A (f v u) Q X.xe s2) :
  wpAny (model X.prog X.w) X.A (eval a X.env) (fun v s₁=>wpAny (model X.prog X.w) X.A (eval b X.env) (fun u s₂=>wpAny (model X.prog X.w) X.A (f v u) Q X.xe s₂) X.xe s₁) X.xe s:=by
 refine thn (ha pins s σ H _ I h) fun v s1 ⟨x,H1,I1,r1,q1⟩=>?_
 refine thn (hb pins s1 σ H1 _ I1 q1) fun u s2 ⟨y,H2,I2,r2,q2⟩=>?_
 exact hf v u s2 x y H2 I2 r1 r2 q2
theorem pe_op {op:Operator}{r:R2}(ho:OpR X (binaryOp op) r)(ha:PE X a ta)(hb:PE X b tb):PE X (.BinOp a op b pos) (tOp r ta tb):=by
 intro pins s σ H Q I h
 exact wpAny_BinOp (binT ha hb I h fun v u s2 x y H2 I2 rx ry q=>ho pins s2 σ H2 x y v u Q I2 rx ry q)
theorem pe_un {op:UnaryOp}{r:V→Hp→VK→Prop}(ho:UnR X (unaryOp op) r)(ha:PE X a ta):PE X (.UnaryOp op a pos) (tUn r ta):=by
 intro pins s σ H Q I h
 exact UnaryOp_ (thn (ha pins s σ H _ I h) fun v s1 ⟨x,H1,I1,r1,q1⟩=>ho pins s1 σ H1 x v Q I1 r1 q1)
theorem opI {f:Value→Value→Sem Value}{C:Int→Int→Prop}{g:Int→Int→Int}
  (rule:∀ (i j:Int)(t u:Tok)(s:Shared)(Q:Value→Shared→Prop)(E:Value→Shared→Prop),C i j→Q (.int (g i j) s.toks) { s with toks:=s.toks+1 }→wpAny (model X.prog X.w) X.A (f (.int i t) (.int j u)) Q E s) :
  OpR X f (rI C fun i j=>.int (g i j)):=by
 intro pins s σ H x y v u Q I rx ry h
 obtain⟨i,j,rfl,rfl,hc,q⟩:=h
 obtain⟨t,rfl⟩:=rx
 obtain⟨t',rfl⟩:=ry
 exact rule i j t t' s _ _ hc ⟨.int (g i j),H,I.tok _,⟨_,rfl⟩,q⟩
theorem opI0 {f:Value→Value→Sem Value}{g:Int→Int→Int}
  (rule:∀ (i j:Int)(t u:Tok)(s:Shared)(Q:Value→Shared→Prop)(E:Value→Shared→Prop),Q (.int (g i j) s.toks) { s with toks:=s.toks+1 }→wpAny (model X.prog X.w) X.A (f (.int i t) (.int j u)) Q E s) :
  OpR X f (rI0 fun i j=>.int (g i j)):=by
 intro pins s σ H x y v u Q I rx ry h
 obtain⟨i,j,rfl,rfl,q⟩:=h
 obtain⟨t,rfl⟩:=rx
 obtain⟨t',rfl⟩:=ry
 exact rule i j t t' s _ _ ⟨.int (g i j),H,I.tok _,⟨_,rfl⟩,q⟩
theorem opB0 {f:Value→Value→Sem Value}{g:Int→Int→Bool}
  (rule:∀ (i j:Int)(t u:Tok)(s:Shared)(Q:Value→Shared→Prop)(E:Value→Shared→Prop),Q (.bool (g i j)) s→wpAny (model X.prog X.w) X.A (f (.int i t) (.int j u)) Q E s) :
  OpR X f (rI0 fun i j=>.bl (g i j)):=by
 intro pins s σ H x y v u Q I rx ry h
 obtain⟨i,j,rfl,rfl,q⟩:=h
 obtain⟨t,rfl⟩:=rx
 obtain⟨t',rfl⟩:=ry
 exact rule i j t t' s _ _ ⟨.bl (g i j),H,I,rfl,q⟩
def CDiv (i j:Int):Prop:=0<j∧j<1073741824
def CPow (i j:Int):Prop:=0≤j∧j≤1000000∧i.natAbs<2 ^ 64
def CMul (i j:Int):Prop:=(-(2 ^ 64)<i∧i<2 ^ 64)∨(-(2 ^ 64)<j∧j<2 ^ 64)
theorem CMul.ok {i j:Int}(h:CMul i j):IntMulOk i j:=by
 rcases h with ⟨h1,h2⟩ | ⟨h1,h2⟩
 ·exact .of_left (intBits_le_64 h1 h2)
 ·exact .of_right (intBits_le_64 h1 h2)
theorem op_add:OpR X (binaryOp .Add) (rI0 fun i j=>.int (i+j)):=opI0 fun _ _ _ _ _ _ _ q=>add_int q
theorem op_sub:OpR X (binaryOp .Sub) (rI0 fun i j=>.int (i-j)):=opI0 fun _ _ _ _ _ _ _ q=>sub_int q
theorem op_mul:OpR X (binaryOp .Mult) (rI CMul fun i j=>.int (i*j)):=opI fun _ _ _ _ _ _ _ hc q=>mul_int q hc.ok
theorem op_fdiv:OpR X (binaryOp .FloorDiv) (rI CDiv fun i j=>.int (i/j)):=opI fun i j _ _ _ _ _ hc q=>by
 have h1:(0:Int)<j:=hc.1
 have h2:j<1073741824:=hc.2
 exact floordiv_int (by omega) (by rw[Int.fdiv_eq_ediv_of_nonneg i (by omega)];exact q) (.inl (PyProof.noPylong_small (by omega)))
theorem op_mod:OpR X (binaryOp .Mod) (rI (fun _ j=>0<j) fun i j=>.int (i%j)):=opI fun i j _ _ _ _ _ hc q=>by
 have h1:(0:Int)<j:=hc
 exact mod_int' (by omega) (by rw[Int.fmod_eq_emod_of_nonneg i (by omega)];exact q)
theorem op_pow:OpR X (binaryOp .Pow) (rI CPow fun i j=>.int (i ^ j.toNat)):=opI fun _ _ _ _ _ _ _ hc q=>pow_int_small hc.1 hc.2.1 hc.2.2 q
theorem unI {f:Value→Sem Value}{g:Int→Int}
  (rule:∀ (i:Int)(t:Tok)(s:Shared)(Q:Value→Shared→Prop)(E:Value→Shared→Prop),Q (.int (g i) s.toks) { s with toks:=s.toks+1 }→wpAny (model X.prog X.w) X.A (f (.int i t)) Q E s) :
  UnR X f (rU fun i=>.int (g i)):=by
 intro pins s σ H x v Q I rx h
 obtain⟨i,rfl,q⟩:=h
 obtain⟨t,rfl⟩:=rx
 exact rule i t s _ _ ⟨.int (g i),H,I.tok _,⟨_,rfl⟩,q⟩
theorem un_neg:UnR X (unaryOp .USub) (rU fun i=>.int (-i)):=unI fun _ _ _ _ _ q=>neg_int q
end
def scal:V→V→Bool
 | .non,.non=>true | .non,.int _=>true | .int _,.non=>true | .non,.bl _=>true | .bl _,.non=>true | .non,.str _=>true | .str _,.non=>true
 | .int _,.int _=>true | .bl _,.bl _=>true | .str _,.str _=>true | .byt _,.byt _=>true
 | .int _,.str _=>true | .str _,.int _=>true | .bl _,.str _=>true | .str _,.bl _=>true
 | _,_=>false
def rEq:R2:=fun x y H Q=>scal x y=true∧Q (.bl (decide (x=y))) H
def rNe:R2:=fun x y H Q=>scal x y=true∧Q (.bl (!decide (x=y))) H
theorem dec_int {i j:Int}:decide (V.int i=V.int j)=(i == j):=by
 rw[Bool.eq_iff_iff]
 simp
theorem dec_bl {i j:Bool}:decide (V.bl i=V.bl j)=(i == j):=by
 rw[Bool.eq_iff_iff]
 simp
theorem dec_str {i j:Str}:decide (V.str i=V.str j)=(i == j):=by
 rw[Bool.eq_iff_iff]
 simp
theorem dec_byt {i j:Array UInt8}:decide (V.byt i=V.byt j)=(i.toList == j.toList):=by
 rw[Bool.eq_iff_iff]
 cases i
 cases j
 simp
section
variable {X:Cx}{a b c:Expr}{ta tb tc:TE}{pos:Pos}
theorem fin_bl {pins:List (Addr×Obj)}{σ:St}{H:Hp}{s:Shared}{Q:VK}{k k':Bool}(I:Inv X pins σ H s)(q:Q (.bl k) H)(e:k=k'):EP X pins σ Q (.bool k') s:=by
 subst e
 exact⟨.bl k,H,I,rfl,q⟩
theorem op_eq:OpR X (compareOp .Eq) rEq:=by
 intro pins s σ H x y v u Q I rx ry h
 obtain⟨hs,q⟩:=h
 cases x with
 | non =>
  cases rx
  cases y with
  | non=>cases ry;exact PySem.EqNone.eq_none_none (fin_bl I q (by simp))
  | bl j=>cases ry;exact PySem.EqNone.eq_none_bool (fin_bl I q (by simp))
  | int j=>obtain⟨t',rfl⟩:=ry;exact PySem.EqNone.eq_none_int (fin_bl I q (by simp))
  | str j=>obtain⟨t',rfl⟩:=ry;exact PySem.EqNone.eq_none_str (fin_bl I q (by simp))
  | _=>exact absurd (show false=true from hs) Bool.false_ne_true
 | bl i =>
  cases rx
  cases y with
  | non=>cases ry;exact PySem.EqNone.eq_bool_none (fin_bl I q (by simp))
  | bl j=>cases ry;exact eq_bool (fin_bl I q dec_bl)
  | str j=>obtain⟨t',rfl⟩:=ry;exact PySem.EqMixed.eq_bool_str (fin_bl I q (by simp))
  | _=>exact absurd (show false=true from hs) Bool.false_ne_true
 | int i =>
  obtain⟨t,rfl⟩:=rx
  cases y with
  | non=>cases ry;exact PySem.EqNone.eq_int_none (fin_bl I q (by simp))
  | int j=>obtain⟨t',rfl⟩:=ry;exact eq_int (fin_bl I q dec_int)
  | str j=>obtain⟨t',rfl⟩:=ry;exact PySem.EqMixed.eq_int_str (fin_bl I q (by simp))
  | _=>exact absurd (show false=true from hs) Bool.false_ne_true
 | str i =>
  obtain⟨t,rfl⟩:=rx
  cases y with
  | non=>cases ry;exact PySem.EqNone.eq_str_none (fin_bl I q (by simp))
  | bl j=>cases ry;exact PySem.EqMixed.eq_str_bool (fin_bl I q (by simp))
  | int j=>obtain⟨t',rfl⟩:=ry;exact PySem.EqMixed.eq_str_int (fin_bl I q (by simp))
  | str j=>obtain⟨t',rfl⟩:=ry;exact eq_str (fin_bl I q dec_str)
  | _=>exact absurd (show false=true from hs) Bool.false_ne_true
 | byt i =>
  obtain⟨t,rfl⟩:=rx
  cases y with
  | byt j=>obtain⟨t',rfl⟩:=ry;exact PySem.W.eq_bytes (fin_bl I q dec_byt)
  | _=>exact absurd (show false=true from hs) Bool.false_ne_true
 | _=>cases y<;>exact absurd (show false=true from hs) Bool.false_ne_true
theorem op_ne:OpR X (compareOp .NotEq) rNe:=by
 intro pins s σ H x y v u Q I rx ry h
 obtain⟨hs,q⟩:=h
 cases x with
 | non =>
  cases rx
  cases y with
  | non=>cases ry;exact PySem.EqNone.ne_none_none (fin_bl I q (by simp))
  | bl j=>cases ry;exact PySem.EqNone.ne_none_bool (fin_bl I q (by simp))
  | int j=>obtain⟨t',rfl⟩:=ry;exact PySem.EqNone.ne_none_int (fin_bl I q (by simp))
  | str j=>obtain⟨t',rfl⟩:=ry;exact PySem.EqNone.ne_none_str (fin_bl I q (by simp))
  | _=>exact absurd (show false=true from hs) Bool.false_ne_true
 | bl i =>
  cases rx
  cases y with
  | non=>cases ry;exact PySem.EqNone.ne_bool_none (fin_bl I q (by simp))
  | bl j=>cases ry;exact ne_bool (fin_bl I q (congrArg not dec_bl))
  | str j=>obtain⟨t',rfl⟩:=ry;exact PySem.EqMixed.ne_bool_str (fin_bl I q (by simp))
  | _=>exact absurd (show false=true from hs) Bool.false_ne_true
 | int i =>
  obtain⟨t,rfl⟩:=rx
  cases y with
  | non=>cases ry;exact PySem.EqNone.ne_int_none (fin_bl I q (by simp))
  | int j=>obtain⟨t',rfl⟩:=ry;exact ne_int (fin_bl I q (congrArg not dec_int))
  | str j=>obtain⟨t',rfl⟩:=ry;exact PySem.EqMixed.ne_int_str (fin_bl I q (by simp))
  | _=>exact absurd (show false=true from hs) Bool.false_ne_true
 | str i =>
  obtain⟨t,rfl⟩:=rx
  cases y with
  | non=>cases ry;exact PySem.EqNone.ne_str_none (fin_bl I q (by simp))
  | bl j=>cases ry;exact PySem.EqMixed.ne_str_bool (fin_bl I q (by simp))
  | int j=>obtain⟨t',rfl⟩:=ry;exact PySem.EqMixed.ne_str_int (fin_bl I q (by simp))
  | str j=>obtain⟨t',rfl⟩:=ry;exact ne_str (fin_bl I q (congrArg not dec_str))
  | _=>exact absurd (show false=true from hs) Bool.false_ne_true
 | byt i =>
  obtain⟨t,rfl⟩:=rx
  cases y with
  | byt j=>obtain⟨t',rfl⟩:=ry;exact PySem.W.ne_bytes (fin_bl I q (congrArg not dec_byt))
  | _=>exact absurd (show false=true from hs) Bool.false_ne_true
 | _=>cases y<;>exact absurd (show false=true from hs) Bool.false_ne_true
theorem op_lt:OpR X (compareOp .Lt) (rI0 fun i j=>.bl (decide (i<j))):=opB0 fun _ _ _ _ _ _ _ q=>lt_int q
theorem op_gt:OpR X (compareOp .Gt) (rI0 fun i j=>.bl (decide (j<i))):=opB0 fun _ _ _ _ _ _ _ q=>gt_int q
theorem op_ge:OpR X (compareOp .GtE) (rI0 fun i j=>.bl (decide (j≤i))):=opB0 fun _ _ _ _ _ _ _ q=>ge_int q
theorem nomark (b:Expr){op:CmpOp}(h:op≠.In:=by decide)(h2:op≠.NotIn:=by decide):behindInMarks op b=false:=by
 have e1:(op == CmpOp.In)=false:=by cases op<;>first | rfl | exact absurd rfl h
 have e2:(op == CmpOp.NotIn)=false:=by cases op<;>first | rfl | exact absurd rfl h2
 cases b<;>simp[behindInMarks,e1,e2]
def tTest (t:TE):TT:=fun σ H Q=>t σ H fun x H'=>∃ k,x=.bl k∧Q k H'
theorem pt_cmpR {op:CmpOp}{r:R2}(ho:OpR X (compareOp op) r)(ha:PE X a ta)(hb:PE X b tb)(hm:behindInMarks op b=false):PT X (.Compare a [op] [b] pos) (tTest (tOp r ta tb)):=by
 intro pins s σ H Q I h
 refine wpAny_isTrue_Compare1 (thn (ha pins s σ H _ I h) fun v s1 ⟨x,H1,I1,r1,q1⟩=>thn (hb pins s1 σ H1 _ I1 q1) fun u s2 ⟨y,H2,I2,r2,q2⟩ =>
  thn (ho pins s2 σ H2 x y v u _ I2 r1 r2 q2) fun c s3 ⟨z,H3,I3,r3,k,e,q3⟩=>?_) hm
 subst e
 cases r3
 exact wpAny_truthy_bool ⟨H3,I3,q3⟩
theorem line63:(sizeLine:Nat)<2 ^ 63:=by rw[sizeLine_eq];decide
theorem vals1 {x:V}{us:List Value}(r:Vals [x] us):∃ u,us=[u]∧RelV x u:=by
 cases r with
 | cons r1 r2=>cases r2;exact⟨_,rfl,r1⟩
end
end L2
namespace L2
open PySem PySem.Spec PyProof.Rows
structure ObjM (h:Heap)(x dx C:Addr)(mA:Str→Option Value):Prop where
 obj:h.get? x=some (PySem.W.instObj C dx)
 ns:h.Ns1 dx mA
 ne:dx≠x
theorem lookIn_ns {h:Heap}{dx:Addr}{mA:Str→Option Value}(n:h.Ns1 dx mA):∃ od,h.get? dx=some od∧∀ name,PySem.W.lookIn name od=some (mA name):=by
 obtain⟨o,es,ep,ho,hd,hk,_,hm⟩:=n
 refine⟨o,ho,fun name=>?_⟩
 have e:=hm name
 unfold nsFind findBy at e
 rw[←Array.find?_toList]at e
 unfold PySem.W.lookIn
 rw[hd]
 dsimp only
 split
 ·rename_i y q
  rw[q]at e
  exact congrArg some e
 ·rename_i q
  rw[q]at e
  have a:es.toList.any (·.refKey)=false:=by
   rw[List.any_eq_false]
   intro y hy
   obtain⟨z,t,hkey⟩:=hk y (Array.mem_toList_iff.mp hy)
   simp[DictEntry.refKey,hkey]
  have a':¬ es.toList.any (·.refKey)=true:=by rw[a];exact Bool.false_ne_true
  rw[if_neg a']
  exact congrArg some e
theorem ObjM.look {h:Heap}{x dx C:Addr}{mA:Str→Option Value}(I:ObjM h x dx C mA):∃ od,PySem.W.InstAt h x (PySem.W.instObj C dx) C (some od)∧∀ name,PySem.W.lookIn name od=some (mA name) :=
 let ⟨od,ho,hl⟩:=lookIn_ns I.ns
 ⟨od,⟨I.obj,rfl,rfl,ho⟩,hl⟩
section
variable {prog:Program}{w:World}{A:Around}{E:Value→Shared→Prop}{s:Shared}{K:PySem.W.Frag}{x dx C f:Addr}{mA:Str→Option Value}{name:Str}{v:Value}
theorem get_map {expr:Bool}{Q:Value→Shared→Prop}(X:K.In s.heap)(I:ObjM s.heap x dx C mA)(hg:PySem.W.plainGet K C name=true)(hh:PySem.W.hasDictIn K C=true)
  (ha:PySem.W.findIn K (.ref C) name=some none) (hv:mA name=some v) (hv':PySem.W.handedIn v=true) (h:Q v { s with toks:=s.toks+1 }) :
  wpAny (model prog w) A (getAttr (.ref x) name expr) Q E s:=by
 obtain⟨od,J,hl⟩:=I.look
 exact PySem.W.get_value X J (PySem.W.plainGet_of hg).1 (PySem.W.findObj_own hh ha rfl (by rw[hl,hv])) hv' h
theorem get_meth {pl:Sem Bool}{Q:Value×List Value→Shared→Prop}(X:K.In s.heap)(I:ObjM s.heap x dx C mA)(hg:PySem.W.plainGet K C name=true)
  (hf:PySem.W.findIn K (.ref C) name=some (some (.ref f))) (ht:PySem.W.isFn K (.ref f)=true) (hv:mA name=none) (h:Q (.ref f,[.ref x]) s) :
  wpAny (model prog w) A (getMethod (.ref x) name pl) Q E s:=by
 obtain⟨od,J,hl⟩:=I.look
 exact PySem.W.method_fn X J (PySem.W.plainGet_of hg).1 (PySem.W.plainGet_of hg).2 hf (beq_iff_eq.mp ht) (by show (PySem.W.lookIn name od).map (·.isSome)=some false;rw[hl,hv];rfl) h
theorem set_map {ns:List Str}{Q:Unit→Shared→Prop}(X:K.In s.heap)(I:ObjM s.heap x dx C mA)
  (hs:PySem.W.findIn K (.ref C) "__setattr__" = some (some (.builtin "object.__setattr__"))) (hp:PySem.W.plainOver K C=true) (ht:PySem.W.takerIn K C name=some none) (hh:PySem.W.hasDictIn K C=true)
  (hw:PySem.Within mA ns) (hsz:ns.length≤sizeLine)
  (h:∀ h',ObjM h' x dx C (fun y=>if y=name then some v else mA y)→Heap.SameBut dx s.heap h'→Q () { s with heap:=h',toks:=s.toks+2 }) :
  wpAny (model prog w) A (setAttr (.ref x) name v) Q E s:=by
 obtain⟨od,J,hl⟩:=I.look
 refine PySem.W.set_plain X J hs (PySem.W.osa_open (s:={ s with toks:=s.toks+1 }) (r:=none) X J hp ht fun b=>?_)
 obtain⟨cd,hc,hd'⟩:=PySem.W.any_some hh
 have hx:s.heap.get? x=some ⟨.ref C,some dx,.plain,#[]⟩:=I.obj
 refine wpAny_bind (wpAny_pure (wpAny_bind (wpAny_bind (wpAny_loadPart hx (wpAny_bind (PySem.W.Looks.here (s:={ s with toks:=s.toks+1 }) (PySem.W.looks_clsIn X hc) ?_))))))
 rw[hd']
 refine wpAny_pure (a:=some dx) (wpAny_bind (wpAny_pure (wpAny_bind ?_)))
 refine wpAny_nsSet1 (s:={ s with toks:=s.toks+1 }) I.ns fun h' hn2 hs2=>?_
 obtain⟨oD,esD,epD,hoD,hdD,hcD⟩:=hn2.count (PySem.Within.cons name v hw)
 refine wpAny_bind (wpAny_lookBehind hoD (by rw[hdD];exact pastItsLine_dict (Nat.le_trans hcD (by rw[List.length_cons];omega))) ?_)
 exact wpAny_pure (h _ ⟨(hs2.2 _ (Ne.symm I.ne)).trans I.obj,hn2,I.ne⟩ hs2)
theorem make_map {R:Result→Shared→Prop}{vs:List Value}{kw:List (Str×Value)}(X:K.In s.heap)(hm:PySem.W.makesIn K C=true)
  (hi:PySem.W.findIn K (.ref C) "__init__" = some (some (.ref f))) (hf:PySem.W.typeIn K (.ref f)=some (.type "function"))
  (h:codeAny (model prog w) (A.under (.builtin "type.__call__" ⟨.ref C::vs,kw⟩)) (.call (.ref f) ⟨.ref (s.heap.objs.size+1)::vs,kw⟩) (PySem.W.InitBack (s.heap.objs.size+1) R)
   { s with heap:=(s.heap.push PySem.W.emptyDict).push (PySem.W.instObj C s.heap.objs.size) }) :
  codeAny (model prog w) A (.call (.ref C) ⟨vs,kw⟩) R s:=by
 obtain⟨hh,g,d,t,os⟩:=s
 exact PySem.W.make_core (PySem.W.makes_of X hm) (PySem.W.looks_findIn X hi) (fun self=>PySem.W.bind_fn X self hf) (.inl rfl) h
end
def putF (f:Str)(v:V):List (Str×V)→List (Str×V)
 | []=>[(f,v)]
 | (g,x)::r=>if g=f then (g,v)::r else (g,x)::putF f v r
theorem lookup_putF (f g:Str)(v:V):∀ fs:List (Str×V),(putF f v fs).lookup g=if g=f then some v else fs.lookup g
 | []=>by
  show List.lookup g [(f,v)]=_
  by_cases h:g=f
  ·have hb:(g == f)=true:=beq_iff_eq.mpr h
   simp only[List.lookup,hb,if_pos h]
  ·have hb:(g == f)=false:=beq_eq_false_iff_ne.mpr h
   simp only[List.lookup,hb,if_neg h]
 | (k,x)::r=>by
  have ih:=lookup_putF f g v r
  rw[show putF f v ((k,x)::r)=(if k=f then (k,v)::r else (k,x)::putF f v r) from rfl]
  by_cases hk:k=f
  ·rw[if_pos hk]
   by_cases h:g=k
   ·have hb:(g == k)=true:=beq_iff_eq.mpr h
    simp only[List.lookup,hb,if_pos (h.trans hk)]
   ·have hb:(g == k)=false:=beq_eq_false_iff_ne.mpr h
    simp only[List.lookup,hb,if_neg (fun e:g=f=>h (e.trans hk.symm))]
  ·rw[if_neg hk]
   by_cases h:g=k
   ·have hb:(g == k)=true:=beq_iff_eq.mpr h
    simp only[List.lookup,hb,if_neg (fun e:g=f=>hk (h.symm.trans e))]
   ·have hb:(g == k)=false:=beq_eq_false_iff_ne.mpr h
    simp only[List.lookup,hb]
    exact ih
theorem keys_putF (f:Str)(v:V):∀ fs:List (Str×V),f∈(putF f v fs).map (·.1)∧∀ g,g∈fs.map (·.1)→g∈(putF f v fs).map (·.1)
 | []=>⟨by simp[putF],fun g h=>by simp at h⟩
 | (k,x)::r=>by
  obtain⟨i1,i2⟩:=keys_putF f v r
  rw[show putF f v ((k,x)::r)=(if k=f then (k,v)::r else (k,x)::putF f v r) from rfl]
  by_cases hk:k=f
  ·rw[if_pos hk]
   subst hk
   exact⟨by simp,fun g h=>by simpa using h⟩
  ·rw[if_neg hk]
   refine⟨?_,fun g h=>?_⟩
   ·rw[List.map_cons]
    exact List.mem_cons_of_mem _ i1
   ·rw[List.map_cons]at h ⊢
    rcases List.mem_cons.mp h with e | e
    ·exact List.mem_cons.mpr (.inl e)
    ·exact List.mem_cons_of_mem _ (i2 g e)
theorem length_putF (f:Str)(v:V):∀ fs:List (Str×V),(putF f v fs).length≤fs.length+1
 | []=>by simp[putF]
 | (k,x)::r=>by
  have ih:=length_putF f v r
  rw[show putF f v ((k,x)::r)=(if k=f then (k,v)::r else (k,x)::putF f v r) from rfl]
  by_cases hk:k=f
  ·rw[if_pos hk,List.length_cons,List.length_cons];omega
  ·rw[if_neg hk,List.length_cons,List.length_cons];omega
theorem RelO.some_of {v:V}{o:Option Value}(r:RelO (some v) o):∃ u,o=some u∧RelV v u:=by
 cases o with
 | none=>exact (show False from r).elim
 | some u=>exact⟨u,rfl,r⟩
theorem RelO.none_of {o:Option Value}(r:RelO none o):o=none:=by
 cases o with
 | none=>rfl
 | some u=>exact (show False from r).elim
theorem handed_of {v:V}{u:Value}(r:RelV v u):PySem.W.handedIn u=true:=by
 cases v with
 | non=>cases (show u=Value.none from r);rfl
 | bl b=>cases (show u=Value.bool b from r);rfl
 | int i=>obtain⟨t,e⟩:=(show ∃ t,u=Value.int i t from r);cases e;rfl
 | str x=>obtain⟨t,e⟩:=(show ∃ t,u=Value.str x t from r);cases e;rfl
 | byt b=>obtain⟨t,e⟩:=(show ∃ t,u=Value.bytes b t from r);cases e;rfl
 | flt b=>obtain⟨t,e⟩:=(show ∃ t,u=Value.float b t from r);cases e;rfl
 | ref a=>cases (show u=Value.ref a from r);rfl
 | ty n=>cases (show u=Value.type n from r);rfl
section
variable {P:Program}{w:World}{H H':Hp}{h h':Heap}{a C dx:Addr}{fs fs':List (Str×V)}
theorem ins_get (hok:HOk P w H h)(e:H a=some (.ins C dx fs)):∃ mA,ObjM h a dx C mA∧(∀ f,RelO (fs.lookup f) (mA f))∧PySem.Within mA (fs.map (·.1))∧fs.length≤1000∧H dx=some (.own a):=by
 obtain⟨d,z,ne,ob,mA,n,r,q⟩:=(show ObjOk P w H h a (.ins C dx fs) from hok a _ e)
 exact⟨mA,⟨ob,n,ne⟩,r,q,z,d⟩
end
structure Cls (K:PySem.W.Frag)(C:Addr):Prop where
 pg:PySem.W.plainGet K C Str.empty=true
 hd:PySem.W.hasDictIn K C=true
 po:PySem.W.plainOver K C=true
 sa:PySem.W.findIn K (.ref C) "__setattr__" = some (some (.builtin "object.__setattr__"))
theorem Cls.get {K:PySem.W.Frag}{C:Addr}(c:Cls K C)(f:Str):PySem.W.plainGet K C f=true:=c.pg
def NoAttr (K:PySem.W.Frag)(C:Addr)(f:Str):Prop:=PySem.W.findIn K (.ref C) f=some none
theorem NoAttr.taker {K:PySem.W.Frag}{C:Addr}{f:Str}(n:NoAttr K C f):PySem.W.takerIn K C f=some none:=by
 unfold PySem.W.takerIn
 rw[show PySem.W.findIn K (.ref C) f=some none from n]
 rfl
structure Meth (K:PySem.W.Frag)(C:Addr)(m:Str)(f:Addr):Prop where
 at_:PySem.W.findIn K (.ref C) m=some (some (.ref f))
 fn:PySem.W.isFn K (.ref f)=true
 kp:PySem.W.keepIn K (.ref f)=true
section
variable {X:Cx}{pins:List (Addr×Obj)}{σ:St}{H:Hp}{s:Shared}{a C dx:Addr}{fs:List (Str×V)}{f:Str}{v:V}{A:Around}{E:Value→Shared→Prop}
theorem getattr_ok {b:Bool}{Q:Value→Shared→Prop}(I:Inv X pins σ H s)(e:H a=some (.ins C dx fs))(c:Cls X.K C)(n:NoAttr X.K C f)(l:fs.lookup f=some v)
  (h:∀ u s',Inv X pins σ H s'→RelV v u→Q u s'):wpAny (model X.prog X.w) A (getAttr (.ref a) f b) Q E s:=by
 obtain⟨mA,O,r,_,_,_⟩:=ins_get I.hok e
 obtain⟨u,hu,ru⟩:=RelO.some_of (v:=v) (o:=mA f) (by rw[←l];exact r f)
 exact get_map I.kIn O (c.get f) c.hd n hu (handed_of ru) (h u _ (I.tok _) ru)
theorem getmeth_ok {m:Str}{g:Addr}{pl:Sem Bool}{Q:Value×List Value→Shared→Prop}(I:Inv X pins σ H s)(e:H a=some (.ins C dx fs))(c:Cls X.K C)(k:Meth X.K C m g)(l:fs.lookup m=none)
  (h:Q (.ref g,[.ref a]) s):wpAny (model X.prog X.w) A (getMethod (.ref a) m pl) Q E s:=by
 obtain⟨mA,O,r,_,_,_⟩:=ins_get I.hok e
 have hn:mA m=none:=RelO.none_of (by rw[←l];exact r m)
 exact get_meth I.kIn O (c.get m) k.at_ k.fn hn h
theorem setattr_ok {y:V}{u:Value}{Q:Unit→Shared→Prop}(I:Inv X pins σ H s)(e:H a=some (.ins C dx fs))(c:Cls X.K C)(n:NoAttr X.K C f)(hl:fs.length<1000)(ry:RelV y u)
  (h:∀ s',Inv X pins σ (upd H a (.ins C dx (putF f y fs))) s'→Q () s'):wpAny (model X.prog X.w) A (setAttr (.ref a) f u) Q E s:=by
 obtain⟨mA,O,r,wi,_,ho⟩:=ins_get I.hok e
 have hz:(fs.map (·.1)).length≤sizeLine:=by rw[List.length_map,sizeLine_eq];omega
 refine set_map I.kIn O c.sa c.po n.taker c.hd wi hz fun h' O' sb=>h _ ?_
 have hd:∃ o,h'.get? dx=some o:=let ⟨o,_,_,e',_⟩:=O'.ns;⟨o,e'⟩
 refine I.write (x:=a) (e:=dx) (by rw[e];exact True.intro) (.inr ho) (fun b q hb z=>(sb.2 b hb).trans z) hd ?_
 refine⟨by rw[upd_ne O.ne];exact ho,?_,O.ne,O'.obj,_,O'.ns,fun g=>?_,fun g hg=>?_⟩
 ·have:=length_putF f y fs;omega
 ·show RelO ((putF f y fs).lookup g) (if g=f then some u else mA g)
  rw[lookup_putF]
  by_cases q:g=f
  ·rw[if_pos q,if_pos q];exact ry
  ·rw[if_neg q,if_neg q];exact r g
 ·by_cases q:g=f
  ·rw[q];exact (keys_putF f y fs).1
  ·refine (keys_putF f y fs).2 g (wi g fun z=>hg ?_)
   show (if g=f then some u else mA g)=none
   rw[if_neg q];exact z
theorem Inv.made (I:Inv X pins σ H s):Inv X pins σ (upd (upd H s.heap.objs.size (.own (s.heap.objs.size+1))) (s.heap.objs.size+1) (.ins C s.heap.objs.size []))
  { s with heap:=(s.heap.push PySem.W.emptyDict).push (PySem.W.instObj C s.heap.objs.size) }:=by
 have e1:(s.heap.push PySem.W.emptyDict).get? s.heap.objs.size=some PySem.W.emptyDict:=Heap.get?_push_size s.heap rfl
 have e2:((s.heap.push PySem.W.emptyDict).push (PySem.W.instObj C s.heap.objs.size)).get? (s.heap.objs.size+1)=some (PySem.W.instObj C s.heap.objs.size):=by
  have:=Heap.get?_push_size (s.heap.push PySem.W.emptyDict) (o:=PySem.W.instObj C s.heap.objs.size) rfl
  rwa [Heap.size_push]at this
 have e3:(s.heap.push PySem.W.emptyDict).Ns s.heap.objs.size (fun _=>none):=⟨PySem.W.emptyDict,#[],_,e1,rfl,(fun e he=>absurd he (by simp)),fun _=>rfl⟩
 have I1:=I.laid (a:=s.heap.objs.size) (o:=.own (s.heap.objs.size+1)) (h':=s.heap.push PySem.W.emptyDict) (t':=s.toks) (fun b u q=>Heap.get?_push_of_some _ q) (Nat.le_refl _) ⟨_,e1⟩
 refine I1.laid (a:=s.heap.objs.size+1) (o:=.ins C s.heap.objs.size []) (t':=s.toks) (fun b u q=>Heap.get?_push_of_some _ q) (Nat.le_of_eq (Heap.size_push _ _)) ?_
 have ne:s.heap.objs.size≠s.heap.objs.size+1:=Nat.ne_of_lt (Nat.lt_succ_self _)
 refine⟨by rw[upd_ne ne,upd_same],Nat.zero_le _,ne,e2,fun _=>none,(Heap.Ns1.of_empty e3).at fun o q=>Heap.get?_push_of_some _ q,fun _=>True.intro,fun y hy=>absurd rfl hy⟩
theorem attr_of {prog:Program}{w:World}{env:Env}{e:Expr}{f:Str}{pos:Pos}{s:Shared}{Q:Value→Shared→Prop}(hb:attributeBase e f env (eval e env)=eval e env)
  (h:wpAny (model prog w) A (eval e env) (fun o s₁=>wpAny (model prog w) A (getAttr o f true) Q E s₁) E s):wpAny (model prog w) A (eval (.Attribute e f pos) env) Q E s :=
 Attribute_any_ h (by rw[arm_eval_Attribute,hb])
end
def tFld (K:PySem.W.Frag)(ta:TE)(f:Str):TE:=fun σ H Q=>ta σ H fun x H1=>∃ a C dx fs v,x=.ref a∧H1 a=some (.ins C dx fs)∧Cls K C∧NoAttr K C f∧fs.lookup f=some v∧Q v H1
def sFld (K:PySem.W.Frag)(ta tv:TE)(f:Str):TS:=fun D σ H=>tv σ H fun y H1=>ta σ H1 fun x H2=>∃ a C dx fs,x=.ref a∧H2 a=some (.ins C dx fs)∧Cls K C∧NoAttr K C f∧fs.length<1000 ∧
 D.nx σ (upd H2 a (.ins C dx (putF f y fs)))
section
variable {X:Cx}{o e value:Expr}{f:Str}{pos pos' tpos:Pos}{ta tv:TE}
theorem pe_fld (he:PE X e ta)(hb:attributeBase e f X.env (eval e X.env)=eval e X.env):PE X (.Attribute e f pos) (tFld X.K ta f):=by
 intro pins s σ H Q I h
 refine attr_of hb (thn (he pins s σ H _ I h) fun u s1 ⟨x,H1,I1,rx,a,C,dx,fs,v,ex,ea,c,n,l,q⟩=>?_)
 subst ex
 obtain rfl:u=Value.ref a:=rx
 exact getattr_ok I1 ea c n l fun u' s2 I2 ru=>⟨v,H1,I2,ru,q⟩
theorem ps_fld (ha:PE X o ta)(hv:PE X value tv)(hs:swapsWith value (some (.Attribute o f pos')) pos.line X.env=pure false):PS X (.Assign [.Attribute o f pos'] value pos) (sFld X.K ta tv f):=by
 intro pins s σ H D I h
 refine plainObj_wpAny_Assign_Attribute (thn (hv pins s σ H _ I h) fun u s1 ⟨y,H1,I1,ry,q⟩=>thn (ha pins s1 σ H1 _ I1 q) fun ov s2 ⟨x,H2,I2,rx,a,C,dx,fs,ex,ea,c,n,l,q2⟩=>?_) hs
 subst ex
 obtain rfl:ov=Value.ref a:=rx
 exact setattr_ok I2 ea c n l ry fun s3 I3=>⟨σ,_,I3,q2⟩
end
section
variable {X:Cx}{pins:List (Addr×Obj)}{σ:St}{H:Hp}{s:Shared}{A:Around}{E:Value→Shared→Prop}{Q:Value→Shared→Prop}{c:Value}{b:Bool}
inductive TyOf (K:PySem.W.Frag) (H:Hp):V→Value→Prop where
 | non:TyOf K H .non (.type "NoneType")
 | bl (x:Bool):TyOf K H (.bl x) (.type "bool")
 | int (i:Int):TyOf K H (.int i) (.type "int")
 | str (x:Str):TyOf K H (.str x) (.type "str")
 | flt (x:UInt64):TyOf K H (.flt x) (.type "float")
 | lst {a:Addr} {xs:List V} (e:H a=some (.lst xs)):TyOf K H (.ref a) (.type "list")
 | frz {a:Addr} {o:Obj} {xs:List V} (e:H a=some (.frz o (.lst xs))):TyOf K H (.ref a) (.type "list")
 | tup {a:Addr} {xs:List V} (e:H a=some (.tup xs)):TyOf K H (.ref a) (.type "tuple")
 | dK {a:Addr} {kvs:List (Key×V)} (e:H a=some (.dK kvs)):TyOf K H (.ref a) (.type "dict")
 | dT {a:Addr} {kvs:List (List Key×V)} (e:H a=some (.dT kvs)):TyOf K H (.ref a) (.type "dict")
 | ins {a C dx:Addr} {fs:List (Str×V)} (e:H a=some (.ins C dx fs)) (cl:Cls K C) (ha:PySem.W.findIn K (.ref C) "__class__" = some (some (.builtin "object.__class__")))
   (hn:PySem.W.specialIn K (.builtin "object.__class__") "__get__" = some (some (.builtin "getset_descriptor.__get__"))) (htk:PySem.W.takesIn K (.builtin "object.__class__")=some true)
   (hm:PySem.W.mroIn K C (.type "object")=some true):TyOf K H (.ref a) (.ref C)
theorem isinst_ok {x:V}{u t:Value}(I:Inv X pins σ H s)(rx:RelV x u)(ty:TyOf X.K H x t)(e:PySem.W.kitOne X.K t c=some b)(h:∀ tk,Q (.bool b) { s with toks:=tk }) :
  wpAny (model X.prog X.w) A (call (.builtin "isinstance") [u,c]) Q E s:=by
 cases ty with
 | non=>cases (show u=Value.none from rx);exact PySem.W.kia_one PySem.W.kitx_none I.kIn True.intro e (fun z=>nomatch z) h
 | bl y=>cases (show u=Value.bool y from rx);exact PySem.W.kia_one PySem.W.kitx_bool I.kIn True.intro e (fun z=>nomatch z) h
 | int i=>obtain⟨t,q⟩:=(show ∃ t,u=Value.int i t from rx);cases q;exact PySem.W.kia_one PySem.W.kitx_int I.kIn True.intro e (fun z=>nomatch z) h
 | str y=>obtain⟨t,q⟩:=(show ∃ t,u=Value.str y t from rx);cases q;exact PySem.W.kia_one PySem.W.kitx_str I.kIn True.intro e (fun z=>nomatch z) h
 | flt y=>obtain⟨t,q⟩:=(show ∃ t,u=Value.float y t from rx);cases q;exact PySem.W.kia_one PySem.W.kitx_float I.kIn True.intro e (fun z=>nomatch z) h
 | @lst a xs ea =>
  cases (show u=Value.ref a from rx)
  obtain⟨_,_,n,_,h1⟩:=(show ObjOk X.prog X.w H s.heap a (.lst xs) from I.hok a _ ea)
  exact PySem.W.kia_one PySem.W.kitx_list I.kIn ⟨_,h1,rfl⟩ e (fun z=>nomatch z) h
 | @frz a ob xs ea =>
  cases (show u=Value.ref a from rx)
  obtain⟨_,_,_,n,_,h1⟩:=(show ObjOk X.prog X.w H s.heap a (.frz ob (.lst xs)) from I.hok a _ ea)
  exact PySem.W.kia_one PySem.W.kitx_list I.kIn ⟨_,h1,rfl⟩ e (fun z=>nomatch z) h
 | @tup a xs ea =>
  cases (show u=Value.ref a from rx)
  obtain⟨_,_,_,p⟩:=(show ObjOk X.prog X.w H s.heap a (.tup xs) from I.hok a _ ea)
  obtain⟨o,h1,h2,_⟩:=p
  exact PySem.W.kia_one PySem.W.kitx_tuple I.kIn ⟨o,h1,h2⟩ e (fun z=>nomatch z) h
 | @dK a kvs ea =>
  cases (show u=Value.ref a from rx)
  obtain⟨_,_,vs,_,p⟩:=(show ObjOk X.prog X.w H s.heap a (.dK kvs) from I.hok a _ ea)
  obtain⟨o,es,ep,h1,h2,_⟩:=p
  exact PySem.W.kia_one PySem.W.kitx_dict I.kIn ⟨o,h1,h2.1⟩ e (fun z=>nomatch z) h
 | @dT a kvs ea =>
  cases (show u=Value.ref a from rx)
  obtain⟨_,_,xs,_,o,es,ep,h1,h2,_⟩:=(show ObjOk X.prog X.w H s.heap a (.dT kvs) from I.hok a _ ea)
  exact PySem.W.kia_one PySem.W.kitx_dict I.kIn ⟨o,h1,h2.1⟩ e (fun z=>nomatch z) h
 | @ins a C dx fs ea cl ha hn htk hm =>
  cases (show u=Value.ref a from rx)
  obtain⟨mA,O,_⟩:=ins_get I.hok ea
  obtain⟨od,J,_⟩:=O.look
  exact PySem.W.kia_one (PySem.W.kitx_own (cl.get _) cl.hd ha hn htk hm) I.kIn J e (fun z=>nomatch z) h
end
end L2
namespace L2
open PySem PySem.Spec PyProof.Rows
structure Room (k:Nat)(A:Around):Prop where
 hd:A.handled=none
 dp:A.depth+3*k+5<recursionLimit
 un:A.units+16*k+200<cLine
theorem Room.mono {j k:Nat}{A:Around}(r:Room k A)(h:j≤k):Room j A:=⟨r.hd,by have:=r.dp;omega,by have:=r.un;omega⟩
theorem Room.deeper {k:Nat}{A:Around}(r:Room (k+1) A)(env:Env):Room k (A.deeper env) :=
 ⟨r.hd,by have:=r.dp;show A.depth+1+3*k+5<_;omega,by have:=r.un;show A.units+3+16*k+200<_;omega⟩
theorem make_depth {A:Around}{C:Addr}{us:List Value}{kw:List (Str×Value)}:(A.under (.builtin "type.__call__" ⟨.ref C::us,kw⟩)).depth=A.depth+1:=by
 first | rfl | simp[Around.under,Code.weight,Code.isCreation,Code.isGuard,Code.isCaller,Code.frames,Code.isFrame,guardIds]
theorem make_units {A:Around}{C:Addr}{us:List Value}{kw:List (Str×Value)}:(A.under (.builtin "type.__call__" ⟨.ref C::us,kw⟩)).units=A.units+1:=by
 first | rfl | simp[Around.under,Code.cUnits,Code.frames,Code.isFrame]
theorem Room.make {k:Nat}{A:Around}(r:Room (k+1) A)(C:Addr)(us:List Value)(kw:List (Str×Value)):Room k (A.under (.builtin "type.__call__" ⟨.ref C::us,kw⟩)) :=
 ⟨r.hd,by have:=r.dp;rw[make_depth];omega,by have:=r.un;rw[make_units];omega⟩
theorem Room.depth {k:Nat}{A:Around}(r:Room k A):A.depth<recursionLimit:=by have:=r.dp;omega
theorem Room.units {k:Nat}{A:Around}(r:Room k A):A.units+64<cLine:=by have:=r.un;omega
def tNil:TA:=fun _ H Q=>Q [] H
def tCons (ta:TE)(tr:TA):TA:=fun σ H Q=>ta σ H fun x H1=>tr σ H1 fun xs H2=>Q (x::xs) H2
section
variable {X:Cx}{e:Expr}{es:List Expr}{te:TE}{t:TA}{pos:Pos}
theorem pa_nil:PA X [] tNil:=fun _ _ _ _ H Q I h=>Calls.spliced_nil ⟨[],H,I,.nil,h⟩
theorem pa_cons (ha:PE X e te)(hr:PA X es t)(hs:starEach (e::es) X.env=(false,eval e X.env)::starEach es X.env:=by rfl):PA X (e::es) (tCons te t):=by
 intro pos pins s σ H Q I h
 rw[hs]
 show wpAny _ _ (spliced ((false,eval e X.env)::backTo pos (starEach es X.env))) _ _ s
 refine Calls.spliced_cons (thn (ha pins s σ H _ I h) fun u s1 ⟨x,H1,I1,r1,q1⟩=>?_)
 exact thn (hr pos pins s1 σ H1 _ I1 q1) fun us s2 ⟨xs,H2,I2,r2,q2⟩=>⟨x::xs,H2,I2,.cons r1 r2,q2⟩
def tTup (t:TA):TE:=fun σ H Q=>t σ H fun xs H1=>xs.length≤sizeLine∧∀ p,H1 p=none→Q (.ref p) (upd H1 p (.tup xs))
def tLst (t:TA):TE:=fun σ H Q=>t σ H fun xs H1=>xs.length≤sizeLine∧∀ p,H1 p=none→Q (.ref p) (upd H1 p (.lst xs))
theorem pe_tup {x1}(h:PA X es t):PE X (.Tuple es x1 pos) (tTup t):=by
 intro pins s σ H Q I hq
 refine wpAny_Tuple_spliced (thn (h pos pins s σ H _ I hq) fun us s1 ⟨xs,H1,I1,r,z,q⟩=>⟨by rw[←r.length];exact z,?_⟩)
 have hf:H1 s1.heap.objs.size=none:=I1.hok.fresh (Nat.le_refl _)
 refine⟨.ref s1.heap.objs.size,upd H1 s1.heap.objs.size (.tup xs),I1.laid (t':=s1.toks) (fun b u e=>Heap.get?_push_of_some _ e) (Nat.le_refl _) ?_,rfl,q _ hf⟩
 exact⟨z,us,r,⟨_,Heap.get?_push_size _ rfl,rfl,_,rfl⟩⟩
theorem pe_lst (h:PA X es t):PE X (.List es pos) (tLst t):=by
 intro pins s σ H Q I hq
 refine wpAny_List_spliced (thn (h pos pins s σ H _ I hq) fun us s1 ⟨xs,H1,I1,r,z,q⟩=>⟨by rw[←r.length];exact z,?_⟩)
 have hf:H1 s1.heap.objs.size=none:=I1.hok.fresh (Nat.le_refl _)
 refine⟨.ref s1.heap.objs.size,upd H1 s1.heap.objs.size (.lst xs),I1.laid (t':=s1.toks) (fun b u e=>Heap.get?_push_of_some _ e) (Nat.le_refl _) ?_,rfl,q _ hf⟩
 exact⟨z,us,0,r,Heap.get?_push_size _ rfl⟩
end
abbrev Sp:=List V→Hp→VK→XK→Prop
abbrev CXT:=List Env→Hp→Shared→XK→Value→Shared→Prop
structure Env0 (P:Program)(w:World)(K:PySem.W.Frag)(mg:Str→Option Value)(base:Heap)(A:Around)(outer:List Env)(s:Shared)(H:Hp):Prop where
 frames:A.frames=some outer
 mod:Mod K mg base
 bs:∀ b o,base.get? b=some o→s.heap.get? b=some o∧H b=none
 bsz:base.objs.size≤s.heap.objs.size
 funs:s.heap.FunFrames base outer
 frf:∀ b∈frs outer,H b=none
 hok:HOk P w H s.heap
 bare:AllBare s.gens
def CE (outer:List Env)(P:Program)(w:World)(H:Hp)(s:Shared)(Q:VK)(u:Value)(s':Shared):Prop :=
 ∃ v H',s'.os=s.os∧AllBare s'.gens∧Un (frs outer) [] H H' s.heap s'.heap∧HOk P w H' s'.heap∧RelV v u∧Q v H'
def CR (CX:CXT)(outer:List Env)(P:Program)(w:World)(H:Hp)(s:Shared)(Q:VK)(E:XK)(r:Result)(s':Shared):Prop :=
 match r with
 | .ok (.ret u)=>CE outer P w H s Q u s'
 | .ok _=>False
 | .error e=>CX outer H s E e s'
structure FnOk (P:Program)(w:World)(K:PySem.W.Frag)(mg:Str→Option Value)(base:Heap)(CX:CXT)(k:Nat)(f:Addr)(fd:FuncData)(ps:List Str)(sp:Sp):Prop where
 len:∀ vs H Q E,sp vs H Q E→vs.length=ps.length
 run:∀ (A:Around)(outer:List Env)(s:Shared)(H:Hp)(args:Args)(us:List Value)(vs:List V)(Q:VK)(E:XK),Room k A→Env0 P w K mg base A outer s H→BindsTo s fd args (ps.zip us)→Vals vs us→sp vs H Q E →
  codeAny (model P w) A (.call (.ref f) args) (CR CX outer P w H s Q E) s
theorem Env0.make {P:Program}{w:World}{K:PySem.W.Frag}{mg:Str→Option Value}{base:Heap}{A:Around}{outer:List Env}{s:Shared}{H:Hp}(e:Env0 P w K mg base A outer s H)(C:Addr)(us:List Value)(kw:List (Str×Value)) :
  Env0 P w K mg base (A.under (.builtin "type.__call__" ⟨.ref C::us,kw⟩)) outer s H:=⟨by first | exact e.frames | (simpa [Around.under,Code.envs,Code.isFrame,pushEnvs] using e.frames),e.mod,e.bs,e.bsz,e.funs,e.frf,e.hok,e.bare⟩
section
variable {X:Cx}{pins:List (Addr×Obj)}{σ:St}{H:Hp}{s s':Shared}
theorem Inv.env0 (I:Inv X pins σ H s):Env0 X.prog X.w X.K X.mg X.base X.A X.stack s H :=
 ⟨I.ok.frames,I.ok.mod,I.bs,Nat.le_trans I.ok.bsz I.sz,I.stack,I.stkFree,I.hok,I.bare⟩
theorem Inv.after {Q:VK}{u:Value}(I:Inv X pins σ H s)(h:CE X.stack X.prog X.w H s Q u s'):EP X pins σ Q u s':=by
 obtain⟨v,H',os,bare,un,hok,r,q⟩:=h
 obtain⟨hh,g,d,t,os'⟩:=s'
 obtain rfl:os'=s.os:=os
 exact⟨v,H',I.call (h':=hh) (g':=g) (d':=d) (t':=t) (ch:=[]) un hok bare (fun b z=>absurd z (by simp)),r,q⟩
end
def tCall (sp:Sp)(dvs:List V)(E:XK)(t:TA):TE:=fun σ H Q=>t σ H fun vs H1=>sp (vs++dvs) H1 Q E
def tMeth (C:Addr)(m:Str)(sp:Sp)(dvs:List V)(E:XK)(ta:TE)(t:TA):TE:=fun σ H Q=>ta σ H fun x H1=>∃ a dx fs,x=.ref a∧H1 a=some (.ins C dx fs)∧fs.lookup m=none ∧
 t σ H1 fun vs H2=>sp (x::(vs++dvs)) H2 Q E
def tMake (C:Addr)(sp:Sp)(dvs:List V)(E:XK)(t:TA):TE:=fun σ H Q=>t σ H fun vs H1=>∀ x dx,H1 x=none→H1 dx=none→dx≠x →
 sp (.ref x::(vs++dvs)) (upd (upd H1 dx (.own x)) x (.ins C dx [])) (fun v H2=>v=.non∧Q (.ref x) H2) E
def Binds (K:PySem.W.Frag)(fd:FuncData)(ps:List Str)(ds:List Value):Prop :=
 ∀ (s:Shared)(us:List Value),K.In s.heap→(us++ds).length=ps.length→BindsTo s fd ⟨us,[]⟩ (ps.zip (us++ds))
theorem Binds.all {K:PySem.W.Frag}{fd:FuncData}{ps:List Str}(h:∀ us:List Value,us.length=ps.length→bindArgs fd ⟨us,[]⟩=pure (ps.zip us)):Binds K fd ps []:=fun s us _ hl=>by
 rw[List.append_nil]at hl ⊢
 exact .of_eq (h us hl)
def Passes (CX:CXT)(X:Cx)(E:XK):Prop:=∀ (pins:List (Addr×Obj))(σ:St)(H:Hp)(s:Shared)(e:Value)(s':Shared),Inv X pins σ H s→CX X.stack H s E e s'→X.xe e s'
section
variable {X:Cx}{CX:CXT}{k:Nat}{f C:Addr}{fd:FuncData}{ps:List Str}{sp:Sp}{dvs:List V}{ds:List Value}{E:XK}{x m:Str}{p pos apos:Pos}{e o:Expr}{es:List Expr}{ta:TE}{t:TA}
theorem run_fn {pins:List (Addr×Obj)}{σ:St}{H:Hp}{s:Shared}{Q:VK}{us:List Value}{vs:List V}(F:FnOk X.prog X.w X.K X.mg X.base CX k f fd ps sp)(hr:Room k X.A)(hb:Binds X.K fd ps ds)(hd:Vals dvs ds)(hx:Passes CX X E)
  (I:Inv X pins σ H s) (r:Vals vs us) (h:sp (vs++dvs) H Q E):wpAny (model X.prog X.w) X.A (call (.ref f) us) (EP X pins σ Q) X.xe s:=by
 have r2:Vals (vs++dvs) (us++ds):=r.append hd
 have hl:(us++ds).length=ps.length:=by rw[←r2.length];exact F.len _ _ _ _ h
 refine wpAny_call (codeAny_mono (F.run X.A X.stack s H ⟨us,[]⟩ (us++ds) (vs++dvs) Q E hr I.env0 (hb s us I.kIn hl) r2 h) fun r s' hq=>?_)
 cases r with
 | error e=>exact hx pins σ H s e s' I hq
 | ok fl =>
  cases fl with
  | ret u=>exact I.after hq
  | next=>exact False.elim hq
  | brk=>exact False.elim hq
  | cont=>exact False.elim hq
theorem pe_call (F:FnOk X.prog X.w X.K X.mg X.base CX k f fd ps sp)(hr:Room k X.A)(hg:Gl X x)(hm:X.mg x=some (.ref f))(hk:PySem.W.keepIn X.K (.ref f)=true)(hb:Binds X.K fd ps ds)(hd:Vals dvs ds)(hx:Passes CX X E)
  (ha:PA X (e::es) t) (hdb:(x == ("__debug__" : Str))=false:=by decide) (he:starEach (e::es) X.env=(false,eval e X.env)::starEach es X.env:=by rfl) (hpl:(backTo pos (starEach es X.env)).any (·.1)=false:=by rfl) :
  PE X (.Call (.Name x p) (e::es) [] pos) (tCall sp dvs E t):=by
 intro pins s σ H Q I h
 refine wpAny_Call_Name_kw (ld_glob I hg hm ?_ hdb)
 refine PySem.W.callWith_K (h₀:=X.base) I.ok.mod.kin hk (thn (ha pos pins s σ H _ I h) fun us s1 ⟨vs,H1,I1,r,q⟩=>⟨I1.kIn,?_⟩) he hpl
 exact run_fn F hr hb hd hx I1 r q
theorem pe_meth {pl:Sem Bool}(he:PE X o ta)(c:Cls X.K C)(hm:Meth X.K C m f)(F:FnOk X.prog X.w X.K X.mg X.base CX k f fd ps sp)(hr:Room k X.A)(hb:Binds X.K fd ps ds)(hd:Vals dvs ds)(hx:Passes CX X E)(ha:PA X (e::es) t)
  (hst:starEach (e::es) X.env=(false,eval e X.env)::starEach es X.env:=by rfl) (hpl:(backTo pos (starEach es X.env)).any (·.1)=false:=by rfl)
  (ht:eval (.Call (.Attribute o m apos) (e::es) [] pos) X.env=(do
   let ov ←eval o X.env
   standAt apos.atName
   let (f,first) ←holding [ov] (getMethod ov m pl)
   callWith pos f first (backTo pos (starEach (e::es) X.env)) (backToKw pos (keywordEach [] X.env))):=by rfl) :
  PE X (.Call (.Attribute o m apos) (e::es) [] pos) (tMeth C m sp dvs E ta t):=by
 intro pins s σ H Q I h
 refine PySem.W.methodCall_KW (pl:=pl) (thn (he pins s σ H _ I h) fun u s1 ⟨x,H1,I1,rx,a,dx,fs,ex,ea,l,q⟩=>?_) ht
 subst ex
 obtain rfl:u=Value.ref a:=rx
 refine getmeth_ok I1 ea c hm l ?_
 refine PySem.W.callWith_K (first:=[.ref a]) (h₀:=X.base) I.ok.mod.kin hm.kp (thn (ha pos pins s1 σ H1 _ I1 q) fun us s2 ⟨vs,H2,I2,r,q2⟩=>⟨I2.kIn,?_⟩) hst hpl
 exact run_fn (us:=.ref a::us) (vs:=.ref a::vs) F hr hb hd hx I2 (.cons rfl r) q2
theorem pe_meth0 {pl:Sem Bool}(he:PE X o ta)(c:Cls X.K C)(hm:Meth X.K C m f)(F:FnOk X.prog X.w X.K X.mg X.base CX k f fd ps sp)(hr:Room k X.A)(hb:Binds X.K fd ps ds)(hd:Vals dvs ds)(hx:Passes CX X E)
  (ht:eval (.Call (.Attribute o m apos) [] [] pos) X.env=(do
   let ov ←eval o X.env
   standAt apos.atName
   let (f,first) ←holding [ov] (getMethod ov m pl)
   callWith pos f first (backTo pos (starEach [] X.env)) (backToKw pos (keywordEach [] X.env))):=by rfl) :
  PE X (.Call (.Attribute o m apos) [] [] pos) (tMeth C m sp dvs E ta tNil):=by
 intro pins s σ H Q I h
 refine PySem.W.methodCall_KW (pl:=pl) (thn (he pins s σ H _ I h) fun u s1 ⟨x,H1,I1,rx,a,dx,fs,ex,ea,l,q⟩=>?_) ht
 subst ex
 obtain rfl:u=Value.ref a:=rx
 refine getmeth_ok I1 ea c hm l ?_
 exact PySem.W.callWith_K0 (first:=[.ref a]) I1.kIn hm.kp (run_fn (us:=[.ref a]) (vs:=[.ref a]) F hr hb hd hx I1 (.cons rfl .nil) q)
structure Mk (K:PySem.W.Frag)(C f:Addr):Prop where
 makes:PySem.W.makesIn K C=true
 init:PySem.W.findIn K (.ref C) "__init__" = some (some (.ref f))
 fn:PySem.W.isFn K (.ref f)=true
 kp:PySem.W.keepIn K (.ref C)=true
theorem run_make {pins:List (Addr×Obj)}{σ:St}{H:Hp}{s:Shared}{Q:VK}{us:List Value}{vs:List V}(M:Mk X.K C f)(F:FnOk X.prog X.w X.K X.mg X.base CX k f fd ps sp)(hr:Room (k+1) X.A)(hb:Binds X.K fd ps ds)(hd:Vals dvs ds)
  (hx:Passes CX X E) (I:Inv X pins σ H s) (r:Vals vs us)
  (h:∀ x dx,H x=none→H dx=none→dx≠x→sp (.ref x::(vs++dvs)) (upd (upd H dx (.own x)) x (.ins C dx [])) (fun v H2=>v=.non∧Q (.ref x) H2) E) :
  wpAny (model X.prog X.w) X.A (call (.ref C) us) (EP X pins σ Q) X.xe s:=by
 have hq:=h (s.heap.objs.size+1) s.heap.objs.size (I.hok.fresh (Nat.le_succ _)) (I.hok.fresh (Nat.le_refl _)) (Nat.ne_of_lt (Nat.lt_succ_self _))
 have I2:=Inv.made (C:=C) I
 have r2:Vals (V.ref (s.heap.objs.size+1)::(vs++dvs)) (Value.ref (s.heap.objs.size+1)::(us++ds)):=.cons rfl (r.append hd)
 have hl:(Value.ref (s.heap.objs.size+1)::us++ds).length=ps.length:=by
  have e:=r2.length
  rw[F.len _ _ _ _ hq]at e
  exact e.symm
 refine wpAny_call (make_map (f:=f) I.kIn M.makes M.init (beq_iff_eq.mp M.fn) (codeAny_mono (F.run _ X.stack _ _ ⟨Value.ref (s.heap.objs.size+1)::us,[]⟩ (Value.ref (s.heap.objs.size+1)::(us++ds)) _ _ E (hr.make C us [])
  (I2.env0.make C us []) (hb _ (Value.ref (s.heap.objs.size+1)::us) I2.kIn hl) r2 hq) fun r s' hq'=>?_))
 cases r with
 | error e=>exact hx pins σ _ _ e s' I2 hq'
 | ok fl =>
  cases fl with
  | ret u =>
   obtain⟨v,H',I3,rv,ev,q3⟩:=I2.after hq'
   subst ev
   exact⟨rv,⟨V.ref (s.heap.objs.size+1),H',I3,rfl,q3⟩⟩
  | next=>exact False.elim hq'
  | brk=>exact False.elim hq'
  | cont=>exact False.elim hq'
theorem pe_make0 (M:Mk X.K C f)(F:FnOk X.prog X.w X.K X.mg X.base CX k f fd ps sp)(hr:Room (k+1) X.A)(hg:Gl X x)(hm:X.mg x=some (.ref C))(hb:Binds X.K fd ps ds)(hd:Vals dvs ds)(hx:Passes CX X E)
  (hdb:(x == ("__debug__" : Str))=false:=by decide):PE X (.Call (.Name x p) [] [] pos) (tMake C sp dvs E tNil):=by
 intro pins s σ H Q I h
 refine wpAny_Call_Name_kw (ld_glob I hg hm ?_ hdb)
 exact PySem.W.callWith_K0 I.kIn M.kp (run_make (us:=[]) M F hr hb hd hx I .nil h)
end
section
variable {X:Cx}{CX:CXT}{k:Nat}{f C:Addr}{fd:FuncData}{ps ks:List Str}{sp:Sp}{E:XK}{x m:Str}{p pos apos kpos:Pos}{e o:Expr}{es:List Expr}{kws:List Keyword}{te ta:TE}{t tk:TA}{nm:Option Str}
variable {g:List Value→List Value→List Value}{gV:List V→List V→List V}
end
structure FnScope (N P:List Str)(sc:Scope):Prop where
 kind:sc.kind=.function
 co:sc.isCoroutine=false
 gen:sc.isGenerator=false
 nd:N.Nodup
 pre:N.take P.length=P
 par:∀ x∈P,sc.names.lookup x=some .local∨sc.names.lookup x=some .cell
 nofree:∀ y∈sc.names,y.2≠.free
theorem bindL_out {kindOf:Str→Option NameKind}{x:Str}:∀ {binds:List (Str×Value)}{m:Str→Option Value},(∀ v,(x,v)∉binds)→bindL kindOf binds m x=m x
 | [],_,_=>rfl
 | (n,v)::r,m,h=>by
  unfold bindL
  rw[bindL_out fun w hw=>h w (List.mem_cons_of_mem _ hw)]
  split
  ·have:x≠n:=by rintro rfl;exact h v List.mem_cons_self
   simp[this]
  ·rfl
theorem bindC_out {kindOf:Str→Option NameKind}{x:Str}:∀ {binds:List (Str×Value)}{m:Str→Option Value},(∀ v,(x,v)∉binds)→bindC kindOf binds m x=m x
 | [],_,_=>rfl
 | (n,v)::r,m,h=>by
  unfold bindC
  rw[bindC_out fun w hw=>h w (List.mem_cons_of_mem _ hw)]
  split
  ·rfl
  ·have:x≠n:=by rintro rfl;exact h v List.mem_cons_self
   simp[this]
theorem bindL_get {kindOf:Str→Option NameKind}{x:Str}{v:Value}:∀ {P:List Str}{vs:List Value}{i:Nat}{m:Str→Option Value},P.Nodup→P[i]? = some x→vs[i]? = some v→kindOf x=some .local →
  bindL kindOf (P.zip vs) m x=some v
 | [],_,_,_,_,h,_,_=>by simp at h
 | _::_,[],_,_,_,_,h,_=>by simp at h
 | p::P,w::vs,0,m,nd,h1,h2,hk=>by
  simp at h1 h2;subst h1;subst h2
  show bindL kindOf ((p,w)::P.zip vs) m p=_
  unfold bindL
  rw[bindL_out fun v hv=>(List.nodup_cons.mp nd).1 (List.of_mem_zip hv).1,if_pos hk]
  simp
 | p::P,w::vs,i+1,m,nd,h1,h2,hk=>by
  show bindL kindOf ((p,w)::P.zip vs) m x=_
  unfold bindL
  exact bindL_get (i:=i) (List.nodup_cons.mp nd).2 (by simpa using h1) (by simpa using h2) hk
theorem bindC_get {kindOf:Str→Option NameKind}{x:Str}{v:Value}:∀ {P:List Str}{vs:List Value}{i:Nat}{m:Str→Option Value},P.Nodup→P[i]? = some x→vs[i]? = some v→kindOf x≠some .local →
  bindC kindOf (P.zip vs) m x=some v
 | [],_,_,_,_,h,_,_=>by simp at h
 | _::_,[],_,_,_,_,h,_=>by simp at h
 | p::P,w::vs,0,m,nd,h1,h2,hk=>by
  simp at h1 h2;subst h1;subst h2
  show bindC kindOf ((p,w)::P.zip vs) m p=_
  unfold bindC
  rw[bindC_out fun v hv=>(List.nodup_cons.mp nd).1 (List.of_mem_zip hv).1,if_neg hk]
  simp
 | p::P,w::vs,i+1,m,nd,h1,h2,hk=>by
  show bindC kindOf ((p,w)::P.zip vs) m x=_
  unfold bindC
  exact bindC_get (i:=i) (List.nodup_cons.mp nd).2 (by simpa using h1) (by simpa using h2) hk
def start (N:List Str)(vs:List V):St:=vs.map some++List.replicate (N.length-vs.length) none
def cxOf (CX:CXT)(P:Program)(w:World)(K:PySem.W.Frag)(mg:Str→Option Value)(base:Heap)(N:List Str)(qual:Str)(scope:Scope)(f:Addr)(cd:Value)(A:Around)(outer:List Env)(s:Shared)(H:Hp)(E:XK):Cx where
 prog:=P
 w:=w
 K:=K
 mg:=mg
 base:=base
 A:=A.deeper (envOfC qual scope s.heap.objs.size f cd)
 N:=N
 s₀:=s
 H₀:=H
 env:=envOfC qual scope s.heap.objs.size f cd
 outer:=outer
 stack:=envOfC qual scope s.heap.objs.size f cd::outer
 ex:=[]
 calm:=true
 fn:=fun _=>true
 pn:=[]
 xe:=fun e s'=>wpAny (model P w) (A.deeper (envOfC qual scope s.heap.objs.size f cd)) (leaving (envOfC qual scope s.heap.objs.size f cd) e) (fun _ s''=>CX outer H s E e s'') (fun e' s''=>CX outer H s E e' s'') s'
theorem cell_has {sc:Scope}{n:Nat}{x:Str}(h:sc.names.lookup x=some .cell):∃ c,(cellsFrom n sc.names []).lookup x=some c:=by
 have q:=PySem.W.cellsFrom_some sc.names n [] (.inl h)
 exact Option.isSome_iff_exists.mp q
theorem inv_start {CX:CXT}{P:Program}{w:World}{K:PySem.W.Frag}{mg:Str→Option Value}{base:Heap}{N ps:List Str}{qual:Str}{scope:Scope}{f:Addr}{cd:Value}{A:Around}{outer:List Env}{s s1:Shared}{H:Hp}{E:XK}{us:List Value}{vs:List V}
  (S:FnScope N ps scope) (hd:A.handled=none) (e0:Env0 P w K mg base A outer s H) (hl:vs.length=ps.length) (r:Vals vs us)
  (x:InCallC s s.heap.objs.size (bindL (envOfC qual scope s.heap.objs.size f cd).kindOf (ps.zip us) fun _=>none) (cellsFrom (s.heap.objs.size+1) scope.names []) (bindC (envOfC qual scope s.heap.objs.size f cd).kindOf (ps.zip us) fun _=>none) s1) :
  Inv (cxOf CX P w K mg base N qual scope f cd A outer s H E) [] (start N vs) H s1:=by
 have hpl:ps.length≤N.length:=by have:=congrArg List.length S.pre;rw[List.length_take]at this;omega
 obtain⟨h1,tk,rfl,hk⟩:=x.done
 have noA:∀ b:Addr,b∉(cxOf CX P w K mg base N qual scope f cd A outer s H E).ex:=fun b z=>absurd (show b∈([]:List Addr) from z) (by simp)
 refine⟨⟨e0.mod,S.kind,rfl,rfl,Nat.le_refl _,fun y z c h1 h2=>?_,fun y hy=>?_,fun y c _ h=>?_,fun _=>hd,Around.frames_deeper e0.frames,.inr ⟨rfl,rfl⟩,fun b z=>absurd z (noA b),e0.bs,e0.bsz,fun b _ _=>noA b,fun b z=>absurd z (noA b),e0.funs,e0.frf⟩,
  rfl,e0.bare,Un.kept hk,⟨_,x.toInCall.ns,fun i y v h1 h2 h3=>?_⟩,fun y c h=>⟨_,x.cell y c h⟩,e0.hok.fresh (Nat.le_refl _),fun y c h=>?_,fun p hp=>absurd (show p∈([]:List (Addr×Obj)) from hp) (by simp),e0.hok.kept hk,?_⟩
 ·exact name_of_addr x.apart (PySem.mem_of_lookup h1) (PySem.mem_of_lookup h2)
 ·have hy:scope.names.lookup y=some .cell∨scope.names.lookup y=some .free:=hy
  rcases hy with hy | hy
  ·exact cell_has hy
  ·exact absurd rfl (S.nofree _ (PySem.mem_of_lookup hy))
 ·exact Nat.le_of_lt (x.above y c (PySem.mem_of_lookup h))
 ·have hi:i<vs.length:=by
   unfold start at h2
   by_cases hi:i<vs.length
   ·exact hi
   ·rw[List.getElem?_append_right (by simpa using hi)]at h2
    rw[List.getElem?_replicate]at h2
    split at h2<;>cases h2
  have ha:vs[i]? = some v:=by
   unfold start at h2
   rw[List.getElem?_append_left (by simpa using hi),List.getElem?_map]at h2
   cases e:vs[i]? with
   | none=>rw[e]at h2;cases h2
   | some a=>rw[e]at h2;cases h2;rfl
  obtain⟨u,hu,rv⟩:=r.get ha
  have hp:ps[i]? = some y:=by
   rw[←S.pre,List.getElem?_take_of_lt (by omega)];exact h1
  have ndP:ps.Nodup:=by rw[←S.pre];exact S.nd.sublist (List.take_sublist _ _)
  refine⟨u,rv,?_⟩
  rcases S.par y (List.mem_of_getElem? hp) with k | k
  ·exact .inl ⟨k,bindL_get ndP hp hu k⟩
  ·obtain⟨c,e⟩:=cell_has (n:=s.heap.objs.size+1) k
   refine .inr ⟨.inl k,c,e,?_⟩
   have q:=x.cell y c e
   rw[bindC_get ndP hp hu (by show scope.names.lookup y≠_;rw[k];decide)]at q
   exact q
 ·exact e0.hok.fresh (Nat.le_of_lt (x.above y c (PySem.mem_of_lookup h)))
 ·unfold start
  show _=N.length
  rw[List.length_append,List.length_map,List.length_replicate]
  omega
theorem fn_of {CX:CXT}{P:Program}{w:World}{K:PySem.W.Frag}{mg:Str→Option Value}{base:Heap}{k:Nat}{f:Addr}{name qual:Str}{params:Arguments}{body:List Stmt}{scope:Scope}{dV kV doc pm cdv ct oc:Value}{an od:Option Addr}
  {osl:Array (Option Value)} {N ps:List Str} {sp:Sp} (lk:K.lookup f=some ⟨oc,od,.func (PySem.W.fnOf name qual params body scope dV kV doc pm an cdv ct),osl⟩) (hcd:PySem.W.codeIn K cdv qual=true) (S:FnScope N ps scope)
  (len:∀ vs H Q E,sp vs H Q E→vs.length=ps.length)
  (hbody:∀ (A:Around)(outer:List Env)(s:Shared)(H:Hp)(vs:List V)(Q:VK)(E:XK),Room k (A.deeper (envOfC qual scope s.heap.objs.size f cdv))→sp vs H Q E →
   ∃ t,PSs (cxOf CX P w K mg base N qual scope f cdv A outer s H E) body t∧t { nx:=fun _ H'=>Q .non H',rt:=Q } (start N vs) H) :
  FnOk P w K mg base CX (k+1) f (PySem.W.fnOf name qual params body scope dV kV doc pm an cdv ct) ps sp:=by
 refine⟨len,fun A outer s H args us vs Q E hr e0 hb r hsp=>?_⟩
 have hl:=len _ _ _ _ hsp
 have KX:K.In s.heap:=e0.mod.kin.keeps fun b o e=>(e0.bs b o e).1
 have lim:s.heap.NoLimit:=e0.mod.nolimit.keeps fun b o e=>(e0.bs b o e).1
 have hkind:∀ y∈ps.zip us,scope.names.lookup y.1=some .local∨(scope.names.lookup y.1=some .cell∧((cellsFrom (s.heap.objs.size+1) scope.names []).lookup y.1).isSome=true):=fun ⟨n,v⟩ hy=>by
  rcases S.par n (List.of_mem_zip hy).1 with q | q
  ·exact .inl q
  ·exact .inr ⟨q,PySem.W.cellsFrom_some _ _ _ (.inl q)⟩
 refine codeAny_call_function hr.depth (KX _ _ lk) rfl S.co S.gen rfl (PySem.W.codeRec_of KX hcd) (hb _ _ _ _ ?_)
 refine wpAny_newFunctionEnv_cells S.kind hkind fun env he s1 x=>?_
 subst he
 refine⟨lim.keeps x.toInCall.keep,codeAny_func ?_⟩
 obtain⟨t,ht,hq⟩:=hbody A outer s H vs Q E (hr.deeper _) hsp
 have I:Inv (cxOf CX P w K mg base N qual scope f cdv A outer s H E) [] (start N vs) H s1:=inv_start S hr.hd e0 hl r x
 refine wpAny_mono (ht [] s1 (start N vs) H _ I hq) (fun fl s' hs=>?_) fun e s' hs=>hs
 have fin:∀ {σ':St}{H':Hp}{v:V}{u:Value},Inv (cxOf CX P w K mg base N qual scope f cdv A outer s H E) [] σ' H' s'→RelV v u→Q v H'→CE outer P w H s Q u s' :=
  fun {σ' H' v u} J rv q=>⟨v,H',J.os,J.bare,J.base,J.hok,rv,q⟩
 cases fl with
 | ret u =>
  obtain⟨v,σ',H',J,rv,q⟩:=hs
  exact fin J rv q
 | next =>
  obtain⟨σ',H',J,q⟩:=hs
  exact fin (v:=V.non) (u:=Value.none) J rfl q
 | brk =>
  obtain⟨_,_,_,q⟩:=hs
  exact False.elim q
 | cont =>
  obtain⟨_,_,_,q⟩:=hs
  exact False.elim q
end L2
namespace L2
open PySem PySem.Spec PyProof.Rows
section
variable {X:Cx}{x:Str}{p pos:Pos}{e:Expr}{es:List Expr}{t:TA}{id T:String}{r:List V→Hp→VK→Prop}
def tCB (r:List V→Hp→VK→Prop)(t:TA):TE:=fun σ H Q=>t σ H fun vs H1=>r vs H1 Q
theorem pe_callB (hc:CallR X (.builtin id) r)(hg:Gl X x)(hm:X.mg x=none)(hv:bootBuiltins x=some (.builtin id))(ha:PA X (e::es) t)(hn:x≠"__name__":=by decide)(hdb:(x == ("__debug__" : Str))=false:=by decide)
  (he:starEach (e::es) X.env=(false,eval e X.env)::starEach es X.env:=by rfl) (hpl:(backTo pos (starEach es X.env)).any (·.1)=false:=by rfl):PE X (.Call (.Name x p) (e::es) [] pos) (tCB r t):=by
 intro pins s σ H Q I h
 refine wpAny_Call_Name_kw (ld_blt I hg hm hv ?_ hn hdb)
 exact PyProof.Rows.callWith_builtin1 (thn (ha pos pins s σ H _ I h) fun us s1 ⟨vs,H1,I1,r1,q1⟩=>hc pins s1 σ H1 vs us Q I1 r1 q1) he hpl
theorem pe_callTy (hc:CallR X (.type T) r)(hg:Gl X x)(hm:X.mg x=none)(hv:bootBuiltins x=some (.type T))(ha:PA X (e::es) t)(hn:x≠"__name__":=by decide)(hdb:(x == ("__debug__" : Str))=false:=by decide)
  (he:starEach (e::es) X.env=(false,eval e X.env)::starEach es X.env:=by rfl) (hpl:(backTo pos (starEach es X.env)).any (·.1)=false:=by rfl):PE X (.Call (.Name x p) (e::es) [] pos) (tCB r t):=by
 intro pins s σ H Q I h
 refine wpAny_Call_Name_kw (ld_blt I hg hm hv ?_ hn hdb)
 exact PyProof.Rows.callWith_type1 (thn (ha pos pins s σ H _ I h) fun us s1 ⟨vs,H1,I1,r1,q1⟩=>hc pins s1 σ H1 vs us Q I1 r1 q1) he hpl
theorem pe_callTy0 (hc:CallR X (.type T) r)(hg:Gl X x)(hm:X.mg x=none)(hv:bootBuiltins x=some (.type T))(hn:x≠"__name__":=by decide)(hdb:(x == ("__debug__" : Str))=false:=by decide) :
  PE X (.Call (.Name x p) [] [] pos) (tCB r tNil):=by
 intro pins s σ H Q I h
 refine wpAny_Call_Name_kw (ld_blt I hg hm hv ?_ hn hdb)
 exact PyProof.Rows.callWith_type0 (hc pins s σ H [] [] Q I .nil h)
end
end L2
namespace HT
open PySem PyProof.Rows
section
open PySem.SeqAt
open PySem.AutoSeq1 (wpAny_loadPart')
open PySem.MeetsSeq PySem.MeetsSeq2 PySem.MeetsSeq3
end
section
variable {prog:Program}{w:World}{A:Around}{E:Value→Shared→Prop}{s:Shared}
def sIx (n d:Nat):Option Int→Nat
 | none=>d
 | some v=>if v<0 then (v+(n:Int)).toNat else min v.toNat n
theorem sIx_le (n d:Nat)(hd:d≤n)(o:Option Int):sIx n d o≤n:=by
 cases o with
 | none=>exact hd
 | some v =>
  show (if v<0 then (v+(n:Int)).toNat else min v.toNat n)≤n
  by_cases hv:v<0
  ·rw[if_pos hv];omega
  ·rw[if_neg hv];exact Nat.min_le_right _ _
theorem clip_eq (v:Int)(n d:Nat):(if v<0 then max (v+(n:Int)) 0 else min v (n:Int))=((sIx n d (some v):Nat):Int):=by
 show (if v<0 then max (v+(n:Int)) 0 else min v (n:Int))=(((if v<0 then (v+(n:Int)).toNat else min v.toNat n):Nat):Int)
 by_cases hv:v<0
 ·simp only[if_pos hv];omega
 ·simp only[if_neg hv];omega
theorem adjust_gen (lo hi:Option Int)(n:Nat):Builtin.Slice.sliceAdjust lo hi 1 (n:Int)=(((sIx n 0 lo:Nat):Int),((sIx n n hi:Nat):Int)):=by
 have h1:¬ ((1:Int)<0):=by omega
 unfold Builtin.Slice.sliceAdjust
 simp only[h1,if_false]
 refine Prod.ext ?_ ?_
 ·cases lo with
  | none=>rfl
  | some v=>exact clip_eq v n 0
 ·cases hi with
  | none=>rfl
  | some v=>exact clip_eq v n n
theorem places_gen (i j:Nat):Builtin.Slice.slicePlaces (i:Int) (j:Int) 1=j-i:=by
 unfold Builtin.Slice.slicePlaces
 have h1:(1:Int)>0:=by omega
 simp only[h1,if_true,Int.ediv_one]
 split<;>omega
theorem slicePart_ {v:Value}{o:Option Int}{Q:Option Int→Shared→Prop}(p:IsPart v o)(h:Q o s):wpAny (model prog w) A (Builtin.Slice.slicePartIndex v) Q E s:=by
 cases p with
 | none=>exact slicePart_none h
 | int i t=>exact slicePart_int h
theorem sliceApplied_gen {sl:Addr}{vl vu:Value}{lo hi:Option Int}{n:Nat}{Q:Int×Int×Nat→Shared→Prop}(hs:s.heap.IsSliceOf sl vl vu .none)(pl:IsPart vl lo)(pu:IsPart vu hi)
  (h:Q (((sIx n 0 lo:Nat):Int),1,sIx n n hi-sIx n 0 lo) s):wpAny (model prog w) A (Builtin.Slice.sliceApplied (.ref sl) (pure (n:Int))) Q E s:=by
 obtain⟨os,hos,hcs,hds⟩:=id hs
 unfold Builtin.Slice.sliceApplied Builtin.Slice.sliceFields
 refine wpAny_bind (wpAny_bind (wpAny_field hos hds (x:=vl) rfl (wpAny_bind (wpAny_field hos hds (x:=vu) rfl (wpAny_bind (wpAny_field hos hds (x:=.none) rfl (wpAny_pure ?_)))))))
 refine wpAny_bind (slicePart_none ?_)
 show wpAny _ _ (if ((1:Int) == 0)=true then _ else _) _ _ s
 rw[if_neg (by decide)]
 refine wpAny_bind (slicePart_ pl (wpAny_bind (slicePart_ pu (wpAny_bind (wpAny_pure ?_)))))
 show wpAny _ _ (match Builtin.Slice.sliceAdjust lo hi 1 (n:Int) with | (lo,hi)=>pure (lo,(1:Int),Builtin.Slice.slicePlaces lo hi 1)) _ _ s
 rw[adjust_gen lo hi n]
 show wpAny _ _ (pure (((sIx n 0 lo:Nat):Int),(1:Int),Builtin.Slice.slicePlaces ((sIx n 0 lo:Nat):Int) ((sIx n n hi:Nat):Int) 1)) _ _ s
 rw[places_gen]
 exact wpAny_pure h
theorem pick_gen (xs:Array Value)(i k:Nat):((List.range k).filterMap fun (m:Nat)=>xs[((i:Int)+(m:Int)*1).toNat]?).toArray=((xs.toList.drop i).take k).toArray:=by
 have e:(fun (m:Nat)=>xs[((i:Int)+(m:Int)*1).toNat]?)=fun m=>xs[i+m]?:=by
  funext m
  have:((i:Int)+(m:Int)*1).toNat=i+m:=by omega
  rw[this]
 rw[e]
 have:=pick_run xs i k
 rw[List.filterMap_map]at this
 have e2:((fun x=>xs[x]?) ∘ fun x=>i+x)=fun m=>xs[i+m]?:=rfl
 rw[e2]at this
 rw[this]
theorem getItem_tuple_cut {t sl:Addr}{items:Array Value}{vl vu:Value}{lo hi:Option Int}{Q:Value→Shared→Prop}(ht:IsTup s.heap t items)(hs:s.heap.IsSliceOf sl vl vu .none)(pl:IsPart vl lo)(pu:IsPart vu hi)
  (hw:¬ (sIx items.size 0 lo=0∧sIx items.size items.size hi=items.size))
  (h:Q (.ref s.heap.objs.size) { s with heap:=s.heap.push { cls:=.type "tuple",data:=.seq ((items.toList.drop (sIx items.size 0 lo)).take (sIx items.size items.size hi-sIx items.size 0 lo)).toArray } })
  (hsz:items.size≤sizeLine):wpAny (model prog w) A (getItem (.ref t) (.ref sl)) Q E s:=by
 have htake:sizeOk (.seq ((items.toList.drop (sIx items.size 0 lo)).take (sIx items.size items.size hi-sIx items.size 0 lo)).toArray):=by
  show ((items.toList.drop (sIx items.size 0 lo)).take (sIx items.size items.size hi-sIx items.size 0 lo)).toArray.size≤sizeLine
  rw[List.size_toArray,List.length_take,List.length_drop,Array.length_toList]
  omega
 have hj:sIx items.size items.size hi≤items.size:=sIx_le _ _ (Nat.le_refl _) hi
 obtain⟨os,hos,hcs,hds⟩:=id hs
 have hTs:s.TypeIs (.ref sl) "slice":=⟨os,hos,hcs⟩
 unfold getItem
 try with_reducible refine wpAny_holding ?_
 first | refine wpAny_bind (wpAny_pure ?_) | skip
 refine wpAny_bind (wpAny_sequenceKey ht.typeIs (by decide) ?_)
 refine wpAny_bind (wpAny_callSpecial?_slot (name:=Str.ofString "__getitem__") ht.typeIs PyProof.Rows.slot_tuple_getitem
  (wpAny_call_entry PyProof.Rows.slot_tuple_getitem ht.typeIs entry_tuple_getitem ?_ (args_tuple_getitem _ _)))
 show wpAny _ _ (Builtin.Tuple.tupleItemsOf (.ref t) >>= _) _ _ s
 refine wpAny_bind (tupleItemsOf_ ht ?_)
 refine wpAny_bind (wpAny_typeOf hTs ?_)
 rw[if_pos (by decide)]
 refine wpAny_bind (sliceApplied_gen hs pl pu ?_)
 have hno:¬ ((((sIx items.size 0 lo:Nat):Int) == 0&&(1:Int) == 1&&(sIx items.size items.size hi-sIx items.size 0 lo) == items.size)=true):=by
  intro q
  rw[Bool.and_eq_true,Bool.and_eq_true]at q
  have q1:((sIx items.size 0 lo:Nat):Int)=0:=eq_of_beq q.1.1
  have q2:sIx items.size items.size hi-sIx items.size 0 lo=items.size:=eq_of_beq q.2
  exact hw ⟨by omega,by omega⟩
 show wpAny _ _ (if (((sIx items.size 0 lo:Nat):Int) == 0&&(1:Int) == 1&&(sIx items.size items.size hi-sIx items.size 0 lo) == items.size)=true then _ else _) _ _ s
 rw[if_neg hno,pick_gen]
 first
  | exact wpAny_bind (m:=Builtin.Tuple.tupleExact _) (wpAny_newObj_type (wpAny_pure ⟨_,rfl,wpAny_pure h⟩) htake)
  | exact wpAny_bind (m:=Builtin.Tuple.tupleExact _) (wpAny_newObj_type (wpAny_bind (wpAny_pure (wpAny_pure ⟨_,rfl,wpAny_pure h⟩))) htake)
  | exact wpAny_bind (wpAny_bind (m:=Builtin.Tuple.tupleExact _) (wpAny_newObj_type (wpAny_pure (wpAny_pure ⟨_,rfl,wpAny_pure h⟩)) htake))
  | exact wpAny_bind (wpAny_bind (m:=Builtin.Tuple.tupleExact _) (wpAny_newObj_type (wpAny_pure ⟨_,rfl,wpAny_pure h⟩) htake))
end
end HT
namespace L2
open PySem PySem.Spec PyProof.Rows
abbrev TO:=St→Hp→(Option Int→Hp→Prop)→Prop
def PO (X:Cx)(e:Option Expr)(t:TO):Prop :=
 ∀ (pins:List (Addr×Obj))(s:Shared)(σ:St)(H:Hp)(Q:Option Int→Hp→Prop),Inv X pins σ H s→t σ H Q →
  wpAny (model X.prog X.w) X.A (evalPart e X.env) (fun u s'=>∃ o H',Inv X pins σ H' s'∧IsPart u o∧Q o H') X.xe s
def tNoPart:TO:=fun _ H Q=>Q none H
def tPart (t:TE):TO:=fun σ H Q=>t σ H fun x H1=>∃ i,x=.int i∧Q (some i) H1
section
variable {X:Cx}{e:Expr}{te:TE}{lo hi:Option Expr}{tl th:TO}{pos p2:Pos}
theorem po_none:PO X none tNoPart:=by
 intro pins s σ H Q I h
 rw[evalPart_none]
 exact wpAny_pure ⟨none,H,I,.none,h⟩
theorem po_some (h:PE X e te):PO X (some e) (tPart te):=by
 intro pins s σ H Q I hw
 rw[evalPart_some]
 refine thn (h pins s σ H _ I hw) fun u s1 ⟨x,H1,I1,r1,q1⟩=>?_
 obtain⟨i,rfl,q⟩:=q1
 obtain⟨t,rfl⟩:=r1
 exact⟨some i,H1,I1,.int i t,q⟩
def SlR (X:Cx)(r:V→Option Int→Option Int→Hp→VK→Prop):Prop :=
 ∀ (pins:List (Addr×Obj))(s:Shared)(σ:St)(H:Hp)(x:V)(v vl vu:Value)(lo hi:Option Int)(sl:Addr)(Q:VK),Inv X pins σ H s→RelV x v→s.heap.IsSliceOf sl vl vu .none→IsPart vl lo→IsPart vu hi→r x lo hi H Q →
  ∃ T id,typeLookup (.type T) "__getitem__" = pure (some (.builtin id))∧s.TypeIs v T∧wpAny (model X.prog X.w) X.A (getItem v (.ref sl)) (EP X pins σ Q) X.xe s
def tSl (r:V→Option Int→Option Int→Hp→VK→Prop)(te:TE)(tl th:TO):TE:=fun σ H Q=>te σ H fun x H1=>tl σ H1 fun l H2=>th σ H2 fun u H3=>r x l u H3 Q
theorem pe_slice {r:V→Option Int→Option Int→Hp→VK→Prop}(hr:SlR X r)(he:PE X e te)(hl:PO X lo tl)(hu:PO X hi th):PE X (.Subscript e (.Slice lo hi none p2) pos) (tSl r te tl th):=by
 intro pins s σ H Q I h
 refine Subscript_ (thn (he pins s σ H _ I h) fun v s1 ⟨x,H1,I1,r1,q1⟩=>?_)
 refine wpAny_Slice (thn (hl pins s1 σ H1 _ I1 q1) fun vl s2 ⟨l,H2,I2,pl,q2⟩=>thn (hu pins s2 σ H2 _ I2 q2) fun vu s3 ⟨u,H3,I3,pu,q3⟩=>?_)
 rw[evalPart_none]
 refine wpAny_pure ?_
 have I4:Inv X pins σ H3 { s3 with heap:=s3.heap.push { cls:=.type "slice",data:=.fields #[vl,vu,.none] } }:=I3.kept (t':=s3.toks) fun b ob q=>Heap.get?_push_of_some _ q
 obtain⟨T,id,hT,ht,hg⟩:=hr pins { s3 with heap:=s3.heap.push { cls:=.type "slice",data:=.fields #[vl,vu,.none] } } σ H3 x v vl vu l u s3.heap.objs.size Q I4 r1 (Heap.IsSliceOf.new ..) pl pu q3
 show wpAny (model X.prog X.w) X.A (subscriptTail e (.Slice lo hi none p2) v (.ref s3.heap.objs.size)) (EP X pins σ Q) X.xe { s3 with heap:=s3.heap.push { cls:=.type "slice",data:=.fields #[vl,vu,.none] } }
 exact tail_any (ops:=[.ref s3.heap.objs.size,v]) ht hT hg (by with_unfolding_all rfl)
def cutV (xs:List V)(lo hi:Option Int):List V:=(xs.drop (HT.sIx xs.length 0 lo)).take (HT.sIx xs.length xs.length hi-HT.sIx xs.length 0 lo)
theorem cutV_length (xs:List V)(lo hi:Option Int):(cutV xs lo hi).length≤xs.length:=by
 unfold cutV
 rw[List.length_take,List.length_drop]
 omega
def rSlT (K:PySem.W.Frag):V→Option Int→Option Int→Hp→VK→Prop:=fun x lo hi H Q=>∃ a xs,x=.ref a∧SqT K H a xs ∧
 ¬ (HT.sIx xs.length 0 lo=0∧HT.sIx xs.length xs.length hi=xs.length)∧∀ p,H p=none→Q (.ref p) (upd H p (.tup (cutV xs lo hi)))
theorem sl_tup:SlR X (rSlT X.K):=by
 intro pins s σ H x v vl vu lo hi sl Q I rx hs pl pu h
 obtain⟨a,xs,rfl,hx,hw,q⟩:=h
 cases rx
 obtain⟨its,r,ht,hz⟩:=I.tuple hx
 have hlen:its.toArray.size=xs.length:=by rw[List.size_toArray];exact r.length.symm
 refine⟨"tuple",_,PyProof.Rows.slot_tuple_getitem.lookup,ht.typeIs,?_⟩
 refine HT.getItem_tuple_cut ht hs pl pu (by rw[hlen];exact hw) ?_ (by rw[hlen];exact hz)
 rw[hlen]
 refine⟨.ref s.heap.objs.size,_,I.laid (t':=s.toks) (o:=.tup (cutV xs lo hi)) (fun b ob q=>Heap.get?_push_of_some _ q) (Nat.le_refl _) ?_,rfl,q _ (I.hok.fresh (Nat.le_refl _))⟩
 exact⟨Nat.le_trans (cutV_length xs lo hi) hz,_,(r.drop (HT.sIx xs.length 0 lo)).take (HT.sIx xs.length xs.length hi-HT.sIx xs.length 0 lo),IsTup.new _ _⟩
end
end L2
namespace L2
open PySem PySem.Spec PyProof.Rows
def ixN (n:Nat)(i:Int):Option Nat:=if 0≤i then (if i<n then some i.toNat else none) else if -(n:Int)≤i then some (i+n).toNat else none
def atI {α:Type}(xs:List α)(i:Int):Option α:=(ixN xs.length i).bind fun j=>xs[j]?
theorem ixN_seq {n:Nat}{i:Int}{j:Nat}(h:ixN n i=some j):seqIndex? i n=some j∧j<n∧-(n:Int)≤i∧i<n:=by
 unfold ixN at h
 by_cases h0:0≤i
 ·rw[if_pos h0]at h
  by_cases h1:i<n
  ·rw[if_pos h1]at h
   have e:i.toNat=j:=Option.some.inj h
   exact⟨by rw[seqIndex_of h0 h1,e],by omega,by omega,h1⟩
  ·rw[if_neg h1]at h;cases h
 ·rw[if_neg h0]at h
  by_cases h1 : -(n:Int)≤i
  ·rw[if_pos h1]at h
   have e:(i+n).toNat=j:=Option.some.inj h
   exact⟨by rw[seqIndex_neg (by omega) h1,e],by omega,h1,by omega⟩
  ·rw[if_neg h1]at h;cases h
theorem atI_get {α:Type}{xs:List α}{i:Int}{v:α}(h:atI xs i=some v):∃ j,seqIndex? i xs.length=some j∧xs[j]? = some v∧j<xs.length∧-(xs.length:Int)≤i∧i<xs.length:=by
 unfold atI at h
 cases e:ixN xs.length i with
 | none=>rw[e]at h;cases h
 | some j =>
  rw[e]at h
  obtain⟨h1,h2,h3,h4⟩:=ixN_seq e
  exact⟨j,h1,h,h2,h3,h4⟩
theorem atI_nat {α:Type}{xs:List α}{j:Nat}{v:α}(h:xs[j]? = some v):atI xs (j:Int)=some v:=by
 have hj:j<xs.length:=(List.getElem?_eq_some_iff.mp h).1
 have e:ixN xs.length (j:Int)=some j:=by
  unfold ixN
  rw[if_pos (by omega),if_pos (by omega)];simp
 unfold atI;rw[e];exact h
theorem atI_last {α:Type}(xs:List α)(v:α):atI (xs++[v]) (-1)=some v:=by
 have hl:(xs++[v]).length=xs.length+1:=by simp
 have e:ixN (xs++[v]).length (-1)=some xs.length:=by
  unfold ixN
  rw[hl,if_neg (by decide),if_pos (by omega)]
  congr 1
  omega
 unfold atI
 rw[e]
 show (xs++[v])[xs.length]? = some v
 simp
def PlainIx (b:Expr):Prop:=∀ o i,subscripted b false o i=operate [o,i] (getItem o i)
def IxR (X:Cx)(r:R2):Prop :=
 ∀ (value slice:Expr)(pins:List (Addr×Obj))(s:Shared)(σ:St)(H:Hp)(x y:V)(v u:Value)(Q:VK),Inv X pins σ H s→RelV x v→RelV y u→r x y H Q →
  subscripted slice false v u=operate [v,u] (getItem v u)→wpAny (model X.prog X.w) X.A (subscriptTail value slice v u) (EP X pins σ Q) X.xe s
def MtR (X:Cx)(id:String)(r:V→List V→Hp→VK→Prop):Prop :=
 ∀ (pins:List (Addr×Obj))(s:Shared)(σ:St)(H:Hp)(x:V)(xs:List V)(v:Value)(us:List Value)(Q:VK),Inv X pins σ H s→RelV x v→Vals xs us→r x xs H Q →
  wpAny (model X.prog X.w) X.A (call (.builtin id) (v::us)) (EP X pins σ Q) X.xe s
section
variable {X:Cx}{a b:Expr}{ta tb:TE}{pos:Pos}
theorem pe_ix {r:R2}(hr:IxR X r)(ha:PE X a ta)(hb:PE X b tb)(hs:PlainIx b):PE X (.Subscript a b pos) (tOp r ta tb):=by
 intro pins s σ H Q I h
 exact Subscript_ (binT ha hb I h fun v u s2 x y H2 I2 rx ry q=>hr a b pins s2 σ H2 x y v u Q I2 rx ry q (hs _ _))
def rIxL (K:PySem.W.Frag):R2:=fun x y H Q=>∃ p xs i v,x=.ref p∧y=.int i∧SqL K H p xs∧atI xs i=some v∧Q v H
def rIxT (K:PySem.W.Frag):R2:=fun x y H Q=>∃ p xs i v,x=.ref p∧y=.int i∧SqT K H p xs∧atI xs i=some v∧Q v H
theorem ix_list:IxR X (rIxL X.K):=by
 intro value slice pins s σ H x y v u Q I rx ry h hs
 obtain⟨p,xs,i,z,rfl,rfl,hq,he,q⟩:=h
 cases rx
 obtain⟨t,rfl⟩:=ry
 obtain⟨its,r,pl,hz⟩:=I.list hq
 obtain⟨j,h1,h2,h3,h4,h5⟩:=atI_get he
 obtain⟨w,ew,rw'⟩:=r.get h2
 have hl:=r.length
 have hn:=line63
 have fin:EP X pins σ Q w s:=⟨z,H,I,rw',q⟩
 by_cases h0:0≤i
 ·have hj:i.toNat=j:=by
   rw[seqIndex_of h0 h5]at h1
   exact Option.some.inj h1
  exact item_listR pl.isList h0 (by omega) (by rw[hj];simpa using ew) fin hs
 ·have hj:(i+(its.toArray.size:Int)).toNat=j:=by
   rw[seqIndex_neg (by omega) h4]at h1
   rw[List.size_toArray,←hl]
   exact Option.some.inj h1
  exact subscriptTail_builtinR (x:=w) pl.isList.typeIs slot_list_getitem.lookup
   (wpAny_getItem_list_neg (Q:=fun r s'=>r=w∧EP X pins σ Q r s') pl.isList (by omega) (by rw[List.size_toArray]<;>omega) (by omega) (by rw[hj];simpa using ew) ⟨rfl,fin⟩) hs
theorem ix_tup:IxR X (rIxT X.K):=by
 intro value slice pins s σ H x y v u Q I rx ry h hs
 obtain⟨p,xs,i,z,rfl,rfl,hq,he,q⟩:=h
 cases rx
 obtain⟨t,rfl⟩:=ry
 obtain⟨its,r,pl,hz⟩:=I.tuple hq
 obtain⟨j,h1,h2,h3,h4,h5⟩:=atI_get he
 obtain⟨w,ew,rw'⟩:=r.get h2
 have hl:=r.length
 have hn:=line63
 have fin:EP X pins σ Q w s:=⟨z,H,I,rw',q⟩
 exact subscriptTail_builtinR (x:=w) pl.typeIs slot_tuple_getitem.lookup
  (getItem_tuple (j:=j) (Q:=fun r s'=>r=w∧EP X pins σ Q r s') pl (by omega) (by omega) (by rw[List.size_toArray,←hl];exact h1) (by simpa using ew) ⟨rfl,fin⟩) hs
theorem slice_bounds (lo hi:Option Int)(n:Nat):(sliceBounds lo hi none n).1=((HT.sIx n 0 lo:Nat):Int)∧(sliceBounds lo hi none n).2.1=((HT.sIx n n hi:Nat):Int)∧(sliceBounds lo hi none n).2.2=1:=by
 refine⟨?_,?_,rfl⟩
 ·cases lo with
  | none=>simp[sliceBounds,HT.sIx]
  | some i =>
   simp only[sliceBounds,HT.sIx,Option.getD_none,show (1:Int)>0 by decide,if_true]
   by_cases h:i<0
   ·simp only[h,if_true]<;>omega
   ·simp only[h,if_false]<;>omega
 ·cases hi with
  | none=>simp[sliceBounds,HT.sIx]
  | some i =>
   simp only[sliceBounds,HT.sIx,Option.getD_none,show (1:Int)>0 by decide,if_true]
   by_cases h:i<0
   ·simp only[h,if_true]<;>omega
   ·simp only[h,if_false]<;>omega
theorem slicePick_cut (its:List Value)(lo hi:Option Int):slicePick its.toArray lo hi none=((its.drop (HT.sIx its.length 0 lo)).take (HT.sIx its.length its.length hi-HT.sIx its.length 0 lo)).toArray:=by
 obtain⟨h1,h2,h3⟩:=slice_bounds lo hi its.toArray.size
 unfold slicePick
 rw[h1,h2,h3]
 simp only[sliceRange_one,pick_run,List.size_toArray]<;>rfl
def rSlL (K:PySem.W.Frag):V→Option Int→Option Int→Hp→VK→Prop:=fun x lo hi H Q=>∃ a xs,x=.ref a∧SqL K H a xs∧∀ p,H p=none→Q (.ref p) (upd H p (.lst (cutV xs lo hi)))
theorem sl_list:SlR X (rSlL X.K):=by
 intro pins s σ H x v vl vu lo hi sl Q I rx hs pl pu h
 obtain⟨a,xs,rfl,hx,q⟩:=h
 cases rx
 obtain⟨its,r,ht,hz⟩:=I.list hx
 have hlen:=r.length
 refine⟨"list",_,slot_list_getitem.lookup,ht.isList.typeIs,?_⟩
 refine wpAny_getItem_list_slice ht.isList hs pl pu .none (by simp) ?_ (by rw[List.size_toArray]<;>omega)
 rw[slicePick_cut,←hlen]
 refine⟨.ref s.heap.objs.size,_,I.laid (t':=s.toks) (o:=.lst (cutV xs lo hi)) (fun b ob q=>Heap.get?_push_of_some _ q) (Nat.le_refl _) ?_,rfl,q _ (I.hok.fresh (Nat.le_refl _))⟩
 exact⟨Nat.le_trans (cutV_length xs lo hi) hz,_,0,(r.drop (HT.sIx xs.length 0 lo)).take (HT.sIx xs.length xs.length hi-HT.sIx xs.length 0 lo),Heap.get?_push_size _ rfl⟩
def flatV:V→Bool
 | .non=>true
 | .bl _=>true
 | .int _=>true
 | .str _=>true
 | _=>false
def eqV:V→V→Bool
 | .non,.non=>true
 | .bl a,.bl b=>a == b
 | .bl a,.int b=>(if a then 1 else 0) == b
 | .int a,.bl b=>a == (if b then 1 else 0)
 | .int a,.int b=>a == b
 | .str a,.str b=>a == b
 | _,_=>false
theorem eqAt_V {A:Around}{s:Shared}{y x:V}{u v:Value}(ry:RelV y u)(rx:RelV x v)(fy:flatV y=true)(fx:flatV x=true):SeqAt.EqAt A s u v (eqV y x):=by
 cases y with
 | non =>
  cases ry
  cases x with
  | non=>cases rx;exact SeqAt.EqAt.same _
  | bl b=>cases rx;exact SeqAt.EqAt.none_bool b
  | int b=>obtain⟨t,rfl⟩:=rx;exact SeqAt.EqAt.none_int b t
  | str b=>obtain⟨t,rfl⟩:=rx;exact SeqAt.EqAt.none_str b t
  | _=>exact absurd (show false=true from fx) Bool.false_ne_true
 | bl a =>
  cases ry
  cases x with
  | non=>cases rx;exact SeqAt.EqAt.bool_none a
  | bl b=>cases rx;exact SeqAt.EqAt.bool_bool a b
  | int b=>obtain⟨t,rfl⟩:=rx;exact SeqAt.EqAt.bool_int a b t
  | str b=>obtain⟨t,rfl⟩:=rx;exact SeqAt.EqAt.bool_str a b t
  | _=>exact absurd (show false=true from fx) Bool.false_ne_true
 | int a =>
  obtain⟨t',rfl⟩:=ry
  cases x with
  | non=>cases rx;exact SeqAt.EqAt.int_none a t'
  | bl b=>cases rx;exact SeqAt.EqAt.int_bool a t' b
  | int b=>obtain⟨t,rfl⟩:=rx;exact SeqAt.EqAt.int_int a t' b t
  | str b=>obtain⟨t,rfl⟩:=rx;exact SeqAt.EqAt.int_str a t' b t
  | _=>exact absurd (show false=true from fx) Bool.false_ne_true
 | str a =>
  obtain⟨t',rfl⟩:=ry
  cases x with
  | non=>cases rx;exact SeqAt.EqAt.str_none a t'
  | bl b=>cases rx;exact SeqAt.EqAt.str_bool a t' b
  | int b=>obtain⟨t,rfl⟩:=rx;exact SeqAt.EqAt.str_int a t' b t
  | str b=>obtain⟨t,rfl⟩:=rx;exact SeqAt.EqAt.str_str a t' b t
  | _=>exact absurd (show false=true from fx) Bool.false_ne_true
 | _=>exact absurd (show false=true from fy) Bool.false_ne_true
theorem call_len_seq:CallR X (.builtin "len") (fun xs H Q=>∃ p ys,xs=[.ref p]∧(SqL X.K H p ys∨SqT X.K H p ys)∧Q (.int ys.length) H):=by
 intro pins s σ H xs us Q I r h
 obtain⟨p,ys,rfl,hq,q⟩:=h
 obtain⟨u,rfl,rx⟩:=vals1 r
 cases rx
 have hn:=line63
 rcases hq with hq | hq
 ·obtain⟨its,r',pl,hz⟩:=I.list hq
  have hlen:=r'.length
  exact Calls.call_len_list pl.isList (by simp only[List.size_toArray]<;>omega) ⟨.int ys.length,H,I.tok _,⟨s.toks+1,by rw[List.size_toArray,hlen]⟩,q⟩
 ·obtain⟨its,r',pl,hz⟩:=I.tuple hq
  have hlen:=r'.length
  exact len_tuple pl (by simp only[List.size_toArray]<;>omega) ⟨.int ys.length,H,I.tok _,⟨s.toks+1,by rw[List.size_toArray,hlen]⟩,q⟩
theorem call_list_of:CallR X (.type "list") (fun xs H Q=>∃ p ys,xs=[.ref p]∧(SqL X.K H p ys∨SqT X.K H p ys)∧∀ l,H l=none→Q (.ref l) (upd H l (.lst ys))):=by
 intro pins s σ H xs us Q I r h
 obtain⟨p,ys,rfl,hq,q⟩:=h
 obtain⟨u,rfl,rx⟩:=vals1 r
 cases rx
 have fin:∀ (its:List Value),Vals ys its→ys.length≤sizeLine→∀ (h':Heap)(c':Nat),(∀ b o',s.heap.get? b=some o'→h'.get? b=some o') →
   h'.get? s.heap.objs.size=some { cls:=.type "list",dict:=none,data:=.seq its.toArray c',slots:=#[] }→EP X pins σ Q (.ref s.heap.objs.size) { s with heap:=h' }:=fun its r' hz h' c' kp e =>
  ⟨.ref s.heap.objs.size,_,I.laid (t':=s.toks) kp (Nat.le_refl _) (show ObjOk X.prog X.w _ h' _ (.lst ys) from ⟨hz,its,c',r',e⟩),rfl,q _ (I.hok.fresh (Nat.le_refl _))⟩
 rcases hq with hq | hq
 ·obtain⟨its,r',pl,hz⟩:=I.list hq
  have hlen:=r'.length
  obtain⟨o,ho,hc,n,hd⟩:=pl.isList
  exact call_list_seq p (.inl rfl) ho hc hd (fun h' c' kp e=>fin its r' hz h' c' kp e) (by simp only[List.size_toArray]<;>omega)
 ·obtain⟨its,r',pl,hz⟩:=I.tuple hq
  have hlen:=r'.length
  obtain⟨o,ho,hc,n,hd⟩:=pl
  exact call_list_seq p (.inr rfl) ho hc hd (fun h' c' kp e=>fin its r' hz h' c' kp e) (by simp only[List.size_toArray]<;>omega)
def tyV (K:PySem.W.Frag)(T:String)(x:V)(H:Hp):Prop:=match x with
 | .str _=>T="str"
 | .int _=>T="int"
 | .ref p=>(T="list"∧∃ xs,SqL K H p xs)∨(T="tuple"∧∃ o,K.lookup p=some o∧o.cls=.type "tuple"∧o.dict=none) ∨
   (T="dict"∧((∃ kvs,H p=some (.dK kvs))∨∃ kvs,H p=some (.dT kvs)))∨(T="set"∧∃ S n,H p=some (.set S n))
 | _=>False
theorem tyV_is {pins:List (Addr×Obj)}{σ:St}{H:Hp}{s:Shared}{T:String}{x:V}{v:Value}(I:Inv X pins σ H s)(r:RelV x v)(ty:tyV X.K T x H) :
  s.TypeIs v T∧∀ a,v=.ref a→∃ ob,s.heap.get? a=some ob∧ob.dict=none:=by
 cases x with
 | str z =>
  obtain⟨t,rfl⟩:=r
  cases (show T="str" from ty)
  exact⟨typeIs_str s z t,fun _ e=>nomatch e⟩
 | int i =>
  obtain⟨t,rfl⟩:=r
  cases (show T="int" from ty)
  exact⟨typeIs_int s i t,fun _ e=>nomatch e⟩
 | ref p =>
  cases r
  rcases ty with ⟨rfl,xs,hq⟩ | ⟨rfl,o,hk,hc,hd⟩ | ⟨rfl,hk⟩ | ⟨rfl,S,n,hk⟩
  ·obtain⟨its,_,pl,_⟩:=I.list hq
   refine⟨pl.isList.typeIs,fun a e=>?_⟩
   cases e
   obtain⟨o,n,e,c,hd,_⟩:=pl
   exact⟨o,e,hd⟩
  ·refine⟨⟨o,I.kIn p o hk,hc⟩,fun a e=>?_⟩
   cases e
   exact⟨o,I.kIn _ o hk,hd⟩
  ·have z:∃ o,s.heap.get? p=some o∧o.ExactDict:=by
    rcases hk with ⟨kvs,hk⟩ | ⟨kvs,hk⟩
    ·obtain⟨_,_,_,_,o,_,_,e,ex,_⟩:=I.hok p _ hk
     exact⟨o,e,ex⟩
    ·obtain⟨_,_,_,_,o,_,_,e,ex,_⟩:=I.hok p _ hk
     exact⟨o,e,ex⟩
   obtain⟨o,e,ex⟩:=z
   refine⟨⟨o,e,ex.1⟩,fun a e2=>?_⟩
   cases e2
   exact⟨o,e,ex.2.1⟩
  ·obtain⟨o,_,_,_,e,ex,_⟩:=I.hok p _ hk
   refine⟨⟨o,e,ex.1⟩,fun a e2=>?_⟩
   cases e2
   exact⟨o,e,ex.2.1⟩
 | _=>exact False.elim ty
def tBM (K:PySem.W.Frag)(T:String)(r:V→List V→Hp→VK→Prop)(to:TE)(t:TA):TE:=fun σ H Q=>to σ H fun x H1=>tyV K T x H1∧t σ H1 fun xs H2=>r x xs H2 Q
variable {o e:Expr}{es:List Expr}{to:TE}{t:TA}{name:Str}{apos cpos:Pos}{T id:String}{r:V→List V→Hp→VK→Prop}
theorem pe_bm (pa:PlainAttrs T)(slot:Slot T name id)(hty:typeOf (.builtin id)=pure (.type "method_descriptor"))(hm:MtR X id r)(ho:PE X o to)(ha:PA X (e::es) t)
  (hbase:attributeBase o name X.env (eval o X.env)=eval o X.env:=by rfl)
  (hfew:((backTo cpos (starEach (e::es) X.env)).all (fun x=>!x.1)&&(backToKw cpos (keywordEach [] X.env)).all (fun x=>x.1.isSome)
   && decide ((e::es).length+([]:List Keyword).length+(if ([]:List Keyword).isEmpty then 0 else 1)<30))=true:=by rfl)
  (hline:(apos.endLine == cpos.line)=true:=by rfl) (hs:starEach (e::es) X.env=(false,eval e X.env)::starEach es X.env:=by rfl) (hplain:(backTo cpos (starEach es X.env)).any (·.1)=false:=by rfl) :
  PE X (.Call (.Attribute o name apos) (e::es) [] cpos) (tBM X.K T r to t):=by
 intro pins s σ H Q I h
 refine wpAny_Call_method_late hbase hfew hline rfl (thn (ho pins s σ H _ I h) fun v s1 ⟨x,H1,I1,r1,ty,q1⟩=>?_)
 obtain⟨h1,h2⟩:=tyV_is I1 r1 ty
 refine⟨T,id,pa,slot,hty,h1,h2,?_⟩
 have hA:=ha cpos pins s1 σ H1 _ I1 q1
 rw[hs]at hA ⊢
 refine Calls.callWith_builtin (by show (false||(backTo cpos (starEach es X.env)).any (·.1))=false;rw[hplain]<;>rfl) (Calls.evalArgs_plain ?_)
 exact thn hA fun us s2 ⟨vs,H2,I2,r2,q2⟩=>hm pins s2 σ H2 x vs v us Q I2 r1 r2 q2
end
end L2
namespace L2
open PySem PySem.Spec PyProof.Rows
def MtM (X:Cx)(id:String)(r:V→List V→Hp→VK→Prop):Prop :=
 ∀ (pins:List (Addr×Obj))(s:Shared)(σ:St)(H:Hp)(x:V)(xs:List V)(v:Value)(us:List Value)(Q:VK),Inv X pins σ H s→RelV x v→Vals xs us→r x xs H Q →
  wpAny (model X.prog X.w) X.A (call (.builtin id) (v::us)) (EP X pins σ Q) X.xe s
theorem Vals.one:∀ {x:V}{us:List Value},Vals [x] us→∃ u,us=[u]∧RelV x u
 | _,_,.cons r .nil=>⟨_,rfl,r⟩
theorem Vals.two:∀ {x y:V}{us:List Value},Vals [x,y] us→∃ u v,us=[u,v]∧RelV x u∧RelV y v
 | _,_,_,.cons r (.cons q .nil)=>⟨_,_,rfl,r,q⟩
section
variable {X:Cx}{pins:List (Addr×Obj)}{σ:St}{H:Hp}{s:Shared}{l b:Addr}{xs ys zs:List V}
theorem Inv.lset {its its':List Value}{n:Nat}{f:Array Value→Array Value}{t':Nat}(I:Inv X pins σ H s)(hH:H l=some (.lst xs))
  (e:s.heap.get? l=some { cls:=.type "list",data:=.seq its.toArray n }) (hf:f its.toArray=its'.toArray) (hv:Vals ys its') (hz:ys.length≤sizeLine) :
  Inv X pins σ (upd H l (.lst ys)) { s with heap:=s.heap.update l (Obj.mapSeq f),toks:=t' }:=by
 have q:=PySem.IsL.update e f
 rw[hf]at q
 refine I.write (x:=l) (e:=l) (by rw[hH];exact trivial) (.inl rfl) (fun b' u hb hu=>(Heap.get?_update_other s.heap (Obj.mapSeq f) (Ne.symm hb)).trans hu) ⟨_,q⟩ ?_
 exact⟨hz,its',_,hv,q⟩
theorem Inv.lnew {its:List Value}{t':Nat}(I:Inv X pins σ H s)(hv:Vals ys its)(hz:ys.length≤sizeLine) :
  Inv X pins σ (upd H s.heap.objs.size (.lst ys)) { s with heap:=s.heap.push { cls:=.type "list",data:=.seq its.toArray },toks:=t' } :=
 I.laid (fun _ _ q=>Heap.get?_push_of_some _ q) (Nat.le_refl _) ⟨hz,its,0,hv,Heap.get?_push_size _ rfl⟩
theorem Inv.fresh (I:Inv X pins σ H s):H s.heap.objs.size=none:=I.hok.fresh (Nat.le_refl _)
theorem Inv.lstM (I:Inv X pins σ H s)(hH:H l=some (.lst xs)):xs.length≤sizeLine∧∃ (its:List Value)(n:Nat),Vals xs its∧xs.length=its.length∧s.heap.get? l=some { cls:=.type "list",data:=.seq its.toArray n }:=by
 obtain⟨z,its,n,r,e⟩:=I.hok l _ hH
 exact⟨z,its,n,r,r.length,e⟩
end
section
variable {X:Cx}
def rAppend:V→List V→Hp→VK→Prop:=fun x vs H Q=>∃ l xs y,x=.ref l∧vs=[y]∧H l=some (.lst xs)∧xs.length<sizeLine∧Q .non (upd H l (.lst (xs++[y])))
theorem mt_append:MtM X "list.append" rAppend:=by
 intro pins s σ H x vs v us Q I rx rv h
 obtain⟨l,xs,y,rfl,rfl,hH,hz,q⟩:=h
 cases rx
 obtain⟨u,rfl,ru⟩:=rv.one
 obtain⟨z,its,n,r,hl,e⟩:=I.lstM hH
 refine call_meets F.slot_list_append ⟨_,e,rfl⟩ F.entry_list_append (F.args_list_append_2 _ _) (PySem.list_append l its.toArray n u (by rw[List.size_toArray];omega)) ⟨e,?_⟩
 refine⟨.non,_,I.lset (its':=its++[u]) hH e (by simp) (r.append (.cons ru .nil)) ?_,rfl,q⟩
 rw[List.length_append,List.length_singleton]
 omega
def rCat:R2:=fun x y H Q=>∃ l b xs zs,x=.ref l∧y=.ref b∧H l=some (.lst xs)∧H b=some (.lst zs)∧xs.length+zs.length≤sizeLine∧∀ p,H p=none→Q (.ref p) (upd H p (.lst (xs++zs)))
theorem op_cat:OpR X (binaryOp .Add) rCat:=by
 intro pins s σ H x y v u Q I rx ry h
 obtain⟨l,b,xs,zs,rfl,rfl,hH,hB,hz,q⟩:=h
 cases rx
 cases ry
 obtain⟨z,its,n,r,hl,e⟩:=I.lstM hH
 obtain⟨z2,its2,n2,r2,hl2,e2⟩:=I.lstM hB
 refine PySem.P.add_list e e2 ?_ (by rw[List.size_toArray,List.size_toArray];omega)
 have ea:its.toArray++its2.toArray=(its++its2).toArray:=by simp
 rw[ea]
 exact⟨.ref _,_,I.lnew (t':=s.toks) (r.append r2) (by rw[List.length_append];omega),rfl,q _ I.fresh⟩
end
section
variable {prog:Program}{w:World}{A:Around}{E:Value→Shared→Prop}{s:Shared}
end
section
variable {X:Cx}
end
end L2
namespace L2
open PySem PySem.Spec PyProof.Rows
section
variable {κ:Type} [DecidableEq κ]
def valV (kvs:List (κ×V))(k:κ):Option V:=(kvs.find? fun kv=>decide (kv.1=k)).map (·.2)
def putK (kvs:List (κ×V))(k:κ)(v:V):List (κ×V) :=
 if (kvs.any fun kv=>decide (kv.1=k))=true then kvs.map (fun kv=>if kv.1=k then (kv.1,v) else kv) else kvs++[(k,v)]
def dropK (kvs:List (κ×V))(k:κ):List (κ×V):=kvs.filter fun kv=>decide (kv.1≠k)
theorem valV_pos {p:κ×V}{r:List (κ×V)}{k:κ}(e:p.1=k):valV (p::r) k=some p.2:=by simp[valV,List.find?_cons,e]
theorem valV_neg {p:κ×V}{r:List (κ×V)}{k:κ}(e:¬ p.1=k):valV (p::r) k=valV r k:=by simp[valV,List.find?_cons,e]
theorem valV_any (k:κ):∀ kvs:List (κ×V),(kvs.any fun kv=>decide (kv.1=k))=(valV kvs k).isSome
 | []=>rfl
 | p::r=>by
  rw[List.any_cons]
  by_cases e:p.1=k
  ·simp only[valV_pos e,decide_eq_true e,Bool.true_or,Option.isSome_some]
  ·rw[valV_neg e,decide_eq_false e,Bool.false_or];exact valV_any k r
theorem length_putK (kvs:List (κ×V))(k:κ)(v:V):(putK kvs k v).length≤kvs.length+1:=by
 unfold putK
 split
 ·rw[List.length_map];omega
 ·rw[List.length_append,List.length_cons,List.length_nil];omega
theorem putK_new {kvs:List (κ×V)}{k:κ}(v:V)(h:valV kvs k=none):putK kvs k v=kvs++[(k,v)]:=by
 unfold putK
 rw[valV_any,h]
 exact if_neg (by decide)
theorem RelO.isSome_eq {o:Option V}{u:Option Value}(r:RelO o u):o.isSome=u.isSome:=by
 cases o with
 | none=>cases u with
  | none=>rfl
  | some _=>exact (show False from r).elim
 | some _=>cases u with
  | none=>exact (show False from r).elim
  | some _=>rfl
theorem RelO.getD {o:Option V}{u:Option Value}{d:V}{d':Value}(r:RelO o u)(rd:RelV d d'):RelV (o.getD d) (u.getD d'):=by
 cases o with
 | none=>cases u with
  | none=>exact rd
  | some _=>exact (show False from r).elim
 | some _=>cases u with
  | none=>exact (show False from r).elim
  | some _=>exact r
theorem KV.val {kvs:List (κ×V)}{vs:List (κ×Value)}(r:KV kvs vs)(k:κ):RelO (valV kvs k) (valueAt vs k):=by
 unfold KV at r
 induction r with
 | nil=>exact True.intro
 | @cons p q ps qs h t ih =>
  obtain⟨h1,h2⟩:=h
  by_cases e:p.1=k
  ·have e':q.1=k:=h1.symm.trans e
   have b:valueAt (q::qs) k=some q.2:=by simp[valueAt,List.find?_cons,e']
   rw[valV_pos e,b];exact h2
  ·have e':¬ q.1=k:=fun z=>e (h1.trans z)
   have b:valueAt (q::qs) k=valueAt qs k:=by simp[valueAt,List.find?_cons,e']
   rw[valV_neg e,b];exact ih
theorem KV.any {kvs:List (κ×V)}{vs:List (κ×Value)}(r:KV kvs vs)(k:κ):(kvs.any fun kv=>decide (kv.1=k))=vs.any fun kv=>decide (kv.1=k):=by
 unfold KV at r
 induction r with
 | nil=>rfl
 | cons h t ih=>rw[List.any_cons,List.any_cons,ih,h.1]
theorem KV.repl {kvs:List (κ×V)}{vs:List (κ×Value)}(r:KV kvs vs)(k:κ){y:V}{u:Value}(ry:RelV y u) :
  KV (kvs.map fun kv=>if kv.1=k then (kv.1,y) else kv) (vs.map fun kv=>if kv.1=k then (kv.1,u) else kv):=by
 unfold KV at r ⊢
 induction r with
 | nil=>exact .nil
 | @cons p q ps qs h t ih =>
  rw[List.map_cons,List.map_cons]
  refine .cons ?_ ih
  obtain⟨h1,h2⟩:=h
  by_cases e:p.1=k
  ·rw[if_pos e,if_pos (h1.symm.trans e)];exact⟨h1,ry⟩
  ·rw[if_neg e,if_neg (fun z=>e (h1.trans z))];exact⟨h1,h2⟩
theorem KV.put {kvs:List (κ×V)}{vs:List (κ×Value)}(r:KV kvs vs)(k:κ){y:V}{u:Value}(ry:RelV y u):KV (putK kvs k y) (stored vs k u):=by
 unfold putK stored
 rw[r.any k]
 by_cases e:(vs.any fun kv=>decide (kv.1=k))=true
 ·rw[if_pos e,if_pos e];exact r.repl k ry
 ·rw[if_neg e,if_neg e];exact Paired.snoc r ⟨rfl,ry⟩
theorem KV.drop {kvs:List (κ×V)}{vs:List (κ×Value)}(r:KV kvs vs)(k:κ):KV (dropK kvs k) (without vs k):=by
 unfold KV at r ⊢
 unfold dropK without
 induction r with
 | nil=>exact .nil
 | @cons p q ps qs h t ih =>
  obtain⟨h1,h2⟩:=h
  rw[List.filter_cons,List.filter_cons]
  by_cases e:p.1=k
  ·have a:¬ decide (p.1≠k)=true:=by simp[e]
   have b:¬ decide (q.1≠k)=true:=by simp[h1.symm.trans e]
   rw[if_neg a,if_neg b];exact ih
  ·have e':¬ q.1=k:=fun z=>e (h1.trans z)
   have a:decide (p.1≠k)=true:=by simp[e]
   have b:decide (q.1≠k)=true:=by simp[e']
   rw[if_pos a,if_pos b];exact .cons ⟨h1,h2⟩ ih
theorem KV.keys {kvs:List (κ×V)}{vs:List (κ×Value)}(r:KV kvs vs):kvs.map (·.1)=vs.map (·.1):=by
 unfold KV at r
 induction r with
 | nil=>rfl
 | cons h t ih=>rw[List.map_cons,List.map_cons,ih,h.1]
theorem KV.length {kvs:List (κ×V)}{vs:List (κ×Value)}(r:KV kvs vs):kvs.length=vs.length:=Paired.length r
theorem dropK_le (kvs:List (κ×V))(k:κ):(dropK kvs k).length≤kvs.length:=List.length_filter_le _ _
end
theorem kV_is {P:Program}{w:World}{k:Key}{u:Value}(r:RelV (kV k) u):(mixKind P w).is k u=true:=by
 cases k with
 | inl i=>obtain⟨t,e⟩:=(show ∃ t,u=Value.int i t from r);subst e;exact mixKind_int P w i t
 | inr x=>obtain⟨t,e⟩:=(show ∃ t,u=Value.str x t from r);subst e;exact mixKind_str P w x t
theorem items_are {P:Program}{w:World}:∀ {ks:List Key}{us:List Value},Vals (ks.map kV) us→ItemsAre (mixKind P w) ks us
 | [],_,r=>by rw[List.map_nil]at r;cases r;exact .nil
 | k::ks,_,r=>by
  rw[List.map_cons]at r
  cases r with
  | cons h t=>exact .cons (kV_is h) (items_are t)
abbrev KT (H:Hp):List (List Key×V)→List (List Key×Addr×Value)→Prop:=Paired fun p q=>p.1=q.1∧H q.2.1=some (.tup (p.1.map kV))∧RelV p.2 q.2.2
theorem KT.val {H:Hp}{kvs:List (List Key×V)}{xs:List (List Key×Addr×Value)}(r:KT H kvs xs)(k:List Key):RelO (valV kvs k) ((atKey xs k).map (·.2)):=by
 induction r with
 | nil=>exact True.intro
 | @cons p q ps qs h t ih =>
  obtain⟨h1,_,h2⟩:=h
  by_cases e:p.1=k
  ·have e':q.1=k:=h1.symm.trans e
   have b:atKey (q::qs) k=some q.2:=by simp[atKey,List.find?_cons,e']
   rw[valV_pos e,b];exact h2
  ·have e':¬ q.1=k:=fun z=>e (h1.trans z)
   have b:atKey (q::qs) k=atKey qs k:=by simp[atKey,List.find?_cons,e']
   rw[valV_neg e,b];exact ih
theorem KT.repl {H:Hp}{kvs:List (List Key×V)}{xs:List (List Key×Addr×Value)}(r:KT H kvs xs)(k:List Key){y:V}{u:Value}(ry:RelV y u) :
  KT H (kvs.map fun kv=>if kv.1=k then (kv.1,y) else kv) (xs.map (putAt k u)):=by
 induction r with
 | nil=>exact .nil
 | @cons p q ps qs h t ih =>
  rw[List.map_cons,List.map_cons]
  refine .cons ?_ ih
  obtain⟨h1,h2,h3⟩:=h
  unfold putAt
  by_cases e:p.1=k
  ·rw[if_pos e,if_pos (h1.symm.trans e)];exact⟨h1,h2,ry⟩
  ·rw[if_neg e,if_neg (fun z=>e (h1.trans z))];exact⟨h1,h2,h3⟩
theorem KT.put {H:Hp}{kvs:List (List Key×V)}{xs:List (List Key×Addr×Value)}(r:KT H kvs xs)(k:List Key){b:Addr}{y:V}{u:Value}(hb:H b=some (.tup (k.map kV)))(ry:RelV y u) :
  KT H (putK kvs k y) (storedH xs k b u):=by
 have e:(kvs.any fun kv=>decide (kv.1=k))=(atKey xs k).isSome:=by
  rw[valV_any,(r.val k).isSome_eq,Option.isSome_map]
 unfold putK storedH
 rw[e]
 by_cases q:(atKey xs k).isSome=true
 ·rw[if_pos q,if_pos q];exact r.repl k ry
 ·rw[if_neg q,if_neg q];exact Paired.snoc r ⟨rfl,hb,ry⟩
theorem KT.keeps {H H':Hp}{kvs:List (List Key×V)}{xs:List (List Key×Addr×Value)}(r:KT H kvs xs)(ht:∀ b ys,H b=some (.tup ys)→H' b=some (.tup ys)):KT H' kvs xs :=
 Paired.mapP r fun _ _ z=>⟨z.1,ht _ _ z.2.1,z.2.2⟩
section
variable {P:Program}{w:World}{H:Hp}{h:Heap}{a:Addr}
theorem rd_of {u:HO}(ok:HOk P w H h)(e:Rd H a u):ObjOk P w H h a u:=e.ok ok
theorem dk_rd {kvs:List (Key×V)}(ok:HOk P w H h)(e:Rd H a (.dK kvs)):kvs.length≤sizeLine∧(a == sysModules)=false∧∃ vs,KV kvs vs∧h.DictOf (mixKind P w) a vs :=
 show ObjOk P w H h a (.dK kvs) from rd_of ok e
theorem dk_of {kvs:List (Key×V)}(ok:HOk P w H h)(e:H a=some (.dK kvs)):kvs.length≤sizeLine∧(a == sysModules)=false∧∃ vs,KV kvs vs∧h.DictOf (mixKind P w) a vs:=dk_rd ok (.inl e)
theorem key_of {ks:List Key}(ok:HOk P w H h)(e:H a=some (.tup (ks.map kV))):(tupleKind (mixKind P w)).is h ks a:=by
 obtain⟨_,its,r,o,h1,h2,n,h3⟩:=(show ObjOk P w H h a (.tup (ks.map kV)) from ok a _ e)
 exact⟨o,its.toArray,n,h1,h2,h3,by simpa using items_are r⟩
theorem dt_rd {kvs:List (List Key×V)}(ok:HOk P w H h)(e:Rd H a (.dT kvs)):kvs.length≤sizeLine∧(a == sysModules)=false ∧
  ∃ xs,KT H kvs xs∧h.DictOfH (tupleKind (mixKind P w)) a xs:=by
 obtain⟨z,y,xs,r,o,es,ep,h1,h2,h3,h4,h5⟩:=(show ObjOk P w H h a (.dT kvs) from rd_of ok e)
 refine⟨z,y,xs,r,o,es,ep,h1,h2,h3,h4,fun x hx=>?_,h5⟩
 have all:∀ {l:List (List Key×V)}{m:List (List Key×Addr×Value)},KT H l m→∀ x∈m,(tupleKind (mixKind P w)).is h x.1 x.2.1:=by
  intro l m q
  induction q with
  | nil=>intro x hx;exact nomatch hx
  | @cons p q ps qs hq t ih =>
   intro x hx
   rcases List.mem_cons.mp hx with e | hx
   ·subst e
    exact key_of ok (by rw[←hq.1];exact hq.2.1)
   ·exact ih x hx
 exact all r x hx
theorem dt_of {kvs:List (List Key×V)}(ok:HOk P w H h)(e:H a=some (.dT kvs)):kvs.length≤sizeLine∧(a == sysModules)=false ∧
  ∃ xs,KT H kvs xs∧h.DictOfH (tupleKind (mixKind P w)) a xs:=dt_rd ok (.inl e)
end
def DGet (H:Hp)(a:Addr)(y:V)(r:Option V):Prop :=
 (∃ kvs k,Rd H a (.dK kvs)∧y=kV k∧r=valV kvs k)∨∃ kvs k b,Rd H a (.dT kvs)∧y=.ref b∧H b=some (.tup (k.map kV))∧r=valV kvs k
def DPut (H:Hp)(a:Addr)(y v:V)(H':Hp):Prop :=
 (∃ kvs k,H a=some (.dK kvs)∧y=kV k∧kvs.length<sizeLine∧H'=upd H a (.dK (putK kvs k v))) ∨
 ∃ kvs k b,H a=some (.dT kvs)∧y=.ref b∧H b=some (.tup (k.map kV))∧kvs.length<sizeLine∧H'=upd H a (.dT (putK kvs k v))
theorem DGet.k {H:Hp}{a:Addr}{kvs:List (Key×V)}{k:Key}(e:H a=some (.dK kvs)):DGet H a (kV k) (valV kvs k):=.inl ⟨kvs,k,.inl e,rfl,rfl⟩
theorem DGet.t {H:Hp}{a b:Addr}{kvs:List (List Key×V)}{k:List Key}(e:H a=some (.dT kvs))(eb:H b=some (.tup (k.map kV))):DGet H a (.ref b) (valV kvs k):=.inr ⟨kvs,k,b,.inl e,rfl,eb,rfl⟩
theorem DPut.k {H:Hp}{a:Addr}{kvs:List (Key×V)}{k:Key}{v:V}(e:H a=some (.dK kvs))(hl:kvs.length<sizeLine):DPut H a (kV k) v (upd H a (.dK (putK kvs k v))):=.inl ⟨kvs,k,e,rfl,hl,rfl⟩
theorem DPut.t {H:Hp}{a b:Addr}{kvs:List (List Key×V)}{k:List Key}{v:V}(e:H a=some (.dT kvs))(eb:H b=some (.tup (k.map kV)))(hl:kvs.length<sizeLine) :
  DPut H a (.ref b) v (upd H a (.dT (putK kvs k v))):=.inr ⟨kvs,k,b,e,rfl,eb,hl,rfl⟩
section
variable {X:Cx}{pins:List (Addr×Obj)}{σ:St}{H:Hp}{s:Shared}{a:Addr}{y v:V}{u r:Value}{o:Option V}{A:Around}{E:Value→Shared→Prop}
theorem Inv.big (I:Inv X pins σ H s):sysModules<s.heap.objs.size:=by
 have h:mainGlobals<s.heap.objs.size:=(I.mod.glob.keeps I.bk).lt
 exact Nat.lt_trans (by decide) h
theorem d_getItem {Q:Value→Shared→Prop}(hu:A.units+1<cLine)(I:Inv X pins σ H s)(g:DGet H a y (some v))(ry:RelV y u)(h:∀ w' s',Inv X pins σ H s'→RelV v w'→Q w' s') :
  wpAny (model X.prog X.w) A (getItem (.ref a) u) Q E s:=by
 rcases g with ⟨kvs,k,e,ey,l⟩ | ⟨kvs,k,b,e,ey,eb,l⟩
 ·subst ey
  obtain⟨z,hd,vs,rel,dd⟩:=dk_rd I.hok e
  obtain⟨w',hw,rw'⟩:=RelO.some_of (v:=v) (o:=valueAt vs k) (by rw[l];exact rel.val k)
  exact wpAny_getItem_of (kV_is ry) dd.mapOf hw (h w' _ (I.tok _) rw')
 ·subst ey
  cases (show u=Value.ref b from ry)
  obtain⟨z,hd,xs,rel,dd⟩:=dt_rd I.hok e
  obtain⟨w',hw,rw'⟩:=RelO.some_of (v:=v) (o:=(atKey xs k).map (·.2)) (by rw[l];exact rel.val k)
  obtain⟨p,hp,hp2⟩:=Option.map_eq_some_iff.mp hw
  refine wpAny_getItem_heap (tupleKind_room_in1 hu) (key_of I.hok eb) dd hp ?_
  rw[hp2]
  exact h w' _ (I.tok _) rw'
theorem d_in {Q:Value→Shared→Prop}(hu:A.units+1<cLine)(I:Inv X pins σ H s)(g:DGet H a y o)(ry:RelV y u)(h:∀ s',Inv X pins σ H s'→Q (.bool o.isSome) s') :
  wpAny (model X.prog X.w) A (compareOp .In u (.ref a)) Q E s:=by
 rcases g with ⟨kvs,k,e,ey,l⟩ | ⟨kvs,k,b,e,ey,eb,l⟩
 ·subst ey
  obtain⟨z,hd,vs,rel,dd⟩:=dk_rd I.hok e
  refine wpAny_in_of (kV_is ry) hd dd.mapOf ?_
  rw[←(rel.val k).isSome_eq,←l]
  exact h _ (I.tok _)
 ·subst ey
  cases (show u=Value.ref b from ry)
  obtain⟨z,hd,xs,rel,dd⟩:=dt_rd I.hok e
  refine wpAny_in_heap (tupleKind_room_in1 hu) (key_of I.hok eb) hd dd ?_
  have q:=(rel.val k).isSome_eq
  rw[Option.isSome_map]at q
  rw[←q,←l]
  exact h _ (I.tok _)
theorem d_notIn {Q:Value→Shared→Prop}(hu:A.units+1<cLine)(I:Inv X pins σ H s)(g:DGet H a y o)(ry:RelV y u)(h:∀ s',Inv X pins σ H s'→Q (.bool (!o.isSome)) s') :
  wpAny (model X.prog X.w) A (compareOp .NotIn u (.ref a)) Q E s:=by
 rcases g with ⟨kvs,k,e,ey,l⟩ | ⟨kvs,k,b,e,ey,eb,l⟩
 ·subst ey
  obtain⟨z,hd,vs,rel,dd⟩:=dk_rd I.hok e
  refine wpAny_notIn_of (kV_is ry) hd dd.mapOf ?_
  rw[←(rel.val k).isSome_eq,←l]
  exact h _ (I.tok _)
 ·subst ey
  cases (show u=Value.ref b from ry)
  obtain⟨z,hd,xs,rel,dd⟩:=dt_rd I.hok e
  refine wpAny_notIn_heap (tupleKind_room_in1 hu) (key_of I.hok eb) hd dd ?_
  have q:=(rel.val k).isSome_eq
  rw[Option.isSome_map]at q
  rw[←q,←l]
  exact h _ (I.tok _)
theorem d_write {h':Heap}{t':Nat}{ob:HO}(I:Inv X pins σ H s)(mu:Mut (H a))(hs:Heap.SameBut a s.heap h')(he:∃ q,h'.get? a=some q)(new:ObjOk X.prog X.w (upd H a ob) h' a ob) :
  Inv X pins σ (upd H a ob) { s with heap:=h',toks:=t' } :=
 I.write (x:=a) (e:=a) mu (.inl rfl) (fun b q hb z=>(hs.2 b hb).trans z) he new
theorem dk_new {P:Program}{w:World}{H':Hp}{h':Heap}{kvs:List (Key×V)}{vs:List (Key×Value)}(z:kvs.length≤sizeLine)(hd:(a == sysModules)=false)(rel:KV kvs vs)(dd:h'.DictOf (mixKind P w) a vs) :
  ObjOk P w H' h' a (.dK kvs):=⟨z,hd,vs,rel,dd⟩
theorem d_setItem {H':Hp}{Q:Unit→Shared→Prop}(hu:A.units+1<cLine)(I:Inv X pins σ H s)(g:DPut H a y v H')(ry:RelV y u)(rv:RelV v r)(h:∀ s',Inv X pins σ H' s'→Q () s') :
  wpAny (model X.prog X.w) A (setItem (.ref a) u r) Q E s:=by
 rcases g with ⟨kvs,k,e,ey,l,eH⟩ | ⟨kvs,k,b,e,ey,eb,l,eH⟩
 ·subst ey eH
  obtain⟨z,hd,vs,rel,dd⟩:=dk_of I.hok e
  have hz:vs.length≤sizeLine:=by rw[←rel.length];exact z
  have hl:(putK kvs k v).length≤sizeLine:=by have:=length_putK kvs k v;omega
  refine wpAny_setItem_pairs (hsz:=hz) (kV_is ry) dd fun h' dd' hs=>h _ ?_
  have he:∃ q,h'.get? a=some q:=let ⟨q,_,_,hq,_⟩:=dd';⟨q,hq⟩
  exact d_write I (by rw[e];exact True.intro) hs he (dk_new hl hd (rel.put k rv) dd')
 ·subst ey eH
  cases (show u=Value.ref b from ry)
  obtain⟨z,hd,xs,rel,dd⟩:=dt_of I.hok e
  have hz:xs.length≤sizeLine:=by rw[←Paired.length rel];exact z
  have hl:(putK kvs k v).length≤sizeLine:=by have:=length_putK kvs k v;omega
  refine wpAny_setItem_heap (hsz:=hz) (tupleKind_room_in1 hu) (key_of I.hok eb) dd fun h' dd' hs=>h _ ?_
  obtain⟨q,es,ep,hq,h2,h3,h4,_,h5⟩:=dd'
  refine d_write I (by rw[e];exact True.intro) hs ⟨q,hq⟩ ⟨hl,hd,_,(rel.put k eb rv).keeps fun c ys ec=>?_,q,es,ep,hq,h2,h3,h4,h5⟩
  rw[upd_ne (ne_of ec e (fun z=>nomatch z))]
  exact ec
end
section
variable {X:Cx}{pins:List (Addr×Obj)}{σ:St}{H:Hp}{s:Shared}{a:Addr}{kvs:List (Key×V)}{k:Key}{u:Value}{A:Around}{E:Value→Shared→Prop}
theorem d_pop {v:V}{more:List Value}{Q:Value→Shared→Prop}(I:Inv X pins σ H s)(e:H a=some (.dK kvs))(ry:RelV (kV k) u)(l:valV kvs k=some v)(hm:more=[]∨∃ x,more=[x])
  (h:∀ w' s',Inv X pins σ (upd H a (.dK (dropK kvs k))) s'→RelV v w'→Q w' s'):wpAny (model X.prog X.w) A (call (.builtin "dict.pop") (.ref a::u::more)) Q E s:=by
 obtain⟨z,hd,vs,rel,dd⟩:=dk_of I.hok e
 obtain⟨w',hw,rw'⟩:=RelO.some_of (v:=v) (o:=valueAt vs k) (by rw[←l];exact rel.val k)
 have hp:(keyPart u).isSome=true:=by
  cases k with
  | inl i=>obtain⟨t,q⟩:=(show ∃ t,u=Value.int i t from ry);subst q;rfl
  | inr x=>obtain⟨t,q⟩:=(show ∃ t,u=Value.str x t from ry);subst q;rfl
 have ha:argsOk "dict.pop" ⟨.ref a::u::more,[]⟩:=by
  rcases hm with q | ⟨x,q⟩
  ·subst q;exact PySem.F.args_dict_pop_2 _ _
  ·subst q;exact PySem.F.args_dict_pop_3 _ _ _
 refine call_meetsIn PySem.F.slot_dict_pop dd.typeIs PySem.F.entry_dict_pop ha (meets_dict_pop_there (mixKind X.prog X.w) a (kV_is ry) more hm hp)
  ⟨vs,w',dd,by rw[←rel.length];exact z,hw,fun h' dd' hs=>h w' _ ?_ rw'⟩
 have he:∃ q,h'.get? a=some q:=let ⟨q,_,_,hq,_⟩:=dd';⟨q,hq⟩
 exact d_write I (by rw[e];exact True.intro) hs he (dk_new (Nat.le_trans (dropK_le kvs k) z) hd (rel.drop k) dd')
end
def NoSl (i:Expr):Prop:=∀ ov iv,subscripted i false ov iv=operate [ov,iv] (getItem ov iv)
theorem subD_of {prog:Program}{w:World}{A:Around}{E:Value→Shared→Prop}{s:Shared}{env:Env}{value slice:Expr}{pos:Pos}{T id:String}{Q:Value→Shared→Prop}
  (hl:typeLookup (.type T) "__getitem__" = pure (some (.builtin id))) (hs:NoSl slice)
  (h:wpAny (model prog w) A (eval value env) (fun o s₁=>wpAny (model prog w) A (eval slice env) (fun i s₂=>s₂.TypeIs o T∧wpAny (model prog w) A (getItem o i) Q E s₂) E s₁) E s) :
  wpAny (model prog w) A (eval (.Subscript value slice pos) env) Q E s:=by
 refine Subscript_ (wpAny_mono h (fun o s₁ h₁=>wpAny_mono h₁ (fun i s₂ h₂=>?_) fun _ _ x=>x) fun _ _ x=>x)
 obtain⟨hT,h₂⟩:=h₂
 unfold subscriptTail
 refine wpAny_bind ?_
 rw[getitemInPython_of_ne hT.not_modules]
 refine wpAny_bind (wpAny_specialOf hT hl ?_)
 have fin:wpAny (model prog w) A (subscripted slice false o i) (fun r s₃=>wpAny (model prog w) A (letTemporaryGo value o r >>= fun _=>pure r) Q E s₃) E s₂:=by
  rw[hs o i]
  exact wpAny_operating (wpAny_mono h₂ (fun r s₃ h₃=>wpAny_bind (wpAny_letTemporaryGo (wpAny_pure h₃))) fun _ _ x=>x)
 first
  | exact wpAny_pure (wpAny_bind fin)
  | exact wpAny_bind (wpAny_pure (wpAny_bind fin))
  | exact wpAny_bind fin
theorem dict_typeIs {X:Cx}{pins:List (Addr×Obj)}{σ:St}{H:Hp}{s:Shared}{a:Addr}{y:V}{o:Option V}(I:Inv X pins σ H s)(g:DGet H a y o):s.TypeIs (.ref a) "dict":=by
 rcases g with ⟨kvs,k,e,_,_⟩ | ⟨kvs,k,b,e,_,_,_⟩
 ·obtain⟨_,_,vs,_,dd⟩:=dk_rd I.hok e
  exact dd.typeIs
 ·obtain⟨_,_,xs,_,dd⟩:=dt_rd I.hok e
  exact dd.typeIs
def tDGet (td ty:TE):TE:=fun σ H Q=>td σ H fun x H1=>ty σ H1 fun y H2=>∃ a v,x=.ref a∧DGet H2 a y (some v)∧Q v H2
def tDIn (ty td:TE):TE:=fun σ H Q=>ty σ H fun y H1=>td σ H1 fun x H2=>∃ a o,x=.ref a∧DGet H2 a y o∧Q (.bl o.isSome) H2
def tDNotIn (ty td:TE):TE:=fun σ H Q=>ty σ H fun y H1=>td σ H1 fun x H2=>∃ a o,x=.ref a∧DGet H2 a y o∧Q (.bl (!o.isSome)) H2
def sDPut (td ty tv:TE):TS:=fun D σ H=>tv σ H fun v H1=>td σ H1 fun x H2=>ty σ H2 fun y H3=>∃ a H4,x=.ref a∧DPut H3 a y v H4∧D.nx σ H4
section
variable {X:Cx}{o i e value:Expr}{pos pos' tpos:Pos}{td ty tv:TE}
theorem pe_dget (hu:X.A.units+1<cLine)(ho:PE X o td)(hi:PE X i ty)(hs:NoSl i):PE X (.Subscript o i pos) (tDGet td ty):=by
 intro pins s σ H Q I h
 refine subD_of PySem.F.slot_dict_getitem.lookup hs (thn (ho pins s σ H _ I h) fun u s1 ⟨x,H1,I1,rx,q1⟩=>thn (hi pins s1 σ H1 _ I1 q1) fun iv s2 ⟨y,H2,I2,ry,a,v,ex,g,q2⟩=>?_)
 subst ex
 obtain rfl:u=Value.ref a:=rx
 exact⟨dict_typeIs I2 g,d_getItem hu I2 g ry fun w' s3 I3 rw'=>⟨v,H2,I3,rw',q2⟩⟩
theorem pc_din (hu:X.A.units+1<cLine)(hi:PE X i ty)(ho:PE X o td):PC X .In i o (tDIn ty td):=by
 intro pins s σ H Q I h
 refine thn (hi pins s σ H _ I h) fun iv s1 ⟨y,H1,I1,ry,q1⟩=>thn (ho pins s1 σ H1 _ I1 q1) fun u s2 ⟨x,H2,I2,rx,a,ov,ex,g,q2⟩=>?_
 subst ex
 obtain rfl:u=Value.ref a:=rx
 exact d_in hu I2 g ry fun s3 I3=>⟨.bl ov.isSome,H2,I3,rfl,q2⟩
theorem pc_dnotin (hu:X.A.units+1<cLine)(hi:PE X i ty)(ho:PE X o td):PC X .NotIn i o (tDNotIn ty td):=by
 intro pins s σ H Q I h
 refine thn (hi pins s σ H _ I h) fun iv s1 ⟨y,H1,I1,ry,q1⟩=>thn (ho pins s1 σ H1 _ I1 q1) fun u s2 ⟨x,H2,I2,rx,a,ov,ex,g,q2⟩=>?_
 subst ex
 obtain rfl:u=Value.ref a:=rx
 exact d_notIn hu I2 g ry fun s3 I3=>⟨.bl (!ov.isSome),H2,I3,rfl,q2⟩
theorem ps_dput (hu:X.A.units+1<cLine)(ho:PE X o td)(hi:PE X i ty)(hv:PE X value tv)(hs:swapsWith value (some (.Subscript o i pos')) pos.line X.env=pure false) :
  PS X (.Assign [.Subscript o i pos'] value pos) (sDPut td ty tv):=by
 intro pins s σ H D I h
 refine wpAny_Assign_Subscript (thn (hv pins s σ H _ I h) fun r s1 ⟨v,H1,I1,rv,q1⟩=>thn (ho pins s1 σ H1 _ I1 q1) fun u s2 ⟨x,H2,I2,rx,q2⟩=>thn (hi pins s2 σ H2 _ I2 q2) fun iv s3 ⟨y,H3,I3,ry,a,H4,ex,g,q3⟩=>?_) hs
 subst ex
 obtain rfl:u=Value.ref a:=rx
 exact d_setItem hu I3 g ry rv fun s4 I4=>⟨σ,H4,I4,q3⟩
end
theorem dk_empty {P:Program}{w:World}{H:Hp}(h:Heap)(hb:sysModules<h.objs.size):ObjOk P w H (h.push { cls:=.type "dict",data:=.dict #[] }) h.objs.size (.dK []) :=
 ⟨Nat.zero_le _,beq_eq_false_iff_ne.mpr (Ne.symm (Nat.ne_of_lt hb)),[],.nil,Heap.DictOf.new h⟩
theorem dt_empty {P:Program}{w:World}{H:Hp}(h:Heap)(hb:sysModules<h.objs.size):ObjOk P w H (h.push { cls:=.type "dict",data:=.dict #[] }) h.objs.size (.dT []) :=
 ⟨Nat.zero_le _,beq_eq_false_iff_ne.mpr (Ne.symm (Nat.ne_of_lt hb)),[],.nil,_,#[],0,Heap.get?_push_size _ rfl,⟨rfl,rfl,rfl⟩,rfl,rfl,List.nodup_nil⟩
def tDNewK:TE:=fun _ H Q=>∀ p,H p=none→Q (.ref p) (upd H p (.dK []))
def tDNewT:TE:=fun _ H Q=>∀ p,H p=none→Q (.ref p) (upd H p (.dT []))
section
variable {X:Cx}{pos:Pos}
theorem pe_dnewK:PE X (.Dict [] [] pos) tDNewK:=fun pins s σ H Q I h =>
 wpAny_Dict_empty ⟨.ref s.heap.objs.size,_,I.laid (a:=s.heap.objs.size) (o:=.dK []) (t':=s.toks) (fun _ _ q=>Heap.get?_push_of_some _ q) (Nat.le_refl _) (dk_empty s.heap I.big),rfl,h _ (I.hok.fresh (Nat.le_refl _))⟩
theorem pe_dnewT:PE X (.Dict [] [] pos) tDNewT:=fun pins s σ H Q I h =>
 wpAny_Dict_empty ⟨.ref s.heap.objs.size,_,I.laid (a:=s.heap.objs.size) (o:=.dT []) (t':=s.toks) (fun _ _ q=>Heap.get?_push_of_some _ q) (Nat.le_refl _) (dt_empty s.heap I.big),rfl,h _ (I.hok.fresh (Nat.le_refl _))⟩
end
structure M1 (X:Cx)(o:Expr)(m:Str)(apos:Pos)(e:Expr)(cpos:Pos):Prop where
 base:attributeBase o m X.env (eval o X.env)=eval o X.env
 few:((backTo cpos (starEach [e] X.env)).all (fun x=>!x.1)&&(backToKw cpos (keywordEach [] X.env)).all (fun x=>x.1.isSome)
  && decide (([e]:List Expr).length+([]:List Keyword).length+(if ([]:List Keyword).isEmpty then 0 else 1)<30))=true
 line:(apos.endLine == cpos.line)=true
 trees:backTo cpos (starEach [e] X.env)=[(false,eval e X.env)]
structure M2 (X:Cx)(o:Expr)(m:Str)(apos:Pos)(e f:Expr)(cpos:Pos):Prop where
 base:attributeBase o m X.env (eval o X.env)=eval o X.env
 few:((backTo cpos (starEach [e,f] X.env)).all (fun x=>!x.1)&&(backToKw cpos (keywordEach [] X.env)).all (fun x=>x.1.isSome)
  && decide (([e,f]:List Expr).length+([]:List Keyword).length+(if ([]:List Keyword).isEmpty then 0 else 1)<30))=true
 line:(apos.endLine == cpos.line)=true
 trees:backTo cpos (starEach [e,f] X.env)=[(false,eval e X.env),(false,eval f X.env)]
def IsD (H:Hp)(a:Addr):Prop:=(∃ kvs,Rd H a (.dK kvs))∨∃ kvs,Rd H a (.dT kvs)
theorem isD_at {X:Cx}{pins:List (Addr×Obj)}{σ:St}{H:Hp}{s:Shared}{a:Addr}(I:Inv X pins σ H s)(d:IsD H a) :
  s.TypeIs (.ref a) "dict"∧(∀ b,Value.ref a=.ref b→∃ ob,s.heap.get? b=some ob∧ob.dict=none)∧(a == sysModules)=false:=by
 rcases d with ⟨kvs,e⟩ | ⟨kvs,e⟩
 ·obtain⟨_,hd,vs,_,dd⟩:=dk_rd I.hok e
  refine⟨dd.typeIs,fun b q=>?_,hd⟩
  cases q
  obtain⟨ob,_,_,h1,h2,_⟩:=dd
  exact⟨ob,h1,h2.2.1⟩
 ·obtain⟨_,hd,xs,_,dd⟩:=dt_rd I.hok e
  refine⟨dd.typeIs,fun b q=>?_,hd⟩
  cases q
  obtain⟨ob,_,_,h1,h2,_⟩:=dd
  exact⟨ob,h1,h2.2.1⟩
section
variable {X:Cx}{pins:List (Addr×Obj)}{σ:St}{H:Hp}{s:Shared}{a:Addr}{y d:V}{u r:Value}{o:Option V}{A:Around}{E:Value→Shared→Prop}
theorem d_get2 {Q:Value→Shared→Prop}(hu:A.units+1<cLine)(I:Inv X pins σ H s)(g:DGet H a y o)(ry:RelV y u)(rd:RelV d r)(h:∀ w' s',Inv X pins σ H s'→RelV (o.getD d) w'→Q w' s') :
  wpAny (model X.prog X.w) A (call (.builtin "dict.get") [.ref a,u,r]) Q E s:=by
 rcases g with ⟨kvs,k,e,ey,l⟩ | ⟨kvs,k,b,e,ey,eb,l⟩
 ·subst ey
  obtain⟨z,hd,vs,rel,dd⟩:=dk_rd I.hok e
  refine call_meetsIn PySem.F.slot_dict_get dd.typeIs PySem.F.entry_dict_get (PySem.F.args_dict_get_3 _ _ _) (meets_dict_get_default (mixKind X.prog X.w) a (kV_is ry) hd r) ⟨_,dd.mapOf,h _ _ (I.tok _) ?_⟩
  rw[l]
  exact (rel.val k).getD rd
 ·subst ey
  cases (show u=Value.ref b from ry)
  obtain⟨z,hd,xs,rel,dd⟩:=dt_rd I.hok e
  refine call_meetsIn PySem.F.slot_dict_get dd.typeIs PySem.F.entry_dict_get (PySem.F.args_dict_get_3 _ _ _) (meetsH_dict_get_default (tupleKind (mixKind X.prog X.w)) a b hd r) ⟨tupleKind_room_in1 hu,k,xs,key_of I.hok eb,dd,h _ _ (I.tok _) ?_⟩
  rw[l]
  exact (rel.val k).getD rd
end
def tDGet2 (td ty tx:TE):TE:=fun σ H Q=>td σ H fun x H1=>∃ a,x=.ref a∧IsD H1 a∧ty σ H1 fun y H2=>tx σ H2 fun z H3=>∃ o,DGet H3 a y o∧Q (o.getD z) H3
def tDPop1 (td ty:TE):TE:=fun σ H Q=>td σ H fun x H1=>∃ a,x=.ref a∧IsD H1 a∧ty σ H1 fun y H2=>∃ kvs k v,H2 a=some (.dK kvs)∧y=kV k∧valV kvs k=some v∧Q v (upd H2 a (.dK (dropK kvs k)))
section
variable {X:Cx}{o e f:Expr}{apos cpos:Pos}{td ty tx:TE}
theorem pe_dget2 (hu:X.A.units+1<cLine)(ho:PE X o td)(he:PE X e ty)(hf:PE X f tx)(m:M2 X o "get" apos e f cpos):PE X (.Call (.Attribute o "get" apos) [e,f] [] cpos) (tDGet2 td ty tx):=by
 intro pins s σ H Q I h
 refine wpAny_Call_method m.base m.few m.line PySem.F.plainAttrs_dict PySem.F.slot_dict_get PySem.F.type_dict_get (thn (ho pins s σ H _ I h) fun u s1 ⟨x,H1,I1,rx,a,ex,d,q1⟩=>?_)
 subst ex
 obtain rfl:u=Value.ref a:=rx
 obtain⟨t1,t2,_⟩:=isD_at I1 d
 refine⟨t1,t2,?_⟩
 rw[m.trees]
 refine Calls.callWith_builtin rfl (Calls.evalArgs_plain (Calls.spliced_cons (thn (he pins s1 σ H1 _ I1 q1) fun iv s2 ⟨y,H2,I2,ry,q2⟩ =>
  Calls.spliced_cons (thn (hf pins s2 σ H2 _ I2 q2) fun fv s3 ⟨z,H3,I3,rz,ov,g,q3⟩=>Calls.spliced_nil ?_))))
 exact d_get2 hu I3 g ry rz fun w' s4 I4 rw'=>⟨_,H3,I4,rw',q3⟩
theorem pe_dpop1 (ho:PE X o td)(he:PE X e ty)(m:M1 X o "pop" apos e cpos):PE X (.Call (.Attribute o "pop" apos) [e] [] cpos) (tDPop1 td ty):=by
 intro pins s σ H Q I h
 refine wpAny_Call_method m.base m.few m.line PySem.F.plainAttrs_dict PySem.F.slot_dict_pop PySem.F.type_dict_pop (thn (ho pins s σ H _ I h) fun u s1 ⟨x,H1,I1,rx,a,ex,d,q1⟩=>?_)
 subst ex
 obtain rfl:u=Value.ref a:=rx
 obtain⟨t1,t2,_⟩:=isD_at I1 d
 refine⟨t1,t2,?_⟩
 rw[m.trees]
 refine Calls.callWith_builtin rfl (Calls.evalArgs_plain (Calls.spliced_cons (thn (he pins s1 σ H1 _ I1 q1) fun iv s2 ⟨y,H2,I2,ry,kvs,k,v,ea,ey,l,q2⟩=>Calls.spliced_nil ?_)))
 subst ey
 exact d_pop I2 ea ry l (.inl rfl) fun w' s3 I3 rw'=>⟨v,_,I3,rw',q2⟩
end
section
variable {X:Cx}{pins:List (Addr×Obj)}{σ:St}{H:Hp}{s:Shared}{a:Addr}{kvs:List (Key×V)}{A:Around}{E:Value→Shared→Prop}
end
section
variable {X:Cx}{pins:List (Addr×Obj)}{σ:St}{H:Hp}{s:Shared}{a:Addr}{y:V}{u:Value}{A:Around}{E:Value→Shared→Prop}
end
end L2
namespace Att
open PySem PySem.W PySem.Calls PyProof.Rows
theorem ints_of_wellAll {P:Params}{h:Heap}:∀ (ns:List Int)(vs:List Value),WellAll P h vs (ns.map WData.int)→IntsAre vs ns:=by
 intro ns
 induction ns with
 | nil =>
  intro vs w
  rw[List.map_nil]at w
  cases w
  exact .nil
 | cons n ns ih =>
  intro vs w
  rw[List.map_cons]at w
  cases w with
  | cons a b =>
   cases a
   exact .cons _ _ (ih _ b)
theorem script_of {l:OpenLaw}{n:Nat}(hn:l.most=some n){P:Params}{h:Heap}{args:List WData}{vals:List Value}
  (hpre:l.row.toRowW.claim.pre args=true) (hwl:WellAll P h vals args) :
  ∃ a vs ns,vals=[Value.ref a]∧args=[WData.list (ns.map WData.int)]∧h.get? a=some { cls:=.type "list",data:=.seq vs.toArray }∧IntsAre vs ns∧ns.length≤n:=by
 have hsh:WShape.hasAll [] args [.list .int]=true:=(pre_splitW hpre).1
 have hc:l.pre.holds [] { args:=args }=true:=(pre_splitW hpre).2
 obtain⟨d,r,rfl,h1,h2⟩:=hasAllW_cons hsh
 obtain rfl:=hasAllW_nil h2
 obtain⟨xs,rfl,h3⟩:=hasW_list h1
 obtain⟨ns,rfl⟩:=items_int h3
 have hlen:ns.length≤n:=by
  unfold OpenLaw.pre at hc
  have h4:(WTm.not (.lt (.lit (.int (n:Int))) (.len (.arg 0)))).holds [] { args:=[.list (ns.map .int)] }=true:=by
   have h4:=(holds_andW hc).1
   rw[hn]at h4
   exact h4
  have h5:=condW_of h4 (w_not (w_lt w_lit (w_len_list (w_arg rfl))))
  rw[List.length_map]at h5
  refine Nat.le_of_not_lt fun q=>?_
  have q':(n:Int)<((ns.length:Nat):Int):=by omega
  first
   | (rw[decide_eq_true q']at h5;exact absurd h5 (by decide))
   | (simp at h5;omega)
 cases hwl with
 | cons w1 w2 =>
  cases w2
  cases w1 with
  | list ho hall=>exact⟨_,_,ns,rfl,rfl,ho,ints_of_wellAll ns _ hall,hlen⟩
theorem post_true (l:OpenLaw)(args:List WData):l.row.toRowW.claim.post args (.bool true) args=true :=
 postW_of (r:=l.row.toRowW) (X:=(true == true))
  (show WShape.has [] (.bool true) .bool=true by first | rfl | decide | simp[WShape.has,WShape.arms,WShape.armsAll])
  (show (WTm.eq .res (.lit (.bool true))).value [] { args:=args,res:=some (.bool true),after:=args }=some (.bool (true == true)) from w_eq_bool (w_res rfl) w_lit) rfl
theorem attach_call {l:OpenLaw}{n:Nat}{q:Program}{loose:List Str}{XP:(Str→Option Value)→Heap→Prop}{YP:World→Heap→Prop}{d:DefRec}
  (hn:l.most=some n) (hdf:d.params.defaults=[])
  (call:∀ (w:World)(s₀ s₁:Shared)(mg mb:Str→Option Value)(fa:Addr)(o:Obj)(pm cd doc:Value)(a:Addr)(vs:List Value)(ns:List Int),
   Ground q loose [] XP w s₀ mg mb s₁.heap→YP w s₁.heap →
   s₁.heap.get? fa=some o→o.data=.func (docDef d.name d.params d.body d.scope pm cd doc)→s₁.heap.CodeRec cd d.name→mg d.name=some (.ref fa) →
   s₁.heap.get? a=some { cls:=.type "list",data:=.seq vs.toArray }→IntsAre vs ns→ns.length≤n→s₁.gens = #[] →
   codeAny (model l.prog w) callerA (.call (.ref fa) ⟨[.ref a],[]⟩) (fun r s'=>r=.ok (.ret (.bool true))∧OldK s₁.heap s'.heap∧s'.os=s₁.os∧AllBare s'.gens) s₁) :
  WalkO q loose XP YP l.row.toRowW d [] (fun f vs=>PySem.call f vs):=by
 intro w s₀ s₁ mg mb G Y fa o pm cd doc dV kV ho hd hcd hD hmg hg args vals as hpre hlay hrd hwl hlo
 obtain rfl:dV=.none:=Dflts.none hD hdf
 obtain rfl:kV=.none:=Dflts.noKw hD
 obtain⟨a,vs,ns,rfl,rfl,hobj,hints,hlen⟩:=script_of hn hpre hwl
 refine enter_call (codeAny_mono (call w s₀ s₁ mg mb fa o pm cd doc a vs ns G Y ho (fd_plain hd) hcd hmg hobj hints hlen hg) fun r s' hq=>?_)
 obtain⟨rfl,h2,h3,h4⟩:=hq
 exact⟨.inl ⟨.bool true,.bool true,[],rfl,fun _=>rfl,.bool true,post_true l _,fun _=>⟨List.Pairwise.nil,fun _ hm=>(nomatch hm)⟩⟩,h2,h3,h4⟩
section
variable {prog:Program}{w:World}{A:Around}{E:Value→Shared→Prop}{s:Shared}{K:Frag}
def noObjs (h:Heap):Heap:={ h with objs:=#[] }
def ledger (h:Heap)(L d:Addr):List (Addr×Obj):=(List.range h.objs.size).filterMap fun a=>if a=L∨a=d then none else (h.get? a).map fun o=>(a,o)
end
end Att
namespace L2
open PySem PySem.Spec PyProof.Rows
theorem vals_ints:∀ {vs:List Value}{ns:List Int},IntsAre vs ns→Vals (ns.map V.int) vs
 | _,_,.nil=>.nil
 | _,_,.cons n t h=>.cons ⟨t,rfl⟩ (vals_ints h)
def Only (H:Hp):Prop:=∀ b,H b=none∨∃ o xs,H b=some (.frz o (.lst xs))
theorem law_call {P:Program}{w:World}{K:PySem.W.Frag}{mg mb:Str→Option Value}{CX:CXT}{k:Nat}{fa a:Addr}{fd:FuncData}{x:Str}{sp:Sp}{s₁:Shared}{vs:List Value}{ns:List Int}
  (KX:K.In s₁.heap) (hns:s₁.heap.Ns mainGlobals mg) (hb:s₁.heap.Ns builtinsNs mb) (hbb:∀ x:Str,x≠"__name__"→mb x=bootBuiltins x) (hlim:s₁.heap.NoLimit) (hg:s₁.gens = #[])
  (ha:s₁.heap.get? a=some { cls:=.type "list",data:=.seq vs.toArray }) (hi:IntsAre vs ns) (hl:ns.length≤sizeLine) (hr:Room k callerA)
  (F:∀ base:Heap,K.In base→base.Ns mainGlobals mg→FnOk P w K mg base CX k fa fd [x] sp) (hbind:∀ (s:Shared)(u:Value),BindsTo s fd ⟨[u],[]⟩ [(x,u)])
  (hsp:∀ H:Hp,Only H→SqL K H a (ns.map V.int)→sp [.ref a] H (fun v _=>v=.bl true) fun _ _ _=>False)
  (hCX:∀ H e s',CX [] H s₁ (fun _ _ _=>False) e s'→False) :
  codeAny (model P w) callerA (.call (.ref fa) ⟨[.ref a],[]⟩) (fun r s'=>r=.ok (.ret (.bool true))∧OldK s₁.heap s'.heap∧s'.os=s₁.os∧AllBare s'.gens) s₁:=by
 have rv:=vals_ints hi
 have lenV:=hi.length
 have core:∀ H:Hp,Only H→SqL K H a (ns.map V.int)→HOk P w H s₁.heap→(∀ b,H b≠none→b=a)→(H a≠none→K.lookup a=none) →
   codeAny (model P w) callerA (.call (.ref fa) ⟨[.ref a],[]⟩) (fun r s'=>r=.ok (.ret (.bool true))∧OldK s₁.heap s'.heap∧s'.os=s₁.os∧AllBare s'.gens) s₁:=by
  intro H hO hS hok hA hK
  have base_of:∀ {b:Addr}{o:Obj},s₁.heap.get? b=some o→H b=none→(hidT s₁.heap H).get? b=some o:=fun e n=>hidT_get e n
  have noA:∀ {b:Addr}{o:Obj}{es:Array DictEntry}{ep:Nat},s₁.heap.get? b=some o→o.data=.dict es ep→H b=none:=fun {b o es ep} e d=>by
   cases q:H b with
   | none=>rfl
   | some u =>
    have e':b=a:=hA b (by rw[q];simp)
    subst e'
    rw[ha]at e;cases e
    have d':Data.seq vs.toArray _=Data.dict es ep:=d
    cases d'
  have nsK:∀ {b:Addr}{m:Str→Option Value},s₁.heap.Ns b m→(hidT s₁.heap H).Ns b m:=fun {b m} ⟨o,es,ep,e,d,r⟩=>⟨o,es,ep,base_of e (noA e d),d,r⟩
  have hKb:K.In (hidT s₁.heap H):=fun b o e=>base_of (KX b o e) (by
   cases q:H b with
   | none=>rfl
   | some u =>
    have e':b=a:=hA b (by rw[q];simp)
    subst e'
    rw[hK (by rw[q];simp)]at e;cases e)
  have hM:Mod K mg (hidT s₁.heap H):=⟨hKb,nsK hns,⟨mb,nsK hb,hbb⟩,let ⟨mc,h1,h2⟩:=hlim;⟨mc,nsK h1,h2⟩⟩
  have e0:Env0 P w K mg (hidT s₁.heap H) callerA [] s₁ H:=⟨rfl,hM,fun b o e=>of_hidT e,Nat.le_of_eq (hidT_size _ _),trivial,fun b hb=>absurd (show b∈([]:List Addr) from hb) (by simp),hok,.of_eq hg⟩
  refine codeAny_mono ((F _ hKb (nsK hns)).run callerA [] s₁ H ⟨[.ref a],[]⟩ [.ref a] [.ref a] _ _ hr e0 (hbind s₁ (.ref a)) (.cons rfl .nil) (hsp H hO hS)) fun r s' h=>?_
  cases r with
  | error e=>exact (hCX H e s' h).elim
  | ok fl =>
   cases fl with
   | next=>exact False.elim h
   | brk=>exact False.elim h
   | cont=>exact False.elim h
   | ret u =>
    obtain⟨v,H',os,bare,un,hok',r',q⟩:=h
    have q':v=.bl true:=q
    subst q'
    obtain rfl:u=Value.bool true:=r'
    refine⟨rfl,OldK.of_keep fun b o e=>?_,os,bare⟩
    cases q:H b with
    | none=>exact un.keep b o e q (by intro z;exact absurd (show b∈([]:List Addr) from z) (by simp)) (by simp)
    | some u =>
     rcases hO b with z | ⟨ob,xs,z⟩
     ·rw[q]at z;cases z
     ·have z2:=un.frzs b ob _ z
      obtain⟨e1,_⟩:=hok b _ z
      obtain⟨e2,_⟩:=hok' b _ z2
      rw[e]at e1;cases e1
      exact e2
 cases hk:K.lookup a with
 | some o =>
  have e:=KX a o hk
  rw[ha]at e
  cases e
  refine core (fun _=>none) (fun _=>.inl rfl) (.inr ⟨_,vs.toArray,_,hk,rfl,rfl,rfl,by rw[List.size_toArray,lenV];exact hl,by simpa using rv⟩) (fun b u z=>by have z':(none:Option HO)=some u:=z;cases z') (fun b z=>absurd rfl z) fun z=>absurd rfl z
 | none =>
  refine core (fun b=>if b=a then some (.frz { cls:=.type "list",data:=.seq vs.toArray } (.lst (ns.map V.int))) else none) (fun b=>?_) (.inl (.inr ⟨{ cls:=.type "list",data:=.seq vs.toArray },if_pos rfl⟩)) (fun b u z=>?_) (fun b z=>?_) fun _=>hk
  ·by_cases hb:b=a
   ·exact .inr ⟨_,_,if_pos hb⟩
   ·exact .inl (if_neg hb)
  ·by_cases hb:b=a
   ·have z':=(if_pos hb).symm.trans z
    cases z'
    subst hb
    exact⟨ha,by rw[List.length_map];exact hl,vs,_,rv,ha⟩
   ·have z':=(if_neg hb).symm.trans z
    cases z'
  ·by_cases hb:b=a
   ·exact hb
   ·exact absurd (if_neg hb) z
end L2
namespace L2
open PySem PySem.Spec PyProof.Rows
theorem walk_of {l:PySem.W.OpenLaw}{n k:Nat}{q:Program}{loose:List Str}{XP:(Str→Option Value)→Heap→Prop}{YP:World→Heap→Prop}{d:DefRec}{K:Params→PySem.W.Frag}{CX:World→CXT}{sp:World→Sp}{x:Str}
  (hn:l.most=some n) (hn2:n≤sizeLine) (hdf:d.params.defaults=[]) (hr:Room k callerA)
  (hY:∀ (w:World)(h:Heap),YP w h→(K w.params).In h)
  (F:∀ (w:World)(mg:Str→Option Value)(fa:Addr)(h:Heap),(K w.params).In h→h.Ns mainGlobals mg→mg d.name=some (.ref fa) →
   ∃ fd:FuncData,(∀ (s:Shared)(u:Value),BindsTo s fd ⟨[u],[]⟩ [(x,u)]) ∧
    ∀ base:Heap,(K w.params).In base→base.Ns mainGlobals mg→FnOk l.prog w (K w.params) mg base (CX w) k fa fd [x] (sp w))
  (hsp:∀ (w:World)(H:Hp)(a:Addr)(ns:List Int),ns.length≤n→Only H→SqL (K w.params) H a (ns.map V.int)→sp w [.ref a] H (fun v _=>v=.bl true) fun _ _ _=>False)
  (hCX:∀ (w:World)(H:Hp)(s:Shared)(e:Value)(s':Shared),CX w [] H s (fun _ _ _=>False) e s'→False) :
  PySem.W.WalkO q loose XP YP l.row.toRowW d [] (fun f vs=>PySem.call f vs):=by
 refine Att.attach_call hn hdf fun w s₀ s₁ mg mb fa o pm cd doc a vs ns G Y ho hd hcd hmg hobj hints hlen hg=>?_
 have KX:=hY w _ Y
 obtain⟨fd,hb,hF⟩:=F w mg fa _ KX G.T.g hmg
 exact law_call KX G.T.g G.T.b G.T.builtins G.T.nolimit hg hobj hints (Nat.le_trans hlen hn2) hr hF hb (fun H hO hS=>hsp w H a ns hlen hO hS) fun H e s'=>hCX w H s₁ e s'
end L2
namespace L2
open PySem PySem.Spec PyProof.Rows
def inClass (s:Stmt)(j:Nat):Stmt:=match s with
 | .ClassDef _ _ _ body _ _ _ _ _ _ _=>body.getD j (.Pass ⟨0,0,0,0⟩)
 | _=>.Pass ⟨0,0,0,0⟩
def defArgs (s:Stmt):Arguments:=match s with
 | .FunctionDef _ a _ _ _ _ _ _ _ _=>a
 | _=>{ posonlyargs:=[],args:=[],vararg:=none,kwonlyargs:=[],kw_defaults:=[],kwarg:=none,defaults:=[] }
def defBody (s:Stmt):List Stmt:=match s with
 | .FunctionDef _ _ b _ _ _ _ _ _ _=>b
 | _=>[]
def defScope (s:Stmt):Scope:=match s with
 | .FunctionDef _ _ _ _ _ _ sc _ _ _=>sc
 | _=>{ kind:=.function,names:=[],isGenerator:=false,isCoroutine:=false }
abbrev CX0:CXT:=fun _ _ _ _ _ _=>False
abbrev E0:XK:=fun _ _ _=>False
theorem pass0 {X:Cx}:Passes CX0 X E0:=fun _ _ _ _ _ _ _ h=>h.elim
structure Fun (K:PySem.W.Frag)(x qual:Str)(st:Stmt)(f:Addr)(fd:FuncData):Prop where
 ex:∃ (oc:Value)(od:Option Addr)(kV doc pm:Value)(an:Option Addr)(cdv ct:Value)(osl:Array (Option Value)),
  fd=PySem.W.fnOf x qual (defArgs st) (defBody st) (defScope st) .none kV doc pm an cdv ct∧K.lookup f=some ⟨oc,od,.func fd,osl⟩∧PySem.W.codeIn K cdv qual=true
 kp:PySem.W.keepIn K (.ref f)=true
section
variable {P:Program}{w:World}{K:PySem.W.Frag}{mg:Str→Option Value}{base:Heap}
theorem Fun.ok {x qual:Str}{st:Stmt}{f:Addr}{fd:FuncData}{N ps:List Str}{k:Nat}{sp:Sp}(F:Fun K x qual st f fd)(S:FnScope N ps (defScope st))(len:∀ vs H Q E,sp vs H Q E→vs.length=ps.length)
  (hbody:∀ (cdv:Value)(A:Around)(outer:List Env)(s:Shared)(H:Hp)(vs:List V)(Q:VK)(E:XK),Room k (A.deeper (envOfC qual (defScope st) s.heap.objs.size f cdv))→sp vs H Q E →
   ∃ t,PSs (cxOf CX0 P w K mg base N qual (defScope st) f cdv A outer s H E).nox (defBody st) t∧t { nx:=fun _ H'=>Q .non H',rt:=Q } (start N vs) H):FnOk P w K mg base CX0 (k+1) f fd ps sp:=by
 obtain⟨oc,od,kV,doc,pm,an,cdv,ct,osl,rfl,lk,hcd⟩:=F.ex
 refine fn_of lk hcd S len fun A outer s H vs Q E hr hsp=>?_
 obtain⟨t,h,q⟩:=hbody cdv A outer s H vs Q E hr hsp
 exact⟨t,h.nox,q⟩
theorem Fun.binds {x qual:Str}{st:Stmt}{f:Addr}{fd:FuncData}{ps:List Str}(F:Fun K x qual st f fd)
  (h:∀ (kV doc pm:Value)(an:Option Addr)(cdv ct:Value)(us:List Value),us.length=ps.length→bindArgs (PySem.W.fnOf x qual (defArgs st) (defBody st) (defScope st) .none kV doc pm an cdv ct) ⟨us,[]⟩=pure (ps.zip us)):Binds K fd ps []:=by
 obtain⟨oc,od,kV,doc,pm,an,cdv,ct,osl,rfl,lk,hcd⟩:=F.ex
 exact .all (h kV doc pm an cdv ct)
theorem fun_mk {x qual:Str}{st:Stmt}{f:Addr}{oc:Value}{od an:Option Addr}{osl:Array (Option Value)}{kV doc pm cdv ct:Value}(l:K.lookup f=some ⟨oc,od,.func (PySem.W.fnOf x qual (defArgs st) (defBody st) (defScope st) .none kV doc pm an cdv ct),osl⟩)
  (c:PySem.W.codeIn K cdv qual=true) (k:PySem.W.keepIn K (.ref f)=true):Fun K x qual st f (PySem.W.fnOf x qual (defArgs st) (defBody st) (defScope st) .none kV doc pm an cdv ct):=⟨⟨oc,od,kV,doc,pm,an,cdv,ct,osl,rfl,l,c⟩,k⟩
end
theorem hu_of {A:Around}{k:Nat}(hr:Room k A):A.units+1<cLine:=Nat.lt_of_le_of_lt (Nat.add_le_add_left (by decide:1≤64) _) hr.units
theorem small1000 {n:Nat}(h:n≤1000):n<sizeLine:=Nat.lt_of_le_of_lt h (by decide)
section
variable {X:Cx}
theorem pv (i:Nat){x:Str}{pos:Pos}(hN:X.N[i]? = some x:=by rfl)(hv:Vis X.env.scope x:=by first | exact Or.inl rfl | exact Or.inr (Or.inl rfl) | exact Or.inr (Or.inr rfl))(hd:(x == ("__debug__" : Str))=false:=by decide)
  (hcd:(x == ("__classdict__" : Str))=false:=by decide):PE X (.Name x pos) (tVar i):=pe_var hN hv hd hcd
end
theorem iteF {A B:Prop}(h:B):if false=true then A else B:=by
 rw[if_neg Bool.false_ne_true]
 exact h
theorem iteT {A B:Prop}(h:A):if true=true then A else B:=by
 rw[if_pos rfl]
 exact h
theorem ite2 {c A B:Prop} [Decidable c] (h1:c→A)(h2:¬ c→B):if c then A else B:=by
 by_cases h:c
 ·rw[if_pos h]
  exact h1 h
 ·rw[if_neg h]
  exact h2 h
def Same (H H':Hp):Prop:=∀ b o,H b=some o→H' b=some o
theorem Same.refl (H:Hp):Same H H:=fun _ _ h=>h
theorem Same.trans {H H1 H2:Hp}(a:Same H H1)(b:Same H1 H2):Same H H2:=fun c o h=>b c o (a c o h)
theorem Same.free {H H':Hp}(e:Same H H'){l:Addr}(h:H' l=Option.none):H l=Option.none:=by
 cases q:H l with
 | none=>rfl
 | some o =>
  rw[e l o q]at h
  cases h
theorem Same.seq {K:PySem.W.Frag}{H H':Hp}{a:Addr}{xs:List V}(e:Same H H')(h:SqL K H a xs):SqL K H' a xs:=by
 rcases h with (h | ⟨o,h⟩) | h
 ·exact .inl (.inl (e _ _ h))
 ·exact .inl (.inr ⟨o,e _ _ h⟩)
 ·exact .inr h
section
variable {κ:Type} [DecidableEq κ]
theorem nd_snoc:∀ {l:List κ}{k:κ},l.Nodup→¬ k∈l→(l++[k]).Nodup
 | [],k,_,_=>by simp
 | a::r,k,h,hk=>by
  obtain⟨h1,h2⟩:=List.nodup_cons.mp h
  show (a::(r++[k])).Nodup
  refine List.nodup_cons.mpr ⟨fun m=>?_,nd_snoc h2 fun m=>hk (List.mem_cons.mpr (Or.inr m))⟩
  rcases List.mem_append.mp m with q | q
  ·exact h1 q
  ·exact hk (List.mem_cons.mpr (Or.inl (List.mem_singleton.mp q).symm))
end
end L2
set_option maxHeartbeats 4000000
namespace L2
open PySem PySem.Spec PyProof.Rows
structure CmpSc (so sc:Scope)(N N':List Str)(src:List (Option Nat)):Prop where
 kind:sc.kind=.function
 nocell:∀ y∈sc.names,y.2≠.cell
 loc:∀ y∈sc.names,y.2=.local→sc.names.lookup y.1=some .local
 fre:∀ y∈sc.names,y.2=.free→so.names.lookup y.1=some .cell∨so.names.lookup y.1=some .free
 nd:N'.Nodup
 len:src.length=N'.length
 cap:∀ p∈N'.zip src,(match p.2 with | none=>true | some j=>decide (N[j]? = some p.1∧sc.names.lookup p.1=some .free))=true
def compSt (src:List (Option Nat))(σ:St):St:=src.map fun o=>o.bind fun j=>(σ[j]?).join
def compCx (X:Cx)(sc:Scope)(cl:List (Str×Addr))(C:Addr)(N':List Str)(s:Shared)(H:Hp)(ex:List Addr):Cx where
 prog:=X.prog
 w:=X.w
 K:=X.K
 mg:=X.mg
 base:=X.base
 A:=X.A
 N:=N'
 s₀:=s
 H₀:=H
 env:=compEnvC sc cl C X.env
 outer:=X.stack
 stack:=X.stack
 ex:=ex
 fn:=fun _=>false
 calm:=X.calm
 pn:=[]
 xe:=fun _ _=>False
theorem closure_loop {env:Env}:∀ (names:List (Str×NameKind))(cs:List (Str×Addr)),(∀ y∈names,y.2=.free→∃ c,env.cells.lookup y.1=some c) →
  (∀ x c,cs.lookup x=some c→env.cells.lookup x=some c) →
  ∃ cl:List (Str×Addr),(forIn names cs fun x r=>if (x.2 == NameKind.free)=true then (do let a ←cellOf env x.1;pure (ForInStep.yield ((x.1,a)::r))) else pure (ForInStep.yield r):Sem (List (Str×Addr)))=pure cl ∧
   (∀ x c,cl.lookup x=some c→env.cells.lookup x=some c)∧(∀ x,(∃ c,cs.lookup x=some c)→∃ c,cl.lookup x=some c)∧∀ y∈names,y.2=.free→∃ c,cl.lookup y.1=some c
 | [],cs,_,h2=>⟨cs,by rw[List.forIn_nil],h2,fun _ h=>h,fun _ h=>nomatch h⟩
 | (n,k)::r,cs,h1,h2=>by
  by_cases hk:k=.free
  ·subst hk
   obtain⟨c,hc⟩:=h1 (n,.free) List.mem_cons_self rfl
   have h2':∀ x d,((n,c)::cs).lookup x=some d→env.cells.lookup x=some d:=fun x d e=>by
    rw[List.lookup_cons]at e
    split at e
    ·rename_i hx
     cases e
     have:x=n:=by simpa using hx
     rw[this];exact hc
    ·exact h2 x d e
   obtain⟨cl,e,q1,q2,q3⟩:=closure_loop r ((n,c)::cs) (fun y hy=>h1 y (List.mem_cons_of_mem _ hy)) h2'
   have has:∃ d,((n,c)::cs).lookup n=some d:=⟨c,by simp⟩
   refine⟨cl,?_,q1,fun x ⟨d,hd⟩=>q2 x ?_,fun y hy hf=>?_⟩
   ·rw[List.forIn_cons,←e]
    simp[cellOf,hc]
   ·rw[List.lookup_cons]
    split
    ·exact⟨_,rfl⟩
    ·exact⟨d,hd⟩
   ·rcases List.mem_cons.mp hy with rfl | hy
    ·exact q2 _ has
    ·exact q3 y hy hf
  ·obtain⟨cl,e,q1,q2,q3⟩:=closure_loop r cs (fun y hy=>h1 y (List.mem_cons_of_mem _ hy)) h2
   have hb:(k == NameKind.free)=false:=by simpa using hk
   refine⟨cl,?_,q1,q2,fun y hy hf=>?_⟩
   ·rw[List.forIn_cons,←e]
    simp[hb]
   ·rcases List.mem_cons.mp hy with rfl | hy
    ·exact absurd hf hk
    ·exact q3 y hy hf
theorem closure_of {sc:Scope}{env:Env}(h:∀ y∈sc.names,y.2=.free→∃ c,env.cells.lookup y.1=some c) :
  ∃ cl:List (Str×Addr),closureFor sc env=pure cl∧(∀ x c,cl.lookup x=some c→env.cells.lookup x=some c)∧∀ y∈sc.names,y.2=.free→∃ c,cl.lookup y.1=some c:=by
 obtain⟨cl,e,q1,_,q3⟩:=closure_loop sc.names [] h (fun x c z=>by simp at z)
 refine⟨cl,?_,q1,q3⟩
 unfold closureFor
 show (forIn sc.names [] _ >>= fun cs=>pure cs)=_
 refine Eq.trans (congrArg (fun t=>t >>= fun cs=>pure cs) (Eq.trans ?_ e)) (by simp)
 congr 1
theorem relabel_free {env:Env}:∀ {names:List (Str×NameKind)}{x:Str},(∀ y∈names,y.2≠.cell) →
  ((names.map fun (n,k)=>if (k == NameKind.free&&env.scope.kind == .function&&env.kindOf n == some .cell) then (n,NameKind.cell) else (n,k)).lookup x=some .cell ∨
    (names.map fun (n,k)=>if (k == NameKind.free&&env.scope.kind == .function&&env.kindOf n == some .cell) then (n,NameKind.cell) else (n,k)).lookup x=some .free)→(x,NameKind.free)∈names
 | [],_,_,h=>by simp at h
 | (n,k)::r,x,hc,h=>by
  have ih:=@relabel_free env r x (fun y hy=>hc y (List.mem_cons_of_mem _ hy))
  have h:List.lookup x ((if (k == NameKind.free&&env.scope.kind == .function&&env.kindOf n == some .cell)=true then (n,NameKind.cell) else (n,k))::_)=some .cell∨List.lookup x ((if (k == NameKind.free&&env.scope.kind == .function&&env.kindOf n == some .cell)=true then (n,NameKind.cell) else (n,k))::_)=some .free:=h
  by_cases hb:(k == NameKind.free&&env.scope.kind == .function&&env.kindOf n == some .cell)=true
  ·rw[if_pos hb]at h
   cases hx:x == n with
   | true =>
    have e:x=n:=by simpa using hx
    subst e
    have:k=NameKind.free:=by
     simp only[Bool.and_eq_true,beq_iff_eq]at hb
     exact hb.1.1
    subst this;exact List.mem_cons_self
   | false =>
    simp only[List.lookup_cons,hx]at h
    exact List.mem_cons_of_mem _ (ih h)
  ·rw[if_neg hb]at h
   cases hx:x == n with
   | true =>
    have e:x=n:=by simpa using hx
    subst e
    have hk:=hc (x,k) List.mem_cons_self
    simp only[List.lookup_cons,beq_self_eq_true,Option.some.injEq]at h
    rcases h with h | h
    ·exact absurd h hk
    ·subst h;exact List.mem_cons_self
   | false =>
    simp only[List.lookup_cons,hx]at h
    exact List.mem_cons_of_mem _ (ih h)
theorem relabel_free' {env:Env}:∀ {names:List (Str×NameKind)}{x:Str},names.lookup x=some .free →
  ((names.map fun (n,k)=>if (k == NameKind.free&&env.scope.kind == .function&&env.kindOf n == some .cell) then (n,NameKind.cell) else (n,k)).lookup x=some .cell ∨
    (names.map fun (n,k)=>if (k == NameKind.free&&env.scope.kind == .function&&env.kindOf n == some .cell) then (n,NameKind.cell) else (n,k)).lookup x=some .free)
 | [],_,h=>by simp at h
 | (n,k)::r,x,h=>by
  have ih:=@relabel_free' env r x
  show List.lookup x ((if (k == NameKind.free&&env.scope.kind == .function&&env.kindOf n == some .cell)=true then (n,NameKind.cell) else (n,k))::_)=some .cell∨List.lookup x ((if (k == NameKind.free&&env.scope.kind == .function&&env.kindOf n == some .cell)=true then (n,NameKind.cell) else (n,k))::_)=some .free
  cases hx:x == n with
  | true =>
   simp only[List.lookup_cons,hx,Option.some.injEq]at h
   subst h
   by_cases hb:(NameKind.free == NameKind.free&&env.scope.kind == .function&&env.kindOf n == some .cell)=true
   ·rw[if_pos hb];left;simp only[List.lookup_cons,hx]
   ·rw[if_neg hb];right;simp only[List.lookup_cons,hx]
  | false =>
   simp only[List.lookup_cons,hx]at h
   by_cases hb:(k == NameKind.free&&env.scope.kind == .function&&env.kindOf n == some .cell)=true
   ·rw[if_pos hb];simp only[List.lookup_cons,hx];exact ih h
   ·rw[if_neg hb];simp only[List.lookup_cons,hx];exact ih h
theorem codeAny_compLoop_gen {prog:Program}{w:World}{A:Around}{R:Result→Shared→Prop}{s:Shared}{elt target iter:Expr}{ifs:List Expr}{scope:Scope}{pos:Pos}{it acc:Value}{env:Env}(I:Nat→Shared→Prop)
  (turn:∀ n s,I n s→wpAny (model prog w) A (pyNext it) (fun r s₁=>match r with
   | none=>R (.ok .next) s₁
   | some v=>wpAny (model prog w) A (letOwnedTupleGo target it v) (fun _ s₁'=>wpAny (model prog w) A (assign target env v) (fun _ s₂ =>
     wpAny (model prog w) A (forIn ifs true fun c r=>if r=true then do let ok ←isTrue c env (eval c env);pure (ForInStep.yield ok) else pure (ForInStep.yield r)) (fun ok s₃ =>
      if ok=true then wpAny (model prog w) A (eval elt env) (fun x s₄ =>
       wpAny (model prog w) A (call (.builtin "list.append") [acc,x]) (fun _ s₅=>∃ m,m<n∧I m s₅) (fun _ _=>False) s₄) (fun _ _=>False) s₃
      else ∃ m,m<n∧I m s₃) (fun _ _=>False) s₂) (fun _ _=>False) s₁') (fun _ _=>False) s₁) (fun _ _=>False) s)
  (n:Nat) (h:I n s) :
  codeAny (model prog w) A (.compLoop (.ListComp elt [⟨target,iter,ifs,0⟩] scope pos) 0 it acc env) R s:=by
 refine codeAny_loop rfl I (fun n s hI=>?_) n h
 show wpAny _ A ((compTurn (.ListComp elt [⟨target,iter,ifs,0⟩] scope pos) 0 it acc env).onRaise (fun x=>do noteFrame x env;theTreesLotGoes x)) _ _ s
 refine wpAny_noted ?_
 rw[compTurn_list]
 refine wpAny_bind (wpAny_standAt (wpAny_bind (wpAny_mono (turn n s hI) (fun r s₁ h₁=>?_) fun _ _ h'=>h'.elim)))
 cases r with
 | none=>exact wpAny_pure h₁
 | some v =>
  refine wpAny_bind (wpAny_mono h₁ (fun _ s₁' h₁'=>?_) fun _ _ h'=>h'.elim)
  refine wpAny_bind (wpAny_mono h₁' (fun _ s₂ h₂=>wpAny_bind (wpAny_mono h₂ (fun ok s₃ h₃=>?_) fun _ _ h'=>h'.elim)) fun _ _ h'=>h'.elim)
  cases ok with
  | false=>exact wpAny_pure ⟨rfl,h₃⟩
  | true =>
   exact wpAny_bind (wpAny_bind (wpAny_mono h₃ (fun x s₄ h₄=>wpAny_bind (wpAny_mono h₄ (fun _ s₅ h₅=>wpAny_pure (wpAny_pure ⟨rfl,h₅⟩)) fun _ _ h'=>h'.elim)) fun _ _ h'=>h'.elim))
def PTs (X:Cx)(ifs:List Expr)(t:TT):Prop :=
 ∀ (pins:List (Addr×Obj))(s:Shared)(σ:St)(H:Hp)(Q:Bool→Hp→Prop),Inv X pins σ H s→t σ H Q →
  wpAny (model X.prog X.w) X.A (forIn ifs true fun c r=>if r=true then do let ok ←isTrue c X.env (eval c X.env);pure (ForInStep.yield ok) else pure (ForInStep.yield r)) (TP X pins σ Q) X.xe s
def tYes:TT:=fun _ H Q=>Q true H
theorem pts_nil {X:Cx}:PTs X [] tYes:=fun pins s σ H Q I h=>wpAny_tests_nil ⟨H,I,h⟩
theorem pts_one {X:Cx}{c:Expr}{t:TT}(h:PT X c t):PTs X [c] t:=fun pins s σ H Q I hq=>wpAny_tests_one (h pins s σ H Q I hq)
def tbC (tt:TT)(te:TE)(a:Addr):TS:=fun D σ H=>tt σ H fun b H1=>if b=true then te σ H1 fun y H2=>∃ ys,H2 a=some (.lst ys)∧ys.length<sizeLine∧D.nx σ (upd H2 a (.lst (ys++[y]))) else D.nx σ H1
def LoopF (J:It)(g:TG)(tb:TS)(D:Ends)(σ:St)(H:Hp):Prop:=∃ W:Nat→Nat→St→Hp→Prop,(∃ m,W 0 m σ H)∧∀ i m σ H,W i m σ H →
 (J.stop i H∧D.nx σ H)∨(J.go i H∧∃ N:St→Hp→Prop,(∀ σ' H',N σ' H'→∃ m',m'<m∧W (i+1) m' σ' H')∧∀ x H',J.yld i H x H'→g x σ H' fun σ2 H2=>tb { D with nx:=N,ct:=N,bk:=D.nx } σ2 H2)
def tComp (wi:TI)(g:TG)(tt:TT)(te:TE)(src:List (Option Nat)):TE:=fun σ H Q=>wi σ H fun J H1=>∀ a,H1 a=none →
 LoopF J g (tbC tt te a) { nx:=fun _ H'=>Q (.ref a) H',rt:=fun _ _=>False } (compSt src σ) (upd H1 a (.lst []))
theorem inv_comp {X:Cx}{pins:List (Addr×Obj)}{σ:St}{H:Hp}{s:Shared}{sc so:Scope}{N':List Str}{src:List (Option Nat)}{cl:List (Str×Addr)}{fp:List Addr}{h':Heap}
  (I:Inv X pins σ H s) (hso:X.env.scope=so) (S:CmpSc so sc X.N N' src) (q1:∀ x c,cl.lookup x=some c→X.env.cells.lookup x=some c) (q3:∀ y∈sc.names,y.2=.free→∃ c,cl.lookup y.1=some c)
  (hf:∀ b∈fp,FpOk X pins H b) (hlt:∀ b∈fp,b<s.heap.objs.size) (hns:h'.Ns s.heap.objs.size fun _=>none) (hk:∀ b o,s.heap.get? b=some o→h'.get? b=some o) (tk:Nat) :
  Inv (compCx X sc cl s.heap.objs.size N' s H fp) [] (compSt src σ) H { s with heap:=h',toks:=tk }:=by
 have hb:∀ b∈fp,b≠s.heap.objs.size∧∀ x c,cl.lookup x=some c→c≠b:=fun b z=>⟨Nat.ne_of_lt (hlt b z),fun x c e=>(hf b z).2.2.2.2.1 x c (q1 x c e)⟩
 refine⟨⟨I.ok.mod,?_,I.ok.glob,I.ok.blt,Nat.le_refl _,fun x y c h1 h2=>I.ok.inj x y c (q1 _ _ h1) (q1 _ _ h2),fun x hx=>?_,fun x c hx _=>(by cases hx),I.ok.hd,I.ok.frames,.inl rfl,hb,I.bs,Nat.le_trans I.ok.bsz I.sz,fun b o e z=>?_,fun b z hz=>?_,I.stack,I.stkFree⟩,
  rfl,I.bare,Un.kept hk,⟨_,hns,fun i x v h1 h2 h3=>?_⟩,fun x c e=>?_,I.hok.fresh (Nat.le_refl _),fun x c e=>I.freeC x c (q1 x c e),fun p hp=>absurd (show p∈([]:List (Addr×Obj)) from hp) (by simp),I.hok.kept hk,?_⟩
 ·show (relabel sc X.env).kind=_
  exact S.kind
 ·have hx':(x,NameKind.free)∈sc.names:=relabel_free S.nocell hx
  exact q3 _ hx' rfl
 ·rcases (hf b z).2.2.2.1 with y | y
  ·exact I.ok.noex b o e y
  ·exact absurd (Nat.lt_of_lt_of_le (Heap.lt_size e) (Nat.le_trans I.ok.bsz y)) (Nat.lt_irrefl _)
 ·rcases List.mem_cons.mp (I.stkSub b hz) with y | y
  ·exact (hf b z).2.1 y
  ·exact (hf b z).2.2.1 y
 ·-- the captured names
  have h1':N'[i]? = some x:=h1
  have h2':(compSt src σ)[i]? = some (some v):=h2
  unfold compSt at h2'
  rw[List.getElem?_map]at h2'
  cases hs:src[i]? with
  | none=>rw[hs]at h2';cases h2'
  | some o =>
   rw[hs]at h2'
   have h2'':(o.bind fun j=>(σ[j]?).join)=some v:=Option.some.inj h2'
   cases o with
   | none=>cases h2''
   | some j =>
    have hj:(σ[j]?).join=some v:=h2''
    have hσ:σ[j]? = some (some v):=by
     cases e:σ[j]? with
     | none=>rw[e]at hj;cases hj
     | some z=>rw[e]at hj;rw[show z=some v from hj]
    have hzip:(x,some j)∈N'.zip src:=by
     have:(N'.zip src)[i]? = some (x,some j):=by
      rw[List.getElem?_zip_eq_some];exact⟨h1',hs⟩
     exact List.mem_of_getElem? this
    have hc:=of_decide_eq_true (S.cap _ hzip)
    obtain⟨hN,hfr⟩:X.N[j]? = some x∧sc.names.lookup x=some .free:=hc
    have hmem:(x,NameKind.free)∈sc.names:=PySem.mem_of_lookup hfr
    have hvis:=S.fre _ hmem rfl
    rw[←hso]at hvis
    obtain⟨m,hn,hl⟩:=I.loc
    obtain⟨u,ru,lk⟩:=hl j x v hN hσ (.inr hvis)
    refine⟨u,ru,.inr ⟨relabel_free' hfr,?_⟩⟩
    obtain⟨c,hcl⟩:=q3 _ hmem rfl
    refine⟨c,hcl,?_⟩
    rcases lk with ⟨k,_⟩ | ⟨_,c',e',z⟩
    ·have k:X.env.scope.names.lookup x=some .local:=k
     rcases hvis with y | y<;>(rw[k]at y;cases y)
    ·have:=q1 x c hcl
     rw[e']at this;cases this
     obtain⟨ob,e1,e2⟩:=z
     exact⟨ob,hk _ _ e1,e2⟩
 ·obtain⟨v,ob,e1,e2⟩:=I.cell x c (q1 x c e)
  exact⟨v,ob,hk _ _ e1,e2⟩
 ·show (compSt src σ).length=N'.length
  unfold compSt
  rw[List.length_map];exact S.len
theorem call_append {X:Cx}{pins:List (Addr×Obj)}{σ:St}{H:Hp}{s:Shared}{l:Addr}{xs:List V}{y:V}{u:Value}{E:Value→Shared→Prop}(I:Inv X pins σ H s)(hH:H l=some (.lst xs))(hz:xs.length<sizeLine)(ru:RelV y u) :
  wpAny (model X.prog X.w) X.A (call (.builtin "list.append") [.ref l,u]) (fun _ s'=>Inv X pins σ (upd H l (.lst (xs++[y]))) s') E s:=by
 obtain⟨z,its,n,r,hl,e⟩:=I.lstM hH
 refine call_meets F.slot_list_append ⟨_,e,rfl⟩ F.entry_list_append (F.args_list_append_2 _ _) (PySem.list_append l its.toArray n u (by rw[List.size_toArray];omega)) ⟨e,?_⟩
 refine I.lset (its':=its++[u]) hH e (by simp) (r.append (.cons ru .nil)) ?_
 rw[List.length_append,List.length_singleton]
 omega
theorem pe_comp {X:Cx}{elt tg iter:Expr}{ifs:List Expr}{sc so:Scope}{pos:Pos}{N':List Str}{src:List (Option Nat)}{wi:TI}{g:TG}{tt:TT}{te:TE}{N:List Str}(hso:X.env.scope=so)(hXN:X.N=N)(S:CmpSc so sc N N' src)(hc:X.calm=true)(hi:PI X tg iter wi)
  (hb:∀ (cl:List (Str×Addr))(C:Addr)(s:Shared)(H:Hp)(ex:List Addr),PG (compCx X sc cl C N' s H ex) tg g∧PTs (compCx X sc cl C N' s H ex) ifs tt∧PE (compCx X sc cl C N' s H ex) elt te)
  (hs:∀ x,foldedSetIterable iter X.env x=pure x:=by intro _;rfl):PE X (.ListComp elt [⟨tg,iter,ifs,0⟩] sc pos) (tComp wi g tt te src):=by
 subst hXN
 intro pins s σ H Q I h
 obtain⟨cl,hcl,q1,q3⟩:=closure_of (sc:=sc) (env:=X.env) fun y hy hf=>by
  have:=S.fre y hy hf
  rw[←hso]at this
  exact I.ok.has y.1 this
 rw[eval_ListComp]
 refine wpAny_comprehension_free (use:=none) rfl hs hcl S.kind S.loc (thn (hi pins s σ H _ I h) fun v s1 h1=>thn h1 fun itv s2 h2=>?_)
 obtain⟨it,fp,tn,J,H2,e,I2,T,st2,f2,hR⟩:=h2
 subst e
 refine wpAny_newObj_type ?_
 have I3:Inv X pins σ (upd H2 s2.heap.objs.size (.lst [])) { s2 with heap:=s2.heap.push { cls:=.type "list",dict:=none,data:=.seq ([]:List Value).toArray } } :=
  I2.laid (t':=s2.toks) (fun b u q=>Heap.get?_push_of_some _ q) (Nat.le_refl _) ⟨Nat.zero_le _,[],0,.nil,Heap.get?_push_size _ rfl⟩
 have hfr:=I2.hok.fresh (Nat.le_refl s2.heap.objs.size)
 obtain⟨W,⟨m0,w0⟩,turn⟩:=hR _ hfr
 have flt:∀ b∈fp,b<s2.heap.objs.size:=fun b hb=>by obtain⟨o,e,_⟩:=T.obj _ _ st2 b hb;exact Heap.lt_size e
 generalize hs3:({ s2 with heap:=s2.heap.push { cls:=.type "list",dict:=none,data:=.seq ([]:List Value).toArray } }:Shared)=s3 at I3 ⊢
 have e3:s3.heap=s2.heap.push { cls:=.type "list",dict:=none,data:=.seq ([]:List Value).toArray }:=by rw[←hs3]
 have sz3:s3.heap.objs.size=s2.heap.objs.size+1:=by rw[e3,Heap.size_push]
 have hf3:∀ b∈fp,FpOk X pins (upd H2 s2.heap.objs.size (.lst [])) b:=fun b hb=>⟨by rw[upd_ne (Nat.ne_of_lt (flt b hb))];exact (f2 b hb).1,(f2 b hb).2⟩
 have flt3:∀ b∈fp,b<s3.heap.objs.size:=fun b hb=>by rw[sz3];exact Nat.lt_succ_of_lt (flt b hb)
 have st3:tn 0 s3.heap:=T.keep _ _ _ st2 fun b _ o e=>by rw[e3];exact Heap.get?_push_of_some _ e
 refine wpAny_newFunctionEnv S.nocell (by intro y hy;simp at hy) (fun h4 hns4 hsb4=>?_) S.kind
 have kp4:∀ b o,s3.heap.get? b=some o→h4.get? b=some o:=fun b o e=>hsb4.extBut b o (Nat.ne_of_lt (Heap.lt_size e)) (Heap.get?_push_of_some _ e)
 have I4:=inv_comp (h':=h4) I3 hso S q1 q3 hf3 flt3 (by simpa using hns4) kp4 (s3.toks+([]:List (Str×Value)).length)
 have st4:tn 0 h4:=T.keep _ _ _ st3 fun b _ o e=>kp4 b o e
 generalize hC:s3.heap.objs.size=C at I4 hns4 hsb4 ⊢
 obtain⟨hg,ht,he⟩:=hb cl C s3 (upd H2 s2.heap.objs.size (.lst [])) fp
 let Y:Cx:=compCx X sc cl C N' s3 (upd H2 s2.heap.objs.size (.lst [])) fp
 have loop:∀ s5:Shared,s5={ s3 with heap:=h4,toks:=s3.toks+([]:List (Str×Value)).length }→codeAny (model X.prog X.w) X.A (.compLoop (.ListComp elt [⟨tg,iter,ifs,0⟩] sc pos) 0 (.ref it) (.ref s2.heap.objs.size) (compEnvC sc cl C X.env))
   (compPost (model X.prog X.w) X.A X.xe none (EP X pins σ Q) (.ref s2.heap.objs.size) C) s5:=by
  rintro s5 rfl
  have stat:∀ {H':Hp},(∀ b∈fp,H' b=none)→∀ b∈fp,FpOk Y [] H' b:=fun {H'} hn b hb=>by
   obtain⟨f0,f1,f2',f3,f4,f5⟩:=hf3 b hb
   refine⟨hn b hb,?_,fun z=>?_,.inl hb,fun x c e=>f4 x c (q1 x c e),fun p hp=>absurd (show p∈([]:List (Addr×Obj)) from hp) (by simp)⟩
   ·show b≠C
    rw[←hC];exact Nat.ne_of_lt (flt3 b hb)
   ·have z:b∈frs X.stack:=z
    rcases List.mem_cons.mp (I3.stkSub b z) with y | y
    ·exact f1 y
    ·exact f2' y
  refine codeAny_compLoop_gen (fun n s'=>∃ i σ' H',Inv Y [] σ' H' s'∧tn i s'.heap∧(∀ b∈fp,H' b=none)∧W i n σ' H') ?_ m0 ⟨0,_,_,I4,st4,fun b hb=>(hf3 b hb).1,w0⟩
  rintro n s6 ⟨i,σ6,H6,I6,st6,fr6,w6⟩
  rcases turn i n σ6 H6 w6 with ⟨stop,qn⟩ | ⟨go,Nx,hN,step⟩
  ·refine thn (T.done Y rfl rfl rfl hc i [] s6 σ6 H6 _ I6 (stat fr6) st6 stop) fun r s7 ⟨hr,I7⟩=>?_
   subst hr
   obtain⟨m,hn,_⟩:=id I7.loc
   refine⟨m,hn,fun h' hsb=>?_⟩
   have neC:∀ b o,s3.heap.get? b=some o→b≠C:=fun b o e=>by rw[←hC];exact Nat.ne_of_lt (Heap.lt_size e)
   have freeC:H6 C=none:=I7.free
   have un:Un (frs X.stack) fp (upd H2 s2.heap.objs.size (.lst [])) H6 s3.heap h' :=
    ⟨fun b o e n hb hx=>(hsb.2 b (neC b o e)).trans (I7.base.keep b o e n hb hx),fun b o e n hb hx=>by
      obtain⟨sl,q⟩:=I7.base.slot b o e n hb hx
      exact⟨sl,(hsb.2 b (neC b o e)).trans q⟩,I7.base.free,fun b o e hx=>by
      obtain⟨o',q⟩:=I7.base.there b o e hx
      exact⟨o',(hsb.2 b (neC b o e)).trans q⟩,I7.base.tups,I7.base.frzs,I7.base.tbls⟩
   have hok:HOk X.prog X.w H6 h':=fun b ob e=>by
    refine (I7.hok b ob e).stay (fun c w' hc' q=>(hsb.2 c ?_).trans q) (fun _ q=>q) fun _ _ q=>q
    rintro rfl
    rcases hc' with z | z
    ·rw[←z,freeC]at e;cases e
    ·rw[freeC]at z;cases z
   have J7:Inv X pins σ H6 { s7 with heap:=h' }:=I3.call' (ch:=fp) (s':={ s7 with heap:=h' }) I7.os un hok I7.bare fun b hb=>⟨(hf3 b hb).2.2.2.1,(hf3 b hb).2.1,(hf3 b hb).2.2.2.2.1,(hf3 b hb).2.2.2.2.2⟩
   exact⟨.ref s2.heap.objs.size,H6,J7,rfl,qn⟩
  ·refine thn (T.item Y rfl rfl rfl hc i [] s6 σ6 H6 _ I6 (stat fr6) st6 go) fun r s7 ⟨u,hr,h7⟩=>?_
   subst hr
   refine thn h7 fun _ s8 ⟨x,H8,I8,r8,y8,st8,fr8⟩=>?_
   have I8':=I8.pinned (stat fr8) (T.obj _ _ st8)
   refine thn (hg _ s8 σ6 H8 x u _ I8' r8 (step x H8 y8)) fun _ s9 ⟨σ9,H9,I9,q9⟩=>?_
   have again:∀ {s':Shared}{σ7:St}{H7:Hp},Inv Y ([]++pinsAt fp s8.heap) σ7 H7 s'→Nx σ7 H7→∃ m,m<n∧∃ i σ' H',Inv Y [] σ' H' s'∧tn i s'.heap∧(∀ b∈fp,H' b=none)∧W i m σ' H':=fun {s' σ7 H7} I7 n7=>by
    obtain⟨m',hm,w7⟩:=hN σ7 H7 n7
    refine⟨m',hm,i+1,σ7,H7,I7.unpinned,T.keep _ _ _ st8 fun b hb o e=>(I7.pin (b,o) (List.mem_append_right _ (List.mem_append_right _ (mem_pinsAt hb e)))).1,fun b hb=>?_,w7⟩
    obtain⟨o,e,d⟩:=T.obj _ _ st8 b hb
    exact (I7.pin (b,o) (List.mem_append_right _ (List.mem_append_right _ (mem_pinsAt hb e)))).2.1
   refine thn (ht _ s9 σ9 H9 _ I9 q9) fun ok s10 ⟨H10,I10,q10⟩=>?_
   cases ok with
   | false =>
    rw[if_neg Bool.false_ne_true]at q10 ⊢
    exact again I10 q10
   | true =>
    rw[if_pos rfl]at q10 ⊢
    refine thn (he _ s10 σ9 H10 _ I10 q10) fun y s11 ⟨yv,H11,I11,ry,ys,hys,hlen,q11⟩=>?_
    exact thn (call_append (X:=Y) I11 hys hlen ry) fun _ s12 I12=>again I12 q11
 exact codeAny_compStart_list (loop _ rfl) (T.self _ 0 _ _ _ st4 (loop _ rfl))
def tCompS (wi:TI)(g:TG)(tt:TT)(te:TE)(src:List (Option Nat))(i:Nat):TS:=fun D σ H=>wi σ H fun J H1=>∀ a,H1 a=none →
 LoopF J g (tbC tt te a) { nx:=fun _ H'=>D.nx (σ.set i (some (.ref a))) H',rt:=fun _ _=>False } (compSt src σ) (upd H1 a (.lst []))
theorem ps_comp {X:Cx}{ix:Nat}{x:Str}{px spos:Pos}{elt tg iter:Expr}{ifs:List Expr}{sc so:Scope}{pos:Pos}{N':List Str}{src:List (Option Nat)}{wi:TI}{g:TG}{tt:TT}{te:TE}{N:List Str}(hso:X.env.scope=so)(hXN:X.N=N)(S:CmpSc so sc N N' src)(hc:X.calm=true)(hi:PI X tg iter wi)
  (hb:∀ (cl:List (Str×Addr))(C:Addr)(s:Shared)(H:Hp)(ex:List Addr),PG (compCx X sc cl C N' s H ex) tg g∧PTs (compCx X sc cl C N' s H ex) ifs tt∧PE (compCx X sc cl C N' s H ex) elt te)
  (hnd:X.N.Nodup) (hix:X.N[ix]? = some x) (hx:X.env.scope.names.lookup x=some .local)
  (hsw:swapsWith (.ListComp elt [⟨tg,iter,ifs,0⟩] sc pos) (some (.Name x px)) spos.line X.env=pure true:=by rfl)
  (hs:∀ x,foldedSetIterable iter X.env x=pure x:=by intro _;rfl):PS X (.Assign [.Name x px] (.ListComp elt [⟨tg,iter,ifs,0⟩] sc pos) spos) (tCompS wi g tt te src ix):=by
 subst hXN
 intro pins s σ H D I h
 obtain⟨cl,hcl,q1,q3⟩:=closure_of (sc:=sc) (env:=X.env) fun y hy hf=>by
  have:=S.fre y hy hf
  rw[←hso]at this
  exact I.ok.has y.1 this
 rw[exec_Assign_Name_used _ _ _ _ hsw]
 refine wpAny_bind (wpAny_standAt (wpAny_bind ?_))
 show wpAny _ X.A (do let _ ←comprehension (.ListComp elt [⟨tg,iter,ifs,0⟩] sc pos) sc X.env _ (newList []) false (eval iter X.env) (some (assign (.Name x px) X.env))) _ _ s
 refine wpAny_bind (wpAny_mono (wpAny_comprehension_free (use:=some (assign (.Name x px) X.env)) (Q:=fun _ s'=>SP X pins D .next s') rfl hs hcl S.kind S.loc (thn (hi pins s σ H _ I h) fun v s1 h1=>thn h1 fun itv s2 h2=>?_)) (fun _ s' hq=>wpAny_pure (wpAny_pure hq)) fun _ _ e=>e)
 obtain⟨it,fp,tn,J,H2,e,I2,T,st2,f2,hR⟩:=h2
 subst e
 refine wpAny_newObj_type ?_
 have I3:Inv X pins σ (upd H2 s2.heap.objs.size (.lst [])) { s2 with heap:=s2.heap.push { cls:=.type "list",dict:=none,data:=.seq ([]:List Value).toArray } } :=
  I2.laid (t':=s2.toks) (fun b u q=>Heap.get?_push_of_some _ q) (Nat.le_refl _) ⟨Nat.zero_le _,[],0,.nil,Heap.get?_push_size _ rfl⟩
 have hfr:=I2.hok.fresh (Nat.le_refl s2.heap.objs.size)
 obtain⟨W,⟨m0,w0⟩,turn⟩:=hR _ hfr
 have flt:∀ b∈fp,b<s2.heap.objs.size:=fun b hb=>by obtain⟨o,e,_⟩:=T.obj _ _ st2 b hb;exact Heap.lt_size e
 generalize hs3:({ s2 with heap:=s2.heap.push { cls:=.type "list",dict:=none,data:=.seq ([]:List Value).toArray } }:Shared)=s3 at I3 ⊢
 have e3:s3.heap=s2.heap.push { cls:=.type "list",dict:=none,data:=.seq ([]:List Value).toArray }:=by rw[←hs3]
 have sz3:s3.heap.objs.size=s2.heap.objs.size+1:=by rw[e3,Heap.size_push]
 have hf3:∀ b∈fp,FpOk X pins (upd H2 s2.heap.objs.size (.lst [])) b:=fun b hb=>⟨by rw[upd_ne (Nat.ne_of_lt (flt b hb))];exact (f2 b hb).1,(f2 b hb).2⟩
 have flt3:∀ b∈fp,b<s3.heap.objs.size:=fun b hb=>by rw[sz3];exact Nat.lt_succ_of_lt (flt b hb)
 have st3:tn 0 s3.heap:=T.keep _ _ _ st2 fun b _ o e=>by rw[e3];exact Heap.get?_push_of_some _ e
 refine wpAny_newFunctionEnv S.nocell (by intro y hy;simp at hy) (fun h4 hns4 hsb4=>?_) S.kind
 have kp4:∀ b o,s3.heap.get? b=some o→h4.get? b=some o:=fun b o e=>hsb4.extBut b o (Nat.ne_of_lt (Heap.lt_size e)) (Heap.get?_push_of_some _ e)
 have I4:=inv_comp (h':=h4) I3 hso S q1 q3 hf3 flt3 (by simpa using hns4) kp4 (s3.toks+([]:List (Str×Value)).length)
 have st4:tn 0 h4:=T.keep _ _ _ st3 fun b _ o e=>kp4 b o e
 generalize hC:s3.heap.objs.size=C at I4 hns4 hsb4 ⊢
 obtain⟨hg,ht,he⟩:=hb cl C s3 (upd H2 s2.heap.objs.size (.lst [])) fp
 let Y:Cx:=compCx X sc cl C N' s3 (upd H2 s2.heap.objs.size (.lst [])) fp
 have loop:∀ s5:Shared,s5={ s3 with heap:=h4,toks:=s3.toks+([]:List (Str×Value)).length }→codeAny (model X.prog X.w) X.A (.compLoop (.ListComp elt [⟨tg,iter,ifs,0⟩] sc pos) 0 (.ref it) (.ref s2.heap.objs.size) (compEnvC sc cl C X.env))
   (compPost (model X.prog X.w) X.A X.xe (some (assign (.Name x px) X.env)) (fun _ s'=>SP X pins D .next s') (.ref s2.heap.objs.size) C) s5:=by
  rintro s5 rfl
  have stat:∀ {H':Hp},(∀ b∈fp,H' b=none)→∀ b∈fp,FpOk Y [] H' b:=fun {H'} hn b hb=>by
   obtain⟨f0,f1,f2',f3,f4,f5⟩:=hf3 b hb
   refine⟨hn b hb,?_,fun z=>?_,.inl hb,fun x c e=>f4 x c (q1 x c e),fun p hp=>absurd (show p∈([]:List (Addr×Obj)) from hp) (by simp)⟩
   ·show b≠C
    rw[←hC];exact Nat.ne_of_lt (flt3 b hb)
   ·have z:b∈frs X.stack:=z
    rcases List.mem_cons.mp (I3.stkSub b z) with y | y
    ·exact f1 y
    ·exact f2' y
  refine codeAny_compLoop_gen (fun n s'=>∃ i σ' H',Inv Y [] σ' H' s'∧tn i s'.heap∧(∀ b∈fp,H' b=none)∧W i n σ' H') ?_ m0 ⟨0,_,_,I4,st4,fun b hb=>(hf3 b hb).1,w0⟩
  rintro n s6 ⟨i,σ6,H6,I6,st6,fr6,w6⟩
  rcases turn i n σ6 H6 w6 with ⟨stop,qn⟩ | ⟨go,Nx,hN,step⟩
  ·refine thn (T.done Y rfl rfl rfl hc i [] s6 σ6 H6 _ I6 (stat fr6) st6 stop) fun r s7 ⟨hr,I7⟩=>?_
   subst hr
   obtain⟨m,hn,_⟩:=id I7.loc
   have freeC:H6 C=none:=I7.free
   have J7:Inv X pins σ H6 s7:=I3.call' (ch:=fp) (s':=s7) I7.os I7.base I7.hok I7.bare fun b hb=>⟨(hf3 b hb).2.2.2.1,(hf3 b hb).2.1,(hf3 b hb).2.2.2.2.1,(hf3 b hb).2.2.2.2.2⟩
   have hC3:∀ b o,s3.heap.get? b=some o→b≠C:=fun b o e=>by rw[←hC];exact Nat.ne_of_lt (Heap.lt_size e)
   have hlC:X.env.locals≠C:=by obtain⟨m3,⟨o3,_,_,e3',_⟩,_⟩:=I3.loc;exact hC3 _ _ e3'
   have hcC:∀ y c,X.env.cells.lookup y=some c→c≠C:=fun y c e=>by obtain⟨v3,o3,e3',_⟩:=I3.cell y c e;exact hC3 _ _ e3'
   have hpC:∀ p∈X.pn++pins,p.1≠C:=fun p hp=>hC3 _ _ (I3.pin p hp).1
   refine wpAny_assign_Name (store_ok2 (i:=ix) (v:=.ref s2.heap.objs.size) J7 hnd hix (.inl hx) rfl (fun s8 I8 ⟨a8,sb8,ha8⟩=>?_) (.inr hx))
   have ha8C:C≠a8:=by
    rcases ha8 with z | z
    ·rw[z];exact Ne.symm hlC
    ·exact Ne.symm (hcC _ _ z)
   refine⟨m,hn.sameBut sb8 ha8C,fun h' hsb=>?_⟩
   have I9:Inv X pins (σ.set ix (some (.ref s2.heap.objs.size))) H6 { s8 with heap:=h' } :=
    I8.turned (it:=C) (t':=s8.toks) (fun b o hb e=>(hsb.2 b hb).trans e) freeC (Ne.symm hlC) (.inr (by rw[←hC];exact I3.sz)) hcC hpC
   exact⟨_,H6,I9,qn⟩
  ·refine thn (T.item Y rfl rfl rfl hc i [] s6 σ6 H6 _ I6 (stat fr6) st6 go) fun r s7 ⟨u,hr,h7⟩=>?_
   subst hr
   refine thn h7 fun _ s8 ⟨x,H8,I8,r8,y8,st8,fr8⟩=>?_
   have I8':=I8.pinned (stat fr8) (T.obj _ _ st8)
   refine thn (hg _ s8 σ6 H8 x u _ I8' r8 (step x H8 y8)) fun _ s9 ⟨σ9,H9,I9,q9⟩=>?_
   have again:∀ {s':Shared}{σ7:St}{H7:Hp},Inv Y ([]++pinsAt fp s8.heap) σ7 H7 s'→Nx σ7 H7→∃ m,m<n∧∃ i σ' H',Inv Y [] σ' H' s'∧tn i s'.heap∧(∀ b∈fp,H' b=none)∧W i m σ' H':=fun {s' σ7 H7} I7 n7=>by
    obtain⟨m',hm,w7⟩:=hN σ7 H7 n7
    refine⟨m',hm,i+1,σ7,H7,I7.unpinned,T.keep _ _ _ st8 fun b hb o e=>(I7.pin (b,o) (List.mem_append_right _ (List.mem_append_right _ (mem_pinsAt hb e)))).1,fun b hb=>?_,w7⟩
    obtain⟨o,e,d⟩:=T.obj _ _ st8 b hb
    exact (I7.pin (b,o) (List.mem_append_right _ (List.mem_append_right _ (mem_pinsAt hb e)))).2.1
   refine thn (ht _ s9 σ9 H9 _ I9 q9) fun ok s10 ⟨H10,I10,q10⟩=>?_
   cases ok with
   | false =>
    rw[if_neg Bool.false_ne_true]at q10 ⊢
    exact again I10 q10
   | true =>
    rw[if_pos rfl]at q10 ⊢
    refine thn (he _ s10 σ9 H10 _ I10 q10) fun y s11 ⟨yv,H11,I11,ry,ys,hys,hlen,q11⟩=>?_
    exact thn (call_append (X:=Y) I11 hys hlen ry) fun _ s12 I12=>again I12 q11
 exact codeAny_compStart_list (loop _ rfl) (T.self _ 0 _ _ _ st4 (loop _ rfl))
end L2
namespace L2
open PySem PySem.Spec PyProof.Rows
section
variable {X:Cx}
def CDivB (i j:Int):Prop:=0<j∧j<1152921504606846976
theorem op_fdivB:OpR X (binaryOp .FloorDiv) (rI CDivB fun i j=>.int (i/j)):=opI fun i j _ _ _ _ _ hc q=>by
 have h1:(0:Int)<j:=hc.1
 have h2:j<1152921504606846976:=hc.2
 refine floordiv_int (by omega) (by rw[Int.fdiv_eq_ediv_of_nonneg i (by omega)];exact q) (.inl (PyProof.noPylong_of_log2 ?_))
 have h0:j.natAbs≠0:=by omega
 have:j.natAbs.log2<60:=(Nat.log2_lt h0).mpr (by omega)
 omega
theorem call_isi:CallR X (.builtin "isinstance") (fun xs H Q=>∃ x T t b,xs=[x,.ty T]∧TyOf X.K H x t∧PySem.W.kitOne X.K t (.type T)=some b∧Q (.bl b) H):=by
 intro pins s σ H xs us Q I r h
 obtain⟨x,T,t,b,rfl,ty,e,q⟩:=h
 cases r with
 | cons rx r2 =>
  cases r2 with
  | cons rt r3 =>
   cases r3
   cases rt
   exact isinst_ok I rx ty e fun tk=>⟨.bl b,H,I.tok tk,rfl,q⟩
theorem ints_of_vals:∀ {ns:List Int}{us:List Value},Vals (ns.map V.int) us→IntsAre us ns
 | [],_,r=>by cases r;exact IntsAre.nil
 | n::ns,_,r=>by
  cases r with
  | cons r t=>obtain⟨tk,rfl⟩:=r;exact IntsAre.cons _ _ (ints_of_vals t)
theorem vals_of_ints:∀ {ns:List Int}{us:List Value},IntsAre us ns→Vals (ns.map V.int) us:=by
 intro ns
 induction ns with
 | nil=>intro us h;cases h;exact .nil
 | cons n ns ih =>
  intro us h
  cases h with
  | cons _ _ t=>exact .cons ⟨_,rfl⟩ (ih t)
def sortI:List Int→List Int:=fun l=>l.mergeSort (fun a b=>decide (a≤b))
theorem sort_unique {l m:List Int}(hp:m.Perm l)(hs:m.Pairwise (·≤·)):m=sortI l:=by
 have h1:(sortI l).Pairwise (fun a b=>decide (a≤b)=true):=List.pairwise_mergeSort (by intro a b c;simp;omega) (by intro a b;simp;omega) l
 have h2:(sortI l).Pairwise (·≤·):=h1.imp (by simp)
 have h3:m.Perm (sortI l):=hp.trans (List.mergeSort_perm l _).symm
 exact h3.eq_of_pairwise (fun a b _ _ h1 h2=>Int.le_antisymm h1 h2) hs h2
theorem vals_pw:∀ {xs:List V}{us:List Value},xs.length=us.length→(∀ (i:Nat) x u,xs[i]? = some x→us[i]? = some u→RelV x u)→Vals xs us
 | [],[],_,_=>.nil
 | x::xs,u::us,hl,h=>.cons (h 0 x u rfl rfl) (vals_pw (by simpa using hl) fun i y v e1 e2=>h (i+1) y v (by simpa using e1) (by simpa using e2))
 | [],_::_,hl,_=>by simp at hl
 | _::_,[],hl,_=>by simp at hl
theorem call_sortedD (hc:X.calm=true):CallR X (.builtin "sorted") (fun xs H Q=>∃ (p:Addr)(kvs:List (Key×V))(ns:List Int),xs=[.ref p]∧H p=some (.dK kvs)∧kvs.map (·.1)=ns.map Sum.inl∧ns.length<64∧∀ l,H l=none→Q (.ref l) (upd H l (.lst ((sortI ns).map V.int)))):=by
 intro pins s σ H xs us Q I r h
 obtain⟨p,kvs,ns,rfl,hH,hk,h64,q⟩:=h
 obtain⟨u,rfl,rx⟩:=vals1 r
 cases rx
 obtain⟨hz,lo,vs,rel,dd⟩:=(show ObjOk X.prog X.w H s.heap p (.dK kvs) from I.hok p _ hH)
 obtain⟨ep,hat⟩:=dd.dictAt
 have hlk:kvs.length=ns.length:=by have:=congrArg List.length hk;simpa using this
 have hlv:kvs.length=vs.length:=Paired.length rel
 refine PySem.Calls.call_function_entry kind_sorted plain_sorted entry_sorted (args_sorted1 _) ?_
 unfold Builtin.«sorted»
 refine wpAny_bind (m:=checkCount "sorted" 1 1 _) (wpAny_pure ?_)
 refine wpAny_bind (PySem.W.kdu_collect (A:=X.A.in1) (PySem.W.kdl_dict (knd:=mixKind X.prog X.w) (kvs:=vs) (ep:=ep) lo) (I.ok.hd hc) hat (by rw[←hlv];exact hz) fun h' tk acc kp hacc=>?_)
 have hal:acc.toList.length=vs.length:=by rw[Array.length_toList];exact hacc.1
 refine wpAny_bind (wpAny_newList ?_ (by rw[hal,←hlv];exact hz))
 have rI:Vals (ns.map V.int) acc.toList:=vals_pw (by rw[List.length_map,hal];omega) fun i x v e1 e2=>by
  obtain⟨k,y,hx,hks⟩:=hacc.2 i v (by rw[←Array.getElem?_toList];exact e2)
  have e3:(vs.map (·.1))[i]? = some k:=by rw[List.getElem?_map,hx];rfl
  rw[←rel.keys,hk,List.getElem?_map]at e3
  rw[List.getElem?_map]at e1
  cases en:ns[i]? with
  | none=>rw[en]at e1;cases e1
  | some n =>
   rw[en]at e1 e3
   have e1':V.int n=x:=Option.some.inj e1
   subst e1'
   have e4:(Sum.inl n:Key)=k:=Option.some.inj e3
   subst e4
   rcases keyIs_shape (k:=Sum.inl n) (v:=v) hks with ⟨j,t,ej,ev⟩ | ⟨j,t,ej,_⟩
   ·cases ej;exact⟨t,ev⟩
   ·cases ej
 have hoL:(h'.push (seqObj "list" acc.toList.toArray 0)).get? h'.objs.size=some (seqObj "list" acc.toList.toArray 0):=Heap.get?_push_size _ rfl
 refine wpAny_bind (wpAny_holding (wpAny_call_entry slot_list_sort ⟨_,hoL,rfl⟩ entry_list_sort (list_sort_tree hoL (ints_of_vals rI) (by rw[hal];omega) fun out ns' a1 a2 a3=>⟨_,rfl,?_⟩) (args_list_sort _)))
 refine wpAny_pure ⟨_,rfl,?_⟩
 have en:ns'=sortI ns:=sort_unique a2 a3
 subst en
 obtain⟨e,he⟩:=sortedHeap_at (vs:=acc.toList) (out:=out) hoL
 have I1:Inv X pins σ H { s with heap:=h',toks:=tk }:=I.kept kp
 refine⟨.ref h'.objs.size,_,I1.laid (t':=tk) (a:=h'.objs.size) (o:=.lst ((sortI ns).map V.int)) (fun b o e=>?_) (Nat.le_refl _) ⟨?_,out.toList,e,vals_of_ints a1,by simpa using he⟩,rfl,q _ (I1.hok.fresh (Nat.le_refl _))⟩
 ·rw[sortedHeap_old (Nat.ne_of_lt (Heap.lt_size e)) (by rw[size_push'];exact Nat.lt_succ_of_lt (Heap.lt_size e))]
  exact Heap.get?_push_of_some _ e
 ·have:=a2.length_eq
  rw[List.length_map]
  omega
end
end L2
namespace L2
open PySem PySem.Spec PyProof.Rows
inductive Dt where
 | at (v:V)
 | sq (tup:Bool) (ds:List Dt)
def flat3:V→Bool
 | .non=>true
 | .int _=>true
 | .str _=>true
 | _=>false
theorem flat3_flat {v:V}(h:flat3 v=true):flatV v=true:=by cases v<;>first | rfl | cases h
theorem eqV_iff {x y:V}(hx:flat3 x=true)(hy:flat3 y=true):eqV x y=true↔x=y:=by
 cases x<;>cases y<;>first | (cases hx;done) | (cases hy;done) | simp[eqV]
def SqQ (K:PySem.W.Frag)(H:Hp)(t:Bool)(a:Addr)(xs:List V):Prop:=if t=true then SqT K H a xs else SqL K H a xs
def RD (K:PySem.W.Frag)(H:Hp):Nat→V→Dt→Prop
 | 0,v,d=>flat3 v=true∧d=.at v
 | n+1,v,d=>(flat3 v=true∧d=.at v)∨∃ a t xs ds,v=.ref a∧d=.sq t ds∧SqQ K H t a xs∧Paired (RD K H n) xs ds
theorem RD.flat {K:PySem.W.Frag}{H:Hp}{v:V}(h:flat3 v=true):∀ n,RD K H n v (.at v)
 | 0=>⟨h,rfl⟩
 | _+1=>.inl ⟨h,rfl⟩
theorem RD.lst {K:PySem.W.Frag}{H:Hp}{a:Addr}{xs:List V}{ds:List Dt}{n:Nat}(h:SqL K H a xs)(r:Paired (RD K H n) xs ds):RD K H (n+1) (.ref a) (.sq false ds) :=
 .inr ⟨a,false,xs,ds,rfl,rfl,by unfold SqQ;rw[if_neg Bool.false_ne_true];exact h,r⟩
theorem RD.tup {K:PySem.W.Frag}{H:Hp}{a:Addr}{xs:List V}{ds:List Dt}{n:Nat}(h:SqT K H a xs)(r:Paired (RD K H n) xs ds):RD K H (n+1) (.ref a) (.sq true ds) :=
 .inr ⟨a,true,xs,ds,rfl,rfl,by unfold SqQ;rw[if_pos rfl];exact h,r⟩
section
variable {X:Cx}{pins:List (Addr×Obj)}{σ:St}{H:Hp}{s:Shared}
theorem RD.inj (I:Inv X pins σ H s):∀ {n m:Nat}{v:V}{d e:Dt},RD X.K H n v d→RD X.K H m v e→d=e:=by
 intro n
 induction n with
 | zero =>
  intro m v d e h1 h2
  obtain⟨f,rfl⟩:=h1
  cases m with
  | zero=>exact h2.2.symm
  | succ m =>
   rcases h2 with h2 | ⟨a,t,xs,ds,rfl,_⟩
   ·exact h2.2.symm
   ·cases f
 | succ n ih =>
  intro m v d e h1 h2
  rcases h1 with h1 | ⟨a,t,xs,ds,rfl,rfl,q,r⟩
  ·obtain⟨f,rfl⟩:=h1
   cases m with
   | zero=>exact h2.2.symm
   | succ m =>
    rcases h2 with h2 | ⟨a,t,xs,ds,rfl,_⟩
    ·exact h2.2.symm
    ·cases f
  ·cases m with
   | zero=>cases h2.1
   | succ m =>
    rcases h2 with h2 | ⟨a',t',xs',ds',ea,rfl,q',r'⟩
    ·cases h2.1
    ·cases ea
     have pr:∀ {l:List V}{l1 l2:List Dt},Paired (RD X.K H n) l l1→Paired (RD X.K H m) l l2→l1=l2:=by
      intro l
      induction l with
      | nil=>intro l1 l2 p1 p2;cases p1;cases p2;rfl
      | cons z l ihl =>
       intro l1 l2 p1 p2
       cases p1 with
       | cons r1 t1 =>
        cases p2 with
        | cons r2 t2=>rw[ih r1 r2,ihl t1 t2]
     cases t with
     | false =>
      have q:SqL X.K H a xs:=by unfold SqQ at q;rwa [if_neg Bool.false_ne_true]at q
      cases t' with
      | false =>
       have q':SqL X.K H a xs':=by unfold SqQ at q';rwa [if_neg Bool.false_ne_true]at q'
       have:=I.list_inj q q'
       subst this
       rw[pr r r']
      | true =>
       have q':SqT X.K H a xs':=by unfold SqQ at q';rwa [if_pos rfl]at q'
       obtain⟨_,_,p1,_⟩:=I.list q
       obtain⟨_,_,p2,_⟩:=I.tuple q'
       exact absurd rfl (SeqAt.ne_of_list_tuple p1.isList p2)
     | true =>
      have q:SqT X.K H a xs:=by unfold SqQ at q;rwa [if_pos rfl]at q
      cases t' with
      | false =>
       have q':SqL X.K H a xs':=by unfold SqQ at q';rwa [if_neg Bool.false_ne_true]at q'
       obtain⟨_,_,p1,_⟩:=I.tuple q
       obtain⟨_,_,p2,_⟩:=I.list q'
       exact absurd rfl (SeqAt.ne_of_list_tuple p2.isList p1)
      | true =>
       have q':SqT X.K H a xs':=by unfold SqQ at q';rwa [if_pos rfl]at q'
       have:=I.tuple_inj q q'
       subst this
       rw[pr r r']
theorem rcAt_D (I:Inv X pins σ H s):∀ (n:Nat){A:Around}{l b:Addr}{d e:Dt},A.units+n<cLine→RD X.K H (n+1) (.ref l) d→RD X.K H (n+1) (.ref b) e →
  (∀ {A:Around}{y x:V}{u v:Value}{d e:Dt},A.units+n<cLine+1→RD X.K H n y d→RD X.K H n x e→RelV y u→RelV x v→∃ k:Bool,(k=true↔d=e)∧SeqAt.EqAt A s u v k) →
  ∃ k:Bool,(k=true↔d=e)∧SeqAt.RcAt A s (.ref l) (.ref b) k:=by
 intro n A l b d e hu h1 h2 ih
 rcases h1 with h1 | ⟨a,t,xs,ds,ea,rfl,q,r⟩
 ·cases h1.1
 cases ea
 rcases h2 with h2 | ⟨a',t',xs',ds',ea,rfl,q',r'⟩
 ·cases h2.1
 cases ea
 have pw:∀ {us us':List Value},Vals xs us→Vals xs' us'→∃ ks:Nat→Bool,(∀ j (h1:j<us.length) (h2:j<us'.length),SeqAt.EqAt A.in1 s us[j] us'[j] (ks j)) ∧
   (∀ j d1 d2,ds[j]? = some d1→ds'[j]? = some d2→(ks j=true↔d1=d2)):=by
  intro us us' rv rv'
  have ex:∀ j:Nat,∃ k:Bool,(∀ (h1:j<us.length)(h2:j<us'.length),SeqAt.EqAt A.in1 s us[j] us'[j] k)∧(∀ d1 d2,ds[j]? = some d1→ds'[j]? = some d2→(k=true↔d1=d2)):=by
   intro j
   by_cases hj:j<us.length∧j<us'.length
   ·obtain⟨h1,h2⟩:=hj
    have l1:=rv.length
    have l2:=rv'.length
    have l3:=Paired.length r
    have l4:=Paired.length r'
    have gx:xs[j]? = some xs[j]:=List.getElem?_eq_getElem (by omega)
    have gx':xs'[j]? = some xs'[j]:=List.getElem?_eq_getElem (by omega)
    obtain⟨u,eu,ru⟩:=rv.get gx
    obtain⟨u',eu',ru'⟩:=rv'.get gx'
    have eu2:us[j]=u:=by rw[List.getElem?_eq_getElem h1]at eu;exact Option.some.inj eu
    have eu2':us'[j]=u':=by rw[List.getElem?_eq_getElem h2]at eu';exact Option.some.inj eu'
    have pget:∀ {m:Nat}{zs:List V}{es:List Dt}(j:Nat){z:V},Paired (RD X.K H m) zs es→zs[j]? = some z→∃ f,es[j]? = some f∧RD X.K H m z f:=by
     intro m zs
     induction zs with
     | nil=>intro es j z p hz;simp at hz
     | cons z0 zs ihz =>
      intro es j z p hz
      cases p with
      | cons p1 p2 =>
       cases j with
       | zero=>simp at hz;subst hz;exact⟨_,rfl,p1⟩
       | succ j=>obtain⟨f,e1,e2⟩:=ihz j p2 (by simpa using hz);exact⟨f,by simpa using e1,e2⟩
    obtain⟨f,ef,rf⟩:=pget j r gx
    obtain⟨f',ef',rf'⟩:=pget j r' gx'
    obtain⟨k,hk,he⟩:=ih (A:=A.in1) (by show A.units+1+n<cLine+1;omega) rf rf' ru ru'
    refine⟨k,fun _ _=>by rw[eu2,eu2'];exact he,fun d1 d2 e1 e2=>?_⟩
    rw[ef]at e1;rw[ef']at e2;cases e1;cases e2;exact hk
   ·refine⟨false,fun h1 h2=>absurd ⟨h1,h2⟩ hj,fun d1 d2 e1 e2=>?_⟩
    have l1:=rv.length
    have l2:=rv'.length
    have l3:=Paired.length r
    have l4:=Paired.length r'
    have:=(List.getElem?_eq_some_iff.mp e1).1
    have:=(List.getElem?_eq_some_iff.mp e2).1
    exact absurd ⟨by omega,by omega⟩ hj
  exact⟨fun j=>Classical.choose (ex j),fun j h1 h2=>(Classical.choose_spec (ex j)).1 h1 h2,fun j=>(Classical.choose_spec (ex j)).2⟩
 have allEq:∀ (ks:Nat→Bool),(∀ j d1 d2,ds[j]? = some d1→ds'[j]? = some d2→(ks j=true↔d1=d2))→ds.length=ds'.length→((List.range ds.length).all ks=true↔ds=ds'):=by
  intro ks hk hl
  rw[List.all_eq_true]
  constructor
  ·intro h
   apply List.ext_getElem hl
   intro j h1 h2
   exact (hk j _ _ (List.getElem?_eq_getElem h1) (List.getElem?_eq_getElem h2)).mp (h j (List.mem_range.mpr h1))
  ·rintro rfl j hj
   have h1:=List.mem_range.mp hj
   exact (hk j _ _ (List.getElem?_eq_getElem h1) (List.getElem?_eq_getElem h1)).mpr rfl
 have l3:=Paired.length r
 have l4:=Paired.length r'
 cases t with
 | false =>
  have q:SqL X.K H l xs:=by unfold SqQ at q;rwa [if_neg Bool.false_ne_true]at q
  obtain⟨us,rv,p1,_⟩:=I.list q
  have l1:=rv.length
  cases t' with
  | true =>
   have q':SqT X.K H b xs':=by unfold SqQ at q';rwa [if_pos rfl]at q'
   obtain⟨us',rv',p2,_⟩:=I.tuple q'
   exact⟨false,by simp,SeqAt.RcAt.list_tuple p1.isList p2 (by omega)⟩
  | false =>
   have q':SqL X.K H b xs':=by unfold SqQ at q';rwa [if_neg Bool.false_ne_true]at q'
   obtain⟨us',rv',p2,_⟩:=I.list q'
   have l2:=rv'.length
   by_cases hl:us.length=us'.length
   ·obtain⟨ks,he,hk⟩:=pw rv rv'
    refine⟨(List.range us.toArray.size).all ks,?_,SeqAt.RcAt.lists p1.isList p2.isList (by simpa using hl) (by omega) fun j h1 h2=>by simpa using he j (by simpa using h1) (by simpa using h2)⟩
    rw[List.size_toArray,show us.length=ds.length by omega,allEq ks hk (by omega)]
    constructor
    ·rintro rfl;rfl
    ·intro h;injection h
   ·refine⟨false,?_,SeqAt.RcAt.lists_lengths p1.isList p2.isList (by simpa using hl) (by omega)⟩
    constructor
    ·intro h;cases h
    ·intro h
     injection h with _ h
     exact absurd (by rw[←l1,l3,h,←l4,l2]) hl
 | true =>
  have q:SqT X.K H l xs:=by unfold SqQ at q;rwa [if_pos rfl]at q
  obtain⟨us,rv,p1,_⟩:=I.tuple q
  have l1:=rv.length
  cases t' with
  | false =>
   have q':SqL X.K H b xs':=by unfold SqQ at q';rwa [if_neg Bool.false_ne_true]at q'
   obtain⟨us',rv',p2,_⟩:=I.list q'
   exact⟨false,by simp,SeqAt.RcAt.tuple_list p1 p2.isList (by omega)⟩
  | true =>
   have q':SqT X.K H b xs':=by unfold SqQ at q';rwa [if_pos rfl]at q'
   obtain⟨us',rv',p2,_⟩:=I.tuple q'
   have l2:=rv'.length
   obtain⟨ks,he,hk⟩:=pw rv rv'
   refine⟨_,?_,SeqAt.RcAt.tuples (e:=ks) (show s.heap.IsTuple l us.toArray from p1) (show s.heap.IsTuple b us'.toArray from p2) (by omega) fun j h1 h2=>by simpa using he j (by simpa using h1) (by simpa using h2)⟩
   by_cases hl:us.length=us'.length
   ·rw[List.size_toArray,List.size_toArray,←hl,Nat.min_self,beq_self_eq_true,Bool.and_true,show us.length=ds.length by omega,allEq ks hk (by omega)]
    constructor
    ·rintro rfl;rfl
    ·intro h;injection h
   ·have:(us.toArray.size == us'.toArray.size)=false:=by simpa using hl
    rw[this,Bool.and_false]
    constructor
    ·intro h;cases h
    ·intro h
     injection h with _ h
     exact absurd (by rw[←l1,l3,h,←l4,l2]) hl
theorem rcNeAt_D (I:Inv X pins σ H s):∀ (n:Nat){A:Around}{l b:Addr}{d e:Dt},A.units+n<cLine→RD X.K H (n+1) (.ref l) d→RD X.K H (n+1) (.ref b) e →
  (∀ {A:Around}{y x:V}{u v:Value}{d e:Dt},A.units+n<cLine+1→RD X.K H n y d→RD X.K H n x e→RelV y u→RelV x v→∃ k:Bool,(k=true↔d=e)∧SeqAt.EqAt A s u v k) →
  ∃ k:Bool,(k=true↔d=e)∧SeqAt.RcNeAt A s (.ref l) (.ref b) (!k):=by
 intro n A l b d e hu h1 h2 ih
 rcases h1 with h1 | ⟨a,t,xs,ds,ea,rfl,q,r⟩
 ·cases h1.1
 cases ea
 rcases h2 with h2 | ⟨a',t',xs',ds',ea,rfl,q',r'⟩
 ·cases h2.1
 cases ea
 have pw:∀ {us us':List Value},Vals xs us→Vals xs' us'→∃ ks:Nat→Bool,(∀ j (h1:j<us.length) (h2:j<us'.length),SeqAt.EqAt A.in1 s us[j] us'[j] (ks j)) ∧
   (∀ j d1 d2,ds[j]? = some d1→ds'[j]? = some d2→(ks j=true↔d1=d2)):=by
  intro us us' rv rv'
  have ex:∀ j:Nat,∃ k:Bool,(∀ (h1:j<us.length)(h2:j<us'.length),SeqAt.EqAt A.in1 s us[j] us'[j] k)∧(∀ d1 d2,ds[j]? = some d1→ds'[j]? = some d2→(k=true↔d1=d2)):=by
   intro j
   by_cases hj:j<us.length∧j<us'.length
   ·obtain⟨h1,h2⟩:=hj
    have l1:=rv.length
    have l2:=rv'.length
    have l3:=Paired.length r
    have l4:=Paired.length r'
    have gx:xs[j]? = some xs[j]:=List.getElem?_eq_getElem (by omega)
    have gx':xs'[j]? = some xs'[j]:=List.getElem?_eq_getElem (by omega)
    obtain⟨u,eu,ru⟩:=rv.get gx
    obtain⟨u',eu',ru'⟩:=rv'.get gx'
    have eu2:us[j]=u:=by rw[List.getElem?_eq_getElem h1]at eu;exact Option.some.inj eu
    have eu2':us'[j]=u':=by rw[List.getElem?_eq_getElem h2]at eu';exact Option.some.inj eu'
    have pget:∀ {m:Nat}{zs:List V}{es:List Dt}(j:Nat){z:V},Paired (RD X.K H m) zs es→zs[j]? = some z→∃ f,es[j]? = some f∧RD X.K H m z f:=by
     intro m zs
     induction zs with
     | nil=>intro es j z p hz;simp at hz
     | cons z0 zs ihz =>
      intro es j z p hz
      cases p with
      | cons p1 p2 =>
       cases j with
       | zero=>simp at hz;subst hz;exact⟨_,rfl,p1⟩
       | succ j=>obtain⟨f,e1,e2⟩:=ihz j p2 (by simpa using hz);exact⟨f,by simpa using e1,e2⟩
    obtain⟨f,ef,rf⟩:=pget j r gx
    obtain⟨f',ef',rf'⟩:=pget j r' gx'
    obtain⟨k,hk,he⟩:=ih (A:=A.in1) (by show A.units+1+n<cLine+1;omega) rf rf' ru ru'
    refine⟨k,fun _ _=>by rw[eu2,eu2'];exact he,fun d1 d2 e1 e2=>?_⟩
    rw[ef]at e1;rw[ef']at e2;cases e1;cases e2;exact hk
   ·refine⟨false,fun h1 h2=>absurd ⟨h1,h2⟩ hj,fun d1 d2 e1 e2=>?_⟩
    have l1:=rv.length
    have l2:=rv'.length
    have l3:=Paired.length r
    have l4:=Paired.length r'
    have:=(List.getElem?_eq_some_iff.mp e1).1
    have:=(List.getElem?_eq_some_iff.mp e2).1
    exact absurd ⟨by omega,by omega⟩ hj
  exact⟨fun j=>Classical.choose (ex j),fun j h1 h2=>(Classical.choose_spec (ex j)).1 h1 h2,fun j=>(Classical.choose_spec (ex j)).2⟩
 have allEq:∀ (ks:Nat→Bool),(∀ j d1 d2,ds[j]? = some d1→ds'[j]? = some d2→(ks j=true↔d1=d2))→ds.length=ds'.length→((List.range ds.length).all ks=true↔ds=ds'):=by
  intro ks hk hl
  rw[List.all_eq_true]
  constructor
  ·intro h
   apply List.ext_getElem hl
   intro j h1 h2
   exact (hk j _ _ (List.getElem?_eq_getElem h1) (List.getElem?_eq_getElem h2)).mp (h j (List.mem_range.mpr h1))
  ·rintro rfl j hj
   have h1:=List.mem_range.mp hj
   exact (hk j _ _ (List.getElem?_eq_getElem h1) (List.getElem?_eq_getElem h1)).mpr rfl
 have l3:=Paired.length r
 have l4:=Paired.length r'
 cases t with
 | false =>
  have q:SqL X.K H l xs:=by unfold SqQ at q;rwa [if_neg Bool.false_ne_true]at q
  obtain⟨us,rv,p1,_⟩:=I.list q
  have l1:=rv.length
  cases t' with
  | true =>
   have q':SqT X.K H b xs':=by unfold SqQ at q';rwa [if_pos rfl]at q'
   obtain⟨us',rv',p2,_⟩:=I.tuple q'
   exact⟨false,by simp,SeqAt.RcNeAt.list_tuple p1.isList p2 (by omega)⟩
  | false =>
   have q':SqL X.K H b xs':=by unfold SqQ at q';rwa [if_neg Bool.false_ne_true]at q'
   obtain⟨us',rv',p2,_⟩:=I.list q'
   have l2:=rv'.length
   by_cases hl:us.length=us'.length
   ·obtain⟨ks,he,hk⟩:=pw rv rv'
    refine⟨(List.range us.toArray.size).all ks,?_,SeqAt.RcNeAt.lists p1.isList p2.isList (by simpa using hl) (by omega) fun j h1 h2=>by simpa using he j (by simpa using h1) (by simpa using h2)⟩
    rw[List.size_toArray,show us.length=ds.length by omega,allEq ks hk (by omega)]
    constructor
    ·rintro rfl;rfl
    ·intro h;injection h
   ·refine⟨false,?_,SeqAt.RcNeAt.lists_lengths p1.isList p2.isList (by simpa using hl) (by omega)⟩
    constructor
    ·intro h;cases h
    ·intro h
     injection h with _ h
     exact absurd (by rw[←l1,l3,h,←l4,l2]) hl
 | true =>
  have q:SqT X.K H l xs:=by unfold SqQ at q;rwa [if_pos rfl]at q
  obtain⟨us,rv,p1,_⟩:=I.tuple q
  have l1:=rv.length
  cases t' with
  | false =>
   have q':SqL X.K H b xs':=by unfold SqQ at q';rwa [if_neg Bool.false_ne_true]at q'
   obtain⟨us',rv',p2,_⟩:=I.list q'
   exact⟨false,by simp,SeqAt.RcNeAt.tuple_list p1 p2.isList (by omega)⟩
  | true =>
   have q':SqT X.K H b xs':=by unfold SqQ at q';rwa [if_pos rfl]at q'
   obtain⟨us',rv',p2,_⟩:=I.tuple q'
   have l2:=rv'.length
   obtain⟨ks,he,hk⟩:=pw rv rv'
   refine⟨(List.range (min us.toArray.size us'.toArray.size)).all ks&&us.toArray.size == us'.toArray.size,?_,SeqAt.RcNeAt.tuples (e:=ks) (show s.heap.IsTuple l us.toArray from p1) (show s.heap.IsTuple b us'.toArray from p2) (by omega) fun j h1 h2=>by simpa using he j (by simpa using h1) (by simpa using h2)⟩
   by_cases hl:us.length=us'.length
   ·rw[List.size_toArray,List.size_toArray,←hl,Nat.min_self,beq_self_eq_true,Bool.and_true,show us.length=ds.length by omega,allEq ks hk (by omega)]
    constructor
    ·rintro rfl;rfl
    ·intro h;injection h
   ·have:(us.toArray.size == us'.toArray.size)=false:=by simpa using hl
    rw[this,Bool.and_false]
    constructor
    ·intro h;cases h
    ·intro h
     injection h with _ h
     exact absurd (by rw[←l1,l3,h,←l4,l2]) hl
theorem eqAt_D (I:Inv X pins σ H s):∀ (n:Nat){A:Around}{y x:V}{u v:Value}{d e:Dt},A.units+n<cLine+1→RD X.K H n y d→RD X.K H n x e→RelV y u→RelV x v→∃ k:Bool,(k=true↔d=e)∧SeqAt.EqAt A s u v k:=by
 intro n
 have flatCase:∀ {A:Around}{y x:V}{u v:Value},flat3 y=true→flat3 x=true→RelV y u→RelV x v→∃ k:Bool,(k=true↔Dt.at y=Dt.at x)∧SeqAt.EqAt A s u v k:=by
  intro A y x u v fy fx ry rx
  refine⟨eqV y x,?_,eqAt_V ry rx (flat3_flat fy) (flat3_flat fx)⟩
  rw[eqV_iff fy fx]
  constructor
  ·rintro rfl;rfl
  ·intro h;injection h
 induction n with
 | zero =>
  intro A y x u v d e hu h1 h2 ry rx
  obtain⟨f1,rfl⟩:=h1
  obtain⟨f2,rfl⟩:=h2
  exact flatCase f1 f2 ry rx
 | succ n ih =>
  intro A y x u v d e hu h1 h2 ry rx
  rcases id h1 with ⟨f1,rfl⟩ | ⟨a,t,xs,ds,rfl,rfl,q,r⟩
  ·rcases id h2 with ⟨f2,rfl⟩ | ⟨a',t',xs',ds',rfl,rfl,q',r'⟩
   ·exact flatCase f1 f2 ry rx
   ·cases rx
    refine⟨false,by simp,?_⟩
    cases t' with
    | false =>
     have q':SqL X.K H a' xs':=by unfold SqQ at q';rwa [if_neg Bool.false_ne_true]at q'
     obtain⟨_,_,p,_⟩:=I.list q'
     cases y with
     | non=>cases ry;exact SeqAt.EqAt.none_list p.isList (by omega)
     | int _=>obtain⟨tk,rfl⟩:=ry;exact SeqAt.EqAt.int_list _ _ p.isList (by omega)
     | str _=>obtain⟨tk,rfl⟩:=ry;exact SeqAt.EqAt.str_list _ _ p.isList (by omega)
     | _=>cases f1
    | true =>
     have q':SqT X.K H a' xs':=by unfold SqQ at q';rwa [if_pos rfl]at q'
     obtain⟨_,_,p,_⟩:=I.tuple q'
     cases y with
     | non=>cases ry;exact SeqAt.EqAt.none_tuple p (by omega)
     | int _=>obtain⟨tk,rfl⟩:=ry;exact SeqAt.EqAt.int_tuple _ _ p (by omega)
     | str _=>obtain⟨tk,rfl⟩:=ry;exact SeqAt.EqAt.str_tuple _ _ p (by omega)
     | _=>cases f1
  ·cases ry
   rcases id h2 with ⟨f2,rfl⟩ | ⟨a',t',xs',ds',rfl,rfl,q',r'⟩
   ·refine⟨false,by simp,?_⟩
    cases t with
    | false =>
     have q:SqL X.K H a xs:=by unfold SqQ at q;rwa [if_neg Bool.false_ne_true]at q
     obtain⟨_,_,p,_⟩:=I.list q
     cases x with
     | non=>cases rx;exact SeqAt.EqAt.list_none p.isList (by omega)
     | int _=>obtain⟨tk,rfl⟩:=rx;exact SeqAt.EqAt.list_int _ _ p.isList (by omega)
     | str _=>obtain⟨tk,rfl⟩:=rx;exact SeqAt.EqAt.list_str _ _ p.isList (by omega)
     | _=>cases f2
    | true =>
     have q:SqT X.K H a xs:=by unfold SqQ at q;rwa [if_pos rfl]at q
     obtain⟨_,_,p,_⟩:=I.tuple q
     cases x with
     | non=>cases rx;exact SeqAt.EqAt.tuple_none p (by omega)
     | int _=>obtain⟨tk,rfl⟩:=rx;exact SeqAt.EqAt.tuple_int _ _ p (by omega)
     | str _=>obtain⟨tk,rfl⟩:=rx;exact SeqAt.EqAt.tuple_str _ _ p (by omega)
     | _=>cases f2
   ·cases rx
    by_cases hab:a=a'
    ·subst hab
     exact⟨true,by rw[RD.inj I h1 h2];simp,SeqAt.EqAt.same _⟩
    ·obtain⟨k,hk,hr⟩:=rcAt_D I n (A:=A) (by omega) h1 h2 (fun hu'=>ih hu')
     exact⟨k,hk,.of_refs hab hr⟩
end
def rEqD (K:PySem.W.Frag)(n:Nat)(neg:Bool):R2:=fun x y H Q=>∃ a b d e,x=.ref a∧y=.ref b∧RD K H (n+1) x d∧RD K H (n+1) y e∧∀ k:Bool,(k=true↔d=e)→Q (.bl (if neg then !k else k)) H
section
variable {X:Cx}
theorem op_neD (n:Nat)(hu:X.A.units+n<cLine):OpR X (compareOp .NotEq) (rEqD X.K n true):=by
 intro pins s σ H x y v u Q I rx ry h
 obtain⟨a,b,d,e,rfl,rfl,h1,h2,q⟩:=h
 cases rx
 cases ry
 obtain⟨k,hk,hr⟩:=rcNeAt_D I n (A:=X.A) hu h1 h2 (fun hu'=>eqAt_D I n hu')
 exact hr _ _ _ _ ⟨.bl (!k),H,I,rfl,q k hk⟩
end
end L2
namespace L2
open PySem PySem.Spec PyProof.Rows PySem.Calls
section
variable {prog:Program}{w:World}{A:Around}{E:Value→Shared→Prop}{s:Shared}{r d:Addr}{items:Array Value}
end
end L2
namespace Wz
open PySem L2
def absI (c:Int):Int:=if c<0 then -c else c
def cellAt (ns:List Int)(k:Int):Int:=if k<(ns.length:Int) then ns.getD k.toNat 0 else 0
def gst (k c:Int):Int :=
 let left:=absI c
 let number:=(k*(1+left*1234567891%2147483646)+left/2147483646)%2147483647
 if left%5=4 then number+997852516353 else number
def dk (l:List (Int×Int)):List (Key×V):=l.map fun p=>(Sum.inl p.1,V.int p.2)
def look:List (Int×Int)→Int→Option Int
 | [],_=>none
 | p::r,g=>if p.1=g then some p.2 else look r g
def put (l:List (Int×Int))(g m:Int):List (Int×Int):=if (l.any fun p=>decide (p.1=g))=true then l.map (fun p=>if p.1=g then (p.1,m) else p) else l++[(g,m)]
def wr (l:List (Int×Int))(g:Int):Int:=(look l g).getD g
def keysL (l:List (Int×Int)):List Int:=l.map (·.1)
def wrongL (l:List (Int×Int)):List Int:=(sortI (keysL l)).filter fun g=>decide (wr l g≠g)
def movesL (l:List (Int×Int)):List (Int×Int):=(wrongL l).map fun g=>(g,wr l g)
theorem valV_dk:∀ (l:List (Int×Int))(g:Int),valV (dk l) (Sum.inl g:Key)=(look l g).map V.int
 | [],_=>rfl
 | p::r,g=>by
  by_cases h:p.1=g
  ·have e:valV (dk (p::r)) (Sum.inl g:Key)=some (V.int p.2):=valV_pos (p:=(Sum.inl p.1,V.int p.2)) (r:=dk r) (by rw[h])
   rw[e];simp[look,h]
  ·have e:valV (dk (p::r)) (Sum.inl g:Key)=valV (dk r) (Sum.inl g):=valV_neg (p:=(Sum.inl p.1,V.int p.2)) (r:=dk r) (fun z=>h (Sum.inl.inj z))
   rw[e,valV_dk r g];simp[look,h]
theorem any_dk (l:List (Int×Int))(g:Int):((dk l).any fun kv=>decide (kv.1=(Sum.inl g:Key)))=l.any fun p=>decide (p.1=g):=by
 unfold dk
 rw[List.any_map]
 congr 1
 funext p
 simp[Function.comp]
theorem putK_dk (l:List (Int×Int))(g m:Int):putK (dk l) (Sum.inl g:Key) (V.int m)=dk (put l g m):=by
 unfold putK put
 rw[any_dk]
 by_cases h:(l.any fun p=>decide (p.1=g))=true
 ·rw[if_pos h,if_pos h]
  unfold dk
  rw[List.map_map,List.map_map]
  apply List.map_congr_left
  intro p _
  simp only[Function.comp]
  by_cases e:p.1=g
  ·rw[if_pos (by rw[e]),if_pos e]
  ·rw[if_neg (fun z=>e (Sum.inl.inj z)),if_neg e]
 ·rw[if_neg h,if_neg h]
  unfold dk
  simp
theorem look_any (l:List (Int×Int))(g:Int):(l.any fun p=>decide (p.1=g))=(look l g).isSome:=by
 induction l with
 | nil=>rfl
 | cons p r ih =>
  rw[List.any_cons,ih]
  show _=(if p.1=g then some p.2 else look r g).isSome
  by_cases h:p.1=g<;>simp[h]
theorem look_mem {l:List (Int×Int)}{g:Int}:(look l g).isSome=true↔g∈keysL l:=by
 rw[←look_any,List.any_eq_true]
 unfold keysL
 simp
theorem look_map (l:List (Int×Int))(g m h:Int):look (l.map (fun p=>if p.1=g then (p.1,m) else p)) h=if h=g then (look l g).map (fun _=>m) else look l h:=by
 induction l with
 | nil=>simp[look]
 | cons p r ih =>
  rw[List.map_cons]
  by_cases hp:p.1=g
  ·rw[if_pos hp]
   show (if p.1=h then some m else look _ h)=_
   rw[ih]
   by_cases hh:h=g
   ·subst hh;simp[hp,look]
   ·have:¬ p.1=h:=fun z=>hh (z.symm.trans hp)
    simp[hh,this,look]
  ·rw[if_neg hp]
   show (if p.1=h then some p.2 else look _ h)=_
   rw[ih]
   by_cases hh:h=g
   ·subst hh;simp[hp,look]
   ·simp[hh,look]
theorem look_append (l r:List (Int×Int))(h:Int):look (l++r) h=(look l h).orElse fun _=>look r h:=by
 induction l with
 | nil=>rfl
 | cons p l ih =>
  show (if p.1=h then some p.2 else look (l++r) h)=_
  rw[ih]
  by_cases e:p.1=h<;>simp[look,e]
theorem look_put (l:List (Int×Int))(g m h:Int):look (put l g m) h=if h=g then some m else look l h:=by
 unfold put
 rw[look_any]
 by_cases e:(look l g).isSome=true
 ·rw[if_pos e,look_map]
  obtain⟨v,hv⟩:=Option.isSome_iff_exists.mp e
  by_cases hh:h=g
  ·simp[hh,hv]
  ·simp[hh]
 ·rw[if_neg e,look_append]
  have hn:look l g=none:=by simpa using e
  by_cases hh:h=g
  ·subst hh;simp[hn,look]
  ·have:¬ g=h:=fun z=>hh z.symm
   simp[hh,look,this]
theorem keys_put (l:List (Int×Int))(g m:Int):keysL (put l g m)=if g∈keysL l then keysL l else keysL l++[g]:=by
 unfold put
 rw[look_any]
 by_cases e:(look l g).isSome=true
 ·rw[if_pos e,if_pos (look_mem.mp e)]
  unfold keysL
  rw[List.map_map]
  apply List.map_congr_left
  intro p _
  simp only[Function.comp]
  split<;>rfl
 ·rw[if_neg e,if_neg (fun z=>e (look_mem.mpr z))]
  simp[keysL]
theorem len_put (l:List (Int×Int))(g m:Int):(put l g m).length≤l.length+1:=by
 unfold put;split<;>simp
theorem nodup_len:∀ {l m:List Int},l.Nodup→(∀ x∈l,x∈m)→l.length≤m.length
 | [],_,_,_=>Nat.zero_le _
 | a::r,m,h,hs=>by
  obtain⟨h1,h2⟩:=List.nodup_cons.mp h
  have ha:a∈m:=hs a List.mem_cons_self
  have hl:(m.erase a).length=m.length-1:=List.length_erase_of_mem ha
  have hpos:0<m.length:=List.length_pos_of_mem ha
  have ih:=nodup_len (l:=r) (m:=m.erase a) h2 fun x hx=>(List.mem_erase_of_ne (show x≠a from fun e=>h1 (by rw[←e];exact hx))).mpr (hs x (List.mem_cons_of_mem _ hx))
  rw[List.length_cons]
  omega
theorem mem_sortI {l:List Int}{x:Int}:x∈sortI l↔x∈l:=(List.mergeSort_perm l _).mem_iff
theorem len_sortI (l:List Int):(sortI l).length=l.length:=(List.mergeSort_perm l _).length_eq
theorem len_dk (l:List (Int×Int)):(dk l).length=l.length:=by unfold dk;simp
end Wz
namespace Wz
open PySem L2
def Callee (P:Program)(w:World)(K:PySem.W.Frag)(mg:Str→Option Value)(base:Heap)(x:Str)(k:Nat)(ps:List Str)(sp:Sp):Prop :=
 ∃ (f:Addr)(fd:FuncData),FnOk P w K mg base CX0 k f fd ps sp∧mg x=some (.ref f)∧PySem.W.keepIn K (.ref f)=true∧Binds K fd ps []
theorem pcall {X:Cx}{x:Str}{k:Nat}{ps:List Str}{sp:Sp}{e:Expr}{es:List Expr}{t:TA}{p pos:Pos}(C:Callee X.prog X.w X.K X.mg X.base x k ps sp)(hr:Room k X.A)(hg:Gl X x)(ha:PA X (e::es) t)
  (hdb:(x == ("__debug__" : Str))=false:=by decide) (he:starEach (e::es) X.env=(false,eval e X.env)::starEach es X.env:=by rfl) (hpl:(backTo pos (starEach es X.env)).any (·.1)=false:=by rfl) :
  PE X (.Call (.Name x p) (e::es) [] pos) (tCall sp [] E0 t):=by
 obtain⟨f,fd,G,hm,hk,hb⟩:=C
 exact pe_call G hr hg hm hk hb .nil pass0 ha hdb he hpl
def RowAt (H:Hp)(l:Addr)(ps:List (Int×Int)):Prop:=∃ as:List Addr,H l=some (.lst (as.map V.ref))∧Paired (fun a (p:Int×Int)=>H a=some (.tup [.int p.1,.int p.2])) as ps
theorem RowAt.mono {H H':Hp}{l:Addr}{ps:List (Int×Int)}(r:RowAt H l ps)(s:Same H H'):RowAt H' l ps:=by
 obtain⟨as,h,p⟩:=r
 exact⟨as,s _ _ h,Paired.mapP p fun a q z=>s _ _ z⟩
theorem same_new {H:Hp}{l:Addr}{o:HO}(h:H l=none):Same H (upd H l o):=fun b u e=>by rw[upd_ne (ne_of_none e h)];exact e
theorem same_upd {H H':Hp}{l:Addr}{o:HO}(s:Same H H')(h:H l=none):Same H (upd H' l o):=fun b u e=>by rw[upd_ne (ne_of_none e h)];exact s b u e
theorem paired_get {α β:Type}{F:α→β→Prop}:∀ {l:List α}{m:List β}{i:Nat}{a:α},Paired F l m→l[i]? = some a→∃ b,m[i]? = some b∧F a b
 | _,_,_,_,.nil,h=>by simp at h
 | _,_,0,_,.cons r _,h=>by simp at h;subst h;exact⟨_,rfl,r⟩
 | _,_,i+1,a,.cons _ t,h=>by
  obtain⟨b,e1,e2⟩:=paired_get (i:=i) (a:=a) t (by simpa using h)
  exact⟨b,by simpa using e1,e2⟩
theorem paired_append {α β:Type}{F:α→β→Prop}:∀ {l l':List α}{m m':List β},Paired F l m→Paired F l' m'→Paired F (l++l') (m++m')
 | _,_,_,_,.nil,s=>s
 | _,_,_,_,.cons r t,s=>.cons r (paired_append t s)
theorem map_get {α β:Type}{f:α→β}{l:List α}{i:Nat}{y:β}(h:(l.map f)[i]? = some y):∃ x,l[i]? = some x∧y=f x:=by
 rw[List.getElem?_map]at h
 cases e:l[i]? with
 | none=>rw[e]at h;cases h
 | some x=>rw[e]at h;exact⟨x,rfl,(Option.some.inj h).symm⟩
theorem take_snoc {α:Type}{l:List α}{i:Nat}{x:α}(h:l[i]? = some x):l.take (i+1)=l.take i++[x]:=by
 rw[List.take_add_one,h];rfl
theorem tbc_yes {te:TE}{a:Addr}{D:Ends}{σ:St}{H:Hp}(h:te σ H fun y H2=>∃ ys,H2 a=some (.lst ys)∧ys.length<sizeLine∧D.nx σ (upd H2 a (.lst (ys++[y])))):tbC tYes te a D σ H:=by
 unfold tbC tYes
 dsimp only
 rw[if_pos rfl]
 exact h
theorem tbc_if {tt:TT}{te:TE}{a:Addr}{D:Ends}{σ:St}{H:Hp}(h:tt σ H fun b H1=>if b=true then te σ H1 fun y H2=>∃ ys,H2 a=some (.lst ys)∧ys.length<sizeLine∧D.nx σ (upd H2 a (.lst (ys++[y]))) else D.nx σ H1):tbC tt te a D σ H:=h
def spCell (K:PySem.W.Frag):Sp:=fun vs H Q _=>∃ (a:Addr)(ns:List Int)(k:Int),vs=[.ref a,.int k]∧SqL K H a (ns.map V.int)∧0≤k∧Q (.int (cellAt ns k)) H
def spSize:Sp:=fun vs H Q _=>∃ c:Int,vs=[.int c]∧Q (.int (absI c)) H
def spDraws:Sp:=fun vs H Q _=>∃ c m b:Int,vs=[.int c,.int m,.int b]∧(0≤m∧m≤1000)∧(0<b∧b<1073741824)∧∀ (l:Addr)(ds:List Int),H l=none→(∀ d∈ds,0≤d∧d<b)→(ds.length:Int)≤m→Q (.ref l) (upd H l (.lst (ds.map V.int)))
def spFrom (K:PySem.W.Frag):Sp:=fun vs H Q _=>∃ (a:Addr)(ns:List Int)(st m b:Int),vs=[.ref a,.int st,.int m,.int b]∧SqL K H a (ns.map V.int)∧(0≤st∧st≤63)∧(0≤m∧m≤1000)∧(0<b∧b<1073741824) ∧
 ∀ (l:Addr)(H':Hp)(ds:List Int),H l=none→Same H H'→H' l=some (.lst (ds.map V.int))→(∀ d∈ds,0≤d∧d<b)→(ds.length:Int)≤m→Q (.ref l) H'
def spGuest:Sp:=fun vs H Q _=>∃ k c:Int,vs=[.int k,.int c]∧(0≤k∧k≤1000000)∧Q (.int (gst k c)) H
def spLaw (K:PySem.W.Frag):Sp:=fun vs H Q _=>∃ (a:Addr)(ns:List Int),vs=[.ref a]∧SqL K H a (ns.map V.int)∧ns.length≤63∧∀ H',Q (.bl true) H'
def pairD (p:Int×Int):Dt:=.sq true [.at (.int p.1),.at (.int p.2)]
def rowD (ps:List (Int×Int)):Dt:=.sq false (ps.map pairD)
theorem rd_row {K:PySem.W.Frag}{H:Hp}{l:Addr}{ps:List (Int×Int)}(r:RowAt H l ps):RD K H 2 (.ref l) (rowD ps):=by
 obtain⟨as,h,p⟩:=r
 refine RD.lst (SqL.of h) ?_
 clear h
 induction p with
 | nil=>exact .nil
 | cons h _ ih=>exact .cons (RD.tup (SqT.of h) (.cons (RD.flat rfl 0) (.cons (RD.flat rfl 0) .nil))) ih
def numsD (ns:List Int):Dt:=.sq false (ns.map fun n=>.at (.int n))
theorem moves_len (w:List (Int×Int)):(movesL w).length≤w.length:=by
 unfold movesL wrongL
 rw[List.length_map]
 refine Nat.le_trans (List.length_filter_le _ _) ?_
 rw[len_sortI];unfold keysL;rw[List.length_map];exact Nat.le_refl _
theorem wrong_len (w:List (Int×Int)):(wrongL w).length≤w.length:=by have:=moves_len w;unfold movesL at this;rwa [List.length_map]at this
end Wz
namespace L2
open PySem PySem.Spec PyProof.Rows
def TrD (g B:Heap)(e:Addr)(c:Value)(od:Option Addr)(fl:Value):Prop :=
 ∃ oe us T oT ts,g.get? e=some oe∧(oe.cls=c∧oe.dict=od)∧oe.data=.fields us∧us[1]? = some (.ref T)∧B.get? T=none∧T≠e∧g.get? T=some oT∧oT.data=.fields ts∧ts[3]? = some fl
def FlyD (B:Heap)(l:List Env)(e:Addr)(c:Value)(od:Option Addr)(g:Heap):Prop:=B.StaysIn g∧B.get? e=none∧g.FunFrames B l∧TrD g B e c od .none
def HeldD (B:Heap)(l:List Env)(e:Addr)(c:Value)(od:Option Addr)(L:Addr)(g:Heap):Prop:=B.StaysIn g∧B.get? e=none∧g.FunFrames B l∧TrD g B e c od (rawInt L)
theorem dict_mf (f:Array Value→Array Value)(o:Obj):(Obj.mapFields f o).dict=o.dict:=by
 unfold Obj.mapFields
 split<;>rfl
theorem FlyD.obj {B g:Heap}{l:List Env}{e:Addr}{c:Value}{od:Option Addr}(x:FlyD B l e c od g):∃ ob us,g.get? e=some ob∧ob.cls=c∧ob.dict=od∧ob.data=.fields us:=by
 obtain⟨_,_,_,oe,us,_,_,_,he,hc,hd,_⟩:=x
 exact⟨oe,us,he,hc.1,hc.2,hd⟩
section
variable {M:Model}{A:Around}{E:Value→Shared→Prop}{s:Shared}{B:Heap}{env:Env}{outer:List Env}{L e:Addr}{od:Option Addr}{c:Value}
def Rec (g g':Heap):Prop:=∀ b o,g.get? b=some o→(∀ us,o.data≠.fields us)→∃ sl,g'.get? b=some { o with slots:=sl }
theorem entryD {oe:Obj}{us:Array Value}{head:Value}{hn:Bool}{Q:Unit→Shared→Prop}(fr:A.frames=some (env::outer))(hl:s.heap.FunFrames B (env::outer))(hf:env.frame=some L)
  (he:s.heap.get? e=some oe) (hk:B.StaysIn s.heap) (hb:B.get? e=none) (hd:oe.data=.fields us) (h1:1<us.size)
  (h:∀ g,B.StaysIn g→g.FunFrames B (env::outer)→TrD g B e oe.cls oe.dict (rawInt L)→Rec s.heap g→Q () { s with heap:=g }) :
  wpAny M A (do let a ←frameOf env;let pl ←entryPlaceOf L hn;let b ←EntryCells.newEntry head a .none (rawInt L) .none pl;setField (.ref e) 1 b) Q E s:=by
 have hne:e∉(env::outer).filterMap (·.frame):=fun z=>by
  obtain⟨_,o,ho,nf⟩:=hl.mem z
  rw[he]at ho;cases ho;exact nf us hd
 refine wpAny_bind (wpAny_frameOf_fun fr hl hf fun g1 sl1=>wpAny_bind (wpAny_entryPlaceOf fun pl hpl=>?_))
 unfold EntryCells.newEntry newFields
 refine wpAny_bind (wpAny_newObj_type ?_ (hpl.sizeOk5 _ _ _ _ _))
 have e1:g1.get? e=some oe:=(sl1.2.1 e hne).trans he
 have k1:B.StaysIn g1:=fun b o q=>(sl1.2.1 b fun z=>by rw[(hl.mem z).1]at q;cases q).trans (hk b o q)
 generalize hob:({ cls:=.type "traceback",dict:=none,data:=.fields ([head,.ref L,.none,rawInt L,.none]++(if pl.isEmpty then List.replicate 6 Value.none else pl)).toArray }:Obj)=ob
 have obd:ob.data=.fields ([head,.ref L,.none,rawInt L,.none]++(if pl.isEmpty then List.replicate 6 Value.none else pl)).toArray:=by rw[←hob]
 have e2:=Heap.get?_push_of_some (h:=g1) ob e1
 refine wpAny_setField e2 hd h1 ?_
 have ne:g1.objs.size≠e:=Nat.ne_of_gt (Heap.lt_size e1)
 have d3:=Obj.data_mapFields hd (·.setIfInBounds 1 (Value.ref g1.objs.size))
 have e3:=Heap.get?_update_self (Obj.mapFields (·.setIfInBounds 1 (Value.ref g1.objs.size))) e2 (Obj.isFreed_of_fields d3)
 have keep:∀ b o,b≠e→g1.get? b=some o→((g1.push ob).update e (Obj.mapFields (·.setIfInBounds 1 (Value.ref g1.objs.size)))).get? b=some o:=fun b o n q=>by
  rw[Heap.get?_update_other _ _ (Ne.symm n)];exact Heap.get?_push_of_some _ q
 have nr:∀ b o,s.heap.get? b=some o→(∀ vs,o.data≠.fields vs)→b≠e:=fun b o q nf z=>by
  rw[z,he]at q;cases q;exact nf us hd
 refine h _ (fun b o q=>keep b o (fun z=>by rw[z,hb]at q;cases q) (k1 b o q)) (hl.of_keeps fun b o q nf=>?_) ?_ fun b o q nf=>?_
 ·obtain⟨sl,z⟩:=sl1.2.2 b o q
  exact⟨_,keep b _ (nr b o q nf) z,rfl⟩
 ·refine⟨_,_,g1.objs.size,ob,_,e3,⟨Obj.cls_mapFields _ _,dict_mf _ _⟩,d3,by simp[h1],k1.fresh,ne,?_,obd,by first | (simp;done) | (rcases hpl with rfl | ⟨_,_,_,_,_,_,_,rfl⟩<;>simp)⟩
  rw[Heap.get?_update_other _ _ (Ne.symm ne)]
  exact Heap.get?_push_size g1 (by rw[←hob];rfl)
 ·obtain⟨sl,z⟩:=sl1.2.2 b o q
  exact⟨sl,keep b _ (nr b o q nf) z⟩
theorem note_firstD {oe:Obj}{us:Array Value}{Q:Unit→Shared→Prop}(fr:A.frames=some (env::outer))(hl:s.heap.FunFrames B (env::outer))(hf:env.frame=some L)
  (he:s.heap.get? e=some oe) (hk:B.StaysIn s.heap) (hb:B.get? e=none) (hd:oe.data=.fields us) (h1:us[1]? = some .none)
  (h:∀ g,B.StaysIn g→g.FunFrames B (env::outer)→TrD g B e oe.cls oe.dict (rawInt L)→Rec s.heap g→Q () { s with heap:=g }):wpAny M A (noteFrame (.ref e) env) Q E s:=by
 unfold noteFrame
 simp only[hf]
 refine wpAny_bind (wpAny_field he hd h1 ?_)
 rw[if_neg (by decide)]
 exact entryD fr hl hf he hk hb hd (Array.getElem?_eq_some_iff.mp h1).1 h
theorem note_nextD {Q:Unit→Shared→Prop}(fr:A.frames=some (env::outer))(hl:s.heap.FunFrames B (env::outer))(hf:env.frame=some L)(ht:TrD s.heap B e c od .none)(hk:B.StaysIn s.heap)(hb:B.get? e=none)
  (h:∀ g,B.StaysIn g→g.FunFrames B (env::outer)→TrD g B e c od (rawInt L)→Rec s.heap g→Q () { s with heap:=g }):wpAny M A (noteFrame (.ref e) env) Q E s:=by
 obtain⟨oe,us,T,oT,ts,he,⟨rfl,rfl⟩,hd,h1,nT,ne,hT,dT,h3⟩:=ht
 unfold noteFrame
 simp only[hf]
 refine wpAny_bind (wpAny_field he hd h1 ?_)
 rw[if_pos (show (Value.ref T != Value.none)=true by simp)]
 refine wpAny_bind (wpAny_field hT dT h3 ?_)
 rw[if_neg (show ¬((Value.none == rawInt L)=true) by simp[rawInt])]
 refine wpAny_bind (wpAny_setField hT dT (Array.getElem?_eq_some_iff.mp h3).1 ?_)
 have ot:∀ b,b≠T→(s.heap.update T (Obj.mapFields (·.setIfInBounds 3 Value.none))).get? b=s.heap.get? b:=fun b z=>Heap.get?_update_other _ _ (Ne.symm z)
 have nr:∀ b o,s.heap.get? b=some o→(∀ vs,o.data≠.fields vs)→b≠T:=fun b o q nf z=>by
  rw[z,hT]at q;cases q;exact nf ts dT
 refine entryD fr (hl.of_keeps fun b o q nf=>⟨o,(ot b (nr b o q nf)).trans q,rfl⟩) hf ((ot e (Ne.symm ne)).trans he) (fun b o q=>(ot b fun z=>by rw[z,nT]at q;cases q).trans (hk b o q)) hb hd (Array.getElem?_eq_some_iff.mp h1).1 fun g a1 a2 a3 a4=>h g a1 a2 a3 fun b o q nf=>?_
 exact a4 b o ((ot b (nr b o q nf)).trans q) nf
theorem flightD {l:List Env}{fl:Value}{Q:Unit→Shared→Prop}(hk:B.StaysIn s.heap)(hl:s.heap.FunFrames B l)(ht:TrD s.heap B e c od fl)
  (h:∀ g,B.StaysIn g→g.FunFrames B l→TrD g B e c od .none→s.heap.UpToSlots g→Q () { s with heap:=g }):wpAny M A (setFlight (.ref e) none) Q E s:=by
 obtain⟨oe,us,T,oT,ts,he,hc,hd,h1,nT,ne,hT,dT,h3⟩:=ht
 have z3:3<ts.size:=(Array.getElem?_eq_some_iff.mp h3).1
 have ot:∀ b,b≠T→(s.heap.update T (Obj.mapFields (·.setIfInBounds 3 ((none:Option Addr).elim Value.none fun f=>rawInt f)))).get? b=s.heap.get? b:=fun b z=>Heap.get?_update_other _ _ (Ne.symm z)
 have nr:∀ b o,s.heap.get? b=some o→(∀ vs,o.data≠.fields vs)→b≠T:=fun b o q nf z=>by
  rw[z,hT]at q;cases q;exact nf ts dT
 unfold setFlight
 refine wpAny_bind (wpAny_field he hd h1 ?_)
 rw[if_pos (show (Value.ref T != Value.none)=true by simp)]
 refine wpAny_setField hT dT z3 (h _ (fun b o q=>(ot b fun z=>by rw[z,nT]at q;cases q).trans (hk b o q)) (hl.of_keeps fun b o q nf=>⟨o,(ot b (nr b o q nf)).trans q,rfl⟩) ?_ fun b o q nf=>⟨o.slots,(ot b (nr b o q nf)).trans q⟩)
 exact⟨oe,us,T,_,_,(ot e (Ne.symm ne)).trans he,hc,hd,h1,nT,ne,Heap.get?_update_self _ hT (Obj.isFreed_of_fields (Obj.data_mapFields dT _)),Obj.data_mapFields dT _,by simp[z3]⟩
theorem rec_up {g g' g'':Heap}(a:Rec g g')(b:g'.UpToSlots g''):g.UpToSlots g'':=fun x o q nf=>by
 obtain⟨sl,z⟩:=a x o q nf
 obtain⟨sl2,z2⟩:=b x _ z nf
 exact⟨sl2,z2⟩
theorem leaves_madeD {oe:Obj}{us:Array Value}{Q:Unit→Shared→Prop}(fr:A.frames=some (env::outer))(hf:env.frame=some L)(hk:B.StaysIn s.heap)(hl:s.heap.FunFrames B (env::outer))
  (he:s.heap.get? e=some oe) (hb:B.get? e=none) (hd:oe.data=.fields us) (h1:us[1]? = some .none)
  (hq:∀ g,FlyD B outer e oe.cls oe.dict g→s.heap.UpToSlots g→Q () { s with heap:=g }):wpAny M A (leaving env (.ref e)) Q E s:=by
 unfold leaving
 refine wpAny_bind (note_firstD fr hl hf he hk hb hd h1 fun g a1 a2 a3 a4=>?_)
 exact flightD (s:={ s with heap:=g }) a1 a2 a3 fun g2 b1 b2 b3 b4=>hq g2 ⟨b1,hb,b2.2.2,b3⟩ (rec_up a4 b4)
theorem leaves_onD {Q:Unit→Shared→Prop}(fr:A.frames=some (env::outer))(hf:env.frame=some L)(fl:FlyD B (env::outer) e c od s.heap)
  (hq:∀ g,FlyD B outer e c od g→s.heap.UpToSlots g→Q () { s with heap:=g }):wpAny M A (leaving env (.ref e)) Q E s:=by
 obtain⟨f1,f2,f3,f4⟩:=fl
 unfold leaving
 refine wpAny_bind (note_nextD fr f3 hf f4 f1 f2 fun g a1 a2 a3 a4=>?_)
 exact flightD (s:={ s with heap:=g }) a1 a2 a3 fun g2 b1 b2 b3 b4=>hq g2 ⟨b1,f2,b2.2.2,b3⟩ (rec_up a4 b4)
theorem looks_onD {Q:Unit→Shared→Prop}(fr:A.frames=some (env::outer))(hf:env.frame=some L)(fl:FlyD B (env::outer) e c od s.heap)
  (hq:∀ g,HeldD B (env::outer) e c od L g→s.heap.UpToSlots g→Q () { s with heap:=g }):wpAny M A (noteFrame (.ref e) env) Q E s:=by
 obtain⟨f1,f2,f3,f4⟩:=fl
 exact note_nextD fr f3 hf f4 f1 f2 fun g a1 a2 a3 a4=>hq g ⟨a1,f2,a2,a3⟩ a4
theorem landsD {l:List Env}{Q:Unit→Shared→Prop}(hh:HeldD B l e c od L s.heap)(hq:∀ g,FlyD B l e c od g→s.heap.UpToSlots g→Q () { s with heap:=g }):wpAny M A (setFlight (.ref e) none) Q E s:=by
 obtain⟨f1,f2,f3,f4⟩:=hh
 exact flightD f1 f3 f4 fun g a1 a2 a3 a4=>hq g ⟨a1,f2,a2,a3⟩ a4
theorem lands_againD {l:List Env}{Q:Unit→Shared→Prop}(hh:FlyD B l e c od s.heap)(hq:∀ g,FlyD B l e c od g→s.heap.UpToSlots g→Q () { s with heap:=g }):wpAny M A (setFlight (.ref e) none) Q E s:=by
 obtain⟨f1,f2,f3,f4⟩:=hh
 exact flightD f1 f3 f4 fun g a1 a2 a3 a4=>hq g ⟨a1,f2,a2,a3⟩ a4
end
end L2
namespace L2
open PySem PySem.Spec PyProof.Rows
abbrev bmV:List Value:=[.type "ValueError",.type "Exception",.type "BaseException",.type "object"]
def exOb (C t:Addr)(od:Option Addr):Obj:={ cls:=.ref C,dict:=od,data:=.fields #[.ref t,.none,.none,.none,.bool false,.none] }
def overV:List Value→Bool
 | .ref _::r=>overV r
 | l=>l == bmV
theorem refuse_over (self:Value):∀ {l:List Value},overV l=true→refuseLoop self "__setattr__" l=pure ()
 | .ref c::r,e=>by rw[refuseLoop_ref];exact refuse_over self (l:=r) e
 | [],e=>by cases e
 | .type a::r,e=>by rw[show (.type a::r:List Value)=bmV from beq_iff_eq.mp e];exact PySem.F.store_ValueError.passes self
 | .none::_,e=>by simp[overV,bmV]at e
 | .bool _::_,e=>by simp[overV,bmV]at e
 | .int _ _::_,e=>by simp[overV,bmV]at e
 | .str _ _::_,e=>by simp[overV,bmV]at e
 | .bytes _ _::_,e=>by simp[overV,bmV]at e
 | .float _ _::_,e=>by simp[overV,bmV]at e
 | .builtin _::_,e=>by simp[overV,bmV]at e
 | .ellipsis::_,e=>by simp[overV,bmV]at e
 | .notImplemented::_,e=>by simp[overV,bmV]at e
def excInI (K:PySem.W.Frag)(C fI:Addr):Bool:=match K.lookup C with
 | some ⟨.type "type",_,.cls cd,sl⟩=>(match cd.mro,sl.toList with
  | .ref D::bm,[_,_,_,_,some (.builtin n),_]=>D == C&&n == "ValueError.__new__"&&!cd.hasDel&&PySem.W.tailIn K bmV bm&&PySem.W.nsOkIn K cd.ns&&PySem.W.nsIn K cd.ns "__init__" == some (some (.ref fI))
  | _,_=>false)
 | _=>false
theorem ns_some_of {K:PySem.W.Frag}{h:Heap}{N:Addr}{mg:Str→Option Value}{n:Str}{v:Value}(X:K.In h)(G:h.Ns N mg)(e:PySem.W.nsIn K N n=some (some v)):mg n=some v:=by
 obtain⟨o,es,ep,ho,hd,hk,hf⟩:=G
 unfold PySem.W.nsIn at e
 split at e
 ·rename_i oc od es2 n2 sl hl
  have:=X _ _ hl
  rw[ho]at this
  cases this
  cases hd
  split at e
  ·rename_i en he
   cases e
   rw[←hf n]
   unfold nsFind findBy
   rw[←Array.find?_toList,he]
   rfl
  ·split at e<;>cases e
 ·cases e
theorem exc_objI {K:PySem.W.Frag}{h:Heap}{C fI:Addr}(X:K.In h)(q:excInI K C fI=true) :
  ∃ bm N nm qn bs hdct sn sub ab col dd k0 k1 k2 k3 k5 mN,h.get? C=some (excClassObj nm qn C N bs bm hdct sn sub ab col dd k0 k1 k2 k3 k5 "ValueError.__new__")∧h.Ns N mN∧mN "__init__" = some (.ref fI)∧OwnTail h bmV bm:=by
 unfold excInI at q
 split at q
 ·rename_i dd cd sl ho
  split at q
  ·rename_i D bm k0 k1 k2 k3 n k5 hm hs
   simp only[Bool.and_eq_true,beq_iff_eq,Bool.not_eq_true']at q
   obtain⟨⟨⟨⟨⟨rfl,rfl⟩,hdel⟩,ht⟩,hok⟩,hni⟩:=q
   obtain⟨nm,bs,mro,ns,qn,hd,sn,sub,ab,col,del⟩:=cd
   dsimp only at hm hdel hok hni
   subst hm hdel
   have hsl:sl = #[k0,k1,k2,k3,some (.builtin "ValueError.__new__"),k5]:=by
    obtain⟨l⟩:=sl
    simp only at hs
    rw[hs]
   subst hsl
   have G:h.Ns ns _:=.of_isNs (PySem.W.isNs_of_in X hok)
   exact⟨bm,ns,nm,qn,bs,hd,sn,sub,ab,col,dd,k0,k1,k2,k3,k5,_,X _ _ ho,G,ns_some_of X G hni,PySem.W.tail_of_in X ht⟩
  ·cases q
 ·cases q
structure NGc (K:PySem.W.Frag)(C:Addr)(f:Str):Prop where
 ga:PySem.W.findIn K (.ref C) "__getattribute__" = some (some (.builtin "BaseException.__getattribute__"))
 gh:PySem.W.findIn K (.ref C) "__getattr__" = some none
 sa:PySem.W.findIn K (.ref C) "__setattr__" = some (some (.builtin "object.__setattr__"))
 na:PySem.W.findIn K (.ref C) f=some none
 hd:PySem.W.hasDictIn K C=true
 mb:PySem.W.mroIn K C (.type "BaseException")=some true
 mo:PySem.W.mroIn K C (.type "object")=some true
 ov:((PySem.W.clsIn K C).any fun cd=>overV cd.mro)=true
section
variable {prog:Program}{w:World}{A:Around}{E:Value→Shared→Prop}{s:Shared}{K:PySem.W.Frag}{x dx C:Addr}{mA:Str→Option Value}{f:Str}{v:Value}
theorem ng_get {expr:Bool}{ox:Obj}{us:Array Value}{Q:Value→Shared→Prop}(X:K.In s.heap)(c:NGc K C f)(hx:s.heap.get? x=some ox)(hc:ox.cls=.ref C)(hd:ox.dict=some dx)(hf:ox.data=.fields us)
  (n:s.heap.Ns1 dx mA) (hv:mA f=some v) (hh:PySem.W.handedIn v=true) (h:Q v { s with toks:=s.toks+1 }):wpAny (model prog w) A (getAttr (.ref x) f expr) Q E s:=by
 obtain⟨od,ho,hl⟩:=lookIn_ns n
 have J:PySem.W.InstAt s.heap x ox C (some od):=⟨hx,hc,by unfold PySem.W.notCls;rw[hf],by rw[hd];exact ho⟩
 have L0:=J.type (M:=model prog w)
 have L1:=PySem.W.looks_findIn (M:=model prog w) X c.ga
 have L2:=PySem.W.looks_findIn (M:=model prog w) X c.gh
 have L3:=PySem.W.looks_find (M:=model prog w) X J (PySem.W.findObj_own c.hd c.na rfl (by rw[hl,hv]))
 have L4:PySem.W.Looks (model prog w) s.heap (isInstance (.ref x) (.type "BaseException")) true:=L0.andThen (PySem.W.looks_mroIn X c.mb)
 have G:=PySem.F.excAttr_ValueError.ga
 refine wpAny_bind (wpAny_mkText (wpAny_holding (wpAny_bind (L0 _ _ _ _ (fun _ _ e=>e) (wpAny_bind (L1 _ _ _ _ (fun _ _ e=>e) ?_))))))
 dsimp only
 have hx2:(Value.builtin "BaseException.__getattribute__" == Value.builtin "object.__getattribute__")=false:=by decide +kernel
 rw[hx2,Bool.and_false,if_neg (by decide)]
 refine wpAny_bind ?_
 unfold hookBefore
 rw[if_pos (show onTheHeap (Value.ref C)=true from rfl)]
 refine L2 _ _ _ _ (fun _ _ e=>e) (wpAny_bind (wpAny_attempt (wpAny_holding ?_)))
 unfold callGetattribute
 rw[show (expr&&onTheHeap (Value.builtin "BaseException.__getattribute__"))=false from Bool.and_false _,if_neg (by decide)]
 unfold boundAndCalled
 rw[G.bind]
 refine wpAny_bind (wpAny_pure ?_)
 show wpAny _ _ (call (.builtin "BaseException.__getattribute__") [.ref x,.str f s.toks]) _ _ _
 refine wpAny_call (codeAny_call_builtin G.plain PySem.F.entry_bexc_ga ?_)
 refine @PySem.W.check_slot (model prog w) _ _ { s with toks:=s.toks+1 } "BaseException.__getattribute__" "BaseException" "__getattribute__" (.ref x) [.str f s.toks] [] _ (by decide +kernel) (by decide +kernel) L4 (PySem.F.args_bexc_ga _ _) ?_
 refine wpAny_bind (wpAny_pure (wpAny_bind (wpAny_pure (wpAny_bind (L0 _ _ _ _ (fun _ _ e=>e) (wpAny_bind (L3 _ _ _ _ (fun _ _ e=>e) ?_)))))))
 refine wpAny_pure ?_
 show wpAny _ _ (handedOut v) _ _ _
 rw[PySem.W.handedOut_of hh]
 exact wpAny_pure h
theorem ng_set {t:Addr}{Q:Unit→Shared→Prop}(X:K.In s.heap)(c:NGc K C f)(hx:s.heap.get? x=some (exOb C t none))
  (h:∀ h' tk,h'.get? x=some (exOb C t (some s.heap.objs.size))→h'.Ns1 s.heap.objs.size (fun y=>if y=f then some v else none)→(∀ b o,b≠x→s.heap.get? b=some o→h'.get? b=some o)→Q () { s with heap:=h',toks:=tk }) :
  wpAny (model prog w) A (setAttr (.ref x) f v) Q E s:=by
 have J:PySem.W.InstAt s.heap x (exOb C t none) C none:=⟨hx,rfl,rfl,trivial⟩
 have SF:=PySem.F.store_ValueError
 obtain⟨cd,hcd,ho⟩:=PySem.W.any_some c.ov
 obtain⟨cd',hcd',hd'⟩:=PySem.W.any_some c.hd
 have e0:cd'=cd:=by rw[hcd]at hcd';exact (Option.some.inj hcd').symm
 subst e0
 have L0:=J.type (M:=model prog w)
 have sub:PySem.W.Looks (model prog w) s.heap (isInstance (.ref x) (.type "object")) true:=L0.andThen (PySem.W.looks_mroIn X c.mo)
 have hm:PySem.W.Looks (model prog w) s.heap (mroOf (.ref C)) cd'.mro:=(PySem.W.looks_clsIn X hcd).andThen .now
 refine PySem.W.set_plain X J c.sa ?_
 refine codeAny_call_builtin SF.slot.plain SF.entry (@PySem.W.check_slot (model prog w) _ _ { s with toks:=s.toks+1 } "object.__setattr__" "object" "__setattr__" (.ref x) [.str f s.toks,v] [] _ SF.kind SF.split sub (SF.args (.ref x) (.str f s.toks) v) ?_)
 rw[PySem.W.osa_eq,refuse_eq]
 refine wpAny_bind (wpAny_bind (L0 _ _ _ _ (fun _ _ e=>e) (wpAny_bind (hm _ _ _ _ (fun _ _ e=>e) ?_))))
 rw[refuse_over _ ho]
 refine wpAny_pure (wpAny_bind (L0 _ _ _ _ (fun _ _ e=>e) (wpAny_bind (PySem.W.looks_findIn X c.na _ _ _ _ (fun _ _ e=>e) (wpAny_bind (wpAny_pure ?_))))))
 refine wpAny_bind (wpAny_pure (wpAny_bind (wpAny_bind (wpAny_loadPart hx (wpAny_bind (PySem.W.Looks.here (s:={ s with toks:=s.toks+1 }) (PySem.W.looks_clsIn X hcd) ?_))))))
 rw[hd']
 rw[if_neg (by decide)]
 have hxs:x≠s.heap.objs.size:=Nat.ne_of_lt (Heap.lt_size hx)
 have hx1:(s.heap.push { cls:=.type "dict",data:=.dict #[] }).get? x=some (exOb C t none):=Heap.get?_push_of_some _ hx
 show wpAny (model prog w) A.in1 (alloc { cls:=.type "dict",data:=.dict #[] } >>= fun dA=>(update x fun o=>{ cls:=o.cls,dict:=some dA,data:=o.data,slots:=o.slots }) >>= fun _=>dictMade (Value.ref C) x dA) _ _ _
 refine wpAny_bind (wpAny_alloc' (wpAny_bind (wpAny_update' hx1 (wpAny_pure ?_))))
 generalize hg:((s.heap.push { cls:=.type "dict",data:=.dict #[] }).update x fun o=>{ cls:=o.cls,dict:=some s.heap.objs.size,data:=o.data,slots:=o.slots })=g1
 have hgd:g1.get? s.heap.objs.size=some { cls:=.type "dict",data:=.dict #[] }:=by
  rw[←hg,Heap.get?_update_ne _ _ _ _ hxs.symm];exact Heap.get?_push_at rfl rfl
 have hgx:g1.get? x=some (exOb C t (some s.heap.objs.size)):=by rw[←hg];exact Heap.get?_update_self _ hx1 rfl
 have hgo:∀ b o,b≠x→s.heap.get? b=some o→g1.get? b=some o:=fun b o n q=>by rw[←hg,Heap.get?_update_ne _ _ _ _ n];exact Heap.get?_push_of_some _ q
 have hnd:g1.Ns s.heap.objs.size (fun _=>none):=⟨_,#[],_,hgd,rfl,fun e he=>absurd he (by simp),fun _=>rfl⟩
 show wpAny _ _ (Builtin.ObjectAttr.storeInDict s.heap.objs.size (.str f s.toks) f v) _ _ _
 unfold Builtin.ObjectAttr.storeInDict Builtin.ObjectAttr.newKeyGuard
 refine wpAny_bind (wpAny_pure (wpAny_bind (wpAny_nsSet1 (Heap.Ns1.of_empty hnd) fun h' hn2 hs2=>?_)))
 obtain⟨oD,esD,epD,hoD,hdD,hcD⟩:=hn2.count (PySem.Within.cons f v PySem.Within.nil)
 refine wpAny_bind (wpAny_lookBehind hoD (by rw[hdD];exact pastItsLine_dict (Nat.le_trans hcD (by rw[List.length_cons,List.length_nil,sizeLine_eq];omega))) ?_)
 refine wpAny_pure (h h' _ ((hs2.2 x hxs).trans hgx) hn2 fun b o n q=>?_)
 exact (hs2.2 b (Nat.ne_of_lt (Heap.lt_size q))).trans (hgo b o n q)
theorem ng_init0 {t fI:Addr}{u:Value}{Q:Value→Shared→Prop}(X:K.In s.heap)(c:excInI K C fI=true)(hx:s.heap.get? x=some (exOb C t none))
  (h:∀ h' t',h'.get? x=some (exOb C t' none)→(∀ b o,b≠x→s.heap.get? b=some o→h'.get? b=some o)→Q .none { s with heap:=h' }) :
  wpAny (model prog w) A (call (.builtin "ValueError.__init__") [.ref x,u]) Q E s:=by
 have F:=PySem.F.excBase_ValueError
 obtain⟨bm,N,nm,qn,bs,hdct,sn,sub,ab,col,dd,k0,k1,k2,k3,k5,mN,hC,hN,hni,T⟩:=exc_objI X c
 obtain⟨hp,g,d,tk,os⟩:=s
 refine wpAny_call (codeAny_call_builtin F.init.plain F.initEntry (wpAny_check_init_subT F T hC hx rfl ?_))
 unfold Builtin.«BaseException.__init__»
 dsimp only
 rw[if_neg (by simp)]
 unfold newTuple Builtin.BaseException.bexcPut
 have hx1:=Heap.get?_push_of_some (h:=hp) { cls:=.type "tuple",data:=.seq #[u] } hx
 refine wpAny_bind (wpAny_newObj_type (wpAny_bind (wpAny_bind (wpAny_field hx1 rfl rfl (wpAny_bind (wpAny_setField hx1 rfl (by show 0<6;decide) ?_))))) (by size_fits))
 refine wpAny_letGo (wpAny_pure (h _ hp.objs.size ?_ fun b o n q=>?_))
 ·exact Heap.get?_update_self _ hx1 rfl
 ·rw[Heap.get?_update_other _ _ (Ne.symm n)];exact Heap.get?_push_of_some _ q
end
end L2
namespace PySem
open Sem (wp)
section
variable {prog:Program}{w:World}{A:Around}{E:Value→Shared→Prop}{h:Heap}{g:Array GenState}{d:Drawn}{t:Nat}{os:OsState}
variable {nm q:Str}{C N:Addr}{bs bm bmB:List Value}{hdct:Bool}{sn:List Str}{sub:List Value}{ab:Bool}{col:Option Bool}{dd:Option Addr}{k0 k1 k2 k3 k5:Option Value}{B newId initId:String}
theorem wz_type_call_init (F:ExcBaseFacts B newId initId bmB)(T:OwnTail h bmB bm){mN:Str→Option Value}{rest:List Value}{fI:Addr}{oI:Obj}{Q:Fin→Shared→Prop}
  (hC:h.get? C=some (excClassObj nm q C N bs bm hdct sn sub ab col dd k0 k1 k2 k3 k5 newId)) (hn:h.Ns N mN) (hi:mN "__init__" = some (.ref fI)) (hfI:h.get? fI=some oI) (hfc:oI.cls=.type "function")
  (hq:∀ h' e,Heap.MadeExcOf h h' e (.ref C) rest→wpAny (model prog w) A (call (.ref fI) (.ref e::rest)) (fun r s'=>r=.none∧Q (.done (.ret (.ref e))) s') E ⟨h',g,d,t,os⟩) (hrest:rest.length≤sizeLine) :
  wpAny (model prog w) A (Builtin.«type.__call__» ⟨.ref C::rest,[]⟩) Q E ⟨h,g,d,t,os⟩:=by
 repeat (first | with_reducible refine wpAny_loadPart_at hC ?_ | with_reducible refine wpAny_madeBy_exc hC ?_ | wp_step)
 refine codeAny_call_builtin_code (Code.quiet_builtin _ F.quiet) (wpAny_check_new_subT F T hC ?_)
 refine codeAny_exc_new_subT F T hC ?_ hrest
 show wpAny _ _ _ _ _ _
 have keep:∀ b o,h.get? b=some o→((h.push { cls:=.type "tuple",data:=.seq rest.toArray }).push { cls:=.ref C,data:=.fields #[.ref h.objs.size,.none,.none,.none,.bool false,.none] }).get? b=some o:=fun b o e=>Heap.get?_push_of_some _ (Heap.get?_push_of_some _ e)
 have hC1:=keep _ _ hC
 have hn1:=hn.keeps keep
 have hget:((h.push { cls:=.type "tuple",data:=.seq rest.toArray }).push { cls:=.ref C,data:=.fields #[.ref h.objs.size,.none,.none,.none,.bool false,.none] }).get? (h.objs.size+1)=some { cls:=.ref C,data:=.fields #[.ref h.objs.size,.none,.none,.none,.bool false,.none] }:=by heap_get
 have hcC:(Value.ref C::bm).contains (.ref C)=true:=by simp
 have T1:=T.keeps keep
 unfold isInstance
 repeat (first | with_reducible refine wpAny_loadPart_at hget ?_ | (with_reducible refine wpAny_isSubtype_exc hC1 ?_;rw[hcC]) | wp_step)
 show wpAny _ _ (typeLookup (.ref C) _) _ _ _
 refine wpAny_typeLookup_tail hC1 hn1 T1 F.mroIs F.init.lookup ?_
 rw[hi]
 refine wpAny_holding (wpAny_bind ?_)
 unfold bindSpecial
 refine wpAny_bind (wpAny_typeOf (T:="function") ⟨_,keep _ _ hfI,hfc⟩ ?_)
 rw[if_pos (by decide)]
 refine wpAny_pure (wpAny_bind (wpAny_mono (hq _ (h.objs.size+1) ⟨keep,Heap.get?_none_of_le (Nat.le_succ _),h.objs.size,hget,Heap.get?_none_of_le (Nat.le_refl _),Heap.get?_push_of_some _ (Heap.get?_push_at rfl rfl)⟩) (fun r s' hr=>?_) fun _ _ x=>x))
 obtain⟨rfl,hQ⟩:=hr
 wp_walk
 exact hQ
theorem wz_call_init (F:ExcBaseFacts B newId initId bmB)(T:OwnTail h bmB bm){mN:Str→Option Value}{rest:List Value}{fI:Addr}{oI:Obj}{Q:Value→Shared→Prop}
  (hC:h.get? C=some (excClassObj nm q C N bs bm hdct sn sub ab col dd k0 k1 k2 k3 k5 newId)) (hn:h.Ns N mN) (hi:mN "__init__" = some (.ref fI)) (hfI:h.get? fI=some oI) (hfc:oI.cls=.type "function")
  (hq:∀ h' e,Heap.MadeExcOf h h' e (.ref C) rest→wpAny (model prog w) (A.under (.builtin "type.__call__" ⟨.ref C::rest,[]⟩)) (call (.ref fI) (.ref e::rest)) (fun r s'=>r=.none∧Q (.ref e) s') E ⟨h',g,d,t,os⟩) (hrest:rest.length≤sizeLine) :
  wpAny (model prog w) A (call (.ref C) rest) Q E ⟨h,g,d,t,os⟩:=by
 have f1:=tc_lookup
 have f2:=tc_bind (.ref C)
 have hT:(⟨h,g,d,t,os⟩:Shared).TypeIs (.ref C) "type":=⟨_,hC,rfl⟩
 refine wpAny_call (codeAny_of_tree ?_)
 show wpAny _ _ (callAny (.ref C) _) _ _ _
 repeat (any_goals (first | assumption | with_reducible refine wpAny_loadPart_at hC ?_ | wp_step))
 refine⟨rfl,?_⟩
 refine codeAny_call_builtin_at (Code.quiet_builtin _ (by decide +kernel)) entry_typeCall (wpAny_check_type_call_sub hC (wz_type_call_init F T hC hn hi hfI hfc (fun h' e hm=>?_) hrest))
 exact hq h' e hm
theorem wz_raise {x:Sem Value}{s:Shared}{env:Env}{Q:Flow→Shared→Prop}(hbase:bm.contains (.type "BaseException")=true)(hh:A.handled=none)
  (h:wpAny (model prog w) A x (fun v s1=>∃ e t od,v=.ref e∧s1.heap.get? C=some (excClassObj nm q C N bs bm hdct sn sub ab col dd k0 k1 k2 k3 k5 newId)∧s1.heap.get? e=some (L2.exOb C t od)∧E (.ref e) s1) E s) :
  wpAny (model prog w) A (raiseStmt env (some x) none) Q E s:=by
 have hcB:(Value.ref C::bm).contains (.type "BaseException")=true:=by rw[List.contains_cons,hbase,Bool.or_true]
 unfold raiseStmt
 refine wpAny_bind (wpAny_mono h (fun v s1 h1=>?_) fun _ _ x=>x)
 obtain⟨e,t,od,rfl,hC,he,hE⟩:=h1
 obtain⟨hp,g,d,tk,os⟩:=s1
 unfold L2.exOb at he
 repeat (first | with_reducible refine wpAny_loadPart_at he ?_ | with_reducible refine wpAny_loadPart_at hC ?_ | (with_reducible refine wpAny_isSubtype_exc hC ?_;rw[hcB]) | wp_step)
 exact wpAny_raiseNew_none hh hE
end
end PySem
namespace L2
open PySem PySem.Spec PyProof.Rows
abbrev OwnExc (K:PySem.W.Frag)(C:Addr):Prop:=PySem.W.excIn K C bmV "ValueError.__new__" = true
theorem exc_obj {K:PySem.W.Frag}{h:Heap}{C:Addr}(X:K.In h)(q:OwnExc K C) :
  ∃ bm N nm qn bs hdct sn sub ab col dd k0 k1 k2 k3 k5 mN,h.get? C=some (excClassObj nm qn C N bs bm hdct sn sub ab col dd k0 k1 k2 k3 k5 "ValueError.__new__")∧h.Ns N mN∧mN "__init__" = none∧OwnTail h bmV bm:=by
 have q:PySem.W.excIn K C bmV "ValueError.__new__" = true:=q
 unfold PySem.W.excIn at q
 split at q
 ·rename_i dd cd sl ho
  split at q
  ·rename_i C' bm k0 k1 k2 k3 n k5 hm hs
   simp only[Bool.and_eq_true,beq_iff_eq,Bool.not_eq_true']at q
   obtain⟨⟨⟨⟨⟨rfl,rfl⟩,hdel⟩,ht⟩,hok⟩,hni⟩:=q
   obtain⟨nm,bs,mro,ns,qn,hd,sn,sub,ab,col,del⟩:=cd
   dsimp only at hm hdel hok hni
   subst hm hdel
   have hsl:sl = #[k0,k1,k2,k3,some (.builtin "ValueError.__new__"),k5]:=by
    obtain⟨l⟩:=sl
    simp only at hs
    rw[hs]
   subst hsl
   exact⟨bm,ns,nm,qn,bs,hd,sn,sub,ab,col,dd,k0,k1,k2,k3,k5,_,X _ _ ho,.of_isNs (PySem.W.isNs_of_in X hok),PySem.W.nsMap_none_of_in X hok hni,PySem.W.tail_of_in X ht⟩
  ·cases q
 ·cases q
def exO (e C:Addr)(od:Option Addr):HO:=.ext fun h=>∃ t,h.get? e=some (exOb C t od)
theorem exO_ok {P:Program}{w:World}{H:Hp}{h:Heap}{e C t:Addr}{od:Option Addr}(q:h.get? e=some (exOb C t od)):ObjOk P w H h e (exO e C od):=⟨⟨t,q⟩,⟨_,q⟩,fun h1 h2 ⟨t,q⟩ k=>⟨t,k _ q⟩⟩
def untr (H:Hp)(a:Addr):Hp:=fun b=>if b=a then none else H b
theorem untr_ne {H:Hp}{a b:Addr}(h:b≠a):untr H a b=H b:=by unfold untr;rw[if_neg h]
theorem untr_same {H:Hp}{a:Addr}:untr H a a=none:=by unfold untr;rw[if_pos rfl]
theorem Inv.untrack {X:Cx}{pins:List (Addr×Obj)}{σ:St}{H:Hp}{s:Shared}{a:Addr}{φ:Heap→Prop}(I:Inv X pins σ H s)(e:H a=some (.ext φ)):Inv X pins σ (untr H a) s:=by
 have ne:∀ b o,H b=some o→(∀ ψ,o≠.ext ψ)→b≠a:=fun b o q n z=>by rw[z,e]at q;cases q;exact n _ rfl
 have u:Un X.fs [] H (untr H a) s.heap s.heap :=
  ⟨fun b o q _ _ _=>q,fun b o q _ _ _=>⟨o.slots,q⟩,fun b o q n _=>by unfold untr;split<;>first | rfl | exact n,fun b o q _=>⟨o,q⟩,fun b xs q=>by rw[untr_ne (ne b _ q fun ψ z=>nomatch z)];exact q,fun b o u q=>by rw[untr_ne (ne b _ q fun ψ z=>nomatch z)];exact q,fun b ps q=>⟨#[],by rw[untr_ne (ne b _ q fun ψ z=>nomatch z),q];simp⟩⟩
 have hk:HOk X.prog X.w (untr H a) s.heap:=fun b o q=>by
  by_cases hb:b=a
  ·rw[hb,untr_same]at q;cases q
  ·rw[untr_ne hb]at q
   exact (I.hok b o q).stay (fun c v _ r=>r) (fun c r=>by rw[untr_ne (ne c _ r fun ψ z=>nomatch z)];exact r) fun c xs r=>by rw[untr_ne (ne c _ r fun ψ z=>nomatch z)];exact r
 exact I.un (t':=s.toks) u hk
theorem ObjOk.has {P:Program}{w:World}{H:Hp}{h:Heap}{a:Addr}{o:HO}(x:ObjOk P w H h a o):∃ u,h.get? a=some u:=by
 cases o with
 | lst xs=>obtain⟨_,_,_,_,e⟩:=x;exact⟨_,e⟩
 | tup xs=>obtain⟨_,_,_,u,e,_⟩:=x;exact⟨u,e⟩
 | dK kvs=>obtain⟨_,_,_,_,o,_,_,e,_⟩:=x;exact⟨o,e⟩
 | dT kvs=>obtain⟨_,_,_,_,o,_,_,e,_⟩:=x;exact⟨o,e⟩
 | set S n=>obtain⟨o,_,_,_,e,_⟩:=x;exact⟨o,e⟩
 | ins C dx fs=>obtain⟨_,_,_,e,_⟩:=x;exact⟨_,e⟩
 | own y=>exact x
 | xd fs=>obtain⟨_,⟨o,_,_,e,_⟩,_⟩:=x;exact⟨o,e⟩
 | rng lo hi=>obtain⟨_,_,_,e⟩:=x;exact⟨_,e⟩
 | frz ob u=>obtain⟨e,_⟩:=x;exact⟨ob,e⟩
 | tbl ps=>exact⟨_,(show h.get? a=some _ from x)⟩
 | met f y=>exact⟨_,(show h.get? a=some _ from x)⟩
 | ext φ=>obtain⟨_,e,_⟩:=x;exact e
def CXD (P:Program)(w:World):CXT:=fun outer H s E e s'=>∃ (ea C:Addr)(od:Option Addr)(H':Hp)(B:Heap),e=.ref ea∧FlyD B outer ea (.ref C) od s'.heap∧Un (frs outer) [] H H' s.heap s'.heap∧HOk P w H' s'.heap∧s'.os=s.os∧AllBare s'.gens ∧
 (∀ b o,s.heap.get? b=some o→b∉frs outer→∃ o',B.get? b=some o')∧(∀ b o,H' b=some o→∃ o',B.get? b=some o')∧E (.ref C) od H'
theorem un_on {fs:List Addr}{H H':Hp}{h h1 h2 B:Heap}(u:Un fs [] H H' h h1)(b1:B.StaysIn h1)(b2:B.StaysIn h2)(hb:∀ b o,h.get? b=some o→b∉fs→∃ o',B.get? b=some o')(sl:∀ b o,b∈fs→h.get? b=some o→H b=none→∃ sl,h2.get? b=some { o with slots:=sl })(th:∀ b o,b∈fs→h.get? b=some o→∃ o',h2.get? b=some o'):Un fs [] H H' h h2:=by
 have eq:∀ b o,h.get? b=some o→b∉fs→h2.get? b=h1.get? b:=fun b o e hf=>by
  obtain⟨o',e'⟩:=hb b o e hf
  rw[b1 b o' e',b2 b o' e']
 refine⟨fun b o e n hf hx=>(eq b o e hf).trans (u.keep b o e n hf hx),fun b o e n hf hx=>sl b o hf e n,u.free,fun b o e hx=>?_,u.tups,u.frzs,u.tbls⟩
 by_cases hf:b∈fs
 ·exact th b o hf e
 ·rw[eq b o e hf];exact u.there b o e hx
theorem hok_on {P:Program}{w:World}{H:Hp}{h1 h2 B:Heap}(x:HOk P w H h1)(b1:B.StaysIn h1)(b2:B.StaysIn h2)(hb:∀ b o,H b=some o→∃ o',B.get? b=some o'):HOk P w H h2:=fun a o e =>
 (x a o e).stay (fun b u hc q=>by
  have:∃ o',B.get? b=some o':=by
   rcases hc with z | z
   ·rw[z];exact hb a o e
   ·exact hb b _ z
  obtain⟨o',e'⟩:=this
  rw[b1 b o' e']at q
  rw[←q]
  exact b2 b o' e') (fun _ q=>q) fun _ _ q=>q
def Flies (X:Cx)(E:XK):Prop:=∀ (pins:List (Addr×Obj))(σ:St)(H:Hp)(s:Shared)(ea C t:Addr)(od:Option Addr),Inv X pins σ H s→s.heap.get? ea=some (exOb C t od)→H ea=none→X.s₀.heap.get? ea=none→E (.ref C) od H→X.xe (.ref ea) s
section
variable {P:Program}{w:World}{K:PySem.W.Frag}{mg:Str→Option Value}{base:Heap}{N:List Str}{qual:Str}{sc:Scope}{f:Addr}{cd:Value}{A:Around}{outer:List Env}{s0:Shared}{H0:Hp}{E:XK}
theorem flies_cx:Flies (cxOf (CXD P w) P w K mg base N qual sc f cd A outer s0 H0 E) E:=by
 intro pins σ H s ea C t od I hx hn hs hE
 let X:Cx:=cxOf (CXD P w) P w K mg base N qual sc f cd A outer s0 H0 E
 show wpAny _ _ (leaving _ _) _ _ _
 have hstk:(X.A.frames:Option (List Env))=some (X.env::outer):=I.ok.frames
 have frS:frs X.stack=X.env.locals::frs outer:=by unfold frs;rfl
 let B:Heap:=PySem.W.hideAll s.heap (ea::frs X.stack)
 have hkb:B.StaysIn s.heap:=fun b o q=>PySem.W.of_hideAll _ q
 have inB:∀ b o,s.heap.get? b=some o→b≠ea→b∉frs X.stack→B.get? b=some o:=fun b o e ne hf=>PySem.W.hideAll_get _ e (fun z=>(List.mem_cons.mp z).elim ne hf)
 have hl:s.heap.FunFrames B (X.env::outer):=PySem.W.funFrames_hide I.stack fun env he a hf=>List.mem_cons_of_mem _ (List.mem_filterMap.mpr ⟨env,he,hf⟩)
 refine leaves_madeD (s:=s) hstk rfl hkb hl hx (PySem.W.hideAll_none _ List.mem_cons_self) rfl rfl fun h2 fl ups=>?_
 have ltl:∀ b o,s0.heap.get? b=some o→b≠X.env.locals:=fun b o e=>Nat.ne_of_lt (Nat.lt_of_lt_of_le (Heap.lt_size e) I.ok.above)
 have h0B:∀ b o,s0.heap.get? b=some o→b∉frs outer→∃ o',B.get? b=some o':=fun b o e hf=>by
  obtain⟨o',e'⟩:=I.base.there b o e (by intro z;exact absurd (show b∈([]:List Addr) from z) (by simp))
  refine⟨o',inB b o' e' (fun z=>?_) ?_⟩
  ·have hs':s0.heap.get? ea=none:=hs
   rw[z,hs']at e;cases e
  ·rw[frS]
   intro z
   rcases List.mem_cons.mp z with z | z
   ·exact ltl b o e z
   ·exact hf z
 have trB:∀ b o,H b=some o→∃ o',B.get? b=some o':=fun b o e=>by
  obtain⟨u,q⟩:=(I.hok b o e).has
  exact⟨u,inB b u q (fun z=>by rw[z,hn]at e;cases e) fun z=>by rw[I.stkFree b z]at e;cases e⟩
 have noEx:∀ b,b∉X.ex:=fun b z=>absurd (show b∈([]:List Addr) from z) (by simp)
 have slot2:∀ b o,b∈frs outer→s0.heap.get? b=some o→H0 b=none→∃ sl,h2.get? b=some { o with slots:=sl }:=fun b o hf e n=>by
  obtain⟨sl,e1⟩:=I.base.slot b o e n hf (noEx b)
  obtain⟨_,o2,ho2,hnf⟩:=I.ok.funs.mem hf
  have e2:o2=o:=by
   have:s0.heap.get? b=some o2:=ho2
   rw[e]at this;exact (Option.some.inj this).symm
  subst e2
  obtain⟨sl2,e3⟩:=ups b _ e1 hnf
  exact⟨sl2,e3⟩
 refine⟨ea,C,od,H,B,rfl,fl,?_,hok_on I.hok hkb fl.1 trB,I.os,I.bare,h0B,trB,hE⟩
 refine un_on (h1:=s.heap) I.base hkb fl.1 h0B (fun b o hf e n=>?_) fun b o hf e=>?_
 ·exact slot2 b o hf e n
 ·obtain⟨sl,q⟩:=slot2 b o hf e (I.ok.frf b hf)
  exact⟨_,q⟩
theorem pass_cx:Passes (CXD P w) (cxOf (CXD P w) P w K mg base N qual sc f cd A outer s0 H0 E) E:=by
 intro pins σ H s e s' I hc
 obtain⟨ea,C,od,H',B,rfl,fl,un,hok,os,bare,hsB,trB,hE⟩:=hc
 let X:Cx:=cxOf (CXD P w) P w K mg base N qual sc f cd A outer s0 H0 E
 show wpAny _ _ (leaving _ _) _ _ _
 have hstk:(X.A.frames:Option (List Env))=some (X.env::outer):=I.ok.frames
 have frS:frs X.stack=X.env.locals::frs outer:=by unfold frs;rfl
 refine leaves_onD hstk rfl fl fun h2 fl2 ups=>?_
 have ltl:∀ b o,s0.heap.get? b=some o→b≠X.env.locals:=fun b o e=>Nat.ne_of_lt (Nat.lt_of_lt_of_le (Heap.lt_size e) I.ok.above)
 have noEx:∀ b,b∉X.ex:=fun b z=>absurd (show b∈([]:List Addr) from z) (by simp)
 have h0B:∀ b o,s0.heap.get? b=some o→b∉frs outer→∃ o',B.get? b=some o':=fun b o e hf=>by
  obtain⟨o',e'⟩:=I.base.there b o e (noEx b)
  refine hsB b o' e' ?_
  rw[frS]
  intro z
  rcases List.mem_cons.mp z with z | z
  ·exact ltl b o e z
  ·exact hf z
 have unS:Un (frs outer) [] H0 H' s0.heap s'.heap:=by
  have u1:Un (frs outer) [] H0 H s0.heap s.heap:=I.base
  refine⟨fun b o e n hf hx=>?_,fun b o e n hf hx=>?_,fun b o e n hx=>?_,fun b o e hx=>?_,fun b xs q=>un.tups b xs (u1.tups b xs q),fun b o u q=>un.frzs b o u (u1.frzs b o u q),fun b ps q=>?_⟩
  ·refine un.keep b o (u1.keep b o e n hf hx) (u1.free b o e n hx) ?_ hx
   rw[frS]
   intro z
   rcases List.mem_cons.mp z with z | z
   ·exact ltl b o e z
   ·exact hf z
  ·obtain⟨sl,e1⟩:=u1.slot b o e n hf hx
   obtain⟨sl2,e2⟩:=un.slot b _ e1 (u1.free b o e n hx) (by rw[frS];exact List.mem_cons_of_mem _ hf) hx
   exact⟨sl2,e2⟩
  ·obtain⟨o',e'⟩:=u1.there b o e hx
   exact un.free b o' e' (u1.free b o e n hx) hx
  ·obtain⟨o',e'⟩:=u1.there b o e hx
   exact un.there b o' e' hx
  ·obtain⟨m1,e1⟩:=u1.tbls b ps q
   obtain⟨m2,e2⟩:=un.tbls b _ e1
   exact⟨m1++m2,by rw[e2,Array.append_assoc]⟩
 have slot2:∀ b o,b∈frs outer→s0.heap.get? b=some o→H0 b=none→∃ sl,h2.get? b=some { o with slots:=sl }:=fun b o hf e n=>by
  obtain⟨sl,e1⟩:=unS.slot b o e n hf (by simp)
  obtain⟨_,o2,ho2,hnf⟩:=I.ok.funs.mem hf
  have e2:o2=o:=by
   have:s0.heap.get? b=some o2:=ho2
   rw[e]at this;exact (Option.some.inj this).symm
  subst e2
  obtain⟨sl2,e3⟩:=ups b _ e1 hnf
  exact⟨sl2,e3⟩
 refine⟨ea,C,od,H',B,rfl,fl2,?_,hok_on hok fl.1 fl2.1 trB,os.trans I.os,bare,h0B,trB,hE⟩
 refine un_on (h1:=s'.heap) unS fl.1 fl2.1 h0B (fun b o hf e n=>slot2 b o hf e n) fun b o hf e=>?_
 obtain⟨sl,q⟩:=slot2 b o hf e (I.ok.frf b hf)
 exact⟨_,q⟩
end
theorem Inv.fresh0 {X:Cx}{pins:List (Addr×Obj)}{σ:St}{H:Hp}{s:Shared}{a:Addr}(I:Inv X pins σ H s)(hx:a∉X.ex)(h:s.heap.get? a=none):X.s₀.heap.get? a=none:=by
 cases e:X.s₀.heap.get? a with
 | none=>rfl
 | some o =>
  obtain⟨o',q⟩:=I.base.there a o e hx
  rw[h]at q;cases q
theorem Inv.unheld {X:Cx}{pins:List (Addr×Obj)}{σ:St}{H:Hp}{s:Shared}{a:Addr}(I:Inv X pins σ H s)(h:s.heap.get? a=none):H a=none:=by
 cases e:H a with
 | none=>rfl
 | some o =>
  obtain⟨u,q⟩:=(I.hok a o e).has
  rw[h]at q;cases q
def tRaise (te:TE)(C:Addr)(E:XK):TS:=fun _ σ H=>te σ H fun _ H1=>E (.ref C) none H1
theorem ps_raise {X:Cx}{C:Addr}{E:XK}{x:Str}{e:Expr}{te:TE}{np cpos pos:Pos}(q:OwnExc X.K C)(hfl:Flies X E)(hex:X.ex=[])(hh:X.A.handled=none)(hg:Gl X x)(hm:X.mg x=some (.ref C))(he:PE X e te)
  (hdb:(x == ("__debug__" : Str))=false:=by decide) (hs:starEach [e] X.env=[(false,eval e X.env)]:=by rfl) :
  PS X (.Raise (some (.Call (.Name x np) [e] [] cpos)) none pos) (tRaise te C E):=by
 intro pins s σ H D I h
 obtain⟨bm,N,nm,qn,bs,hdct,sn,sub,ab,col,dd,k0,k1,k2,k3,k5,mN,hC,hN,hni,T⟩:=exc_obj I.ok.mod.kin q
 refine wpAny_Raise_call_subT (C:=C) (nm:=nm) (q:=qn) (N:=N) (bs:=bs) (bm:=bm) (hdct:=hdct) (sn:=sn) (sub:=sub) (ab:=ab) (col:=col) (dd:=dd) (k0:=k0) (k1:=k1) (k2:=k2) (k3:=k3) (k5:=k5)
  PySem.F.excBase_ValueError (mN:=mN) (T.hasType PySem.F.excBase_ValueError.hasBase) hh (by rw[hs];rfl) hni (ld_glob I hg hm ⟨rfl,?_⟩ hdb)
 rw[hs]
 refine Calls.evalArgs_plain (Calls.spliced_cons (thn (he pins s σ H _ I h) fun u s1 ⟨v,H1,I1,rv,q1⟩=>Calls.spliced_nil ?_))
 refine⟨rfl,(show 1≤sizeLine by decide),I1.bk _ _ hC,hN.keeps I1.bk,T.keeps I1.bk,fun h' ea hx=>?_⟩
 obtain⟨t,hea,_,_⟩:=hx.there
 exact hfl pins σ H1 { s1 with heap:=h' } ea C t none (I1.kept (t':=s1.toks) hx.keeps) hea (I1.unheld hx.new) (I1.fresh0 (by rw[hex];simp) hx.new) q1
end L2
namespace L2
open PySem PySem.Spec PyProof.Rows
section
variable {X:Cx}{pins:List (Addr×Obj)}{σ:St}{H:Hp}{s:Shared}
theorem Inv.laidN {a:Addr}{o:HO}{h':Heap}{t':Nat}(I:Inv X pins σ H s)(k:∀ b u,s.heap.get? b=some u→h'.get? b=some u)(hp:s.heap.get? a=none)(new:ObjOk X.prog X.w (upd H a o) h' a o) :
  Inv X pins σ (upd H a o) { s with heap:=h',toks:=t' }:=by
 have hn:=I.unheld hp
 have ne:∀ b u,s.heap.get? b=some u→b≠a:=fun b u q z=>by rw[z,hp]at q;cases q
 refine I.un ⟨fun b u q _ _ _=>k b u q,fun b u q _ _ _=>⟨u.slots,k b u q⟩,fun b u q n _=>by rw[upd_ne (ne b u q)];exact n,fun b u q _=>⟨u,k b u q⟩,fun b xs q=>by rw[upd_ne (ne_of_none q hn)];exact q,fun b u xs q=>by rw[upd_ne (ne_of_none q hn)];exact q,fun b ps q=>⟨#[],by rw[upd_ne (ne_of_none q hn),q];simp⟩⟩ fun b u e=>?_
 by_cases hb:b=a
 ·subst hb;rw[upd_same]at e;cases e;exact new
 ·rw[upd_ne hb]at e
  exact (I.hok b u e).stay (fun c v _ q=>k c v q) (fun c q=>by rw[upd_ne (ne_of_none q hn)];exact q) fun c xs q=>by rw[upd_ne (ne_of_none q hn)];exact q
end
def spNG (C:Addr)(f:Str):Sp:=fun vs H Q _=>∃ (ea:Addr)(g:Int),vs=[.ref ea,.int g]∧g.natAbs<10 ^ 100∧H ea=some (exO ea C none)∧∀ dx,H dx=none→Q .non (upd (upd H ea (exO ea C (some dx))) dx (.xd [(f,.int g)]))
theorem pe_binit {X:Cx}{pl:Sem Bool}{W fI:Addr}{x:Str}{e:Expr}{es:List Expr}{t:TA}{np apos pos:Pos}(hg:Gl X x)(hm:X.mg x=some (.ref W))(hsp:PySem.W.specialIn X.K (.ref W) "__getattribute__" = some (some (.builtin "type.__getattribute__")))
  (hrd:PySem.W.readsIn X.K W (.type "type")=true) (hfc:PySem.W.findCls X.K (.ref W) (.type "type") "__init__" = some (.val (.builtin "ValueError.__init__"))) (ha:PA X (e::es) t)
  (hdb:(x == ("__debug__" : Str))=false:=by decide) (he:starEach (e::es) X.env=(false,eval e X.env)::starEach es X.env:=by rfl) (hpl:(backTo pos (starEach es X.env)).any (·.1)=false:=by rfl)
  (ht:eval (.Call (.Attribute (.Name x np) "__init__" apos) (e::es) [] pos) X.env=(do
   let ov ←eval (.Name x np) X.env
   standAt apos.atName
   let (f,first) ←holding [ov] (getMethod ov "__init__" pl)
   callWith pos f first (backTo pos (starEach (e::es) X.env)) (backToKw pos (keywordEach [] X.env))):=by rfl) :
  PE X (.Call (.Attribute (.Name x np) "__init__" apos) (e::es) [] pos) (fun σ H Q=>t σ H fun vs H1=>∃ ea C u,vs=[.ref ea,u]∧H1 ea=some (exO ea C none)∧excInI X.K C fI=true∧Q .non H1):=by
 intro pins s σ H Q I h
 refine PySem.W.methodCall_KW (pl:=pl) (ld_glob I hg hm ?_ hdb) ht
 refine PySem.W.method_cls I.kIn hsp (PySem.W.cls_value I.kIn hrd hfc rfl ?_)
 refine PyProof.Rows.callWith_builtin1 (thn (ha pos pins _ σ H _ (I.tok _) h) fun us s1 ⟨vs,H1,I1,r1,ea,C,v,ev,hx,c,q1⟩=>?_) he hpl
 subst ev
 obtain⟨u1,u2,rfl,ru1,ru2⟩:=r1.two
 cases ru1
 obtain⟨⟨t0,hx0⟩,_,_⟩:=(show ObjOk X.prog X.w H1 s1.heap ea (exO ea C none) from I1.hok ea _ hx)
 refine ng_init0 I1.kIn c hx0 fun h' t' q k=>?_
 have e:upd H1 ea (exO ea C none)=H1:=by funext b;unfold upd;split<;>rename_i z<;>first | (rw[z,hx]) | rfl
 refine⟨.non,H1,?_,rfl,q1⟩
 have:=I1.write (x:=ea) (e:=ea) (o:=exO ea C none) (h':=h') (t':=s1.toks) (by rw[hx];exact True.intro) (.inl rfl) (fun b o n z=>k b o n z) ⟨_,q⟩ (exO_ok q)
 rwa [e]at this
theorem ps_exset {X:Cx}{o value:Expr}{f:Str}{pos pos':Pos}{ta tv:TE}(ha:PE X o ta)(hv:PE X value tv)(hs:swapsWith value (some (.Attribute o f pos')) pos.line X.env=pure false) :
  PS X (.Assign [.Attribute o f pos'] value pos) (fun D σ H=>tv σ H fun y H1=>ta σ H1 fun x H2=>∃ ea C,x=.ref ea∧H2 ea=some (exO ea C none)∧NGc X.K C f∧∀ dx,H2 dx=none→D.nx σ (upd (upd H2 ea (exO ea C (some dx))) dx (.xd [(f,y)]))):=by
 intro pins s σ H D I h
 refine plainObj_wpAny_Assign_Attribute (thn (hv pins s σ H _ I h) fun u s1 ⟨y,H1,I1,ry,q⟩=>thn (ha pins s1 σ H1 _ I1 q) fun ov s2 ⟨x,H2,I2,rx,ea,C,ex,hx,c,q2⟩=>?_) hs
 subst ex
 obtain rfl:ov=Value.ref ea:=rx
 obtain⟨⟨t0,hx0⟩,_,_⟩:=(show ObjOk X.prog X.w H2 s2.heap ea (exO ea C none) from I2.hok ea _ hx)
 refine ng_set I2.kIn c hx0 fun h' tk hx1 hns k=>⟨σ,_,?_,q2 s2.heap.objs.size I2.fresh⟩
 have hd:=I2.fresh
 have ned:s2.heap.objs.size≠ea:=fun z=>by rw[z,hx]at hd;cases hd
 have ne1:∀ b u,H2 b=some u→(∀ ψ,u≠.ext ψ)→b≠ea:=fun b u q n z=>by rw[z,hx]at q;cases q;exact n _ rfl
 have ned2:∀ b u,s2.heap.get? b=some u→b≠s2.heap.objs.size:=fun b u q=>Nat.ne_of_lt (Heap.lt_size q)
 have up:∀ b u,H2 b=some u→(∀ ψ,u≠.ext ψ)→upd (upd H2 ea (exO ea C (some s2.heap.objs.size))) s2.heap.objs.size (.xd [(f,y)]) b=some u:=fun b u q n=>by
  rw[upd_ne (ne_of_none q hd),upd_ne (ne1 b u q n)];exact q
 refine I2.un ⟨fun b u q n _ _=>k b u (fun z=>by rw[z,hx]at n;cases n) q,fun b u q n _ _=>⟨u.slots,k b u (fun z=>by rw[z,hx]at n;cases n) q⟩,fun b u q n _=>?_,fun b u q _=>?_,fun b xs q=>up b _ q (fun ψ z=>nomatch z),fun b u xs q=>up b _ q (fun ψ z=>nomatch z),fun b ps q=>⟨#[],by rw[up b _ q (fun ψ z=>nomatch z)];simp⟩⟩ fun b u q=>?_
 ·rw[upd_ne (ned2 b u q),upd_ne (fun z=>by rw[z,hx]at n;cases n)];exact n
 ·by_cases hb:b=ea
  ·exact⟨_,by rw[hb];exact hx1⟩
  ·exact⟨u,k b u hb q⟩
 ·by_cases hb:b=s2.heap.objs.size
  ·rw[hb,upd_same]at q
   cases q
   rw[hb]
   refine⟨_,hns,fun g=>?_⟩
   show RelO (List.lookup g [(f,y)]) (if g=f then some _ else none)
   by_cases hgf:g=f
   ·rw[if_pos hgf,hgf];simp only[List.lookup,beq_self_eq_true];exact ry
   ·have hb:(g == f)=false:=beq_eq_false_iff_ne.mpr hgf
    rw[if_neg hgf];simp only[List.lookup,hb];trivial
  ·rw[upd_ne hb]at q
   by_cases hb2:b=ea
   ·rw[hb2,upd_same]at q
    cases q
    rw[hb2]
    exact exO_ok hx1
   ·rw[upd_ne hb2]at q
    refine (I2.hok b u q).stay (fun c v hc r=>k c v ?_ r) (fun c r=>up c _ r fun ψ z=>nomatch z) fun c xs r=>up c _ r fun ψ z=>nomatch z
    rcases hc with z | z
    ·rw[z];exact hb2
    ·exact ne1 c _ z fun ψ z=>nomatch z
def tRaiseI (te:TE)(C:Addr)(f:Str)(E:XK):TS:=fun _ σ H=>te σ H fun v H1=>∃ g:Int,v=.int g∧g.natAbs<10 ^ 100∧∀ dx,H1 dx=none→E (.ref C) (some dx) (upd H1 dx (.xd [(f,.int g)]))
theorem ps_raiseI {X:Cx}{C fI:Addr}{k:Nat}{fd:FuncData}{E:XK}{x f sl gp:Str}{e:Expr}{te:TE}{np cpos pos:Pos}(c:excInI X.K C fI=true)(hfn:PySem.W.typeIn X.K (.ref fI)=some (.type "function"))
  (G:FnOk X.prog X.w X.K X.mg X.base CX0 k fI fd [sl,gp] (spNG C f)) (hr:Room (k+1) X.A) (hb:Binds X.K fd [sl,gp] [])
  (hfl:Flies X E) (hex:X.ex=[]) (hh:X.A.handled=none) (hg:Gl X x) (hm:X.mg x=some (.ref C)) (he:PE X e te)
  (hdb:(x == ("__debug__" : Str))=false:=by decide) (hs:starEach [e] X.env=[(false,eval e X.env)]:=by rfl) :
  PS X (.Raise (some (.Call (.Name x np) [e] [] cpos)) none pos) (tRaiseI te C f E):=by
 intro pins s σ H D I h
 obtain⟨bm,N,nm,qn,bs,hdct,sn,sub,ab,col,dd,k0,k1,k2,k3,k5,mN,hC,hN,hni,T⟩:=exc_objI I.ok.mod.kin c
 have F:=PySem.F.excBase_ValueError
 have hbase:=T.hasType F.hasBase
 rw[arm_exec_Raise]
 refine wpAny_bind (wpAny_standAt (wz_raise (C:=C) (nm:=nm) (q:=qn) (N:=N) (bs:=bs) (bm:=bm) (hdct:=hdct) (sn:=sn) (sub:=sub) (ab:=ab) (col:=col) (dd:=dd) (k0:=k0) (k1:=k1) (k2:=k2) (k3:=k3) (k5:=k5) (newId:="ValueError.__new__") hbase hh (wpAny_bind (wpAny_mono (wpAny_Call_ofName (ld_glob I hg hm ?_ hdb)) (fun v s3 h3=>wpAny_bind (wpAny_standAt (wpAny_pure h3))) fun _ _ x=>x))))
 rw[hs]
 unfold callWith
 refine wpAny_bind (wpAny_holding (Calls.evalArgs_plain (Calls.spliced_cons (thn (he pins s σ H _ I h) fun u s1 ⟨v,H1,I1,rv,g,ev,hgb,q1⟩=>Calls.spliced_nil (wpAny_bind (wpAny_standAt ?_))))))
 subst ev
 dsimp only
 have hC1:=I1.bk _ _ hC
 have hN1:=hN.keeps I1.bk
 have T1:=T.keeps I1.bk
 have hf1:∃ oI,s1.heap.get? fI=some oI∧oI.cls=.type "function":=by
  unfold PySem.W.typeIn at hfn
  obtain⟨o,ho,hc⟩:=Option.map_eq_some_iff.mp hfn
  exact⟨o,I1.kIn _ _ ho,hc⟩
 obtain⟨oI,hfI,hfc⟩:=hf1
 obtain⟨hp,gs,d,tk,os⟩:=s1
 refine wpAny_bind (wpAny_keeperOf_exc hC1 ?_)
 refine wpAny_bind (wz_call_init (rest:=[u]) F T1 hC1 hN1 hni hfI hfc (fun h' ea hx=>?_) (show 1≤sizeLine by decide))
 obtain⟨t0,hea,_,_⟩:=hx.there
 have hfr:=I1.fresh0 (by rw[hex];simp) hx.new
 have hun:=I1.unheld hx.new
 have I2:Inv X pins σ (upd H1 ea (exO ea C none)) ⟨h',gs,d,tk,os⟩:=I1.laidN (a:=ea) (o:=exO ea C none) (h':=h') (t':=tk) hx.keeps hx.new (exO_ok hea)
 have r2:Vals [V.ref ea,V.int g] [Value.ref ea,u]:=.cons rfl (.cons rv .nil)
 refine wpAny_call (codeAny_mono (G.run _ X.stack _ _ ⟨[Value.ref ea,u],[]⟩ [Value.ref ea,u] [V.ref ea,V.int g] (fun v H3=>v=.non∧∃ dx,H1 dx=none∧dx≠ea∧H3=upd (upd (upd H1 ea (exO ea C none)) ea (exO ea C (some dx))) dx (.xd [(f,.int g)])) E0 (hr.make C [u] [])
  (I2.env0.make C [u] []) (hb _ [Value.ref ea,u] I2.kIn rfl) r2 ⟨ea,g,rfl,hgb,upd_same,fun dx hdx=>⟨rfl,dx,?_,?_,rfl⟩⟩) fun r s' hq'=>?_)
 ·by_cases z:dx=ea
  ·rw[z,upd_same]at hdx;cases hdx
  ·rwa [upd_ne z]at hdx
 ·intro z;rw[z,upd_same]at hdx;cases hdx
 cases r with
 | error e=>exact hq'.elim
 | ok fl =>
  cases fl with
  | ret u2 =>
   obtain⟨v,H3,I3,rv3,ev,dx,hdx,hne,eH⟩:=I2.after hq'
   subst ev
   refine⟨rv3,wpAny_bind (wpAny_holding (wpAny_point (wpAny_pure ?_)))⟩
   have h3:H3 ea=some (exO ea C (some dx)):=by rw[eH,upd_ne (Ne.symm hne),upd_same]
   obtain⟨⟨t3,hx3⟩,_,_⟩:=(show ObjOk X.prog X.w H3 s'.heap ea (exO ea C (some dx)) from I3.hok ea _ h3)
   have I4:=I3.untrack (φ:=fun h=>∃ t,h.get? ea=some (exOb C t (some dx))) h3
   have e4:untr H3 ea=upd H1 dx (.xd [(f,.int g)]):=by
    funext b
    unfold untr
    by_cases hb:b=ea
    ·rw[if_pos hb,hb,upd_ne (Ne.symm hne),hun]
    ·rw[if_neg hb,eH]
     by_cases hd:b=dx
     ·rw[hd,upd_same,upd_same]
     ·rw[upd_ne hd,upd_ne hb,upd_ne hb,upd_ne hd]
   rw[e4]at I4
   exact⟨ea,t3,some dx,rfl,I4.bk _ _ hC,hx3,hfl pins σ _ s' ea C t3 (some dx) I4 hx3 (by rw[upd_ne (Ne.symm hne)];exact hun) hfr (q1 dx hdx)⟩
  | next=>exact hq'.elim
  | brk=>exact hq'.elim
  | cont=>exact hq'.elim
end L2
namespace L2
open PySem PySem.Spec PyProof.Rows
def Land (X:Cx)(pins:List (Addr×Obj))(σ:St)(H:Hp)(ea C:Addr)(od:Option Addr)(B:Heap)(s':Shared):Prop:=H ea=none∧∀ h2,FlyD B X.stack ea (.ref C) od h2→s'.heap.UpToSlots h2→Inv X pins σ H { s' with heap:=h2 }
theorem land_of {X:Cx}{pins:List (Addr×Obj)}{σ:St}{H H':Hp}{s s':Shared}{ea C:Addr}{od:Option Addr}{B:Heap}(I:Inv X pins σ H s)(fl:FlyD B X.stack ea (.ref C) od s'.heap)(un:Un (frs X.stack) [] H H' s.heap s'.heap)(hok:HOk X.prog X.w H' s'.heap)(os:s'.os=s.os)(bare:AllBare s'.gens)
  (hsB:∀ b o,s.heap.get? b=some o→b∉frs X.stack→∃ o',B.get? b=some o') (trB:∀ b o,H' b=some o→∃ o',B.get? b=some o'):Land X pins σ H' ea C od B s':=by
 refine⟨?_,fun h2 fl2 ups=>?_⟩
 ·cases e:H' ea with
  | none=>rfl
  | some o =>
   obtain⟨o',q⟩:=trB ea o e
   rw[fl.2.1]at q;cases q
 have slot2:∀ b o,b∈frs X.stack→s.heap.get? b=some o→H b=none→∃ sl,h2.get? b=some { o with slots:=sl }:=fun b o hf e n=>by
  obtain⟨sl,e1⟩:=un.slot b o e n hf (by simp)
  obtain⟨_,o2,ho2,hnf⟩:=I.stack.mem hf
  have e2:o2=o:=by
   have:s.heap.get? b=some o2:=ho2
   rw[e]at this;exact (Option.some.inj this).symm
  subst e2
  obtain⟨sl2,e3⟩:=ups b _ e1 hnf
  exact⟨sl2,e3⟩
 refine I.call' (ch:=[]) (s':={ s' with heap:=h2 }) os ?_ (hok_on hok fl.1 fl2.1 trB) bare fun b z=>absurd z (by simp)
 refine un_on (h1:=s'.heap) un fl.1 fl2.1 hsB (fun b o hf e n=>slot2 b o hf e n) fun b o hf e=>?_
 obtain⟨sl,q⟩:=slot2 b o hf e (I.stkFree b hf)
 exact⟨_,q⟩
def Cx.marked (X:Cx)(ea:Addr)(oe:Obj):Cx:={ X with A:=X.A.mark (some (.ref ea)),calm:=false,xe:=fun _ _=>False,pn:=(ea,oe)::X.pn }
theorem Inv.marked {X:Cx}{pins:List (Addr×Obj)}{σ:St}{H:Hp}{s:Shared}{ea:Addr}{oe:Obj}{us:Array Value}(I:Inv X pins σ H s)(he:s.heap.get? ea=some oe)(hd:oe.data=.fields us)(hn:H ea=none):Inv (X.marked ea oe) pins σ H s:=by
 refine⟨⟨I.ok.mod,I.ok.kind,I.ok.glob,I.ok.blt,I.ok.above,I.ok.inj,I.ok.has,I.ok.cab,fun z=>(by cases z),I.ok.frames,I.ok.stk,I.ok.exf,I.ok.bs,I.ok.bsz,I.ok.noex,I.ok.exfs,I.ok.funs,I.ok.frf⟩,I.os,I.bare,I.base,I.loc,I.cell,I.free,I.freeC,fun p hp=>?_,I.hok,I.len⟩
 rcases List.mem_cons.mp (show p∈(ea,oe)::(X.pn++pins) from hp) with z | z
 ·subst z
  refine⟨he,hn,fun z=>?_,fun z=>?_,fun v z=>?_⟩
  ·obtain⟨m,⟨o,es,ep,ho,hdd,_⟩,_⟩:=I.loc
   have z:ea=X.env.locals:=z
   rw[←z,he]at ho
   cases ho
   rw[hd]at hdd;cases hdd
  ·obtain⟨_,o,ho,nf⟩:=I.funs.mem z
   rw[he]at ho;cases ho
   exact nf us hd
  ·have z:oe.data=.cell v:=z
   rw[hd]at z;cases z
 ·exact I.pin p z
theorem Inv.unmarked {X:Cx}{pins:List (Addr×Obj)}{σ:St}{H:Hp}{s:Shared}{ea:Addr}{oe:Obj}(ok:X.Ok)(I:Inv (X.marked ea oe) pins σ H s):Inv X pins σ H s :=
 ⟨ok,I.os,I.bare,I.base,I.loc,I.cell,I.free,I.freeC,fun p hp=>I.pin p (show p∈(ea,oe)::(X.pn++pins) from List.mem_cons_of_mem _ hp),I.hok,I.len⟩
theorem SP.unmarked {X:Cx}{pins:List (Addr×Obj)}{D:Ends}{f:Flow}{s':Shared}{ea:Addr}{oe:Obj}(ok:X.Ok)(h:SP (X.marked ea oe) pins D f s'):SP X pins D f s':=by
 cases f with
 | next=>obtain⟨σ',H',I,q⟩:=h;exact⟨σ',H',I.unmarked ok,q⟩
 | brk=>obtain⟨σ',H',I,q⟩:=h;exact⟨σ',H',I.unmarked ok,q⟩
 | cont=>obtain⟨σ',H',I,q⟩:=h;exact⟨σ',H',I.unmarked ok,q⟩
 | ret u=>obtain⟨v,σ',H',I,r,q⟩:=h;exact⟨v,σ',H',I.unmarked ok,r,q⟩
def PHd (X:Cx)(hdl:List ExceptHandler)(th:Value→Option Addr→TS):Prop:=∀ (pins:List (Addr×Obj))(σ:St)(H:Hp)(D:Ends)(ea C:Addr)(od:Option Addr)(B:Heap)(s':Shared)(h:Heap),Land X pins σ H ea C od B s'→FlyD B X.stack ea (.ref C) od h→s'.heap.UpToSlots h→th (.ref C) od D σ H →
 wpAny (model X.prog X.w) X.A (handleBy (.ref ea) X.env hdl) (SP X pins D) X.xe { s' with heap:=h }
theorem name_gone {X:Cx}{pins:List (Addr×Obj)}{σ:St}{H:Hp}{s:Shared}{i:Nat}{n:Str}{pos:Pos}{E:Value→Shared→Prop}{Q:Unit→Shared→Prop}(I:Inv X pins σ H s)(hN:X.N.Nodup)(hi:X.N[i]? = some n)(hk:X.env.scope.names.lookup n=some .local)
  (h:∀ s',Inv X pins (σ.set i none) H s'→Q () s'):wpAny (model X.prog X.w) X.A (do bindName X.env n .none;unbindBehindTheSuite X.env n pos) Q E s:=by
 obtain⟨m,hn,hl⟩:=id I.loc
 have hcls:(X.env.scope.kind == .class||(X.env.scope.kind == .module&&X.env.locals != X.env.globals))=false:=by rw[I.ok.kind];rfl
 have cne:=I.cne
 obtain⟨oL,_,_,hoL,_⟩:=id hn
 refine wpAny_nameGoes_keeps hk hn hcls fun h' v hn' hs=>h _ ?_
 refine⟨I.ok,I.os,I.bare,⟨fun b o e n hb hx=>?_,fun b o e n hb hx=>?_,I.base.free,fun b o e hx=>?_,I.base.tups,I.base.frzs,I.base.tbls⟩,⟨_,hn',fun j y v' e1 e2 e3=>?_⟩,fun y c e=>?_,I.free,I.freeC,fun p hp=>?_,fun b ob e=>?_,by simpa using I.len⟩
 ·exact (hs.2 b (Nat.ne_of_lt (Nat.lt_of_lt_of_le (Heap.lt_size e) I.ok.above))).trans (I.base.keep b o e n hb hx)
 ·obtain⟨sl,e1⟩:=I.base.slot b o e n hb hx
  exact⟨sl,(hs.2 b (Nat.ne_of_lt (Nat.lt_of_lt_of_le (Heap.lt_size e) I.ok.above))).trans e1⟩
 ·obtain⟨o',e1⟩:=I.base.there b o e hx
  exact⟨o',(hs.2 b (Nat.ne_of_lt (Nat.lt_of_lt_of_le (Heap.lt_size e) I.ok.above))).trans e1⟩
 ·by_cases hj:j=i
  ·subst hj
   have hiσ:j<σ.length:=by rw[I.len];exact (List.getElem?_eq_some_iff.mp hi).1
   rw[List.getElem?_set_self hiσ]at e2
   cases e2
  ·rw[List.getElem?_set_ne (Ne.symm hj)]at e2
   obtain⟨u',r',q⟩:=hl j y v' e1 e2 e3
   refine⟨u',r',?_⟩
   rcases q with ⟨k,e⟩ | ⟨k,c,e,z⟩
   ·refine .inl ⟨k,?_⟩
    have:y≠n:=fun e=>hj (nodup_ix hN e1 (e▸hi))
    simp[this,e]
   ·exact .inr ⟨k,c,e,z.sameBut hs (cne y c e)⟩
 ·obtain⟨w',z⟩:=I.cell y c e
  exact⟨w',z.sameBut hs (cne y c e)⟩
 ·obtain⟨e,n,ne,nf,d⟩:=I.pin p hp
  exact⟨(hs.2 p.1 ne).trans e,n,ne,nf,d⟩
 ·refine (I.hok b ob e).stay (fun c w' hc q=>(hs.2 c ?_).trans q) (fun _ q=>q) fun _ _ q=>q
  rintro rfl
  rcases hc with hc | hc
  ·rw[←hc,I.free]at e;cases e
  ·rw[I.free]at hc;cases hc
def forget (i:Nat)(D:Ends):Ends:={ nx:=fun σ H=>D.nx (σ.set i none) H,rt:=D.rt,bk:=fun σ H=>D.bk (σ.set i none) H,ct:=fun σ H=>D.ct (σ.set i none) H }
theorem ph_nil {X:Cx}:PHd X [] (fun _ _ _ _ _=>False):=fun _ _ _ _ _ _ _ _ _ _ _ _ _ h=>h.elim
theorem ph_as {X:Cx}{y n:Str}{i:Nat}{C1:Addr}{b0:Stmt}{suite:List Stmt}{t1:Addr→Addr→Option Addr→TS}{th:Value→Option Addr→TS}{np pos:Pos}{rest:List ExceptHandler}(hg:Gl X y)(hm:X.mg y=some (.ref C1))
  (hN:X.N.Nodup) (hi:X.N[i]? = some n) (hk:X.env.scope.names.lookup n=some .local) (hs:∀ ea oe C od us,oe.cls=.ref C→oe.dict=od→oe.data=.fields us→PSs (X.marked ea oe) (b0::suite) (t1 ea C od)) (hr:PHd X rest th)
  (hdb:(y == ("__debug__" : Str))=false:=by decide):PHd X (.ExceptHandler (some (.Name y np)) (some n) (b0::suite) pos::rest) (fun cls od D σ H=>∃ b,PySem.W.exmOne X.K cls (.ref C1)=some b∧if b=true then ∃ C,cls=.ref C∧∀ ea,t1 ea C od (forget i D) (σ.set i (some (.ref ea))) H else th cls od D σ H):=by
 intro pins σ H D ea C od B s' h ld fl ups ht
 obtain⟨b,hb,ht⟩:=ht
 have I:=ld.2 h fl ups
 obtain⟨ob,us,hob,hobc,hobd,hobf⟩:=fl.obj
 have Im:=I.marked (ea:=ea) hob hobf ld.1
 have LT:PySem.W.Looks (model X.prog X.w) h (typeOf (.ref ea)) (.ref C):=by
  rw[←hobc]
  exact (PySem.W.Looks.ld hob).andThen .now
 refine wpAny_handleBy_cons (codeAny_handlers_test (ld_glob (X:=X.marked ea ob) Im hg hm ?_ hdb)) (by intro z;cases z)
 refine (PySem.W.exm_one (K:=X.K) I.kIn LT hb).here ?_
 cases b with
 | true =>
  rw[if_pos rfl]at ht
  obtain⟨C',eC,ht⟩:=ht
  cases eC
  refine codeAny_handlers_suite_as ?_
  refine lands_againD fl fun h6 fl6 ups6=>?_
  obtain⟨oe,us6,hoe,hoec,hoed,hoef⟩:=fl6.obj
  have I6:=(ld.2 h6 fl6 (ups.trans ups6)).marked (ea:=ea) hoe hoef ld.1
  refine store_ok (X:=X.marked ea oe) (v:=.ref ea) I6 hN hi (.inl hk) rfl (fun s7 I7=>?_) (.inr hk)
  refine wpAny_mono (hs ea oe C od us6 hoec hoed hoef pins s7 _ H (forget i D) I7 (ht ea)) (fun f s8 hq=>?_) fun _ _ z=>z.elim
  have hq:=hq.unmarked I.ok
  cases f with
  | next=>obtain⟨σ',H',I8,q⟩:=hq;exact name_gone I8 hN hi hk fun s9 I9=>⟨_,H',I9,q⟩
  | brk=>obtain⟨σ',H',I8,q⟩:=hq;exact name_gone I8 hN hi hk fun s9 I9=>⟨_,H',I9,q⟩
  | cont=>obtain⟨σ',H',I8,q⟩:=hq;exact name_gone I8 hN hi hk fun s9 I9=>⟨_,H',I9,q⟩
  | ret u=>obtain⟨v,σ',H',I8,r,q⟩:=hq;exact name_gone I8 hN hi hk fun s9 I9=>⟨v,_,H',I9,r,q⟩
 | false =>
  rw[if_neg Bool.false_ne_true]at ht
  exact hr pins σ H D ea C od B s' h ld fl ups ht
theorem pe_exf {X:Cx}{e:Expr}{f:Str}{pos:Pos}{te:TE}{ea C:Addr}{oe:Obj}{od:Option Addr}{us:Array Value}(hp:(ea,oe)∈X.pn)(hc:oe.cls=.ref C)(ho:oe.dict=od)(hd:oe.data=.fields us)(hv:PE X e te)(hb:attributeBase e f X.env (eval e X.env)=eval e X.env) :
  PE X (.Attribute e f pos) (fun σ H Q=>te σ H fun x H1=>x=.ref ea∧NGc X.K C f∧∃ dx fs v,od=some dx∧H1 dx=some (.xd fs)∧fs.lookup f=some v∧Q v H1):=by
 intro pins s σ H Q I h
 refine attr_of hb (thn (hv pins s σ H _ I h) fun u s1 ⟨x,H1,I1,rx,ex,c,dx,fs,v,eo,hx,l,q⟩=>?_)
 subst ex
 obtain rfl:u=Value.ref ea:=rx
 obtain⟨mA,hns,hr⟩:=(show ObjOk X.prog X.w H1 s1.heap dx (.xd fs) from I1.hok dx _ hx)
 obtain⟨u,hu,ru⟩:=RelO.some_of (v:=v) (o:=mA f) (by rw[←l];exact hr f)
 exact ng_get I1.kIn c (I1.pin _ (List.mem_append_left _ hp)).1 hc (ho.trans eo) hd hns hu (handed_of ru) ⟨v,H1,I1.tok _,ru,q⟩
theorem pe_exfK {X:Cx}(K:PySem.W.Frag){e:Expr}{f:Str}{pos:Pos}{te:TE}{ea C:Addr}{oe:Obj}{od:Option Addr}{us:Array Value}(hp:(ea,oe)∈X.pn)(hc:oe.cls=.ref C)(ho:oe.dict=od)(hd:oe.data=.fields us)(hv:PE X e te)(hb:attributeBase e f X.env (eval e X.env)=eval e X.env)(hK:X.K=K:=by rfl) :
  PE X (.Attribute e f pos) (fun σ H Q=>te σ H fun x H1=>x=.ref ea∧NGc K C f∧∃ dx fs v,od=some dx∧H1 dx=some (.xd fs)∧fs.lookup f=some v∧Q v H1):=by subst hK;exact pe_exf hp hc ho hd hv hb
def tTryC (sp:Sp)(t:TA)(i:Nat)(th:Value→Option Addr→TS):TS:=fun D σ H=>t σ H fun vs H1=>sp vs H1 (fun v H2=>D.nx (σ.set i (some v)) H2) (fun cls od H2=>th cls od D σ H2)
theorem ps_tryCall {X:Cx}{k:Nat}{f:Addr}{fd:FuncData}{ps:List Str}{sp:Sp}{i:Nat}{x fn:Str}{e:Expr}{es:List Expr}{t:TA}{hd0:ExceptHandler}{hdl:List ExceptHandler}{th:Value→Option Addr→TS}{px p cpos spos pos:Pos}
  (G:FnOk X.prog X.w X.K X.mg X.base (CXD X.prog X.w) k f fd ps sp) (hr:Room k X.A) (hg:Gl X fn) (hm:X.mg fn=some (.ref f)) (hk:PySem.W.keepIn X.K (.ref f)=true) (hb:Binds X.K fd ps []) (ha:PA X.nox (e::es) t)
  (hst:X.stack=X.env::X.outer) (hfr:X.env.frame=some X.env.locals) (hN:X.N.Nodup) (hi:X.N[i]? = some x) (hx:Loc X.env.scope x) (hh:PHd X (hd0::hdl) th)
  (hs:swapsWith (.Call (.Name fn p) (e::es) [] cpos) (some (.Name x px)) spos.line X.env=pure false:=by rfl) (hf:X.fn x=true∨X.env.scope.names.lookup x=some .local:=by first | exact .inl rfl | exact .inr rfl | assumption)
  (hdb:(fn == ("__debug__" : Str))=false:=by decide) (he:starEach (e::es) X.env=(false,eval e X.env)::starEach es X.env:=by rfl) (hpl:(backTo cpos (starEach es X.env)).any (·.1)=false:=by rfl) :
  PS X (.Try [.Assign [.Name x px] (.Call (.Name fn p) (e::es) [] cpos) spos] (hd0::hdl) [] [] pos) (tTryC sp t i th):=by
 intro pins s σ H D I h
 refine wpAny_Try_except ?_
 refine wpAny_execs_cons ?_
 refine wpAny_Assign_Name ?_ hs
 refine wpAny_Call_Name_kw (ld_glob I hg hm ?_ hdb)
 refine PySem.W.callWith_K (h₀:=X.base) I.ok.mod.kin hk (wpAny_mono (ha cpos pins s σ H _ (I.wish _) h) (fun us s1 ⟨vs,H1,I1,r,q⟩=>⟨I1.unwish.kIn,?_⟩) fun _ _ z=>z.elim) he hpl
 have I1:=I1.unwish
 have hl:us.length=ps.length:=by rw[←r.length];exact G.len _ _ _ _ q
 have hb':=hb s1 us I1.kIn (by rw[List.append_nil];exact hl)
 rw[List.append_nil]at hb'
 refine wpAny_call (codeAny_mono (G.run X.A X.stack s1 H1 ⟨us,[]⟩ us vs _ _ hr I1.env0 hb' r q) fun rs s' hq=>?_)
 cases rs with
 | error er =>
  obtain⟨ea,C,od,H',B,rfl,fl,un,hok,os,bare,hsB,trB,hE⟩:=hq
  have ld:=land_of I1 fl un hok os bare hsB trB
  have fl':=fl
  rw[hst]at fl'
  refine looks_onD (by rw[I.ok.frames,hst]) hfr fl' fun h4 held ups4=>?_
  refine landsD held fun h5 fl5 ups5=>?_
  rw[←hst]at fl5
  exact hh pins σ H' D ea C od B s' h5 ld fl5 (ups4.trans ups5) hE
 | ok fl =>
  cases fl with
  | ret u =>
   obtain⟨v,H2,I2,rv,q2⟩:=I1.after hq
   exact store_ok I2 hN hi hx rv (fun s3 I3=>wpAny_execs_nil (wpAny_execs_nil ⟨_,H2,I3,q2⟩)) hf
  | next=>exact False.elim hq
  | brk=>exact False.elim hq
  | cont=>exact False.elim hq
theorem Fun.okX {P:Program}{w:World}{K:PySem.W.Frag}{mg:Str→Option Value}{base:Heap}{x qual:Str}{st:Stmt}{f:Addr}{fd:FuncData}{N ps:List Str}{k:Nat}{sp:Sp}(F:Fun K x qual st f fd)(S:FnScope N ps (defScope st))(len:∀ vs H Q E,sp vs H Q E→vs.length=ps.length)
  (hbody:∀ (cdv:Value)(A:Around)(outer:List Env)(s:Shared)(H:Hp)(vs:List V)(Q:VK)(E:XK),Room k (A.deeper (envOfC qual (defScope st) s.heap.objs.size f cdv))→sp vs H Q E →
   ∃ t,PSs (cxOf (CXD P w) P w K mg base N qual (defScope st) f cdv A outer s H E) (defBody st) t∧t { nx:=fun _ H'=>Q .non H',rt:=Q } (start N vs) H):FnOk P w K mg base (CXD P w) (k+1) f fd ps sp:=by
 obtain⟨oc,od,kV,doc,pm,an,cdv,ct,osl,rfl,lk,hcd⟩:=F.ex
 exact fn_of lk hcd S len fun A outer s H vs Q E hr hsp=>hbody cdv A outer s H vs Q E hr hsp
def PJ (X:Cx)(es:List Expr)(t:TA):Prop:=∀ (out:Str)(m:Nat)(pins:List (Addr×Obj))(s:Shared)(σ:St)(H:Hp)(Q:VK),out.length≤1000*m→m+es.length≤100→Inv X pins σ H s→t σ H (fun _ H'=>∀ x:Str,Q (.str x) H')→wpAny (model X.prog X.w) X.A (joinParts out (evalEach es X.env)) (EP X pins σ Q) X.xe s
theorem pj_nil {X:Cx}:PJ X [] tNil:=by
 intro out m pins s σ H Q ho hm I h
 refine joinParts_nil ⟨.str out,H,I.tok _,⟨_,rfl⟩,h out⟩ ?_
 exact Nat.le_trans ho (Nat.le_trans (Nat.mul_le_mul_left 1000 (show m≤100 by simpa using hm)) (by decide))
def tJ (te:TE)(t:TA):TA:=fun σ H Q=>te σ H fun x H1=>∃ y:Str,x=.str y∧y.length≤1000∧t σ H1 Q
theorem pj_cons {X:Cx}{e:Expr}{es:List Expr}{te:TE}{t:TA}(he:PE X e te)(h:PJ X es t):PJ X (e::es) (tJ te t):=by
 intro out m pins s σ H Q ho hm I hq
 show wpAny _ _ (joinParts out (eval e X.env::evalEach es X.env)) _ _ s
 refine joinParts_cons (thn (he pins s σ H _ I hq) fun u s1 ⟨x,H1,I1,rx,y,ex,hy,q1⟩=>?_)
 subst ex
 obtain⟨tk,rfl⟩:=rx
 have hl:(out++y).length≤1000*(m+1):=by rw[strLen_append];omega
 rw[List.length_cons]at hm
 refine⟨Nat.le_trans hl (Nat.le_trans (Nat.mul_le_mul_left 1000 (show m+1≤100 by omega)) (by decide)),?_⟩
 exact h (out++y) (m+1) pins s1 σ H1 Q hl (by omega) I1 q1
def tFS (t:TA):TE:=fun σ H Q=>t σ H fun _ H'=>∀ x:Str,Q (.str x) H'
theorem pe_fstr {X:Cx}{e1 e2:Expr}{es:List Expr}{t:TA}{pos:Pos}(h:PJ X (e1::e2::es) t)(hn:(e1::e2::es).length≤100:=by decide):PE X (.JoinedStr (e1::e2::es) pos) (tFS t):=by
 intro pins s σ H Q I hq
 refine JoinedStr_many ?_
 exact h Str.empty 0 pins s σ H Q (by show 0≤_;exact Nat.zero_le _) (by simpa using hn) I hq
def tFI (te:TE):TE:=fun σ H Q=>te σ H fun x H1=>∃ i:Int,x=.int i∧i.natAbs<10 ^ 100∧∀ y:Str,y.length≤1000→Q (.str y) H1
theorem pe_fint {X:Cx}{e:Expr}{te:TE}{pos:Pos}(he:PE X e te):PE X (.FormattedValue e (-1) none pos) (tFI te):=by
 intro pins s σ H Q I h
 refine FormattedValue_plain (thn (he pins s σ H _ I h) fun u s1 ⟨x,H1,I1,rx,i,ex,hi,q⟩=>?_)
 subst ex
 obtain⟨tk,rfl⟩:=rx
 have hd:i.natAbs.log2<1920:=by
  by_cases h0:i.natAbs=0
  ·rw[h0];decide
  ·exact (Nat.log2_lt h0).mpr (Nat.lt_of_lt_of_le hi (by decide +kernel))
 refine wpAny_formatField_int hd ⟨.str (toString i),H1,I1.tok _,⟨_,rfl⟩,q _ ?_⟩
 have:=PySem.int_text_length_le10 (a:=i) (k:=100) (by decide) hi
 show (Str.ofString (toString i)).length≤1000
 rw[PySem.ofString_length]
 omega
end L2
namespace Wz
open PySem L2
def MCallee (P:Program)(w:World)(K:PySem.W.Frag)(mg:Str→Option Value)(base:Heap)(CX:CXT)(C:Addr)(m:Str)(k:Nat)(ps:List Str)(sp:Sp):Prop :=
 ∃ (f:Addr)(fd:FuncData),FnOk P w K mg base CX k f fd ps sp∧Meth K C m f∧Binds K fd ps []
def XCallee (P:Program)(w:World)(K:PySem.W.Frag)(mg:Str→Option Value)(base:Heap)(x:Str)(k:Nat)(ps:List Str)(sp:Sp):Prop :=
 ∃ (f:Addr)(fd:FuncData),FnOk P w K mg base (CXD P w) k f fd ps sp∧mg x=some (.ref f)∧PySem.W.keepIn K (.ref f)=true∧Binds K fd ps []
section
variable {X:Cx}{CX:CXT}{k:Nat}{C:Addr}{ps:List Str}{sp:Sp}{E:XK}{m x:Str}{p pos apos:Pos}{e o:Expr}{es:List Expr}{ta:TE}{t:TA}
theorem pmeth {pl:Sem Bool}(M:MCallee X.prog X.w X.K X.mg X.base CX C m k ps sp)(he:PE X o ta)(c:Cls X.K C)(hr:Room k X.A)(hx:Passes CX X E)(ha:PA X (e::es) t)
  (hst:starEach (e::es) X.env=(false,eval e X.env)::starEach es X.env:=by rfl) (hpl:(backTo pos (starEach es X.env)).any (·.1)=false:=by rfl)
  (ht:eval (.Call (.Attribute o m apos) (e::es) [] pos) X.env=(do
   let ov ←eval o X.env
   standAt apos.atName
   let (f,first) ←holding [ov] (getMethod ov m pl)
   callWith pos f first (backTo pos (starEach (e::es) X.env)) (backToKw pos (keywordEach [] X.env))):=by rfl) :
  PE X (.Call (.Attribute o m apos) (e::es) [] pos) (tMeth C m sp [] E ta t):=by
 obtain⟨f,fd,G,hm,hb⟩:=M
 exact pe_meth he c hm G hr hb .nil hx ha hst hpl ht
theorem pmeth0 {pl:Sem Bool}(M:MCallee X.prog X.w X.K X.mg X.base CX C m k ps sp)(he:PE X o ta)(c:Cls X.K C)(hr:Room k X.A)(hx:Passes CX X E)
  (ht:eval (.Call (.Attribute o m apos) [] [] pos) X.env=(do
   let ov ←eval o X.env
   standAt apos.atName
   let (f,first) ←holding [ov] (getMethod ov m pl)
   callWith pos f first (backTo pos (starEach [] X.env)) (backToKw pos (keywordEach [] X.env))):=by rfl) :
  PE X (.Call (.Attribute o m apos) [] [] pos) (tMeth C m sp [] E ta tNil):=by
 obtain⟨f,fd,G,hm,hb⟩:=M
 exact pe_meth0 he c hm G hr hb .nil hx ht
theorem pxcall (M:XCallee X.prog X.w X.K X.mg X.base x k ps sp)(hr:Room k X.A)(hg:Gl X x)(hx:Passes (CXD X.prog X.w) X E)(ha:PA X (e::es) t)
  (hdb:(x == ("__debug__" : Str))=false:=by decide) (he:starEach (e::es) X.env=(false,eval e X.env)::starEach es X.env:=by rfl) (hpl:(backTo pos (starEach es X.env)).any (·.1)=false:=by rfl) :
  PE X (.Call (.Name x p) (e::es) [] pos) (tCall sp [] E t):=by
 obtain⟨f,fd,G,hm,hk,hb⟩:=M
 exact pe_call G hr hg hm hk hb .nil hx ha hdb he hpl
theorem ptry {X:Cx}{k:Nat}{ps:List Str}{sp:Sp}{i:Nat}{x fn:Str}{e:Expr}{es:List Expr}{t:TA}{hd0:ExceptHandler}{hdl:List ExceptHandler}{th:Value→Option Addr→TS}{px p cpos spos pos:Pos}
  (M:XCallee X.prog X.w X.K X.mg X.base fn k ps sp) (hr:Room k X.A) (hg:Gl X fn) (ha:PA X.nox (e::es) t)
  (hst:X.stack=X.env::X.outer) (hfr:X.env.frame=some X.env.locals) (hN:X.N.Nodup) (hi:X.N[i]? = some x) (hx:Loc X.env.scope x) (hh:PHd X (hd0::hdl) th)
  (hs:swapsWith (.Call (.Name fn p) (e::es) [] cpos) (some (.Name x px)) spos.line X.env=pure false:=by rfl) (hf:X.fn x=true∨X.env.scope.names.lookup x=some .local:=by first | exact .inl rfl | exact .inr rfl | assumption)
  (hdb:(fn == ("__debug__" : Str))=false:=by decide) (he:starEach (e::es) X.env=(false,eval e X.env)::starEach es X.env:=by rfl) (hpl:(backTo cpos (starEach es X.env)).any (·.1)=false:=by rfl) :
  PS X (.Try [.Assign [.Name x px] (.Call (.Name fn p) (e::es) [] cpos) spos] (hd0::hdl) [] [] pos) (tTryC sp t i th):=by
 obtain⟨f,fd,G,hm,hk,hb⟩:=M
 exact ps_tryCall G hr hg hm hk hb ha hst hfr hN hi hx hh hs hf hdb he hpl
end
inductive Deed where
 | come (g:Int) | go (g:Int) | exch (a b:Int)
 deriving DecidableEq
def deedO:Deed→HO
 | .come g=>.tup [.str "come",.int g]
 | .go g=>.tup [.str "go",.int g]
 | .exch a b=>.tup [.str "exchange",.int a,.int b]
structure HSt where
 worn:List (Int×Int)
 hold:List (Int×Int)
 circ:List (Int×List Int)
 deeds:List Deed
def circK:List Addr→List (Int×List Int)→List (Key×V)
 | a::as,x::xs=>(Sum.inl x.1,V.ref a)::circK as xs
 | _,_=>[]
def ksO (ks:List Int):List (Key×V):=ks.map fun k=>(Sum.inl k,V.bl true)
structure HA where
 dx:Addr
 w:Addr
 h:Addr
 c:Addr
 d:Addr
 cs:List Addr
def HA.fp (A:HA):List Addr:=A.w::A.h::A.c::A.d::A.cs
def hflds (A:HA):List (Str×V):=putF "deeds" (.ref A.d) (putF "circles" (.ref A.c) (putF "holders" (.ref A.h) (putF "worn" (.ref A.w) [])))
theorem s1:¬ (("worn" : Str)="holders"):=by decide +kernel
theorem s2:¬ (("worn" : Str)="circles"):=by decide +kernel
theorem s3:¬ (("worn" : Str)="deeds"):=by decide +kernel
theorem s4:¬ (("holders" : Str)="circles"):=by decide +kernel
theorem s5:¬ (("holders" : Str)="deeds"):=by decide +kernel
theorem s6:¬ (("circles" : Str)="deeds"):=by decide +kernel
theorem hf_w (A:HA):(hflds A).lookup ("worn" : Str)=some (.ref A.w):=by
 unfold hflds;rw[lookup_putF,if_neg s3,lookup_putF,if_neg s2,lookup_putF,if_neg s1,lookup_putF,if_pos rfl]
theorem hf_h (A:HA):(hflds A).lookup ("holders" : Str)=some (.ref A.h):=by
 unfold hflds;rw[lookup_putF,if_neg s5,lookup_putF,if_neg s4,lookup_putF,if_pos rfl]
theorem hf_c (A:HA):(hflds A).lookup ("circles" : Str)=some (.ref A.c):=by
 unfold hflds;rw[lookup_putF,if_neg s6,lookup_putF,if_pos rfl]
theorem hf_d (A:HA):(hflds A).lookup ("deeds" : Str)=some (.ref A.d):=by
 unfold hflds;rw[lookup_putF,if_pos rfl]
theorem hf_no (A:HA){m:Str}(h1:¬ m="worn")(h2:¬ m="holders")(h3:¬ m="circles")(h4:¬ m="deeds"):(hflds A).lookup m=none:=by
 unfold hflds
 rw[lookup_putF,if_neg h4,lookup_putF,if_neg h3,lookup_putF,if_neg h2,lookup_putF,if_neg h1]
 rfl
def DeedsAt (H:Hp)(d:Addr)(ds:List Deed):Prop:=∃ as:List Addr,H d=some (.lst (as.map V.ref))∧Paired (fun a x=>H a=some (deedO x)) as ds
structure HallAt (C:Addr)(H:Hp)(p:Addr)(A:HA)(st:HSt):Prop where
 ob:H p=some (.ins C A.dx (hflds A))
 nd:A.fp.Nodup
 w:H A.w=some (.dK (dk st.worn))
 h:H A.h=some (.dK (dk st.hold))
 c:H A.c=some (.dK (circK A.cs st.circ))
 cs:Paired (fun a (x:Int×List Int)=>H a=some (.dK (ksO x.2))) A.cs st.circ
 d:DeedsAt H A.d st.deeds
def Kp (fp:List Addr)(H H':Hp):Prop:=∀ b o,H b=some o→b∉fp→H' b=some o
theorem Kp.of_same {fp:List Addr}{H H':Hp}(s:Same H H'):Kp fp H H':=fun b o e _=>s b o e
theorem Kp.trans {fp fp':List Addr}{H H1 H2:Hp}(a:Kp fp H H1)(b:Kp fp' H1 H2)(h:∀ x∈fp',x∈fp∨H x=none):Kp fp H H2:=fun x o e n =>
 b x o (a x o e n) fun z=>(h x z).elim n fun y=>by rw[e]at y;cases y
theorem deeds_mono {H H':Hp}{d:Addr}{ds:List Deed}(r:DeedsAt H d ds)(s:Same H H'):DeedsAt H' d ds:=by
 obtain⟨as,h,p⟩:=r
 exact⟨as,s _ _ h,Paired.mapP p fun a q z=>s _ _ z⟩
theorem HallAt.mono {C:Addr}{H H':Hp}{p:Addr}{A:HA}{st:HSt}(x:HallAt C H p A st)(s:Same H H'):HallAt C H' p A st :=
 ⟨s _ _ x.ob,x.nd,s _ _ x.w,s _ _ x.h,s _ _ x.c,Paired.mapP x.cs fun a q z=>s _ _ z,deeds_mono x.d s⟩
theorem HallAt.kept {C:Addr}{H H':Hp}{p:Addr}{A:HA}{st:HSt}{fp:List Addr}(x:HallAt C H p A st)(k:Kp fp H H')(hp:p∉fp)(hd:∀ b∈A.fp,b∉fp)(ht:∀ b xs,H b=some (.tup xs)→b∉fp):HallAt C H' p A st:=by
 have m:∀ b∈A.fp,∀ o,H b=some o→H' b=some o:=fun b hb o e=>k b o e (hd b hb)
 refine⟨k _ _ x.ob hp,x.nd,m _ (by simp[HA.fp]) _ x.w,m _ (by simp[HA.fp]) _ x.h,m _ (by simp[HA.fp]) _ x.c,?_,?_⟩
 ·have:∀ (cs:List Addr)(ci:List (Int×List Int)),(∀ b∈cs,b∈A.fp)→Paired (fun a (x:Int×List Int)=>H a=some (.dK (ksO x.2))) cs ci→Paired (fun a (x:Int×List Int)=>H' a=some (.dK (ksO x.2))) cs ci:=by
   intro cs ci hc hp
   induction hp with
   | nil=>exact .nil
   | cons e _ ih=>exact .cons (m _ (hc _ List.mem_cons_self) _ e) (ih fun b hb=>hc b (List.mem_cons_of_mem _ hb))
  exact this _ _ (fun b hb=>by simp[HA.fp,hb]) x.cs
 ·obtain⟨as,h,hp⟩:=x.d
  refine⟨as,m _ (by simp[HA.fp]) _ h,Paired.mapP hp fun a q z=>?_⟩
  cases q with
  | come g=>exact k _ _ z (ht _ _ z)
  | go g=>exact k _ _ z (ht _ _ z)
  | exch a b=>exact k _ _ z (ht _ _ z)
def dropI (l:List (Int×Int))(g:Int):List (Int×Int):=l.filter fun p=>decide (p.1≠g)
theorem dropK_dk (l:List (Int×Int))(g:Int):dropK (dk l) (Sum.inl g:Key)=dk (dropI l g):=by
 unfold dropK dk dropI
 rw[List.filter_map]
 congr 1
 apply List.filter_congr
 intro p _
 simp[Function.comp]
theorem look_drop (l:List (Int×Int))(g h:Int):look (dropI l g) h=if h=g then none else look l h:=by
 induction l with
 | nil=>simp[dropI,look]
 | cons p r ih =>
  unfold dropI at ih ⊢
  rw[List.filter_cons]
  by_cases e:p.1=g
  ·rw[if_neg (by simp[e]),ih]
   by_cases hh:h=g
   ·simp[hh]
   ·have:¬ p.1=h:=fun z=>hh (z.symm.trans e)
    simp[hh,look,this]
  ·rw[if_pos (by simp[e])]
   show (if p.1=h then some p.2 else look _ h)=_
   rw[ih]
   by_cases hh:h=g
   ·subst hh;simp[e]
   ·simp[hh,look]
theorem mem_dropI {l:List (Int×Int)}{g h:Int}:h∈keysL (dropI l g)↔h∈keysL l∧h≠g:=by
 rw[←look_mem,look_drop,←look_mem]
 by_cases e:h=g<;>simp[e]
inductive Out where
 | done | already | masked | same | met | noguest (g:Int)
 deriving DecidableEq
def cOf:List (Int×List Int)→Int→List Int
 | [],_=>[]
 | x::r,g=>if x.1=g then x.2 else cOf r g
def metC (c:List (Int×List Int))(a b:Int):Bool:=decide (b∈cOf c a)
def addK (ks:List Int)(b:Int):List Int:=if b∈ks then ks else ks++[b]
def addC:List (Int×List Int)→Int→Int→List (Int×List Int)
 | [],a,b=>[(a,[b])]
 | x::r,a,b=>if x.1=a then (x.1,addK x.2 b)::r else x::addC r a b
def judge (st:HSt):Deed→Out
 | .come g=>if (look st.worn g).isSome then .already else .done
 | .go g=>match look st.worn g with | none=>.noguest g | some m=>if m=g then .done else .masked
 | .exch a b=>match look st.worn a with
  | none=>.noguest a
  | some _=>match look st.worn b with
   | none=>.noguest b
   | some _=>if a=b then .same else if metC st.circ a b then .met else .done
def after (st:HSt):Deed→HSt
 | .come g=>{ worn:=put st.worn g g,hold:=put st.hold g g,circ:=st.circ,deeds:=st.deeds++[.come g] }
 | .go g=>{ worn:=dropI st.worn g,hold:=dropI st.hold g,circ:=st.circ,deeds:=st.deeds++[.go g] }
 | .exch a b=>{ worn:=put (put st.worn a (wr st.worn b)) b (wr st.worn a),hold:=put (put st.hold (wr st.worn b) a) (wr st.worn a) b,circ:=addC (addC st.circ a b) b a,deeds:=st.deeds++[.exch a b] }
def names:Deed→List Int
 | .come g=>[g]
 | .go g=>[g]
 | .exch a b=>[a,b]
def Small (g:Int):Prop:=g.natAbs<10 ^ 100
structure Fits (st:HSt):Prop where
 w:st.worn.length<1000
 h:st.hold.length<1000
 c:st.circ.length<1000
 k:∀ x∈st.circ,x.2.length<1000
 d:st.deeds.length<1000
structure HX where
 C:Addr
 cW:Addr
 cA:Addr
 cM:Addr
 cS:Addr
 cT:Addr
 cN:Addr
 fN:Addr
def Raised (c:HX)(E:XK)(H:Hp):Out→Prop
 | .done=>False
 | .already=>∀ H',Same H H'→E (.ref c.cA) none H'
 | .masked=>∀ H',Same H H'→E (.ref c.cM) none H'
 | .same=>∀ H',Same H H'→E (.ref c.cS) none H'
 | .met=>∀ H',Same H H'→E (.ref c.cT) none H'
 | .noguest g=>∀ dx H',Same H H'→H' dx=some (.xd [("guest",.int g)])→E (.ref c.cN) (some dx) H'
def Tr (H H':Hp):Prop:=∀ b o,H b=some o→∃ o',H' b=some o'
theorem Tr.refl {H:Hp}:Tr H H:=fun _ o e=>⟨o,e⟩
theorem Tr.trans {H H1 H2:Hp}(a:Tr H H1)(b:Tr H1 H2):Tr H H2:=fun x o e=>let ⟨o',e'⟩:=a x o e;b x o' e'
theorem Tr.of_same {H H':Hp}(s:Same H H'):Tr H H':=fun b o e=>⟨o,s b o e⟩
theorem Tr.upd {H H1:Hp}(a:Tr H H1)(x:Addr)(u:HO):Tr H (upd H1 x u):=fun b o e=>by
 by_cases h:b=x
 ·exact⟨u,by rw[h,upd_same]⟩
 ·obtain⟨o',e'⟩:=a b o e
  exact⟨o',by rw[upd_ne h];exact e'⟩
def Moved (C:Addr)(H:Hp)(p:Addr)(A:HA)(st':HSt)(H':Hp):Prop:=∃ A':HA,HallAt C H' p A' st'∧Kp A.fp H H'∧(∀ b∈A'.fp,b∈A.fp∨H b=none)∧Tr H H'
def Does (c:HX)(H:Hp)(p:Addr)(A:HA)(st:HSt)(d:Deed)(Q:VK)(E:XK):Prop :=
 if judge st d=.done then ∀ H',Moved c.C H p A (after st d) H'→Q .non H' else Raised c E H (judge st d)
def spNew (C:Addr):Sp:=fun vs H Q _=>∃ (p dx:Addr),vs=[.ref p]∧H p=some (.ins C dx [])∧∀ (A:HA)(H':Hp),HallAt C H' p A ⟨[],[],[],[]⟩→(∀ b o,H b=some o→b≠p→H' b=some o)→(∀ b∈A.fp,H b=none)→Q .non H'
def spCome (c:HX):Sp:=fun vs H Q E=>∃ (p:Addr)(A:HA)(st:HSt)(g:Int),vs=[.ref p,.int g]∧HallAt c.C H p A st∧Fits st∧Small g∧Does c H p A st (.come g) Q E
def spGo (c:HX):Sp:=fun vs H Q E=>∃ (p:Addr)(A:HA)(st:HSt)(g:Int),vs=[.ref p,.int g]∧HallAt c.C H p A st∧Fits st∧Small g∧(∀ m,look st.worn g=some m→Small m∧(m=g→(look st.hold g).isSome))∧Does c H p A st (.go g) Q E
def spExch (c:HX):Sp:=fun vs H Q E=>∃ (p:Addr)(A:HA)(st:HSt)(a b:Int),vs=[.ref p,.int a,.int b]∧HallAt c.C H p A st∧Fits st∧Small a∧Small b∧Does c H p A st (.exch a b) Q E
def spDress (C:Addr):Sp:=fun vs H Q _=>∃ (p:Addr)(A:HA)(st:HSt)(g m:Int),vs=[.ref p,.int g,.int m]∧HallAt C H p A st∧st.worn.length<2000∧st.hold.length<2000∧Q .non (upd (upd H A.w (.dK (dk (put st.worn g m)))) A.h (.dK (dk (put st.hold m g))))
def spWears (c:HX):Sp:=fun vs H Q E=>∃ (p:Addr)(A:HA)(st:HSt)(g:Int),vs=[.ref p,.int g]∧HallAt c.C H p A st∧Small g ∧
 match look st.worn g with
 | some m=>Q (.int m) H
 | none=>Raised c E H (.noguest g)
def spWearer (c:HX):Sp:=fun vs H Q E=>∃ (p:Addr)(A:HA)(st:HSt)(g:Int),vs=[.ref p,.int g]∧HallAt c.C H p A st∧Small g ∧
 match look st.hold g with
 | some m=>Q (.int m) H
 | none=>Raised c E H (.noguest g)
def spInside (C:Addr):Sp:=fun vs H Q _=>∃ (p:Addr)(A:HA)(st:HSt)(g:Int),vs=[.ref p,.int g]∧HallAt C H p A st∧Q (.bl (look st.worn g).isSome) H
def spGuests (C:Addr):Sp:=fun vs H Q _=>∃ (p:Addr)(A:HA)(st:HSt),vs=[.ref p]∧HallAt C H p A st∧st.worn.length<64∧∀ l,H l=none→Q (.ref l) (upd H l (.lst ((sortI (keysL st.worn)).map V.int)))
def spMet (C:Addr):Sp:=fun vs H Q _=>∃ (p:Addr)(A:HA)(st:HSt)(a b:Int),vs=[.ref p,.int a,.int b]∧HallAt C H p A st∧∀ H',Same H H'→Q (.bl (metC st.circ a b)) H'
def spAcq (C:Addr):Sp:=fun vs H Q _=>∃ (p:Addr)(A:HA)(st:HSt)(a b:Int),vs=[.ref p,.int a,.int b]∧HallAt C H p A st∧st.circ.length<2000∧(∀ x∈st.circ,x.2.length<2000)∧∀ H',Moved C H p A { st with circ:=addC st.circ a b } H'→Q .non H'
def spMoment (C:Addr):Sp:=fun vs H Q _=>∃ (p:Addr)(A:HA)(st:HSt),vs=[.ref p]∧HallAt C H p A st∧Q (.int st.deeds.length) H
structure HT (K:PySem.W.Frag)(mg:Str→Option Value)(c:HX):Prop where
 cl:Cls K c.C
 nW:NoAttr K c.C "worn"
 nH:NoAttr K c.C "holders"
 nC:NoAttr K c.C "circles"
 nD:NoAttr K c.C "deeds"
 mC:mg "Hall" = some (.ref c.C)
 eA:OwnExc K c.cA
 eM:OwnExc K c.cM
 eS:OwnExc K c.cS
 eT:OwnExc K c.cT
 mA:mg "AlreadyIn" = some (.ref c.cA)
 mM:mg "Masked" = some (.ref c.cM)
 mS:mg "Same" = some (.ref c.cS)
 mT:mg "Met" = some (.ref c.cT)
 mN:mg "NoGuest" = some (.ref c.cN)
 mW:mg "WaltzError" = some (.ref c.cW)
 eN:excInI K c.cN c.fN=true
 gN:NGc K c.cN "guest"
 tN:PySem.W.typeIn K (.ref c.fN)=some (.type "function")
 wS:PySem.W.specialIn K (.ref c.cW) "__getattribute__" = some (some (.builtin "type.__getattribute__"))
 wR:PySem.W.readsIn K c.cW (.type "type")=true
 wI:PySem.W.findCls K (.ref c.cW) (.type "type") "__init__" = some (.val (.builtin "ValueError.__init__"))
structure HM (K:PySem.W.Frag)(c:HX):Prop where
 aa:PySem.W.exmOne K (.ref c.cA) (.ref c.cA)=some true
 ma:PySem.W.exmOne K (.ref c.cM) (.ref c.cA)=some false
 mm:PySem.W.exmOne K (.ref c.cM) (.ref c.cM)=some true
 sa:PySem.W.exmOne K (.ref c.cS) (.ref c.cA)=some false
 sm:PySem.W.exmOne K (.ref c.cS) (.ref c.cM)=some false
 ss:PySem.W.exmOne K (.ref c.cS) (.ref c.cS)=some true
 ta:PySem.W.exmOne K (.ref c.cT) (.ref c.cA)=some false
 tm:PySem.W.exmOne K (.ref c.cT) (.ref c.cM)=some false
 ts:PySem.W.exmOne K (.ref c.cT) (.ref c.cS)=some false
 tt:PySem.W.exmOne K (.ref c.cT) (.ref c.cT)=some true
 na:PySem.W.exmOne K (.ref c.cN) (.ref c.cA)=some false
 nm:PySem.W.exmOne K (.ref c.cN) (.ref c.cM)=some false
 ns:PySem.W.exmOne K (.ref c.cN) (.ref c.cS)=some false
 nt:PySem.W.exmOne K (.ref c.cN) (.ref c.cT)=some false
 nn:PySem.W.exmOne K (.ref c.cN) (.ref c.cN)=some true
def NGCallee (P:Program)(w:World)(K:PySem.W.Frag)(mg:Str→Option Value)(base:Heap)(c:HX):Prop:=∃ fd:FuncData,FnOk P w K mg base CX0 1 c.fN fd ["self","guest"] (spNG c.cN "guest")∧Binds K fd ["self","guest"] []
theorem pNoGuest {X:Cx}{c:HX}{E:XK}{e:Expr}{te:TE}{np cpos pos:Pos}(N:NGCallee X.prog X.w X.K X.mg X.base c)(U:HT X.K X.mg c)(hr:Room 2 X.A)(hfl:Flies X E)(hex:X.ex=[])(hh:X.A.handled=none)(hg:Gl X "NoGuest")(he:PE X e te)
  (hs:starEach [e] X.env=[(false,eval e X.env)]:=by rfl):PS X (.Raise (some (.Call (.Name "NoGuest" np) [e] [] cpos)) none pos) (tRaiseI te c.cN "guest" E):=by
 obtain⟨fd,G,hb⟩:=N
 exact ps_raiseI U.eN U.tN G hr hb hfl hex hh hg U.mN he (by decide) hs
end Wz
namespace Wz
open PySem L2
section
variable {C:Addr}{H:Hp}{p t:Addr}{A:HA}{st:HSt}
structure Apart (A:HA):Prop where
 wh:A.w≠A.h
 wc:A.w≠A.c
 wd:A.w≠A.d
 hc:A.h≠A.c
 hd:A.h≠A.d
 cd:A.c≠A.d
 w:A.w∉A.cs
 h:A.h∉A.cs
 c:A.c∉A.cs
 d:A.d∉A.cs
 cs:A.cs.Nodup
theorem HallAt.apart (S:HallAt C H p A st):Apart A:=by
 have:=S.nd
 simp only[HA.fp,List.nodup_cons,List.mem_cons,not_or]at this
 obtain⟨⟨a1,a2,a3,a4⟩,⟨b1,b2,b3⟩,⟨c1,c2⟩,d1,e⟩:=this
 exact⟨a1,a2,a3,b1,b2,c1,a4,b3,c2,d1,e⟩
theorem HallAt.pne (S:HallAt C H p A st):p∉A.fp:=by
 have n1:p≠A.w:=ne_of S.ob S.w (by intro z;cases z)
 have n2:p≠A.h:=ne_of S.ob S.h (by intro z;cases z)
 have n3:p≠A.c:=ne_of S.ob S.c (by intro z;cases z)
 obtain⟨as,hd,_⟩:=S.d
 have n4:p≠A.d:=ne_of S.ob hd (by intro z;cases z)
 have n5:p∉A.cs:=fun z=>by
  obtain⟨i,hi,e⟩:=List.getElem_of_mem z
  obtain⟨b,_,q⟩:=paired_get S.cs (List.getElem?_eq_getElem hi)
  rw[e,S.ob]at q;cases q
 simp[HA.fp,n1,n2,n3,n4,n5]
theorem cs_keep {H H':Hp}:∀ {cs:List Addr}{ci:List (Int×List Int)},Paired (fun a (x:Int×List Int)=>H a=some (.dK (ksO x.2))) cs ci→(∀ b∈cs,∀ o,H b=some o→H' b=some o)→Paired (fun a (x:Int×List Int)=>H' a=some (.dK (ksO x.2))) cs ci:=by
 intro cs ci hp k
 induction hp with
 | nil=>exact .nil
 | cons e _ ih=>exact .cons (k _ List.mem_cons_self _ e) (ih fun b hb=>k b (List.mem_cons_of_mem _ hb))
theorem deed_tup (x:Deed):∃ xs,deedO x=.tup xs:=by cases x<;>exact⟨_,rfl⟩
theorem HallAt.tup (S:HallAt C H p A st){b:Addr}{xs:List V}(e:H b=some (.tup xs)):b∉A.fp:=by
 have n1:b≠A.w:=ne_of e S.w (by intro z;cases z)
 have n2:b≠A.h:=ne_of e S.h (by intro z;cases z)
 have n3:b≠A.c:=ne_of e S.c (by intro z;cases z)
 obtain⟨as,hd,_⟩:=S.d
 have n4:b≠A.d:=ne_of e hd (by intro z;cases z)
 have n5:b∉A.cs:=fun z=>by
  obtain⟨i,hi,e'⟩:=List.getElem_of_mem z
  obtain⟨y,_,q⟩:=paired_get S.cs (List.getElem?_eq_getElem hi)
  rw[e',e]at q;cases q
 simp[HA.fp,n1,n2,n3,n4,n5]
theorem HallAt.tracked (S:HallAt C H p A st){b:Addr}(h:b∈A.fp):∃ o,H b=some o:=by
 simp only[HA.fp,List.mem_cons]at h
 rcases h with rfl | rfl | rfl | rfl | h
 ·exact⟨_,S.w⟩
 ·exact⟨_,S.h⟩
 ·exact⟨_,S.c⟩
 ·obtain⟨as,hd,_⟩:=S.d;exact⟨_,hd⟩
 ·obtain⟨i,hi,rfl⟩:=List.getElem_of_mem h
  obtain⟨y,_,q⟩:=paired_get S.cs (List.getElem?_eq_getElem hi)
  exact⟨_,q⟩
theorem Apart.fp {A:HA}(a:Apart A):A.fp.Nodup:=by
 simp only[HA.fp,List.nodup_cons,List.mem_cons,not_or]
 exact⟨⟨a.wh,a.wc,a.wd,a.w⟩,⟨a.hc,a.hd,a.h⟩,⟨a.cd,a.c⟩,a.d,a.cs⟩
theorem kp_one {fp:List Addr}{a:Addr}{o:HO}(h:a∈fp):Kp fp H (upd H a o):=fun b u e n=>by
 rw[upd_ne (fun z:b=a=>n (by rw[z];exact h))];exact e
theorem kp_new {fp:List Addr}{a:Addr}{o:HO}(h:H a=none):Kp fp H (upd H a o):=fun b u e n=>by
 rw[upd_ne (ne_of_none e h)];exact e
theorem Kp.on {fp:List Addr}{H1 H2:Hp}(a:Kp fp H H1)(b:Kp fp H1 H2):Kp fp H H2:=fun x o e n=>b x o (a x o e n) n
theorem hall_w (S:HallAt C H p A st)(w':List (Int×Int)):HallAt C (upd H A.w (.dK (dk w'))) p A { st with worn:=w' }:=by
 have a:=S.apart
 have np:=S.pne
 simp only[HA.fp,List.mem_cons,not_or]at np
 refine⟨by rw[upd_ne np.1];exact S.ob,S.nd,upd_same,by rw[upd_ne (Ne.symm a.wh)];exact S.h,by rw[upd_ne (Ne.symm a.wc)];exact S.c,cs_keep S.cs fun b hb o e=>by rw[upd_ne (fun z:b=A.w=>a.w (by rw[←z];exact hb))];exact e,?_⟩
 obtain⟨as,hd,hp⟩:=S.d
 refine⟨as,by rw[upd_ne (Ne.symm a.wd)];exact hd,Paired.mapP hp fun b x e=>?_⟩
 obtain⟨xs,ex⟩:=deed_tup x
 rw[upd_ne (fun z=>S.tup (xs:=xs) (by rw[←ex];exact e) (by rw[z];simp[HA.fp]))]
 exact e
theorem hall_h (S:HallAt C H p A st)(w':List (Int×Int)):HallAt C (upd H A.h (.dK (dk w'))) p A { st with hold:=w' }:=by
 have a:=S.apart
 have np:=S.pne
 simp only[HA.fp,List.mem_cons,not_or]at np
 refine⟨by rw[upd_ne np.2.1];exact S.ob,S.nd,by rw[upd_ne a.wh];exact S.w,upd_same,by rw[upd_ne (Ne.symm a.hc)];exact S.c,cs_keep S.cs fun b hb o e=>by rw[upd_ne (fun z:b=A.h=>a.h (by rw[←z];exact hb))];exact e,?_⟩
 obtain⟨as,hd,hp⟩:=S.d
 refine⟨as,by rw[upd_ne (Ne.symm a.hd)];exact hd,Paired.mapP hp fun b x e=>?_⟩
 obtain⟨xs,ex⟩:=deed_tup x
 rw[upd_ne (fun z=>S.tup (xs:=xs) (by rw[←ex];exact e) (by rw[z];simp[HA.fp]))]
 exact e
theorem hall_deed (S:HallAt C H p A st){as:List Addr}(hd:H A.d=some (.lst (as.map V.ref)))(hp:Paired (fun a x=>H a=some (deedO x)) as st.deeds)(x:Deed)(ht:H t=none) :
  HallAt C (upd (upd H t (deedO x)) A.d (.lst (as.map V.ref++[.ref t]))) p A { st with deeds:=st.deeds++[x] }:=by
 have a:=S.apart
 have np:=S.pne
 simp only[HA.fp,List.mem_cons,not_or]at np
 have n:∀ b o,H b=some o→b≠t:=fun b o e=>ne_of_none e ht
 have e1:∀ b o,H b=some o→b≠A.d→(upd (upd H t (deedO x)) A.d (.lst (as.map V.ref++[.ref t]))) b=some o:=fun b o e h=>by rw[upd_ne h,upd_ne (n b o e)];exact e
 have td:t≠A.d:=fun z=>by rw[z,hd]at ht;cases ht
 refine⟨e1 _ _ S.ob np.2.2.2.1,S.nd,e1 _ _ S.w a.wd,e1 _ _ S.h a.hd,e1 _ _ S.c a.cd,cs_keep S.cs fun b hb o e=>e1 b o e (fun z=>a.d (by rw[←z];exact hb)),as++[t],by rw[upd_same,List.map_append];rfl,?_⟩
 refine paired_append (Paired.mapP hp fun b y e=>?_) (.cons (by rw[upd_ne td,upd_same]) .nil)
 obtain⟨xs,ex⟩:=deed_tup y
 exact e1 b _ e (fun z=>S.tup (xs:=xs) (by rw[←ex];exact e) (by rw[z];simp[HA.fp]))
theorem mem_w:A.w∈A.fp:=by simp[HA.fp]
theorem mem_h:A.h∈A.fp:=by simp[HA.fp]
theorem mem_c:A.c∈A.fp:=by simp[HA.fp]
theorem mem_d:A.d∈A.fp:=by simp[HA.fp]
end
theorem does_done {c:HX}{H:Hp}{p:Addr}{A:HA}{st:HSt}{d:Deed}{Q:VK}{E:XK}(k:Does c H p A st d Q E)(h:judge st d=.done):∀ H',Moved c.C H p A (after st d) H'→Q .non H':=by
 unfold Does at k;rwa [if_pos h]at k
theorem does_not {c:HX}{H:Hp}{p:Addr}{A:HA}{st:HSt}{d:Deed}{Q:VK}{E:XK}{o:Out}(k:Does c H p A st d Q E)(h:judge st d=o)(ho:o≠.done):Raised c E H o:=by
 unfold Does at k;rwa [h,if_neg ho]at k
theorem len_addC:∀ (ci:List (Int×List Int))(a b:Int),(addC ci a b).length≤ci.length+1
 | [],_,_=>by simp[addC]
 | x::r,a,b=>by
  unfold addC
  split
  ·simp
  ·have:=len_addC r a b;simp;omega
theorem len_addK (ks:List Int)(b:Int):(addK ks b).length≤ks.length+1:=by unfold addK;split<;>simp
theorem addC_len {ci:List (Int×List Int)}{a b:Int}{n:Nat}(h:∀ x∈ci,x.2.length≤n)(hn:0<n+1):∀ x∈addC ci a b,x.2.length≤n+1:=by
 induction ci with
 | nil=>intro x hx;simp[addC]at hx;subst hx;simp
 | cons y r ih =>
  intro x hx
  unfold addC at hx
  split at hx
  ·rcases List.mem_cons.mp hx with z | z
   ·subst z;have:=len_addK y.2 b;have:=h y List.mem_cons_self;simp only;omega
   ·have:=h x (List.mem_cons_of_mem _ z);omega
  ·rcases List.mem_cons.mp hx with z | z
   ·subst z;have:=h x List.mem_cons_self;omega
   ·exact ih (fun x hx=>h x (List.mem_cons_of_mem _ hx)) x z
theorem put_ksO (ks:List Int)(b:Int):putK (ksO ks) (Sum.inl b:Key) (V.bl true)=ksO (addK ks b):=by
 unfold putK addK ksO
 have e:((ks.map fun k=>((Sum.inl k:Key),V.bl true)).any fun kv=>decide (kv.1=(Sum.inl b:Key)))=decide (b∈ks):=by
  rw[List.any_map]
  induction ks with
  | nil=>rfl
  | cons x r ih=>rw[List.any_cons,ih];by_cases h:x=b<;>simp[h,eq_comm]
 rw[e]
 by_cases h:b∈ks
 ·rw[if_pos (decide_eq_true h),if_pos h,List.map_map]
  apply List.map_congr_left
  intro k _
  simp only[Function.comp]
  split<;>rfl
 ·rw[if_neg (by simp[h]),if_neg h,List.map_append]
  rfl
theorem val_ksO (ks:List Int)(b:Int):(valV (ksO ks) (Sum.inl b:Key)).isSome=decide (b∈ks):=by
 rw[←valV_any]
 unfold ksO
 rw[List.any_map]
 induction ks with
 | nil=>rfl
 | cons x r ih=>rw[List.any_cons,ih];by_cases h:x=b<;>simp[h,eq_comm]
section
variable {H:Hp}
abbrev CsP (H:Hp)(cs:List Addr)(ci:List (Int×List Int)):Prop:=Paired (fun a (x:Int×List Int)=>H a=some (.dK (ksO x.2))) cs ci
theorem circ_look:∀ {cs:List Addr}{ci:List (Int×List Int)}(a:Int),CsP H cs ci →
  (valV (circK cs ci) (Sum.inl a:Key)=none∧cOf ci a=[]∧∀ b,addC ci a b=ci++[(a,[b])]) ∨
  ∃ ad,ad∈cs∧valV (circK cs ci) (Sum.inl a:Key)=some (.ref ad)∧H ad=some (.dK (ksO (cOf ci a))) ∧
   ∀ b (H':Hp),cs.Nodup→(∀ x∈cs,x≠ad→∀ o,H x=some o→H' x=some o)→H' ad=some (.dK (ksO (addK (cOf ci a) b)))→CsP H' cs (addC ci a b)∧circK cs (addC ci a b)=circK cs ci
 | _,_,a,.nil=>.inl ⟨rfl,rfl,fun b=>rfl⟩
 | c::cs,x::ci,a,.cons e r=>by
  by_cases h:x.1=a
  ·refine .inr ⟨c,List.mem_cons_self,valV_pos (p:=((Sum.inl x.1:Key),V.ref c)) (by rw[h]),by simp only[cOf,if_pos h];exact e,fun b H' nd k k'=>?_⟩
   simp only[cOf,if_pos h]at k'
   simp only[addC,if_pos h]
   refine⟨.cons k' (cs_keep r fun y hy o z=>k y (List.mem_cons_of_mem _ hy) (fun q=>(List.nodup_cons.mp nd).1 (by rw[←q];exact hy)) o z),rfl⟩
  ·have hk:valV (circK (c::cs) (x::ci)) (Sum.inl a:Key)=valV (circK cs ci) (Sum.inl a:Key):=valV_neg (p:=((Sum.inl x.1:Key),V.ref c)) (fun z=>h (Sum.inl.inj z))
   have hc:cOf (x::ci) a=cOf ci a:=by simp only[cOf,if_neg h]
   rcases circ_look a r with ⟨h1,h2,h3⟩ | ⟨ad,h1,h2,h3,h4⟩
   ·exact .inl ⟨by rw[hk];exact h1,by rw[hc];exact h2,fun b=>by simp only[addC,if_neg h,h3 b,List.cons_append]⟩
   ·refine .inr ⟨ad,List.mem_cons_of_mem _ h1,by rw[hk];exact h2,by rw[hc];exact h3,fun b H' nd k k'=>?_⟩
    rw[hc]at k'
    obtain⟨n1,n2⟩:=List.nodup_cons.mp nd
    obtain⟨q1,q2⟩:=h4 b H' n2 (fun y hy=>k y (List.mem_cons_of_mem _ hy)) k'
    simp only[addC,if_neg h]
    refine⟨.cons (k c List.mem_cons_self (fun z=>n1 (by rw[z];exact h1)) _ e) q1,?_⟩
    show _::circK cs (addC ci a b)=_::circK cs ci
    rw[q2]
theorem circK_snoc:∀ {cs:List Addr}{ci:List (Int×List Int)}(a:Int)(ks:List Int)(l:Addr),cs.length=ci.length→circK (cs++[l]) (ci++[(a,ks)])=circK cs ci++[(Sum.inl a,V.ref l)]
 | [],[],_,_,_,_=>rfl
 | c::cs,x::ci,a,ks,l,h=>by
  show _::circK (cs++[l]) (ci++[(a,ks)])=_
  rw[circK_snoc a ks l (by simpa using h)]
  rfl
theorem len_circK:∀ {cs:List Addr}{ci:List (Int×List Int)},cs.length=ci.length→(circK cs ci).length=ci.length
 | [],[],_=>rfl
 | c::cs,x::ci,h=>by show (circK cs ci).length+1=_;rw[len_circK (by simpa using h)];rfl
end
end Wz
namespace L2
open PySem PySem.Spec PyProof.Rows
def tDSetD (td ty tx:TE):TE:=fun σ H Q=>td σ H fun x H1=>∃ a,x=.ref a∧IsD H1 a∧ty σ H1 fun y H2=>tx σ H2 fun z H3=>∃ kvs k,H3 a=some (.dK kvs)∧y=kV k∧kvs.length<sizeLine ∧
 (∀ v,valV kvs k=some v→Q v H3)∧(valV kvs k=none→Q z (upd H3 a (.dK (putK kvs k z))))
theorem pe_dsetd {X:Cx}{o e f:Expr}{apos cpos:Pos}{td ty tx:TE}(ho:PE X o td)(he:PE X e ty)(hf:PE X f tx)(m:M2 X o "setdefault" apos e f cpos):PE X (.Call (.Attribute o "setdefault" apos) [e,f] [] cpos) (tDSetD td ty tx):=by
 intro pins s σ H Q I h
 refine wpAny_Call_method m.base m.few m.line PySem.F.plainAttrs_dict PySem.F.slot_dict_setdefault PySem.F.type_dict_setdefault (thn (ho pins s σ H _ I h) fun u s1 ⟨x,H1,I1,rx,a,ex,d,q1⟩=>?_)
 subst ex
 obtain rfl:u=Value.ref a:=rx
 obtain⟨t1,t2,_⟩:=isD_at I1 d
 refine⟨t1,t2,?_⟩
 rw[m.trees]
 refine Calls.callWith_builtin rfl (Calls.evalArgs_plain (Calls.spliced_cons (thn (he pins s1 σ H1 _ I1 q1) fun iv s2 ⟨y,H2,I2,ry,q2⟩ =>
  Calls.spliced_cons (thn (hf pins s2 σ H2 _ I2 q2) fun fv s3 ⟨z,H3,I3,rz,kvs,k,ea,ey,hlt,q3,q4⟩=>Calls.spliced_nil ?_))))
 subst ey
 obtain⟨hz,hd,vs,rel,dd⟩:=dk_of I3.hok ea
 refine call_meetsIn PySem.F.slot_dict_setdefault dd.typeIs PySem.F.entry_dict_setdefault (PySem.F.args_dict_setdefault_3 _ _ _) (kt_meets_setdefault (mixKind X.prog X.w) a (kV_is ry) hd fv)
  ⟨vs,dd,by rw[←rel.length];exact hz,fun v' hv'=>?_,fun hn h' dd' hs=>?_⟩
 ·cases l:valV kvs k with
  | none=>have:=rel.val k;rw[l,hv']at this;exact this.elim
  | some v =>
   have:=rel.val k
   rw[l,hv']at this
   exact⟨v,H3,I3.tok _,this,q3 v l⟩
 ·cases l:valV kvs k with
  | some v=>have:=rel.val k;rw[l,hn]at this;exact this.elim
  | none =>
   have he:∃ q,h'.get? a=some q:=let ⟨q,_,_,hq,_⟩:=dd';⟨q,hq⟩
   exact⟨z,_,d_write I3 (by rw[ea];exact True.intro) hs he (dk_new (by have:=length_putK kvs k z;omega) hd (rel.put k rz) dd'),rz,q4 l⟩
end L2
namespace L2
open PySem PySem.Spec PyProof.Rows
section
variable {X:Cx}
end
end L2
namespace Wz
open PySem L2
theorem hun {A:Around}{k n:Nat}(hr:Room k A)(h:n≤200):A.units+n<cLine:=by have:=hr.un;omega
theorem cc:decide (V.str "come" = V.str "come")=true:=by decide +kernel
theorem cg:decide (V.str "come" = V.str "go")=false:=by decide +kernel
theorem ce:decide (V.str "come" = V.str "exchange")=false:=by decide +kernel
theorem gc:decide (V.str "go" = V.str "come")=false:=by decide +kernel
theorem gg:decide (V.str "go" = V.str "go")=true:=by decide +kernel
theorem ge:decide (V.str "go" = V.str "exchange")=false:=by decide +kernel
theorem ec:decide (V.str "exchange" = V.str "come")=false:=by decide +kernel
theorem eg:decide (V.str "exchange" = V.str "go")=false:=by decide +kernel
theorem ee:decide (V.str "exchange" = V.str "exchange")=true:=by decide +kernel
def word:Deed→Str
 | .come _=>"come"
 | .go _=>"go"
 | .exch _ _=>"exchange"
def deedL (d:Deed):List V:=V.str (word d)::(names d).map V.int
theorem deedO_L (d:Deed):deedO d=.tup (deedL d):=by cases d<;>rfl
theorem cut_deed (d:Deed):cutV (deedL d) (some 1) none=(names d).map V.int:=by cases d<;>rfl
theorem cut_not (d:Deed):¬ (HT.sIx (deedL d).length 0 (some 1)=0∧HT.sIx (deedL d).length (deedL d).length none=(deedL d).length):=by cases d<;>(intro h;have h1:=h.1;simp[deedL,names,HT.sIx]at h1)
def judgeW (w:List (Int×Int))(m:Int→Int→Bool):Deed→Out
 | .come g=>if (look w g).isSome then .already else .done
 | .go g=>match look w g with | none=>.noguest g | some x=>if x=g then .done else .masked
 | .exch a b=>match look w a with
  | none=>.noguest a
  | some _=>match look w b with
   | none=>.noguest b
   | some _=>if a=b then .same else if m a b then .met else .done
theorem judge_W (st:HSt)(d:Deed):judge st d=judgeW st.worn (metC st.circ) d:=by cases d<;>rfl
theorem judgeW_congr {w:List (Int×Int)}{m m':Int→Int→Bool}(h:∀ a b,m a b=m' a b)(d:Deed):judgeW w m d=judgeW w m' d:=by cases d<;>simp only[judgeW,h]
def keyP (a b:Int):Int×Int:=if b<a then (b,a) else (a,b)
def metL (ml:List (Int×Int))(a b:Int):Bool:=decide (keyP a b∈ml)
def mtK (ml:List (Int×Int)):List (List Key×V):=ml.map fun p=>([Sum.inl p.1,Sum.inl p.2],V.bl true)
def addM (ml:List (Int×Int))(p:Int×Int):List (Int×Int):=if p∈ml then ml else ml++[p]
def outV:Out→List V
 | .done=>[.str "done",.non]
 | .already=>[.str "AlreadyIn",.non]
 | .masked=>[.str "Masked",.non]
 | .same=>[.str "Same",.non]
 | .met=>[.str "Met",.non]
 | .noguest g=>[.str "NoGuest",.int g]
def afterW (w:List (Int×Int)):Deed→List (Int×Int)
 | .come g=>put w g g
 | .go g=>dropI w g
 | .exch a b=>put (put w a (wr w b)) b (wr w a)
def afterM (ml:List (Int×Int)):Deed→List (Int×Int)
 | .come _=>ml
 | .go _=>ml
 | .exch a b=>addM ml (keyP a b)
theorem after_worn (st:HSt)(d:Deed):(after st d).worn=afterW st.worn d:=by cases d<;>rfl
theorem mtK_any (ml:List (Int×Int))(p:Int×Int):((mtK ml).any fun kv=>decide (kv.1=([Sum.inl p.1,Sum.inl p.2]:List Key)))=decide (p∈ml):=by
 unfold mtK
 rw[List.any_map]
 induction ml with
 | nil=>rfl
 | cons x r ih =>
  rw[List.any_cons,ih]
  have:(decide ((([Sum.inl x.1,Sum.inl x.2]:List Key))=[Sum.inl p.1,Sum.inl p.2]))=decide (p=x):=by
   by_cases h:p=x
   ·subst h;simp
   ·rw[decide_eq_false h,decide_eq_false]
    intro z
    simp only[List.cons.injEq,Sum.inl.injEq,and_true]at z
    exact h (Prod.ext z.1.symm z.2.symm)
  simp only[Function.comp]
  rw[this]
  by_cases h:p=x<;>simp[h]
theorem mtK_val (ml:List (Int×Int))(p:Int×Int):(valV (mtK ml) ([Sum.inl p.1,Sum.inl p.2]:List Key)).isSome=decide (p∈ml):=by rw[←valV_any,mtK_any]
theorem mtK_put (ml:List (Int×Int))(p:Int×Int):putK (mtK ml) ([Sum.inl p.1,Sum.inl p.2]:List Key) (V.bl true)=mtK (addM ml p):=by
 unfold putK addM
 rw[mtK_any]
 by_cases h:p∈ml
 ·rw[if_pos (decide_eq_true h),if_pos h]
  unfold mtK
  rw[List.map_map]
  apply List.map_congr_left
  intro x _
  simp only[Function.comp]
  split<;>rfl
 ·rw[if_neg (by simp[h]),if_neg h]
  unfold mtK
  rw[List.map_append]
  rfl
theorem judge_no {w:List (Int×Int)}{m:Int→Int→Bool}{d:Deed}{i:Nat}{x:Int}(hc:word d≠"come")(hp:∀ y∈(names d).take i,(look w y).isSome=true)(hi:(names d)[i]? = some x)(hx:look w x=none):judgeW w m d=.noguest x:=by
 cases d with
 | come g=>exact absurd rfl hc
 | go g =>
  cases i with
  | zero=>simp[names]at hi;subst hi;simp[judgeW,hx]
  | succ i=>simp[names]at hi
 | exch a b =>
  cases i with
  | zero=>simp[names]at hi;subst hi;simp[judgeW,hx]
  | succ i =>
   cases i with
   | zero =>
    simp[names]at hi;subst hi
    have:=hp a (by simp[names])
    obtain⟨v,hv⟩:=Option.isSome_iff_exists.mp this
    simp[judgeW,hv,hx]
   | succ i=>simp[names]at hi
def spKey:Sp:=fun vs H Q _=>∃ a b:Int,vs=[.int a,.int b]∧∀ t,H t=none→Q (.ref t) (upd H t (.tup [.int (keyP a b).1,.int (keyP a b).2]))
def spDue:Sp:=fun vs H Q _=>∃ (w m t:Addr)(wl ml:List (Int×Int))(d:Deed),vs=[.ref w,.ref m,.ref t]∧H w=some (.dK (dk wl))∧H m=some (.dT (mtK ml))∧H t=some (deedO d) ∧
 ∀ (r:Addr)(H':Hp),H r=none→Same H H'→H' r=some (.tup (outV (judgeW wl (metL ml) d)))→Q (.ref r) H'
def spAfter:Sp:=fun vs H Q _=>∃ (w m t:Addr)(wl ml:List (Int×Int))(d:Deed),vs=[.ref w,.ref m,.ref t]∧H w=some (.dK (dk wl))∧H m=some (.dT (mtK ml))∧H t=some (deedO d)∧wl.length≤1000∧ml.length≤4000∧judgeW wl (metL ml) d=.done ∧
 ∀ H',H' w=some (.dK (dk (afterW wl d)))→H' m=some (.dT (mtK (afterM ml d)))→(∀ b o,H b=some o→b≠w→b≠m→H' b=some o)→Q .non H'
structure HGood (st:HSt):Prop where
 wn:(keysL st.worn).Nodup
 wh:∀ g m,look st.worn g=some m↔look st.hold m=some g
 ow:∀ g m,look st.worn g=some m→m∈keysL st.worn
 sm:∀ g m,look st.worn g=some m→Small m
 cy:∀ a b,metC st.circ a b=metC st.circ b a
def nextS (st:HSt)(d:Deed):HSt:=if judge st d=.done then after st d else st
def spDo (c:HX):Sp:=fun vs H Q E=>∃ (p t:Addr)(A:HA)(st:HSt)(d:Deed),vs=[.ref p,.ref t]∧H t=some (deedO d)∧HallAt c.C H p A st∧Fits st∧HGood st∧(∀ g∈names d,Small g)∧Does c H p A st d Q E
def namesL (m c:Int):List Int:=(List.range m.toNat).map fun (k:Nat)=>gst (k:Int) c
theorem gst_small (k c:Int):Small (gst k c):=by
 unfold Small gst
 have h:∀ x:Int,0≤x%2147483647∧x%2147483647<2147483647:=fun x=>⟨Int.emod_nonneg _ (by decide),Int.emod_lt_of_pos _ (by decide)⟩
 dsimp only
 generalize hx:(k*(1+absI c*1234567891%2147483646)+absI c/2147483646)%2147483647=x
 have:=h (k*(1+absI c*1234567891%2147483646)+absI c/2147483646)
 rw[hx]at this
 have e:(10:Nat) ^ 100=10 ^ 15*10 ^ 85:=by rw[←Nat.pow_add]
 have e2:(0:Nat)<10 ^ 85:=Nat.pow_pos (by decide)
 have:x.natAbs<10 ^ 15∧(x+997852516353).natAbs<10 ^ 15:=by constructor<;>omega
 split
 ·calc _<10 ^ 15:=this.2
   _≤10 ^ 15*10 ^ 85:=Nat.le_mul_of_pos_right _ e2
   _=10 ^ 100:=e.symm
 ·calc _<10 ^ 15:=this.1
   _≤10 ^ 15*10 ^ 85:=Nat.le_mul_of_pos_right _ e2
   _=10 ^ 100:=e.symm
end Wz
namespace Wz
open PySem L2
theorem cOf_add (x:Int):∀ (c:List (Int×List Int))(a b:Int),cOf (addC c a b) x=if x=a then addK (cOf c a) b else cOf c x
 | [],a,b=>by
  by_cases h:x=a
  ·subst h;simp[addC,cOf,addK]
  ·simp[addC,cOf,h,Ne.symm h]
 | y::r,a,b=>by
  unfold addC
  by_cases h:y.1=a
  ·rw[if_pos h]
   by_cases hx:x=a
   ·subst hx;simp[cOf,h]
   ·have:¬ y.1=x:=fun z=>hx (z.symm.trans h)
    simp[cOf,hx,this]
  ·rw[if_neg h]
   by_cases hx:x=a
   ·subst hx
    simp only[cOf,if_neg h,if_true]
    rw[cOf_add x r x b,if_pos rfl]
   ·simp only[cOf,cOf_add x r a b,if_neg hx]
theorem mem_addK {ks:List Int}{b y:Int}:y∈addK ks b↔y∈ks∨y=b:=by
 unfold addK
 split
 ·rename_i h
  constructor
  ·exact .inl
  ·rintro (z | z)
   ·exact z
   ·rw[z];exact h
 ·simp
theorem met_add (c:List (Int×List Int))(a b x y:Int):metC (addC c a b) x y=(metC c x y||(decide (x=a)&&decide (y=b))):=by
 unfold metC
 rw[cOf_add]
 by_cases h:x=a
 ·subst h
  rw[if_pos rfl]
  by_cases hy:y=b
  ·have:y∈addK (cOf c x) b:=mem_addK.mpr (.inr hy)
   simp[hy,this]
   rw[hy]at this
   exact this
  ·have:(y∈addK (cOf c x) b)↔y∈cOf c x:=by rw[mem_addK];simp[hy]
   simp[hy,this]
 ·rw[if_neg h];simp[h]
theorem met_two (c:List (Int×List Int))(a b x y:Int):metC (addC (addC c a b) b a) x y=(metC c x y||(decide (x=a)&&decide (y=b))||(decide (x=b)&&decide (y=a))):=by rw[met_add,met_add]
theorem nd_put {l:List (Int×Int)}(h:(keysL l).Nodup)(g m:Int):(keysL (put l g m)).Nodup:=by
 rw[keys_put]
 split
 ·exact h
 ·rename_i n
  exact nd_snoc h n
theorem nd_drop {l:List (Int×Int)}(h:(keysL l).Nodup)(g:Int):(keysL (dropI l g)).Nodup:=by
 unfold keysL dropI at *
 exact (List.filter_sublist.map _).nodup h
theorem good_empty:HGood ⟨[],[],[],[]⟩:=by
 refine⟨List.nodup_nil,fun g m=>?_,fun g m h=>?_,fun g m h=>?_,fun a b=>rfl⟩
 ·simp[look]
 ·simp[look]at h
 ·simp[look]at h
theorem good_next {st:HSt}{d:Deed}(G:HGood st)(sm:∀ g∈names d,Small g):HGood (nextS st d):=by
 unfold nextS
 by_cases hd:judge st d=.done
 ·rw[if_pos hd]
  have kw:∀ g m,look st.worn g=some m→g∈keysL st.worn:=fun g m h=>look_mem.mp (by rw[h];rfl)
  cases d with
  | come g =>
   have hn:look st.worn g=none:=by
    cases e:look st.worn g with
    | none=>rfl
    | some m=>simp[judge,e]at hd
   have hh:look st.hold g=none:=by
    cases e:look st.hold g with
    | none=>rfl
    | some m =>
     have:=G.ow m g ((G.wh m g).mpr e)
     rw[←look_mem,hn]at this;cases this
   refine⟨nd_put G.wn g g,fun x m=>?_,fun x m h=>?_,fun x m h=>?_,G.cy⟩
   ·show look (put st.worn g g) x=some m↔look (put st.hold g g) m=some x
    rw[look_put,look_put]
    by_cases hx:x=g
    ·subst hx
     by_cases hm:m=x
     ·subst hm;simp
     ·rw[if_pos rfl,if_neg hm]
      constructor
      ·intro z;exact absurd (Option.some.inj z).symm hm
      ·intro z
       have:=(G.wh x m).mpr z
       rw[hn]at this;cases this
    ·rw[if_neg hx]
     by_cases hm:m=g
     ·subst hm
      rw[if_pos rfl]
      constructor
      ·intro z
       have:=(G.wh x m).mp z
       rw[hh]at this;cases this
      ·intro z;exact absurd (Option.some.inj z).symm hx
     ·rw[if_neg hm];exact G.wh x m
   ·have h:look (put st.worn g g) x=some m:=h
    show m∈keysL (put st.worn g g)
    rw[look_put]at h
    rw[←look_mem,look_put]
    by_cases hx:x=g
    ·rw[if_pos hx]at h;cases h;rw[if_pos rfl];rfl
    ·rw[if_neg hx]at h
     have:=G.ow x m h
     rw[←look_mem]at this
     split
     ·rfl
     ·exact this
   ·have h:look (put st.worn g g) x=some m:=h
    rw[look_put]at h
    by_cases hx:x=g
    ·rw[if_pos hx]at h;cases h;exact sm g (by simp[names])
    ·rw[if_neg hx]at h;exact G.sm x m h
  | go g =>
   have hg:look st.worn g=some g:=by
    cases e:look st.worn g with
    | none=>simp[judge,e]at hd
    | some m =>
     by_cases z:m=g
     ·rw[z]
     ·simp[judge,e,z]at hd
   have hh:look st.hold g=some g:=(G.wh g g).mp hg
   refine⟨nd_drop G.wn g,fun x m=>?_,fun x m h=>?_,fun x m h=>?_,G.cy⟩
   ·show look (dropI st.worn g) x=some m↔look (dropI st.hold g) m=some x
    rw[look_drop,look_drop]
    by_cases hx:x=g
    ·subst hx
     rw[if_pos rfl]
     by_cases hm:m=x
     ·rw[if_pos hm];simp
     ·rw[if_neg hm]
      constructor
      ·intro z;cases z
      ·intro z
       have:=(G.wh x m).mpr z
       rw[hg]at this;exact absurd (Option.some.inj this).symm hm
    ·rw[if_neg hx]
     by_cases hm:m=g
     ·subst hm
      rw[if_pos rfl]
      constructor
      ·intro z
       have:=(G.wh x m).mp z
       rw[hh]at this;exact absurd (Option.some.inj this).symm hx
      ·intro z;cases z
     ·rw[if_neg hm];exact G.wh x m
   ·have h:look (dropI st.worn g) x=some m:=h
    show m∈keysL (dropI st.worn g)
    rw[look_drop]at h
    by_cases hx:x=g
    ·rw[if_pos hx]at h;cases h
    ·rw[if_neg hx]at h
     refine mem_dropI.mpr ⟨G.ow x m h,fun z=>?_⟩
     rw[z]at h
     have:=(G.wh x g).mp h
     rw[hh]at this;exact hx (Option.some.inj this).symm
   ·have h:look (dropI st.worn g) x=some m:=h
    rw[look_drop]at h
    by_cases hx:x=g
    ·rw[if_pos hx]at h;cases h
    ·rw[if_neg hx]at h;exact G.sm x m h
  | exch a b =>
   obtain⟨ma,ea⟩:∃ m,look st.worn a=some m:=by
    cases e:look st.worn a with
    | none=>simp[judge,e]at hd
    | some m=>exact⟨m,rfl⟩
   obtain⟨mb,eb⟩:∃ m,look st.worn b=some m:=by
    cases e:look st.worn b with
    | none=>simp[judge,ea,e]at hd
    | some m=>exact⟨m,rfl⟩
   have hab:a≠b:=fun z=>by simp[judge,ea,eb,z]at hd
   have wa:wr st.worn a=ma:=by unfold wr;rw[ea];rfl
   have wb:wr st.worn b=mb:=by unfold wr;rw[eb];rfl
   have ha:=(G.wh a ma).mp ea
   have hb:=(G.wh b mb).mp eb
   have hmm:ma≠mb:=fun z=>by rw[z,hb]at ha;exact hab (Option.some.inj ha).symm
   have lw:∀ x,look (put (put st.worn a mb) b ma) x=if x=b then some ma else if x=a then some mb else look st.worn x:=fun x=>by rw[look_put,look_put]
   have lh:∀ x,look (put (put st.hold mb a) ma b) x=if x=ma then some b else if x=mb then some a else look st.hold x:=fun x=>by rw[look_put,look_put]
   show HGood { worn:=put (put st.worn a (wr st.worn b)) b (wr st.worn a),hold:=put (put st.hold (wr st.worn b) a) (wr st.worn a) b,circ:=addC (addC st.circ a b) b a,deeds:=st.deeds++[.exch a b] }
   rw[wa,wb]
   refine⟨nd_put (nd_put G.wn a mb) b ma,fun x m=>?_,fun x m h=>?_,fun x m h=>?_,fun x y=>?_⟩
   ·show look (put (put st.worn a mb) b ma) x=some m↔look (put (put st.hold mb a) ma b) m=some x
    rw[lw,lh]
    by_cases hxb:x=b
    ·subst hxb
     rw[if_pos rfl]
     by_cases hm:m=ma
     ·rw[if_pos hm,hm];simp
     ·rw[if_neg hm]
      constructor
      ·intro z;exact absurd (Option.some.inj z).symm hm
      ·intro z
       by_cases hm2:m=mb
       ·rw[if_pos hm2]at z;exact absurd (Option.some.inj z) hab
       ·rw[if_neg hm2]at z
        have:=(G.wh x m).mpr z
        rw[eb]at this;exact absurd (Option.some.inj this).symm hm2
    ·rw[if_neg hxb]
     by_cases hxa:x=a
     ·subst hxa
      rw[if_pos rfl]
      by_cases hm:m=ma
      ·rw[if_pos hm]
       constructor
       ·intro z;exact absurd ((Option.some.inj z).trans hm).symm hmm
       ·intro z;exact absurd (Option.some.inj z).symm hab
      ·rw[if_neg hm]
       by_cases hm2:m=mb
       ·rw[if_pos hm2,hm2];simp
       ·rw[if_neg hm2]
        constructor
        ·intro z;exact absurd (Option.some.inj z).symm hm2
        ·intro z
         have:=(G.wh x m).mpr z
         rw[ea]at this;exact absurd (Option.some.inj this).symm hm
     ·rw[if_neg hxa]
      by_cases hm:m=ma
      ·rw[if_pos hm]
       constructor
       ·intro z
        have:=(G.wh x m).mp z
        rw[hm,ha]at this;exact absurd (Option.some.inj this).symm hxa
       ·intro z;exact absurd (Option.some.inj z).symm hxb
      ·rw[if_neg hm]
       by_cases hm2:m=mb
       ·rw[if_pos hm2]
        constructor
        ·intro z
         have:=(G.wh x m).mp z
         rw[hm2,hb]at this;exact absurd (Option.some.inj this).symm hxb
        ·intro z;exact absurd (Option.some.inj z).symm hxa
       ·rw[if_neg hm2];exact G.wh x m
   ·have h:look (put (put st.worn a mb) b ma) x=some m:=h
    show m∈keysL (put (put st.worn a mb) b ma)
    have key:∀ y,y∈keysL st.worn→y∈keysL (put (put st.worn a mb) b ma):=fun y hy=>by
     rw[←look_mem]at hy ⊢
     rw[lw]
     split
     ·rfl
     ·split
      ·rfl
      ·exact hy
    rw[lw]at h
    split at h
    ·cases h;exact key _ (G.ow a _ ea)
    ·split at h
     ·cases h;exact key _ (G.ow b _ eb)
     ·exact key _ (G.ow x m h)
   ·have h:look (put (put st.worn a mb) b ma) x=some m:=h
    rw[lw]at h
    split at h
    ·cases h;exact G.sm a _ ea
    ·split at h
     ·cases h;exact G.sm b _ eb
     ·exact G.sm x m h
   ·show metC (addC (addC st.circ a b) b a) x y=metC (addC (addC st.circ a b) b a) y x
    rw[met_two,met_two,G.cy x y]
    cases decide (x=a)<;>cases decide (x=b)<;>cases decide (y=a)<;>cases decide (y=b)<;>simp
 ·rw[if_neg hd];exact G
theorem rd_nums {K:PySem.W.Frag}{H:Hp}{l:Addr}{ns:List Int}(h:SqL K H l (ns.map V.int)):RD K H 2 (.ref l) (numsD ns):=by
 refine RD.lst h ?_
 clear h
 induction ns with
 | nil=>exact .nil
 | cons n r ih=>exact .cons (RD.flat rfl 1) ih
def tupD (xs:List V):Dt:=.sq true (xs.map fun v=>.at v)
theorem rd_flatT {K:PySem.W.Frag}{H:Hp}{l:Addr}{xs:List V}(h:H l=some (.tup xs))(hf:∀ x∈xs,flat3 x=true):RD K H 2 (.ref l) (tupD xs):=by
 refine RD.tup (SqT.of h) ?_
 clear h
 induction xs with
 | nil=>exact .nil
 | cons n r ih=>exact .cons (RD.flat (hf n List.mem_cons_self) 1) (ih fun x hx=>hf x (List.mem_cons_of_mem _ hx))
def HMk (P:Program)(w:World)(K:PySem.W.Frag)(mg:Str→Option Value)(base:Heap)(c:HX):Prop:=∃ (fI:Addr)(fd:FuncData),Mk K c.C fI∧FnOk P w K mg base CX0 1 fI fd ["self"] (spNew c.C)∧Binds K fd ["self"] []
theorem pHall {X:Cx}{c:HX}{p pos:Pos}(M:HMk X.prog X.w X.K X.mg X.base c)(U:HT X.K X.mg c)(hr:Room 2 X.A)(hg:Gl X "Hall"):PE X (.Call (.Name "Hall" p) [] [] pos) (tMake c.C (spNew c.C) [] E0 tNil):=by
 obtain⟨fI,fd,M,G,hb⟩:=M
 exact pe_make0 M G hr hg U.mC hb .nil pass0
end Wz
namespace Wz
open PySem L2
structure Ev (c:HX)(H0 H:Hp)(x:Addr)(B:HA)(st:HSt):Prop where
 same:Same H0 H
 hall:HallAt c.C H x B st
 good:HGood st
 nfp:∀ b∈B.fp,H0 b=none
theorem Ev.moved {c:HX}{H0 H H':Hp}{x:Addr}{B:HA}{st st':HSt}(e:Ev c H0 H x B st)(m:Moved c.C H x B st' H')(g:HGood st') :
  ∃ B',Ev c H0 H' x B' st'∧(∀ y o,H y=some o→y∉B.fp→H' y=some o∧y∉B'.fp)∧Tr H H':=by
 obtain⟨B',S,k,f,t⟩:=m
 refine⟨B',⟨fun b o q=>k b o (e.same b o q) (fun z=>by rw[e.nfp b z]at q;cases q),S,g,fun b hb=>?_⟩,fun y o q n=>⟨k y o q n,fun z=>?_⟩,t⟩
 ·rcases f b hb with z | z
  ·exact e.nfp b z
  ·exact e.same.free z
 ·rcases f y z with z | z
  ·exact n z
  ·rw[q]at z;cases z
theorem Ev.fits {st:HSt}(h1:st.worn.length≤100)(h2:st.hold.length≤100)(h3:st.circ.length≤900)(h4:∀ x∈st.circ,x.2.length≤900)(h5:st.deeds.length≤900):Fits st:=⟨by omega,by omega,by omega,fun x hx=>by have:=h4 x hx;omega,by omega⟩
def Of (L:List Int)(st:HSt):Prop:=(∀ g∈keysL st.worn,g∈L)∧(∀ g∈keysL st.hold,g∈L)∧(keysL st.hold).Nodup
theorem of_empty {L:List Int}:Of L ⟨[],[],[],[]⟩:=⟨fun g h=>by simp[keysL]at h,fun g h=>by simp[keysL]at h,List.nodup_nil⟩
theorem mem_putI {l:List (Int×Int)}{g m x:Int}:x∈keysL (put l g m)↔x∈keysL l∨x=g:=by
 rw[keys_put]
 split
 ·rename_i h
  constructor
  ·exact .inl
  ·rintro (z | z)
   ·exact z
   ·rw[z];exact h
 ·simp
theorem of_next {L:List Int}{st:HSt}{d:Deed}(G:HGood st)(o:Of L st)(hn:∀ g∈names d,g∈L):Of L (nextS st d):=by
 unfold nextS
 by_cases hd:judge st d=.done
 ·rw[if_pos hd]
  obtain⟨o1,o2,o3⟩:=o
  cases d with
  | come g =>
   refine⟨fun x hx=>?_,fun x hx=>?_,nd_put o3 g g⟩
   ·rcases mem_putI.mp (show x∈keysL (put st.worn g g) from hx) with z | z
    ·exact o1 x z
    ·rw[z];exact hn g (by simp[names])
   ·rcases mem_putI.mp (show x∈keysL (put st.hold g g) from hx) with z | z
    ·exact o2 x z
    ·rw[z];exact hn g (by simp[names])
  | go g =>
   exact⟨fun x hx=>o1 x (mem_dropI.mp (show x∈keysL (dropI st.worn g) from hx)).1,fun x hx=>o2 x (mem_dropI.mp (show x∈keysL (dropI st.hold g) from hx)).1,nd_drop o3 g⟩
  | exch a b =>
   obtain⟨ma,ea⟩:∃ m,look st.worn a=some m:=by
    cases e:look st.worn a with
    | none=>simp[judge,e]at hd
    | some m=>exact⟨m,rfl⟩
   obtain⟨mb,eb⟩:∃ m,look st.worn b=some m:=by
    cases e:look st.worn b with
    | none=>simp[judge,ea,e]at hd
    | some m=>exact⟨m,rfl⟩
   have wa:wr st.worn a=ma:=by unfold wr;rw[ea];rfl
   have wb:wr st.worn b=mb:=by unfold wr;rw[eb];rfl
   refine⟨fun x hx=>?_,fun x hx=>?_,nd_put (nd_put o3 _ _) _ _⟩
   ·rcases mem_putI.mp (show x∈keysL (put (put st.worn a (wr st.worn b)) b (wr st.worn a)) from hx) with z | z
    ·rcases mem_putI.mp z with z | z
     ·exact o1 x z
     ·rw[z];exact hn a (by simp[names])
    ·rw[z];exact hn b (by simp[names])
   ·rcases mem_putI.mp (show x∈keysL (put (put st.hold (wr st.worn b) a) (wr st.worn a) b) from hx) with z | z
    ·rcases mem_putI.mp z with z | z
     ·exact o2 x z
     ·rw[z,wb];exact o1 _ (G.ow b mb eb)
    ·rw[z,wa];exact o1 _ (G.ow a ma ea)
 ·rw[if_neg hd];exact o
theorem of_len {L:List Int}{st:HSt}(G:HGood st)(o:Of L st):st.worn.length≤L.length∧st.hold.length≤L.length:=by
 have e1:st.worn.length=(keysL st.worn).length:=by simp[keysL]
 have e2:st.hold.length=(keysL st.hold).length:=by simp[keysL]
 exact⟨by rw[e1];exact nodup_len G.wn o.1,by rw[e2];exact nodup_len o.2.2 o.2.1⟩
theorem next_deeds (st:HSt)(d:Deed):(nextS st d).deeds.length≤st.deeds.length+1:=by
 unfold nextS
 split
 ·cases d<;>simp[after]
 ·omega
theorem next_worn (st:HSt)(d:Deed):(nextS st d).worn=if judge st d=.done then afterW st.worn d else st.worn:=by
 unfold nextS
 split
 ·exact after_worn st d
 ·rfl
end Wz
namespace Wz
open PySem L2
def outW:Out→Str
 | .done=>"done"
 | .already=>"AlreadyIn"
 | .masked=>"Masked"
 | .same=>"Same"
 | .met=>"Met"
 | .noguest _=>"NoGuest"
theorem out0 (o:Out):(outV o)[0]? = some (V.str (outW o)):=by cases o<;>rfl
theorem outW_done (o:Out):decide (V.str (outW o)=V.str "done")=decide (o=.done):=by
 cases o with
 | done=>exact (show decide (V.str "done" = V.str "done")=true by decide +kernel)
 | already=>exact (show decide (V.str "AlreadyIn" = V.str "done")=false by decide +kernel)
 | masked=>exact (show decide (V.str "Masked" = V.str "done")=false by decide +kernel)
 | same=>exact (show decide (V.str "Same" = V.str "done")=false by decide +kernel)
 | met=>exact (show decide (V.str "Met" = V.str "done")=false by decide +kernel)
 | noguest g =>
  rw[decide_eq_false (show ¬ Out.noguest g=.done by simp)]
  exact (show decide (V.str "NoGuest" = V.str "done")=false by decide +kernel)
theorem len_names (m c:Int):(namesL m c).length=m.toNat:=by unfold namesL;simp
end Wz
namespace Wz
open PySem L2
def spDeed1:Sp:=fun vs H Q _=>∃ dr m c:Int,vs=[.int dr,.int m,.int c]∧(0≤dr∧dr≤100000)∧(2≤m∧m≤40)∧∀ (t:Addr)(d:Deed),H t=none→(∀ g∈names d,g∈namesL 40 c)→Q (.ref t) (upd H t (deedO d))
def spCrowd:Sp:=fun vs H Q _=>∃ c:Int,vs=[.int c]∧∀ m:Int,2≤m∧m≤40→Q (.int m) H
theorem gst_in {k c:Int}(h:0≤k∧k<40):gst k c∈namesL 40 c:=by
 unfold namesL
 rw[List.mem_map]
 exact⟨k.toNat,List.mem_range.mpr (by omega),by rw[Int.toNat_of_nonneg h.1]⟩
end Wz
namespace Wz
open PySem L2
theorem deeds_snoc {H:Hp}{l t:Addr}{as:List Addr}{ds:List Deed}(hl:H l=some (.lst (as.map V.ref)))(hp:Paired (fun a x=>H a=some (deedO x)) as ds)(ht:H t=none)(d:Deed):DeedsAt (upd (upd H t (deedO d)) l (.lst (as.map V.ref++[.ref t]))) l (ds++[d]):=by
 have tl:t≠l:=fun z=>by rw[z,hl]at ht;cases ht
 refine⟨as++[t],by rw[upd_same,List.map_append];rfl,paired_append (Paired.mapP hp fun b y e=>?_) (.cons (by rw[upd_ne tl,upd_same]) .nil)⟩
 obtain⟨xs,ex⟩:=deed_tup y
 rw[upd_ne (fun z=>by rw[z,hl,ex]at e;cases e),upd_ne (ne_of_none e ht)]
 exact e
end Wz
namespace Wz
open PySem L2
def spStory (C:Addr):Sp:=fun vs H Q _=>∃ (p:Addr)(A:HA)(st:HSt),vs=[.ref p]∧HallAt C H p A st∧∀ (l:Addr)(H':Hp),H l=none→Same H H'→DeedsAt H' l st.deeds→Q (.ref l) H'
theorem key_iff {a b x y:Int}:keyP x y=keyP a b↔(x=a∧y=b)∨(x=b∧y=a):=by
 unfold keyP
 by_cases h1:y<x<;>by_cases h2:b<a
 ·rw[if_pos h1,if_pos h2,Prod.mk.injEq];omega
 ·rw[if_pos h1,if_neg h2,Prod.mk.injEq];omega
 ·rw[if_neg h1,if_pos h2,Prod.mk.injEq];omega
 ·rw[if_neg h1,if_neg h2,Prod.mk.injEq];omega
theorem mem_addM {ml:List (Int×Int)}{p q:Int×Int}:q∈addM ml p↔q∈ml∨q=p:=by
 unfold addM
 split
 ·rename_i h
  constructor
  ·exact .inl
  ·rintro (z | z)
   ·exact z
   ·rw[z];exact h
 ·simp
def Alike (st:HSt)(ml:List (Int×Int)):Prop:=∀ a b,metC st.circ a b=metL ml a b
theorem alike_empty:Alike ⟨[],[],[],[]⟩ []:=fun a b=>by unfold metC metL;simp[cOf]
def nextM (st:HSt)(ml:List (Int×Int))(d:Deed):List (Int×Int):=if judge st d=.done then afterM ml d else ml
theorem alike_next {st:HSt}{ml:List (Int×Int)}{d:Deed}(h:Alike st ml):Alike (nextS st d) (nextM st ml d):=by
 unfold nextS nextM
 by_cases hd:judge st d=.done
 ·rw[if_pos hd,if_pos hd]
  cases d with
  | come g=>exact h
  | go g=>exact h
  | exch a b =>
   intro x y
   show metC (addC (addC st.circ a b) b a) x y=metL (addM ml (keyP a b)) x y
   rw[met_two,h x y]
   unfold metL
   have e:decide (keyP x y∈addM ml (keyP a b))=(decide (keyP x y∈ml)||decide ((x=a∧y=b)∨(x=b∧y=a))):=by
    rw[←Bool.decide_or]
    congr 1
    rw[mem_addM,key_iff]
   rw[e,Bool.decide_or,Bool.decide_and,Bool.decide_and,Bool.or_assoc]
 ·rw[if_neg hd,if_neg hd];exact h
theorem judge_al {st:HSt}{ml:List (Int×Int)}(h:Alike st ml)(d:Deed):judgeW st.worn (metL ml) d=judge st d:=by rw[judge_W];exact judgeW_congr (fun a b=>(h a b).symm) d
structure Sz (n:Nat)(st:HSt):Prop where
 c:st.circ.length≤2*n
 k:∀ x∈st.circ,x.2.length≤2*n
 d:st.deeds.length≤n
theorem sz0:Sz 0 ⟨[],[],[],[]⟩:=⟨Nat.le_refl _,(fun x hx=>nomatch hx),Nat.le_refl _⟩
theorem sz_next {n:Nat}{st:HSt}(h:Sz n st)(d:Deed):Sz (n+1) (nextS st d):=by
 have keep:Sz (n+1) st:=⟨by have:=h.c;omega,fun x hx=>by have:=h.k x hx;omega,by have:=h.d;omega⟩
 refine⟨?_,?_,by have:=next_deeds st d;have:=h.d;omega⟩
 ·unfold nextS
  split
  ·cases d with
   | come g=>exact keep.c
   | go g=>exact keep.c
   | exch a b =>
    show (addC (addC st.circ a b) b a).length≤_
    have:=len_addC (addC st.circ a b) b a
    have:=len_addC st.circ a b
    have:=h.c
    omega
  ·exact keep.c
 ·unfold nextS
  split
  ·cases d with
   | come g=>exact keep.k
   | go g=>exact keep.k
   | exch a b =>
    intro x hx
    have:=addC_len (n:=2*n+1) (addC_len (n:=2*n) (a:=a) (b:=b) h.k (by omega)) (by omega) x hx
    omega
  ·exact keep.k
theorem fits_of {L:List Int}{n:Nat}{st:HSt}(G:HGood st)(o:Of L st)(hL:L.length≤100)(z:Sz n st)(hn:n≤400):Fits st:=by
 have:=of_len G o
 exact Ev.fits (by omega) (by omega) (by have:=z.c;omega) (fun x hx=>by have:=z.k x hx;omega) (by have:=z.d;omega)
def dsD (ds:List Deed):Dt:=.sq false (ds.map fun d=>tupD (deedL d))
theorem deed_flat (d:Deed):∀ x∈deedL d,flat3 x=true:=by
 cases d<;>(intro x hx;simp[deedL,names]at hx)
 ·rcases hx with rfl | rfl<;>rfl
 ·rcases hx with rfl | rfl<;>rfl
 ·rcases hx with rfl | rfl | rfl<;>rfl
theorem rd_deeds {K:PySem.W.Frag}{H:Hp}{l:Addr}{ds:List Deed}(h:DeedsAt H l ds):RD K H 2 (.ref l) (dsD ds):=by
 obtain⟨as,hl,hp⟩:=h
 refine RD.lst (SqL.of hl) ?_
 clear hl
 induction hp with
 | nil=>exact .nil
 | cons e _ ih =>
  rename_i a d _ _ _
  refine .cons ?_ ih
  rw[deedO_L]at e
  refine RD.tup (SqT.of e) ?_
  have hf:=deed_flat d
  generalize deedL d=xs at hf
  clear e ih
  induction xs with
  | nil=>exact .nil
  | cons n r ih2=>exact .cons (RD.flat (hf n List.mem_cons_self) 0) (ih2 fun x hx=>hf x (List.mem_cons_of_mem _ hx))
theorem deeds_app {H:Hp}{l t:Addr}{as:List Addr}{ds:List Deed}{d:Deed}(hl:H l=some (.lst (as.map V.ref)))(hp:Paired (fun a x=>H a=some (deedO x)) as ds)(ht:H t=some (deedO d)):DeedsAt (upd H l (.lst (as.map V.ref++[.ref t]))) l (ds++[d]):=by
 have nt:∀ b y,H b=some (deedO y)→b≠l:=fun b y e z=>by obtain⟨xs,ex⟩:=deed_tup y;rw[z,hl,ex]at e;cases e
 refine⟨as++[t],by rw[upd_same,List.map_append];rfl,paired_append (Paired.mapP hp fun b y e=>?_) (.cons (by rw[upd_ne (nt t d ht)];exact ht) .nil)⟩
 rw[upd_ne (nt b y e)]
 exact e
theorem next_dd (st:HSt)(d:Deed):(nextS st d).deeds=if judge st d=.done then st.deeds++[d] else st.deeds:=by
 unfold nextS
 split
 ·cases d<;>rfl
 ·rfl
end Wz
namespace Wz
open PySem L2
end Wz
namespace Wz
open PySem L2
theorem names_small {m c g:Int}(h:g∈namesL m c):Small g:=by
 unfold namesL at h
 obtain⟨k,_,rfl⟩:=List.mem_map.mp h
 exact gst_small _ _
end Wz
namespace L2
open PySem PySem.Spec PyProof.Rows
theorem passN {X:Cx}{P:Program}{w:World}:Passes (CXD P w) X (fun _ _ _=>False):=by
 intro pins σ H s e s' I hc
 obtain⟨ea,C,od,H',B,rfl,fl,un,hok,os,bare,hsB,trB,hE⟩:=hc
 exact hE.elim
def Itd (d:Addr)(o:Obj)(kvs:List (Key×V)):It :=
 ⟨fun i H=>H d=some (.frz o (.dK kvs))∧i<kvs.length,fun i H x H'=>H'=H∧∃ p,kvs[i]? = some p∧x=kV p.1,fun i H=>H d=some (.frz o (.dK kvs))∧kvs.length≤i⟩
theorem dict_ep {P:Program}{w:World}{H:Hp}{h:Heap}{d:Addr}{o:Obj}{kvs:List (Key×V)}{ep:Nat}(hep:∀ es ep',o.data=.dict es ep'→ep'=ep)(x:ObjOk P w H h d (.frz o (.dK kvs))):(d == sysModules)=false∧∃ vs,KV kvs vs∧h.DictAt (mixKind P w) d vs ep:=by
 obtain⟨hg,hz,lo,vs,rel,dd⟩:=x
 obtain⟨ep',hat⟩:=dd.dictAt
 refine⟨lo,vs,rel,?_⟩
 obtain⟨od,es,hod,hcd,hdd,r⟩:=id hat
 rw[hg]at hod
 cases hod
 rw[←hep _ _ hdd]
 exact hat
theorem turn_dict {P:Program}{w:World}{K:PySem.W.Frag}{tg:Expr}(d it:Addr)(o:Obj)(kvs:List (Key×V))(ep:Nat)(hep:∀ es ep',o.data=.dict es ep'→ep'=ep):Turn P w K tg (Itd d o kvs) [it] it (fun i h=>h.IsKeyIter it d i kvs.length ep) where
 mem:=by simp
 obj:=fun i h st b hb=>by
  have e:b=it:=by simpa using hb
  subst e
  obtain⟨o,e,c,d⟩:=st
  exact⟨o,e,fun v z=>by rw[d]at z;cases z⟩
 keep:=fun i h h' st k=>st.at fun o e=>k it (by simp) o e
 item:=by
  intro X hP hw hK hc i pins s σ H E I hf st hg
  subst hP hw hK
  obtain⟨hH,hi⟩:=hg
  obtain⟨lo,vs,rel,hat⟩:=dict_ep hep (I.hok d _ hH)
  obtain⟨f0,f1,f2,f3,f4,f5⟩:=hf it (by simp)
  have hl:kvs.length=vs.length:=Paired.length rel
  obtain⟨p,hp⟩:∃ p,kvs[i]? = some p:=⟨kvs[i],by simp[hi]⟩
  obtain⟨q,hq⟩:∃ q,vs[i]? = some q:=⟨vs[i]'(by omega),by simp[show i<vs.length by omega]⟩
  obtain⟨k,v⟩:=q
  have ek:p.1=k:=by
   have e1:(kvs.map (·.1))[i]? = some p.1:=by rw[List.getElem?_map,hp];rfl
   rw[rel.keys,List.getElem?_map,hq]at e1
   exact (Option.some.inj e1).symm
  rw[hl]at st
  refine wpAny_pyNext_dict_item (knd:=mixKind X.prog X.w) st hat hq fun key h' hk st' sb=>?_
  have I1:Inv X pins σ H { s with heap:=h' }:=I.turned (t':=s.toks) (fun b o hb e=>(sb.2 b hb).trans e) f0 f1 f3 f4 f5
  obtain⟨o2,e,c,d2⟩:=id st'
  refine⟨key,rfl,go_of (s:={ s with heap:=h' }) e c d2 (by decide) ⟨kV k,H,I1,?_,⟨rfl,p,hp,by rw[ek]⟩,by rw[hl];exact st',fun b hb=>(hf b hb).1⟩⟩
  rcases keyIs_shape (k:=k) (v:=key) hk with ⟨j,t,ej,ev⟩ | ⟨j,t,ej,ev⟩
  ·subst ej;exact⟨t,ev⟩
  ·subst ej;exact⟨t,ev⟩
 done:=by
  intro X hP hw hK hc i pins s σ H E I hf st hg
  subst hP hw hK
  obtain⟨hH,hi⟩:=hg
  obtain⟨lo,vs,rel,hat⟩:=dict_ep hep (I.hok d _ hH)
  have hl:kvs.length=vs.length:=Paired.length rel
  obtain⟨f0,f1,f2,f3,f4,f5⟩:=hf it (by simp)
  rw[hl]at st
  exact wpAny_pyNext_dict_end (knd:=mixKind X.prog X.w) (I.ok.hd hc) st hat (by simp;omega) fun h' eb=>⟨rfl,I.turned (t':=s.toks) (fun b o hb e=>eb b o hb e) f0 f1 f3 f4 f5⟩
 self:=fun _ _ _ _ _ st h=>wpAny_pyIter_keyiter st h
def iDict (tl:TE):TI:=fun σ H R=>tl σ H fun x H1=>∃ d kvs,x=.ref d∧H1 d=some (.dK kvs)∧∀ o:Obj,R (Itd d o kvs) (upd H1 d (.frz o (.dK kvs)))
theorem pi_dict {X:Cx}{tg l:Expr}{tl:TE}(hl:PE X l tl):PI X tg l (iDict tl):=by
 intro pins s σ H R I h
 refine thn (hl pins s σ H _ I h) fun v s1 ⟨x,H1,I1,r1,q1⟩=>?_
 obtain⟨d,kvs,e,hH,q⟩:=q1
 subst e
 cases r1
 obtain⟨hz,lo,vs,rel,dd⟩:=(show ObjOk X.prog X.w H1 s1.heap d (.dK kvs) from I1.hok d _ hH)
 obtain⟨ep,hat⟩:=dd.dictAt
 obtain⟨o,es,ho,hc,hdat,r⟩:=id hat
 have hl2:kvs.length=vs.length:=Paired.length rel
 refine wpAny_pyIter_dict (knd:=mixKind X.prog X.w) lo hat ?_
 have I2:Inv X pins σ (upd H1 d (.frz o (.dK kvs))) { s1 with heap:=s1.heap,toks:=s1.toks }:=I1.write (by rw[hH];trivial) (.inl rfl) (fun b u _ e=>e) ⟨_,ho⟩ ⟨ho,hz,lo,vs,rel,dd⟩
 refine⟨s1.heap.objs.size,[s1.heap.objs.size],_,_,_,rfl,I2.kept (t':=s1.toks) fun b o e=>Heap.get?_push_of_some _ e,turn_dict d _ o kvs ep (fun es' ep' e=>?_),⟨_,Heap.get?_push_size _ rfl,rfl,by rw[hl2];rfl⟩,fun b hb=>?_,q o⟩
 ·rw[hdat]at e;cases e;rfl
 ·have e:b=s1.heap.objs.size:=by simpa using hb
  subst e
  exact I2.fpOk (Nat.le_refl _) (I2.hok.fresh (Nat.le_refl _))
theorem for_dict {d:Addr}{o:Obj}{kvs:List (Key×V)}{g:TG}{tb:TS}{D:Ends}{σ:St}{H:Hp}(Pv:Nat→St→Hp→Prop)(h0:Pv 0 σ H)(hl:∀ i σ H,i≤kvs.length→Pv i σ H→H d=some (.frz o (.dK kvs)))
  (hs:∀ i p σ H,kvs[i]? = some p→Pv i σ H→g (kV p.1) σ H fun σ2 H2=>tb { D with nx:=Pv (i+1),ct:=Pv (i+1),bk:=D.nx } σ2 H2) (hd:∀ σ H,Pv kvs.length σ H→D.nx σ H) :
  ∃ W:Nat→Nat→St→Hp→Prop,(∃ m,W 0 m σ H)∧∀ i m σ H,W i m σ H →
   ((Itd d o kvs).stop i H∧D.nx σ H)∨((Itd d o kvs).go i H∧∃ N:St→Hp→Prop,(∀ σ' H',N σ' H'→∃ m',m'<m∧W (i+1) m' σ' H')∧∀ x H',(Itd d o kvs).yld i H x H'→g x σ H' fun σ2 H2=>tb { D with nx:=N,ct:=N,bk:=D.nx } σ2 H2):=by
 refine⟨fun i m σ H=>m=kvs.length-i∧i≤kvs.length∧Pv i σ H,⟨kvs.length,by simp,Nat.zero_le _,h0⟩,?_⟩
 rintro i m σ H ⟨rfl,hi,p⟩
 have q:=hl i σ H hi p
 by_cases hlt:i<kvs.length
 ·refine .inr ⟨⟨q,hlt⟩,Pv (i+1),fun σ' H' p'=>⟨kvs.length-(i+1),by omega,rfl,hlt,p'⟩,fun x H' y=>?_⟩
  obtain⟨e,p2,hp,ex⟩:=y
  subst e ex
  exact hs i p2 σ _ hp p
 ·have e:i=kvs.length:=by omega
  subst e
  exact .inl ⟨⟨q,Nat.le_refl _⟩,hd σ H p⟩
end L2
namespace Wz
open PySem L2
def stOf (ds:List Deed):HSt:=ds.foldl after ⟨[],[],[],[]⟩
theorem stOf_snoc (ds:List Deed)(d:Deed):stOf (ds++[d])=after (stOf ds) d:=by unfold stOf;rw[List.foldl_append];rfl
def DoneAll (ds:List Deed):Prop:=∀ i d,ds[i]? = some d→judge (stOf (ds.take i)) d=.done
theorem doneAll_nil:DoneAll []:=fun i d h=>by simp at h
theorem doneAll_snoc {ds:List Deed}{d:Deed}(h:DoneAll ds)(hd:judge (stOf ds) d=.done):DoneAll (ds++[d]):=by
 intro i e he
 by_cases hi:i<ds.length
 ·rw[List.getElem?_append_left hi]at he
  rw[List.take_append_of_le_length (by omega)]
  exact h i e he
 ·have hl:=(List.getElem?_eq_some_iff.mp he).1
  rw[List.length_append,List.length_singleton]at hl
  have e1:i=ds.length:=by omega
  subst e1
  simp at he
  subst he
  simpa using hd
theorem after_deeds (st:HSt)(d:Deed):(after st d).deeds=st.deeds++[d]:=by cases d<;>rfl
structure MdE (H0 H:Hp)(w m ls:Addr)(st:HSt)(ml:List (Int×Int)):Prop where
 hw:H w=some (.dK (dk st.worn))
 hm:H m=some (.dT (mtK ml))
 hs:DeedsAt H ls st.deeds
 w0:H0 w=none
 m0:H0 m=none
 s0:H0 ls=none
theorem MdE.on {H0 H H':Hp}{w m ls:Addr}{st:HSt}{ml:List (Int×Int)}(e:MdE H0 H w m ls st ml)(s:Same H H'):MdE H0 H' w m ls st ml:=⟨s _ _ e.hw,s _ _ e.hm,deeds_mono e.hs s,e.w0,e.m0,e.s0⟩
theorem MdE.ws {H0 H:Hp}{w m ls:Addr}{st:HSt}{ml:List (Int×Int)}(e:MdE H0 H w m ls st ml):w≠ls:=by obtain⟨as,h,_⟩:=e.hs;exact ne_of e.hw h (by intro z;cases z)
theorem MdE.ms {H0 H:Hp}{w m ls:Addr}{st:HSt}{ml:List (Int×Int)}(e:MdE H0 H w m ls st ml):m≠ls:=by obtain⟨as,h,_⟩:=e.hs;exact ne_of e.hm h (by intro z;cases z)
theorem MdE.done {H0 H H1:Hp}{w m ls:Addr}{st:HSt}{ml:List (Int×Int)}{d:Deed}(e:MdE H0 H w m ls st ml)(hj:judge st d=.done)
  (h1:H1 w=some (.dK (dk (afterW st.worn d)))) (h2:H1 m=some (.dT (mtK (afterM ml d)))) (k:∀ b o,H b=some o→b≠w→b≠m→H1 b=some o)
  {as:List Addr} (hl:H ls=some (.lst (as.map V.ref))) (hp:Paired (fun a x=>H a=some (deedO x)) as st.deeds) {t:Addr} (ht:H t=some (deedO d)) :
  MdE H0 (upd H1 ls (.lst (as.map V.ref++[.ref t]))) w m ls (nextS st d) (nextM st ml d)∧H1 ls=some (.lst (as.map V.ref)):=by
 have nt:∀ b y,H b=some (deedO y)→b≠w∧b≠m:=fun b y q=>by
  obtain⟨xs,ex⟩:=deed_tup y
  rw[ex]at q
  exact⟨ne_of q e.hw (by intro z;cases z),ne_of q e.hm (by intro z;cases z)⟩
 have hl1:=k _ _ hl (Ne.symm e.ws) (Ne.symm e.ms)
 have d1:DeedsAt (upd H1 ls (.lst (as.map V.ref++[.ref t]))) ls (st.deeds++[d]):=deeds_app hl1 (Paired.mapP hp fun b y q=>k _ _ q (nt b y q).1 (nt b y q).2) (k _ _ ht (nt t d ht).1 (nt t d ht).2)
 refine⟨⟨?_,?_,?_,e.w0,e.m0,e.s0⟩,hl1⟩
 ·rw[upd_ne e.ws,next_worn,if_pos hj];exact h1
 ·rw[upd_ne e.ms];unfold nextM;rw[if_pos hj];exact h2
 ·rw[next_dd,if_pos hj];exact d1
def spHallOf (c:HX):Sp:=fun vs H Q _=>∃ (l:Addr)(ds:List Deed)(L:List Int),vs=[.ref l]∧DeedsAt H l ds∧DoneAll ds∧ds.length≤88∧L.length≤100∧(∀ d∈ds,∀ g∈names d,g∈L∧Small g) ∧
 ∀ (x:Addr)(B:HA)(H':Hp),H x=none→Ev c H H' x B (stOf ds)→Q (.ref x) H'
theorem look_of_mem:∀ {l:List (Int×Int)}{g m:Int},(keysL l).Nodup→(g,m)∈l→look l g=some m
 | p::l,g,m,nd,h=>by
  unfold keysL at nd
  rw[List.map_cons,List.nodup_cons]at nd
  unfold look
  rcases List.mem_cons.mp h with z | z
  ·rw[←z,if_pos rfl]
  ·rw[if_neg (fun e=>nd.1 (by rw[e];exact List.mem_map_of_mem (f:=(·.1)) z))]
   exact look_of_mem nd.2 z
end Wz
namespace L2
open PySem PySem.Spec PyProof.Rows
end L2
namespace Wz
open PySem L2
theorem sortI_pair (l:List Int):(sortI l).Pairwise (·≤·):=by
 have h1:(sortI l).Pairwise (fun a b=>decide (a≤b)=true):=List.pairwise_mergeSort (by intro a b c;simp;omega) (by intro a b;simp;omega) l
 exact h1.imp (by simp)
theorem sortI_perm (l:List Int):(sortI l).Perm l:=List.mergeSort_perm l _
end Wz
namespace L2
open PySem PySem.Spec PyProof.Rows
theorem compTurn_two0 (elt t0 i0:Expr)(c0:List Expr)(t1 i1:Expr)(c1:List Expr)(scope:Scope)(pos:Pos)(it acc:Value)(env:Env) :
  compTurn (.ListComp elt [⟨t0,i0,c0,0⟩,⟨t1,i1,c1,0⟩] scope pos) 0 it acc env=(do
   standAt i0.pos
   match ←pyNext it with
   | none=>pure (.done .next)
   | some v =>
    letOwnedTupleGo t0 it v
    assign t0 env v
    let mut ok:=true
    for c in c0 do
     if ok then ok ←isTrue c env (eval c env)
    if ok then
     let x ←eval i1 env
     standAt i1.pos
     let x ←foldedSetIterable i1 env x
     let it1 ←holding [x] (pyIter x)
     let _ ←runOwn (.compStart (.ListComp elt [⟨t0,i0,c0,0⟩,⟨t1,i1,c1,0⟩] scope pos) 1 it1 acc env) env
     again (.compLoop (.ListComp elt [⟨t0,i0,c0,0⟩,⟨t1,i1,c1,0⟩] scope pos) 0 it acc env)
    else
     again (.compLoop (.ListComp elt [⟨t0,i0,c0,0⟩,⟨t1,i1,c1,0⟩] scope pos) 0 it acc env)):=by rfl
theorem compTurn_two1 (elt t0 i0:Expr)(c0:List Expr)(t1 i1:Expr)(c1:List Expr)(scope:Scope)(pos:Pos)(it acc:Value)(env:Env) :
  compTurn (.ListComp elt [⟨t0,i0,c0,0⟩,⟨t1,i1,c1,0⟩] scope pos) 1 it acc env=(do
   standAt i1.pos
   match ←pyNext it with
   | none=>pure (.done .next)
   | some v =>
    letOwnedTupleGo t1 it v
    assign t1 env v
    let mut ok:=true
    for c in c1 do
     if ok then ok ←isTrue c env (eval c env)
    if ok then
     (do let _ ←call (.builtin "list.append") [acc,←eval elt env])
    again (.compLoop (.ListComp elt [⟨t0,i0,c0,0⟩,⟨t1,i1,c1,0⟩] scope pos) 1 it acc env)):=by rfl
section
variable {prog:Program}{w:World}{A:Around}{R:Result→Shared→Prop}{s:Shared}{elt t0 i0 t1 i1:Expr}{c0 c1:List Expr}{scope:Scope}{pos:Pos}{it acc:Value}{env:Env}
theorem codeAny_compLoop_in (I:Nat→Shared→Prop)
  (turn:∀ n s,I n s→wpAny (model prog w) A (pyNext it) (fun r s₁=>match r with
   | none=>R (.ok .next) s₁
   | some v=>wpAny (model prog w) A (letOwnedTupleGo t1 it v) (fun _ s₁'=>wpAny (model prog w) A (assign t1 env v) (fun _ s₂ =>
     wpAny (model prog w) A (forIn c1 true fun c r=>if r=true then do let ok ←isTrue c env (eval c env);pure (ForInStep.yield ok) else pure (ForInStep.yield r)) (fun ok s₃ =>
      if ok=true then wpAny (model prog w) A (eval elt env) (fun x s₄ =>
       wpAny (model prog w) A (call (.builtin "list.append") [acc,x]) (fun _ s₅=>∃ m,m<n∧I m s₅) (fun _ _=>False) s₄) (fun _ _=>False) s₃
      else ∃ m,m<n∧I m s₃) (fun _ _=>False) s₂) (fun _ _=>False) s₁') (fun _ _=>False) s₁) (fun _ _=>False) s)
  (n:Nat) (h:I n s) :
  codeAny (model prog w) A (.compLoop (.ListComp elt [⟨t0,i0,c0,0⟩,⟨t1,i1,c1,0⟩] scope pos) 1 it acc env) R s:=by
 refine codeAny_loop rfl I (fun n s hI=>?_) n h
 show wpAny _ A ((compTurn (.ListComp elt [⟨t0,i0,c0,0⟩,⟨t1,i1,c1,0⟩] scope pos) 1 it acc env).onRaise (fun x=>do noteFrame x env;theTreesLotGoes x)) _ _ s
 refine wpAny_noted ?_
 rw[compTurn_two1]
 refine wpAny_bind (wpAny_standAt (wpAny_bind (wpAny_mono (turn n s hI) (fun r s₁ h₁=>?_) fun _ _ h'=>h'.elim)))
 cases r with
 | none=>exact wpAny_pure h₁
 | some v =>
  refine wpAny_bind (wpAny_mono h₁ (fun _ s₁' h₁'=>?_) fun _ _ h'=>h'.elim)
  refine wpAny_bind (wpAny_mono h₁' (fun _ s₂ h₂=>wpAny_bind (wpAny_mono h₂ (fun ok s₃ h₃=>?_) fun _ _ h'=>h'.elim)) fun _ _ h'=>h'.elim)
  cases ok with
  | false=>exact wpAny_pure ⟨rfl,h₃⟩
  | true =>
   exact wpAny_bind (wpAny_bind (wpAny_mono h₃ (fun x s₄ h₄=>wpAny_bind (wpAny_mono h₄ (fun _ s₅ h₅=>wpAny_pure (wpAny_pure ⟨rfl,h₅⟩)) fun _ _ h'=>h'.elim)) fun _ _ h'=>h'.elim))
theorem codeAny_compLoop_out (hs:∀ x,foldedSetIterable i1 env x=pure x)(I:Nat→Shared→Prop)
  (turn:∀ n s,I n s→wpAny (model prog w) A (pyNext it) (fun r s₁=>match r with
   | none=>R (.ok .next) s₁
   | some v=>wpAny (model prog w) A (letOwnedTupleGo t0 it v) (fun _ s₁'=>wpAny (model prog w) A (assign t0 env v) (fun _ s₂ =>
     wpAny (model prog w) A (forIn c0 true fun c r=>if r=true then do let ok ←isTrue c env (eval c env);pure (ForInStep.yield ok) else pure (ForInStep.yield r)) (fun ok s₃ =>
      if ok=true then wpAny (model prog w) A (eval i1 env) (fun x s₄ =>
       wpAny (model prog w) A (pyIter x) (fun it1 s₅=>codeAny (model prog w) A (.compStart (.ListComp elt [⟨t0,i0,c0,0⟩,⟨t1,i1,c1,0⟩] scope pos) 1 it1 acc env) (fun r s₆=>r=.ok .next∧∃ m,m<n∧I m s₆) s₅) (fun _ _=>False) s₄) (fun _ _=>False) s₃
      else ∃ m,m<n∧I m s₃) (fun _ _=>False) s₂) (fun _ _=>False) s₁') (fun _ _=>False) s₁) (fun _ _=>False) s)
  (n:Nat) (h:I n s) :
  codeAny (model prog w) A (.compLoop (.ListComp elt [⟨t0,i0,c0,0⟩,⟨t1,i1,c1,0⟩] scope pos) 0 it acc env) R s:=by
 refine codeAny_loop rfl I (fun n s hI=>?_) n h
 show wpAny _ A ((compTurn (.ListComp elt [⟨t0,i0,c0,0⟩,⟨t1,i1,c1,0⟩] scope pos) 0 it acc env).onRaise (fun x=>do noteFrame x env;theTreesLotGoes x)) _ _ s
 refine wpAny_noted ?_
 rw[compTurn_two0]
 refine wpAny_bind (wpAny_standAt (wpAny_bind (wpAny_mono (turn n s hI) (fun r s₁ h₁=>?_) fun _ _ h'=>h'.elim)))
 cases r with
 | none=>exact wpAny_pure h₁
 | some v =>
  refine wpAny_bind (wpAny_mono h₁ (fun _ s₁' h₁'=>?_) fun _ _ h'=>h'.elim)
  refine wpAny_bind (wpAny_mono h₁' (fun _ s₂ h₂=>wpAny_bind (wpAny_mono h₂ (fun ok s₃ h₃=>?_) fun _ _ h'=>h'.elim)) fun _ _ h'=>h'.elim)
  cases ok with
  | false=>exact wpAny_pure ⟨rfl,h₃⟩
  | true =>
   refine wpAny_bind (wpAny_mono h₃ (fun x s₄ h₄=>?_) fun _ _ h'=>h'.elim)
   refine wpAny_bind (wpAny_standAt (wpAny_bind (wpAny_of_eq (hs x) ?_)))
   refine wpAny_bind (wpAny_holding (wpAny_mono h₄ (fun it1 s₅ h₅=>?_) fun _ _ h'=>h'.elim))
   refine wpAny_bind (wpAny_runOwn (codeAny_mono h₅ fun r s₆ h₆=>?_))
   obtain⟨rfl,h₆⟩:=h₆
   exact wpAny_pure ⟨rfl,h₆⟩
theorem codeAny_compStart_in
  (h0:codeAny (model prog w) A (.compLoop (.ListComp elt [⟨t0,i0,c0,0⟩,⟨t1,i1,c1,0⟩] scope pos) 1 it acc env) R s)
  (h:wpAny (model prog w) A (pyIter it) (fun it' s'=>codeAny (model prog w) A (.compLoop (.ListComp elt [⟨t0,i0,c0,0⟩,⟨t1,i1,c1,0⟩] scope pos) 1 it' acc env) R s')
   (notedBy (model prog w) A env fun x s'=>R (.error x) s') s) :
  codeAny (model prog w) A (.compStart (.ListComp elt [⟨t0,i0,c0,0⟩,⟨t1,i1,c1,0⟩] scope pos) 1 it acc env) R s:=by
 refine codeAny_of_tree ?_
 show wpAny _ _ ((compStart (.ListComp elt [⟨t0,i0,c0,0⟩,⟨t1,i1,c1,0⟩] scope pos) 1 it acc env).onRaise (fun x=>do noteFrame x env;standAt theWindowsPlace)) _ _ s
 refine wpAny_notedAt ?_
 unfold compStart
 show wpAny _ _ (ask >>= _) _ _ s
 refine wpAny_bind (wpAny_askSetting (wpAny_ite ?_))
 split
 ·first
   | exact wpAny_bind (wpAny_pure (wpAny_pure (And.intro rfl h0)))
   | exact wpAny_pure (And.intro rfl h0)
 ·first
   | exact wpAny_bind (wpAny_rule (wpAny_bind (wpAny_standAt (wpAny_bind (wpAny_mono h (fun it' s' h'=>wpAny_pure (And.intro rfl h')) fun _ _ x=>x)))))
   | (refine wpAny_bind (wpAny_rule ?_);show wpAny _ _ (standAt i1.pos >>= _) _ _ s;exact wpAny_bind (wpAny_standAt (wpAny_bind (wpAny_mono h (fun it' s' h'=>wpAny_pure (And.intro rfl h')) fun _ _ x=>x))))
end
theorem comp_inner {Y:Cx}{P:List (Addr×Obj)}{σ:St}{H:Hp}{s:Shared}{elt t0 i0 t1 i1:Expr}{c0 c1:List Expr}{sc:Scope}{pos:Pos}{it a:Addr}{fp:List Addr}{tn:Nat→Heap→Prop}{J:It}{g:TG}{tt:TT}{te:TE}{nx:St→Hp→Prop}{rt:VK}{bk ct:St→Hp→Prop}
  (hc:Y.calm=true) (hxe:Y.xe=fun _ _=>False) (I:Inv Y P σ H s) (T:Turn Y.prog Y.w Y.K t1 J fp it tn) (st:tn 0 s.heap) (f:∀ b∈fp,FpOk Y P H b) (hL:LoopF J g (tbC tt te a) ⟨nx,rt,bk,ct⟩ σ H) (hg:PG Y t1 g) (ht:PTs Y c1 tt) (he:PE Y elt te) :
  codeAny (model Y.prog Y.w) Y.A (.compLoop (.ListComp elt [⟨t0,i0,c0,0⟩,⟨t1,i1,c1,0⟩] sc pos) 1 (.ref it) (.ref a) Y.env) (fun r s'=>r=.ok .next∧∃ σ' H',Inv Y P σ' H' s'∧nx σ' H') s:=by
 obtain⟨W,⟨m0,w0⟩,turn⟩:=hL
 have stat:∀ {H':Hp},(∀ b∈fp,H' b=none)→∀ b∈fp,FpOk Y P H' b:=fun {H'} hn b hb=>⟨hn b hb,(f b hb).2⟩
 refine codeAny_compLoop_in (fun n s'=>∃ i σ' H',Inv Y P σ' H' s'∧tn i s'.heap∧(∀ b∈fp,H' b=none)∧W i n σ' H') ?_ m0 ⟨0,_,_,I,st,fun b hb=>(f b hb).1,w0⟩
 rintro n s6 ⟨i,σ6,H6,I6,st6,fr6,w6⟩
 rcases turn i n σ6 H6 w6 with ⟨stop,qn⟩ | ⟨go,Nx,hN,step⟩
 ·refine thn (T.done Y rfl rfl rfl hc i P s6 σ6 H6 _ I6 (stat fr6) st6 stop) fun r s7 ⟨hr,I7⟩=>?_
  subst hr
  exact⟨rfl,σ6,H6,I7,qn⟩
 ·refine thn (T.item Y rfl rfl rfl hc i P s6 σ6 H6 _ I6 (stat fr6) st6 go) fun r s7 ⟨u,hr,h7⟩=>?_
  subst hr
  refine thn h7 fun _ s8 ⟨x,H8,I8,r8,y8,st8,fr8⟩=>?_
  have I8':=I8.pinned (stat fr8) (T.obj _ _ st8)
  have hgx:=hg _ s8 σ6 H8 x u _ I8' r8 (step x H8 y8)
  rw[hxe]at hgx
  refine thn hgx fun _ s9 ⟨σ9,H9,I9,q9⟩=>?_
  have again:∀ {s':Shared}{σ7:St}{H7:Hp},Inv Y (P++pinsAt fp s8.heap) σ7 H7 s'→Nx σ7 H7→∃ m,m<n∧∃ i σ' H',Inv Y P σ' H' s'∧tn i s'.heap∧(∀ b∈fp,H' b=none)∧W i m σ' H':=fun {s' σ7 H7} I7 n7=>by
   obtain⟨m',hm,w7⟩:=hN σ7 H7 n7
   refine⟨m',hm,i+1,σ7,H7,I7.unpinned,T.keep _ _ _ st8 fun b hb o e=>(I7.pin (b,o) (List.mem_append_right _ (List.mem_append_right _ (mem_pinsAt hb e)))).1,fun b hb=>?_,w7⟩
   obtain⟨o,e,d⟩:=T.obj _ _ st8 b hb
   exact (I7.pin (b,o) (List.mem_append_right _ (List.mem_append_right _ (mem_pinsAt hb e)))).2.1
  have htx:=ht _ s9 σ9 H9 _ I9 q9
  rw[hxe]at htx
  refine thn htx fun ok s10 ⟨H10,I10,q10⟩=>?_
  cases ok with
  | false =>
   rw[if_neg Bool.false_ne_true]at q10 ⊢
   exact again I10 q10
  | true =>
   rw[if_pos rfl]at q10 ⊢
   have hex:=he _ s10 σ9 H10 _ I10 q10
   rw[hxe]at hex
   refine thn hex fun y s11 ⟨yv,H11,I11,ry,ys,hys,hlen,q11⟩=>?_
   exact thn (call_append (X:=Y) I11 hys hlen ry) fun _ s12 I12=>again I12 q11
def tbC2 (tt0:TT)(wi1:TI)(g1:TG)(tt1:TT)(te:TE)(a:Addr):TS:=fun D σ H=>tt0 σ H fun b H1=>if b=true then wi1 σ H1 fun J1 H2=>LoopF J1 g1 (tbC tt1 te a) { nx:=D.nx,rt:=fun _ _=>False } σ H2 else D.nx σ H1
def tComp2 (wi:TI)(g0:TG)(tt0:TT)(wi1:TI)(g1:TG)(tt1:TT)(te:TE)(src:List (Option Nat)):TE:=fun σ H Q=>wi σ H fun J H1=>∀ a,H1 a=none →
 LoopF J g0 (tbC2 tt0 wi1 g1 tt1 te a) { nx:=fun _ H'=>Q (.ref a) H',rt:=fun _ _=>False } (compSt src σ) (upd H1 a (.lst []))
theorem pe_comp2 {X:Cx}{elt tg iter t1 i1:Expr}{ifs c1:List Expr}{sc so:Scope}{pos:Pos}{N':List Str}{src:List (Option Nat)}{wi wi1:TI}{g g1:TG}{tt tt1:TT}{te:TE}{N:List Str}(hso:X.env.scope=so)(hXN:X.N=N)(S:CmpSc so sc N N' src)(hc:X.calm=true)(hi:PI X tg iter wi)
  (hb:∀ (cl:List (Str×Addr))(C:Addr)(s:Shared)(H:Hp)(ex:List Addr),PG (compCx X sc cl C N' s H ex) tg g∧PTs (compCx X sc cl C N' s H ex) ifs tt∧PI (compCx X sc cl C N' s H ex) t1 i1 wi1∧PG (compCx X sc cl C N' s H ex) t1 g1∧PTs (compCx X sc cl C N' s H ex) c1 tt1∧PE (compCx X sc cl C N' s H ex) elt te)
  (hs:∀ x,foldedSetIterable iter X.env x=pure x:=by intro _;rfl) (hs1:∀ env x,foldedSetIterable i1 env x=pure x:=by intro _ _;rfl):PE X (.ListComp elt [⟨tg,iter,ifs,0⟩,⟨t1,i1,c1,0⟩] sc pos) (tComp2 wi g tt wi1 g1 tt1 te src):=by
 subst hXN
 intro pins s σ H Q I h
 obtain⟨cl,hcl,q1,q3⟩:=closure_of (sc:=sc) (env:=X.env) fun y hy hf=>by
  have:=S.fre y hy hf
  rw[←hso]at this
  exact I.ok.has y.1 this
 rw[eval_ListComp]
 refine wpAny_comprehension_free (use:=none) rfl hs hcl S.kind S.loc (thn (hi pins s σ H _ I h) fun v s1 h1=>thn h1 fun itv s2 h2=>?_)
 obtain⟨it,fp,tn,J,H2,e,I2,T,st2,f2,hR⟩:=h2
 subst e
 refine wpAny_newObj_type ?_
 have I3:Inv X pins σ (upd H2 s2.heap.objs.size (.lst [])) { s2 with heap:=s2.heap.push { cls:=.type "list",dict:=none,data:=.seq ([]:List Value).toArray } } :=
  I2.laid (t':=s2.toks) (fun b u q=>Heap.get?_push_of_some _ q) (Nat.le_refl _) ⟨Nat.zero_le _,[],0,.nil,Heap.get?_push_size _ rfl⟩
 have hfr:=I2.hok.fresh (Nat.le_refl s2.heap.objs.size)
 obtain⟨W,⟨m0,w0⟩,turn⟩:=hR _ hfr
 have flt:∀ b∈fp,b<s2.heap.objs.size:=fun b hb=>by obtain⟨o,e,_⟩:=T.obj _ _ st2 b hb;exact Heap.lt_size e
 generalize hs3:({ s2 with heap:=s2.heap.push { cls:=.type "list",dict:=none,data:=.seq ([]:List Value).toArray } }:Shared)=s3 at I3 ⊢
 have e3:s3.heap=s2.heap.push { cls:=.type "list",dict:=none,data:=.seq ([]:List Value).toArray }:=by rw[←hs3]
 have sz3:s3.heap.objs.size=s2.heap.objs.size+1:=by rw[e3,Heap.size_push]
 have hf3:∀ b∈fp,FpOk X pins (upd H2 s2.heap.objs.size (.lst [])) b:=fun b hb=>⟨by rw[upd_ne (Nat.ne_of_lt (flt b hb))];exact (f2 b hb).1,(f2 b hb).2⟩
 have flt3:∀ b∈fp,b<s3.heap.objs.size:=fun b hb=>by rw[sz3];exact Nat.lt_succ_of_lt (flt b hb)
 have st3:tn 0 s3.heap:=T.keep _ _ _ st2 fun b _ o e=>by rw[e3];exact Heap.get?_push_of_some _ e
 refine wpAny_newFunctionEnv S.nocell (by intro y hy;simp at hy) (fun h4 hns4 hsb4=>?_) S.kind
 have kp4:∀ b o,s3.heap.get? b=some o→h4.get? b=some o:=fun b o e=>hsb4.extBut b o (Nat.ne_of_lt (Heap.lt_size e)) (Heap.get?_push_of_some _ e)
 have I4:=inv_comp (h':=h4) I3 hso S q1 q3 hf3 flt3 (by simpa using hns4) kp4 (s3.toks+([]:List (Str×Value)).length)
 have st4:tn 0 h4:=T.keep _ _ _ st3 fun b _ o e=>kp4 b o e
 generalize hC:s3.heap.objs.size=C at I4 hns4 hsb4 ⊢
 obtain⟨hg,ht,hi1,hg1,ht1,he⟩:=hb cl C s3 (upd H2 s2.heap.objs.size (.lst [])) fp
 let Y:Cx:=compCx X sc cl C N' s3 (upd H2 s2.heap.objs.size (.lst [])) fp
 have loop:∀ s5:Shared,s5={ s3 with heap:=h4,toks:=s3.toks+([]:List (Str×Value)).length }→codeAny (model X.prog X.w) X.A (.compLoop (.ListComp elt [⟨tg,iter,ifs,0⟩,⟨t1,i1,c1,0⟩] sc pos) 0 (.ref it) (.ref s2.heap.objs.size) (compEnvC sc cl C X.env))
   (compPost (model X.prog X.w) X.A X.xe none (EP X pins σ Q) (.ref s2.heap.objs.size) C) s5:=by
  rintro s5 rfl
  have stat:∀ {H':Hp},(∀ b∈fp,H' b=none)→∀ b∈fp,FpOk Y [] H' b:=fun {H'} hn b hb=>by
   obtain⟨f0,f1,f2',f3,f4,f5⟩:=hf3 b hb
   refine⟨hn b hb,?_,fun z=>?_,.inl hb,fun x c e=>f4 x c (q1 x c e),fun p hp=>absurd (show p∈([]:List (Addr×Obj)) from hp) (by simp)⟩
   ·show b≠C
    rw[←hC];exact Nat.ne_of_lt (flt3 b hb)
   ·have z:b∈frs X.stack:=z
    rcases List.mem_cons.mp (I3.stkSub b z) with y | y
    ·exact f1 y
    ·exact f2' y
  refine codeAny_compLoop_out (fun x=>hs1 _ x) (fun n s'=>∃ i σ' H',Inv Y [] σ' H' s'∧tn i s'.heap∧(∀ b∈fp,H' b=none)∧W i n σ' H') ?_ m0 ⟨0,_,_,I4,st4,fun b hb=>(hf3 b hb).1,w0⟩
  rintro n s6 ⟨i,σ6,H6,I6,st6,fr6,w6⟩
  rcases turn i n σ6 H6 w6 with ⟨stop,qn⟩ | ⟨go,Nx,hN,step⟩
  ·refine thn (T.done Y rfl rfl rfl hc i [] s6 σ6 H6 _ I6 (stat fr6) st6 stop) fun r s7 ⟨hr,I7⟩=>?_
   subst hr
   obtain⟨m,hn,_⟩:=id I7.loc
   refine⟨m,hn,fun h' hsb=>?_⟩
   have neC:∀ b o,s3.heap.get? b=some o→b≠C:=fun b o e=>by rw[←hC];exact Nat.ne_of_lt (Heap.lt_size e)
   have freeC:H6 C=none:=I7.free
   have un:Un (frs X.stack) fp (upd H2 s2.heap.objs.size (.lst [])) H6 s3.heap h' :=
    ⟨fun b o e n hb hx=>(hsb.2 b (neC b o e)).trans (I7.base.keep b o e n hb hx),fun b o e n hb hx=>by
      obtain⟨sl,q⟩:=I7.base.slot b o e n hb hx
      exact⟨sl,(hsb.2 b (neC b o e)).trans q⟩,I7.base.free,fun b o e hx=>by
      obtain⟨o',q⟩:=I7.base.there b o e hx
      exact⟨o',(hsb.2 b (neC b o e)).trans q⟩,I7.base.tups,I7.base.frzs,I7.base.tbls⟩
   have hok:HOk X.prog X.w H6 h':=fun b ob e=>by
    refine (I7.hok b ob e).stay (fun c w' hc' q=>(hsb.2 c ?_).trans q) (fun _ q=>q) fun _ _ q=>q
    rintro rfl
    rcases hc' with z | z
    ·rw[←z,freeC]at e;cases e
    ·rw[freeC]at z;cases z
   have J7:Inv X pins σ H6 { s7 with heap:=h' }:=I3.call' (ch:=fp) (s':={ s7 with heap:=h' }) I7.os un hok I7.bare fun b hb=>⟨(hf3 b hb).2.2.2.1,(hf3 b hb).2.1,(hf3 b hb).2.2.2.2.1,(hf3 b hb).2.2.2.2.2⟩
   exact⟨.ref s2.heap.objs.size,H6,J7,rfl,qn⟩
  ·refine thn (T.item Y rfl rfl rfl hc i [] s6 σ6 H6 _ I6 (stat fr6) st6 go) fun r s7 ⟨u,hr,h7⟩=>?_
   subst hr
   refine thn h7 fun _ s8 ⟨x,H8,I8,r8,y8,st8,fr8⟩=>?_
   have I8':=I8.pinned (stat fr8) (T.obj _ _ st8)
   refine thn (hg _ s8 σ6 H8 x u _ I8' r8 (step x H8 y8)) fun _ s9 ⟨σ9,H9,I9,q9⟩=>?_
   have again:∀ {s':Shared}{σ7:St}{H7:Hp},Inv Y ([]++pinsAt fp s8.heap) σ7 H7 s'→Nx σ7 H7→∃ m,m<n∧∃ i σ' H',Inv Y [] σ' H' s'∧tn i s'.heap∧(∀ b∈fp,H' b=none)∧W i m σ' H':=fun {s' σ7 H7} I7 n7=>by
    obtain⟨m',hm,w7⟩:=hN σ7 H7 n7
    refine⟨m',hm,i+1,σ7,H7,I7.unpinned,T.keep _ _ _ st8 fun b hb o e=>(I7.pin (b,o) (List.mem_append_right _ (List.mem_append_right _ (mem_pinsAt hb e)))).1,fun b hb=>?_,w7⟩
    obtain⟨o,e,d⟩:=T.obj _ _ st8 b hb
    exact (I7.pin (b,o) (List.mem_append_right _ (List.mem_append_right _ (mem_pinsAt hb e)))).2.1
   refine thn (ht _ s9 σ9 H9 _ I9 q9) fun ok s10 ⟨H10,I10,q10⟩=>?_
   cases ok with
   | false =>
    rw[if_neg Bool.false_ne_true]at q10 ⊢
    exact again I10 q10
   | true =>
    rw[if_pos rfl]at q10 ⊢
    refine thn (hi1 _ s10 σ9 H10 _ I10 q10) fun x1 s11 h11=>thn h11 fun it1 s12 h12=>?_
    obtain⟨ia,fp1,tn1,J1,H12,e1,I12,T1,st12,f12,hR1⟩:=h12
    subst e1
    have inner:=comp_inner (Y:=Y) (t0:=tg) (i0:=iter) (c0:=ifs) (i1:=i1) (sc:=sc) (pos:=pos) hc rfl I12 T1 st12 f12 hR1 hg1 ht1 he
    have inner':=codeAny_mono inner (R':=fun r s₆=>r=.ok .next∧∃ m,m<n∧∃ i σ' H',Inv Y [] σ' H' s₆∧tn i s₆.heap∧(∀ b∈fp,H' b=none)∧W i m σ' H') fun r s6 ⟨er,σ7,H7,I7,n7⟩=>⟨er,again I7 n7⟩
    exact codeAny_compStart_in inner' (T1.self _ 0 _ _ _ st12 inner')
 exact codeAny_compStart_list (loop _ rfl) (T.self _ 0 _ _ _ st4 (loop _ rfl))
end L2
namespace Qs
open PySem PySem.W PyProof.Rows
structure Lin (n:Nat)(lt:Nat→Nat→Bool):Prop where
 irr:∀ i,lt i i=false
 tot:∀ i j,i<n→j<n→i≠j→lt i j=true∨lt j i=true
 tr:∀ i j k,lt i j=true→lt j k=true→lt i k=true
def ask {α:Type}(lt:Nat→Nat→Bool):KasT α→α
 | .ret a=>a
 | .ask i j k=>ask lt (k (lt i j))
def Okk {α:Type}(n:Nat)(lt:Nat→Nat→Bool):KasT α→Prop
 | .ret _=>True
 | .ask i j k=>i<n∧j<n∧Okk n lt (k (lt i j))
theorem ask_bind {α β:Type}{lt:Nat→Nat→Bool}{f:α→KasT β}:∀ t:KasT α,ask lt (t.bind f)=ask lt (f (ask lt t))
 | .ret _=>rfl
 | .ask i j k=>ask_bind (k (lt i j))
theorem okk_bind {α β:Type}{n:Nat}{lt:Nat→Nat→Bool}{f:α→KasT β}:∀ t:KasT α,Okk n lt t→Okk n lt (f (ask lt t))→Okk n lt (t.bind f)
 | .ret _,_,h=>h
 | .ask i j k,⟨h1,h2,h3⟩,h=>⟨h1,h2,okk_bind (k (lt i j)) h3 h⟩
def Run {α:Type}(n:Nat)(lt:Nat→Nat→Bool)(t:KasT α)(R:α→Prop):Prop:=Okk n lt t∧R (ask lt t)
theorem run_bind {α β:Type}{n:Nat}{lt:Nat→Nat→Bool}{t:KasT α}{f:α→KasT β}{R:β→Prop}(h:Run n lt t fun a=>Run n lt (f a) R):Run n lt (t.bind f) R :=
 ⟨okk_bind t h.1 h.2.1,by rw[ask_bind];exact h.2.2⟩
theorem run_mono {α:Type}{n:Nat}{lt:Nat→Nat→Bool}{t:KasT α}{R R':α→Prop}(h:Run n lt t R)(hr:∀ a,R a→R' a):Run n lt t R':=⟨h.1,hr _ h.2⟩
theorem run_ret {α:Type}{n:Nat}{lt:Nat→Nat→Bool}{a:α}{R:α→Prop}(h:R a):Run n lt (.ret a) R:=⟨trivial,h⟩
theorem run_ask {α:Type}{n:Nat}{lt:Nat→Nat→Bool}{i j:Nat}{k:Bool→KasT α}{R:α→Prop}(hi:i<n)(hj:j<n)(h:∀ b,lt i j=b→Run n lt (k b) R):Run n lt (.ask i j k) R:=by
 have:=h _ rfl
 exact⟨⟨hi,hj,this.1⟩,this.2⟩
section
variable {n:Nat}{lt:Nat→Nat→Bool}{p:Array Nat}
def Pm (n:Nat)(p:Array Nat):Prop:=p.Perm (List.toArray (List.range n))
theorem Pm.sz (h:Pm n p):p.size=n:=by have:=h.size_eq;simpa using this
theorem Pm.below (h:Pm n p)(hn:0<n)(i:Nat):p.getD i 0<n:=by
 by_cases hi:i<p.size
 ·have e:p.getD i 0=p[i]:=by simp[Array.getD,hi]
  rw[e]
  have hm:p[i]∈p.toList:=by simp
  have:=(Array.perm_iff_toList_perm.mp h).mem_iff.mp hm
  simpa using this
 ·have e:p.getD i 0=0:=by simp[Array.getD,hi]
  rw[e];exact hn
theorem Pm.ne (h:Pm n p){i j:Nat}(hi:i<n)(hj:j<n)(hij:i≠j):p.getD i 0≠p.getD j 0:=by
 have hs:=h.sz
 have nd:p.toList.Nodup:=(Array.perm_iff_toList_perm.mp h).nodup_iff.mpr (by simpa using List.nodup_range)
 have e1:p.getD i 0=p.toList[i]'(by simp;omega):=by simp[Array.getD,show i<p.size by omega]
 have e2:p.getD j 0=p.toList[j]'(by simp;omega):=by simp[Array.getD,show j<p.size by omega]
 rw[e1,e2]
 intro e
 exact hij ((List.getElem_inj nd).mp e)
def Up (lt:Nat→Nat→Bool)(p:Array Nat)(k:Nat):Prop:=∀ i j,i<j→j<k→lt (p.getD i 0) (p.getD j 0)=true
def Dn (lt:Nat→Nat→Bool)(p:Array Nat)(k:Nat):Prop:=∀ i j,i<j→j<k→lt (p.getD j 0) (p.getD i 0)=true
theorem lin_not (L:Lin n lt)(P:Pm n p){i j:Nat}(hi:i<n)(hj:j<n)(hij:i≠j)(h:lt (p.getD i 0) (p.getD j 0)=false):lt (p.getD j 0) (p.getD i 0)=true:=by
 rcases L.tot _ _ (P.below (by omega) i) (P.below (by omega) j) (P.ne hi hj hij) with z | z
 ·rw[h]at z;cases z
 ·exact z
theorem sp_succ (L:Lin n lt){a:Nat}(h1:1≤a)(hs:Up lt p a)(h:lt (p.getD (a-1) 0) (p.getD a 0)=true):Up lt p (a+1):=by
 intro i j hij hj
 by_cases hja:j<a
 ·exact hs i j hij hja
 ·have e:j=a:=by omega
  subst e
  by_cases hi:i=j-1
  ·rw[hi];exact h
  ·exact L.tr _ _ _ (hs i (j-1) (by omega) (by omega)) h
theorem dp_succ (L:Lin n lt){a:Nat}(h1:1≤a)(hs:Dn lt p a)(h:lt (p.getD a 0) (p.getD (a-1) 0)=true):Dn lt p (a+1):=by
 intro i j hij hj
 by_cases hja:j<a
 ·exact hs i j hij hja
 ·have e:j=a:=by omega
  subst e
  by_cases hi:i=j-1
  ·rw[hi];exact h
  ·exact L.tr _ _ _ h (hs i (j-1) (by omega) (by omega))
theorem run_asc (L:Lin n lt)(P:Pm n p):∀ (f a:Nat),1≤a→a+f≤n→Up lt p a→Run n lt (kas_asc p f a) fun m=>a≤m∧m≤a+f∧Up lt p m∧(m<a+f→lt (p.getD m 0) (p.getD (m-1) 0)=true)
 | 0,a,_,_,hs=>run_ret ⟨Nat.le_refl _,Nat.le_refl _,hs,fun h=>absurd h (by omega)⟩
 | f+1,a,h1,h2,hs=>by
  refine run_ask (P.below (by omega) _) (P.below (by omega) _) fun b hb=>?_
  cases b with
  | true=>exact run_ret ⟨Nat.le_refl _,by omega,hs,fun _=>hb⟩
  | false =>
   have hlt:=lin_not L P (show a<n by omega) (show a-1<n by omega) (by omega) hb
   refine run_mono (run_asc L P f (a+1) (by omega) (by omega) (sp_succ L h1 hs hlt)) fun m ⟨m1,m2,m3,m4⟩=>⟨by omega,by omega,m3,fun h=>m4 (by omega)⟩
theorem run_desc (L:Lin n lt)(P:Pm n p):∀ (f a:Nat),1≤a→a+f≤n→Dn lt p a→Run n lt (kas_desc f p a 0) fun r=>r.1=p∧r.2.2=0∧a≤r.2.1∧r.2.1≤a+f∧Dn lt p r.2.1
 | 0,a,_,_,hs=>run_ret ⟨rfl,rfl,Nat.le_refl _,Nat.le_refl _,hs⟩
 | f+1,a,h1,h2,hs=>by
  refine run_ask (P.below (by omega) _) (P.below (by omega) _) fun b hb=>?_
  cases b with
  | true =>
   rw[if_pos rfl,if_neg (by omega)]
   exact run_mono (run_desc L P f (a+1) (by omega) (by omega) (dp_succ L h1 hs hb)) fun r ⟨r1,r2,r3,r4,r5⟩=>⟨r1,r2,by omega,by omega,r5⟩
  | false =>
   rw[if_neg Bool.false_ne_true]
   have hlt:=lin_not L P (show a<n by omega) (show a-1<n by omega) (by omega) hb
   refine run_ask (P.below (by omega) _) (P.below (by omega) _) fun d hd=>?_
   rw[hlt]at hd
   subst hd
   rw[if_pos rfl]
   exact run_ret ⟨rfl,rfl,Nat.le_refl _,Nat.le_add_right _ _,hs⟩
theorem rev_get {a:Nat}(ha:a≤p.size)(k:Nat):(kas_rev p 0 a).getD k 0=if k<a then p.getD (a-1-k) 0 else p.getD k 0:=by
 have h:=getElem?_mirror_all (xs:=p) (i:=0) (j:=a) ha k
 have e:∀ (q:Array Nat)(i:Nat),q.getD i 0=(q[i]?).getD 0:=fun q i=>by
  simp[Array.getD]
  split<;>simp_all
 show (mirror p 0 a ((a-0)/2)).getD k 0=_
 rw[e,h]
 by_cases hk:k<a
 ·rw[if_pos ⟨Nat.zero_le _,hk⟩,if_pos hk,e]
  congr 2
  omega
 ·rw[if_neg (by omega),if_neg hk,e]
theorem Pm.rev (h:Pm n p)(i j:Nat):Pm n (kas_rev p i j):=(mirror_perm _ _ _ _).trans h
theorem run_tail3 (L:Lin n lt)(P:Pm n p){a:Nat}(h1:1≤a)(h2:a≤n)(hd:Dn lt p a):Run n lt (kas_tail3 a n p) fun r=>Pm n r.2∧Up lt r.2 r.1∧1≤r.1∧r.1≤n:=by
 have P':=P.rev 0 a
 have hs:Up lt (kas_rev p 0 a) a:=fun i j hij hj=>by
  rw[rev_get (by rw[P.sz];exact h2),rev_get (by rw[P.sz];exact h2),if_pos (by omega),if_pos hj]
  exact hd _ _ (by omega) (by omega)
 refine run_bind (run_mono (run_asc L P' (n-a) a h1 (by omega) hs) fun m ⟨m1,m2,m3,_⟩=>run_ret ⟨P',m3,by omega,by omega⟩)
theorem run_count (L:Lin n lt)(P:Pm n p)(hn:2≤n):Run n lt (kas_count n p) fun r=>Pm n r.2∧Up lt r.2 r.1∧1≤r.1∧r.1≤n:=by
 refine run_bind (run_mono (run_asc L P (n-1) 1 (Nat.le_refl _) (by omega) fun i j hij hj=>by omega) fun m ⟨m1,m2,m3,m4⟩=>?_)
 by_cases hm:m=n
 ·rw[if_pos (by simp[hm])]
  exact run_ret ⟨P,m3,m1,by omega⟩
 ·rw[if_neg (by simp[hm])]
  by_cases h1:m>1
  ·rw[if_pos h1]
   refine run_ask (P.below (by omega) _) (P.below (by omega) _) fun b hb=>?_
   rw[m3 0 (m-1) (by omega) (by omega)]at hb
   subst hb
   rw[if_pos rfl]
   exact run_ret ⟨P,m3,m1,by omega⟩
  ·rw[if_neg h1]
   have e:m=1:=by omega
   subst e
   have hlt:=m4 (by omega)
   have hd:Dn lt p (1+1):=dp_succ L (Nat.le_refl _) (fun i j hij hj=>by omega) hlt
   refine run_bind (run_mono (run_desc L P (n-(1+1)) (1+1) (by omega) (by omega) hd) fun r ⟨r1,r2,r3,r4,r5⟩=>?_)
   rw[r2,if_neg (by omega),r1]
   exact run_tail3 L P (by omega) (by omega) r5
theorem run_place (L:Lin n lt)(P:Pm n p){k:Nat}(hk:k<n)(hs:Up lt p k):∀ (f l r:Nat),l≤r→r≤k→r-l≤f→(∀ i,i<l→lt (p.getD i 0) (p.getD k 0)=true)→(∀ i,r≤i→i<k→lt (p.getD k 0) (p.getD i 0)=true) →
  Run n lt (kas_place p k f l r) fun m=>m≤k∧(∀ i,i<m→lt (p.getD i 0) (p.getD k 0)=true)∧∀ i,m≤i→i<k→lt (p.getD k 0) (p.getD i 0)=true
 | 0,l,r,h1,h2,h3,hl,hr=>run_ret ⟨by omega,hl,fun i hi hk=>hr i (by omega) hk⟩
 | f+1,l,r,h1,h2,h3,hl,hr=>by
  show Run n lt (if l≥r then .ret l else _) _
  by_cases h:l≥r
  ·rw[if_pos h]
   exact run_ret ⟨by omega,hl,fun i hi hk=>hr i (by omega) hk⟩
  ·rw[if_neg h]
   refine run_ask (P.below (by omega) _) (P.below (by omega) _) fun b hb=>?_
   cases b with
   | true =>
    rw[if_pos rfl]
    refine run_place L P hk hs f l ((l+r)/2) (by omega) (by omega) (by omega) hl fun i hi hik=>?_
    by_cases he:i=(l+r)/2
    ·rw[he];exact hb
    ·exact L.tr _ _ _ hb (hs _ _ (by omega) hik)
   | false =>
    rw[if_neg Bool.false_ne_true]
    have hlt:=lin_not L P hk (show (l+r)/2<n by omega) (by omega) hb
    refine run_place L P hk hs f ((l+r)/2+1) r (by omega) h2 (by omega) (fun i hi=>?_) hr
    by_cases he:i=(l+r)/2
    ·rw[he];exact hlt
    ·exact L.tr _ _ _ (hs _ _ (by omega) (by omega)) hlt
theorem bub_get {k l:Nat}(hk:k<p.size)(hl:l≤k)(i:Nat):(bubble p k (k-l)).getD i 0=if i=l then p.getD k 0 else if l<i∧i≤k then p.getD (i-1) 0 else p.getD i 0:=by
 have h:=getElem?_bubble (xs:=p) hk (k-l) (by omega) i
 have e:∀ (q:Array Nat)(i:Nat),q.getD i 0=(q[i]?).getD 0:=fun q i=>by
  simp[Array.getD]
  split<;>simp_all
 rw[e,h,show k-(k-l)=l by omega]
 by_cases h1:i=l
 ·rw[if_pos h1,if_pos h1,e]
 ·rw[if_neg h1,if_neg h1]
  by_cases h2:l<i∧i≤k
  ·rw[if_pos h2,if_pos h2,e]
  ·rw[if_neg h2,if_neg h2,e]
theorem run_bin (L:Lin n lt):∀ (f:Nat)(p:Array Nat)(k:Nat),Pm n p→k+f=n→Up lt p k→Run n lt (kas_bin f p k) fun q=>Pm n q∧Up lt q n
 | 0,p,k,P,h,hs=>run_ret ⟨P,by rw[show n=k by omega];exact hs⟩
 | f+1,p,k,P,h,hs=>by
  have hk:k<n:=by omega
  refine run_bind (run_mono (run_place L P hk hs k 0 k (Nat.zero_le _) (Nat.le_refl _) (by omega) (fun i hi=>by omega) (fun i hi hik=>by omega)) fun l ⟨l1,l2,l3⟩=>?_)
  have g:=fun i=>bub_get (p:=p) (k:=k) (l:=l) (by rw[P.sz];exact hk) l1 i
  refine run_bin L f _ (k+1) ((bubble_perm _ _ _).trans P) (by omega) fun i j hij hj=>?_
  rw[g,g]
  by_cases hi1:i=l
  ·rw[if_pos hi1,if_neg (by omega),if_pos ⟨by omega,by omega⟩]
   exact l3 _ (by omega) (by omega)
  ·rw[if_neg hi1]
   by_cases hi2:l<i∧i≤k
   ·rw[if_pos hi2,if_neg (by omega),if_pos ⟨by omega,by omega⟩]
    exact hs _ _ (by omega) (by omega)
   ·rw[if_neg hi2]
    by_cases hj1:j=l
    ·rw[if_pos hj1]
     exact l2 _ (by omega)
    ·rw[if_neg hj1]
     by_cases hj2:l<j∧j≤k
     ·rw[if_pos hj2]
      exact hs _ _ (by omega) (by omega)
     ·rw[if_neg hj2]
      exact hs _ _ hij (by omega)
theorem run_sort (L:Lin n lt)(hn:2≤n):Run n lt (kas_sort n) fun q=>Pm n q∧Up lt q n:=by
 refine run_bind (run_mono (run_count L (p:=List.toArray (List.range n)) (Array.Perm.refl _) hn) fun r ⟨r1,r2,r3,r4⟩=>?_)
 by_cases h:r.1<n
 ·rw[if_pos h]
  exact run_bin L _ _ _ r1 (by omega) (by rw[Nat.max_eq_left r3];exact r2)
 ·rw[if_neg h]
  exact run_ret ⟨r1,by rw[show n=r.1 by omega];exact r2⟩
end
theorem kas_of {α:Type}{n:Nat}{lt:Nat→Nat→Bool}{cmp:Nat→Nat→(Bool→Shared→Prop)→Shared→Prop}{Q:α→Shared→Prop}{I:Shared→Prop}
  (hc:∀ i j,i<n→j<n→∀ (C:Bool→Shared→Prop) s,I s→(∀ s',I s'→C (lt i j) s')→cmp i j C s):∀ (t:KasT α)(s:Shared),Okk n lt t→I s→(∀ s',I s'→Q (ask lt t) s')→t.kasWp cmp Q s
 | .ret a,s,_,hI,hq=>hq s hI
 | .ask i j k,s,⟨h1,h2,h3⟩,hI,hq=>hc i j h1 h2 _ s hI fun s' hs'=>kas_of hc (k (lt i j)) s' h3 hs' hq
end Qs
namespace Qs
open PySem PySem.W PyProof.Rows
def ltP (p q:Int×Int):Bool:=decide (p.1<q.1∨(p.1=q.1∧p.2<q.2))
theorem ltP_irr (p:Int×Int):ltP p p=false:=by unfold ltP;simp
theorem ltP_tr {p q r:Int×Int}(h1:ltP p q=true)(h2:ltP q r=true):ltP p r=true:=by
 unfold ltP at *
 have h1:=of_decide_eq_true h1
 have h2:=of_decide_eq_true h2
 exact decide_eq_true (by omega)
theorem ltP_tot {p q:Int×Int}(h:p≠q):ltP p q=true∨ltP q p=true:=by
 unfold ltP
 by_cases h1:p.1<q.1
 ·exact .inl (decide_eq_true (.inl h1))
 ·by_cases h2:q.1<p.1
  ·exact .inr (decide_eq_true (.inl h2))
  ·have e:p.1=q.1:=by omega
   have n:p.2≠q.2:=fun z=>h (Prod.ext e z)
   by_cases h3:p.2<q.2
   ·exact .inl (decide_eq_true (.inr ⟨e,h3⟩))
   ·exact .inr (decide_eq_true (.inr ⟨e.symm,by omega⟩))
def ltIx (ps:List (Int×Int))(i j:Nat):Bool:=ltP (ps.getD i (0,0)) (ps.getD j (0,0))
theorem lin_of {ps:List (Int×Int)}(nd:ps.Nodup):Lin ps.length (ltIx ps) where
 irr:=fun i=>ltP_irr _
 tot:=fun i j hi hj hij=>ltP_tot fun e=>hij (by
  have e1:ps.getD i (0,0)=ps[i]:=by simp[hi]
  have e2:ps.getD j (0,0)=ps[j]:=by simp[hj]
  rw[e1,e2]at e
  exact (List.getElem_inj nd).mp e)
 tr:=fun i j k=>ltP_tr
def PairAt (h:Heap)(v:Value)(p:Int×Int):Prop:=∃ (b:Addr)(o:Obj)(n:Nat)(t u:Tok),v=.ref b∧h.get? b=some o∧o.cls=.type "tuple"∧o.data=.seq #[.int p.1 t,.int p.2 u] n
section
variable {prog:Program}{w:World}{A:Around}{E:Value→Shared→Prop}{s:Shared}
theorem lt_pair {x y:Value}{p q:Int×Int}{Q:Bool→Shared→Prop}(hx:PairAt s.heap x p)(hy:PairAt s.heap y q)(h:Q (ltP p q) s):wpAny (model prog w) A (keyLt' (tuples' true) x y) Q E s:=by
 obtain⟨b,o,n,t,u,rfl,ho,hc,hd⟩:=hx
 obtain⟨b',o',n',t',u',rfl,ho',hc',hd'⟩:=hy
 refine kat_lt ho hd ho' hd' ?_
 show KatLex prog w A true (decide (2<2)) Q [(.int p.1 t,.int q.1 t'),(.int p.2 u,.int q.2 u')] 0 s
 refine kat_cons (wpAny_eqBool_int ?_)
 by_cases h1:p.1=q.1
 ·rw[show (p.1 == q.1)=true by simpa using h1]
  refine kat_yes (kat_cons (wpAny_eqBool_int ?_))
  by_cases h2:p.2=q.2
  ·rw[show (p.2 == q.2)=true by simpa using h2]
   refine kat_yes (kat_nil ?_)
   have e:ltP p q=decide (2<2):=by rw[show p=q from Prod.ext h1 h2,ltP_irr];rfl
   rw[←e];exact h
  ·rw[show (p.2 == q.2)=false by simpa using h2]
   refine kat_no ?_
   show wpAny (model prog w) A (oneLt' false (.int p.2 u) (.int q.2 u')) Q _ s
   refine kat_one _ _ (wpAny_lt_int ?_)
   show Q (decide (p.2<q.2)) s
   have e:ltP p q=decide (p.2<q.2):=by unfold ltP;simp[h1]
   rw[←e];exact h
 ·rw[show (p.1 == q.1)=false by simpa using h1]
  refine kat_no ?_
  show wpAny (model prog w) A (oneLt' true (.int p.1 t) (.int q.1 t')) Q _ s
  refine oneLt_int ?_
  have e:ltP p q=decide (p.1<q.1):=by unfold ltP;simp[h1]
  rw[←e];exact h
theorem tups_of {h:Heap}:∀ {vs:List Value}{ps:List (Int×Int)},Paired (PairAt h) vs ps→∃ fs:List Value,KatTups h vs fs∧fs.length=vs.length∧∀ v∈fs,∃ i t,v=Value.int i t
 | [],[],.nil=>⟨[],KatTups.nil,rfl,fun v h=>by cases h⟩
 | v::vs,p::ps,.cons hv r=>by
  obtain⟨fs,k,hl,hi⟩:=tups_of r
  obtain⟨b,o,n,t,u,rfl,ho,hc,hd⟩:=hv
  refine⟨.int p.1 t::fs,KatTups.cons ho hc hd rfl k,by simp[hl],fun v hv=>?_⟩
  rcases List.mem_cons.mp hv with z | z
  ·exact⟨_,_,z⟩
  ·exact hi v z
theorem kind_pairs {vs:List Value}{ps:List (Int×Int)}{Q:SortKind→Shared→Prop}(hp:Paired (PairAt s.heap) vs ps)(h2:0<vs.length)(h:Q (tuples' true) s):wpAny (model prog w) A (keyKind' vs.toArray) Q E s:=by
 obtain⟨fs,k,hl,hi⟩:=tups_of hp
 refine kat_kind (T:=.type "int") k (by omega) (fun v hv=>?_) (by decide) h
 obtain⟨i,t,rfl⟩:=hi v hv
 exact .now
theorem paired_getD {α β:Type}{F:α→β→Prop}{d:α}{e:β}:∀ {l:List α}{m:List β},Paired F l m→∀ i,i<l.length→F (l.getD i d) (m.getD i e)
 | _::_,_::_,.cons h _,0,_=>h
 | _::l,_::m,.cons _ r,i+1,hi=>paired_getD r i (by simpa using hi)
def Sorted (vs:List Value)(ps:List (Int×Int))(out:List Value):Prop:=∃ ix:List Nat,ix.Perm (List.range vs.length)∧out=ix.map (fun i=>vs.getD i Value.none)∧(ix.map fun i=>ps.getD i (0,0)).Pairwise (fun a b=>ltP a b=true)
theorem run_pairs {vs:List Value}{ps:List (Int×Int)}{Q:SortSt→Shared→Prop}(hp:Paired (PairAt s.heap) vs ps)(nd:ps.Nodup)(h2:2≤vs.length)(h64:vs.length<64)
  (h:∀ st':SortSt,failedOf st'=none→(∃ out:List Value,(arrOf st').map (·.2)=out.toArray∧Sorted vs ps out)→Q st' s) :
  wpAny (model prog w) A ((sortRuns').run (SortSt.mk' (tuples' true) (vs.toArray.zip vs.toArray) #[] 7 none)) (fun r s'=>Q r.2 s') E s:=by
 have hl:vs.length=ps.length:=Paired.length hp
 have L:=lin_of nd
 rw[←hl]at L
 obtain⟨ok,P,hs⟩:=run_sort L h2
 refine kat_run (G:=fun p s'=>p=ask (ltIx ps) (kas_sort vs.length)∧s'=s) rfl h2 h64 (fun p st' s' hsz har hf hg=>?_) ?_
 ·obtain⟨e1,e2⟩:=hg
  subst e2
  rw[←e1]at P hs
  refine h st' hf ⟨_,kat_snds rfl har,p.toList,?_,rfl,?_⟩
  ·have:=Array.perm_iff_toList_perm.mp P
   simpa using this
  ·rw[List.pairwise_map,List.pairwise_iff_getElem]
   intro i j hi hj hij
   have hj':j<p.size:=by simpa using hj
   have hi':i<p.size:=by simpa using hi
   have:=hs i j hij (by rw[←hsz];exact hj')
   have e3:p.getD i 0=p.toList[i]:=by simp[Array.getD,hi']
   have e4:p.getD j 0=p.toList[j]:=by simp[Array.getD,hj']
   rw[e3,e4]at this
   exact this
 ·refine kas_of (I:=fun s'=>s'=s) (lt:=ltIx ps) (n:=vs.length) (fun i j hi hj C s' hs' hC=>?_) _ s ok rfl fun s' hs'=>⟨rfl,hs'⟩
  subst hs'
  show wpAny (model prog w) A (keyLt' (tuples' true) (vs.getD i Value.none) (vs.getD j Value.none)) C _ s'
  exact lt_pair (paired_getD hp i hi) (paired_getD hp j hj) (hC _ rfl)
end
end Qs
namespace Qs
open PySem PySem.W PyProof.Rows
section
variable {prog:Program}{w:World}{A:Around}{E:Value→Shared→Prop}{s:Shared}
theorem sort_pairs {a:Addr}{vs:List Value}{ps:List (Int×Int)}{n:Nat}{P:Fin→Shared→Prop}(ho:s.heap.get? a=some (seqObj "list" vs.toArray n))(hp:Paired (PairAt s.heap) vs ps)(nd:ps.Nodup)(h64:vs.length<64)
  (h:∀ out:List Value,Sorted vs ps out→P (.done (.ret .none)) { s with heap:=sortedHeap s.heap a vs out.toArray }):wpAny (model prog w) A (Builtin.«list.sort» ⟨[.ref a],[]⟩) P E s:=by
 have ha:a<s.heap.objs.size:=Heap.lt_size ho
 have hl:vs.length=ps.length:=Paired.length hp
 obtain⟨e1,ho1⟩:∃ e1,(s.heap.update a (Obj.mapSeq fun _=>#[])).get? a=some (seqObj "list" #[] e1):=⟨_,get?_update_seq ho (fun _=>#[])⟩
 have ho6:(((s.heap.update a (Obj.mapSeq fun _=>#[])).push (seqObj "tuple" vs.toArray 0)).push (seqObj "list" #[] 0)).get? a=some (seqObj "list" #[] e1):=by
  rw[Heap.get?_push_ne _ _ _ (by rw[size_push',Heap.size_update];exact Nat.ne_of_lt (Nat.lt_succ_of_lt ha)),Heap.get?_push_ne _ _ _ (by rw[Heap.size_update];exact Nat.ne_of_lt ha)];exact ho1
 have sz:vs.toArray.size≤sizeLine:=by rw[List.size_toArray,sizeLine_eq];omega
 rw[list_sort_plain]
 refine wpAny_bind (listItems_at ho rfl (wpAny_bind (listUpdate_at ho rfl ?_ sz (Nat.zero_le _))))
 refine wpAny_bind (seqEpoch_at ho1 rfl (wpAny_bind (wpAny_newTuple ?_ (by show vs.length≤_;rw[sizeLine_eq];omega))))
 refine wpAny_bind (wpAny_newList (wpAny_holding ?_) (Nat.zero_le _))
 show wpAny (model prog w) A _ P E { s with heap:=((s.heap.update a (Obj.mapSeq fun _=>#[])).push (seqObj "tuple" vs.toArray 0)).push (seqObj "list" #[] 0) }
 dsimp only
 by_cases h2:vs.toArray.size<2
 ·rw[if_pos h2,if_pos h2]
  refine wpAny_bind (wpAny_pure ?_);rw[StateT.run_pure];refine wpAny_bind (wpAny_pure ?_);dsimp only
  have e:((vs.toArray.zip vs.toArray).map (·.2))=vs.toArray:=by
   apply Array.ext';simp[List.map_snd_zip]
  refine wpAny_bind (seqEpoch_at ho6 rfl (wpAny_bind (listUpdate_at ho6 rfl ?_ (Nat.zero_le _) ?_)))
  ·simp only[bne_self_eq_false,Bool.false_eq_true,if_false]
   refine wpAny_pure ?_
   show P _ { s with heap:=(((s.heap.update a _).push _).push _).update a (Obj.mapSeq fun _=>(vs.toArray.zip vs.toArray).map (·.2)) }
   rw[e]
   refine h vs ⟨List.range vs.length,List.Perm.refl _,?_,?_⟩
   ·apply List.ext_getElem?
    intro i
    rw[List.getElem?_map]
    by_cases hi:i<vs.length
    ·rw[List.getElem?_range hi];simp[hi]
    ·rw[List.getElem?_eq_none (by omega),List.getElem?_eq_none (by simp;omega)];rfl
   ·have hv:vs.length<2:=by simpa using h2
    rw[List.pairwise_map,List.pairwise_iff_getElem]
    intro i j hi hj hij
    rw[List.length_range]at hi hj
    omega
  ·show ((vs.toArray.zip vs.toArray).map (·.2)).size≤_
   rw[e];omega
 ·rw[if_neg h2,if_neg h2]
  have h2':2≤vs.length:=by rw[List.size_toArray]at h2;omega
  have hp':Paired (PairAt (((s.heap.update a (Obj.mapSeq fun _=>#[])).push (seqObj "tuple" vs.toArray 0)).push (seqObj "list" #[] 0))) vs ps:=L2.Paired.mapP hp fun v q ⟨b,o,m,t,u,ev,hb,hc,hd⟩=>by
   refine⟨b,o,m,t,u,ev,?_,hc,hd⟩
   have nb:b≠a:=fun z=>by
    rw[z,ho]at hb
    cases hb
    exact absurd hc (by show ¬ (Value.type "list" = .type "tuple");decide)
   have hlt:=Heap.lt_size hb
   rw[Heap.get?_push_ne _ _ _ (by rw[size_push',Heap.size_update];exact Nat.ne_of_lt (Nat.lt_succ_of_lt hlt)),Heap.get?_push_ne _ _ _ (by rw[Heap.size_update];exact Nat.ne_of_lt hlt),Heap.get?_update_ne _ _ _ _ nb]
   exact hb
  refine wpAny_bind (kind_pairs (s:={ s with heap:=((s.heap.update a (Obj.mapSeq fun _=>#[])).push (seqObj "tuple" vs.toArray 0)).push (seqObj "list" #[] 0) }) hp' (by omega) ?_)
  refine wpAny_bind (run_pairs (Q:=fun st' s'=>failedOf st'=none∧(∃ out:List Value,(arrOf st').map (·.2)=out.toArray∧Sorted vs ps out)∧s'={ s with heap:=((s.heap.update a (Obj.mapSeq fun _=>#[])).push (seqObj "tuple" vs.toArray 0)).push (seqObj "list" #[] 0) }) hp' nd h2' h64 (fun st' hf ho=>⟨hf,ho,rfl⟩) |> fun q=>wpAny_mono q (fun r s' hr=>?_) fun _ _ x=>x)
  obtain⟨⟨⟩,st'⟩:=r
  obtain⟨hf,⟨out,hout,so⟩,rfl⟩:=hr
  dsimp only at hf hout ⊢
  have hol:out.length=vs.length:=by
   obtain⟨ix,hx,rfl,_⟩:=so
   rw[List.length_map,hx.length_eq,List.length_range]
  rw[hout]
  refine wpAny_bind (seqEpoch_at ho6 rfl (wpAny_bind (listUpdate_at ho6 rfl ?_ (Nat.zero_le _) (by show out.toArray.size≤_;rw[List.size_toArray,hol,sizeLine_eq];omega))))
  rw[hf]
  simp only[bne_self_eq_false,Bool.false_eq_true,if_false]
  exact wpAny_pure (h out so)
end
end Qs
namespace Qs
open PySem PySem.W PyProof.Rows
def RawAt (h:Heap)(d:Addr)(es:Array DictEntry)(ep:Nat):Prop:=∃ o,h.get? d=some o∧o.ExactDict∧o.data=.dict es ep
section
variable {prog:Program}{w:World}{A:Around}{E:Value→Shared→Prop}{s:Shared}{d it:Addr}{es:Array DictEntry}{ep i:Nat}
theorem RawAt.typeIs (h:RawAt s.heap d es ep):s.TypeIs (.ref d) "dict":=let ⟨o,ho,hc,_⟩:=h;⟨o,ho,hc.1⟩
theorem RawAt.lt {h:Heap}(x:RawAt h d es ep):d<h.objs.size:=let ⟨_,ho,_⟩:=x;Heap.lt_size ho
theorem RawAt.at {h h':Heap}(x:RawAt h d es ep)(e:∀ o,h.get? d=some o→h'.get? d=some o):RawAt h' d es ep:=let ⟨o,ho,r⟩:=x;⟨o,e _ ho,r⟩
theorem raw_iter {Q:Value→Shared→Prop}(lo:(d == sysModules)=false)(hm:RawAt s.heap d es ep)
  (hQ:Q (.ref s.heap.objs.size) { s with heap:=s.heap.push { cls:=.type "dict_keyiterator",data:=.fields #[.ref d,.int 0 0,.int es.size 0,.int ep 0] } }):wpAny (model prog w) A (pyIter (.ref d)) Q E s:=by
 have hT:=hm.typeIs
 obtain⟨o,ho,hc,hdat⟩:=hm
 refine wpAny_pyIter_slot hT F.slot_dict_iter (wpAny_call_entry F.slot_dict_iter hT F.entry_dict_iter ?go (F.args_dict_iter_1 _))
 case go =>
  unfold Builtin.«dict.__iter__»;refine wpAny_bind ?_;unfold Builtin.Dict.dictSlotNone
  refine wpAny_bind (wpAny_notOrdered_dict hT (?_:wpAny (model prog w) A.in1 (pure (Value.ref d)) _ _ s));refine wpAny_pure ?_
  show wpAny _ _ (Builtin.Dict.showsAll d >>= _) _ _ s;unfold Builtin.Dict.showsAll;rw[if_neg (by rw[lo];simp)]
  refine wpAny_bind (wpAny_pure (wpAny_bind (wpAny_dictEntries ho hdat (wpAny_bind (wpAny_dictEpoch ho hdat ?_)))))
  refine wpAny_bind (wpAny_newObj_type (wpAny_pure ⟨_,rfl,"dict_keyiterator",_,⟨_,Heap.get?_push_size _ rfl,rfl⟩,F.slot_dict_keyiterator_next.lookup,?_⟩));simpa [rawInt] using hQ
theorem raw_item {Q:Option Value→Shared→Prop}{e:DictEntry}(hit:s.heap.IsKeyIter it d i es.size ep)(hm:RawAt s.heap d es ep)(hx:es[i]? = some e)
  (hQ:∀ h',h'.IsKeyIter it d (i+1) es.size ep→Heap.SameBut it s.heap h'→Q (some e.key) { s with heap:=h' }):wpAny (model prog w) A (pyNext (.ref it)) Q E s:=by
 obtain⟨o,ho,hc,hd⟩:=id hit
 obtain⟨od,hod,hcd,hdd⟩:=id hm
 have hlt:i<es.size:=by
  by_cases h:i<es.size
  ·exact h
  ·rw[Array.getElem?_eq_none (by omega)]at hx;cases hx
 have he:es[i]=e:=by rw[Array.getElem?_eq_getElem hlt]at hx;exact Option.some.inj hx
 unfold pyNext
 refine wpAny_bind (wpAny_attempt (wpAny_callSpecial?_slot (name:=Str.ofString "__next__") hit.typeIs F.slot_dict_keyiterator_next (wpAny_call_entry F.slot_dict_keyiterator_next hit.typeIs F.entry_dict_keyiterator_next ?go (F.args_dict_keyiterator_next_1 _))))
 case go =>
  refine wpAny_bind (wpAny_pure (wpAny_bind (wpAny_bind ?_)))
  first | refine wpAny_bind (wpAny_typeNameOfWhole_keyiter hit.typeIs (wpAny_pure (wpAny_bind (wpAny_fieldsOf ho hd ?_)))) | refine wpAny_bind (wpAny_typeNameOf_keyiter hit.typeIs (wpAny_pure (wpAny_bind (wpAny_fieldsOf ho hd ?_))))
  simp only[show Builtin.Dict_items.ownsTuple "dict_keyiterator" = false by decide,Bool.false_eq_true,if_false]
  show wpAny _ _ (if (Value.ref d == Value.none)=true then _ else _) _ _ s;rw[if_neg (show ¬ ((Value.ref d == Value.none)=true) from Bool.false_ne_true)]
  refine wpAny_bind (wpAny_pure (wpAny_bind (wpAny_dictEntries hod hdd ?_)));rw[if_neg (by simp)]
  refine wpAny_bind (wpAny_pure (wpAny_bind (wpAny_dictEpoch hod hdd ?_)));rw[if_neg (by simp)];refine wpAny_pure ?_
  simp only[show ¬ ((i:Int)<0) from by omega,if_false,Int.toNat_natCast,Array.getElem?_eq_getElem hlt];refine wpAny_bind ?_
  first | refine wpAny_bind (wpAny_typeNameOfWhole_keyiter hit.typeIs (wpAny_pure (wpAny_bind (wpAny_isOneOf_keyiter hit.typeIs ?_)))) | refine wpAny_bind (wpAny_typeNameOf_keyiter hit.typeIs (wpAny_pure (wpAny_bind (wpAny_isOneOf_keyiter hit.typeIs ?_)))) | (first | refine wpAny_bind (wpAny_typeNameOfWhole_keyiter hit.typeIs (wpAny_pure ?_)) | refine wpAny_bind (wpAny_typeNameOf_keyiter hit.typeIs (wpAny_pure ?_));refine wpAny_bind (wpAny_isOneOf_keyiter hit.typeIs ?_))
  show wpAny _ _ (setField (.ref it) 1 (rawInt ((i:Int)+1)) >>= _) _ _ s;refine wpAny_bind (wpAny_setField ho hd (by simp) ?_)
  have hit':(s.heap.update it (Obj.mapFields (·.setIfInBounds 1 (rawInt ((i:Int)+1))))).IsKeyIter it d (i+1) es.size ep:=⟨_,Heap.get?_update_self _ ho (Obj.isFreed_of_fields (Obj.data_mapFields hd _)),(Obj.cls_mapFields ..).trans hc,by rw[Obj.data_mapFields hd];simp[rawInt]⟩
  refine wpAny_bind (wpAny_holding (wpAny_bind (wpAny_isOneOf_keyiter (s:={ s with heap:=s.heap.update it (Obj.mapFields (·.setIfInBounds 1 (rawInt ((i:Int)+1)))) }) hit'.typeIs ?_)))
  show wpAny _ _ (pure es[i].key) _ _ _;rw[he];exact wpAny_pure (wpAny_pure ⟨_,rfl,wpAny_pure (hQ _ hit' (Heap.SameBut.update ..))⟩)
theorem raw_end {Q:Option Value→Shared→Prop}(hh:A.handled=none)(hit:s.heap.IsKeyIter it d i es.size ep)(hm:RawAt s.heap d es ep)(hx:es.size≤i)
  (hQ:∀ h',Heap.ExtBut it s.heap h'→Q none { s with heap:=h' }):wpAny (model prog w) A (pyNext (.ref it)) Q E s:=by
 obtain⟨o,ho,hc,hd⟩:=id hit
 obtain⟨od,hod,hcd,hdd⟩:=id hm
 unfold pyNext
 refine wpAny_bind (wpAny_attempt (wpAny_callSpecial?_slot (name:=Str.ofString "__next__") hit.typeIs F.slot_dict_keyiterator_next (wpAny_call_entry F.slot_dict_keyiterator_next hit.typeIs F.entry_dict_keyiterator_next ?go (F.args_dict_keyiterator_next_1 _))))
 case go =>
  refine wpAny_bind (wpAny_pure (wpAny_bind (wpAny_bind ?_)))
  first | refine wpAny_bind (wpAny_typeNameOfWhole_keyiter hit.typeIs (wpAny_pure (wpAny_bind (wpAny_fieldsOf ho hd ?_)))) | refine wpAny_bind (wpAny_typeNameOf_keyiter hit.typeIs (wpAny_pure (wpAny_bind (wpAny_fieldsOf ho hd ?_))))
  simp only[show Builtin.Dict_items.ownsTuple "dict_keyiterator" = false by decide,Bool.false_eq_true,if_false]
  show wpAny _ _ (if (Value.ref d == Value.none)=true then _ else _) _ _ s;rw[if_neg (show ¬ ((Value.ref d == Value.none)=true) from Bool.false_ne_true)]
  refine wpAny_bind (wpAny_pure (wpAny_bind (wpAny_dictEntries hod hdd ?_)));rw[if_neg (by simp)]
  refine wpAny_bind (wpAny_pure (wpAny_bind (wpAny_dictEpoch hod hdd ?_)));rw[if_neg (by simp)];refine wpAny_pure ?_
  simp only[show ¬ ((i:Int)<0) from by omega,if_false,Int.toNat_natCast,Array.getElem?_eq_none hx];refine wpAny_bind ?_
  first | refine wpAny_bind (wpAny_typeNameOfWhole_keyiter hit.typeIs (wpAny_pure ?_)) | refine wpAny_bind (wpAny_typeNameOf_keyiter hit.typeIs (wpAny_pure ?_))
  show wpAny _ _ (setField (.ref it) 0 .none >>= _) _ _ s;refine wpAny_bind (wpAny_setField ho hd (by simp) ?_)
  show wpAny _ _ (newExc (.type "StopIteration") [] >>= _) _ _ _;refine wpAny_bind ?_;simp only[newExc,newTuple]
  refine wpAny_bind (wpAny_newObj_type ?_ (by size_fits));refine wpAny_bind (m:=firstArgMember _ _) (wpAny_of_eq (a:=Value.none) (by first | rfl | (simp only[firstArgMember];rfl)) ?_)
  refine wpAny_newObj_type ?_ (by size_fits);simp only[raiseNew];refine wpAny_bind (wpAny_handled ?_);rw[show A.in1.handled=none from hh]
  refine wpAny_bind (wpAny_pure (wpAny_throw ?_));refine wpAny_bind (wpAny_isInstance (T:="StopIteration") (b:=true) ⟨_,Heap.get?_push_size _ rfl,rfl⟩ isSubtype_stop ?_)
  exact wpAny_pure (hQ _ (((Heap.SameBut.update ..).extBut.push _).push _))
end
theorem raw_walks {prog:Program}{w:World}{A:Around}(hh:A.handled=none)(I d:Addr)(hne:d≠I)(es:Array DictEntry)(ep:Nat) :
  Walks prog w A I [I,d] [I] es.size (fun i v=>∃ e,es[i]? = some e∧v=e.key) (fun i h=>h.IsKeyIter I d i es.size ep∧RawAt h d es ep) where
 sub:=fun b hb=>by simp at hb;simp[hb]
 frame:=fun _ _ _ st hk=>⟨st.1.at fun o e=>hk I (by simp) o e,st.2.at fun o e=>hk d (by simp) o e⟩
 item:=fun i s Q E hi st hQ=>raw_item st.1 st.2 (Array.getElem?_eq_getElem hi) fun h' hit' hs'=>hQ _ h' s.toks ⟨_,Array.getElem?_eq_getElem hi,rfl⟩ ⟨hit',st.2.at fun o e=>hs'.extBut d o hne e⟩ fun b o hb e=>hs'.extBut b o (fun h=>hb (by simp[h])) e
 done:=fun s Q E st hQ=>raw_end hh st.1 st.2 (Nat.le_refl _) fun h' he'=>hQ h' s.toks fun b o hb e=>he' b o (fun h=>hb (by simp[h])) e
 self:=fun _ _ _ _ st hQ=>wpAny_pyIter_keyiter st.1 hQ
theorem raw_src {prog:Program}{w:World}{d:Addr}{es:Array DictEntry}{ep:Nat}(lo:(d == sysModules)=false):KdlSrc prog w "dict" d d es.size (fun i v=>∃ e,es[i]? = some e∧v=e.key) (fun h=>RawAt h d es ep) where
 type:=fun _ hm=>hm.typeIs
 there:=fun _ hm=>⟨hm.lt,hm.lt⟩
 keep:=fun _ _ hm hk=>hm.at fun o e=>hk d (.inl rfl) o e
 notList:=by decide
 notTuple:=by decide
 hint:=fun _ _ _ _ hm hq=>kdl_hint_dict hm.typeIs hq
 iter:=fun _ _ hh hm=>⟨_,_,(fun _ _ hq=>raw_iter lo hm hq),raw_walks hh _ d (Nat.ne_of_lt hm.lt) es ep,⟨⟨_,Heap.get?_push_size _ rfl,rfl,rfl⟩,hm.at fun o e=>Heap.get?_push_of_some _ e⟩⟩
end Qs
namespace Wz
open PySem PySem.Spec PyProof.Rows L2
theorem paired_mapL {α β γ:Type}{F:β→γ→Prop}{f:α→β}{g:α→γ}:∀ (l:List α),(∀ x∈l,F (f x) (g x))→Paired F (l.map f) (l.map g)
 | [],_=>.nil
 | x::l,h=>.cons (h x List.mem_cons_self) (paired_mapL l fun y hy=>h y (List.mem_cons_of_mem _ hy))
theorem getD_range {α:Type}(d:α)(l:List α):(List.range l.length).map (fun i=>l.getD i d)=l:=by
 apply List.ext_getElem?
 intro i
 rw[List.getElem?_map]
 by_cases hi:i<l.length
 ·rw[List.getElem?_range hi];simp[hi]
 ·rw[List.getElem?_eq_none (by simp;omega),List.getElem?_eq_none (by omega)];rfl
theorem call_sortedT {X:Cx}(hc:X.calm=true):CallR X (.builtin "sorted") (fun xs H Q=>∃ (p:Addr)(ml:List (Int×Int)),xs=[.ref p]∧H p=some (.dT (mtK ml))∧ml.Nodup∧ml.length<64 ∧
  ∀ (l:Addr)(qs:List (Int×Int))(H':Hp),H l=none→Same H H'→RowAt H' l qs→qs.Perm ml→qs.Pairwise (fun a b=>Qs.ltP a b=true)→Q (.ref l) H'):=by
 intro pins s σ H xs us Q I r h
 obtain⟨p,ml,rfl,hH,nd,h64,q⟩:=h
 obtain⟨u,rfl,rx⟩:=vals1 r
 cases rx
 obtain⟨hz,lo,ks,rel,o,es,ep,ho,hex,hd,hes,hnd⟩:=(show ObjOk X.prog X.w H s.heap p (.dT (mtK ml)) from I.hok p _ hH)
 have raw:Qs.RawAt s.heap p es ep:=⟨o,ho,hex,hd⟩
 have l1:ks.length=ml.length:=by
  have:=Paired.length rel
  unfold mtK at this
  rw[List.length_map]at this
  exact this.symm
 have l2:es.size=ml.length:=by
  have:=congrArg List.length hes
  rw[List.length_map,Array.length_toList]at this
  omega
 have tup:∀ i,i<ml.length→H ((ks.map fun x=>x.2.1).getD i 0)=some (.tup [.int (ml.getD i (0,0)).1,.int (ml.getD i (0,0)).2]):=fun i hi=>by
  have hk:ks[i]? = some (ks[i]'(by omega)):=by simp[show i<ks.length by omega]
  have hm:(mtK ml)[i]? = some ([Sum.inl (ml[i]).1,Sum.inl (ml[i]).2],V.bl true):=by unfold mtK;rw[List.getElem?_map];simp[hi]
  obtain⟨b,hb,e1,e2,e3⟩:=paired_get rel hm
  rw[hk]at hb
  cases hb
  have e4:(ks.map fun x=>x.2.1).getD i 0=(ks[i]'(by omega)).2.1:=by simp[show i<ks.length by omega]
  have e5:ml.getD i (0,0)=ml[i]:=by simp[hi]
  rw[e4,e5,e2]
  rfl
 refine PySem.Calls.call_function_entry kind_sorted plain_sorted entry_sorted (args_sorted1 _) ?_
 unfold Builtin.«sorted»
 refine wpAny_bind (m:=checkCount "sorted" 1 1 _) (wpAny_pure (wpAny_bind (PySem.W.kdu_collect (A:=X.A.in1) (Qs.raw_src lo) (I.ok.hd hc) raw (by rw[l2,sizeLine_eq];omega) fun h' tk acc kp hacc=>?_)))
 have I1:Inv X pins σ H { s with heap:=h',toks:=tk }:=I.kept kp
 have al:acc.toList.length=ml.length:=by rw[Array.length_toList,hacc.1,l2]
 have ea:acc.toList=(ks.map fun x=>x.2.1).map Value.ref:=by
  apply List.ext_getElem?
  intro i
  by_cases hi:i<ml.length
  ·have hv:acc.toList[i]? = some (acc.toList[i]'(by omega)):=by simp[show i<acc.size by rw[hacc.1,l2];exact hi]
   obtain⟨e,he,hk⟩:=hacc.2 i _ (by rw[←Array.getElem?_toList];exact hv)
   rw[hv,hk,List.getElem?_map,List.getElem?_map]
   have:es.toList[i]? = some e:=by rw[Array.getElem?_toList];exact he
   rw[hes,List.getElem?_map]at this
   cases ek:ks[i]? with
   | none=>rw[ek]at this;cases this
   | some x =>
    rw[ek]at this
    have e2:=Option.some.inj this
    rw[←e2]
    rfl
  ·rw[List.getElem?_eq_none (by omega),List.getElem?_eq_none (by simp;omega)]
 have pa:Paired (Qs.PairAt h') acc.toList ml:=by
  rw[ea,←getD_range (0,0) ml,←getD_range 0 (ks.map fun x=>x.2.1),List.length_map,l1,List.map_map]
  refine paired_mapL _ fun i hi=>?_
  have hi:i<ml.length:=by simpa using hi
  obtain⟨_,its,rv,ob,hob,hcl,n,hdt⟩:=(show ObjOk X.prog X.w H h' _ (.tup _) from I1.hok _ _ (tup i hi))
  cases rv with
  | cons r1 r2 =>
   cases r2 with
   | cons r3 r4 =>
    cases r4
    obtain⟨t,rfl⟩:=r1
    obtain⟨t',rfl⟩:=r3
    exact⟨_,ob,n,t,t',rfl,hob,hcl,hdt⟩
 refine wpAny_bind (wpAny_newList ?_ (by rw[al,sizeLine_eq];omega))
 have hoL:(h'.push (seqObj "list" acc.toList.toArray 0)).get? h'.objs.size=some (seqObj "list" acc.toList.toArray 0):=Heap.get?_push_size _ rfl
 have pa2:Paired (Qs.PairAt (h'.push (seqObj "list" acc.toList.toArray 0))) acc.toList ml:=Paired.mapP pa fun v x ⟨b,ob,n,t,t',e,hb,hc',hd'⟩=>⟨b,ob,n,t,t',e,Heap.get?_push_of_some _ hb,hc',hd'⟩
 refine wpAny_bind (wpAny_holding (wpAny_call_entry slot_list_sort ⟨_,hoL,rfl⟩ entry_list_sort (Qs.sort_pairs hoL pa2 nd (by rw[al];exact h64) fun out so=>⟨_,rfl,?_⟩) (args_list_sort _)))
 refine wpAny_pure ⟨_,rfl,?_⟩
 obtain⟨ix,hx,hout,hso⟩:=so
 rw[al]at hx
 have hin:∀ i∈ix,i<ml.length:=fun i hi=>by have:=hx.mem_iff.mp hi;simpa using this
 have eo:out=(ix.map fun i=>(ks.map fun x=>x.2.1).getD i 0).map Value.ref:=by
  rw[hout,List.map_map]
  refine List.map_congr_left fun i hi=>?_
  have:=hin i hi
  rw[ea]
  show ((ks.map fun x=>x.2.1).map Value.ref).getD i Value.none=Value.ref ((ks.map fun x=>x.2.1).getD i 0)
  simp[show i<ks.length by omega]
 obtain⟨e,he⟩:=sortedHeap_at (vs:=acc.toList) (out:=out.toArray) hoL
 have hl2:out.length=ml.length:=by rw[eo,List.length_map,List.length_map,hx.length_eq,List.length_range]
 have vr:∀ l:List Addr,Vals (l.map V.ref) (l.map Value.ref):=fun l=>by
  induction l with
  | nil=>exact .nil
  | cons a l ih=>exact .cons rfl ih
 have fr:=I1.hok.fresh (Nat.le_refl h'.objs.size)
 refine⟨.ref h'.objs.size,_,I1.laid (t':=tk) (a:=h'.objs.size) (o:=.lst ((ix.map fun i=>(ks.map fun x=>x.2.1).getD i 0).map V.ref)) (fun b ob eb=>?_) (Nat.le_refl _) ⟨?_,out,e,?_,by simpa using he⟩,rfl,?_⟩
 ·rw[sortedHeap_old (Nat.ne_of_lt (Heap.lt_size eb)) (by rw[size_push'];exact Nat.lt_succ_of_lt (Heap.lt_size eb))]
  exact Heap.get?_push_of_some _ eb
 ·rw[List.length_map,List.length_map,hx.length_eq,List.length_range,sizeLine_eq];omega
 ·rw[eo];exact vr _
 ·refine q h'.objs.size (ix.map fun i=>ml.getD i (0,0)) _ fr (same_new fr) ⟨_,upd_same,?_⟩ ?_ hso
  ·refine paired_mapL ix fun i hi=>(same_new fr) _ _ (tup i (hin i hi))
  ·have:=hx.map fun i=>ml.getD i (0,0)
   rwa [getD_range]at this
end Wz
namespace L2
open PySem PySem.Spec PyProof.Rows
theorem Inv.thaw {X:Cx}{pins:List (Addr×Obj)}{σ:St}{H:Hp}{s:Shared}{d:Addr}{o:Obj}{u:HO}(I:Inv X pins σ H s)(hd:H d=some (.frz o u))(h0:∀ o' u',X.H₀ d≠some (.frz o' u')):Inv X pins σ (upd H d u) s:=by
 have up:∀ b,upd H d u b=none→H b=none:=fun b e=>by
  by_cases hb:b=d
  ·rw[hb,upd_same]at e;cases e
  ·rw[upd_ne hb]at e;exact e
 have dn:∀ b,H b=none→upd H d u b=none:=fun b e=>by rw[upd_ne (fun z=>by rw[z,hd]at e;cases e)];exact e
 have ne:∀ b v,H b=some v→(∀ o' u',v≠.frz o' u')→b≠d:=fun b v e n z=>by rw[z,hd]at e;exact n _ _ (Option.some.inj e).symm
 refine⟨I.ok,I.os,I.bare,⟨I.base.keep,I.base.slot,fun b ob e n hx=>dn _ (I.base.free b ob e n hx),I.base.there,fun b xs e=>?_,fun b ob v e=>?_,fun b ps e=>?_⟩,I.loc,I.cell,dn _ I.free,fun x c e=>dn _ (I.freeC x c e),fun p hp=>?_,fun b ob e=>?_,I.len⟩
 ·have e1:=I.base.tups b xs e
  rw[upd_ne (ne b _ e1 (fun _ _ z=>by cases z))];exact e1
 ·have nb:b≠d:=fun z=>h0 ob v (by rw[←z];exact e)
  rw[upd_ne nb];exact I.base.frzs b ob v e
 ·obtain⟨more,e1⟩:=I.base.tbls b ps e
  exact⟨more,by rw[upd_ne (ne b _ e1 (fun _ _ z=>by cases z))];exact e1⟩
 ·obtain⟨a1,a2,a3⟩:=I.pin p hp
  exact⟨a1,dn _ a2,a3⟩
 ·have tr:∀ v,ObjOk X.prog X.w H s.heap b v→ObjOk X.prog X.w (upd H d u) s.heap b v:=fun v x=>x.stay (fun c w' hc q=>q) (fun c q=>(by rw[upd_ne (ne c _ q (fun _ _ z=>by cases z))];exact q)) (fun c y q=>(by rw[upd_ne (ne c _ q (fun _ _ z=>by cases z))];exact q))
  by_cases hb:b=d
  ·rw[hb,upd_same]at e
   cases e
   obtain⟨_,x⟩:=(show ObjOk X.prog X.w H s.heap d (.frz o u) from I.hok d _ hd)
   rw[hb]
   rw[hb]at tr
   exact tr u x
  ·rw[upd_ne hb]at e
   exact tr ob (I.hok b ob e)
def thawN (H0:Hp)(nx:St→Hp→Prop):St→Hp→Prop:=fun σ H=>∃ d o u,H d=some (.frz o u)∧(∀ o' u',H0 d≠some (.frz o' u'))∧nx σ (upd H d u)
theorem ps_thaw {X:Cx}{st:Stmt}{t:TS}(h:PS X st t):PS X st (fun D σ H=>t { D with nx:=thawN X.H₀ D.nx } σ H):=by
 intro pins s σ H D I ht
 refine thn (h pins s σ H _ I ht) fun f s' hq=>?_
 cases f with
 | next=>obtain⟨σ',H',I',d,o,u,hd,h0,q⟩:=hq;exact⟨σ',_,I'.thaw hd h0,q⟩
 | brk=>exact hq
 | cont=>exact hq
 | ret v=>exact hq
end L2
namespace Wz
open PySem L2
structure Cir (L:List Int)(st:HSt):Prop where
 kn:(st.circ.map (·.1)).Nodup
 kl:∀ x∈st.circ,x.1∈L∧x.2.Nodup∧∀ b∈x.2,b∈L
theorem cir0 {L:List Int}:Cir L ⟨[],[],[],[]⟩:=⟨List.nodup_nil,fun x h=>by cases h⟩
theorem addK_ok {L ks:List Int}{b:Int}(h:ks.Nodup∧∀ x∈ks,x∈L)(hb:b∈L):(addK ks b).Nodup∧∀ x∈addK ks b,x∈L:=by
 unfold addK
 split
 ·exact h
 ·rename_i n
  refine⟨nd_snoc h.1 n,fun x hx=>?_⟩
  rcases List.mem_append.mp hx with z | z
  ·exact h.2 x z
  ·rw[List.mem_singleton.mp z];exact hb
theorem addC_ok {L:List Int}{a b:Int}(ha:a∈L)(hb:b∈L):∀ {ci:List (Int×List Int)},(ci.map (·.1)).Nodup→(∀ x∈ci,x.1∈L∧x.2.Nodup∧∀ y∈x.2,y∈L) →
  ((addC ci a b).map (·.1)).Nodup∧(∀ x∈addC ci a b,x.1∈L∧x.2.Nodup∧∀ y∈x.2,y∈L)∧∀ k,k∈(addC ci a b).map (·.1)→k∈ci.map (·.1)∨k=a
 | [],_,_=>by
  refine⟨by simp[addC],fun x hx=>?_,fun k hk=>?_⟩
  ·simp[addC]at hx
   subst hx
   exact⟨ha,by simp,fun y hy=>by simp at hy;rw[hy];exact hb⟩
  ·simp[addC]at hk
   exact .inr hk
 | x::r,hn,hl=>by
  rw[List.map_cons,List.nodup_cons]at hn
  unfold addC
  by_cases h:x.1=a
  ·rw[if_pos h]
   refine⟨by rw[List.map_cons,List.nodup_cons];exact hn,fun y hy=>?_,fun k hk=>.inl (by simpa using hk)⟩
   rcases List.mem_cons.mp hy with z | z
   ·subst z
    obtain⟨h1,h2,h3⟩:=hl x List.mem_cons_self
    exact⟨h1,addK_ok ⟨h2,h3⟩ hb⟩
   ·exact hl y (List.mem_cons_of_mem _ z)
  ·rw[if_neg h]
   obtain⟨i1,i2,i3⟩:=addC_ok ha hb (ci:=r) hn.2 (fun y hy=>hl y (List.mem_cons_of_mem _ hy))
   refine⟨?_,fun y hy=>?_,fun k hk=>?_⟩
   ·rw[List.map_cons,List.nodup_cons]
    refine⟨fun z=>?_,i1⟩
    rcases i3 _ z with z | z
    ·exact hn.1 z
    ·exact h z
   ·rcases List.mem_cons.mp hy with z | z
    ·subst z;exact hl _ List.mem_cons_self
    ·exact i2 y z
   ·rw[List.map_cons]at hk
    rcases List.mem_cons.mp hk with z | z
    ·exact .inl (by rw[z];simp)
    ·rcases i3 k z with z | z
     ·exact .inl (List.mem_cons_of_mem _ z)
     ·exact .inr z
theorem cir_next {L:List Int}{st:HSt}{d:Deed}(h:Cir L st)(hn:∀ g∈names d,g∈L):Cir L (nextS st d):=by
 unfold nextS
 split
 ·cases d with
  | come g=>exact⟨h.kn,h.kl⟩
  | go g=>exact⟨h.kn,h.kl⟩
  | exch a b =>
   have ha:=hn a (by simp[names])
   have hb:=hn b (by simp[names])
   obtain⟨j1,j2,_⟩:=addC_ok ha hb h.kn h.kl
   obtain⟨k1,k2,_⟩:=addC_ok hb ha j1 j2
   exact⟨k1,k2⟩
 ·exact h
theorem cOf_ok {L:List Int}{a:Int}:∀ {ci:List (Int×List Int)},(∀ x∈ci,x.1∈L∧x.2.Nodup∧∀ y∈x.2,y∈L)→(cOf ci a).Nodup∧(∀ y∈cOf ci a,y∈L)∧∀ y,y∈cOf ci a→a∈ci.map (·.1)
 | [],_=>⟨List.nodup_nil,(fun y h=>by cases h),fun y h=>by cases h⟩
 | x::r,hl=>by
  unfold cOf
  by_cases h:x.1=a
  ·rw[if_pos h]
   obtain⟨_,h2,h3⟩:=hl x List.mem_cons_self
   exact⟨h2,h3,fun y _=>by rw[←h];simp⟩
  ·rw[if_neg h]
   obtain⟨i1,i2,i3⟩:=cOf_ok (ci:=r) (a:=a) fun y hy=>hl y (List.mem_cons_of_mem _ hy)
   exact⟨i1,i2,fun y hy=>List.mem_cons_of_mem _ (i3 y hy)⟩
theorem Cir.cl {L:List Int}{st:HSt}(h:Cir L st)(a:Int):(cOf st.circ a).length≤L.length:=by obtain⟨h1,h2,_⟩:=cOf_ok (a:=a) h.kl;exact nodup_len h1 h2
theorem Cir.kk {L:List Int}{st:HSt}(h:Cir L st):st.circ.length≤L.length:=by
 have:=nodup_len h.kn (m:=L) fun x hx=>by obtain⟨y,hy,e⟩:=List.mem_map.mp hx;rw[←e];exact (h.kl y hy).1
 rwa [List.length_map]at this
def matesL (ci:List (Int×List Int))(a:Int):List (Int×Int):=((sortI (cOf ci a)).filter fun b=>decide (a<b)).map fun b=>(a,b)
def pairsL (ci:List (Int×List Int)):List (Int×Int):=(sortI (ci.map (·.1))).flatMap (matesL ci)
structure MlOk (ml:List (Int×Int)):Prop where
 nd:ml.Nodup
 lo:∀ p∈ml,p.1<p.2
theorem ml0:MlOk []:=⟨List.nodup_nil,fun p h=>by cases h⟩
theorem ml_next {st:HSt}{ml:List (Int×Int)}(h:MlOk ml)(d:Deed):MlOk (nextM st ml d):=by
 unfold nextM
 split
 ·rename_i hj
  cases d with
  | come g=>exact h
  | go g=>exact h
  | exch a b =>
   have hab:a≠b:=fun e=>by
    subst e
    cases e:look st.worn a with
    | none=>simp[judge,e]at hj
    | some m=>simp[judge,e]at hj
   show MlOk (addM ml (keyP a b))
   unfold addM
   split
   ·exact h
   ·rename_i n
    refine⟨?_,fun p hp=>?_⟩
    ·rw[List.nodup_append]
     exact⟨h.nd,by simp,fun x hx y hy e=>n (by rw[List.mem_singleton.mp hy]at e;rw[←e];exact hx)⟩
    ·rcases List.mem_append.mp hp with z | z
     ·exact h.lo p z
     ·rw[List.mem_singleton.mp z]
      unfold keyP
      split
      ·assumption
      ·show a<b
       omega
 ·exact h
theorem pairs_sorted {L:List Int}{st:HSt}(h:Cir L st):(pairsL st.circ).Pairwise fun a b=>Qs.ltP a b=true:=by
 have ss:∀ l:List Int,l.Nodup→(sortI l).Pairwise (· < ·):=fun l nd=>by
  have h1:=sortI_pair l
  have h2:(sortI l).Nodup:=(sortI_perm l).nodup_iff.mpr nd
  exact (h1.and h2).imp fun {a b} ⟨x,y⟩=>by have:a≠b:=y;omega
 unfold pairsL
 rw[List.pairwise_flatMap]
 refine⟨fun a ha=>?_,(ss _ h.kn).imp fun {a b} hab x hx y hy=>?_⟩
 ·unfold matesL
  rw[List.pairwise_map]
  refine ((ss _ (cOf_ok h.kl).1).filter _).imp fun {x y} hxy=>?_
  unfold Qs.ltP
  exact decide_eq_true (.inr ⟨rfl,hxy⟩)
 ·unfold matesL at hx hy
  obtain⟨x',_,rfl⟩:=List.mem_map.mp hx
  obtain⟨y',_,rfl⟩:=List.mem_map.mp hy
  unfold Qs.ltP
  exact decide_eq_true (.inl hab)
theorem pairs_mem {L:List Int}{st:HSt}{ml:List (Int×Int)}(h:Cir L st)(al:Alike st ml)(ok:MlOk ml)(p:Int×Int):p∈pairsL st.circ↔p∈ml:=by
 obtain⟨a,b⟩:=p
 have hm:b∈cOf st.circ a↔keyP a b∈ml:=by
  have:=al a b
  unfold metC metL at this
  constructor
  ·intro z;rw[decide_eq_true z]at this;exact of_decide_eq_true this.symm
  ·intro z;rw[decide_eq_true z]at this;exact of_decide_eq_true this
 unfold pairsL
 rw[List.mem_flatMap]
 constructor
 ·rintro⟨a',ha',hb⟩
  unfold matesL at hb
  obtain⟨b',hb',e⟩:=List.mem_map.mp hb
  cases e
  obtain⟨h1,h2⟩:=List.mem_filter.mp hb'
  have h2:=of_decide_eq_true h2
  have:=hm.mp (mem_sortI.mp h1)
  unfold keyP at this
  rw[if_neg (by omega)]at this
  exact this
 ·intro hp
  have hlt:=ok.lo _ hp
  have hb:b∈cOf st.circ a:=hm.mpr (by unfold keyP;rw[if_neg (by show ¬ b<a;have:a<b:=hlt;omega)];exact hp)
  refine⟨a,mem_sortI.mpr ((cOf_ok h.kl).2.2 b hb),?_⟩
  unfold matesL
  exact List.mem_map.mpr ⟨b,List.mem_filter.mpr ⟨mem_sortI.mpr hb,decide_eq_true hlt⟩,rfl⟩
theorem pairs_eq {L:List Int}{st:HSt}{ml qs:List (Int×Int)}(h:Cir L st)(al:Alike st ml)(ok:MlOk ml)(hp:qs.Perm ml)(hs:qs.Pairwise fun a b=>Qs.ltP a b=true):pairsL st.circ=qs:=by
 have p1:=pairs_sorted h
 have irr:∀ a b:Int×Int,Qs.ltP a b=true→a≠b:=fun a b z e=>by rw[e,Qs.ltP_irr]at z;cases z
 have nd1:(pairsL st.circ).Nodup:=p1.imp fun {a b} z=>irr a b z
 have nd2:qs.Nodup:=hp.nodup_iff.mpr ok.nd
 have pm:(pairsL st.circ).Perm qs:=(List.perm_ext_iff_of_nodup nd1 nd2).mpr fun x=>by rw[pairs_mem h al ok,hp.mem_iff]
 exact pm.eq_of_pairwise (fun a b _ _ z1 z2=>by have:=Qs.ltP_tr z1 z2;rw[Qs.ltP_irr]at this;cases this) p1 hs
def spPartners (C:Addr):Sp:=fun vs H Q _=>∃ (p:Addr)(A:HA)(st:HSt)(g:Int),vs=[.ref p,.int g]∧HallAt C H p A st∧(cOf st.circ g).length<64∧∀ (l:Addr)(H':Hp),H l=none→Same H H'→H' l=some (.lst ((sortI (cOf st.circ g)).map V.int))→Q (.ref l) H'
def spHPairs (C:Addr):Sp:=fun vs H Q _=>∃ (p:Addr)(A:HA)(st:HSt)(L:List Int),vs=[.ref p]∧HallAt C H p A st∧Cir L st∧L.length<64∧(pairsL st.circ).length≤1000∧∀ (l:Addr)(H':Hp),H l=none→Same H H'→RowAt H' l (pairsL st.circ)→Q (.ref l) H'
end Wz
namespace L2
open PySem PySem.Spec PyProof.Rows
def rIsB (neg:Bool):R2:=fun x y H Q=>∃ a b:Bool,x=.bl a∧y=.bl b∧Q (.bl (if neg then !decide (a=b) else decide (a=b))) H
theorem op_isNotB {X:Cx}:OpR X (compareOp .IsNot) (rIsB true):=by
 intro pins s σ H x y v u Q I rx ry h
 obtain⟨a,b,rfl,rfl,q⟩:=h
 cases rx
 cases ry
 refine wpAny_isNot_plain rfl ⟨.bl _,H,I,?_,q⟩
 cases a<;>cases b<;>rfl
theorem pi_listK {X:Cx}{tg:Expr}(K:PySem.W.Frag){l:Expr}{tl:TE}(hl:PE X l tl)(hK:X.K=K:=by rfl):PI X tg l (iList K tl):=by subst hK;exact pi_list hl
theorem tbc2_yes {wi1:TI}{g1:TG}{tt1:TT}{te:TE}{a:Addr}{D:Ends}{σ:St}{H:Hp}(h:wi1 σ H fun J1 H2=>LoopF J1 g1 (tbC tt1 te a) { nx:=D.nx,rt:=fun _ _=>False } σ H2):tbC2 tYes wi1 g1 tt1 te a D σ H:=by
 unfold tbC2 tYes
 dsimp only
 rw[if_pos rfl]
 exact h
end L2
namespace Wz
open PySem L2
def spStands (c:HX):Sp:=fun vs H Q _=>∃ (p w m ls:Addr)(A:HA)(st:HSt)(ml:List (Int×Int))(L:List Int),vs=[.ref p,.ref w,.ref m,.ref ls]∧HallAt c.C H p A st∧w∉A.fp∧H w=some (.dK (dk st.worn))∧H m=some (.dT (mtK ml))∧DeedsAt H ls st.deeds ∧
 HGood st∧Alike st ml∧Cir L st∧MlOk ml∧L.length<64∧ml.length<64∧st.worn.length<64∧(∀ g∈keysL st.worn,Small g)∧∀ H',Same H H'→Q (.bl true) H'
end Wz
namespace L2
open PySem PySem.Spec PyProof.Rows
end L2
namespace Wz
open PySem L2
def isEx:Deed→Bool
 | .exch _ _=>true
 | _=>false
def spDeeds2 (K:PySem.W.Frag):Sp:=fun vs H Q _=>∃ (a:Addr)(ns:List Int),vs=[.ref a]∧SqL K H a (ns.map V.int) ∧
 ∀ (l:Addr)(H':Hp)(ds:List Deed),H l=none→Same H H'→DeedsAt H' l ds→(∀ d∈ds,∀ g∈names d,g∈namesL 40 (cellAt ns 1))→ds.length≤88→(ds.filter isEx).length≤48→Q (.ref l) H'
theorem len_nextM' (st:HSt)(ml:List (Int×Int))(d:Deed):(nextM st ml d).length≤ml.length+(if isEx d then 1 else 0):=by
 unfold nextM
 split
 ·cases d with
  | come g=>exact Nat.le_refl _
  | go g=>exact Nat.le_refl _
  | exch a b=>show (addM ml _).length≤_;unfold addM;split<;>simp[isEx]
 ·omega
end Wz
namespace L2
open PySem PySem.Spec PyProof.Rows
end L2
namespace Wz
open PySem L2
def mlOf (ds:List Deed):List (Int×Int):=ds.foldl afterM []
theorem mlOf_snoc (ds:List Deed)(d:Deed):mlOf (ds++[d])=afterM (mlOf ds) d:=by unfold mlOf;rw[List.foldl_append];rfl
theorem fold_deeds:∀ (ds:List Deed)(st:HSt),(ds.foldl after st).deeds=st.deeds++ds
 | [],st=>by simp
 | d::ds,st=>by rw[List.foldl_cons,fold_deeds ds,after_deeds,List.append_assoc];rfl
theorem stOf_deeds (ds:List Deed):(stOf ds).deeds=ds:=by unfold stOf;rw[fold_deeds];rfl
structure Pre (L:List Int)(ds:List Deed):Prop where
 good:HGood (stOf ds)
 of:Of L (stOf ds)
 sz:Sz ds.length (stOf ds)
 al:Alike (stOf ds) (mlOf ds)
 ci:Cir L (stOf ds)
 mo:MlOk (mlOf ds)
 ml:(mlOf ds).length≤(ds.filter isEx).length
theorem pre0 {L:List Int}:Pre L []:=⟨good_empty,of_empty,sz0,alike_empty,cir0,ml0,Nat.le_refl _⟩
theorem nextS_done {ds:List Deed}{d:Deed}(hj:judge (stOf ds) d=.done):nextS (stOf ds) d=stOf (ds++[d]):=by unfold nextS;rw[if_pos hj,stOf_snoc]
theorem nextM_done {ds:List Deed}{d:Deed}(hj:judge (stOf ds) d=.done):nextM (stOf ds) (mlOf ds) d=mlOf (ds++[d]):=by unfold nextM;rw[if_pos hj,mlOf_snoc]
theorem Pre.next {L:List Int}{ds:List Deed}{d:Deed}(h:Pre L ds)(hj:judge (stOf ds) d=.done)(hn:∀ g∈names d,g∈L∧Small g):Pre L (ds++[d]):=by
 have e1:=nextS_done hj
 have e2:=nextM_done hj
 refine⟨?_,?_,?_,?_,?_,?_,?_⟩
 ·rw[←e1];exact good_next h.good fun g hg=>(hn g hg).2
 ·rw[←e1];exact of_next h.good h.of fun g hg=>(hn g hg).1
 ·rw[←e1,List.length_append];exact sz_next h.sz d
 ·rw[←e1,←e2];exact alike_next h.al
 ·rw[←e1];exact cir_next h.ci fun g hg=>(hn g hg).1
 ·rw[←e2];exact ml_next h.mo d
 ·rw[←e2,List.filter_append,List.length_append]
  have h1:=len_nextM' (stOf ds) (mlOf ds) d
  have h2:=h.ml
  cases e:isEx d<;>simp[e]at h1 ⊢<;>omega
theorem pre_of {L:List Int}{ds:List Deed}(hd:DoneAll ds)(hn:∀ d∈ds,∀ g∈names d,g∈L∧Small g):∀ i,Pre L (ds.take i)
 | 0=>pre0
 | i+1=>by
  have ih:=pre_of hd hn i
  rw[List.take_add_one]
  cases e:ds[i]? with
  | none=>simpa using ih
  | some d=>rw[Option.toList_some];exact ih.next (hd i d e) (hn d (List.mem_of_getElem? e))
def spEvening2 (K:PySem.W.Frag):Sp:=fun vs H Q _=>∃ (a:Addr)(ns:List Int),vs=[.ref a]∧SqL K H a (ns.map V.int) ∧
 ∀ (t w m ls:Addr)(H':Hp)(es:List Deed),Same H H'→H' t=some (.tup [.ref w,.ref m,.ref ls])→MdE H H' w m ls (stOf es) (mlOf es)→DoneAll es→(∀ d∈es,∀ g∈names d,g∈namesL 40 (cellAt ns 1))→es.length≤88→(es.filter isEx).length≤48→Q (.ref t) H'
end Wz
namespace L2
open PySem PySem.Spec PyProof.Rows
end L2
namespace Wz
open PySem L2
end Wz
namespace Wz
open PySem L2
end Wz
namespace Wz
open PySem L2
def Inj (f:Int→Int):Prop:=∀ a b,f a=f b→a=b
theorem wr_out {w:List (Int×Int)}{g:Int}(h:g∉keysL w):wr w g=g:=by
 unfold wr
 cases e:look w g with
 | none=>rfl
 | some m=>exact absurd (look_mem.mp (by rw[e];rfl)) h
def iter (f:Int→Int):Nat→Int→Int
 | 0,g=>g
 | n+1,g=>f (iter f n g)
theorem iter_add (f:Int→Int)(m:Nat):∀ (n:Nat)(g:Int),iter f (n+m) g=iter f n (iter f m g)
 | 0,_=>by rw[Nat.zero_add];rfl
 | n+1,g=>by
  rw[Nat.add_right_comm]
  show f (iter f (n+m) g)=f (iter f n (iter f m g))
  rw[iter_add f m n g]
theorem iter_inj {f:Int→Int}(h:Inj f):∀ (n:Nat){a b:Int},iter f n a=iter f n b→a=b
 | 0,_,_,e=>e
 | n+1,_,_,e=>iter_inj h n (h _ _ e)
theorem iter_in {f:Int→Int}{ks:List Int}(hk:∀ g∈ks,f g∈ks){g:Int}(hg:g∈ks):∀ n,iter f n g∈ks
 | 0=>hg
 | n+1=>hk _ (iter_in hk hg n)
theorem not_nodup:∀ {l:List Int},¬ l.Nodup→∃ i j:Nat,i<j∧∃ x,l[i]? = some x∧l[j]? = some x
 | [],h=>absurd List.nodup_nil h
 | a::r,h=>by
  by_cases ha:a∈r
  ·obtain⟨n,hn,e⟩:=List.getElem_of_mem ha
   exact⟨0,n+1,Nat.succ_pos _,a,rfl,by rw[List.getElem?_cons_succ,List.getElem?_eq_getElem hn,e]⟩
  ·have hr:¬ r.Nodup:=fun z=>h (List.nodup_cons.mpr ⟨ha,z⟩)
   obtain⟨i,j,hij,x,e1,e2⟩:=not_nodup hr
   exact⟨i+1,j+1,Nat.succ_lt_succ hij,x,by simpa using e1,by simpa using e2⟩
theorem comes_back {f:Int→Int}(hf:Inj f){ks:List Int}(hk:∀ g∈ks,f g∈ks){g:Int}(hg:g∈ks):∃ n,0<n∧n≤ks.length∧iter f n g=g:=by
 have h:¬ ((List.range (ks.length+1)).map fun n=>iter f n g).Nodup:=fun nd=>by
  have:=nodup_len nd (m:=ks) fun x hx=>by
   obtain⟨n,_,rfl⟩:=List.mem_map.mp hx
   exact iter_in hk hg n
  rw[List.length_map,List.length_range]at this
  omega
 obtain⟨i,j,hij,x,e1,e2⟩:=not_nodup h
 rw[List.getElem?_map]at e1 e2
 have hj:j<ks.length+1:=by
  have:=(List.getElem?_eq_some_iff.mp (show ((List.range (ks.length+1)).map fun n=>iter f n g)[j]? = some x by rw[List.getElem?_map];exact e2)).1
  simpa using this
 have hi:i<ks.length+1:=by omega
 rw[List.getElem?_range hi]at e1
 rw[List.getElem?_range hj]at e2
 have e1':iter f i g=x:=Option.some.inj e1
 have e2':iter f j g=x:=Option.some.inj e2
 refine⟨j-i,by omega,by omega,?_⟩
 have e3:iter f (i+(j-i)) g=iter f i g:=by rw[show i+(j-i)=j by omega,e2',e1']
 rw[iter_add]at e3
 exact iter_inj hf i e3
theorem first_back {f:Int→Int}{g:Int}:∀ (n:Nat),0<n→iter f n g=g→∃ m,0<m∧m≤n∧iter f m g=g∧∀ k,0<k→k<m→iter f k g≠g:=by
 intro n
 induction n using Nat.strongRecOn with
 | _ n ih =>
  intro hn he
  by_cases h:∃ k,0<k∧k<n∧iter f k g=g
  ·obtain⟨k,k0,kn,ke⟩:=h
   obtain⟨m,m0,mk,me,mf⟩:=ih k kn k0 ke
   exact⟨m,m0,by omega,me,mf⟩
  ·exact⟨n,hn,Nat.le_refl _,he,fun k k0 kn ke=>h ⟨k,k0,kn,ke⟩⟩
def ringL (f:Int→Int)(g:Int)(m:Nat):List Int:=(List.range m).map fun i=>iter f i g
theorem ring_nodup {f:Int→Int}(hf:Inj f){g:Int}{m:Nat}(hm:∀ k,0<k→k<m→iter f k g≠g):(ringL f g m).Nodup:=by
 cases Classical.em (ringL f g m).Nodup with
 | inl h=>exact h
 | inr h =>
  obtain⟨i,j,hij,x,e1,e2⟩:=not_nodup h
  unfold ringL at e1 e2
  have hj:j<m:=by
   have:=(List.getElem?_eq_some_iff.mp e2).1
   simpa using this
  rw[List.getElem?_map,List.getElem?_range (by omega)]at e1
  rw[List.getElem?_map,List.getElem?_range hj]at e2
  have e1':iter f i g=x:=Option.some.inj e1
  have e2':iter f j g=x:=Option.some.inj e2
  have e3:iter f (i+(j-i)) g=iter f i g:=by rw[show i+(j-i)=j by omega,e2',e1']
  rw[iter_add]at e3
  exact absurd (iter_inj hf i e3) (hm (j-i) (by omega) (by omega))
theorem ring_closed {f:Int→Int}{g:Int}{m:Nat}(hm:0<m)(he:iter f m g=g){x:Int}(hx:x∈ringL f g m):f x∈ringL f g m:=by
 unfold ringL at hx ⊢
 obtain⟨i,hi,rfl⟩:=List.mem_map.mp hx
 have hi:=List.mem_range.mp hi
 by_cases h:i+1<m
 ·exact List.mem_map.mpr ⟨i+1,List.mem_range.mpr h,rfl⟩
 ·refine List.mem_map.mpr ⟨0,List.mem_range.mpr hm,?_⟩
  have:i+1=m:=by omega
  rw[←this]at he
  exact he.symm
end Wz
namespace Wz
open PySem L2
theorem sortI_up (l:List Int):(sortI l).Pairwise (·≤·):=by
 have:=List.pairwise_mergeSort (le:=fun a b:Int=>decide (a≤b)) (fun a b c h1 h2=>by simp at *;omega) (fun a b=>by simp;omega) l
 exact this.imp fun h=>by simpa using h
theorem sortI_pm (l:List Int):(sortI l).Perm l:=List.mergeSort_perm l _
def IsRing (f:Int→Int)(g:Int)(m:Nat):Prop:=0<m∧iter f m g=g∧∀ k,0<k→k<m→iter f k g≠g
def ordF (f:Int→Int)(N:Nat)(g:Int):Nat:=((List.range N).find? fun i=>decide (iter f (i+1) g=g)).getD 0+1
def ringR (f:Int→Int)(N:Nat)(g:Int):List Int:=ringL f g (ordF f N g)
theorem find_first (p:Nat→Bool):∀ (N m:Nat),m<N→p m=true→(∀ k,k<m→p k=false)→(List.range N).find? p=some m
 | 0,m,h,_,_=>by omega
 | N+1,m,h,hm,hk=>by
  rw[List.range_succ,List.find?_append]
  by_cases e:m<N
  ·rw[find_first p N m e hm hk];rfl
  ·have e:m=N:=by omega
   subst e
   rw[List.find?_eq_none.mpr fun x hx=>by rw[hk x (List.mem_range.mp hx)];simp]
   simp[hm]
theorem ord_ring {f:Int→Int}{g:Int}{m N:Nat}(h:IsRing f g m)(hN:m≤N):ordF f N g=m:=by
 obtain⟨h0,h1,h2⟩:=h
 unfold ordF
 rw[find_first _ N (m-1) (by omega) (by rw[show m-1+1=m by omega];exact decide_eq_true h1) fun k hk=>decide_eq_false (h2 (k+1) (by omega) (by omega))]
 simp;omega
theorem isRing_of {f:Int→Int}(hf:Inj f){K:List Int}(hk:∀ g∈K,f g∈K){g:Int}(hg:g∈K){N:Nat}(hN:K.length≤N):IsRing f g (ordF f N g):=by
 obtain⟨n,n0,n1,n2⟩:=comes_back hf hk hg
 obtain⟨m,m0,m1,m2,m3⟩:=first_back n n0 n2
 have R:IsRing f g m:=⟨m0,m2,m3⟩
 rw[ord_ring R (by omega)]
 exact R
theorem ring_mem {f:Int→Int}{g x:Int}{m:Nat}:x∈ringL f g m↔∃ i,i<m∧x=iter f i g:=by
 unfold ringL
 rw[List.mem_map]
 constructor
 ·rintro⟨i,hi,rfl⟩;exact⟨i,List.mem_range.mp hi,rfl⟩
 ·rintro⟨i,hi,rfl⟩;exact⟨i,List.mem_range.mpr hi,rfl⟩
theorem closed_iter {f:Int→Int}{S:List Int}(h:∀ x∈S,f x∈S):∀ (n:Nat){x:Int},x∈S→iter f n x∈S
 | 0,_,hx=>hx
 | n+1,_,hx=>h _ (closed_iter h n hx)
theorem ring_apart {f:Int→Int}{g:Int}{m:Nat}(R:IsRing f g m){S:List Int}(hS:∀ x∈S,f x∈S)(hg:g∉S):∀ x∈ringL f g m,x∉S:=fun x hx z=>by
 obtain⟨i,hi,rfl⟩:=ring_mem.mp hx
 have:=closed_iter hS (m-i) z
 rw[←iter_add,show m-i+i=m by omega,R.2.1]at this
 exact hg this
def ringsA (f:Int→Int)(N:Nat):List Int→List Int→List (List Int)
 | [],_=>[]
 | g::ks,S=>if g∈S then ringsA f N ks S else ringR f N g::ringsA f N ks (S++ringR f N g)
theorem rings_ok {f:Int→Int}(hf:Inj f){K:List Int}(hk:∀ g∈K,f g∈K){N:Nat}(hN:K.length≤N):∀ (ks S:List Int),(∀ x∈ks,x∈K)→(∀ x∈S,f x∈S) →
  (ringsA f N ks S).flatten.Nodup∧(∀ x∈(ringsA f N ks S).flatten,x∉S∧x∈K)∧(∀ x∈ks,x∈S∨x∈(ringsA f N ks S).flatten)∧∀ r∈ringsA f N ks S,∃ g∈ks,r=ringR f N g∧IsRing f g (ordF f N g)
 | [],S,_,_=>by simp[ringsA]
 | g::ks,S,h1,h2=>by
  have hgK:=h1 g List.mem_cons_self
  have h1':∀ x∈ks,x∈K:=fun x hx=>h1 x (List.mem_cons_of_mem _ hx)
  unfold ringsA
  by_cases hg:g∈S
  ·rw[if_pos hg]
   obtain⟨a,b,c,d⟩:=rings_ok hf hk hN ks S h1' h2
   refine⟨a,b,fun x hx=>?_,fun r hr=>?_⟩
   ·rcases List.mem_cons.mp hx with rfl | z
    ·exact .inl hg
    ·exact c x z
   ·obtain⟨q,hq,e⟩:=d r hr
    exact⟨q,List.mem_cons_of_mem _ hq,e⟩
  ·rw[if_neg hg]
   have R:=isRing_of hf hk hgK hN
   have ap:=ring_apart R h2 hg
   have cl:∀ x∈ringR f N g,f x∈ringR f N g:=fun x hx=>ring_closed R.1 R.2.1 hx
   have inK:∀ x∈ringR f N g,x∈K:=fun x hx=>by
    obtain⟨i,hi,rfl⟩:=ring_mem.mp hx
    exact iter_in hk hgK i
   have g0:g∈ringR f N g:=ring_mem.mpr ⟨0,R.1,rfl⟩
   obtain⟨a,b,c,d⟩:=rings_ok hf hk hN ks (S++ringR f N g) h1' fun x hx=>by
    rcases List.mem_append.mp hx with z | z
    ·exact List.mem_append.mpr (.inl (h2 x z))
    ·exact List.mem_append.mpr (.inr (cl x z))
   rw[List.flatten_cons]
   refine⟨?_,fun x hx=>?_,fun x hx=>?_,fun r hr=>?_⟩
   ·rw[List.nodup_append]
    exact⟨ring_nodup hf R.2.2,a,fun x hx y hy e=>(b y hy).1 (List.mem_append.mpr (.inr (by rw[←e];exact hx)))⟩
   ·rcases List.mem_append.mp hx with z | z
    ·exact⟨ap x z,inK x z⟩
    ·exact⟨fun q=>(b x z).1 (List.mem_append.mpr (.inl q)),(b x z).2⟩
   ·rcases List.mem_cons.mp hx with rfl | z
    ·exact .inr (List.mem_append.mpr (.inl g0))
    ·rcases c x z with q | q
     ·rcases List.mem_append.mp q with q | q
      ·exact .inl q
      ·exact .inr (List.mem_append.mpr (.inl q))
     ·exact .inr (List.mem_append.mpr (.inr q))
   ·rcases List.mem_cons.mp hr with rfl | z
    ·exact⟨g,List.mem_cons_self,rfl,R⟩
    ·obtain⟨q,hq,e⟩:=d r z
     exact⟨q,List.mem_cons_of_mem _ hq,e⟩
theorem len_ringR {f:Int→Int}{N:Nat}{g:Int}:(ringR f N g).length=ordF f N g:=by unfold ringR ringL;rw[List.length_map,List.length_range]
end Wz
namespace Wz
open PySem L2
structure Prm (W:List (Int×Int)):Prop where
 inj:Inj (wr W)
 cl:∀ g∈keysL W,wr W g∈keysL W
 nd:(keysL W).Nodup
theorem look_wr {W:List (Int×Int)}{g:Int}(h:g∈keysL W):look W g=some (wr W g):=by
 obtain⟨m,e⟩:=Option.isSome_iff_exists.mp (look_mem.mpr h)
 unfold wr
 rw[e]
 rfl
theorem prm_good {st:HSt}(G:HGood st):Prm st.worn:=by
 refine⟨fun a b e=>?_,fun g hg=>G.ow g _ (look_wr hg),G.wn⟩
 by_cases ha:a∈keysL st.worn
 ·have ea:=look_wr ha
  by_cases hb:b∈keysL st.worn
  ·have eb:=look_wr hb
   have h1:=(G.wh a _).mp ea
   have h2:=(G.wh b _).mp eb
   rw[e,h2]at h1
   exact (Option.some.inj h1).symm
  ·have:=G.ow a _ ea
   rw[e,wr_out hb]at this
   exact absurd this hb
 ·by_cases hb:b∈keysL st.worn
  ·have:=G.ow b _ (look_wr hb)
   rw[←e,wr_out ha]at this
   exact absurd this ha
  ·rw[wr_out ha,wr_out hb]at e
   exact e
theorem len_keys (W:List (Int×Int)):(keysL W).length=W.length:=by unfold keysL;rw[List.length_map]
theorem Prm.ring {W:List (Int×Int)}(P:Prm W){g:Int}(hg:g∈keysL W):IsRing (wr W) g (ordF (wr W) W.length g):=isRing_of P.inj P.cl hg (by rw[len_keys];exact Nat.le_refl _)
theorem Prm.ord_le {W:List (Int×Int)}(P:Prm W){g:Int}(hg:g∈keysL W):ordF (wr W) W.length g≤W.length:=by
 have h:=nodup_len (ring_nodup P.inj (P.ring hg).2.2) (m:=keysL W) fun x hx=>by
  obtain⟨i,_,rfl⟩:=ring_mem.mp hx
  exact iter_in P.cl hg i
 rw[len_keys]at h
 unfold ringL at h
 rwa [List.length_map,List.length_range]at h
def ringsW (W:List (Int×Int)):List (List Int):=ringsA (wr W) W.length (wrongL W) []
theorem Prm.wrong {W:List (Int×Int)}(P:Prm W):(∀ g∈wrongL W,g∈keysL W∧wr W g≠g)∧(wrongL W).Nodup∧(∀ g∈wrongL W,wr W g∈wrongL W)∧(wrongL W).length≤W.length:=by
 have m:∀ g,g∈wrongL W↔g∈keysL W∧wr W g≠g:=fun g=>by
  unfold wrongL
  rw[List.mem_filter,(sortI_pm _).mem_iff]
  simp
 refine⟨fun g hg=>(m g).mp hg,((sortI_pm _).nodup_iff.mpr P.nd).filter _,fun g hg=>(m _).mpr ⟨P.cl g ((m g).mp hg).1,fun z=>((m g).mp hg).2 (P.inj _ _ z)⟩,wrong_len W⟩
theorem ringL_succ (f:Int→Int)(g:Int)(i:Nat):ringL f g (i+1)=ringL f g i++[iter f i g]:=by unfold ringL;rw[List.range_succ,List.map_append];rfl
theorem len_ringL (f:Int→Int)(g:Int)(i:Nat):(ringL f g i).length=i:=by unfold ringL;rw[List.length_map,List.length_range]
def stepR (f:Int→Int)(N:Nat)(q:List Int×List (List Int))(g:Int):List Int×List (List Int):=if g∈q.1 then q else (q.1++ringR f N g,q.2++[ringR f N g])
theorem fold_rings (f:Int→Int)(N:Nat):∀ (ks S:List Int)(rs:List (List Int)),ks.foldl (stepR f N) (S,rs)=(S++(ringsA f N ks S).flatten,rs++ringsA f N ks S)
 | [],S,rs=>by simp[ringsA]
 | g::ks,S,rs=>by
  rw[List.foldl_cons]
  unfold stepR ringsA
  by_cases h:g∈S
  ·rw[if_pos h,if_pos h];exact fold_rings f N ks S rs
  ·rw[if_neg h,if_neg h]
   have:=fold_rings f N ks (S++ringR f N g) (rs++[ringR f N g])
   unfold stepR at this
   rw[this,List.flatten_cons]
   simp
def qR (W:List (Int×Int))(i:Nat):List Int×List (List Int):=((wrongL W).take i).foldl (stepR (wr W) W.length) ([],[])
theorem qR_end (W:List (Int×Int)){n:Nat}(h:(wrongL W).length≤n):(qR W n).2=ringsW W:=by unfold qR;rw[List.take_of_length_le h,fold_rings];rfl
theorem qR_ok {W:List (Int×Int)}(P:Prm W)(i:Nat):(qR W i).1.Nodup∧(∀ x∈(qR W i).1,x∈wrongL W)∧(∀ x∈(qR W i).1,wr W x∈(qR W i).1)∧(qR W i).1.length≤W.length∧(qR W i).2.length≤i:=by
 obtain⟨w1,w2,w3,w4⟩:=P.wrong
 have sub:∀ x∈(wrongL W).take i,x∈wrongL W:=fun x hx=>List.mem_of_mem_take hx
 obtain⟨a,b,c,d⟩:=rings_ok P.inj w3 w4 ((wrongL W).take i) [] sub (fun x h=>by cases h)
 have e:qR W i=((ringsA (wr W) W.length ((wrongL W).take i) []).flatten,ringsA (wr W) W.length ((wrongL W).take i) []):=by unfold qR;rw[fold_rings];rfl
 rw[e]
 refine⟨a,fun x hx=>(b x hx).2,fun x hx=>?_,Nat.le_trans (nodup_len a fun x hx=>(b x hx).2) w4,?_⟩
 ·obtain⟨r,hr,hxr⟩:=List.mem_flatten.mp hx
  obtain⟨g,_,rfl,R⟩:=d r hr
  exact List.mem_flatten.mpr ⟨_,hr,ring_closed R.1 R.2.1 hxr⟩
 ·have:∀ (ks S:List Int),(ringsA (wr W) W.length ks S).length≤ks.length:=by
   intro ks
   induction ks with
   | nil=>intro S;exact Nat.le_refl _
   | cons g ks ih =>
    intro S
    unfold ringsA
    split
    ·exact Nat.le_succ_of_le (ih S)
    ·rw[List.length_cons,List.length_cons]
     have:=ih (S++ringR (wr W) W.length g)
     omega
  have h1:=this ((wrongL W).take i) []
  rw[List.length_take]at h1
  show (ringsA (wr W) W.length ((wrongL W).take i) []).length≤i
  omega
def spRingW (c:HX):Sp:=fun vs H Q E=>∃ (p:Addr)(A:HA)(st:HSt)(g:Int),vs=[.ref p,.int g]∧HallAt c.C H p A st∧HGood st∧st.worn.length<64∧(∀ g∈keysL st.worn,Small g)∧Small g ∧
 (if (look st.worn g).isSome=true then ∀ (l:Addr)(H':Hp),H l=none→Same H H'→H' l=some (.lst ((ringR (wr st.worn) st.worn.length g).map V.int))→Q (.ref l) H' else ∀ dx H',Same H H'→H' dx=some (.xd [("guest",.int g)])→E (.ref c.cN) (some dx) H')
theorem rings_small {W:List (Int×Int)}(P:Prm W):(ringsW W).length≤W.length∧∀ r∈ringsW W,r.length≤W.length:=by
 obtain⟨w1,w2,w3,w4⟩:=P.wrong
 have h:=qR_ok P (wrongL W).length
 rw[qR_end W (Nat.le_refl _)]at h
 refine⟨by omega,fun r hr=>?_⟩
 obtain⟨g,hg,rfl,R⟩:=(rings_ok P.inj w3 w4 (wrongL W) [] (fun x h=>h) (fun x h=>by cases h)).2.2.2 r hr
 rw[len_ringR]
 exact P.ord_le (w1 g hg).1
end Wz
namespace L2
open PySem PySem.Spec PyProof.Rows
end L2
namespace Wz
open PySem L2
end Wz
namespace Wz
open PySem L2
end Wz
namespace L2
open PySem PySem.Spec PyProof.Rows PySem.Calls
section
variable {X:Cx}{pins:List (Addr×Obj)}{σ:St}{H H':Hp}{s:Shared}
end
section
variable {prog:Program}{w:World}{A:Around}{E:Value→Shared→Prop}{s:Shared}
end
end L2
namespace Wz
open PySem L2
end Wz
namespace L2
open PySem PySem.Spec PyProof.Rows
end L2
namespace Wz
open PySem L2
end Wz
namespace L2
open PySem PySem.Spec PyProof.Rows
end L2
namespace Wz
open PySem L2
end Wz
namespace L2
open PySem PySem.Spec PyProof.Rows
end L2
namespace L2
open PySem
end L2
namespace Wz
open PySem L2
end Wz
namespace Wz
open PySem L2
end Wz
namespace L2
open PySem PySem.Spec PyProof.Rows
end L2
namespace Wz
open PySem L2
end Wz
namespace Wz
open PySem L2
end Wz
namespace Wz
open PySem L2
end Wz
namespace Wz
open PySem L2
end Wz
namespace Wz
end Wz
namespace Wz
open L2
end Wz
namespace L2
open PySem PySem.Spec PyProof.Rows
end L2
namespace Wz
open PySem L2
end Wz
namespace Wz
open PySem L2
end Wz
namespace Wz
open PySem L2
end Wz
namespace L2
open PySem PySem.Spec PyProof.Rows PySem.Calls
end L2
namespace Wz
open PySem L2
end Wz
namespace Wz
open PySem L2
end Wz
namespace Wz
end Wz
namespace Wz
open PySem L2
end Wz
namespace Wz
open L2
end Wz
namespace Wz
open L2
end Wz
namespace Wz
open L2
end Wz
namespace Wz
open PySem L2
section
variable {st:HSt}
end
end Wz
namespace Wz
open PySem L2
end Wz
namespace Wz
open PySem L2
section
variable {st:HSt}{ml:List (Int×Int)}
end
end Wz
namespace Wz
open PySem L2
end Wz
namespace Wz
open PySem L2
end Wz
namespace Wz
open PySem L2
end Wz
namespace L2
open PySem
theorem Room.m {j k:Nat}{A:Around}(r:Room k A)(h:j≤k:=by decide):Room j A:=r.mono h
theorem pa1 {X:Cx}{e:Expr}{t:TE}(h:PE X e t)(hs:starEach [e] X.env=(false,eval e X.env)::starEach [] X.env:=by rfl):PA X [e] (tCons t tNil):=pa_cons h pa_nil hs
theorem pa2 {X:Cx}{e e2:Expr}{t t2:TE}(h:PE X e t)(h2:PE X e2 t2)(hs:starEach [e,e2] X.env=(false,eval e X.env)::starEach [e2] X.env:=by rfl)(hs2:starEach [e2] X.env=(false,eval e2 X.env)::starEach [] X.env:=by rfl):PA X [e,e2] (tCons t (tCons t2 tNil)):=pa_cons h (pa_cons h2 pa_nil hs2) hs
theorem pa3 {X:Cx}{e e2 e3:Expr}{t t2 t3:TE}(h:PE X e t)(h2:PE X e2 t2)(h3:PE X e3 t3)(hs:starEach [e,e2,e3] X.env=(false,eval e X.env)::starEach [e2,e3] X.env:=by rfl)(hs2:starEach [e2,e3] X.env=(false,eval e2 X.env)::starEach [e3] X.env:=by rfl)(hs3:starEach [e3] X.env=(false,eval e3 X.env)::starEach [] X.env:=by rfl):PA X [e,e2,e3] (tCons t (tCons t2 (tCons t3 tNil))):=pa_cons h (pa_cons h2 (pa_cons h3 pa_nil hs3) hs2) hs
theorem ps_st {X:Cx}{pos:Pos}(i:Nat){x:Str}{e:Expr}{te:TE}{pos':Pos}(hN:X.N.Nodup)(he:PE X e te)(hi:X.N[i]? = some x:=by rfl)(hx:Loc X.env.scope x:=by first | exact Or.inl rfl | exact Or.inr rfl)(hs:swapsWith e (some (.Name x pos')) pos.line X.env=pure false:=by rfl)(hf:X.fn x=true∨X.env.scope.names.lookup x=some .local:=by first | exact .inl rfl | exact .inr rfl | assumption) :
  PS X (.Assign [.Name x pos'] e pos) (tAsg te (gName i)):=ps_set hN hi hx he hs hf
theorem pgn {X:Cx}{pos:Pos}(i:Nat){x:Str}(hN:X.N.Nodup)(hi:X.N[i]? = some x:=by rfl)(hx:Loc X.env.scope x:=by first | exact Or.inl rfl | exact Or.inr rfl)(hf:X.fn x=true∨X.env.scope.names.lookup x=some .local:=by first | exact .inl rfl | exact .inr rfl | assumption):PG X (.Name x pos) (gName i):=pg_name hN hi hx hf
theorem csc {so sc:Scope}{N N':List Str}{src:List (Option Nat)}(a:sc.kind=.function:=by rfl)(b:∀ y∈sc.names,y.2≠.cell:=by decide +kernel)(c:∀ y∈sc.names,y.2=.local→sc.names.lookup y.1=some .local:=by decide +kernel)(d:∀ y∈sc.names,y.2=.free→so.names.lookup y.1=some .cell∨so.names.lookup y.1=some .free:=by decide +kernel)(e:N'.Nodup:=by decide +kernel)(f:src.length=N'.length:=by rfl)
  (g:∀ p∈N'.zip src,(match p.2 with | none=>true | some j=>decide (N[j]? = some p.1∧sc.names.lookup p.1=some .free))=true:=by decide +kernel):CmpSc so sc N N' src:=⟨a,b,c,d,e,f,g⟩
theorem fsc {N P:List Str}{sc:Scope}(a:sc.kind=.function:=by rfl)(b:sc.isCoroutine=false:=by rfl)(c:sc.isGenerator=false:=by rfl)(d:N.Nodup:=by decide +kernel)(e:N.take P.length=P:=by rfl)(f:∀ x∈P,sc.names.lookup x=some .local∨sc.names.lookup x=some .cell:=by decide +kernel)(g:∀ y∈sc.names,y.2≠.free:=by decide +kernel):FnScope N P sc:=⟨a,b,c,d,e,f,g⟩
end L2
namespace Wz
open PySem L2
def FnFact (K:PySem.W.Frag)(x:Str)(st:Stmt):Prop:=∃ (f:Addr)(fd:FuncData),PySem.W.nsIn K mainGlobals x=some (some (.ref f))∧Fun K x x st f fd
theorem fact_mk {K:PySem.W.Frag}{x:Str}{st:Stmt}{f:Addr}{oc:Value}{od an:Option Addr}{osl:Array (Option Value)}{kV doc pm cdv ct:Value}(a:PySem.W.nsIn K mainGlobals x=some (some (.ref f)))(l:K.lookup f=some ⟨oc,od,.func (PySem.W.fnOf x x (defArgs st) (defBody st) (defScope st) .none kV doc pm an cdv ct),osl⟩)
  (c:PySem.W.codeIn K cdv x=true) (k:PySem.W.keepIn K (.ref f)=true):FnFact K x st:=⟨f,_,a,fun_mk l c k⟩
def MtFact (K:PySem.W.Frag)(C:Addr)(m q:Str)(st:Stmt):Prop:=∃ (f:Addr)(fd:FuncData),PySem.W.findIn K (.ref C) m=some (some (.ref f))∧PySem.W.isFn K (.ref f)=true∧Fun K m q st f fd
theorem mfact_mk {K:PySem.W.Frag}{C:Addr}{m q:Str}{st:Stmt}{f:Addr}{oc:Value}{od an:Option Addr}{osl:Array (Option Value)}{kV doc pm cdv ct:Value}(a:PySem.W.findIn K (.ref C) m=some (some (.ref f)))(i:PySem.W.isFn K (.ref f)=true)(l:K.lookup f=some ⟨oc,od,.func (PySem.W.fnOf m q (defArgs st) (defBody st) (defScope st) .none kV doc pm an cdv ct),osl⟩)
  (c:PySem.W.codeIn K cdv q=true) (k:PySem.W.keepIn K (.ref f)=true):MtFact K C m q st:=⟨f,_,a,i,fun_mk l c k⟩
section
variable {P:Program}{w:World}{K:PySem.W.Frag}{h base:Heap}{mg:Str→Option Value}{x m q:Str}{st:Stmt}{k:Nat}{ps:List Str}{sp:Sp}{C:Addr}{CX:CXT}
theorem mkC (X:K.In h)(G:h.Ns mainGlobals mg)(F:FnFact K x st)(ok:∀ f fd,Fun K x x st f fd→FnOk P w K mg base CX0 k f fd ps sp)
  (hb:∀ (kV doc pm:Value)(an:Option Addr)(cdv ct:Value)(us:List Value),us.length=ps.length→bindArgs (PySem.W.fnOf x x (defArgs st) (defBody st) (defScope st) .none kV doc pm an cdv ct) ⟨us,[]⟩=pure (ps.zip us):=by intro _ _ _ _ _ _ us hl;first | exact (match us,hl with | [_],_=>rfl) | exact (match us,hl with | [_,_],_=>rfl) | exact (match us,hl with | [_,_,_],_=>rfl) | exact (match us,hl with | [_,_,_,_],_=>rfl) | exact (match us,hl with | [_,_,_,_,_],_=>rfl) | exact (match us,hl with | [],_=>rfl)):Callee P w K mg base x k ps sp:=by
 obtain⟨f,fd,a,g⟩:=F
 exact⟨f,fd,ok f fd g,PySem.W.mg_of X G a,g.kp,g.binds hb⟩
theorem mkX (X:K.In h)(G:h.Ns mainGlobals mg)(F:FnFact K x st)(ok:∀ f fd,Fun K x x st f fd→FnOk P w K mg base (CXD P w) k f fd ps sp)
  (hb:∀ (kV doc pm:Value)(an:Option Addr)(cdv ct:Value)(us:List Value),us.length=ps.length→bindArgs (PySem.W.fnOf x x (defArgs st) (defBody st) (defScope st) .none kV doc pm an cdv ct) ⟨us,[]⟩=pure (ps.zip us):=by intro _ _ _ _ _ _ us hl;first | exact (match us,hl with | [_],_=>rfl) | exact (match us,hl with | [_,_],_=>rfl) | exact (match us,hl with | [_,_,_],_=>rfl) | exact (match us,hl with | [_,_,_,_],_=>rfl) | exact (match us,hl with | [_,_,_,_,_],_=>rfl) | exact (match us,hl with | [],_=>rfl)):XCallee P w K mg base x k ps sp:=by
 obtain⟨f,fd,a,g⟩:=F
 exact⟨f,fd,ok f fd g,PySem.W.mg_of X G a,g.kp,g.binds hb⟩
theorem mkM (F:MtFact K C m q st)(ok:∀ f fd,Fun K m q st f fd→FnOk P w K mg base CX k f fd ps sp)
  (hb:∀ (kV doc pm:Value)(an:Option Addr)(cdv ct:Value)(us:List Value),us.length=ps.length→bindArgs (PySem.W.fnOf m q (defArgs st) (defBody st) (defScope st) .none kV doc pm an cdv ct) ⟨us,[]⟩=pure (ps.zip us):=by intro _ _ _ _ _ _ us hl;first | exact (match us,hl with | [_],_=>rfl) | exact (match us,hl with | [_,_],_=>rfl) | exact (match us,hl with | [_,_,_],_=>rfl) | exact (match us,hl with | [_,_,_,_],_=>rfl) | exact (match us,hl with | [_,_,_,_,_],_=>rfl) | exact (match us,hl with | [],_=>rfl)):MCallee P w K mg base CX C m k ps sp:=by
 obtain⟨f,fd,a,i,g⟩:=F
 exact⟨f,fd,ok f fd g,⟨a,i,g.kp⟩,g.binds hb⟩
end
end Wz
namespace L2
open PySem PySem.Spec PyProof.Rows
end L2
namespace Wz
open PySem L2
end Wz
namespace Wz
open PySem L2
end Wz
namespace Wz
open PySem L2
end Wz
namespace Wz
open L2
end Wz
namespace PySem
open Sem (wp)
section
variable {M:Model}{A:Around}{E:Value→Shared→Prop}{s:Shared}{env:Env}
def compPostX (M:Model)(A:Around)(E:Value→Shared→Prop)(use:Option (Value→Sem Unit))(Q:Value→Shared→Prop)(acc:Value)(C:Addr)(fr:Option Addr)(r:Result)(s':Shared):Prop :=
 match r,use with
 | .ok _,none=>∃ m,s'.heap.Ns C m∧∀ h',Heap.SameBut C s'.heap h'→Q acc { s' with heap:=h' }
 | .ok _,some u=>wpAny M A (u acc) (fun _ s''=>∃ m,s''.heap.Ns C m∧∀ h',Heap.SameBut C s''.heap h'→Q .none { s'' with heap:=h' }) E s'
 | .error x,_=>∃ m,s'.heap.Ns C m∧∀ h',Heap.SameBut C s'.heap h'→∀ cenv:Env,cenv.frame=fr→wpAny M A (passOn "comprehension.variables-let-go" x cenv:Sem Value) (fun _ _=>False) E { s' with heap:=h' }
end
end PySem
namespace L2
open PySem PySem.Spec PyProof.Rows
section
variable {M:Model}{A:Around}{E:Value→Shared→Prop}{s:Shared}{B:Heap}{env:Env}{outer:List Env}{L e:Addr}{od:Option Addr}{c:Value}
end
section
variable {P:Program}{w:World}{K:PySem.W.Frag}{mg:Str→Option Value}{base:Heap}{N:List Str}{qual:Str}{sc:Scope}{f:Addr}{cd:Value}{A:Around}{outer:List Env}{s0:Shared}{H0:Hp}{E:XK}
end
end L2
namespace Wz
open PySem L2
end Wz
namespace Wz
open PySem L2
end Wz
namespace Wz
open PySem L2
end Wz
namespace Wz
open PySem L2
end Wz
namespace L2
open PySem PySem.Spec PyProof.Rows
section
variable {P:Program}{w:World}{A:Around}{E:Value→Shared→Prop}{s:Shared}
end
end L2
namespace Wz
open PySem L2
end Wz
namespace Wz
open PySem L2
end Wz
namespace Wz
open PySem L2
end Wz
namespace L2
open PySem PySem.Spec PyProof.Rows
open AutoSeq1 (wpAny_loadPart')
section
variable {prog:Program}{w:World}{A:Around}{E:Value→Shared→Prop}{s:Shared}
end
end L2
namespace L2
open PySem PySem.Spec PyProof.Rows
end L2
namespace L2
open PySem PySem.Spec PyProof.Rows
section
variable {X:Cx}{pins:List (Addr×Obj)}{σ:St}{H:Hp}{s:Shared}
end
end L2
namespace L2
open PySem PySem.Spec PyProof.Rows
section
variable {X:Cx}{CX:CXT}{k:Nat}{E:XK}{x y:Str}{p pos:Pos}{e e1 e2:Expr}{es:List Expr}{te t1 t2:TE}{t:TA}
end
end L2
namespace L2
open PySem PySem.Spec PyProof.Rows
end L2
namespace Wz
open PySem L2
theorem shareQ {P:Addr→Hp→Prop}{G:Prop}(C:Addr→Hp→Prop)(main:(∀ q HH,C q HH→P q HH)→G)(key:∀ q HH,C q HH→P q HH):G:=main key
end Wz
namespace Wz
open PySem L2
end Wz
namespace L2
open PySem PySem.Spec PyProof.Rows
end L2
namespace Wz
open PySem L2
end Wz
namespace Wz
open PySem L2
end Wz
namespace Wz
open PySem L2
theorem filtI_loop {K:PySem.W.Frag}{tt:TT}{Qf:Hp→Prop}{lr q:Addr}{rs:List Int}{f:Int→Bool}{rest:St}{H:Hp}(hq:H q=none)(h1:H lr=some (.lst (rs.map V.int)))(hlen:rs.length≤1000)
  (ht:∀ (r:Int)(HK:Hp)(Q':Bool→Hp→Prop),r∈rs→Same H HK→(∀ H5,Same HK H5→Q' (f r) H5)→tt (some (.int r)::rest) HK Q')
  (k:∀ (HK:Hp),Same H HK→HK q=some (.lst ((rs.filter f).map V.int))→Qf HK) :
  LoopF (Itl K lr) (gName 0) (tbC tt (tVar 0) q) { nx:=fun _ H'=>Qf H',rt:=fun _ _=>False } (none::rest) (upd H q (.lst [])):=by
 refine for_list (K:=K) (a:=lr) (xs:=rs.map V.int) (fun i σ HK=>∃ (v:Option V),σ=v::rest∧Same H HK∧HK q=some (.lst (((rs.take i).filter f).map V.int)))
  ⟨none,rfl,same_new hq,upd_same⟩ (fun i σ HK _ ⟨_,_,s2,_⟩=>SqL.of (s2 _ _ h1)) ?_ ?_
 ·rintro i y σ HK hi ⟨v,rfl,t1,hq2⟩
  obtain⟨r,hr0,rfl⟩:=map_get hi
  have hil:i<rs.length:=(List.getElem?_eq_some_iff.mp hr0).1
  have ex:(rs.take (i+1)).filter f=(rs.take i).filter f++[r].filter f:=by rw[List.take_add_one,hr0,Option.toList_some,List.filter_append]
  have hl2:((rs.take i).filter f).length≤i:=Nat.le_trans (List.length_filter_le _ _) (by rw[List.length_take];omega)
  refine tbc_if (ht r HK _ (List.mem_of_getElem? hr0) t1 fun H5 s5=>?_)
  cases e:f r with
  | true =>
   rw[if_pos rfl]
   refine⟨_,rfl,_,s5 _ _ hq2,by rw[List.length_map];exact small1000 (by omega),_,rfl,same_upd (t1.trans s5) hq,?_⟩
   rw[upd_same,ex,show [r].filter f=[r] by simp[e],List.map_append];rfl
  | false =>
   rw[if_neg Bool.false_ne_true]
   exact⟨_,rfl,t1.trans s5,by rw[ex,show [r].filter f=[] by simp[e],List.append_nil];exact s5 _ _ hq2⟩
 ·rintro σ HK ⟨v,rfl,t1,hq2⟩
  rw[List.length_map,List.take_length]at hq2
  exact k HK t1 hq2
end Wz
namespace L2
open PySem PySem.Spec PyProof.Rows
end L2
namespace Wz
open PySem L2
inductive Walk (R:Int→Int→Bool) (gs:List Int):Int→Int→Nat→Prop
 | nil (x:Int):Walk R gs x x 0
 | snoc {x y z:Int} {k:Nat}:Walk R gs x y k→R y z=true→z∈gs→Walk R gs x z (k+1)
end Wz
namespace L2
open PySem PySem.Spec PyProof.Rows
end L2
namespace Wz
open PySem L2
end Wz
namespace Wz
open PySem L2
end Wz
namespace Wz
open PySem PySem.SetTable
def Rise (l:List Nat):Prop:=l.Pairwise (· < ·)
theorem rise_get {xs:Array Nat}(h:Rise xs.toList){i k:Nat}(hik:i<k)(hk:k<xs.size):xs[i]'(by omega)<xs[k]:=by
 have:=List.pairwise_iff_getElem.mp h i k (by simpa using (by omega:i<xs.size)) (by simpa using hk) hik
 simpa using this
theorem below_go {xs:Array Nat}{j:Nat}(hr:Rise xs.toList):∀ (f lo hi:Nat),lo≤hi→hi≤xs.size→hi-lo≤f→(∀ i (h:i<xs.size),i<lo→xs[i]<j)→(∀ i (h:i<xs.size),hi≤i→j≤xs[i]) →
  below.go xs j f lo hi≤xs.size∧(∀ i (h:i<xs.size),i<below.go xs j f lo hi→xs[i]<j)∧(∀ i (h:i<xs.size),below.go xs j f lo hi≤i→j≤xs[i])
 | 0,lo,hi,h1,h2,h3,h4,h5=>by
  have e:lo=hi:=by omega
  subst e
  exact⟨h2,h4,h5⟩
 | f+1,lo,hi,h1,h2,h3,h4,h5=>by
  unfold below.go
  by_cases hlt:lo<hi
  ·rw[if_pos hlt]
   dsimp only
   have hm:(lo+hi)/2<xs.size:=by omega
   have eg:xs.getD ((lo+hi)/2) j=xs[(lo+hi)/2]:=by simp[Array.getD,hm]
   rw[eg]
   by_cases hc:xs[(lo+hi)/2]<j
   ·rw[if_pos hc]
    refine below_go hr f _ hi (by omega) h2 (by omega) (fun i h hi'=>?_) h5
    by_cases z:i=(lo+hi)/2
    ·subst z;exact hc
    ·exact Nat.lt_trans (rise_get hr (by omega) hm) hc
   ·rw[if_neg hc]
    refine below_go hr f lo _ (by omega) (by omega) (by omega) h4 (fun i h hi'=>?_)
    by_cases z:i=(lo+hi)/2
    ·subst z;omega
    ·have:=rise_get hr (show (lo+hi)/2<i by omega) h
     omega
  ·rw[if_neg hlt]
   have e:lo=hi:=by omega
   subst e
   exact⟨h2,h4,h5⟩
theorem below_is {xs:Array Nat}{j:Nat}(hr:Rise xs.toList):below xs j≤xs.size∧(∀ i (h:i<xs.size),i<below xs j→xs[i]<j)∧(∀ i (h:i<xs.size),below xs j≤i→j≤xs[i]) :=
 below_go hr xs.size 0 xs.size (by omega) (Nat.le_refl _) (by omega) (fun i h z=>by omega) (fun i h z=>by omega)
theorem has_none (j:Nat):has #[] j=false:=rfl
theorem slot_of {t:SetTable}(hd:t.dummies = #[])(hr:Rise t.place.toList)(j:Nat):(∀ i,t.slot j=.live i↔t.place[i]? = some j)∧(t.slot j=.empty↔j∉t.place.toList):=by
 obtain⟨b1,b2,b3⟩:=below_is (j:=j) hr
 unfold slot
 dsimp only
 by_cases hc:t.place[below t.place j]? = some j
 ·rw[if_pos (by rw[hc];simp)]
  obtain⟨hl,he⟩:=Array.getElem?_eq_some_iff.mp hc
  refine⟨fun i=>⟨fun e=>?_,fun e=>?_⟩,⟨fun e=>(by cases e),fun e=>absurd ?_ e⟩⟩
  ·cases e;exact hc
  ·obtain⟨hl2,he2⟩:=Array.getElem?_eq_some_iff.mp e
   have:below t.place j=i:=by
    rcases Nat.lt_trichotomy (below t.place j) i with z | z | z
    ·have:=rise_get hr z hl2;omega
    ·exact z
    ·have:=rise_get hr z hl;omega
   rw[this]
  ·rw[←he];exact List.mem_of_getElem? (i:=below t.place j) (by rw[Array.getElem?_toList,he];exact hc)
 ·have h0:(t.place[below t.place j]? == some j)=false:=by
   cases q:(t.place[below t.place j]? == some j) with
   | false=>rfl
   | true=>exact absurd (eq_of_beq q) hc
  rw[if_neg (by rw[h0];exact Bool.false_ne_true),hd,has_none,if_neg Bool.false_ne_true]
  have nm:j∉t.place.toList:=fun z=>by
   obtain⟨i,hi⟩:=List.getElem?_of_mem z
   rw[Array.getElem?_toList]at hi
   obtain⟨hl2,he2⟩:=Array.getElem?_eq_some_iff.mp hi
   have bi:below t.place j≤i:=by
    by_cases q:i<below t.place j
    ·have:=b2 i hl2 q;omega
    ·omega
   have hbl:below t.place j<t.place.size:=by omega
   have q1:=b3 _ hbl (Nat.le_refl _)
   have q2:t.place[below t.place j]≤j:=by
    by_cases z:below t.place j=i
    ·subst z;omega
    ·have:=rise_get hr (show below t.place j<i by omega) hl2;omega
   exact hc (Array.getElem?_eq_some_iff.mpr ⟨hbl,by omega⟩)
  refine⟨fun i=>⟨fun e=>(by cases e),fun e=>absurd ?_ nm⟩,⟨fun _=>nm,fun _=>rfl⟩⟩
  exact List.mem_of_getElem? (i:=i) (by rw[Array.getElem?_toList];exact e)
def advM (m:Nat)(p:Probe):Probe:=if p.more>0 then { p with j:=p.j+1,more:=p.more-1 } else { p with j:=(leap m p.i p.perturb).1,more:=runEnd m (leap m p.i p.perturb).1-(leap m p.i p.perturb).1,i:=(leap m p.i p.perturb).1,perturb:=(leap m p.i p.perturb).2 }
def itA (m:Nat):Nat→Probe→Probe
 | 0,p=>p
 | n+1,p=>itA m n (advM m p)
theorem itA_add (m:Nat):∀ (a b:Nat)(p:Probe),itA m (a+b) p=itA m b (itA m a p)
 | 0,b,p=>by rw[Nat.zero_add];rfl
 | a+1,b,p=>by rw[show a+1+b=(a+b)+1 by omega];exact itA_add m a b (advM m p)
theorem itA_dummy (m:Nat):∀ (n:Nat)(p:Probe),(itA m n p).dummy=p.dummy
 | 0,_=>rfl
 | n+1,p=>by
  show (itA m n (advM m p)).dummy=_
  rw[itA_dummy m n]
  unfold advM
  split<;>rfl
theorem go_skip {t:SetTable}{hashAt:Nat→Int}{h:Int}:∀ (n f:Nat)(p:Probe),n<f→(∀ k,k<n→∃ i,t.slot (itA t.mask k p).j=.live i∧(hashAt i == h)=false) →
  probe.go t hashAt h f p=probe.go t hashAt h (f-n) (itA t.mask n p)
 | 0,f,p,_,_=>rfl
 | n+1,0,p,hf,_=>by omega
 | n+1,f+1,p,hf,hk=>by
  obtain⟨i,e1,e2⟩:=hk 0 (by omega)
  have e1:t.slot p.j=.live i:=e1
  have ih:=go_skip (t:=t) (hashAt:=hashAt) (h:=h) n f (advM t.mask p) (by omega) (fun k hkn=>hk (k+1) (by omega))
  rw[show f+1-(n+1)=f-n by omega]
  show _=probe.go t hashAt h (f-n) (itA t.mask n (advM t.mask p))
  rw[←ih]
  rw[probe.go.eq_def]
  dsimp only
  rw[e1]
  show (if (hashAt i == h)=true then _ else _)=_
  rw[e2,if_neg Bool.false_ne_true]
  rfl
theorem go_empty {t:SetTable}{hashAt:Nat→Int}{h:Int}{n f:Nat}{p:Probe}(hn:n<f)(hk:∀ k,k<n→∃ i,t.slot (itA t.mask k p).j=.live i∧(hashAt i == h)=false)(he:t.slot (itA t.mask n p).j=.empty) :
  probe.go t hashAt h f p=some (.empty (itA t.mask n p).j p.dummy):=by
 rw[go_skip n f p hn hk]
 obtain⟨g,hg⟩:∃ g,f-n=g+1:=⟨f-n-1,by omega⟩
 rw[hg]
 unfold probe.go
 rw[he,itA_dummy]
def stP (m i pb:Nat):Probe:={ j:=i,more:=runEnd m i-i,i:=i,perturb:=pb,dummy:=none }
theorem run_le (m i:Nat):runEnd m i-i≤9:=by unfold runEnd;split<;>omega
theorem run_ge (m i:Nat):i≤runEnd m i:=by unfold runEnd;split<;>omega
theorem run_in {m i pb:Nat}:∀ k,k≤runEnd m i-i→itA m k (stP m i pb)={ j:=i+k,more:=runEnd m i-i-k,i:=i,perturb:=pb,dummy:=none }
 | 0,_=>rfl
 | k+1,h=>by
  rw[itA_add,run_in k (by omega)]
  show advM m _=_
  unfold advM
  rw[if_pos (by show runEnd m i-i-k>0;omega)]
  show ({ j:=i+k+1,more:=runEnd m i-i-k-1,i:=i,perturb:=pb,dummy:=none }:Probe)=_
  congr 1
theorem run_out {m i pb:Nat}:itA m (runEnd m i-i+1) (stP m i pb)=stP m (leap m i pb).1 (leap m i pb).2:=by
 rw[itA_add,run_in _ (Nat.le_refl _)]
 show advM m _=_
 unfold advM
 rw[if_neg (by show ¬ (runEnd m i-i-(runEnd m i-i)>0);omega)]
 rfl
def lpN (m:Nat):Nat→Nat→Nat→Nat×Nat
 | 0,i,pb=>(i,pb)
 | b+1,i,pb=>lpN m b (leap m i pb).1 (leap m i pb).2
theorem lp_at {m:Nat}:∀ (b i pb:Nat),∃ n,n≤10*b∧itA m n (stP m i pb)=stP m (lpN m b i pb).1 (lpN m b i pb).2
 | 0,i,pb=>⟨0,Nat.le_refl _,rfl⟩
 | b+1,i,pb=>by
  obtain⟨n,h1,h2⟩:=lp_at (m:=m) b (leap m i pb).1 (leap m i pb).2
  have:=run_le m i
  refine⟨(runEnd m i-i+1)+n,by omega,?_⟩
  rw[itA_add,run_out,h2]
  rfl
def fN (m:Nat):Nat→Nat→Nat
 | 0,i=>i
 | c+1,i=>fN m c ((i*5+1)%(m+1))
theorem fN_add (m:Nat):∀ (a b i:Nat),fN m (a+b) i=fN m b (fN m a i)
 | 0,b,i=>by rw[Nat.zero_add];rfl
 | a+1,b,i=>by rw[show a+1+b=(a+b)+1 by omega];exact fN_add m a b _
theorem lp_zero {m:Nat}:∀ (c i:Nat),lpN m c i 0=(fN m c i,0)
 | 0,i=>rfl
 | c+1,i=>by
  show lpN m c (leap m i 0).1 (leap m i 0).2=_
  exact lp_zero c _
theorem lp_add {m:Nat}:∀ (a b i pb:Nat),lpN m (a+b) i pb=lpN m b (lpN m a i pb).1 (lpN m a i pb).2
 | 0,b,i,pb=>by rw[Nat.zero_add];rfl
 | a+1,b,i,pb=>by rw[show a+1+b=(a+b)+1 by omega];exact lp_add a b _ _
theorem lp_pb {m:Nat}:∀ (b i pb:Nat),(lpN m b i pb).2=pb/32 ^ b
 | 0,i,pb=>by simp[lpN]
 | b+1,i,pb=>by
  show (lpN m b (leap m i pb).1 (leap m i pb).2).2=_
  rw[lp_pb b]
  show pb/32/32 ^ b=_
  rw[Nat.div_div_eq_div_mul,Nat.pow_succ,Nat.mul_comm]
theorem lp_lt {m:Nat}:∀ (b i pb:Nat),i<m+1→(lpN m b i pb).1<m+1
 | 0,i,pb,h=>h
 | b+1,i,pb,_=>lp_lt b _ _ (Nat.mod_lt _ (by omega))
def TabM (m:Nat):Prop:=m=7∨m=31∨m=127
def orbOk (m:Nat):Bool:=((List.range (m+1)).all fun j=>((List.range (m+1)).map fun c=>fN m c 0).contains j)&&fN m (m+1) 0 == 0
theorem orb7:orbOk 7=true:=by decide +kernel
theorem orb31:orbOk 31=true:=by decide +kernel
theorem orb127:orbOk 127=true:=by decide +kernel
theorem f_cover {m:Nat}(hm:TabM m){i j:Nat}(hi:i<m+1)(hj:j<m+1):∃ c,c<m+1∧fN m c i=j:=by
 have ok:orbOk m=true:=by rcases hm with e | e | e<;>rw[e];exact orb7;exact orb31;exact orb127
 unfold orbOk at ok
 rw[Bool.and_eq_true]at ok
 have hz:fN m (m+1) 0=0:=by simpa using ok.2
 have ex:∀ k,k<m+1→∃ c,c<m+1∧fN m c 0=k:=fun k hk=>by
  have:=List.all_eq_true.mp ok.1 k (List.mem_range.mpr hk)
  rw[List.contains_iff_mem]at this
  obtain⟨c,hc,e⟩:=List.mem_map.mp this
  exact⟨c,List.mem_range.mp hc,e⟩
 obtain⟨a,ha,ea⟩:=ex i hi
 obtain⟨b,hb,eb⟩:=ex j hj
 by_cases hab:a≤b
 ·exact⟨b-a,by omega,by rw[←ea,←fN_add,show a+(b-a)=b by omega,eb]⟩
 ·refine⟨m+1-a+b,by omega,?_⟩
  rw[←ea,←fN_add,show a+(m+1-a+b)=(m+1)+b by omega,fN_add,hz,eb]
theorem lp_cover {m:Nat}(hm:TabM m){i pb j:Nat}(hi:i<m+1)(hp:pb<2 ^ 64)(hj:j<m+1):∃ b,b<turns m∧(lpN m b i pb).1=j:=by
 obtain⟨c,hc,e⟩:=f_cover hm (lp_lt 13 i pb hi) hj
 have z:(lpN m 13 i pb).2=0:=by rw[lp_pb];exact Nat.div_eq_of_lt (Nat.lt_of_lt_of_le hp (by decide))
 refine⟨13+c,by unfold turns;omega,?_⟩
 rw[lp_add,z,lp_zero]
 exact e
theorem bits_lt (h:Int):bits h<2 ^ 64:=by
 unfold bits
 have h1:=Int.emod_nonneg h (show (2 ^ 64:Int)≠0 by decide)
 have h2:=Int.emod_lt_of_pos h (show (0:Int)<2 ^ 64 by decide)
 omega
def stH (m:Nat)(h:Int):Probe:=stP m (bits h%(m+1)) (bits h)
theorem probeStart_eq (t:SetTable)(h:Int):t.probeStart h=stH t.mask h:=rfl
theorem it_cover {m:Nat}(hm:TabM m)(h:Int){j:Nat}(hj:j<m+1):∃ n,n<10*turns m∧(itA m n (stH m h)).j=j:=by
 obtain⟨b,hb,e⟩:=lp_cover hm (Nat.mod_lt (bits h) (show 0<m+1 by omega)) (bits_lt h) hj
 obtain⟨n,h1,h2⟩:=lp_at (m:=m) b (bits h%(m+1)) (bits h)
 refine⟨n,by omega,?_⟩
 unfold stH
 rw[h2]
 exact e
theorem least_nat {p:Nat→Prop}(h:∃ n,p n):∃ n,p n∧∀ k,k<n→¬ p k:=by
 obtain⟨n,hn⟩:=h
 have go:∀ n,p n→∃ n,p n∧∀ k,k<n→¬ p k:=by
  intro n
  induction n using Nat.strongRecOn with
  | ind n ih =>
   intro hn
   by_cases z:∃ k,k<n∧p k
   ·obtain⟨k,h1,h2⟩:=z;exact ih k h1 h2
   ·exact⟨n,hn,fun k hk q=>z ⟨k,hk,q⟩⟩
 exact go n hn
end Wz
namespace Wz
open PySem PySem.SetTable
def Occ (ow:Array (Option Nat))(j:Nat):Prop:=ow.getD j (some 0)≠none
theorem tfree_of {m:Nat}{ow:Array (Option Nat)}:∀ (f i pb:Nat),(∃ b,b<f∧¬ Occ ow (lpN m b i pb).1)→∃ n j,layClean.free m ow f i pb=some j∧n<10*f∧j=(itA m n (stP m i pb)).j∧¬ Occ ow j∧∀ k,k<n→Occ ow (itA m k (stP m i pb)).j
 | 0,i,pb,⟨b,hb,_⟩=>by omega
 | f+1,i,pb,⟨b,hb,ho⟩=>by
  unfold layClean.free
  have rl:=run_le m i
  have rg:=run_ge m i
  cases hfd:(List.range (runEnd m i+1-i)).find? fun k=>(ow.getD (i+k) (some 0)).isNone with
  | some k =>
   obtain⟨h1,h2,h3⟩:=List.find?_range_eq_some.mp hfd
   have hk:k≤runEnd m i-i:=by have:=List.mem_range.mp h2;omega
   refine⟨k,i+k,rfl,by omega,by rw[run_in k hk],fun z=>z (by simpa using h1),fun q hq z=>?_⟩
   rw[run_in q (by omega)]at z
   have:=h3 q hq
   rw[show ow.getD (i+q) (some 0)=none from z]at this
   cases this
  | none =>
   have hn:=List.find?_range_eq_none.mp hfd
   have occ:∀ k,k≤runEnd m i-i→Occ ow (i+k):=fun k hk z=>by
    have:=hn k (by omega)
    rw[show ow.getD (i+k) (some 0)=none from z]at this
    cases this
   cases b with
   | zero=>exact absurd (occ 0 (by omega)) ho
   | succ b =>
    obtain⟨n,j,e1,e2,e3,e4,e5⟩:=tfree_of f (leap m i pb).1 (leap m i pb).2 ⟨b,by omega,ho⟩
    refine⟨(runEnd m i-i+1)+n,j,e1,by omega,by rw[itA_add,run_out];exact e3,e4,fun k hk=>?_⟩
    by_cases z:k≤runEnd m i-i
    ·rw[run_in k z];exact occ k z
    ·obtain⟨q,rfl⟩:∃ q,k=(runEnd m i-i+1)+q:=⟨k-(runEnd m i-i+1),by omega⟩
     rw[itA_add,run_out]
     exact e5 q (by omega)
structure Ow (m:Nat)(hs:List Int)(ow:Array (Option Nat)):Prop where
 sz:ow.size=m+1
 lt:∀ j a:Nat,ow[j]? = some (some a)→a<hs.length
 inj:∀ j j' a:Nat,ow[j]? = some (some a)→ow[j']? = some (some a)→j=j'
 ex:∀ (a:Nat)(h:Int),hs[a]? = some h→∃ n,n<10*turns m∧ow[(itA m n (stH m h)).j]? = some (some a)∧∀ k,k<n→Occ ow (itA m k (stH m h)).j
theorem nodup_lenN:∀ {l m:List Nat},l.Nodup→(∀ x∈l,x∈m)→l.length≤m.length
 | [],_,_,_=>Nat.zero_le _
 | a::r,m,h,hs=>by
  obtain⟨h1,h2⟩:=List.nodup_cons.mp h
  have ha:a∈m:=hs a List.mem_cons_self
  have hl:(m.erase a).length=m.length-1:=List.length_erase_of_mem ha
  have hpos:0<m.length:=List.length_pos_of_mem ha
  have ih:=nodup_lenN (l:=r) (m:=m.erase a) h2 fun x hx=>(List.mem_erase_of_ne (show x≠a from fun e=>h1 (by rw[←e];exact hx))).mpr (hs x (List.mem_cons_of_mem _ hx))
  rw[List.length_cons]
  omega
theorem occ_iff {ow:Array (Option Nat)}{j:Nat}(h:j<ow.size):Occ ow j↔∃ a,ow[j]? = some (some a):=by
 unfold Occ
 have e:ow.getD j (some 0)=ow[j]:=by simp[Array.getD,h]
 rw[e,Array.getElem?_eq_getElem h]
 cases ow[j] with
 | none=>simp
 | some a=>simp
theorem Ow.hole {m:Nat}{hs:List Int}{ow:Array (Option Nat)}(O:Ow m hs ow)(hl:hs.length≤m):∃ j,j<m+1∧¬ Occ ow j:=by
 by_cases z:∃ j,j<m+1∧¬ Occ ow j
 ·exact z
 ·have all:∀ j,j<m+1→∃ a,ow[j]? = some (some a):=fun j hj=>(occ_iff (by rw[O.sz];exact hj)).mp (Classical.byContradiction fun q=>z ⟨j,hj,q⟩)
  let g:Nat→Nat:=fun j=>((ow[j]?).getD none).getD 0
  have hg:∀ j,j<m+1→ow[j]? = some (some (g j)):=fun j hj=>by
   obtain⟨a,e⟩:=all j hj
   show ow[j]? = some (some (((ow[j]?).getD none).getD 0))
   rw[e];rfl
  have nd:((List.range (m+1)).map g).Nodup:=by
   unfold List.Nodup
   rw[List.pairwise_map]
   refine List.Pairwise.imp_of_mem (R:=(· < ·)) ?_ List.pairwise_lt_range
   intro a b ha hb hab e
   have h1:=hg a (List.mem_range.mp ha)
   have h2:=hg b (List.mem_range.mp hb)
   rw[←e]at h2
   have:=O.inj _ _ _ h1 h2
   omega
  have:=nodup_lenN (m:=List.range hs.length) nd fun x hx=>by
   obtain⟨j,hj,rfl⟩:=List.mem_map.mp hx
   exact List.mem_range.mpr (O.lt j _ (hg j (List.mem_range.mp hj)))
  rw[List.length_map,List.length_range,List.length_range]at this
  omega
theorem Ow.add {m:Nat}(hm:TabM m){hs:List Int}{ow:Array (Option Nat)}(O:Ow m hs ow)(hl:hs.length≤m)(h:Int):∃ j,layClean.free m ow (turns m) (bits h%(m+1)) (bits h)=some j∧Ow m (hs++[h]) (ow.setIfInBounds j (some hs.length)):=by
 obtain⟨j0,hj0,ho0⟩:=O.hole hl
 obtain⟨b,hb,eb⟩:=lp_cover hm (Nat.mod_lt (bits h) (show 0<m+1 by omega)) (bits_lt h) hj0
 obtain⟨n,j,e1,e2,e3,e4,e5⟩:=tfree_of (ow:=ow) (turns m) (bits h%(m+1)) (bits h) ⟨b,hb,by rw[eb];exact ho0⟩
 have hj:j<ow.size:=by
  by_cases z:j<ow.size
  ·exact z
  ·exact absurd (show ow.getD j (some 0)≠none by simp[Array.getD,z]) e4
 have nj:∀ a:Nat,ow[j]?≠some (some a):=fun a z=>e4 ((occ_iff hj).mpr ⟨a,z⟩)
 have gs:∀ i:Nat,(ow.setIfInBounds j (some hs.length))[i]? = if j=i then some (some hs.length) else ow[i]?:=fun i=>by
  rw[Array.getElem?_setIfInBounds]
  split
  ·rfl
  ·rfl
 have oc:∀ i:Nat,Occ ow i→Occ (ow.setIfInBounds j (some hs.length)) i:=fun i hi=>by
  by_cases z:i<ow.size
  ·obtain⟨a,ha⟩:=(occ_iff z).mp hi
   refine (occ_iff (by simpa using z)).mpr ?_
   rw[gs]
   split
   ·exact⟨_,rfl⟩
   ·exact⟨a,ha⟩
  ·unfold Occ;simp[Array.getD,z]
 refine⟨j,e1,⟨by simpa using O.sz,fun i a hi=>?_,fun i i' a hi hi'=>?_,fun a h' ha=>?_⟩⟩
 ·rw[gs]at hi
  rw[List.length_append,List.length_singleton]
  split at hi
  ·cases hi;omega
  ·have:=O.lt i a hi;omega
 ·rw[gs]at hi hi'
  split at hi<;>split at hi'
  ·omega
  ·cases hi;have:=O.lt i' _ hi';omega
  ·cases hi';have:=O.lt i _ hi;omega
  ·exact O.inj _ _ _ hi hi'
 ·by_cases z:a<hs.length
  ·rw[List.getElem?_append_left z]at ha
   obtain⟨q,q1,q2,q3⟩:=O.ex a h' ha
   refine⟨q,q1,?_,fun k hk=>oc _ (q3 k hk)⟩
   rw[gs,if_neg (fun z=>nj a (by rw[z];exact q2))]
   exact q2
  ·have za:a=hs.length:=by have:=(List.getElem?_eq_some_iff.mp ha).1;rw[List.length_append,List.length_singleton]at this;omega
   rw[List.getElem?_append_right (by omega),za,Nat.sub_self]at ha
   cases ha
   refine⟨n,e2,?_,fun k hk=>oc _ (e5 k hk)⟩
   rw[gs,za]
   unfold stH
   rw[if_pos e3]
theorem Ow.nil (m:Nat):Ow m [] (Array.replicate (m+1) none):=by
 have g:∀ j a:Nat,(Array.replicate (m+1) (none:Option Nat))[j]?≠some (some a):=fun j a z=>by
  rw[Array.getElem?_replicate]at z
  split at z<;>cases z
 exact⟨by simp,fun j a h=>absurd h (g j a),fun j _ a h=>absurd h (g j a),fun a h z=>by simp at z⟩
theorem clean_ow {m:Nat}(hm:TabM m)(hs:Array Int)(hl:hs.size≤m):∃ ow,layClean m hs=some ow∧Ow m hs.toList ow:=by
 unfold layClean
 rw[←Array.foldl_toList]
 have go:∀ (l pre:List Int)(ow:Array (Option Nat)),pre.length+l.length≤m→Ow m pre ow →
   ∃ ow',l.foldl (fun acc h=>do
    let (owner,k) ←acc
    let j ←layClean.free m owner (turns m) (bits h%(m+1)) (bits h)
    pure (owner.setIfInBounds j (some k),k+1)) (some (ow,pre.length))=some (ow',pre.length+l.length)∧Ow m (pre++l) ow':=by
  intro l
  induction l with
  | nil=>intro pre ow _ O;exact⟨ow,rfl,by rw[List.append_nil];exact O⟩
  | cons h l ih =>
   intro pre ow hl O
   rw[List.length_cons]at hl
   obtain⟨j,ej,O2⟩:=O.add hm (by omega) h
   obtain⟨ow',e,O3⟩:=ih (pre++[h]) _ (by rw[List.length_append,List.length_singleton];omega) O2
   refine⟨ow',?_,by rw[List.append_assoc]at O3;exact O3⟩
   rw[List.length_append,List.length_singleton]at e
   rw[List.foldl_cons,List.length_cons,show pre.length+(l.length+1)=pre.length+1+l.length by omega,←e]
   congr 1
   show (layClean.free m ow (turns m) (bits h%(m+1)) (bits h)).bind _=_
   rw[ej]
   rfl
 obtain⟨ow,e,O⟩:=go hs.toList [] _ (by simpa using hl) (Ow.nil m)
 refine⟨ow,?_,O⟩
 have e':hs.toList.foldl (fun acc h=>do
    let (owner,k) ←acc
    let j ←layClean.free m owner (turns m) (bits h%(m+1)) (bits h)
    pure (owner.setIfInBounds j (some k),k+1)) (some (Array.replicate (m+1) none,0))=some (ow,[].length+hs.toList.length):=e
 rw[e']
 rfl
theorem opt_fst (o:Option Nat)(j:Nat):(o.map fun x=>(j,x)).map (fun x:Nat×Nat=>x.1)=if o.isSome=true then some j else none:=by cases o<;>rfl
theorem laid_of {m fg mv:Nat}{ld pl:Bool}(hm:TabM m)(hs:Array Int)(hl:hs.size≤m):∃ (lv:List (Nat×Nat)),laid m fg mv ld pl hs=some ({ mask:=m,place:=(lv.map (·.1)).toArray,dummies:=#[],finger:=fg,led:=ld,moves:=mv,plain:=pl },(lv.map (·.2)).toArray) ∧
  Rise (lv.map (·.1))∧(∀ j∈lv.map (·.1),j≤m)∧(lv.map (·.2)).Perm (List.range hs.size) ∧
  ∀ p∈lv,∀ h,hs[p.2]? = some h→∃ n,n<10*turns m∧(itA m n (stH m h)).j=p.1∧∀ k,k<n→(itA m k (stH m h)).j∈lv.map (·.1):=by
 obtain⟨ow,e,O⟩:=clean_ow hm hs hl
 let lv:List (Nat×Nat):=(List.range (m+1)).filterMap fun j=>(ow.getD j none).map (j,·)
 have gd:∀ j,j<m+1→∀ a,ow.getD j none=some a↔ow[j]? = some (some a):=fun j hj a=>by
  have hz:j<ow.size:=by rw[O.sz];exact hj
  have e:ow.getD j none=ow[j]:=by simp[Array.getD,hz]
  rw[e,Array.getElem?_eq_getElem hz]
  simp
 have mem:∀ p,p∈lv↔p.1<m+1∧ow[p.1]? = some (some p.2):=fun p=>by
  show p∈(List.range (m+1)).filterMap _↔_
  rw[List.mem_filterMap]
  constructor
  ·rintro⟨j,hj,hp⟩
   rw[Option.map_eq_some_iff]at hp
   obtain⟨a,ha,rfl⟩:=hp
   exact⟨List.mem_range.mp hj,(gd j (List.mem_range.mp hj) a).mp ha⟩
  ·rintro⟨hj,hp⟩
   exact⟨p.1,List.mem_range.mpr hj,by rw[(gd p.1 hj p.2).mpr hp];rfl⟩
 have fst:lv.map (·.1)=(List.range (m+1)).filter fun j=>(ow.getD j none).isSome:=by
  show ((List.range (m+1)).filterMap _).map _=_
  rw[List.map_filterMap,←List.filterMap_eq_filter]
  congr 1
  funext j
  unfold Option.guard
  dsimp only
  exact (opt_fst _ _).trans (by congr)
 have ri:Rise (lv.map (·.1)):=by rw[fst];exact List.pairwise_lt_range.sublist List.filter_sublist
 refine⟨lv,?_,ri,fun j hj=>?_,?_,fun p hp h hh=>?_⟩
 ·unfold laid
  rw[e]
  rfl
 ·rw[fst]at hj
  have:=List.mem_range.mp (List.mem_filter.mp hj).1
  omega
 ·have nd1:lv.Nodup:=by
   have:(lv.map (·.1)).Nodup:=ri.imp (fun h=>Nat.ne_of_lt h)
   unfold List.Nodup at this
   rw[List.pairwise_map]at this
   exact this.imp fun h z=>h (by rw[z])
  have nd:(lv.map (·.2)).Nodup:=by
   unfold List.Nodup
   rw[List.pairwise_map]
   refine List.Pairwise.imp_of_mem ?_ nd1
   intro a b ha hb hab z
   obtain⟨_,q1⟩:=(mem a).mp ha
   obtain⟨_,q2⟩:=(mem b).mp hb
   rw[←z]at q2
   exact hab (Prod.ext (O.inj _ _ _ q1 q2) z)
  refine (List.perm_ext_iff_of_nodup nd List.nodup_range).mpr fun a=>⟨fun h=>?_,fun h=>?_⟩
  ·obtain⟨p,hp,rfl⟩:=List.mem_map.mp h
   have:=O.lt _ _ ((mem p).mp hp).2
   exact List.mem_range.mpr (by simpa using this)
  ·have ha:=List.mem_range.mp h
   obtain⟨n,n1,n2,_⟩:=O.ex a hs[a] (by rw[Array.getElem?_toList];exact Array.getElem?_eq_getElem ha)
   refine List.mem_map.mpr ⟨(_,a),(mem _).mpr ⟨?_,n2⟩,rfl⟩
   have:=(Array.getElem?_eq_some_iff.mp n2).1
   rw[O.sz]at this
   exact this
 ·obtain⟨p1,p2⟩:=(mem p).mp hp
  obtain⟨n,n1,n2,n3⟩:=O.ex p.2 h (by rw[Array.getElem?_toList];exact hh)
  have ej:=O.inj _ _ _ n2 p2
  refine⟨n,n1,ej,fun k hk=>?_⟩
  have oc:=n3 k hk
  have hz:(itA m k (stH m h)).j<ow.size:=by
   rw[O.sz]
   have:∀ k i pb,i<m+1→(itA m k (stP m i pb)).j<m+1:=by
    intro k
    induction k using Nat.strongRecOn with
    | ind k ih =>
     intro i pb hi
     by_cases z:k≤runEnd m i-i
     ·rw[run_in k z]
      show i+k<m+1
      unfold runEnd at z
      split at z<;>omega
     ·obtain⟨q,rfl⟩:∃ q,k=(runEnd m i-i+1)+q:=⟨k-(runEnd m i-i+1),by omega⟩
      rw[itA_add,run_out]
      exact ih q (by omega) _ _ (Nat.mod_lt _ (by omega))
   exact this k _ _ (Nat.mod_lt _ (by omega))
  obtain⟨a,ha⟩:=(occ_iff hz).mp oc
  exact List.mem_map.mpr ⟨(_,a),(mem _).mpr ⟨by rw[O.sz]at hz;exact hz,ha⟩,rfl⟩
end Wz
namespace Wz
open PySem PySem.SetTable
structure TabW (t:SetTable)(es:Array (Int×Value)):Prop where
 dm:t.dummies = #[]
 sz:t.place.size=es.size
 ri:Rise t.place.toList
 le:∀ j∈t.place.toList,j≤t.mask
 tm:TabM t.mask
 lm:es.size≤t.mask
 fd:∀ p∈t.place.toList.zip es.toList,∃ n,n<10*turns t.mask∧(itA t.mask n (stH t.mask p.2.1)).j=p.1∧∀ k,k<n→(itA t.mask k (stH t.mask p.2.1)).j∈t.place.toList
def TabN (m n:Nat):Prop:=(m=7∧n≤4)∨(m=31∧n≤18)∨(m=127∧n≤76)
theorem TabW.fill {t:SetTable}{es:Array (Int×Value)}(T:TabW t es):t.fill=es.size:=by unfold SetTable.fill;rw[T.dm,T.sz];rfl
theorem TabW.fits {t:SetTable}{es:Array (Int×Value)}(T:TabW t es):t.fits es.size=true:=by
 unfold SetTable.fits
 rw[T.fill,T.sz]
 simp[T.lm]
theorem TabW.hole {t:SetTable}{es:Array (Int×Value)}(T:TabW t es)(h:Int):∃ N,N<10*turns t.mask∧t.slot (itA t.mask N (stH t.mask h)).j=.empty∧(itA t.mask N (stH t.mask h)).j∉t.place.toList∧(itA t.mask N (stH t.mask h)).j≤t.mask∧∀ k,k<N→∃ i,t.slot (itA t.mask k (stH t.mask h)).j=.live i:=by
 have ex:∃ j,j<t.mask+1∧j∉t.place.toList:=by
  by_cases z:∃ j,j<t.mask+1∧j∉t.place.toList
  ·exact z
  ·have:=nodup_lenN (l:=List.range (t.mask+1)) (m:=t.place.toList) List.nodup_range fun x hx=>Classical.byContradiction fun q=>z ⟨x,List.mem_range.mp hx,q⟩
   rw[List.length_range,Array.length_toList,T.sz]at this
   have:=T.lm
   omega
 obtain⟨j,hj,nj⟩:=ex
 obtain⟨n,hn,en⟩:=it_cover T.tm h hj
 obtain⟨N,hN,lN⟩:=least_nat (p:=fun n=>(itA t.mask n (stH t.mask h)).j∉t.place.toList) ⟨n,by rw[en];exact nj⟩
 have hNn:N≤n:=by
  by_cases z:N≤n
  ·exact z
  ·exact absurd (show (itA t.mask n (stH t.mask h)).j∉t.place.toList by rw[en];exact nj) (lN n (by omega))
 have jl:∀ k i pb,i<t.mask+1→(itA t.mask k (stP t.mask i pb)).j<t.mask+1:=by
  intro k
  induction k using Nat.strongRecOn with
  | ind k ih =>
   intro i pb hi
   by_cases z:k≤runEnd t.mask i-i
   ·rw[run_in k z]
    show i+k<t.mask+1
    unfold runEnd at z
    split at z<;>omega
   ·obtain⟨q,rfl⟩:∃ q,k=(runEnd t.mask i-i+1)+q:=⟨k-(runEnd t.mask i-i+1),by omega⟩
    rw[itA_add,run_out]
    exact ih q (by omega) _ _ (Nat.mod_lt _ (by omega))
 refine⟨N,by omega,((slot_of T.dm T.ri _).2).mpr hN,hN,Nat.lt_succ_iff.mp (jl N _ _ (Nat.mod_lt _ (by omega))),fun k hk=>?_⟩
 have hk2:(itA t.mask k (stH t.mask h)).j∈t.place.toList:=Classical.byContradiction (lN k hk)
 obtain⟨i,hi⟩:=List.getElem?_of_mem hk2
 exact⟨i,((slot_of T.dm T.ri _).1 i).mpr (by rw[←Array.getElem?_toList];exact hi)⟩
theorem TabW.free {t:SetTable}{es:Array (Int×Value)}(T:TabW t es)(h:Int):∃ N,N<10*turns t.mask∧t.freeSlot h=some ((itA t.mask N (stH t.mask h)).j,false)∧(itA t.mask N (stH t.mask h)).j∉t.place.toList∧(itA t.mask N (stH t.mask h)).j≤t.mask∧∀ k,k<N→(itA t.mask k (stH t.mask h)).j∈t.place.toList:=by
 obtain⟨N,h1,h2,h3,h5,h4⟩:=T.hole h
 refine⟨N,h1,?_,h3,h5,fun k hk=>?_⟩
 ·unfold freeSlot probe
  rw[probeStart_eq,go_empty h1 (fun k hk=>?_) h2]
  ·rfl
  ·obtain⟨i,hi⟩:=h4 k hk
   refine⟨i,hi,?_⟩
   rw[beq_eq_false_iff_ne]
   omega
 ·obtain⟨i,hi⟩:=h4 k hk
  have:=((slot_of T.dm T.ri _).1 i).mp hi
  exact List.mem_of_getElem? (i:=i) (by rw[Array.getElem?_toList];exact this)
theorem zip_ins {α β:Type}(l:List α)(m:List β)(p:Nat)(x:α)(y:β)(h:l.length=m.length):(l.take p++x::l.drop p).zip (m.take p++y::m.drop p)=(l.zip m).take p++(x,y)::(l.zip m).drop p:=by
 rw[List.zip_append (by rw[List.length_take,List.length_take,h]),List.zip_cons_cons]
 show List.zipWith Prod.mk _ _++_::List.zipWith Prod.mk _ _=(List.zipWith Prod.mk l m).take p++(x,y)::(List.zipWith Prod.mk l m).drop p
 rw[List.take_zipWith,List.drop_zipWith]
theorem fm_map {α β:Type}{f:α→Option β}{g:α→β}:∀ {l:List α},(∀ p∈l,f p=some (g p))→l.filterMap f=l.map g
 | [],_=>rfl
 | a::l,h=>by
  rw[List.filterMap_cons_some (h a List.mem_cons_self),fm_map fun p hp=>h p (List.mem_cons_of_mem _ hp)]
  rfl
theorem TabW.put {t:SetTable}{es:Array (Int×Value)}(T:TabW t es)(h:Int)(x:Value)(hl:es.size+1≤t.mask){N:Nat}(hN:N<10*turns t.mask)(nj:(itA t.mask N (stH t.mask h)).j∉t.place.toList)(jm:(itA t.mask N (stH t.mask h)).j≤t.mask)(hk:∀ k,k<N→(itA t.mask k (stH t.mask h)).j∈t.place.toList) :
  TabW (t.put (itA t.mask N (stH t.mask h)).j).1 (insertAt es (t.put (itA t.mask N (stH t.mask h)).j).2 (h,x))∧(t.put (itA t.mask N (stH t.mask h)).j).1.mask=t.mask∧(t.put (itA t.mask N (stH t.mask h)).j).1.plain=t.plain∧(t.put (itA t.mask N (stH t.mask h)).j).1.led=t.led∧(insertAt es (t.put (itA t.mask N (stH t.mask h)).j).2 (h,x)).size=es.size+1:=by
 obtain⟨j,ej⟩:∃ j,j=(itA t.mask N (stH t.mask h)).j:=⟨_,rfl⟩
 rw[←ej]at nj jm ⊢
 obtain⟨b1,b2,b3⟩:=below_is (j:=j) T.ri
 have ep:(t.put j).1.place.toList=t.place.toList.take (below t.place j)++j::t.place.toList.drop (below t.place j):=toList_insertAt _ _ _
 have ee:(insertAt es (t.put j).2 (h,x)).toList=es.toList.take (below t.place j)++(h,x)::es.toList.drop (below t.place j):=toList_insertAt _ _ _
 have sz1:(insertAt es (t.put j).2 (h,x)).size=es.size+1:=by
  rw[←Array.length_toList,ee,List.length_append,List.length_take,List.length_cons,List.length_drop,Array.length_toList]
  have:=T.sz
  omega
 have memp:∀ q,q∈(t.put j).1.place.toList↔q=j∨q∈t.place.toList:=fun q=>by
  rw[ep,List.mem_append,List.mem_cons]
  have e:=List.take_append_drop (below t.place j) t.place.toList
  constructor
  ·rintro (z | z | z)
   ·exact .inr (List.mem_of_mem_take z)
   ·exact .inl z
   ·exact .inr (List.mem_of_mem_drop z)
  ·rintro (z | z)
   ·exact .inr (.inl z)
   ·rw[←e]at z
    rcases List.mem_append.mp z with z | z
    ·exact .inl z
    ·exact .inr (.inr z)
 refine⟨⟨?_,?_,?_,fun q hq=>?_,T.tm,by rw[sz1];exact hl,fun p hp=>?_⟩,rfl,rfl,rfl,sz1⟩
 ·show (if has t.dummies j then _ else t.dummies)=_
  rw[T.dm,has_none,if_neg Bool.false_ne_true]
 ·rw[←Array.length_toList,ep,sz1,List.length_append,List.length_take,List.length_cons,List.length_drop,Array.length_toList,T.sz]
  rw[T.sz]at b1
  omega
 ·unfold Rise
  rw[ep,List.pairwise_append]
  have lt1:∀ a∈t.place.toList.take (below t.place j),a<j:=fun a ha=>by
   obtain⟨i,hi⟩:=List.getElem?_of_mem ha
   rw[List.getElem?_take]at hi
   split at hi
   ·rename_i hib
    rw[Array.getElem?_toList]at hi
    obtain⟨q1,q2⟩:=Array.getElem?_eq_some_iff.mp hi
    rw[←q2];exact b2 i q1 hib
   ·cases hi
  have lt2:∀ a∈t.place.toList.drop (below t.place j),j<a:=fun a ha=>by
   obtain⟨i,hi⟩:=List.getElem?_of_mem ha
   rw[List.getElem?_drop,Array.getElem?_toList]at hi
   obtain⟨q1,q2⟩:=Array.getElem?_eq_some_iff.mp hi
   have:=b3 _ q1 (by omega)
   rw[q2]at this
   rcases Nat.lt_or_eq_of_le this with z | z
   ·exact z
   ·exact absurd (by rw[z];exact List.mem_of_mem_drop ha) nj
  refine⟨T.ri.sublist (List.take_sublist _ _),List.pairwise_cons.mpr ⟨lt2,T.ri.sublist (List.drop_sublist _ _)⟩,fun a ha b hb=>?_⟩
  rcases List.mem_cons.mp hb with z | z
  ·rw[z];exact lt1 a ha
  ·exact Nat.lt_trans (lt1 a ha) (lt2 b z)
 ·rcases (memp q).mp hq with z | z
  ·rw[z];exact jm
  ·exact T.le q z
 ·rw[ep,ee,zip_ins _ _ _ _ _ (by rw[Array.length_toList,Array.length_toList,T.sz])]at hp
  have old:∀ p∈t.place.toList.zip es.toList,∃ n,n<10*turns t.mask∧(itA t.mask n (stH t.mask p.2.1)).j=p.1∧∀ k,k<n→(itA t.mask k (stH t.mask p.2.1)).j∈(t.put j).1.place.toList:=fun p hp=>by
   obtain⟨n,n1,n2,n3⟩:=T.fd p hp
   exact⟨n,n1,n2,fun k hk=>(memp _).mpr (.inr (n3 k hk))⟩
  rcases List.mem_append.mp hp with z | z
  ·exact old p (List.mem_of_mem_take z)
  ·rcases List.mem_cons.mp z with z | z
   ·rw[z]
    exact⟨N,hN,ej.symm,fun k hk'=>(memp _).mpr (.inr (hk k hk'))⟩
   ·exact old p (List.mem_of_mem_drop z)
theorem above20:sizeAbove 20=32:=by decide
theorem above76:sizeAbove 76=128:=by decide
theorem TabW.full {t:SetTable}{es:Array (Int×Value)}(T:TabW t es){n:Nat}(hn:TabN t.mask n)(he:es.size=n+1)(h70:n+1≤70):(t.tooFull=false∧TabN t.mask es.size)∨(t.tooFull=true∧∃ m,TabM m∧sizeAbove (grown es.size)=m+1∧TabN m es.size):=by
 have ef:t.tooFull=decide ((n+1)*5≥t.mask*3):=by unfold SetTable.tooFull;rw[T.fill,he]
 rw[ef,he]
 unfold TabN at *
 rcases hn with ⟨h1,h2⟩ | ⟨h1,h2⟩ | ⟨h1,h2⟩
 ·by_cases z:n+1≤4
  ·exact .inl ⟨decide_eq_false (by rw[h1];omega),.inl ⟨h1,z⟩⟩
  ·have e:n+1=5:=by omega
   rw[e]
   exact .inr ⟨decide_eq_true (by rw[h1];omega),31,.inr (.inl rfl),above20,.inr (.inl ⟨rfl,by omega⟩)⟩
 ·by_cases z:n+1≤18
  ·exact .inl ⟨decide_eq_false (by rw[h1];omega),.inr (.inl ⟨h1,z⟩)⟩
  ·have e:n+1=19:=by omega
   rw[e]
   exact .inr ⟨decide_eq_true (by rw[h1];omega),127,.inr (.inr rfl),above76,.inr (.inr ⟨rfl,by omega⟩)⟩
 ·exact .inl ⟨decide_eq_false (by rw[h1];omega),.inr (.inr ⟨h1,by omega⟩)⟩
theorem TabN.lm {m n:Nat}(h:TabN m n):n+1≤m:=by unfold TabN at h;omega
theorem TabW.relay {t:SetTable}{es:Array (Int×Value)}(T:TabW t es){m wn:Nat}(hm:TabM m)(hw:sizeAbove wn=m+1)(hN:TabN m es.size):∃ t' order,t.relaid (es.map (·.1)) wn=some (t',order)∧order.toList.Perm (List.range es.size)∧(order.filterMap (es[·]?)).toList.Perm es.toList ∧
  (order.filterMap (es[·]?)).size=es.size∧TabW t' (order.filterMap (es[·]?))∧t'.mask=m∧t'.plain=t.plain∧t'.led=t.led:=by
 have hl:(es.map (·.1)).size≤m:=by rw[Array.size_map];have:=hN.lm;omega
 obtain⟨lv,e,ri,le,pm,fd⟩:=laid_of (fg:=t.finger) (mv:=t.movedTo m) (ld:=t.led) (pl:=t.plain) hm (es.map (·.1)) hl
 rw[Array.size_map]at pm
 have hlt:∀ p∈lv,p.2<es.size:=fun p hp=>List.mem_range.mp (pm.mem_iff.mp (List.mem_map_of_mem hp))
 have efm:((lv.map (·.2)).toArray.filterMap (es[·]?)).toList=lv.map fun p=>es.getD p.2 (0,.none):=by
  rw[Array.toList_filterMap,List.filterMap_map]
  refine fm_map fun p hp=>?_
  have h:=hlt p hp
  show es[p.2]? = some (es.getD p.2 (0,.none))
  rw[Array.getElem?_eq_getElem h]
  simp[Array.getD,h]
 have pe:((lv.map (·.2)).toArray.filterMap (es[·]?)).toList.Perm es.toList:=by
  rw[Array.toList_filterMap]
  exact (pm.filterMap _).trans (by rw[filterMap_getElem?_range])
 have sz:((lv.map (·.2)).toArray.filterMap (es[·]?)).size=es.size:=by rw[←Array.length_toList,pe.length_eq,Array.length_toList]
 refine⟨{ mask:=m,place:=(lv.map (·.1)).toArray,dummies:=#[],finger:=t.finger,led:=t.led,moves:=t.movedTo m,plain:=t.plain },(lv.map (·.2)).toArray,?_,by simpa using pm,pe,sz,⟨rfl,?_,ri,le,hm,by rw[sz];show es.size≤m;have:=hN.lm;omega,fun q hq=>?_⟩,rfl,rfl,rfl⟩
 ·unfold relaid
  rw[hw]
  exact e
 ·rw[sz]
  show ((lv.map (·.1)).toArray).size=_
  have:=pm.length_eq
  rw[List.length_map,List.length_range]at this
  simpa using this
 ·rw[efm]at hq
  have hq:q∈(lv.map (·.1)).zip (lv.map fun p=>es.getD p.2 (0,.none)):=hq
  rw[List.zip_map']at hq
  obtain⟨p,hp,rfl⟩:=List.mem_map.mp hq
  have h:=hlt p hp
  refine fd p hp _ ?_
  rw[Array.getElem?_map,Array.getElem?_eq_getElem h]
  simp[Array.getD,h]
theorem TabW.fresh (led:Bool):TabW (SetTable.fresh 0 0 led) #[]∧TabN (SetTable.fresh 0 0 led).mask 0:=by
 have z:(SetTable.fresh 0 0 led).place.toList=[]:=rfl
 refine⟨⟨rfl,rfl,by rw[z];exact List.Pairwise.nil,fun j hj=>by rw[z]at hj;simp at hj,.inl rfl,Nat.zero_le _,fun p hp=>by rw[z]at hp;simp at hp⟩,.inl ⟨rfl,Nat.zero_le _⟩⟩
end Wz
namespace Wz
open PySem PySem.Spec PyProof.Rows L2 PySem.SetTable
abbrev sObj (es:Array (Int×Value))(ep:Nat)(t:SetTable):Obj:={ cls:=.type "set",dict:=none,data:=.set es ep t }
def BT (w:World):Bool:=w.params.followText "set-order"
def intOf:Value→Int
 | .int n _=>n
 | _=>0
structure ISt (P:Program)(w:World)(es:Array (Int×Value))(t:SetTable)(L:List Int):Prop where
 T:TabW t es
 N:TabN t.mask es.size
 pl:t.plain=true
 ld:t.led = !BT w
 el:∀ e∈es.toList,∃ n tk,e=((intKind P w).hash n,.int n tk)
 pm:(es.toList.map fun e=>intOf e.2).Perm L
 nd:L.Nodup
section
variable {P:Program}{w:World}{A:Around}{E:Value→Shared→Prop}{s:Shared}{a:Addr}{es:Array (Int×Value)}{ep:Nat}{t:SetTable}{L:List Int}
theorem ISt.size (S:ISt P w es t L):es.size=L.length:=by have:=S.pm.length_eq;rw[List.length_map,Array.length_toList]at this;exact this
theorem ISt.elems (S:ISt P w es t L):ElemsOf (intKind P w) es.toList:=fun e he=>by
 obtain⟨n,tk,rfl⟩:=S.el e he
 exact⟨⟨n,by show Value.isInt n (.int n tk)=true;simp[Value.isInt],rfl⟩,rfl⟩
theorem ISt.mem (S:ISt P w es t L)(k:Int):(∃ e∈es.toList,(intKind P w).is k e.2=true)↔k∈L:=by
 rw[←S.pm.mem_iff,List.mem_map]
 constructor
 ·rintro⟨e,he,hk⟩
  obtain⟨n,tk,rfl⟩:=S.el e he
  refine⟨_,he,?_⟩
  have hk:Value.isInt k (.int n tk)=true:=hk
  simp[Value.isInt]at hk
  exact hk
 ·rintro⟨e,he,hk⟩
  obtain⟨n,tk,rfl⟩:=S.el e he
  refine⟨_,he,?_⟩
  have hk:n=k:=hk
  show Value.isInt k (.int n tk)=true
  simp[Value.isInt,hk]
theorem ISt.lt (S:ISt P w es t L):es.size<scanBound:=by
 have:=S.N
 unfold TabN at this
 have e:scanBound=4096:=rfl
 rw[e];omega
theorem ISt.setOf (S:ISt P w es t L)(ho:s.heap.get? a=some (sObj es ep t)):s.heap.SetOf (intKind P w) a (fun k=>decide (k∈L)) L.length :=
 ⟨_,es,ep,t,ho,⟨rfl,rfl,rfl⟩,rfl,S.elems,fun k=>by rw[decide_eq_true_iff];exact (S.mem k).symm,S.lt,S.T.fits,S.size⟩
theorem sput (es':Array (Int×Value))(t':SetTable){h:Heap}(ho:h.get? a=some (sObj es ep t)):(h.update a (Obj.putSet es' t')).get? a=some (sObj es' (ep+1) t'):=by
 have:=Heap.get?_update_self (Obj.putSet es' t') ho (by rw[putSet_of es' t' rfl];rfl)
 rw[putSet_of es' t' rfl]at this
 exact this
theorem ISt.fresh (led:Bool)(h:led = !BT w):ISt P w #[] (.fresh 0 0 led) []:=⟨(TabW.fresh led).1,(TabW.fresh led).2,rfl,h,fun e he=>by simp at he,.refl _,List.nodup_nil⟩
theorem ISt.grow {t':SetTable}{es':Array (Int×Value)}{n:Int}{tk:Tok}(S:ISt P w es t L)(hn:n∉L)(T':TabW t' es')(N':TabN t'.mask es'.size)(h1:t'.plain=t.plain)(h2:t'.led=t.led)(pm:es'.toList.Perm (es.push ((intKind P w).hash n,.int n tk)).toList):ISt P w es' t' (L++[n]):=by
 refine⟨T',N',h1.trans S.pl,h2.trans S.ld,fun e he=>?_,?_,?_⟩
 ·have:=pm.mem_iff.mp he
  rw[Array.toList_push]at this
  rcases List.mem_append.mp this with z | z
  ·exact S.el e z
  ·exact⟨n,tk,List.mem_singleton.mp z⟩
 ·refine (pm.map _).trans ?_
  rw[Array.toList_push,List.map_append]
  exact S.pm.append (.refl _)
 ·exact List.nodup_append.mpr ⟨S.nd,(by simp),fun x hx y hy z=>hn (by rw[←List.mem_singleton.mp hy,←z];exact hx)⟩
theorem iset_add {n:Int}{tk:Tok}{Q:Bool→Shared→Prop}(ho:s.heap.get? a=some (sObj es ep t))(S:ISt P w es t L)(hl:L.length+1≤70)
  (h:∀ h' es' ep' t',Heap.SameBut a s.heap h'→h'.get? a=some (sObj es' ep' t')→ISt P w es' t' (if n∈L then L else L++[n])→Q (!decide (n∈L)) { s with heap:=h' }) :
  wpAny (model P w) A (setAddHashed a (.int n tk) ((intKind P w).hash n)) Q E s:=by
 have hkey:(intKind P w).is n (.int n tk)=true:=by show Value.isInt n (.int n tk)=true;simp[Value.isInt]
 unfold setAddHashed setAddHashedIn
 refine wpAny_holding (wpAny_bind (wpAny_setState_of ho rfl S.T.fits ?_))
 dsimp only
 rw[byScan_of rfl S.lt S.elems]
 simp only[↓reduceIte]
 unfold setAddByScan
 refine wpAny_bind ?_
 refine wpAny_bind (wpAny_rule ?_)
 refine wpAny_bind (wpAny_setScan_of hkey ho rfl S.T.fits S.elems ?_)
 have hk:=S.mem n
 cases hr:List.findIdx? (fun e=>(intKind P w).is n e.2) es.toList with
 | some j =>
  dsimp only
  obtain⟨hj,hpj,_⟩:=List.findIdx?_eq_some_iff_getElem.mp hr
  have hn:n∈L:=hk.mp ⟨_,List.getElem_mem hj,hpj⟩
  refine wpAny_pure (wpAny_pure ?_)
  have e:s={ s with heap:=s.heap }:=by cases s;rfl
  have:=h s.heap es ep t (Heap.SameBut.refl a s.heap) ho (by rw[if_pos hn];exact S)
  rw[decide_eq_true hn]at this
  rw[e];exact this
 | none =>
  dsimp only
  have hn:n∉L:=fun z=>by
   obtain⟨e,he,hp⟩:=hk.mpr z
   have:=List.findIdx?_eq_none_iff.mp hr e he
   rw[hp]at this;exact Bool.noConfusion this
  rw[if_neg hn,decide_eq_false hn]at h
  obtain⟨N,h1,h2,h3,h4,h5⟩:=S.T.free ((intKind P w).hash n)
  have e2:t.fits es.size=true:=S.T.fits
  obtain⟨T1,m1,p1,l1,z1⟩:=S.T.put ((intKind P w).hash n) (.int n tk) S.N.lm h1 h3 h4 h5
  obtain⟨j,ej⟩:∃ j,j=(itA t.mask N (stH t.mask ((intKind P w).hash n))).j:=⟨_,rfl⟩
  rw[←ej]at h2 T1 m1 p1 l1 z1
  have eL:layNew t es ((intKind P w).hash n) (.int n tk)=(insertAt es (t.put j).2 ((intKind P w).hash n,.int n tk),(t.put j).1,false,false):=by
   unfold layNew
   rw[h2]
   dsimp only
   unfold SetTable.orStandIn
   rw[T1.fits]
   rfl
  rw[eL]
  have pm1:(insertAt es (t.put j).2 ((intKind P w).hash n,.int n tk)).toList.Perm (es.push ((intKind P w).hash n,.int n tk)).toList:=insertAt_perm _ _ _
  generalize insertAt es (t.put j).2 ((intKind P w).hash n,.int n tk)=es1 at T1 z1 pm1 ⊢
  generalize (t.put j).1=t1 at T1 m1 p1 l1 ⊢
  have zb:es1.size≤sizeLine:=by rw[z1,S.size,sizeLine_eq];omega
  refine wpAny_bind ?_
  show wpAny (model P w) _ (pure ()) _ _ _
  refine wpAny_pure ?_
  rw[p1,S.pl,if_pos rfl]
  refine wpAny_bind ?_
  rw[hashByValue_scannable 8 rfl]
  refine wpAny_pure ?_
  have pk:plainKind (.int n tk)=true:=rfl
  rw[pk,if_pos rfl]
  refine wpAny_bind (wpAny_storeSet_of ho rfl ?_ zb)
  have ho1:=sput es1 t1 ho
  have sb1:=Heap.SameBut.update s.heap a (Obj.putSet es1 t1)
  rcases T1.full (n:=es.size) (by rw[m1];exact S.N) z1 (by rw[S.size];exact hl) with ⟨f1,f2⟩ | ⟨f1,m,f2,f3,f4⟩
  ·rw[f1]
   simp only[Bool.not_false,Bool.true_and,Bool.false_eq_true,if_false]
   exact wpAny_pure (wpAny_pure (h _ es1 (ep+1) t1 sb1 ho1 (S.grow hn T1 f2 p1 l1 pm1)))
  ·rw[f1]
   simp only[Bool.not_false,Bool.true_and,if_true]
   obtain⟨t2,order,r1,r2,r3,r4,r5,r6,r7,r8⟩:=T1.relay f2 f3 f4
   have eR:relayAll t1 es1 (grown es1.size)=(order.filterMap (es1[·]?),t2,false):=by
    unfold relayAll
    rw[r1]
    dsimp only
    have c1:coversAll order es1.size=true:=by unfold coversAll;exact List.isPerm_iff.mpr r2
    rw[c1,r5.fits]
    rfl
   rw[eR]
   refine wpAny_bind ?_
   show wpAny (model P w) _ (pure ()) _ _ _
   refine wpAny_pure ?_
   refine wpAny_bind (wpAny_storeSet_of ho1 rfl ?_ (by rw[r4];exact zb))
   have ho2:=sput (order.filterMap (es1[·]?)) t2 ho1
   refine wpAny_pure (wpAny_pure (h _ _ (ep+1+1) t2 (sb1.trans (Heap.SameBut.update _ a _)) ho2 (S.grow hn r5 (by rw[r6,r4];exact f4) (r7.trans p1) (r8.trans l1) (r3.trans pm1))))
end
end Wz
namespace Wz
open PySem PySem.Spec PyProof.Rows L2 PySem.SetTable
theorem slot_set_it_next:Slot "set_iterator" "__next__" "set_iterator.__next__" :=
 .of (owner:="set_iterator") (n:="__next__") (by rw[typeLookup_type,builtinLookup_eq_fast];kernel_rfl) (by decide +kernel) (by decide +kernel) (by decide +kernel)
  (by first | exact .inl (by decide +kernel) | exact .inr (by decide +kernel)) (by rw[isSubtype_type];kernel_rfl)
theorem slot_set_it_iter:Slot "set_iterator" "__iter__" "set_iterator.__iter__" :=
 .of (owner:="set_iterator") (n:="__iter__") (by rw[typeLookup_type,builtinLookup_eq_fast];kernel_rfl) (by decide +kernel) (by decide +kernel) (by decide +kernel)
  (by first | exact .inl (by decide +kernel) | exact .inr (by decide +kernel)) (by rw[isSubtype_type];kernel_rfl)
theorem entry_set_it_next:entryFor table "set_iterator.__next__" = some Builtin.«set_iterator.__next__»:=entryFor_of_tree (by kernel_rfl)
theorem entry_set_it_iter:entryFor table "set_iterator.__iter__" = some Builtin.«dict_keyiterator.__iter__»:=entryFor_alias (id':="dict_keyiterator.__iter__") (by kernel_rfl) rfl (by decide +kernel) (by kernel_rfl)
theorem entry_set_iterS:entryFor table "set.__iter__" = some Builtin.«frozenset.__iter__»:=entryFor_alias (id':="frozenset.__iter__") (by kernel_rfl) rfl (by decide +kernel) (by kernel_rfl)
theorem args_set_it_next (a:Value):argsOk "set_iterator.__next__" ⟨[a],[]⟩:=by unfold argsOk;kernel_rfl
theorem args_set_it_iter (a:Value):argsOk "set_iterator.__iter__" ⟨[a],[]⟩:=by unfold argsOk;kernel_rfl
abbrev itObj (sl i:Nat)(d:Addr)(n ep:Nat):Obj:={ cls:=.type "set_iterator",data:=.fields #[.int sl 0,.int i 0,.ref d,.int n 0,.int ep 0] }
def wkOf (w:World)(d:Addr)(ep:Nat)(es:Array (Int×Value)):Array (Int×Value):=if BT w=true then pickOrder (w.params.setOrder d ep) es else es
theorem cons_erase_perm {α:Type}:∀ {l:List α}{i:Nat}(h:i<l.length),([l[i]]++l.eraseIdx i).Perm l
 | a::l,0,_=>.refl _
 | a::l,i+1,h=>(List.Perm.swap a _ _).trans (.cons a (cons_erase_perm (l:=l) (i:=i) (by simpa using h)))
theorem pick_go {α:Type}{next:Nat→Nat}:∀ (f k:Nat)(left:List α)(out:Array α),left.length=f→(pickOrder.go next f k left out).toList.Perm (out.toList++left)
 | 0,k,left,out,h=>by
  rw[List.eq_nil_of_length_eq_zero h,List.append_nil]
  exact .refl _
 | f+1,k,left,out,h=>by
  unfold pickOrder.go
  have hi:next k%left.length<left.length:=Nat.mod_lt _ (by omega)
  rw[List.getElem?_eq_getElem hi]
  dsimp only
  refine (pick_go f (k+1) _ _ (by rw[List.length_eraseIdx_of_lt hi];omega)).trans ?_
  rw[Array.toList_push,List.append_assoc]
  refine List.Perm.append_left _ ?_
  exact cons_erase_perm hi
theorem wk_perm (w:World)(d:Addr)(ep:Nat)(es:Array (Int×Value)):(wkOf w d ep es).toList.Perm es.toList:=by
 unfold wkOf
 split
 ·exact pick_go _ 0 es.toList #[] (by simp)
 ·exact .refl _
theorem wk_size (w:World)(d:Addr)(ep:Nat)(es:Array (Int×Value)):(wkOf w d ep es).size=es.size:=by rw[←Array.length_toList,(wk_perm w d ep es).length_eq,Array.length_toList]
def slOf (w:World)(t:SetTable)(i:Nat):Nat:=if BT w=true then 0 else match i with | 0=>0 | i+1=>t.place.getD i 0+1
theorem below_sl {w:World}{t:SetTable}(hr:Rise t.place.toList)(hb:BT w=false){i:Nat}(hi:i≤t.place.size):below t.place (slOf w t i)=i:=by
 unfold slOf
 rw[hb,if_neg Bool.false_ne_true]
 cases i with
 | zero =>
  obtain⟨b1,b2,b3⟩:=below_is (j:=0) hr
  show below t.place 0=0
  rcases Nat.eq_zero_or_pos (below t.place 0) with z | z
  ·exact z
  ·have:=b2 0 (by omega) z
   omega
 | succ i =>
  have hg:t.place.getD i 0=t.place[i]'(by omega):=by simp[Array.getD,show i<t.place.size by omega]
  show below t.place (t.place.getD i 0+1)=i+1
  rw[hg]
  obtain⟨b1,b2,b3⟩:=below_is (j:=t.place[i]'(by omega)+1) hr
  rcases Nat.lt_trichotomy (below t.place (t.place[i]'(by omega)+1)) (i+1) with z | z | z
  ·have:=b3 i (by omega) (by omega)
   omega
  ·exact z
  ·have q1:=b2 (i+1) (by omega) (by omega)
   have q2:=rise_get hr (show i<i+1 by omega) (show i+1<t.place.size by omega)
   omega
section
variable {P:Program}{w:World}{A:Around}{E:Value→Shared→Prop}{s:Shared}{a d I:Addr}{es:Array (Int×Value)}{ep:Nat}{t:SetTable}{L:List Int}
theorem iset_iter {Q:Value→Shared→Prop}(ho:s.heap.get? d=some (sObj es ep t))(S:ISt P w es t L)(hQ:Q (.ref s.heap.objs.size) { s with heap:=s.heap.push (itObj 0 0 d es.size ep) }):wpAny (model P w) A (pyIter (.ref d)) Q E s:=by
 have hT:s.TypeIs (.ref d) "set":=⟨_,ho,rfl⟩
 refine wpAny_pyIter_slot hT F.slot_set_iter (wpAny_call_entry F.slot_set_iter hT entry_set_iterS ?_ (F.args_set_iter_1 _))
 unfold Builtin.«frozenset.__iter__» Builtin.Frozenset.slot0 slotArgs
 simp only[List.isEmpty_nil,Bool.not_true,Bool.false_eq_true,↓reduceIte,bind_assoc,List.length_nil,bne_self_eq_false]
 unfold Builtin.Frozenset.addrOf Builtin.Frozenset.sizeOf
 refine wpAny_bind (wpAny_pure ?_)
 try dsimp only
 refine wpAny_bind (wpAny_pure ?_)
 refine wpAny_bind (wpAny_bind (wpAny_setEntries_of ho rfl S.T.fits (wpAny_pure ?_)))
 unfold setDrawn setsByText
 refine wpAny_bind (wpAny_bind (wpAny_setState_of ho rfl S.T.fits (wpAny_bind (wpAny_bind (wpAny_askSetting (wpAny_pure ?_))))))
 dsimp only
 refine wpAny_pure ?_
 rw[if_neg (fun z=>by
  have z:(!(BT w)&&(!t.plain&&decide (es.size>1)))=true:=z
  rw[S.pl]at z
  simp at z)]
 refine wpAny_bind (wpAny_pure (wpAny_bind (wpAny_setEpoch_of ho rfl S.T.fits ?_)))
 unfold newFields
 refine wpAny_bind (wpAny_newObj_type (wpAny_pure ⟨_,rfl,"set_iterator",_,⟨_,Heap.get?_push_size _ rfl,rfl⟩,slot_set_it_next.lookup,?_⟩))
 exact hQ
theorem iset_next {Q:Option (Value×Nat)→Shared→Prop}{i:Nat}(ho:s.heap.get? d=some (sObj es ep t))(S:ISt P w es t L)(hi:i≤es.size)(h:Q ((wkOf w d ep es)[i]?.map fun e=>(e.2,slOf w t (i+1))) s):wpAny (model P w) A (setNext d (slOf w t i) i ep) Q E s:=by
 unfold setNext setsByText
 refine wpAny_bind (wpAny_setState_of ho rfl S.T.fits (wpAny_bind (wpAny_bind (wpAny_askSetting (wpAny_pure ?_)))))
 dsimp only
 unfold wkOf at h
 cases hb:BT w with
 | true =>
  rw[hb,if_pos rfl]at h
  have hb':(model P w).w.params.followText "set-order" = true:=hb
  rw[hb',if_pos rfl,if_neg (by simp)]
  unfold setWalk setsByText
  refine wpAny_bind (wpAny_bind (wpAny_setState_of ho rfl S.T.fits (wpAny_bind (wpAny_bind (wpAny_askSetting (wpAny_pure ?_))))))
  dsimp only
  rw[hb',if_pos rfl]
  refine wpAny_bind (wpAny_askSetting (wpAny_pure (wpAny_pure ?_)))
  have e1:∀ k,slOf w t k=0:=fun k=>by unfold slOf;rw[hb,if_pos rfl]
  rw[e1 (i+1)]at h
  rw[e1 i]
  exact h
 | false =>
  rw[hb,if_neg Bool.false_ne_true]at h
  have hb':(model P w).w.params.followText "set-order" = false:=hb
  rw[hb',if_neg Bool.false_ne_true]
  rw[if_neg (fun z=>by
   have z:(!t.plain&&decide (es.size>1))=true:=z
   rw[S.pl]at z
   simp at z)]
  refine wpAny_bind ?_
  have ld:t.led=true:=by rw[S.ld,hb];rfl
  show wpAny (model P w) A (if (!t.led&&!es.isEmpty)=true then _ else _) _ _ _
  rw[ld,if_neg (by simp)]
  refine wpAny_pure ?_
  rw[below_sl S.T.ri hb (by rw[S.T.sz];exact hi)]
  rcases Nat.lt_or_eq_of_le hi with z | z
  ·rw[Array.getElem?_eq_getElem z]at h ⊢
   rw[Array.getElem?_eq_getElem (show i<t.place.size by rw[S.T.sz];exact z)]
   have e2:slOf w t (i+1)=t.place[i]'(by rw[S.T.sz];exact z)+1:=by
    unfold slOf
    rw[hb,if_neg Bool.false_ne_true]
    show t.place.getD i 0+1=_
    simp[Array.getD,show i<t.place.size by rw[S.T.sz];exact z]
   rw[e2]at h
   exact wpAny_pure h
  ·rw[Array.getElem?_eq_none (by omega)]at h ⊢
   exact wpAny_pure h
theorem iset_item {Q:Option Value→Shared→Prop}{i:Nat}{e:Int×Value}(hit:s.heap.get? I=some (itObj (slOf w t i) i d es.size ep))(ho:s.heap.get? d=some (sObj es ep t))(S:ISt P w es t L)(hI:I≠d)(hx:(wkOf w d ep es)[i]? = some e)
  (hQ:∀ h',h'.get? I=some (itObj (slOf w t (i+1)) (i+1) d es.size ep)→Heap.SameBut I s.heap h'→Q (some e.2) { s with heap:=h' }):wpAny (model P w) A (pyNext (.ref I)) Q E s:=by
 have hT:s.TypeIs (.ref I) "set_iterator":=⟨_,hit,rfl⟩
 have hlt:i<es.size:=by rw[←wk_size w d ep es];exact (Array.getElem?_eq_some_iff.mp hx).1
 unfold pyNext
 refine wpAny_bind (wpAny_attempt (wpAny_callSpecial?_slot (name:=Str.ofString "__next__") hT slot_set_it_next (wpAny_call_entry slot_set_it_next hT entry_set_it_next ?go (args_set_it_next _))))
 case go =>
  unfold Builtin.«set_iterator.__next__» slotArgs
  refine wpAny_bind (wpAny_pure ?_)
  refine wpAny_bind (wpAny_fieldsOf hit rfl ?_)
  dsimp only
  refine wpAny_bind (wpAny_setEntries_of ho rfl S.T.fits ?_)
  rw[if_neg (by simp)]
  refine wpAny_bind ?_
  show wpAny (model P w) _ (setNext d (slOf w t i) i ep) _ _ _
  refine iset_next ho S (by omega) ?_
  rw[hx]
  show wpAny (model P w) A.in1 (setField (.ref I) 0 (rawInt (slOf w t (i+1))) >>= fun _=>setField (.ref I) 1 (rawInt ((i:Int)+1)) >>= fun _=>ret e.2) _ _ s
  refine wpAny_bind (wpAny_setField hit rfl (by simp) ?_)
  have h1:(s.heap.update I (Obj.mapFields (·.setIfInBounds 0 (rawInt (slOf w t (i+1)))))).get? I=some (itObj (slOf w t (i+1)) i d es.size ep):=by
   have:=Heap.get?_update_self (Obj.mapFields (·.setIfInBounds 0 (rawInt (slOf w t (i+1))))) hit rfl
   exact this
  refine wpAny_bind (wpAny_setField h1 rfl (by simp) ?_)
  have h2:=Heap.get?_update_self (Obj.mapFields (·.setIfInBounds 1 (rawInt ((i:Int)+1)))) h1 rfl
  refine wpAny_pure ⟨_,rfl,wpAny_pure (hQ _ h2 ((Heap.SameBut.update ..).trans (Heap.SameBut.update ..)))⟩
theorem iset_end {Q:Option Value→Shared→Prop}(hh:A.handled=none)(hit:s.heap.get? I=some (itObj (slOf w t es.size) es.size d es.size ep))(ho:s.heap.get? d=some (sObj es ep t))(S:ISt P w es t L)
  (hQ:∀ h',Heap.ExtBut I s.heap h'→Q none { s with heap:=h' }):wpAny (model P w) A (pyNext (.ref I)) Q E s:=by
 have hT:s.TypeIs (.ref I) "set_iterator":=⟨_,hit,rfl⟩
 unfold pyNext
 refine wpAny_bind (wpAny_attempt (wpAny_callSpecial?_slot (name:=Str.ofString "__next__") hT slot_set_it_next (wpAny_call_entry slot_set_it_next hT entry_set_it_next ?go (args_set_it_next _))))
 case go =>
  unfold Builtin.«set_iterator.__next__» slotArgs
  refine wpAny_bind (wpAny_pure ?_)
  refine wpAny_bind (wpAny_fieldsOf hit rfl ?_)
  dsimp only
  refine wpAny_bind (wpAny_setEntries_of ho rfl S.T.fits ?_)
  rw[if_neg (by simp)]
  refine wpAny_bind ?_
  show wpAny (model P w) _ (setNext d (slOf w t es.size) es.size ep) _ _ _
  refine iset_next ho S (Nat.le_refl _) ?_
  rw[Array.getElem?_eq_none (by rw[wk_size];exact Nat.le_refl _)]
  show wpAny _ _ (setField (.ref I) 2 .none >>= _) _ _ s
  refine wpAny_bind (wpAny_setField hit rfl (by simp) ?_)
  show wpAny _ _ (newExc (.type "StopIteration") [] >>= _) _ _ _
  refine wpAny_bind ?_
  simp only[newExc,newTuple]
  refine wpAny_bind (wpAny_newObj_type ?_ (by size_fits));refine wpAny_bind (m:=firstArgMember _ _) (wpAny_of_eq (a:=Value.none) (by first | rfl | (simp only[firstArgMember];rfl)) ?_)
  refine wpAny_newObj_type ?_ (by size_fits);simp only[raiseNew];refine wpAny_bind (wpAny_handled ?_);rw[show A.in1.handled=none from hh]
  refine wpAny_bind (wpAny_pure (wpAny_throw ?_));refine wpAny_bind (wpAny_isInstance (T:="StopIteration") (b:=true) ⟨_,Heap.get?_push_size _ rfl,rfl⟩ isSubtype_stop ?_)
  exact wpAny_pure (hQ _ (((Heap.SameBut.update ..).extBut.push _).push _))
theorem iset_self {Q:Value→Shared→Prop}{o:Obj}(hit:s.heap.get? I=some o)(hc:o.cls=.type "set_iterator")(h:Q (.ref I) s):wpAny (model P w) A (pyIter (.ref I)) Q E s:=by
 have hT:s.TypeIs (.ref I) "set_iterator":=⟨_,hit,hc⟩
 refine wpAny_pyIter_slot hT slot_set_it_iter (wpAny_call_entry slot_set_it_iter hT entry_set_it_iter ?_ (args_set_it_iter _))
 show wpAny _ _ (ret (.ref I)) _ _ s
 exact wpAny_pure ⟨_,rfl,"set_iterator",_,hT,slot_set_it_next.lookup,h⟩
theorem iset_hint {r:Addr}{Q:Bool→Shared→Prop}(hT:s.TypeIs (.ref r) "set")(h:Q false s):wpAny (model P w) A (Builtin.List.listLengthHint (.ref r)) Q E s:=by
 unfold Builtin.List.listLengthHint
 refine wpAny_bind (wpAny_specialOf hT PySem.F.slot_set_len.lookup ?_)
 generalize hid:("set.__len__" : String)=id0
 wp_delta
 rw[show splitId id0=some ("set","__len__") from by subst hid;decide +kernel]
 subst hid
 refine wpAny_bind (wpAny_isInstance (T:="set") (b:=true) hT (by rw[isSubtype_type];kernel_rfl) ?_)
 refine wpAny_ite_split (fun hab=>absurd hab (by decide)) (fun _=>?_)
 refine wpAny_ite_split (fun _=>?_) (fun hab=>absurd (by decide +kernel) hab)
 refine wpAny_bind (wpAny_typeOf hT ?_)
 exact wpAny_pure h
end
theorem iset_walks {P:Program}{w:World}{A:Around}{t:SetTable}{L:List Int}{es:Array (Int×Value)}(hh:A.handled=none)(I d:Addr)(hne:d≠I)(ep:Nat)(S:ISt P w es t L) :
  Walks P w A I [I,d] [I] es.size (fun i v=>∃ e,(wkOf w d ep es)[i]? = some e∧v=e.2) (fun i h=>h.get? I=some (itObj (slOf w t i) i d es.size ep)∧h.get? d=some (sObj es ep t)) where
 sub:=fun b hb=>by simp at hb;simp[hb]
 frame:=fun _ _ _ st hk=>⟨hk I (by simp) _ st.1,hk d (by simp) _ st.2⟩
 item:=fun i s Q E hi st hQ=>by
  have hw:i<(wkOf w d ep es).size:=by rw[wk_size];exact hi
  exact iset_item st.1 st.2 S hne.symm (Array.getElem?_eq_getElem hw) fun h' hit' hs'=>hQ _ h' s.toks ⟨_,Array.getElem?_eq_getElem hw,rfl⟩ ⟨hit',hs'.extBut d _ hne st.2⟩ fun b o hb e=>hs'.extBut b o (fun h=>hb (by simp[h])) e
 done:=fun s Q E st hQ=>iset_end hh st.1 st.2 S fun h' he'=>hQ h' s.toks fun b o hb e=>he' b o (fun h=>hb (by simp[h])) e
 self:=fun _ _ _ _ st hQ=>iset_self st.1 rfl hQ
theorem iset_src {P:Program}{w:World}{t:SetTable}{L:List Int}{es:Array (Int×Value)}{d:Addr}{ep:Nat}(S:ISt P w es t L):PySem.W.KdlSrc P w "set" d d es.size (fun i v=>∃ e,(wkOf w d ep es)[i]? = some e∧v=e.2) (fun h=>h.get? d=some (sObj es ep t)) where
 type:=fun _ hm=>⟨_,hm,rfl⟩
 there:=fun _ hm=>⟨Heap.lt_size hm,Heap.lt_size hm⟩
 keep:=fun _ _ hm hk=>hk d (.inl rfl) _ hm
 notList:=by decide
 notTuple:=by decide
 hint:=fun _ _ _ _ hm hq=>iset_hint ⟨_,hm,rfl⟩ hq
 iter:=fun _ _ hh hm=>⟨_,_,(fun _ _ hq=>iset_iter hm S hq),iset_walks hh _ d (Nat.ne_of_lt (Heap.lt_size hm)) ep S,⟨by rw[Heap.get?_push_size _ rfl];unfold slOf;split<;>rfl,Heap.get?_push_of_some _ hm⟩⟩
end Wz
set_option maxRecDepth 1000000
set_option maxHeartbeats 8000000
namespace Wz
open PySem PySem.Spec PyProof.Rows L2 PySem.SetTable
abbrev sNew (w:World):Obj:=sObj #[] 0 (.fresh 0 0 (!BT w))
section
variable {P:Program}{w:World}{A:Around}{E:Value→Shared→Prop}{s:Shared}
theorem set_new_led {R:Value→Shared→Prop}(h:R (.ref s.heap.objs.size) { s with heap:=s.heap.push (sNew w) }):codeAny (model P w) A (.call (.builtin "set.__new__") ⟨[.type "set"],[]⟩) (wants R E) s:=by
 refine codeAny_of_tree ?_
 show wpAny _ A.in1 (do checkBuiltinCall "set.__new__" ⟨[.type "set"],[]⟩;again (.builtin "set.__new__" ⟨[.type "set"],[]⟩)) _ _ s
 refine wpAny_bind (wpAny_of_eq F.newCall_set_0 (wpAny_pure ⟨plainId_quiet F.plain_set_new _,codeAny_builtin F.entry_set_new (by
  rw[Around.under_plainId F.plain_set_new _]
  unfold Builtin.«set.__new__» Builtin.Frozenset.newClass
  have sub:=sub_set_self
  obtain⟨hp,g,d,tk,os⟩:=s
  dsimp only
  wp_walk
  refine wpAny_askSetting (wpAny_pure (by
   dsimp only
   simp only[newObj]
   exact wpAny_bind (wpAny_alloc (wpAny_pure (wpAny_pure h)))))
  )⟩))
theorem set0_led {Q:Value→Shared→Prop}(h:Q (.ref s.heap.objs.size) { s with heap:=s.heap.push (sNew w) }):wpAny (model P w) A (call (.type "set") []) Q E s:=by
 obtain⟨c,tl,mro⟩:=F.called_set.mro
 have made:=F.called_set.made
 have sub:=F.called_set.sub
 have nt:=F.called_set.notType
 have cc:=F.called_set.canCreate
 have tc:=F.typeCall_set_0
 refine wpAny_call (codeAny_of_tree ?_)
 show wpAny _ _ (callAny (.type "set") _) _ _ _
 refine wpAny_pure ⟨Code.quiet_builtin _ (by decide +kernel),codeAny_builtin F.entry_type_call ?_⟩
 rw[Around.under_plain (weight_type_call_type "set" [] []) rfl]
 repeat (any_goals (first | assumption | wp_step))
 refine codeAny_mono (set_new_led (E:=E) (R:=fun obj s₁=>obj=.ref s.heap.objs.size∧s₁={ s with heap:=s.heap.push (sNew w) }) ⟨rfl,rfl⟩) fun r s₁ hr=>?_
 cases r with
 | error e=>exact hr
 | ok fl =>
  cases fl with
  | ret obj =>
   obtain⟨rfl,rfl⟩:=hr
   have hS:(s.heap.push (sNew w)).get? s.heap.objs.size=some (sNew w):=Heap.get?_push_size _ rfl
   have hT:Shared.TypeIs { s with heap:=s.heap.push (sNew w) } (.ref s.heap.objs.size) "set":=⟨_,hS,rfl⟩
   have li:=F.called_set.init.lookup
   have bi:=F.called_set.init.bind (.ref s.heap.objs.size)
   repeat (any_goals (first | assumption | wp_step))
   refine codeAny_mono (codeAny_call_builtin (R:=wants (fun r s₂=>r=.none∧Q (.ref s.heap.objs.size) s₂) E) F.called_set.init.plain F.entry_set_init (check_set_init hT (by
    unfold Builtin.«set.__init__» noKeywords
    wp_walk
    exact⟨rfl,h⟩))) fun r₂ s₂ hr₂=>?_
   cases r₂ with
   | error e=>exact hr₂
   | ok g =>
    cases g with
    | ret r =>
     obtain⟨rfl,hq⟩:=hr₂
     repeat (any_goals (first | assumption | wp_step))
    | _=>exact hr₂.elim
  | _=>exact hr.elim
end
end Wz
namespace Wz
open PySem PySem.Spec PyProof.Rows L2 PySem.SetTable
def ISet (P:Program)(w:World)(a:Addr)(L:List Int):HO:=.ext fun h=>∃ es ep t,h.get? a=some (sObj es ep t)∧ISt P w es t L
section
variable {X:Cx}
theorem iset_ok {H:Hp}{h:Heap}{a:Addr}{L:List Int}{es:Array (Int×Value)}{ep:Nat}{t:SetTable}(e:h.get? a=some (sObj es ep t))(S:ISt X.prog X.w es t L):ObjOk X.prog X.w H h a (ISet X.prog X.w a L) :=
 ⟨⟨es,ep,t,e,S⟩,⟨_,e⟩,fun h1 h2 ⟨es',ep',t',e',S'⟩ k=>⟨es',ep',t',k _ e',S'⟩⟩
theorem call_set0I:CallR X (.type "set") (fun xs H Q=>xs=[]∧∀ p,H p=none→Q (.ref p) (upd H p (ISet X.prog X.w p []))):=by
 intro pins s σ H xs us Q I r h
 obtain⟨rfl,q⟩:=h
 cases r
 refine set0_led ?_
 refine⟨.ref s.heap.objs.size,_,I.laid (t':=s.toks) (fun b u e=>Heap.get?_push_of_some _ e) (Nat.le_refl _) (iset_ok (Heap.get?_push_size _ rfl) (ISt.fresh _ rfl)),rfl,q _ (I.hok.fresh (Nat.le_refl _))⟩
def SetTy (x:V)(H:Hp):Prop:=∃ (p:Addr)(φ:Heap→Prop),x=.ref p∧H p=some (.ext φ)∧∀ h,φ h→∃ o,h.get? p=some o∧o.cls=.type "set"∧o.dict=none
theorem iset_ty {P:Program}{w:World}{H:Hp}{p:Addr}{L:List Int}(h:H p=some (ISet P w p L)):SetTy (.ref p) H:=⟨p,_,rfl,h,fun _ ⟨_,_,_,e,_⟩=>⟨_,e,rfl,rfl⟩⟩
def tBMS (r:V→List V→Hp→VK→Prop)(to:TE)(t:TA):TE:=fun σ H Q=>to σ H fun x H1=>SetTy x H1∧t σ H1 fun xs H2=>r x xs H2 Q
theorem pe_bmS {o e:Expr}{es:List Expr}{to:TE}{t:TA}{name:Str}{apos cpos:Pos}{id:String}{r:V→List V→Hp→VK→Prop}(slot:Slot "set" name id)(hty:typeOf (.builtin id)=pure (.type "method_descriptor"))(hm:MtR X id r)(ho:PE X o to)(ha:PA X (e::es) t)
  (hbase:attributeBase o name X.env (eval o X.env)=eval o X.env:=by rfl)
  (hfew:((backTo cpos (starEach (e::es) X.env)).all (fun x=>!x.1)&&(backToKw cpos (keywordEach [] X.env)).all (fun x=>x.1.isSome)&&decide ((e::es).length+([]:List Keyword).length+(if ([]:List Keyword).isEmpty then 0 else 1)<30))=true:=by rfl)
  (hline:(apos.endLine == cpos.line)=true:=by rfl) (hs:starEach (e::es) X.env=(false,eval e X.env)::starEach es X.env:=by rfl) (hplain:(backTo cpos (starEach es X.env)).any (·.1)=false:=by rfl):PE X (.Call (.Attribute o name apos) (e::es) [] cpos) (tBMS r to t):=by
 intro pins s σ H Q I h
 refine wpAny_Call_method_late hbase hfew hline rfl (thn (ho pins s σ H _ I h) fun v s1 ⟨x,H1,I1,r1,⟨p,φ,ep,hp,kφ⟩,q1⟩=>?_)
 subst ep
 obtain rfl:v=Value.ref p:=r1
 obtain⟨hφ,_⟩:=(show ObjOk X.prog X.w H1 s1.heap p (.ext φ) from I1.hok p _ hp)
 obtain⟨ob,e1,e2,e3⟩:=kφ _ hφ
 refine⟨"set",id,PySem.F.plainAttrs_set,slot,hty,⟨ob,e1,e2⟩,fun a ea=>(by cases ea;exact⟨ob,e1,e3⟩),?_⟩
 have hA:=ha cpos pins s1 σ H1 _ I1 q1
 rw[hs]at hA ⊢
 refine Calls.callWith_builtin (by show (false||(backTo cpos (starEach es X.env)).any (·.1))=false;rw[hplain]<;>rfl) (Calls.evalArgs_plain (thn hA fun us s2 ⟨vs,H2,I2,r2,q2⟩=>hm pins s2 σ H2 (.ref p) vs (.ref p) us Q I2 rfl r2 q2))
def rInI (P:Program)(w:World)(neg:Bool):R2:=fun x y H Q=>∃ (p:Addr)(L:List Int)(i:Int),x=.int i∧y=.ref p∧H p=some (ISet P w p L)∧Q (.bl (if neg then !decide (i∈L) else decide (i∈L))) H
theorem op_notInI:OpR X (compareOp .NotIn) (rInI X.prog X.w true):=by
 intro pins s σ H x y v u Q I rx ry h
 obtain⟨p,L,i,rfl,rfl,hp,q⟩:=h
 obtain⟨t,rfl⟩:=rx
 cases ry
 obtain⟨⟨es,ep,t',e,S⟩,_⟩:=(show ObjOk X.prog X.w H s.heap p (ISet X.prog X.w p L) from I.hok p _ hp)
 exact wpAny_notInSet_of (k:=i) (by show Value.isInt i (.int i t)=true;simp[Value.isInt]) rfl (S.setOf e) ⟨.bl (!decide (i∈L)),H,I.tok _,rfl,q⟩
def rAddI (P:Program)(w:World):V→List V→Hp→VK→Prop:=fun x vs H Q=>∃ (p:Addr)(L:List Int)(i:Int),x=.ref p∧vs=[.int i]∧H p=some (ISet P w p L)∧L.length+1≤70∧Q .non (upd H p (ISet P w p (if i∈L then L else L++[i])))
theorem mt_addI:MtM X "set.add" (rAddI X.prog X.w):=by
 intro pins s σ H x vs v us Q I rx rv h
 obtain⟨p,L,i,rfl,rfl,hp,hn,q⟩:=h
 cases rx
 obtain⟨u,rfl,ru⟩:=rv.one
 obtain⟨tk,rfl⟩:=ru
 obtain⟨⟨es,ep,t',e,S⟩,_⟩:=(show ObjOk X.prog X.w H s.heap p (ISet X.prog X.w p L) from I.hok p _ hp)
 have hT:s.TypeIs (.ref p) "set":=⟨_,e,rfl⟩
 refine wpAny_call_entry F.slot_set_add hT F.entry_set_add ?_ (F.args_set_add_2 _ _)
 unfold Builtin.«set.add» Builtin.Frozenset.oneOther
 simp only[List.isEmpty_nil,bind_assoc]
 unfold Builtin.Frozenset.addrOf setAdd
 refine wpAny_bind (wpAny_pure ?_)
 try dsimp only
 refine wpAny_bind (wpAny_pure ?_)
 try dsimp only
 refine wpAny_bind ?_
 refine wpAny_holding ?_
 refine wpAny_bind ((intKind X.prog X.w).pyHash (k:=i) (by show Value.isInt i (.int i tk)=true;simp[Value.isInt]) ?_)
 refine iset_add (s:={ s with toks:=s.toks+1 }) e S hn fun h' es' ep' t'' hsb e' S'=>?_
 show wpAny _ _ (ret Value.none) _ _ _
 refine wpAny_pure ⟨_,rfl,?_⟩
 exact⟨.non,_,I.write (t':=s.toks+1) (o:=ISet X.prog X.w p (if i∈L then L else L++[i])) (by rw[hp];trivial) (.inl rfl) (fun b u hb e=>(hsb.2 b hb).trans e) ⟨_,e'⟩ (iset_ok e' S'),rfl,q⟩
theorem call_sortedI (hc:X.calm=true):CallR X (.builtin "sorted") (fun xs H Q=>∃ (p:Addr)(L:List Int),xs=[.ref p]∧H p=some (ISet X.prog X.w p L)∧L.length<64∧∀ l,H l=none→Q (.ref l) (upd H l (.lst ((sortI L).map V.int)))):=by
 intro pins s σ H xs us Q I r h
 obtain⟨p,L,rfl,hp,h64,q⟩:=h
 obtain⟨u,rfl,rx⟩:=vals1 r
 cases rx
 obtain⟨⟨es,ep,t',e,S⟩,_⟩:=(show ObjOk X.prog X.w H s.heap p (ISet X.prog X.w p L) from I.hok p _ hp)
 refine PySem.Calls.call_function_entry kind_sorted plain_sorted entry_sorted (args_sorted1 _) ?_
 unfold Builtin.«sorted»
 refine wpAny_bind (m:=checkCount "sorted" 1 1 _) (wpAny_pure (wpAny_bind (PySem.W.kdu_collect (A:=X.A.in1) (iset_src S) (I.ok.hd hc) e (by rw[S.size,sizeLine_eq];omega) fun h' tk acc kp hacc=>?_)))
 have I1:Inv X pins σ H { s with heap:=h',toks:=tk }:=I.kept kp
 have al:acc.toList.length=L.length:=by rw[Array.length_toList,hacc.1,S.size]
 have ea:acc.toList=(wkOf X.w p ep es).toList.map (·.2):=by
  apply List.ext_getElem?
  intro i
  by_cases hi:i<es.size
  ·have hv:acc.toList[i]? = some (acc.toList[i]'(by rw[al,←S.size];exact hi)):=List.getElem?_eq_getElem _
   obtain⟨e,he,hk⟩:=hacc.2 i _ (by rw[←Array.getElem?_toList];exact hv)
   rw[hv,hk,List.getElem?_map,Array.getElem?_toList,he]
   rfl
  ·rw[List.getElem?_eq_none (by rw[al,←S.size];omega),List.getElem?_eq_none (by rw[List.length_map,Array.length_toList,wk_size];omega)]
 have wp:=wk_perm X.w p ep es
 have hI:IntsAre acc.toList ((wkOf X.w p ep es).toList.map fun e=>intOf e.2):=by
  rw[ea]
  have go:∀ l:List (Int×Value),(∀ e∈l,∃ n tk,e=((intKind X.prog X.w).hash n,.int n tk))→IntsAre (l.map (·.2)) (l.map fun e=>intOf e.2):=by
   intro l
   induction l with
   | nil=>intro _;exact .nil
   | cons a l ih =>
    intro h
    obtain⟨n,tk,rfl⟩:=h a List.mem_cons_self
    exact .cons n tk (ih fun e he=>h e (List.mem_cons_of_mem _ he))
  exact go _ fun e he=>S.el e (wp.mem_iff.mp he)
 have pL:((wkOf X.w p ep es).toList.map fun e=>intOf e.2).Perm L:=(wp.map _).trans S.pm
 refine wpAny_bind (wpAny_newList ?_ (by rw[al,sizeLine_eq];omega))
 have hoL:(h'.push (seqObj "list" acc.toList.toArray 0)).get? h'.objs.size=some (seqObj "list" acc.toList.toArray 0):=Heap.get?_push_size _ rfl
 refine wpAny_bind (wpAny_holding (wpAny_call_entry slot_list_sort ⟨_,hoL,rfl⟩ entry_list_sort (list_sort_tree hoL hI (by rw[al];exact h64) fun out ns' a1 a2 a3=>⟨_,rfl,?_⟩) (args_list_sort _)))
 refine wpAny_pure ⟨_,rfl,?_⟩
 have en:ns'=sortI L:=sort_unique (a2.trans pL) a3
 subst en
 obtain⟨e1,he⟩:=sortedHeap_at (vs:=acc.toList) (out:=out) hoL
 have fr:=I1.hok.fresh (Nat.le_refl h'.objs.size)
 refine⟨.ref h'.objs.size,_,I1.laid (t':=tk) (a:=h'.objs.size) (o:=.lst ((sortI L).map V.int)) (fun b ob eb=>?_) (Nat.le_refl _) ⟨?_,out.toList,e1,vals_of_ints a1,by simpa using he⟩,rfl,q _ fr⟩
 ·rw[sortedHeap_old (Nat.ne_of_lt (Heap.lt_size eb)) (by rw[size_push'];exact Nat.lt_succ_of_lt (Heap.lt_size eb))]
  exact Heap.get?_push_of_some _ eb
 ·rw[List.length_map,(show (sortI L).length=L.length from (List.mergeSort_perm L _).length_eq),sizeLine_eq];omega
end
end Wz
namespace Wz
open PySem L2
structure CloI (W:List (Int×Int))(gs:List Int)(L:List Int):Prop where
 sub:∀ x∈L,x∈keysL W
 cl:∀ x∈L,wr W x∈L
 has:∀ g∈gs,g∈L
 frm:∀ x∈L,∃ g∈gs,∃ n,x=iter (wr W) n g
theorem CloI.mem {W:List (Int×Int)}{gs L F:List Int}(A:CloI W gs L)(B:CloI W gs F){x:Int}(h:x∈L):x∈F:=by
 obtain⟨g,hg,n,rfl⟩:=A.frm x h
 exact closed_iter B.cl n (B.has g hg)
theorem CloI.sort {W:List (Int×Int)}{gs L F:List Int}(A:CloI W gs L)(B:CloI W gs F)(n1:L.Nodup)(n2:F.Nodup):sortI L=sortI F:=by
 have p:L.Perm F:=(List.perm_ext_iff_of_nodup n1 n2).mpr fun x=>⟨A.mem B,B.mem A⟩
 exact sort_unique ((sortI_pm L).trans p) (sortI_up L)
theorem CloI.nil (W:List (Int×Int)):CloI W [] []:=⟨fun x h=>(by simp at h),fun x h=>(by simp at h),fun x h=>(by simp at h),fun x h=>(by simp at h)⟩
theorem CloI.skip {W:List (Int×Int)}{gs L:List Int}{g:Int}(A:CloI W gs L)(h:g∈L):CloI W (gs++[g]) L :=
 ⟨A.sub,A.cl,fun x hx=>(List.mem_append.mp hx).elim (A.has x) fun z=>by rw[List.mem_singleton.mp z];exact h,fun x hx=>let ⟨y,hy,n,e⟩:=A.frm x hx;⟨y,List.mem_append_left _ hy,n,e⟩⟩
theorem CloI.ring {W:List (Int×Int)}(P:Prm W){gs L L':List Int}{g:Int}(A:CloI W gs L)(hg:g∈keysL W)(h:∀ x,x∈L'↔x∈L∨x∈ringR (wr W) W.length g):CloI W (gs++[g]) L':=by
 have R:=P.ring hg
 have hr:∀ x,x∈ringR (wr W) W.length g→∃ n,x=iter (wr W) n g:=fun x hx=>let ⟨i,_,e⟩:=ring_mem.mp hx;⟨i,e⟩
 refine⟨fun x hx=>?_,fun x hx=>?_,fun x hx=>?_,fun x hx=>?_⟩
 ·rcases (h x).mp hx with z | z
  ·exact A.sub x z
  ·obtain⟨n,rfl⟩:=hr x z
   exact iter_in P.cl hg n
 ·rcases (h x).mp hx with z | z
  ·exact (h _).mpr (.inl (A.cl x z))
  ·exact (h _).mpr (.inr (ring_closed R.1 R.2.1 z))
 ·rcases List.mem_append.mp hx with z | z
  ·exact (h x).mpr (.inl (A.has x z))
  ·rw[List.mem_singleton.mp z]
   exact (h g).mpr (.inr (ring_mem.mpr ⟨0,R.1,rfl⟩))
 ·rcases (h x).mp hx with z | z
  ·obtain⟨y,hy,n,e⟩:=A.frm x z
   exact⟨y,List.mem_append_left _ hy,n,e⟩
  ·obtain⟨n,e⟩:=hr x z
   exact⟨g,List.mem_append_right _ (List.mem_singleton.mpr rfl),n,e⟩
structure ChnI (W:List (Int×Int))(gs F F':List Int)(g here:Int):Prop where
 nd:F'.Nodup
 sub:∀ x∈F',x∈keysL W
 cl:∀ x∈F',wr W x∈F'∨wr W x=here
 has:∀ x∈F,x∈F'
 g0:g∈F'∨here=g
 frm:∀ x∈F',x∈F∨∃ n,x=iter (wr W) n g
 hr:∃ n,here=iter (wr W) n g
theorem chn0 {W:List (Int×Int)}{gs F:List Int}{g:Int}(A:CloI W gs F)(nd:F.Nodup):ChnI W gs F F g g :=
 ⟨nd,A.sub,fun x hx=>.inl (A.cl x hx),fun x hx=>hx,.inr rfl,fun x hx=>.inl hx,0,rfl⟩
theorem ChnI.step {W:List (Int×Int)}(P:Prm W){gs F F':List Int}{g here:Int}(C:ChnI W gs F F' g here)(hk:here∈keysL W)(hn:here∉F'):ChnI W gs F (F'++[here]) g (wr W here):=by
 refine⟨?_,fun x hx=>?_,fun x hx=>?_,fun x hx=>List.mem_append_left _ (C.has x hx),?_,fun x hx=>?_,?_⟩
 ·exact List.nodup_append.mpr ⟨C.nd,by simp,fun x hx y hy z=>hn (by rw[←List.mem_singleton.mp hy,←z];exact hx)⟩
 ·rcases List.mem_append.mp hx with z | z
  ·exact C.sub x z
  ·rw[List.mem_singleton.mp z];exact hk
 ·rcases List.mem_append.mp hx with z | z
  ·rcases C.cl x z with q | q
   ·exact .inl (List.mem_append_left _ q)
   ·exact .inl (List.mem_append_right _ (by rw[q];exact List.mem_singleton.mpr rfl))
  ·rw[List.mem_singleton.mp z];exact .inr rfl
 ·rcases C.g0 with z | z
  ·exact .inl (List.mem_append_left _ z)
  ·exact .inl (List.mem_append_right _ (List.mem_singleton.mpr z.symm))
 ·rcases List.mem_append.mp hx with z | z
  ·exact C.frm x z
  ·rw[List.mem_singleton.mp z];exact .inr C.hr
 ·obtain⟨n,e⟩:=C.hr
  exact⟨1+n,by rw[iter_add,←e];rfl⟩
theorem ChnI.fin {W:List (Int×Int)}{gs F F':List Int}{g here:Int}(A:CloI W gs F)(C:ChnI W gs F F' g here)(hh:here∈F'):CloI W (gs++[g]) F':=by
 refine⟨C.sub,fun x hx=>?_,fun x hx=>?_,fun x hx=>?_⟩
 ·rcases C.cl x hx with z | z
  ·exact z
  ·rw[z];exact hh
 ·rcases List.mem_append.mp hx with z | z
  ·exact C.has x (A.has x z)
  ·rw[List.mem_singleton.mp z]
   rcases C.g0 with q | q
   ·exact q
   ·rw[←q];exact hh
 ·rcases C.frm x hx with z | ⟨n,e⟩
  ·obtain⟨y,hy,n,e⟩:=A.frm x z
   exact⟨y,List.mem_append_left _ hy,n,e⟩
  ·exact⟨g,List.mem_append_right _ (List.mem_singleton.mpr rfl),n,e⟩
def trK (F:List Int):List (Key×V):=F.map fun x=>(Sum.inl x,V.bl true)
theorem trK_some:∀ (F:List Int)(x:Int),(valV (trK F) (Sum.inl x)).isSome=decide (x∈F)
 | [],x=>rfl
 | y::F,x=>by
  show (valV ((Sum.inl y,V.bl true)::trK F) (Sum.inl x)).isSome=_
  by_cases z:y=x
  ·rw[valV_pos (p:=(Sum.inl y,V.bl true)) (by rw[z]),decide_eq_true (by rw[z];exact List.mem_cons_self)];rfl
  ·rw[valV_neg (fun q=>z (Sum.inl.inj q)),trK_some F x]
   congr 1
   rw[List.mem_cons,eq_iff_iff]
   exact⟨.inr,fun h=>h.elim (fun q=>absurd q.symm z) id⟩
theorem trK_put {F:List Int}{x:Int}(h:x∉F):putK (trK F) (Sum.inl x) (.bl true)=trK (F++[x]):=by
 unfold putK
 rw[valV_any,trK_some,decide_eq_false h,if_neg Bool.false_ne_true]
 unfold trK
 rw[List.map_append]
 rfl
theorem trK_keys (F:List Int):(trK F).map (·.1)=F.map Sum.inl:=by unfold trK;rw[List.map_map];rfl
def notIn (W:List (Int×Int))(g:Int):Bool:=!(look W g).isSome
theorem findAt {p:Int→Bool}:∀ {gs:List Int}{i:Nat}{g:Int},gs[i]? = some g→(∀ x∈gs.take i,p x=false)→p g=true→gs.find? p=some g
 | a::gs,0,g,h,_,hp=>by cases h;rw[List.find?_cons,hp]
 | a::gs,i+1,g,h,hb,hp=>by
  have h0:p a=false:=hb a (by simp)
  rw[List.find?_cons,h0]
  exact findAt (i:=i) (by simpa using h) (fun x hx=>hb x (by rw[List.take_succ_cons];exact List.mem_cons_of_mem _ hx)) hp
theorem find_no {p:Int→Bool}{gs:List Int}(h:∀ x∈gs,p x=false):gs.find? p=none:=List.find?_eq_none.mpr fun x hx=>by rw[h x hx];exact Bool.false_ne_true
def spClosed (c:HX):Sp:=fun vs H Q E=>∃ (p l:Addr)(A:HA)(st:HSt)(gs:List Int),vs=[.ref p,.ref l]∧HallAt c.C H p A st∧HGood st∧st.worn.length<64∧(∀ g∈keysL st.worn,Small g)∧H l=some (.lst (gs.map V.int))∧gs.length≤100∧(∀ g∈gs,Small g) ∧
 match gs.find? (notIn st.worn) with
 | some y=>∀ dx H',Same H H'→H' dx=some (.xd [("guest",.int y)])→E (.ref c.cN) (some dx) H'
 | none=>∀ (L:List Int)(q:Addr)(H':Hp),H q=none→Same H H'→H' q=some (.lst ((sortI L).map V.int))→L.Nodup→CloI st.worn gs L→Q (.ref q) H'
def spCloDue:Sp:=fun vs H Q _=>∃ (d l:Addr)(W:List (Int×Int))(gs:List Int),vs=[.ref d,.ref l]∧H d=some (.dK (dk W))∧W.length<64∧Prm W∧H l=some (.lst (gs.map V.int))∧gs.length≤100 ∧
 match gs.find? (notIn W) with
 | some y=>∀ (t:Addr)(H':Hp),H t=none→Same H H'→H' t=some (.tup [.str "NoGuest",.int y])→Q (.ref t) H'
 | none=>∀ (F:List Int)(q:Addr)(H':Hp),H q=none→Same H H'→H' q=some (.lst ((sortI F).map V.int))→F.Nodup→CloI W gs F→Q (.ref q) H'
theorem mapI_loop {K:PySem.W.Frag}{te:TE}{Qf:Hp→Prop}{lr q:Addr}{rs:List Int}{f:Int→V}{rest:St}{H:Hp}(hq:H q=none)(h1:H lr=some (.lst (rs.map V.int)))(hlen:rs.length≤1000)
  (ht:∀ (r:Int)(HK:Hp)(Q':VK),r∈rs→Same H HK→(∀ H5,Same HK H5→Q' (f r) H5)→te (some (.int r)::rest) HK Q') (k:∀ (HK:Hp),Same H HK→HK q=some (.lst (rs.map f))→Qf HK) :
  LoopF (Itl K lr) (gName 0) (tbC tYes te q) { nx:=fun _ H'=>Qf H',rt:=fun _ _=>False } (none::rest) (upd H q (.lst [])):=by
 refine for_list (K:=K) (a:=lr) (xs:=rs.map V.int) (fun i σ HK=>∃ v:Option V,σ=v::rest∧Same H HK∧HK q=some (.lst ((rs.take i).map f))) ⟨none,rfl,same_new hq,upd_same⟩ (fun i σ HK _ ⟨_,_,s2,_⟩=>SqL.of (s2 _ _ h1)) ?_ ?_
 ·rintro i y σ HK hi ⟨v,rfl,t1,hq2⟩
  obtain⟨r,hr0,rfl⟩:=map_get hi
  have hil:i<rs.length:=(List.getElem?_eq_some_iff.mp hr0).1
  refine tbc_yes (ht r HK _ (List.mem_of_getElem? hr0) t1 fun H5 s5=>⟨_,s5 _ _ hq2,by rw[List.length_map,List.length_take];exact small1000 (by omega),_,rfl,same_upd (t1.trans s5) hq,?_⟩)
  rw[upd_same,List.take_add_one,hr0,Option.toList_some,List.map_append]
  rfl
 ·rintro σ HK ⟨v,rfl,t1,hq2⟩
  rw[List.length_map,List.take_length]at hq2
  exact k HK t1 hq2
end Wz
namespace Wk17
open PySem L2 Wz
def top (i:Nat):Stmt:=PySem.Challenge.pw_lastwaltz_k17_closed_groups.main.body.getD i (.Pass ⟨0,0,0,0⟩)
structure Txt (mg:Str→Option Value):Prop where
 len:mg "len" = none
 range:mg "range" = none
 isinstance:mg "isinstance" = none
 tuple:mg "tuple" = none
 list:mg "list" = none
 int:mg "int" = none
 bool:mg "bool" = none
 all:mg "all" = none
 any:mg "any" = none
 sorted:mg "sorted" = none
 reversed:mg "reversed" = none
 bset:mg "set" = none
 bmin:mg "min" = none
 bmax:mg "max" = none
 dict:mg "dict" = none
 zip:mg "zip" = none
 enumerate:mg "enumerate" = none
 sum:mg "sum" = none
 str:mg "str" = none
section
variable {P:Program}{w:World}{K:PySem.W.Frag}{mg:Str→Option Value}{base:Heap}{c:HX}{co cq f P0:Addr}{fd:FuncData}
abbrev st_ring_with:Stmt:=top 2
abbrev n_ring_with:List Str:=["hall","guest","ring","mask"]
theorem sc_ring_with:FnScope n_ring_with ["hall","guest"] (defScope st_ring_with):=fsc
abbrev st_closed_around:Stmt:=top 3
abbrev n_closed_around:List Str:=["hall","group","held","guest","other"]
theorem sc_closed_around:FnScope n_closed_around ["hall","group"] (defScope st_closed_around):=fsc
abbrev st_NoGuest_init:Stmt:=inClass (top 10) 0
abbrev n_NoGuest_init:List Str:=["self","guest"]
theorem sc_NoGuest_init:FnScope n_NoGuest_init ["self","guest"] (defScope st_NoGuest_init):=fsc
abbrev st_Hall_init:Stmt:=inClass (top 12) 0
abbrev n_Hall_init:List Str:=["self"]
theorem sc_Hall_init:FnScope n_Hall_init ["self"] (defScope st_Hall_init):=fsc
abbrev st_Hall_come:Stmt:=inClass (top 12) 1
abbrev n_Hall_come:List Str:=["self","guest"]
theorem sc_Hall_come:FnScope n_Hall_come ["self","guest"] (defScope st_Hall_come):=fsc
abbrev st_Hall_go:Stmt:=inClass (top 12) 2
abbrev n_Hall_go:List Str:=["self","guest"]
theorem sc_Hall_go:FnScope n_Hall_go ["self","guest"] (defScope st_Hall_go):=fsc
abbrev st_Hall_exchange:Stmt:=inClass (top 12) 3
abbrev n_Hall_exchange:List Str:=["self","one","other","mask","other_mask"]
theorem sc_Hall_exchange:FnScope n_Hall_exchange ["self","one","other"] (defScope st_Hall_exchange):=fsc
abbrev st_Hall_dress:Stmt:=inClass (top 12) 4
abbrev n_Hall_dress:List Str:=["self","guest","mask"]
theorem sc_Hall_dress:FnScope n_Hall_dress ["self","guest","mask"] (defScope st_Hall_dress):=fsc
abbrev st_Hall_acquaint:Stmt:=inClass (top 12) 5
abbrev n_Hall_acquaint:List Str:=["self","one","other","circle"]
theorem sc_Hall_acquaint:FnScope n_Hall_acquaint ["self","one","other"] (defScope st_Hall_acquaint):=fsc
abbrev st_Hall_inside:Stmt:=inClass (top 12) 6
abbrev n_Hall_inside:List Str:=["self","guest"]
theorem sc_Hall_inside:FnScope n_Hall_inside ["self","guest"] (defScope st_Hall_inside):=fsc
abbrev st_Hall_guests:Stmt:=inClass (top 12) 7
abbrev n_Hall_guests:List Str:=["self"]
theorem sc_Hall_guests:FnScope n_Hall_guests ["self"] (defScope st_Hall_guests):=fsc
abbrev st_Hall_wears:Stmt:=inClass (top 12) 8
abbrev n_Hall_wears:List Str:=["self","guest"]
theorem sc_Hall_wears:FnScope n_Hall_wears ["self","guest"] (defScope st_Hall_wears):=fsc
abbrev st_Hall_wearer:Stmt:=inClass (top 12) 9
abbrev n_Hall_wearer:List Str:=["self","mask"]
theorem sc_Hall_wearer:FnScope n_Hall_wearer ["self","mask"] (defScope st_Hall_wearer):=fsc
abbrev st_Hall_met:Stmt:=inClass (top 12) 10
abbrev n_Hall_met:List Str:=["self","one","other"]
theorem sc_Hall_met:FnScope n_Hall_met ["self","one","other"] (defScope st_Hall_met):=fsc
abbrev st_Hall_partners:Stmt:=inClass (top 12) 11
abbrev n_Hall_partners:List Str:=["self","guest"]
theorem sc_Hall_partners:FnScope n_Hall_partners ["self","guest"] (defScope st_Hall_partners):=fsc
abbrev st_Hall_pairs:Stmt:=inClass (top 12) 12
abbrev n_Hall_pairs:List Str:=["self"]
theorem sc_Hall_pairs:FnScope n_Hall_pairs ["self"] (defScope st_Hall_pairs):=fsc
abbrev st_Hall_story:Stmt:=inClass (top 12) 13
abbrev n_Hall_story:List Str:=["self"]
theorem sc_Hall_story:FnScope n_Hall_story ["self"] (defScope st_Hall_story):=fsc
abbrev st_Hall_moment:Stmt:=inClass (top 12) 14
abbrev n_Hall_moment:List Str:=["self"]
theorem sc_Hall_moment:FnScope n_Hall_moment ["self"] (defScope st_Hall_moment):=fsc
abbrev st_law_cell_at:Stmt:=top 14
abbrev n_law_cell_at:List Str:=["_law_script","_law_k"]
theorem sc_law_cell_at:FnScope n_law_cell_at ["_law_script","_law_k"] (defScope st_law_cell_at):=fsc
abbrev st_law_size:Stmt:=top 15
abbrev n_law_size:List Str:=["_law_cell"]
theorem sc_law_size:FnScope n_law_size ["_law_cell"] (defScope st_law_size):=fsc
abbrev st_law_draws:Stmt:=top 16
abbrev n_law_draws:List Str:=["_law_cell","_law_many","_law_base","_law_left","_law_row","_law_count","_law_k","_law_now"]
theorem sc_law_draws:FnScope n_law_draws ["_law_cell","_law_many","_law_base"] (defScope st_law_draws):=fsc
abbrev st_law_draws_from:Stmt:=top 17
abbrev n_law_draws_from:List Str:=["_law_script","_law_start","_law_most","_law_base","_law_row","_law_cell","_law_drawn"]
theorem sc_law_draws_from:FnScope n_law_draws_from ["_law_script","_law_start","_law_most","_law_base"] (defScope st_law_draws_from):=fsc
abbrev st_law_guest:Stmt:=top 18
abbrev n_law_guest:List Str:=["_law_k","_law_cell","_law_left","_law_turn","_law_number"]
theorem sc_law_guest:FnScope n_law_guest ["_law_k","_law_cell"] (defScope st_law_guest):=fsc
abbrev st_law_key:Stmt:=top 19
abbrev n_law_key:List Str:=["_law_one","_law_other"]
theorem sc_law_key:FnScope n_law_key ["_law_one","_law_other"] (defScope st_law_key):=fsc
abbrev st_law_due:Stmt:=top 20
abbrev n_law_due:List Str:=["_law_worn","_law_met","_law_deed_here","_law_guest_here"]
theorem sc_law_due:FnScope n_law_due ["_law_worn","_law_met","_law_deed_here"] (defScope st_law_due):=fsc
abbrev st_law_after:Stmt:=top 21
abbrev n_law_after:List Str:=["_law_worn","_law_met","_law_deed_here","_law_kept"]
theorem sc_law_after:FnScope n_law_after ["_law_worn","_law_met","_law_deed_here"] (defScope st_law_after):=fsc
abbrev st_law_deed:Stmt:=top 22
abbrev n_law_deed:List Str:=["_law_drawn","_law_many","_law_cell","_law_one"]
theorem sc_law_deed:FnScope n_law_deed ["_law_drawn","_law_many","_law_cell"] (defScope st_law_deed):=fsc
abbrev st_law_crowd:Stmt:=top 23
abbrev n_law_crowd:List Str:=["_law_cell"]
theorem sc_law_crowd:FnScope n_law_crowd ["_law_cell"] (defScope st_law_crowd):=fsc
abbrev st_law_deeds:Stmt:=top 24
abbrev n_law_deeds:List Str:=["_law_script","_law_cell","_law_many","_law_first","_law_deeds_here"]
theorem sc_law_deeds:FnScope n_law_deeds ["_law_script"] (defScope st_law_deeds):=fsc
abbrev st_law_evening:Stmt:=top 25
abbrev n_law_evening:List Str:=["_law_script","_law_worn","_law_met","_law_story","_law_deed_here"]
theorem sc_law_evening:FnScope n_law_evening ["_law_script"] (defScope st_law_evening):=fsc
abbrev st_law_do:Stmt:=top 26
abbrev n_law_do:List Str:=["_law_hall","_law_deed_here"]
theorem sc_law_do:FnScope n_law_do ["_law_hall","_law_deed_here"] (defScope st_law_do):=fsc
abbrev st_law_hall_of:Stmt:=top 27
abbrev n_law_hall_of:List Str:=["_law_story","_law_hall","_law_deed_here"]
theorem sc_law_hall_of:FnScope n_law_hall_of ["_law_story"] (defScope st_law_hall_of):=fsc
abbrev st_law_stands:Stmt:=top 28
abbrev n_law_stands:List Str:=["_law_hall","_law_worn","_law_met","_law_story","_law_guest_here"]
theorem sc_law_stands:FnScope n_law_stands ["_law_hall","_law_worn","_law_met","_law_story"] (defScope st_law_stands):=fsc
abbrev st_law_closed_due:Stmt:=top 29
abbrev n_law_closed_due:List Str:=["_law_worn","_law_group","_law_guest_here","_law_found","_law_here"]
theorem sc_law_closed_due:FnScope n_law_closed_due ["_law_worn","_law_group"] (defScope st_law_closed_due):=fsc
abbrev st_law:Stmt:=top 30
abbrev n_law:List Str:=["_law_script","_law_worn","_law_met","_law_story","_law_hall","_law_cell","_law_bend","_law_group","_law_handed","_law_found","e"]
theorem sc_law:FnScope n_law ["_law_script"] (defScope st_law):=fsc
variable (T:Txt mg)(U:HT K mg c)(VM:HM K c)
include T U VM
theorem ok_ring_with (F:Fun K "ring_with" "ring_with" st_ring_with f fd)(M_Hall_wears:MCallee P w K mg base (CXD P w) c.C "wears" 3 ["self","guest"] (spWears c)) : FnOk P w K mg base (CXD P w) 5 f fd ["hall","guest"] (spRingW c):=by
 refine F.okX sc_ring_with (fun vs H Q E h=>?_) (fun cdv A outer s H vs Q E hr h=>?_)
 ·obtain⟨p,B,st,g,rfl,_⟩:=h
  rfl
 ·obtain⟨p,B,st,g,rfl,S,G,h64,smk,sm,k⟩:=h
  have hu:=hu_of hr
  refine⟨_,pss_cons (ps_st 2 sc_ring_with.nd (pe_lst (pa1 (pv 1)))) (
   pss_cons (ps_st 3 sc_ring_with.nd (pmeth M_Hall_wears (pv 0) U.cl hr.m pass_cx (pa1 (pv 1)))) (
   pss_cons (ps_while PassesOwn.leaving (pt_cmpR op_ne (pv 3) (pv 1) (nomark _)) (pss_cons (ps_expr (pe_bm PySem.F.plainAttrs_list PySem.F.slot_list_append PySem.F.type_list_append mt_append (pv 2) (pa1 (pv 3)))) (
   pss_one (ps_st 3 sc_ring_with.nd (pmeth M_Hall_wears (pv 0) U.cl hr.m pass_cx (pa1 (pv 3))))))) (
   pss_one (ps_ret (pv 2))))),?_⟩
  have nW:(hflds B).lookup ("wears" : Str)=none:=hf_no B (by decide +kernel) (by decide +kernel) (by decide +kernel) (by decide +kernel)
  refine⟨_,rfl,by show 1≤sizeLine;decide,fun l hl=>?_⟩
  have s1:=same_new (o:=.lst [V.int g]) hl
  have hl1:upd H l (.lst [V.int g]) l=some (.lst ((ringL (wr st.worn) g 1).map V.int)):=upd_same
  generalize upd H l (.lst [V.int g])=H1 at s1 hl1 ⊢
  have S1:=S.mono s1
  refine⟨_,rfl,p,B.dx,_,rfl,S1.ob,nW,_,rfl,p,B,st,g,rfl,S1,sm,?_⟩
  by_cases hg:g∈keysL st.worn
  ·have P:=prm_good G
   have R:=P.ring hg
   have ol:=P.ord_le hg
   rw[if_pos (look_mem.mpr hg)]at k
   rw[look_wr hg]
   unfold ringR at k
   generalize ordF (wr st.worn) st.worn.length g=M at R k ol
   have i1:iter (wr st.worn) 1 g=wr st.worn g:=rfl
   rw[←i1]
   refine⟨fun n σ HH=>∃ i,n=M-i∧1≤i∧i≤M∧σ=[some (.ref p),some (.int g),some (.ref l),some (.int (iter (wr st.worn) i g))]∧Same H HH∧HH l=some (.lst ((ringL (wr st.worn) g i).map V.int)),⟨_,1,rfl,Nat.le_refl _,R.1,rfl,s1,hl1⟩,?_⟩
   rintro n σ HH ⟨i,rfl,h1,hM,rfl,s2,hl2⟩
   refine⟨_,rfl,_,rfl,rfl,_,rfl,?_⟩
   by_cases e:iter (wr st.worn) i g=g
   ·rw[show (!decide (V.int (iter (wr st.worn) i g)=V.int g))=false by rw[e];simp]
    have:i=M:=by
     by_cases hlt:i<M
     ·exact absurd e (R.2.2 i (by omega) hlt)
     ·omega
    rw[this]at hl2
    exact iteF ⟨_,rfl,k l HH hl s2 hl2⟩
   ·rw[show (!decide (V.int (iter (wr st.worn) i g)=V.int g))=true by simpa using e]
    have hlt:i<M:=by
     by_cases hlt:i<M
     ·exact hlt
     ·have:i=M:=by omega
      rw[this]at e
      exact absurd R.2.1 e
    have ik:iter (wr st.worn) i g∈keysL st.worn:=iter_in P.cl hg i
    refine iteT ⟨fun σ' H'=>σ'=[some (.ref p),some (.int g),some (.ref l),some (.int (iter (wr st.worn) (i+1) g))]∧Same H H'∧H' l=some (.lst ((ringL (wr st.worn) g (i+1)).map V.int)),fun σ' H' ⟨a1,a2,a3⟩=>⟨M-(i+1),by omega,i+1,rfl,by omega,by omega,a1,a2,a3⟩,?_⟩
    refine⟨_,rfl,.inl ⟨rfl,_,SqL.of hl2⟩,_,rfl,l,_,_,rfl,rfl,hl2,by rw[List.length_map,len_ringL];exact small1000 (by omega),?_⟩
    have s3:Same H (upd HH l (.lst ((ringL (wr st.worn) g i).map V.int++[V.int (iter (wr st.worn) i g)]))):=same_upd s2 hl
    have hl3:upd HH l (.lst ((ringL (wr st.worn) g i).map V.int++[V.int (iter (wr st.worn) i g)])) l=some (.lst ((ringL (wr st.worn) g (i+1)).map V.int)):=by rw[upd_same,ringL_succ,List.map_append];rfl
    generalize upd HH l (.lst ((ringL (wr st.worn) g i).map V.int++[V.int (iter (wr st.worn) i g)]))=H3 at s3 hl3 ⊢
    have S3:=S.mono s3
    refine⟨_,rfl,p,B.dx,_,rfl,S3.ob,nW,_,rfl,p,B,st,_,rfl,S3,smk _ ik,?_⟩
    rw[look_wr ik]
    exact⟨rfl,s3,hl3⟩
  ·have en:look st.worn g=none:=by
    cases e:look st.worn g with
    | none=>rfl
    | some m=>exact absurd (look_mem.mp (by rw[e];rfl)) hg
   rw[if_neg (by rw[en];simp)]at k
   rw[en]
   exact fun dx H' s hx=>k dx H' (s1.trans s) hx
theorem ok_closed_around (F:Fun K "closed_around" "closed_around" st_closed_around f fd)(Cring_with:XCallee P w K mg base "ring_with" 5 ["hall","guest"] (spRingW c)) : FnOk P w K mg base (CXD P w) 6 f fd ["hall","group"] (spClosed c):=by
 refine F.okX sc_closed_around (fun vs H Q E h=>?_) (fun cdv A outer s H vs Q E hr h=>?_)
 ·obtain⟨p,l,B,st,gs,rfl,_⟩:=h
  rfl
 ·obtain⟨p,l,B,st,gs,rfl,S,G,h64,smk,hl,gl,gsm,k⟩:=h
  have hu:=hu_of hr
  have PW:=prm_good G
  refine⟨_,pss_cons (ps_st 2 sc_closed_around.nd (pe_callTy0 call_set0I (by rfl) T.bset PyProof.Rows.boot_set)) (
   pss_cons (ps_for PassesOwn.leaving rfl (pi_list (pv 1)) (pgn 3 sc_closed_around.nd) (pss_one (ps_if (pt_cmpR op_notInI (pv 3) (pv 2) rfl) (pss_one (ps_for PassesOwn.leaving rfl (pi_list (pxcall Cring_with hr.m rfl pass_cx (pa2 (pv 0) (pv 3)))) (pgn 4 sc_closed_around.nd) (pss_one (ps_expr (pe_bmS PySem.F.slot_set_add PySem.F.type_set_add mt_addI (pv 2) (pa1 (pv 4))))))) (pss_nil)))) (
   pss_one (ps_ret (pe_callB (call_sortedI rfl) (by rfl) T.sorted PyProof.Rows.boot_sorted (pa1 (pv 2)))))),?_⟩
  refine⟨rfl,fun ls hls=>?_⟩
  have s1:=same_new (o:=ISet P w ls []) hls
  have nl:l≠ls:=fun z=>by rw[z,hls]at hl;cases hl
  have wl:∀ {L:List Int},L.Nodup→(∀ x∈L,x∈keysL st.worn)→L.length≤st.worn.length:=fun {L} n h=>by rw[←len_keys];exact nodup_len n h
  refine⟨_,rfl,l,rfl,⟨_,SqL.of (s1 _ _ hl)⟩,?_⟩
  refine for_list (K:=K) (a:=l) (xs:=gs.map V.int) (fun i σ HH=>∃ (v3 v4:Option V)(L:List Int),σ=[some (.ref p),some (.ref l),some (.ref ls),v3,v4]∧Same H HH∧HH ls=some (ISet P w ls L)∧L.Nodup∧CloI st.worn (gs.take i) L∧∀ x∈gs.take i,notIn st.worn x=false)
   ⟨none,none,[],rfl,s1,upd_same,List.nodup_nil,CloI.nil _,fun x hx=>(by simp at hx)⟩ (fun i σ HH _ ⟨_,_,_,_,s,_⟩=>SqL.of (s _ _ hl)) ?_ ?_
  ·rintro i y σ HH hi ⟨v3,v4,L,rfl,sH,hL,nd,C,bef⟩
   obtain⟨g,hg,rfl⟩:=map_get hi
   have gin:=List.mem_of_getElem? hg
   have et:gs.take (i+1)=gs.take i++[g]:=by rw[List.take_add_one,hg,Option.toList_some]
   have ll:=wl nd C.sub
   refine⟨_,rfl,_,rfl,ls,L,g,rfl,rfl,hL,_,rfl,?_⟩
   rw[if_pos rfl]
   have bef2:notIn st.worn g=false→∀ x∈gs.take (i+1),notIn st.worn x=false:=fun z x hx=>by
    rw[et]at hx
    rcases List.mem_append.mp hx with q | q
    ·exact bef x q
    ·rw[List.mem_singleton.mp q];exact z
   by_cases hgL:g∈L
   ·rw[decide_eq_true hgL]
    have z:notIn st.worn g=false:=by unfold notIn;rw[look_mem.mpr (C.sub g hgL)];rfl
    exact iteF ⟨_,_,L,rfl,sH,hL,nd,by rw[et];exact C.skip hgL,bef2 z⟩
   rw[decide_eq_false hgL]
   refine iteT ⟨_,rfl,_,rfl,p,B,st,g,rfl,S.mono sH,G,h64,smk,gsm g gin,?_⟩
   cases e:(look st.worn g).isSome with
   | false =>
    rw[if_neg Bool.false_ne_true]
    intro dx H' s' hx
    have z:gs.find? (notIn st.worn)=some g:=findAt hg bef (by unfold notIn;rw[e];rfl)
    rw[z]at k
    exact k dx H' (sH.trans s') hx
   | true =>
    rw[if_pos rfl]
    intro lr H' hlr s' hr'
    have gk:g∈keysL st.worn:=look_mem.mp e
    have nr:lr≠ls:=fun z=>by rw[z,hL]at hlr;cases hlr
    have rsub:∀ x∈ringR (wr st.worn) st.worn.length g,x∈keysL st.worn:=fun x hx=>by
     obtain⟨n,_,rfl⟩:=ring_mem.mp hx
     exact iter_in PW.cl gk n
    refine⟨lr,rfl,⟨_,SqL.of hr'⟩,?_⟩
    refine for_list (K:=K) (a:=lr) (xs:=(ringR (wr st.worn) st.worn.length g).map V.int) (fun j σ HX=>∃ (v4:Option V)(L':List Int),σ=[some (.ref p),some (.ref l),some (.ref ls),some (.int g),v4]∧Same H HX∧HX ls=some (ISet P w ls L')∧HX lr=some (.lst ((ringR (wr st.worn) st.worn.length g).map V.int))∧L'.Nodup∧∀ x,x∈L'↔x∈L∨x∈(ringR (wr st.worn) st.worn.length g).take j)
     ⟨_,L,rfl,sH.trans s',s' _ _ hL,hr',nd,fun x=>by simp⟩ (fun j σ HX _ ⟨_,_,_,_,_,e,_⟩=>SqL.of e) ?_ ?_
    ·rintro j y σ HX hj ⟨v4,L',rfl,sX,hX,hrX,nd',mem'⟩
     obtain⟨x,hx,rfl⟩:=map_get hj
     have sub':∀ x∈L',x∈keysL st.worn:=fun x hx=>((mem' x).mp hx).elim (C.sub x) fun z=>rsub x (List.mem_of_mem_take z)
     have ll':=wl nd' sub'
     refine⟨_,rfl,iset_ty hX,_,rfl,ls,L',x,rfl,rfl,hX,by omega,?_⟩
     refine⟨_,_,rfl,same_upd sX hls,upd_same,by rw[upd_ne nr];exact hrX,?_,fun y=>?_⟩
     ·split
      ·exact nd'
      ·rename_i hn
       exact List.nodup_append.mpr ⟨nd',by simp,fun a ha b hb z=>hn (by rw[←List.mem_singleton.mp hb,←z];exact ha)⟩
     ·rw[List.take_add_one,hx,Option.toList_some]
      have mx:=mem' y
      split
      ·rename_i hn
       rw[mx,List.mem_append]
       refine⟨fun z=>z.elim .inl fun q=>.inr (.inl q),fun z=>z.elim .inl fun q=>q.elim .inr fun r=>?_⟩
       rw[List.mem_singleton.mp r]
       exact (mem' x).mp hn
      ·rw[List.mem_append,mx,List.mem_append]
       exact or_assoc
    ·rintro σ HX ⟨v4,L',rfl,sX,hX,hrX,nd',mem'⟩
     have z:notIn st.worn g=false:=by unfold notIn;rw[e];rfl
     rw[List.length_map,List.take_length]at mem'
     exact⟨_,_,L',rfl,sX,hX,nd',by rw[et];exact C.ring PW gk mem',bef2 z⟩
  ·rintro σ HH ⟨v3,v4,L,rfl,sH,hL,nd,C,bef⟩
   rw[List.length_map,List.take_length]at C bef
   rw[find_no bef]at k
   have ll:=wl nd C.sub
   refine⟨_,rfl,ls,L,rfl,hL,by omega,fun q hq=>?_⟩
   exact k L q _ (sH.free hq) (sH.trans (same_new hq)) upd_same nd C
theorem ok_NoGuest_init (F:Fun K "__init__" "NoGuest.__init__" st_NoGuest_init f fd) : FnOk P w K mg base CX0 1 f fd ["self","guest"] (spNG c.cN "guest"):=by
 refine F.ok sc_NoGuest_init (fun vs H Q E h=>?_) (fun cdv A outer s H vs Q E hr h=>?_)
 ·obtain⟨ea,g,rfl,_⟩:=h
  rfl
 ·obtain⟨ea,g,rfl,hg,hx,k⟩:=h
  refine⟨_,pss_cons (ps_expr (pe_binit (fI:=c.fN) rfl U.mW U.wS U.wR U.wI (pa_cons (pv 0) (pa_cons (pe_fstr (pj_cons (pe_fint (pv 1)) (pj_cons pe_str (pj_nil)))) pa_nil)))) (
   pss_one (ps_exset (pv 0) (pv 1) rfl)),?_⟩
  refine⟨_,rfl,_,rfl,g,rfl,hg,fun y hy=>⟨y,rfl,hy,_,rfl,by decide,fun z=>⟨ea,c.cN,_,rfl,hx,U.eN,?_⟩⟩⟩
  exact⟨_,rfl,_,rfl,ea,c.cN,rfl,hx,U.gN,k⟩
theorem ok_Hall_init (F:Fun K "__init__" "Hall.__init__" st_Hall_init f fd) : FnOk P w K mg base CX0 1 f fd ["self"] (spNew c.C):=by
 refine F.ok sc_Hall_init (fun vs H Q E h=>?_) (fun cdv A outer s H vs Q E hr h=>?_)
 ·obtain⟨p,dx,rfl,_⟩:=h
  rfl
 ·obtain⟨p,dx,rfl,hp,k⟩:=h
  refine⟨_,pss_cons (ps_fld (pv 0) pe_dnewK rfl) (
   pss_cons (ps_fld (pv 0) pe_dnewK rfl) (
   pss_cons (ps_fld (pv 0) pe_dnewK rfl) (
   pss_one (ps_fld (pv 0) (pe_lst pa_nil) rfl)))),?_⟩
  intro w hw
  have n1:p≠w:=ne_of_none hp hw
  refine⟨_,rfl,p,c.C,dx,[],rfl,(by rw[upd_ne n1];exact hp),U.cl,U.nW,(by show 0<1000;decide),?_⟩
  intro h hh
  have n2:p≠h:=ne_of_none upd_same hh
  refine⟨_,rfl,p,c.C,dx,_,rfl,(by rw[upd_ne n2,upd_same]),U.cl,U.nH,(by show 1<1000;decide),?_⟩
  intro cc hc
  have n3:p≠cc:=ne_of_none upd_same hc
  refine⟨_,rfl,p,c.C,dx,_,rfl,(by rw[upd_ne n3,upd_same]),U.cl,U.nC,(by show 2<1000;decide),?_⟩
  refine⟨by show 0≤sizeLine;exact Nat.zero_le _,fun d hd=>?_⟩
  have n4:p≠d:=ne_of_none upd_same hd
  refine⟨_,rfl,p,c.C,dx,_,rfl,(by rw[upd_ne n4,upd_same]),U.cl,U.nD,(by show 3<1000;decide),?_⟩
  rw[upd_ne (Ne.symm n2)]at hh
  have wh:w≠h:=ne_of_none upd_same hh
  rw[upd_ne (Ne.symm n3)]at hc
  have hcw:h≠cc:=ne_of_none upd_same hc
  rw[upd_ne (Ne.symm hcw),upd_ne (Ne.symm n3)]at hc
  have hwc:w≠cc:=ne_of_none upd_same hc
  rw[upd_ne (Ne.symm n4)]at hd
  have hdc:cc≠d:=ne_of_none upd_same hd
  rw[upd_ne (Ne.symm hdc),upd_ne (Ne.symm n4)]at hd
  have hdh:h≠d:=ne_of_none upd_same hd
  rw[upd_ne (Ne.symm hdh),upd_ne (Ne.symm n4)]at hd
  have hdw:w≠d:=ne_of_none upd_same hd
  rw[upd_ne (Ne.symm hdw)]at hd
  rw[upd_ne (Ne.symm hwc)]at hc
  rw[upd_ne (Ne.symm wh)]at hh
  refine k ⟨dx,w,h,cc,d,[]⟩ _ ⟨upd_same,?_,?_,?_,?_,.nil,[],?_,.nil⟩ (fun b o e hb=>?_) fun b hb=>?_
  ·simp[HA.fp,wh,hwc,hdw,hcw,hdh,hdc]
  ·rw[upd_ne (Ne.symm n1),upd_ne hdw,upd_ne (Ne.symm n1),upd_ne hwc,upd_ne (Ne.symm n1),upd_ne wh,upd_ne (Ne.symm n1),upd_same]
   rfl
  ·rw[upd_ne (Ne.symm n2),upd_ne hdh,upd_ne (Ne.symm n2),upd_ne hcw,upd_ne (Ne.symm n2),upd_same]
   rfl
  ·rw[upd_ne (Ne.symm n3),upd_ne hdc,upd_ne (Ne.symm n3),upd_same]
   rfl
  ·rw[upd_ne (Ne.symm n4),upd_same]
   rfl
  ·rw[upd_ne hb,upd_ne (ne_of_none e hd),upd_ne hb,upd_ne (ne_of_none e hc),upd_ne hb,upd_ne (ne_of_none e hh),upd_ne hb,upd_ne (ne_of_none e hw)]
   exact e
  ·simp[HA.fp]at hb
   rcases hb with rfl | rfl | rfl | rfl
   ·exact hw
   ·exact hh
   ·exact hc
   ·exact hd
theorem ok_Hall_come (F:Fun K "come" "Hall.come" st_Hall_come f fd)(M_Hall_dress:MCallee P w K mg base CX0 c.C "dress" 1 ["self","guest","mask"] (spDress c.C)) : FnOk P w K mg base (CXD P w) 2 f fd ["self","guest"] (spCome c):=by
 refine F.okX sc_Hall_come (fun vs H Q E h=>?_) (fun cdv A outer s H vs Q E hr h=>?_)
 ·obtain⟨p,B,st,g,rfl,_⟩:=h
  rfl
 ·obtain⟨p,B,st,g,rfl,S,ft,hg,k⟩:=h
  have hu:=hu_of hr
  refine⟨_,pss_cons (ps_if (pt_cmp (pc_din hu (pv 1) (pe_fld (pv 0) rfl))) (pss_one (ps_raise U.eA flies_cx rfl hr.hd rfl U.mA (pe_fstr (pj_cons (pe_fint (pv 1)) (pj_cons pe_str (pj_nil)))))) pss_nil) (
   pss_cons (ps_expr (pmeth M_Hall_dress (pv 0) U.cl hr pass0 (pa_cons (pv 1) (pa_cons (pv 1) pa_nil)))) (
   pss_one (ps_expr (pe_bm PySem.F.plainAttrs_list PySem.F.slot_list_append PySem.F.type_list_append mt_append (pe_fld (pv 0) rfl) (pa_cons (pe_tup (pa_cons (pe_str) (pa_cons (pv 1) (pa_nil)))) pa_nil))))),?_⟩
  have g1:DGet H B.w (.int g) ((look st.worn g).map V.int):=by rw[←valV_dk];exact DGet.k (k:=Sum.inl g) S.w
  refine⟨_,rfl,_,rfl,p,c.C,B.dx,_,_,rfl,S.ob,U.cl,U.nW,hf_w _,B.w,_,rfl,g1,_,rfl,?_⟩
  cases e:look st.worn g with
  | some m =>
   refine iteT ⟨_,rfl,g,rfl,hg,fun y hy=>⟨y,rfl,hy,_,rfl,by decide,fun z=>?_⟩⟩
   exact does_not (o:=.already) k (by simp[judge,e]) (by simp) _ (fun _ _ z=>z)
  | none =>
   refine iteF ⟨_,rfl,p,B.dx,_,rfl,S.ob,hf_no _ (by decide +kernel) (by decide +kernel) (by decide +kernel) (by decide +kernel),_,rfl,_,rfl,p,B,st,g,g,rfl,S,by have:=ft.w;omega,by have:=ft.h;omega,?_⟩
   have S1:=hall_h (hall_w S (put st.worn g g)) (put st.hold g g)
   have k1:Kp B.fp H (upd (upd H B.w (.dK (dk (put st.worn g g)))) B.h (.dK (dk (put st.hold g g)))):=(kp_one mem_w).on (kp_one mem_h)
   have t1:Tr H (upd (upd H B.w (.dK (dk (put st.worn g g)))) B.h (.dK (dk (put st.hold g g)))):=(Tr.refl.upd _ _).upd _ _
   generalize upd (upd H B.w (.dK (dk (put st.worn g g)))) B.h (.dK (dk (put st.hold g g)))=H1 at S1 k1 t1
   obtain⟨as,hd,hp⟩:=id S1.d
   have hl:as.length=st.deeds.length:=Paired.length hp
   refine⟨_,rfl,p,c.C,B.dx,_,_,rfl,S1.ob,U.cl,U.nD,hf_d _,.inl ⟨rfl,_,SqL.of hd⟩,_,rfl,by show 2≤sizeLine;decide,fun t ht=>?_⟩
   have td:B.d≠t:=ne_of_none hd ht
   refine⟨B.d,_,_,rfl,rfl,by rw[upd_ne td];exact hd,by rw[List.length_map];exact small1000 (by have:=ft.d;omega),?_⟩
   refine does_done k (by simp[judge,e]) _ ⟨B,hall_deed S1 hd hp (.come g) ht,(k1.on (kp_new ht)).on (kp_one mem_d),fun b hb=>.inl hb,(t1.upd _ _).upd _ _⟩
theorem ok_Hall_go (F:Fun K "go" "Hall.go" st_Hall_go f fd)(M_Hall_wears:MCallee P w K mg base (CXD P w) c.C "wears" 3 ["self","guest"] (spWears c)) : FnOk P w K mg base (CXD P w) 4 f fd ["self","guest"] (spGo c):=by
 refine F.okX sc_Hall_go (fun vs H Q E h=>?_) (fun cdv A outer s H vs Q E hr h=>?_)
 ·obtain⟨p,B,st,g,rfl,_⟩:=h
  rfl
 ·obtain⟨p,B,st,g,rfl,S,ft,hg,hm,k⟩:=h
  refine⟨_,pss_cons (ps_if (pt_cmpR op_ne (pmeth M_Hall_wears (pv 0) U.cl hr pass_cx (pa_cons (pv 1) pa_nil)) (pv 1) (nomark _)) (pss_one (ps_raise U.eM flies_cx rfl hr.hd rfl U.mM (pe_fstr (pj_cons (pe_fint (pv 1)) (pj_cons pe_str (pj_cons (pe_fint (pmeth M_Hall_wears (pv 0) U.cl hr pass_cx (pa_cons (pv 1) pa_nil))) (pj_nil))))))) pss_nil) (
   pss_cons (ps_expr (pe_dpop1 (pe_fld (pv 0) rfl) (pv 1) ⟨rfl,rfl,rfl,rfl⟩)) (
   pss_cons (ps_expr (pe_dpop1 (pe_fld (pv 0) rfl) (pv 1) ⟨rfl,rfl,rfl,rfl⟩)) (
   pss_one (ps_expr (pe_bm PySem.F.plainAttrs_list PySem.F.slot_list_append PySem.F.type_list_append mt_append (pe_fld (pv 0) rfl) (pa_cons (pe_tup (pa_cons (pe_str) (pa_cons (pv 1) (pa_nil)))) pa_nil)))))),?_⟩
  have no:=hf_no B (m:="wears") (by decide +kernel) (by decide +kernel) (by decide +kernel) (by decide +kernel)
  refine⟨_,rfl,p,B.dx,_,rfl,S.ob,no,_,rfl,p,B,st,g,rfl,S,hg,?_⟩
  cases e:look st.worn g with
  | none=>exact does_not (o:=.noguest g) k (by simp[judge,e]) (by simp)
  | some m =>
   obtain⟨hs,hh⟩:=hm m e
   refine⟨_,rfl,rfl,_,rfl,?_⟩
   by_cases em:m=g
   ·subst em
    rw[decide_eq_true rfl]
    refine iteF ?_
    have hv:valV (dk st.worn) (Sum.inl m:Key)=some (V.int m):=by rw[valV_dk,e];rfl
    obtain⟨m2,e2⟩:=Option.isSome_iff_exists.mp (hh rfl)
    have hv2:valV (dk st.hold) (Sum.inl m:Key)=some (V.int m2):=by rw[valV_dk,e2];rfl
    refine⟨_,rfl,p,c.C,B.dx,_,_,rfl,S.ob,U.cl,U.nW,hf_w _,B.w,rfl,.inl ⟨_,.inl S.w⟩,_,rfl,_,Sum.inl m,_,S.w,rfl,hv,?_⟩
    rw[dropK_dk]
    have S0:=hall_w S (dropI st.worn m)
    refine⟨_,rfl,p,c.C,B.dx,_,_,rfl,S0.ob,U.cl,U.nH,hf_h _,B.h,rfl,.inl ⟨_,.inl S0.h⟩,_,rfl,_,Sum.inl m,_,S0.h,rfl,hv2,?_⟩
    rw[dropK_dk]
    have S1:=hall_h S0 (dropI st.hold m)
    have k1:Kp B.fp H (upd (upd H B.w (.dK (dk (dropI st.worn m)))) B.h (.dK (dk (dropI st.hold m)))):=(kp_one mem_w).on (kp_one mem_h)
    have t1:Tr H (upd (upd H B.w (.dK (dk (dropI st.worn m)))) B.h (.dK (dk (dropI st.hold m)))):=(Tr.refl.upd _ _).upd _ _
    generalize upd (upd H B.w (.dK (dk (dropI st.worn m)))) B.h (.dK (dk (dropI st.hold m)))=H1 at S1 k1 t1
    obtain⟨as,hd,hp⟩:=id S1.d
    have hl:as.length=st.deeds.length:=Paired.length hp
    refine⟨_,rfl,p,c.C,B.dx,_,_,rfl,S1.ob,U.cl,U.nD,hf_d _,.inl ⟨rfl,_,SqL.of hd⟩,_,rfl,by show 2≤sizeLine;decide,fun t ht=>?_⟩
    have td:B.d≠t:=ne_of_none hd ht
    refine⟨B.d,_,_,rfl,rfl,by rw[upd_ne td];exact hd,by rw[List.length_map];exact small1000 (by have:=ft.d;omega),?_⟩
    refine does_done k (by simp[judge,e]) _ ⟨B,hall_deed S1 hd hp (.go m) ht,(k1.on (kp_new ht)).on (kp_one mem_d),fun b hb=>.inl hb,(t1.upd _ _).upd _ _⟩
   ·rw[decide_eq_false (fun z=>em (V.int.inj z))]
    refine iteT ⟨_,rfl,g,rfl,hg,fun y hy=>⟨y,rfl,hy,_,rfl,by decide,?_⟩⟩
    refine⟨_,rfl,p,B.dx,_,rfl,S.ob,no,_,rfl,p,B,st,g,rfl,S,hg,?_⟩
    rw[e]
    refine⟨m,rfl,hs,fun y hy=>⟨y,rfl,hy,fun z=>?_⟩⟩
    exact does_not (o:=.masked) k (by simp[judge,e,em]) (by simp) _ (fun _ _ z=>z)
theorem ok_Hall_exchange (F:Fun K "exchange" "Hall.exchange" st_Hall_exchange f fd)(M_Hall_wears:MCallee P w K mg base (CXD P w) c.C "wears" 3 ["self","guest"] (spWears c))(M_Hall_met:MCallee P w K mg base CX0 c.C "met" 1 ["self","one","other"] (spMet c.C))(M_Hall_dress:MCallee P w K mg base CX0 c.C "dress" 1 ["self","guest","mask"] (spDress c.C))(M_Hall_acquaint:MCallee P w K mg base CX0 c.C "acquaint" 1 ["self","one","other"] (spAcq c.C)) : FnOk P w K mg base (CXD P w) 4 f fd ["self","one","other"] (spExch c):=by
 refine F.okX sc_Hall_exchange (fun vs H Q E h=>?_) (fun cdv A outer s H vs Q E hr h=>?_)
 ·obtain⟨p,B,st,a,b,rfl,_⟩:=h
  rfl
 ·obtain⟨p,B,st,a,b,rfl,S,ft,ha,hb,k⟩:=h
  have hr1:Room 1 _:=hr.mono (by decide)
  refine⟨_,pss_cons (ps_set (i:=3) sc_Hall_exchange.nd rfl (Or.inl rfl) (pmeth M_Hall_wears (pv 0) U.cl hr pass_cx (pa_cons (pv 1) pa_nil))) (
   pss_cons (ps_set (i:=4) sc_Hall_exchange.nd rfl (Or.inl rfl) (pmeth M_Hall_wears (pv 0) U.cl hr pass_cx (pa_cons (pv 2) pa_nil))) (
   pss_cons (ps_if (pt_cmpR op_eq (pv 1) (pv 2) (nomark _)) (pss_one (ps_raise U.eS flies_cx rfl hr.hd rfl U.mS (pe_fstr (pj_cons (pe_fint (pv 1)) (pj_cons pe_str (pj_nil)))))) pss_nil) (
   pss_cons (ps_if (pt_val (pmeth M_Hall_met (pv 0) U.cl hr1 pass0 (pa_cons (pv 1) (pa_cons (pv 2) pa_nil)))) (pss_one (ps_raise U.eT flies_cx rfl hr.hd rfl U.mT (pe_fstr (pj_cons (pe_fint (pv 1)) (pj_cons pe_str (pj_cons (pe_fint (pv 2)) (pj_cons pe_str (pj_nil)))))))) pss_nil) (
   pss_cons (ps_expr (pmeth M_Hall_dress (pv 0) U.cl hr1 pass0 (pa_cons (pv 1) (pa_cons (pv 4) pa_nil)))) (
   pss_cons (ps_expr (pmeth M_Hall_dress (pv 0) U.cl hr1 pass0 (pa_cons (pv 2) (pa_cons (pv 3) pa_nil)))) (
   pss_cons (ps_expr (pmeth M_Hall_acquaint (pv 0) U.cl hr1 pass0 (pa_cons (pv 1) (pa_cons (pv 2) pa_nil)))) (
   pss_cons (ps_expr (pmeth M_Hall_acquaint (pv 0) U.cl hr1 pass0 (pa_cons (pv 2) (pa_cons (pv 1) pa_nil)))) (
   pss_one (ps_expr (pe_bm PySem.F.plainAttrs_list PySem.F.slot_list_append PySem.F.type_list_append mt_append (pe_fld (pv 0) rfl) (pa_cons (pe_tup (pa_cons (pe_str) (pa_cons (pv 1) (pa_cons (pv 2) (pa_nil))))) pa_nil))))))))))),?_⟩
  have no:∀ (B:HA)(m:Str),m∈(["wears","met","dress","acquaint"]:List Str)→(hflds B).lookup m=none:=fun B m hm=>by
   simp only[List.mem_cons,List.not_mem_nil,or_false]at hm
   rcases hm with rfl | rfl | rfl | rfl<;>exact hf_no B (by decide +kernel) (by decide +kernel) (by decide +kernel) (by decide +kernel)
  have n1:∀ B:HA,(hflds B).lookup ("wears" : Str)=none:=fun B=>no B _ (by simp)
  have n2:∀ B:HA,(hflds B).lookup ("met" : Str)=none:=fun B=>no B _ (by simp)
  have n3:∀ B:HA,(hflds B).lookup ("dress" : Str)=none:=fun B=>no B _ (by simp)
  have n4:∀ B:HA,(hflds B).lookup ("acquaint" : Str)=none:=fun B=>no B _ (by simp)
  refine⟨_,rfl,p,B.dx,_,rfl,S.ob,n1 B,_,rfl,p,B,st,a,rfl,S,ha,?_⟩
  cases ea:look st.worn a with
  | none=>exact does_not (o:=.noguest a) k (by simp[judge,ea]) (by simp)
  | some ma =>
   refine⟨_,rfl,p,B.dx,_,rfl,S.ob,n1 B,_,rfl,p,B,st,b,rfl,S,hb,?_⟩
   cases eb:look st.worn b with
   | none=>exact does_not (o:=.noguest b) k (by simp[judge,ea,eb]) (by simp)
   | some mb =>
    refine⟨_,rfl,_,rfl,rfl,_,rfl,?_⟩
    by_cases eab:a=b
    ·rw[decide_eq_true (by rw[eab])]
     refine iteT ⟨_,rfl,a,rfl,ha,fun y hy=>⟨y,rfl,hy,_,rfl,by decide,fun z=>?_⟩⟩
     exact does_not (o:=.same) k (by simp[judge,ea,eb,eab]) (by simp) _ (fun _ _ z=>z)
    ·rw[decide_eq_false (fun z=>eab (V.int.inj z))]
     refine iteF ⟨_,rfl,p,B.dx,_,rfl,S.ob,n2 B,_,rfl,_,rfl,p,B,st,a,b,rfl,S,fun H1 s1=>⟨_,rfl,?_⟩⟩
     cases em:metC st.circ a b with
     | true =>
      refine iteT ⟨_,rfl,a,rfl,ha,fun y hy=>⟨y,rfl,hy,_,rfl,by decide,_,rfl,b,rfl,hb,fun y hy=>⟨y,rfl,hy,_,rfl,by decide,fun z=>?_⟩⟩⟩
      exact does_not (o:=.met) k (by simp[judge,ea,eb,eab,em]) (by simp) _ s1
     | false =>
      refine iteF ?_
      have S1:=S.mono s1
      have kd:=does_done k (by simp[judge,ea,eb,eab,em])
      have wa:wr st.worn a=ma:=by unfold wr;rw[ea];rfl
      have wb:wr st.worn b=mb:=by unfold wr;rw[eb];rfl
      have l1:=len_put st.worn a mb
      have l2:=len_put st.hold mb a
      have f1:=ft.w
      have f2:=ft.h
      refine⟨_,rfl,p,B.dx,_,rfl,S1.ob,n3 B,_,rfl,_,rfl,p,B,st,a,mb,rfl,S1,by omega,by omega,?_⟩
      have S2:=hall_h (hall_w S1 (put st.worn a mb)) (put st.hold mb a)
      have k2:Kp B.fp H (upd (upd H1 B.w (.dK (dk (put st.worn a mb)))) B.h (.dK (dk (put st.hold mb a)))):=((Kp.of_same s1).on (kp_one mem_w)).on (kp_one mem_h)
      have t2:Tr H (upd (upd H1 B.w (.dK (dk (put st.worn a mb)))) B.h (.dK (dk (put st.hold mb a)))):=((Tr.of_same s1).upd _ _).upd _ _
      generalize upd (upd H1 B.w (.dK (dk (put st.worn a mb)))) B.h (.dK (dk (put st.hold mb a)))=H2 at S2 k2 t2
      refine⟨_,rfl,p,B.dx,_,rfl,S2.ob,n3 B,_,rfl,_,rfl,p,B,_,b,ma,rfl,S2,by show (put st.worn a mb).length<2000;omega,by show (put st.hold mb a).length<2000;omega,?_⟩
      have S3:=hall_h (hall_w S2 (put (put st.worn a mb) b ma)) (put (put st.hold mb a) ma b)
      have k3:Kp B.fp H (upd (upd H2 B.w (.dK (dk (put (put st.worn a mb) b ma)))) B.h (.dK (dk (put (put st.hold mb a) ma b)))):=(k2.on (kp_one mem_w)).on (kp_one mem_h)
      dsimp only at S3 ⊢
      have t3:Tr H (upd (upd H2 B.w (.dK (dk (put (put st.worn a mb) b ma)))) B.h (.dK (dk (put (put st.hold mb a) ma b)))):=(t2.upd _ _).upd _ _
      generalize upd (upd H2 B.w (.dK (dk (put (put st.worn a mb) b ma)))) B.h (.dK (dk (put (put st.hold mb a) ma b)))=H3 at S3 k3 t3
      refine⟨_,rfl,p,B.dx,_,rfl,S3.ob,n4 B,_,rfl,_,rfl,p,B,_,a,b,rfl,S3,by have:=ft.c;show st.circ.length<2000;omega,fun x hx=>by have:=ft.k x hx;omega,fun H4 ⟨B4,S4,k4,p4,t4⟩=>?_⟩
      dsimp only at S4
      refine⟨_,rfl,p,B4.dx,_,rfl,S4.ob,n4 B4,_,rfl,_,rfl,p,B4,_,b,a,rfl,S4,by have:=ft.c;have:=len_addC st.circ a b;show (addC st.circ a b).length<2000;omega,fun x hx=>by have:=addC_len (n:=999) (fun x hx=>by have:=ft.k x hx;omega) (by decide) x hx;omega,fun H5 ⟨B5,S5,k5,p5,t5⟩=>?_⟩
      dsimp only at S5
      have k4':Kp B.fp H H4:=k3.on k4
      have f4:∀ x∈B4.fp,x∈B.fp∨H x=none:=fun x hx=>by
       rcases p4 x hx with z | z
       ·exact .inl z
       ·by_cases hq:x∈B.fp
        ·exact .inl hq
        ·refine .inr ?_
         cases e:H x with
         | none=>rfl
         | some o=>rw[k3 x o e hq]at z;cases z
      have k5':Kp B.fp H H5:=k4'.trans k5 f4
      have f5:∀ x∈B5.fp,x∈B.fp∨H x=none:=fun x hx=>by
       rcases p5 x hx with z | z
       ·exact f4 x z
       ·by_cases hq:x∈B.fp
        ·exact .inl hq
        ·refine .inr ?_
         cases e:H x with
         | none=>rfl
         | some o=>rw[k4' x o e hq]at z;cases z
      obtain⟨as,hd,hp⟩:=id S5.d
      have hl:as.length=st.deeds.length:=Paired.length hp
      refine⟨_,rfl,p,c.C,B5.dx,_,_,rfl,S5.ob,U.cl,U.nD,hf_d _,.inl ⟨rfl,_,SqL.of hd⟩,_,rfl,_,rfl,by show 3≤sizeLine;decide,fun t ht=>?_⟩
      have td:B5.d≠t:=ne_of_none hd ht
      refine⟨B5.d,_,_,rfl,rfl,by rw[upd_ne td];exact hd,by rw[List.length_map];exact small1000 (by have:=ft.d;omega),?_⟩
      have S6:=hall_deed S5 hd hp (.exch a b) ht
      refine kd _ ⟨B5,?_,?_,f5,(((t3.trans t4).trans t5).upd _ _).upd _ _⟩
      ·show HallAt c.C _ p B5 { worn:=put (put st.worn a (wr st.worn b)) b (wr st.worn a),hold:=put (put st.hold (wr st.worn b) a) (wr st.worn a) b,circ:=addC (addC st.circ a b) b a,deeds:=st.deeds++[.exch a b] }
       rw[wa,wb]
       exact S6
      ·intro x o e hx
       have h5:=k5' x o e hx
       have hx5:x≠B5.d:=fun z=>by
        rcases f5 B5.d mem_d with q | q
        ·exact hx (by rw[z];exact q)
        ·rw[z,q]at e;cases e
       show upd (upd H5 t _) B5.d _ x=some o
       rw[upd_ne hx5,upd_ne (ne_of_none h5 ht)]
       exact h5
theorem ok_Hall_dress (F:Fun K "dress" "Hall.dress" st_Hall_dress f fd) : FnOk P w K mg base CX0 1 f fd ["self","guest","mask"] (spDress c.C):=by
 refine F.ok sc_Hall_dress (fun vs H Q E h=>?_) (fun cdv A outer s H vs Q E hr h=>?_)
 ·obtain⟨p,B,st,g,m,rfl,_⟩:=h
  rfl
 ·obtain⟨p,B,st,g,m,rfl,S,hw,hh,k⟩:=h
  have hu:=hu_of hr
  have nwh:B.w≠B.h:=by have:=S.nd;simp[HA.fp]at this;exact this.1.1
  have npw:p≠B.w:=ne_of S.ob S.w (by intro z;cases z)
  refine⟨_,pss_cons (ps_dput hu (pe_fld (pv 0) rfl) (pv 1) (pv 2) rfl) (
   pss_one (ps_dput hu (pe_fld (pv 0) rfl) (pv 2) (pv 1) rfl)),?_⟩
  refine⟨_,rfl,_,rfl,p,c.C,B.dx,_,_,rfl,S.ob,U.cl,U.nW,hf_w _,_,rfl,B.w,_,rfl,DPut.k (k:=Sum.inl g) S.w (by rw[len_dk];exact Nat.lt_of_lt_of_le hw (by decide)),?_⟩
  rw[putK_dk]
  refine⟨_,rfl,_,rfl,p,c.C,B.dx,_,_,rfl,(by rw[upd_ne npw];exact S.ob),U.cl,U.nH,hf_h _,_,rfl,B.h,_,rfl,DPut.k (k:=Sum.inl m) (by rw[upd_ne (Ne.symm nwh)];exact S.h) (by rw[len_dk];exact Nat.lt_of_lt_of_le hh (by decide)),?_⟩
  rw[putK_dk]
  exact k
theorem ok_Hall_acquaint (F:Fun K "acquaint" "Hall.acquaint" st_Hall_acquaint f fd) : FnOk P w K mg base CX0 1 f fd ["self","one","other"] (spAcq c.C):=by
 refine F.ok sc_Hall_acquaint (fun vs H Q E h=>?_) (fun cdv A outer s H vs Q E hr h=>?_)
 ·obtain⟨p,B,st,a,b,rfl,_⟩:=h
  rfl
 ·obtain⟨p,B,st,a,b,rfl,S,hl1,hl2,k⟩:=h
  have hu:=hu_of hr
  refine⟨_,pss_cons (ps_set (i:=3) sc_Hall_acquaint.nd rfl (Or.inl rfl) (pe_dsetd (pe_fld (pv 0) rfl) (pv 1) pe_dnewK ⟨rfl,rfl,rfl,rfl⟩)) (
   pss_one (ps_dput hu (pv 3) (pv 2) pe_bl rfl)),?_⟩
  refine⟨_,rfl,p,c.C,B.dx,_,_,rfl,S.ob,U.cl,U.nC,hf_c _,B.c,rfl,.inl ⟨_,.inl S.c⟩,_,rfl,fun l hl=>?_⟩
  have s1:Same H (upd H l (.dK [])):=same_new hl
  have S1:=S.mono s1
  have ap:=S.apart
  have lenc:B.cs.length=st.circ.length:=Paired.length S.cs
  have lc:(circK B.cs st.circ).length<sizeLine:=by rw[len_circK lenc];exact Nat.lt_of_lt_of_le hl1 (by decide)
  have np:=S.pne
  simp only[HA.fp,List.mem_cons,not_or]at np
  refine⟨_,Sum.inl a,S1.c,rfl,lc,fun v hv=>?_,fun hv=>?_⟩
  ·rcases circ_look a S1.cs with ⟨h1,h2,h3⟩ | ⟨ad,h1,h2,h3,h4⟩
   ·rw[h1]at hv;cases hv
   ·rw[h2]at hv
    cases hv
    have lk:(ksO (cOf st.circ a)).length<sizeLine:=by
     have e:∀ ci:List (Int×List Int),(∀ x∈ci,x.2.length<2000)→(cOf ci a).length<2000:=by
      intro ci
      induction ci with
      | nil=>intro _;show 0<2000;decide
      | cons x r ih =>
       intro h
       unfold cOf
       split
       ·exact h x List.mem_cons_self
       ·exact ih fun y hy=>h y (List.mem_cons_of_mem _ hy)
     unfold ksO
     rw[List.length_map]
     exact Nat.lt_of_lt_of_le (e _ hl2) (by decide)
    refine⟨_,rfl,_,rfl,ad,_,rfl,DPut.k (k:=Sum.inl b) h3 lk,?_⟩
    rw[put_ksO]
    have adfp:ad∈B.fp:=by simp[HA.fp,h1]
    have nn:∀ x,x∉B.cs→x≠ad:=fun x hx z=>hx (by rw[z];exact h1)
    obtain⟨q1,q2⟩:=h4 b (upd (upd H l (.dK [])) ad (.dK (ksO (addK (cOf st.circ a) b)))) ap.cs (fun x _ hx o e=>by rw[upd_ne hx];exact e) upd_same
    refine k _ ⟨B,⟨by rw[upd_ne (nn _ np.2.2.2.2)];exact S1.ob,S.nd,by rw[upd_ne (nn _ ap.w)];exact S1.w,by rw[upd_ne (nn _ ap.h)];exact S1.h,by rw[upd_ne (nn _ ap.c),S1.c,q2],q1,?_⟩,(kp_new hl).on (kp_one adfp),fun x hx=>.inl hx,(Tr.refl.upd _ _).upd _ _⟩
    obtain⟨as,hd,hp⟩:=S1.d
    refine⟨as,by rw[upd_ne (nn _ ap.d)];exact hd,Paired.mapP hp fun t x e=>?_⟩
    obtain⟨xs,ex⟩:=deed_tup x
    rw[upd_ne (fun z=>S1.tup (xs:=xs) (by rw[←ex];exact e) (by rw[z];exact adfp))]
    exact e
  ·rcases circ_look a S1.cs with ⟨h1,h2,h3⟩ | ⟨ad,h1,h2,h3,h4⟩
   ·have lB:l∉B.fp:=fun z=>by obtain⟨o,e⟩:=S.tracked z;rw[hl]at e;cases e
    have lB':=lB
    simp only[HA.fp,List.mem_cons,not_or]at lB'
    obtain⟨l1,l2,l3,l4,l5⟩:=lB'
    refine⟨_,rfl,_,rfl,l,_,rfl,DPut.k (k:=Sum.inl b) (by rw[upd_ne l3];exact upd_same) (by show 0<sizeLine;decide),?_⟩
    rw[show putK [] (Sum.inl b:Key) (V.bl true)=ksO [b] from rfl,putK_new _ hv]
    have e1:∀ x o,H x=some o→x≠B.c→x≠l→(upd (upd (upd H l (.dK [])) B.c (.dK (circK B.cs st.circ++[(Sum.inl a,V.ref l)]))) l (.dK (ksO [b]))) x=some o:=fun x o e hx hy=>by
     rw[upd_ne hy,upd_ne hx,upd_ne hy];exact e
    have nl:∀ x o,H x=some o→x≠l:=fun x o e=>ne_of_none e hl
    refine k _ ⟨⟨B.dx,B.w,B.h,B.c,B.d,B.cs++[l]⟩,⟨?_,?_,e1 _ _ S.w ap.wc (nl _ _ S.w),e1 _ _ S.h ap.hc (nl _ _ S.h),?_,?_,?_⟩,?_,fun x hx=>?_,((Tr.refl.upd _ _).upd _ _).upd _ _⟩
    ·exact e1 _ _ S.ob np.2.2.1 (nl _ _ S.ob)
    ·refine Apart.fp ⟨ap.wh,ap.wc,ap.wd,ap.hc,ap.hd,ap.cd,?_,?_,?_,?_,?_⟩
     ·simp[ap.w,Ne.symm l1]
     ·simp[ap.h,Ne.symm l2]
     ·simp[ap.c,Ne.symm l3]
     ·simp[ap.d,Ne.symm l4]
     ·exact nd_snoc ap.cs l5
    ·show (upd (upd (upd H l (.dK [])) B.c (.dK (circK B.cs st.circ++[(Sum.inl a,V.ref l)]))) l (.dK (ksO [b]))) B.c=some (.dK (circK (B.cs++[l]) (addC st.circ a b)))
     rw[upd_ne (Ne.symm l3),upd_same,h3 b,circK_snoc a [b] l lenc]
    ·show CsP _ (B.cs++[l]) (addC st.circ a b)
     rw[h3 b]
     exact paired_append (cs_keep S.cs fun x hx o e=>e1 x o e (fun z=>ap.c (by rw[←z];exact hx)) (nl x o e)) (.cons upd_same .nil)
    ·obtain⟨as,hd,hp⟩:=S.d
     refine⟨as,e1 _ _ hd (Ne.symm ap.cd) (nl _ _ hd),Paired.mapP hp fun t x e=>?_⟩
     obtain⟨xs,ex⟩:=deed_tup x
     exact e1 t _ e (fun z=>S.tup (xs:=xs) (by rw[←ex];exact e) (by rw[z];exact mem_c)) (nl t _ e)
    ·intro x o e hx
     exact e1 x o e (fun z=>hx (by rw[z];exact mem_c)) (nl x o e)
    ·simp only[HA.fp,List.mem_cons,List.mem_append]at hx ⊢
     rcases hx with hx | hx | hx | hx | hx | hx | hx
     ·exact .inl (.inl hx)
     ·exact .inl (.inr (.inl hx))
     ·exact .inl (.inr (.inr (.inl hx)))
     ·exact .inl (.inr (.inr (.inr (.inl hx))))
     ·exact .inl (.inr (.inr (.inr (.inr hx))))
     ·exact .inr (by rw[hx];exact hl)
     ·cases hx
   ·rw[h2]at hv;cases hv
theorem ok_Hall_inside (F:Fun K "inside" "Hall.inside" st_Hall_inside f fd) : FnOk P w K mg base CX0 1 f fd ["self","guest"] (spInside c.C):=by
 refine F.ok sc_Hall_inside (fun vs H Q E h=>?_) (fun cdv A outer s H vs Q E hr h=>?_)
 ·obtain⟨p,B,st,g,rfl,_⟩:=h
  rfl
 ·obtain⟨p,B,st,g,rfl,S,k⟩:=h
  have hu:=hu_of hr
  refine⟨_,pss_one (ps_ret (pe_cmp (pc_din hu (pv 1) (pe_fld (pv 0) rfl)))),?_⟩
  have g1:DGet H B.w (.int g) ((look st.worn g).map V.int):=by rw[←valV_dk];exact DGet.k (k:=Sum.inl g) S.w
  refine⟨_,rfl,_,rfl,p,c.C,B.dx,_,_,rfl,S.ob,U.cl,U.nW,hf_w _,B.w,_,rfl,g1,?_⟩
  rw[Option.isSome_map]
  exact k
theorem ok_Hall_guests (F:Fun K "guests" "Hall.guests" st_Hall_guests f fd) : FnOk P w K mg base CX0 1 f fd ["self"] (spGuests c.C):=by
 refine F.ok sc_Hall_guests (fun vs H Q E h=>?_) (fun cdv A outer s H vs Q E hr h=>?_)
 ·obtain⟨p,B,st,rfl,_⟩:=h
  rfl
 ·obtain⟨p,B,st,rfl,S,hl,k⟩:=h
  refine⟨_,pss_one (ps_ret (pe_callB (call_sortedD rfl) (by rfl) T.sorted PyProof.Rows.boot_sorted (pa_cons (pe_fld (pv 0) rfl) pa_nil))),?_⟩
  refine⟨_,rfl,p,c.C,B.dx,_,_,rfl,S.ob,U.cl,U.nW,hf_w _,B.w,_,keysL st.worn,rfl,S.w,?_,by unfold keysL;rw[List.length_map];exact hl,k⟩
  unfold dk keysL
  rw[List.map_map,List.map_map]
  rfl
theorem ok_Hall_wears (F:Fun K "wears" "Hall.wears" st_Hall_wears f fd)(NG:NGCallee P w K mg base c) : FnOk P w K mg base (CXD P w) 3 f fd ["self","guest"] (spWears c):=by
 refine F.okX sc_Hall_wears (fun vs H Q E h=>?_) (fun cdv A outer s H vs Q E hr h=>?_)
 ·obtain⟨p,B,st,g,rfl,_⟩:=h
  rfl
 ·obtain⟨p,B,st,g,rfl,S,hg,k⟩:=h
  have hu:=hu_of hr
  refine⟨_,pss_cons (ps_if (pt_cmp (pc_dnotin hu (pv 1) (pe_fld (pv 0) rfl))) (pss_one (pNoGuest NG U hr flies_cx rfl hr.hd rfl (pv 1))) pss_nil) (
   pss_one (ps_ret (pe_dget hu (pe_fld (pv 0) rfl) (pv 1) (fun _ _=>rfl)))),?_⟩
  have g1:DGet H B.w (.int g) ((look st.worn g).map V.int):=by rw[←valV_dk];exact DGet.k (k:=Sum.inl g) S.w
  refine⟨_,rfl,_,rfl,p,c.C,B.dx,_,_,rfl,S.ob,U.cl,U.nW,hf_w _,B.w,_,rfl,g1,_,rfl,?_⟩
  cases e:look st.worn g with
  | none =>
   rw[e]at k
   exact iteT ⟨_,rfl,g,rfl,hg,fun dx hdx=>k dx _ (same_new hdx) upd_same⟩
  | some m =>
   rw[e]at k
   refine iteF ⟨_,rfl,p,c.C,B.dx,_,_,rfl,S.ob,U.cl,U.nW,hf_w _,_,rfl,B.w,_,rfl,(by rw[e]at g1;exact g1),k⟩
theorem ok_Hall_wearer (F:Fun K "wearer" "Hall.wearer" st_Hall_wearer f fd)(NG:NGCallee P w K mg base c) : FnOk P w K mg base (CXD P w) 3 f fd ["self","mask"] (spWearer c):=by
 refine F.okX sc_Hall_wearer (fun vs H Q E h=>?_) (fun cdv A outer s H vs Q E hr h=>?_)
 ·obtain⟨p,B,st,g,rfl,_⟩:=h
  rfl
 ·obtain⟨p,B,st,g,rfl,S,hg,k⟩:=h
  have hu:=hu_of hr
  refine⟨_,pss_cons (ps_if (pt_cmp (pc_dnotin hu (pv 1) (pe_fld (pv 0) rfl))) (pss_one (pNoGuest NG U hr flies_cx rfl hr.hd rfl (pv 1))) pss_nil) (
   pss_one (ps_ret (pe_dget hu (pe_fld (pv 0) rfl) (pv 1) (fun _ _=>rfl)))),?_⟩
  have g1:DGet H B.h (.int g) ((look st.hold g).map V.int):=by rw[←valV_dk];exact DGet.k (k:=Sum.inl g) S.h
  refine⟨_,rfl,_,rfl,p,c.C,B.dx,_,_,rfl,S.ob,U.cl,U.nH,hf_h _,B.h,_,rfl,g1,_,rfl,?_⟩
  cases e:look st.hold g with
  | none =>
   rw[e]at k
   exact iteT ⟨_,rfl,g,rfl,hg,fun dx hdx=>k dx _ (same_new hdx) upd_same⟩
  | some m =>
   rw[e]at k
   refine iteF ⟨_,rfl,p,c.C,B.dx,_,_,rfl,S.ob,U.cl,U.nH,hf_h _,_,rfl,B.h,_,rfl,(by rw[e]at g1;exact g1),k⟩
theorem ok_Hall_met (F:Fun K "met" "Hall.met" st_Hall_met f fd) : FnOk P w K mg base CX0 1 f fd ["self","one","other"] (spMet c.C):=by
 refine F.ok sc_Hall_met (fun vs H Q E h=>?_) (fun cdv A outer s H vs Q E hr h=>?_)
 ·obtain⟨p,B,st,a,b,rfl,_⟩:=h
  rfl
 ·obtain⟨p,B,st,a,b,rfl,S,k⟩:=h
  have hu:=hu_of hr
  refine⟨_,pss_one (ps_ret (pe_cmp (pc_din hu (pv 2) (pe_dget2 hu (pe_fld (pv 0) rfl) (pv 1) pe_dnewK ⟨rfl,rfl,rfl,rfl⟩)))),?_⟩
  refine⟨_,rfl,_,rfl,p,c.C,B.dx,_,_,rfl,S.ob,U.cl,U.nC,hf_c _,B.c,rfl,.inl ⟨_,.inl S.c⟩,_,rfl,fun l hl=>?_⟩
  have s1:Same H (upd H l (.dK [])):=same_new hl
  have S1:=S.mono s1
  refine⟨_,DGet.k (k:=Sum.inl a) S1.c,?_⟩
  rcases circ_look a S1.cs with ⟨h1,h2,h3⟩ | ⟨ad,h1,h2,h3,h4⟩
  ·rw[h1]
   refine⟨l,_,rfl,DGet.k (k:=Sum.inl b) upd_same,?_⟩
   have:=k _ s1
   unfold metC at this
   rw[h2]at this
   exact this
  ·rw[h2]
   refine⟨ad,_,rfl,DGet.k (k:=Sum.inl b) h3,?_⟩
   rw[val_ksO]
   exact k _ s1
theorem ok_Hall_partners (F:Fun K "partners" "Hall.partners" st_Hall_partners f fd) : FnOk P w K mg base CX0 1 f fd ["self","guest"] (spPartners c.C):=by
 refine F.ok sc_Hall_partners (fun vs H Q E h=>?_) (fun cdv A outer s H vs Q E hr h=>?_)
 ·obtain⟨p,B,st,g,rfl,_⟩:=h
  rfl
 ·obtain⟨p,B,st,a,rfl,S,h64,k⟩:=h
  have hu:=hu_of hr
  refine⟨_,pss_one (ps_ret (pe_callB (call_sortedD rfl) (by rfl) T.sorted PyProof.Rows.boot_sorted (pa_cons (pe_dget2 hu (pe_fld (pv 0) rfl) (pv 1) pe_dnewK ⟨rfl,rfl,rfl,rfl⟩) pa_nil))),?_⟩
  refine⟨_,rfl,p,c.C,B.dx,_,_,rfl,S.ob,U.cl,U.nC,hf_c _,B.c,rfl,.inl ⟨_,.inl S.c⟩,_,rfl,fun l hl=>?_⟩
  have s1:Same H (upd H l (.dK [])):=same_new hl
  have S1:=S.mono s1
  refine⟨_,DGet.k (k:=Sum.inl a) S1.c,?_⟩
  rcases circ_look a S1.cs with ⟨h1,h2,h3⟩ | ⟨ad,h1,h2,h3,h4⟩
  ·rw[h1]
   refine⟨l,[],[],rfl,upd_same,rfl,by decide,fun l2 hl2=>?_⟩
   refine k l2 _ (s1.free hl2) (s1.trans (same_new hl2)) ?_
   rw[h2,upd_same]
  ·rw[h2]
   refine⟨ad,_,cOf st.circ a,rfl,h3,by unfold ksO;rw[List.map_map];rfl,h64,fun l2 hl2=>?_⟩
   exact k l2 _ (s1.free hl2) (s1.trans (same_new hl2)) upd_same
theorem ok_Hall_pairs (F:Fun K "pairs" "Hall.pairs" st_Hall_pairs f fd)(M_Hall_partners:MCallee P w K mg base CX0 c.C "partners" 1 ["self","guest"] (spPartners c.C)) : FnOk P w K mg base CX0 2 f fd ["self"] (spHPairs c.C):=by
 refine F.ok sc_Hall_pairs (fun vs H Q E h=>?_) (fun cdv A outer s H vs Q E hr h=>?_)
 ·obtain⟨p,B,st,L,rfl,_⟩:=h
  rfl
 ·obtain⟨p,B,st,L,rfl,S,ci,hL,hP,k⟩:=h
  have hu:=hu_of hr
  have two:(2:Nat)≤sizeLine:=by decide
  have nQ:(hflds B).lookup ("partners" : Str)=none:=hf_no B (by decide +kernel) (by decide +kernel) (by decide +kernel) (by decide +kernel)
  have kk:=ci.kk
  refine⟨_,pss_one (ps_ret (pe_comp2 (so:=defScope st_Hall_pairs) (N:=n_Hall_pairs) (N':=["one","other","self"]) (src:=[none,none,some 0]) rfl rfl csc rfl (pi_list (pe_callB (call_sortedD rfl) (by rfl) T.sorted PyProof.Rows.boot_sorted (pa1 (pe_fld (pv 0) rfl)))) (fun cl C s2 H2 ex=>⟨pgn 0 (show (["one","other","self"]:List Str).Nodup by decide +kernel),pts_nil,pi_listK K (pmeth M_Hall_partners (pv 2) U.cl hr.m pass0 (pa1 (pv 0))),pgn 1 (show (["one","other","self"]:List Str).Nodup by decide +kernel),pts_one (pt_cmpR op_lt (pv 0) (pv 1) (nomark _)),pe_tup (pa2 (pv 0) (pv 1))⟩))),?_⟩
  have ck:(circK B.cs st.circ).map (·.1)=(st.circ.map (·.1)).map Sum.inl:=by
   have:=S.cs
   generalize B.cs=cs at this
   generalize st.circ=xs at this
   induction this with
   | nil=>rfl
   | cons _ _ ih=>simp only[circK,List.map_cons];rw[ih]
  refine⟨_,rfl,p,c.C,B.dx,_,_,rfl,S.ob,U.cl,U.nC,hf_c _,B.c,_,st.circ.map (·.1),rfl,S.c,ck,by rw[List.length_map];omega,fun lo hlo=>?_⟩
  have s1:=same_new (o:=.lst ((sortI (st.circ.map (·.1))).map V.int)) hlo
  have ho1:upd H lo (.lst ((sortI (st.circ.map (·.1))).map V.int)) lo=some (.lst ((sortI (st.circ.map (·.1))).map V.int)):=upd_same
  generalize upd H lo (.lst ((sortI (st.circ.map (·.1))).map V.int))=H1 at s1 ho1 ⊢
  refine⟨lo,rfl,⟨_,SqL.of ho1⟩,fun l hl=>?_⟩
  generalize hks:sortI (st.circ.map (·.1))=ks at ho1 ⊢
  have kl:ks.length≤L.length:=by rw[←hks,len_sortI,List.length_map];exact kk
  have pl:∀ i,((ks.take i).flatMap (matesL st.circ)).length≤1000:=fun i=>by
   have e:pairsL st.circ=(ks.take i++ks.drop i).flatMap (matesL st.circ):=by rw[List.take_append_drop];unfold pairsL;rw[hks]
   rw[e,List.flatMap_append,List.length_append]at hP
   omega
  refine for_list (K:=K) (a:=lo) (xs:=ks.map V.int) (fun i σ H2=>∃ u v:Option V,σ=[u,v,some (.ref p)]∧Same H1 H2∧RowAt H2 l ((ks.take i).flatMap (matesL st.circ)))
   ⟨none,none,rfl,same_new hl,⟨[],upd_same,.nil⟩⟩ (fun i σ H2 _ ⟨_,_,_,s2,_⟩=>SqL.of (s2 _ _ ho1)) ?_ ?_
  ·rintro i y σ H2 hi ⟨u,v,rfl,s2,row⟩
   obtain⟨a,ha,rfl⟩:=map_get hi
   have S2:=(S.mono s1).mono s2
   have ec:(ks.take (i+1)).flatMap (matesL st.circ)=(ks.take i).flatMap (matesL st.circ)++matesL st.circ a:=by rw[List.take_add_one,ha,Option.toList_some,List.flatMap_append,List.flatMap_singleton]
   have pl2:=pl (i+1)
   rw[ec,List.length_append]at pl2
   refine tbc2_yes ⟨_,rfl,p,B.dx,_,rfl,S2.ob,nQ,_,rfl,p,B,st,a,rfl,S2,Nat.lt_of_le_of_lt (ci.cl a) hL,fun lm H3 hlm s3 hm3=>⟨lm,rfl,⟨_,SqL.of hm3⟩,?_⟩⟩
   have row3:=row.mono s3
   generalize hms:sortI (cOf st.circ a)=ms at hm3
   have mE:matesL st.circ a=(ms.filter fun b=>decide (a<b)).map fun b=>(a,b):=by unfold matesL;rw[hms]
   refine for_list (K:=K) (a:=lm) (xs:=ms.map V.int) (fun j σ H4=>∃ v:Option V,σ=[some (.int a),v,some (.ref p)]∧(∀ b o,H3 b=some o→b≠l→H4 b=some o)∧RowAt H4 l ((ks.take i).flatMap (matesL st.circ)++((ms.take j).filter fun b=>decide (a<b)).map fun b=>(a,b)))
    ⟨_,rfl,fun b o e _=>e,by simpa using row3⟩ (fun j σ H4 _ ⟨_,_,s4,_⟩=>SqL.of (s4 _ _ hm3 ?_)) ?_ ?_
   ·obtain⟨as,hl3,_⟩:=row
    exact fun z=>by rw[←z]at hl3;rw[hlm]at hl3;cases hl3
   ·rintro j y σ H4 hj ⟨v,rfl,s4,row4⟩
    obtain⟨b,hb,rfl⟩:=map_get hj
    have et:(ms.take (j+1))=ms.take j++[b]:=by rw[List.take_add_one,hb,Option.toList_some]
    have le:((ms.take j).filter fun b=>decide (a<b)).length≤(matesL st.circ a).length:=by
     rw[mE,List.length_map]
     exact (List.Sublist.filter _ (List.take_sublist j ms)).length_le
    refine tbc_if ⟨_,rfl,_,rfl,_,_,rfl,rfl,_,rfl,?_⟩
    by_cases hab:a<b
    ·rw[decide_eq_true hab]
     obtain⟨as,hl4,hp4⟩:=row4
     have lq:=Paired.length hp4
     refine iteT ⟨_,rfl,_,rfl,two,fun t ht=>⟨_,by rw[upd_ne (ne_of_none hl4 ht)];exact hl4,?_,?_⟩⟩
     ·rw[List.length_map,lq,List.length_append,List.length_map]
      exact small1000 (by omega)
     ·have tl:t≠l:=Ne.symm (ne_of_none hl4 ht)
      refine⟨_,rfl,fun x o e n=>by rw[upd_ne n,upd_ne (ne_of_none (s4 x o e n) ht)];exact s4 x o e n,as++[t],by rw[upd_same,List.map_append];rfl,?_⟩
      rw[et,List.filter_append,List.map_append,←List.append_assoc]
      refine paired_append (Paired.mapP hp4 fun x q e=>?_) ?_
      ·rw[upd_ne (ne_of e hl4 (by intro z;cases z)),upd_ne (ne_of_none e ht)];exact e
      ·rw[List.filter_cons_of_pos (by simpa using hab)]
       exact .cons (by rw[upd_ne tl,upd_same]) .nil
    ·rw[decide_eq_false hab]
     refine iteF ⟨_,rfl,s4,?_⟩
     rw[et,List.filter_append,List.filter_cons_of_neg (by simpa using hab)]
     simpa using row4
   ·rintro σ H4 ⟨v,rfl,s4,row4⟩
    rw[List.length_map,List.take_length]at row4
    refine⟨_,_,rfl,fun x o e=>s4 x o ((s2.trans s3) x o e) (ne_of_none e hl),?_⟩
    rw[ec,mE]
    exact row4
  ·rintro σ H2 ⟨u,v,rfl,s2,row⟩
   rw[List.length_map,List.take_length]at row
   refine k l H2 (s1.free hl) (s1.trans s2) ?_
   unfold pairsL
   rw[hks]
   exact row
theorem ok_Hall_story (F:Fun K "story" "Hall.story" st_Hall_story f fd) : FnOk P w K mg base CX0 1 f fd ["self"] (spStory c.C):=by
 refine F.ok sc_Hall_story (fun vs H Q E h=>?_) (fun cdv A outer s H vs Q E hr h=>?_)
 ·obtain⟨p,B,st,rfl,_⟩:=h
  rfl
 ·obtain⟨p,B,st,rfl,S,k⟩:=h
  refine⟨_,pss_one (ps_ret (pe_callTy call_list_of (by rfl) T.list PyProof.Rows.boot_list (pa_cons (pe_fld (pv 0) rfl) pa_nil))),?_⟩
  obtain⟨as,hd,hp⟩:=S.d
  refine⟨_,rfl,p,c.C,B.dx,_,_,rfl,S.ob,U.cl,U.nD,hf_d _,B.d,_,rfl,.inl (SqL.of hd),fun l hl=>?_⟩
  exact k l _ hl (same_new hl) ⟨as,upd_same,Paired.mapP hp fun b y e=>(same_new hl) _ _ e⟩
theorem ok_Hall_moment (F:Fun K "moment" "Hall.moment" st_Hall_moment f fd) : FnOk P w K mg base CX0 1 f fd ["self"] (spMoment c.C):=by
 refine F.ok sc_Hall_moment (fun vs H Q E h=>?_) (fun cdv A outer s H vs Q E hr h=>?_)
 ·obtain⟨p,B,st,rfl,_⟩:=h
  rfl
 ·obtain⟨p,B,st,rfl,S,k⟩:=h
  refine⟨_,pss_one (ps_ret (pe_callB call_len_seq (by rfl) T.len PySem.boot_len (pa_cons (pe_fld (pv 0) rfl) pa_nil))),?_⟩
  obtain⟨as,hd,hp⟩:=S.d
  refine⟨_,rfl,p,c.C,B.dx,_,_,rfl,S.ob,U.cl,U.nD,hf_d _,B.d,_,rfl,.inl (SqL.of hd),?_⟩
  rw[List.length_map,Paired.length hp]
  exact k
theorem ok_law_cell_at (F:Fun K "_law_cell_at" "_law_cell_at" st_law_cell_at f fd) : FnOk P w K mg base CX0 1 f fd ["_law_script","_law_k"] (spCell K):=by
 refine F.ok sc_law_cell_at (fun vs H Q E h=>?_) (fun cdv A outer s H vs Q E hr h=>?_)
 ·obtain⟨a,ns,k,rfl,_⟩:=h
  rfl
 ·obtain⟨a,ns,i,rfl,hS,hi,k⟩:=h
  refine⟨_,pss_cons (ps_if (pt_cmpR op_lt (pv 1) (pe_callB call_len_seq (by rfl) T.len PySem.boot_len (pa_cons (pv 0) pa_nil)) (nomark _)) (pss_one (ps_ret (pe_ix ix_list (pv 0) (pv 1) (fun _ _=>rfl)))) pss_nil) (pss_one (ps_ret pe_int)),?_⟩
  refine⟨_,rfl,_,rfl,a,_,rfl,.inl hS,_,_,rfl,rfl,_,rfl,?_⟩
  unfold cellAt at k
  rw[List.length_map]
  by_cases hc:i<(ns.length:Int)
  ·rw[if_pos hc]at k
   rw[decide_eq_true hc]
   refine iteT ⟨_,rfl,_,rfl,a,_,_,_,rfl,rfl,hS,?_,k⟩
   have e:i=((i.toNat:Nat):Int):=(Int.toNat_of_nonneg hi).symm
   have hl:i.toNat<ns.length:=by omega
   rw[e]
   refine atI_nat ?_
   rw[List.getElem?_map,List.getD_eq_getElem?_getD,Int.toNat_natCast,List.getElem?_eq_getElem hl]
   rfl
  ·rw[if_neg hc]at k
   rw[decide_eq_false hc]
   exact iteF k
theorem ok_law_size (F:Fun K "_law_size" "_law_size" st_law_size f fd) : FnOk P w K mg base CX0 1 f fd ["_law_cell"] spSize:=by
 refine F.ok sc_law_size (fun vs H Q E h=>?_) (fun cdv A outer s H vs Q E hr h=>?_)
 ·obtain⟨c,rfl,_⟩:=h
  rfl
 ·obtain⟨c,rfl,k⟩:=h
  refine⟨_,pss_cons (ps_if (pt_cmpR op_lt (pv 0) pe_int (nomark _)) (pss_one (ps_ret (pe_un un_neg (pv 0)))) pss_nil) (pss_one (ps_ret (pv 0))),?_⟩
  refine⟨_,rfl,_,_,rfl,rfl,_,rfl,?_⟩
  unfold absI at k
  by_cases hc:c<0
  ·rw[if_pos hc]at k
   rw[decide_eq_true hc]
   exact iteT ⟨_,rfl,_,rfl,k⟩
  ·rw[if_neg hc]at k
   rw[decide_eq_false hc]
   exact iteF ⟨_,rfl,k⟩
theorem ok_law_draws (F:Fun K "_law_draws" "_law_draws" st_law_draws f fd)(C_law_size:Callee P w K mg base "_law_size" 1 ["_law_cell"] spSize) : FnOk P w K mg base CX0 2 f fd ["_law_cell","_law_many","_law_base"] spDraws:=by
 refine F.ok sc_law_draws (fun vs H Q E h=>?_) (fun cdv A outer s H vs Q E hr h=>?_)
 ·obtain⟨c,m,b,rfl,_⟩:=h
  rfl
 ·obtain⟨c,m,b,rfl,⟨m0,m1⟩,⟨b0,b1⟩,k⟩:=h
  refine⟨_,pss_cons (ps_set (i:=3) sc_law_draws.nd rfl (Or.inl rfl) (pcall C_law_size hr rfl (pa_cons (pv 0) pa_nil)))
   (pss_cons (ps_set (i:=4) sc_law_draws.nd rfl (Or.inl rfl) (pe_lst pa_nil))
   (pss_cons (ps_if (pt_cmpR op_ge (pv 3) (pe_op op_pow pe_int pe_int) (nomark _))
    (pss_cons (ps_set (i:=3) sc_law_draws.nd rfl (Or.inl rfl) (pe_op op_sub (pv 3) (pe_op op_pow pe_int pe_int)))
    (pss_cons (ps_set (i:=5) sc_law_draws.nd rfl (Or.inl rfl) (pe_op op_mod (pv 3) (pe_op op_add (pv 1) pe_int)))
    (pss_cons (ps_set (i:=3) sc_law_draws.nd rfl (Or.inl rfl) (pe_op op_fdiv (pv 3) (pe_op op_add (pv 1) pe_int)))
    (pss_cons (ps_for PassesOwn.never rfl (pi_range1 rfl T.range (pa_cons (pv 5) pa_nil)) (pg_name (i:=6) sc_law_draws.nd rfl (Or.inl rfl))
     (pss_cons (ps_expr (pe_bm PySem.F.plainAttrs_list PySem.F.slot_list_append PySem.F.type_list_append mt_append (pv 4) (pa_cons (pe_op op_mod (pv 3) (pv 2)) pa_nil)))
     (pss_one (ps_set (i:=3) sc_law_draws.nd rfl (Or.inl rfl) (pe_op op_fdiv (pv 3) (pv 2))))))
    (pss_one (ps_ret (pv 4)))))))
    pss_nil)
   (pss_cons (ps_set (i:=7) sc_law_draws.nd rfl (Or.inl rfl) (pe_op op_add (pe_op op_mod (pv 3) pe_int) pe_int))
   (pss_cons (ps_for PassesOwn.never rfl (pi_range1 rfl T.range (pa_cons (pe_op op_mod (pv 3) (pe_op op_add (pv 1) pe_int)) pa_nil)) (pg_name (i:=6) sc_law_draws.nd rfl (Or.inl rfl))
     (pss_cons (ps_set (i:=7) sc_law_draws.nd rfl (Or.inl rfl) (pe_op op_mod (pe_op op_mul (pv 7) pe_int) pe_int))
     (pss_one (ps_expr (pe_bm PySem.F.plainAttrs_list PySem.F.slot_list_append PySem.F.type_list_append mt_append (pv 4) (pa_cons (pe_op op_mod (pe_op op_fdiv (pe_op op_mod (pe_op op_mul (pv 7) pe_int) pe_int) pe_int) (pv 2)) pa_nil))))))
   (pss_one (ps_ret (pv 4))))))),?_⟩
  refine⟨_,rfl,_,rfl,by show 0≤sizeLine;exact Nat.zero_le _,fun l hl=>?_⟩
  have big:(10:Int) ^ (18:Int).toNat=1000000000000000000:=by decide
  have room:∀ ds:List Int,(ds.length:Int)≤1000→(ds.map V.int).length<sizeLine:=fun ds h=>by rw[List.length_map];exact small1000 (by omega)
  have app:∀ (ds:List Int)(z:Int),upd (upd H l (.lst (ds.map V.int))) l (.lst (ds.map V.int++[V.int z]))=upd H l (.lst ((ds++[z]).map V.int)):=fun ds z=>by rw[upd_upd,List.map_append];rfl
  have inb:∀ (ds:List Int)(z:Int),(∀ d∈ds,0≤d∧d<b)→∀ d∈ds++[z%b],0≤d∧d<b:=fun ds z h d hd=>by
   rcases List.mem_append.mp hd with hd | hd
   ·exact h d hd
   ·rw[List.mem_singleton.mp hd];exact⟨Int.emod_nonneg _ (by omega),Int.emod_lt_of_pos _ b0⟩
  refine⟨_,rfl,_,_,rfl,rfl,⟨by decide,by decide,by decide⟩,_,_,rfl,rfl,_,rfl,?_⟩
  refine ite2 (fun _=>?_) (fun _=>?_)
  ·refine⟨_,rfl,_,_,rfl,rfl,⟨by decide,by decide,by decide⟩,_,_,rfl,rfl,?_⟩
   refine⟨_,rfl,_,rfl,_,_,rfl,rfl,_,_,rfl,rfl,by show (0:Int)<m+1;omega,?_⟩
   refine⟨_,rfl,_,rfl,_,_,rfl,rfl,_,_,rfl,rfl,⟨by show (0:Int)<m+1;omega,by show m+1<1073741824;omega⟩,?_⟩
   have cb:=Int.emod_lt_of_pos (absI c-(10:Int) ^ (18:Int).toNat) (show 0<m+1 by omega)
   have cn:=Int.emod_nonneg (absI c-(10:Int) ^ (18:Int).toNat) (show m+1≠0 by omega)
   refine⟨_,rfl,_,rfl,by omega,by omega,for_range (n:=((absI c-(10:Int) ^ (18:Int).toNat)%(m+1)).toNat) (fun i σ H2=>∃ (z:Int)(v:Option V)(ds:List Int),σ=[some (.int c),some (.int m),some (.int b),some (.int z),some (.ref l),some (.int ((absI c-(10:Int) ^ (18:Int).toNat)%(m+1))),v,none]∧H2=upd H l (.lst (ds.map V.int))∧ds.length=i∧∀ d∈ds,0≤d∧d<b)
    ⟨_,none,[],rfl,rfl,rfl,fun _ z=>nomatch z⟩ ?_ ?_⟩
   ·rintro i σ H2 hi ⟨z,v,ds,rfl,rfl,hlen,hds⟩
    refine⟨_,rfl,.inl ⟨rfl,_,SqL.of upd_same⟩,_,rfl,_,rfl,_,_,rfl,rfl,b0,l,_,_,rfl,rfl,upd_same,room ds (by omega),?_⟩
    refine⟨_,rfl,_,rfl,_,_,rfl,rfl,⟨b0,b1⟩,?_⟩
    exact⟨_,_,ds++[z%b],rfl,app ds _,by rw[List.length_append,hlen];rfl,inb ds z hds⟩
   ·rintro σ H2 ⟨z,v,ds,rfl,rfl,hlen,hds⟩
    exact⟨_,rfl,k l ds hl hds (by omega)⟩
  ·refine⟨_,rfl,_,_,rfl,rfl,by show (0:Int)<2147483629;decide,_,_,rfl,rfl,?_⟩
   have cb:=Int.emod_lt_of_pos (absI c) (show 0<m+1 by omega)
   have cn:=Int.emod_nonneg (absI c) (show m+1≠0 by omega)
   refine⟨_,rfl,_,rfl,_,_,rfl,rfl,_,_,rfl,rfl,by show (0:Int)<m+1;omega,?_⟩
   refine⟨_,rfl,by omega,by omega,for_range (n:=(absI c%(m+1)).toNat) (fun i σ H2=>∃ (z:Int)(v:Option V)(ds:List Int),σ=[some (.int c),some (.int m),some (.int b),some (.int (absI c)),some (.ref l),none,v,some (.int z)]∧H2=upd H l (.lst (ds.map V.int))∧ds.length=i∧∀ d∈ds,0≤d∧d<b)
    ⟨_,none,[],rfl,rfl,rfl,fun _ z=>nomatch z⟩ ?_ ?_⟩
   ·rintro i σ H2 hi ⟨z,v,ds,rfl,rfl,hlen,hds⟩
    refine⟨_,rfl,_,_,rfl,rfl,.inr ⟨by decide,by decide⟩,_,_,rfl,rfl,by show (0:Int)<2147483647;decide,?_⟩
    refine⟨_,rfl,.inl ⟨rfl,_,SqL.of upd_same⟩,_,rfl,_,_,rfl,rfl,.inr ⟨by decide,by decide⟩,_,_,rfl,rfl,by show (0:Int)<998244353;decide,_,_,rfl,rfl,⟨by decide,by decide⟩,_,rfl,_,_,rfl,rfl,b0,l,_,_,rfl,rfl,upd_same,room ds (by omega),?_⟩
    exact⟨_,_,ds++[_],rfl,app ds _,by rw[List.length_append,hlen];rfl,inb ds _ hds⟩
   ·rintro σ H2 ⟨z,v,ds,rfl,rfl,hlen,hds⟩
    exact⟨_,rfl,k l ds hl hds (by omega)⟩
theorem ok_law_draws_from (F:Fun K "_law_draws_from" "_law_draws_from" st_law_draws_from f fd)(C_law_draws:Callee P w K mg base "_law_draws" 2 ["_law_cell","_law_many","_law_base"] spDraws) : FnOk P w K mg base CX0 3 f fd ["_law_script","_law_start","_law_most","_law_base"] (spFrom K):=by
 refine F.ok sc_law_draws_from (fun vs H Q E h=>?_) (fun cdv A outer s H vs Q E hr h=>?_)
 ·obtain⟨a,ns,st,m,b,rfl,_⟩:=h
  rfl
 ·obtain⟨a,ns,st,m,b,rfl,hS,⟨s0,s1⟩,⟨m0,m1⟩,⟨b0,b1⟩,k⟩:=h
  refine⟨_,pss_cons (ps_set (i:=4) sc_law_draws_from.nd rfl (Or.inl rfl) (pe_lst pa_nil))
   (pss_cons (ps_for PassesOwn.never rfl (pi_list (pe_slice sl_list (pv 0) (po_some (pv 1)) (po_some pe_int))) (pg_name (i:=5) sc_law_draws_from.nd rfl (Or.inl rfl))
    (pss_one (ps_for PassesOwn.never rfl (pi_list (pcall C_law_draws hr rfl (pa_cons (pv 5) (pa_cons pe_int (pa_cons (pv 3) pa_nil))))) (pg_name (i:=6) sc_law_draws_from.nd rfl (Or.inl rfl))
     (pss_one (ps_if (pt_cmpR op_lt (pe_callB call_len_seq (by rfl) T.len PySem.boot_len (pa_cons (pv 4) pa_nil)) (pv 2) (nomark _))
      (pss_one (ps_expr (pe_bm PySem.F.plainAttrs_list PySem.F.slot_list_append PySem.F.type_list_append mt_append (pv 4) (pa_cons (pv 6) pa_nil)))) pss_nil)))))
   (pss_one (ps_ret (pv 4)))),?_⟩
  refine⟨by show 0≤sizeLine;exact Nat.zero_le _,fun l hl=>?_⟩
  have hS':SqL K (upd H l (.lst [])) a (ns.map V.int):=(same_new hl).seq hS
  refine⟨_,rfl,_,rfl,_,rfl,_,rfl,a,_,rfl,hS',fun q hq=>?_⟩
  have hlq:l≠q:=fun e=>by rw[←e,upd_same]at hq;cases hq
  have hHq:H q=none:=by rw[upd_ne (Ne.symm hlq)]at hq;exact hq
  obtain⟨zs,hzs⟩:∃ zs:List Int,cutV (ns.map V.int) (some st) (some 63)=zs.map V.int:=⟨(ns.drop (HT.sIx ns.length 0 (some st))).take (HT.sIx ns.length ns.length (some 63)-HT.sIx ns.length 0 (some st)),by unfold cutV;rw[List.length_map,List.map_take,List.map_drop]⟩
  rw[hzs]
  refine⟨q,rfl,⟨_,SqL.of upd_same⟩,for_list (K:=K) (a:=q) (xs:=zs.map V.int) (fun i σ H2=>∃ (v u:Option V)(ds:List Int),σ=[some (.ref a),some (.int st),some (.int m),some (.int b),some (.ref l),v,u]∧Same H H2∧H2 q=some (.lst (zs.map V.int))∧H2 l=some (.lst (ds.map V.int))∧(∀ d∈ds,0≤d∧d<b)∧(ds.length:Int)≤m)
   ⟨none,none,[],rfl,same_upd (same_new hl) hHq,upd_same,by rw[upd_ne hlq,upd_same];rfl,(fun _ z=>nomatch z),by simpa using m0⟩ (fun i σ H2 _ ⟨_,_,_,_,_,h,_⟩=>SqL.of h) ?_ ?_⟩
  ·rintro i y σ H2 hi ⟨v,u,ds,rfl,s2,hq2,hl2,hds,hlen⟩
   obtain⟨z,_,rfl⟩:=map_get hi
   refine⟨_,rfl,_,rfl,z,24,b,rfl,⟨by decide,by decide⟩,⟨b0,b1⟩,fun r es hr2 hes hel=>?_⟩
   have hrq:q≠r:=ne_of_none hq2 hr2
   have hrl:l≠r:=ne_of_none hl2 hr2
   refine⟨r,rfl,⟨_,SqL.of upd_same⟩,for_list (K:=K) (a:=r) (xs:=es.map V.int) (fun i σ H3=>∃ (u:Option V)(ds:List Int),σ=[some (.ref a),some (.int st),some (.int m),some (.int b),some (.ref l),some (.int z),u]∧Same H H3∧H3 q=some (.lst (zs.map V.int))∧H3 r=some (.lst (es.map V.int))∧H3 l=some (.lst (ds.map V.int))∧(∀ d∈ds,0≤d∧d<b)∧(ds.length:Int)≤m)
    ⟨u,ds,rfl,same_upd s2 (s2.free hr2),by rw[upd_ne hrq];exact hq2,upd_same,by rw[upd_ne hrl];exact hl2,hds,hlen⟩ (fun i σ H2 _ ⟨_,_,_,_,_,h,_⟩=>SqL.of h) ?_ ?_⟩
   ·rintro i y σ H3 hi ⟨u,ds,rfl,s3,hq3,hr3,hl3,hds,hlen⟩
    obtain⟨d,hd,rfl⟩:=map_get hi
    refine⟨_,rfl,l,_,rfl,.inl (SqL.of hl3),_,rfl,_,_,rfl,rfl,_,rfl,?_⟩
    rw[List.length_map]
    refine ite2 (fun hc=>?_) (fun _=>?_)
    ·have hc:=of_decide_eq_true hc
     refine⟨_,rfl,.inl ⟨rfl,_,SqL.of hl3⟩,_,rfl,l,_,_,rfl,rfl,hl3,by rw[List.length_map];exact small1000 (by omega),?_⟩
     refine⟨_,ds++[d],rfl,same_upd s3 hl,by rw[upd_ne (Ne.symm hlq)];exact hq3,by rw[upd_ne (Ne.symm hrl)];exact hr3,by rw[upd_same,List.map_append];rfl,fun x hx=>?_,by rw[List.length_append];show ((ds.length+1:Nat):Int)≤m;omega⟩
     rcases List.mem_append.mp hx with hx | hx
     ·exact hds x hx
     ·rw[List.mem_singleton.mp hx];exact hes d (List.mem_of_getElem? hd)
    ·exact⟨_,ds,rfl,s3,hq3,hr3,hl3,hds,hlen⟩
   ·rintro σ H3 ⟨u,ds,rfl,s3,hq3,hr3,hl3,hds,hlen⟩
    exact⟨_,_,ds,rfl,s3,hq3,hl3,hds,hlen⟩
  ·rintro σ H2 ⟨v,u,ds,rfl,s2,hq2,hl2,hds,hlen⟩
   exact⟨_,rfl,k l H2 ds hl s2 hl2 hds hlen⟩
theorem ok_law_guest (F:Fun K "_law_guest" "_law_guest" st_law_guest f fd)(C_law_size:Callee P w K mg base "_law_size" 1 ["_law_cell"] spSize) : FnOk P w K mg base CX0 2 f fd ["_law_k","_law_cell"] spGuest:=by
 refine F.ok sc_law_guest (fun vs H Q E h=>?_) (fun cdv A outer s H vs Q E hr h=>?_)
 ·obtain⟨k,c,rfl,_⟩:=h
  rfl
 ·obtain⟨i,c,rfl,⟨i0,i1⟩,k⟩:=h
  refine⟨_,pss_cons (ps_set (i:=2) sc_law_guest.nd rfl (Or.inl rfl) (pcall C_law_size hr rfl (pa_cons (pv 1) pa_nil)))
   (pss_cons (ps_set (i:=3) sc_law_guest.nd rfl (Or.inl rfl) (pe_op op_add pe_int (pe_op op_mod (pe_op op_mul (pv 2) pe_int) pe_int)))
   (pss_cons (ps_set (i:=4) sc_law_guest.nd rfl (Or.inl rfl) (pe_op op_mod (pe_op op_add (pe_op op_mul (pv 0) (pv 3)) (pe_op op_fdivB (pv 2) pe_int)) pe_int))
   (pss_cons (ps_if (pt_cmpR op_eq (pe_op op_mod (pv 2) pe_int) pe_int (nomark _)) (pss_one (ps_ret (pe_op op_add (pv 4) pe_int))) pss_nil)
   (pss_one (ps_ret (pv 4)))))),?_⟩
  refine⟨_,rfl,_,rfl,?_⟩
  refine⟨_,rfl,_,_,rfl,rfl,.inr ⟨by decide,by decide⟩,_,_,rfl,rfl,by show (0:Int)<2147483646;decide,_,_,rfl,rfl,?_⟩
  refine⟨_,rfl,_,rfl,_,_,rfl,rfl,.inl ⟨by show (-(2 ^ 64):Int)<i;omega,by show i<(2 ^ 64:Int);omega⟩,_,rfl,_,_,rfl,rfl,⟨by decide,by decide⟩,_,_,rfl,rfl,_,_,rfl,rfl,by show (0:Int)<2147483647;decide,?_⟩
  refine⟨_,rfl,_,_,rfl,rfl,by show (0:Int)<5;decide,rfl,_,rfl,?_⟩
  unfold gst at k
  dsimp only at k
  by_cases hc:absI c%5=4
  ·rw[if_pos hc]at k
   rw[decide_eq_true (show V.int (absI c%5)=V.int 4 by rw[hc])]
   exact iteT ⟨_,rfl,_,_,rfl,rfl,k⟩
  ·rw[if_neg hc]at k
   rw[decide_eq_false (show ¬ V.int (absI c%5)=V.int 4 from fun z=>hc (by injection z))]
   exact iteF ⟨_,rfl,k⟩
theorem ok_law_key (F:Fun K "_law_key" "_law_key" st_law_key f fd) : FnOk P w K mg base CX0 1 f fd ["_law_one","_law_other"] spKey:=by
 refine F.ok sc_law_key (fun vs H Q E h=>?_) (fun cdv A outer s H vs Q E hr h=>?_)
 ·obtain⟨a,b,rfl,_⟩:=h
  rfl
 ·obtain⟨a,b,rfl,k⟩:=h
  refine⟨_,pss_cons (ps_if (pt_cmpR op_lt (pv 1) (pv 0) (nomark _)) (pss_one (ps_ret (pe_tup (pa2 (pv 1) (pv 0))))) (pss_nil)) (
   pss_one (ps_ret (pe_tup (pa2 (pv 0) (pv 1))))),?_⟩
  refine⟨_,rfl,_,rfl,_,_,rfl,rfl,_,rfl,?_⟩
  unfold keyP at k
  by_cases hc:b<a
  ·rw[if_pos hc]at k
   rw[decide_eq_true hc]
   exact iteT ⟨_,rfl,_,rfl,by show 2≤sizeLine;decide,k⟩
  ·rw[if_neg hc]at k
   rw[decide_eq_false hc]
   exact iteF ⟨_,rfl,_,rfl,by show 2≤sizeLine;decide,k⟩
theorem ok_law_due (F:Fun K "_law_due" "_law_due" st_law_due f fd)(C_law_key:Callee P w K mg base "_law_key" 1 ["_law_one","_law_other"] spKey) : FnOk P w K mg base CX0 2 f fd ["_law_worn","_law_met","_law_deed_here"] spDue:=by
 refine F.ok sc_law_due (fun vs H Q E h=>?_) (fun cdv A outer s H vs Q E hr h=>?_)
 ·obtain⟨w,m,t,wl,ml,d,rfl,_⟩:=h
  rfl
 ·obtain⟨w,m,t,wl,ml,d,rfl,hw,hm,ht0,k⟩:=h
  have hu:=hu_of hr
  have ht:H t=some (.tup (deedL d)):=by rw[←deedO_L];exact ht0
  have gw:∀ (H2:Hp)(x:Int),Same H H2→DGet H2 w (.int x) ((look wl x).map V.int):=fun H2 x s2=>by rw[←valV_dk];exact DGet.k (k:=Sum.inl x) (s2 _ _ hw)
  have two:(2:Nat)≤sizeLine:=by decide
  refine⟨_,pss_cons (ps_for PassesOwn.never rfl (pi_tup (pe_slice sl_tup (pv 2) (po_some (pe_int)) po_none)) (pgn 3 sc_law_due.nd) (pss_one (ps_if (PW.pt (pw_and (pt_cmpR op_ne (pe_ix ix_tup (pv 2) (pe_int) (fun _ _=>rfl)) (pe_str) (nomark _)) (pw_and1 (pt_cmp (pc_dnotin hu (pv 3) (pv 0)))))) (pss_one (ps_ret (pe_tup (pa2 (pe_str) (pv 3))))) (pss_nil)))) (
   pss_cons (ps_if (PW.pt (pw_and (pt_cmpR op_eq (pe_ix ix_tup (pv 2) (pe_int) (fun _ _=>rfl)) (pe_str) (nomark _)) (pw_and1 (pt_cmp (pc_din hu (pe_ix ix_tup (pv 2) (pe_int) (fun _ _=>rfl)) (pv 0)))))) (pss_one (ps_ret (pe_tup (pa2 (pe_str) (pe_non))))) (pss_nil)) (
   pss_cons (ps_if (PW.pt (pw_and (pt_cmpR op_eq (pe_ix ix_tup (pv 2) (pe_int) (fun _ _=>rfl)) (pe_str) (nomark _)) (pw_and1 (pt_cmpR op_ne (pe_dget hu (pv 0) (pe_ix ix_tup (pv 2) (pe_int) (fun _ _=>rfl)) (fun _ _=>rfl)) (pe_ix ix_tup (pv 2) (pe_int) (fun _ _=>rfl)) (nomark _))))) (pss_one (ps_ret (pe_tup (pa2 (pe_str) (pe_non))))) (pss_nil)) (
   pss_cons (ps_if (PW.pt (pw_and (pt_cmpR op_eq (pe_ix ix_tup (pv 2) (pe_int) (fun _ _=>rfl)) (pe_str) (nomark _)) (pw_and1 (pt_cmpR op_eq (pe_ix ix_tup (pv 2) (pe_int) (fun _ _=>rfl)) (pe_ix ix_tup (pv 2) (pe_int) (fun _ _=>rfl)) (nomark _))))) (pss_one (ps_ret (pe_tup (pa2 (pe_str) (pe_non))))) (pss_nil)) (
   pss_cons (ps_if (PW.pt (pw_and (pt_cmpR op_eq (pe_ix ix_tup (pv 2) (pe_int) (fun _ _=>rfl)) (pe_str) (nomark _)) (pw_and1 (pt_cmp (pc_din hu (pcall C_law_key hr.m rfl (pa2 (pe_ix ix_tup (pv 2) (pe_int) (fun _ _=>rfl)) (pe_ix ix_tup (pv 2) (pe_int) (fun _ _=>rfl)))) (pv 1)))))) (pss_one (ps_ret (pe_tup (pa2 (pe_str) (pe_non))))) (pss_nil)) (
   pss_one (ps_ret (pe_tup (pa2 (pe_str) (pe_non))))))))),?_⟩
  refine⟨_,rfl,_,rfl,t,_,rfl,SqT.of ht,cut_not d,fun q hq=>?_⟩
  have s1:Same H (upd H q (.tup (cutV (deedL d) (some 1) none))):=same_new hq
  have hq1:upd H q (.tup (cutV (deedL d) (some 1) none)) q=some (.tup ((names d).map V.int)):=by rw[upd_same,cut_deed]
  generalize upd H q (.tup (cutV (deedL d) (some 1) none))=H1 at s1 hq1
  refine⟨q,rfl,⟨_,SqT.of hq1⟩,for_tup (K:=K) (a:=q) (xs:=(names d).map V.int) (fun i σ H2=>∃ v:Option V,σ=[some (.ref w),some (.ref m),some (.ref t),v]∧H2=H1∧(word d≠"come"→∀ y∈(names d).take i,(look wl y).isSome=true))
   ⟨none,rfl,rfl,fun _ y hy=>by simp at hy⟩ (fun i σ H2 _ ⟨_,_,e,_⟩=>by rw[e];exact SqT.of hq1) ?_ ?_⟩
  ·rintro i y σ H2 hi ⟨v,rfl,rfl,hp⟩
   obtain⟨x,hx,rfl⟩:=map_get hi
   refine⟨_,rfl,t,_,_,_,rfl,rfl,SqT.of (s1 _ _ ht),atI_nat (j:=0) rfl,rfl,_,rfl,?_⟩
   have nxt:(word d≠"come"→(look wl x).isSome=true)→(word d≠"come"→∀ y∈(names d).take (i+1),(look wl y).isSome=true):=fun h hc y hy=>by
    rw[take_snoc hx]at hy
    rcases List.mem_append.mp hy with z | z
    ·exact hp hc y z
    ·rw[List.mem_singleton.mp z];exact h hc
   by_cases hc:word d="come"
   ·rw[decide_eq_true (by rw[hc])]
    exact iteF (iteF ⟨_,rfl,rfl,nxt fun z=>absurd hc z⟩)
   ·rw[decide_eq_false (fun z=>hc (V.str.inj z))]
    refine iteT ⟨_,rfl,_,rfl,w,_,rfl,gw _ x s1,_,rfl,?_⟩
    cases e:look wl x with
    | none =>
     refine iteT ⟨_,rfl,two,fun r hr2=>?_⟩
     refine k r _ (s1.free hr2) (s1.trans (same_new hr2)) ?_
     rw[upd_same,judge_no hc (hp hc) hx e]
     rfl
    | some z=>exact iteF ⟨_,rfl,rfl,nxt fun _=>by rw[e];rfl⟩
  ·rintro σ H2 ⟨v,rfl,rfl,hp⟩
   have fin:∀ (o:Out)(H3:Hp)(r:Addr),judgeW wl (metL ml) d=o→Same H H3→H3 r=none→Q (.ref r) (upd H3 r (.tup (outV o))):=fun o H3 r e s3 h3=>k r _ (s3.free h3) (s3.trans (same_new h3)) (by rw[upd_same,e])
   rw[List.length_map,List.take_length]at hp
   have T0:SqT K H2 t (deedL d):=SqT.of (s1 _ _ ht)
   cases d with
   | come g =>
    refine⟨_,rfl,t,_,_,_,rfl,rfl,T0,rfl,rfl,_,rfl,?_⟩
    rw[show decide (V.str (word (.come g))=V.str "come")=true from cc]
    refine iteT ⟨_,rfl,t,_,_,_,rfl,rfl,T0,rfl,_,rfl,w,_,rfl,gw _ g s1,_,rfl,?_⟩
    cases e:look wl g with
    | some z=>exact iteT ⟨two,fun r h3=>fin .already _ r (by simp[judgeW,e]) s1 h3⟩
    | none =>
     refine iteF ⟨_,rfl,t,_,_,_,rfl,rfl,T0,rfl,rfl,_,rfl,?_⟩
     rw[show decide (V.str (word (.come g))=V.str "go")=false from cg]
     refine iteF (iteF ⟨_,rfl,t,_,_,_,rfl,rfl,T0,rfl,rfl,_,rfl,?_⟩)
     rw[show decide (V.str (word (.come g))=V.str "exchange")=false from ce]
     refine iteF (iteF ⟨_,rfl,t,_,_,_,rfl,rfl,T0,rfl,rfl,_,rfl,?_⟩)
     rw[show decide (V.str (word (.come g))=V.str "exchange")=false from ce]
     exact iteF (iteF ⟨two,fun r h3=>fin .done _ r (by simp[judgeW,e]) s1 h3⟩)
   | go g =>
    have hg:=hp (by show ("go" : Str)≠"come";decide +kernel) g (by simp[names])
    obtain⟨z,e⟩:=Option.isSome_iff_exists.mp hg
    refine⟨_,rfl,t,_,_,_,rfl,rfl,T0,rfl,rfl,_,rfl,?_⟩
    rw[show decide (V.str (word (.go g))=V.str "come")=false from gc]
    refine iteF (iteF ⟨_,rfl,t,_,_,_,rfl,rfl,T0,rfl,rfl,_,rfl,?_⟩)
    rw[show decide (V.str (word (.go g))=V.str "go")=true from gg]
    refine iteT ⟨_,rfl,_,rfl,t,_,_,_,rfl,rfl,T0,rfl,w,_,rfl,(by have:=gw H2 g s1;rw[e]at this;exact this),_,rfl,t,_,_,_,rfl,rfl,T0,rfl,rfl,_,rfl,?_⟩
    by_cases hz:z=g
    ·rw[decide_eq_true (by rw[hz])]
     refine iteF ⟨_,rfl,t,_,_,_,rfl,rfl,T0,rfl,rfl,_,rfl,?_⟩
     rw[show decide (V.str (word (.go g))=V.str "exchange")=false from ge]
     refine iteF (iteF ⟨_,rfl,t,_,_,_,rfl,rfl,T0,rfl,rfl,_,rfl,?_⟩)
     rw[show decide (V.str (word (.go g))=V.str "exchange")=false from ge]
     exact iteF (iteF ⟨two,fun r h3=>fin .done _ r (by simp[judgeW,e,hz]) s1 h3⟩)
    ·rw[decide_eq_false (fun q=>hz (V.int.inj q))]
     exact iteT ⟨two,fun r h3=>fin .masked _ r (by simp[judgeW,e,hz]) s1 h3⟩
   | exch a b =>
    have ha:=hp (by show ("exchange" : Str)≠"come";decide +kernel) a (by simp[names])
    have hb:=hp (by show ("exchange" : Str)≠"come";decide +kernel) b (by simp[names])
    obtain⟨za,ea⟩:=Option.isSome_iff_exists.mp ha
    obtain⟨zb,eb⟩:=Option.isSome_iff_exists.mp hb
    refine⟨_,rfl,t,_,_,_,rfl,rfl,T0,rfl,rfl,_,rfl,?_⟩
    rw[show decide (V.str (word (.exch a b))=V.str "come")=false from ec]
    refine iteF (iteF ⟨_,rfl,t,_,_,_,rfl,rfl,T0,rfl,rfl,_,rfl,?_⟩)
    rw[show decide (V.str (word (.exch a b))=V.str "go")=false from eg]
    refine iteF (iteF ⟨_,rfl,t,_,_,_,rfl,rfl,T0,rfl,rfl,_,rfl,?_⟩)
    rw[show decide (V.str (word (.exch a b))=V.str "exchange")=true from ee]
    refine iteT ⟨_,rfl,t,_,_,_,rfl,rfl,T0,rfl,_,rfl,t,_,_,_,rfl,rfl,T0,rfl,rfl,_,rfl,?_⟩
    by_cases hab:a=b
    ·rw[decide_eq_true (by rw[hab])]
     exact iteT ⟨two,fun r h3=>fin .same _ r (by simp[judgeW,ea,eb,hab]) s1 h3⟩
    ·rw[decide_eq_false (fun q=>hab (V.int.inj q))]
     refine iteF ⟨_,rfl,t,_,_,_,rfl,rfl,T0,rfl,rfl,_,rfl,?_⟩
     rw[show decide (V.str (word (.exch a b))=V.str "exchange")=true from ee]
     refine iteT ⟨_,rfl,t,_,_,_,rfl,rfl,T0,rfl,_,rfl,t,_,_,_,rfl,rfl,T0,rfl,a,b,rfl,fun kt hk=>?_⟩
     have s2:=s1.trans (same_new (o:=.tup [.int (keyP a b).1,.int (keyP a b).2]) hk)
     refine⟨_,rfl,m,_,rfl,DGet.t (k:=[Sum.inl (keyP a b).1,Sum.inl (keyP a b).2]) (s2 _ _ hm) upd_same,_,rfl,?_⟩
     rw[mtK_val]
     by_cases hmt:keyP a b∈ml
     ·rw[decide_eq_true hmt]
      exact iteT ⟨two,fun r h3=>fin .met _ r (by simp[judgeW,ea,eb,hab,metL,hmt]) s2 h3⟩
     ·rw[decide_eq_false hmt]
      exact iteF ⟨two,fun r h3=>fin .done _ r (by simp[judgeW,ea,eb,hab,metL,hmt]) s2 h3⟩
theorem ok_law_after (F:Fun K "_law_after" "_law_after" st_law_after f fd)(C_law_key:Callee P w K mg base "_law_key" 1 ["_law_one","_law_other"] spKey) : FnOk P w K mg base CX0 2 f fd ["_law_worn","_law_met","_law_deed_here"] spAfter:=by
 refine F.ok sc_law_after (fun vs H Q E h=>?_) (fun cdv A outer s H vs Q E hr h=>?_)
 ·obtain⟨w,m,t,wl,ml,d,rfl,_⟩:=h
  rfl
 ·obtain⟨w,m,t,wl,ml,d,rfl,hw,hm,ht0,l1,l2,hj,k⟩:=h
  have hu:=hu_of hr
  have ht:H t=some (.tup (deedL d)):=by rw[←deedO_L];exact ht0
  have T0:SqT K H t (deedL d):=SqT.of ht
  have nwt:t≠w:=ne_of ht hw (by intro z;cases z)
  have nwm:m≠w:=ne_of hm hw (by intro z;cases z)
  have ntm:t≠m:=ne_of ht hm (by intro z;cases z)
  have sz:∀ v:List (Int×Int),v.length≤2000→(dk v).length<sizeLine:=fun v h=>by rw[len_dk];exact Nat.lt_of_le_of_lt h (by decide)
  refine⟨_,pss_one (ps_if (pt_cmpR op_eq (pe_ix ix_tup (pv 2) (pe_int) (fun _ _=>rfl)) (pe_str) (nomark _)) (pss_one (ps_dput hu (pv 0) (pe_ix ix_tup (pv 2) (pe_int) (fun _ _=>rfl)) (pe_ix ix_tup (pv 2) (pe_int) (fun _ _=>rfl)) rfl)) (pss_one (ps_if (pt_cmpR op_eq (pe_ix ix_tup (pv 2) (pe_int) (fun _ _=>rfl)) (pe_str) (nomark _)) (pss_one (ps_expr (pe_dpop1 (pv 0) (pe_ix ix_tup (pv 2) (pe_int) (fun _ _=>rfl)) ⟨rfl,rfl,rfl,rfl⟩))) (pss_cons (ps_st 3 sc_law_after.nd (pe_dget hu (pv 0) (pe_ix ix_tup (pv 2) (pe_int) (fun _ _=>rfl)) (fun _ _=>rfl))) (
   pss_cons (ps_dput hu (pv 0) (pe_ix ix_tup (pv 2) (pe_int) (fun _ _=>rfl)) (pe_dget hu (pv 0) (pe_ix ix_tup (pv 2) (pe_int) (fun _ _=>rfl)) (fun _ _=>rfl)) rfl) (
   pss_cons (ps_dput hu (pv 0) (pe_ix ix_tup (pv 2) (pe_int) (fun _ _=>rfl)) (pv 3) rfl) (
   pss_one (ps_dput hu (pv 1) (pcall C_law_key hr.m rfl (pa2 (pe_ix ix_tup (pv 2) (pe_int) (fun _ _=>rfl)) (pe_ix ix_tup (pv 2) (pe_int) (fun _ _=>rfl)))) (pe_bl) rfl)))))))),?_⟩
  cases d with
  | come g =>
   refine⟨_,rfl,t,_,_,_,rfl,rfl,T0,rfl,rfl,_,rfl,?_⟩
   rw[show decide (V.str (word (.come g))=V.str "come")=true from cc]
   refine iteT ⟨_,rfl,t,_,_,_,rfl,rfl,T0,rfl,_,rfl,_,rfl,t,_,_,_,rfl,rfl,T0,rfl,w,_,rfl,DPut.k (k:=Sum.inl g) hw (sz _ (by omega)),?_⟩
   rw[putK_dk]
   exact k _ upd_same (by rw[upd_ne nwm];exact hm) fun b o e h1 _=>by rw[upd_ne h1];exact e
  | go g =>
   refine⟨_,rfl,t,_,_,_,rfl,rfl,T0,rfl,rfl,_,rfl,?_⟩
   rw[show decide (V.str (word (.go g))=V.str "come")=false from gc]
   refine iteF ⟨_,rfl,t,_,_,_,rfl,rfl,T0,rfl,rfl,_,rfl,?_⟩
   rw[show decide (V.str (word (.go g))=V.str "go")=true from gg]
   obtain⟨z,e⟩:∃ z,look wl g=some z:=by
    cases e:look wl g with
    | none=>simp[judgeW,e]at hj
    | some z=>exact⟨z,rfl⟩
   refine iteT ⟨_,rfl,w,rfl,.inl ⟨_,.inl hw⟩,_,rfl,t,_,_,_,rfl,rfl,T0,rfl,_,Sum.inl g,_,hw,rfl,by rw[valV_dk,e];rfl,?_⟩
   rw[dropK_dk]
   exact k _ upd_same (by rw[upd_ne nwm];exact hm) fun b o e h1 _=>by rw[upd_ne h1];exact e
  | exch a b =>
   refine⟨_,rfl,t,_,_,_,rfl,rfl,T0,rfl,rfl,_,rfl,?_⟩
   rw[show decide (V.str (word (.exch a b))=V.str "come")=false from ec]
   refine iteF ⟨_,rfl,t,_,_,_,rfl,rfl,T0,rfl,rfl,_,rfl,?_⟩
   rw[show decide (V.str (word (.exch a b))=V.str "go")=false from eg]
   obtain⟨za,ea⟩:∃ z,look wl a=some z:=by
    cases e:look wl a with
    | none=>simp[judgeW,e]at hj
    | some z=>exact⟨z,rfl⟩
   obtain⟨zb,eb⟩:∃ z,look wl b=some z:=by
    cases e:look wl b with
    | none=>simp[judgeW,ea,e]at hj
    | some z=>exact⟨z,rfl⟩
   have ga:DGet H w (.int a) (some (V.int za)):=by have:=DGet.k (k:=Sum.inl a) hw;rw[valV_dk,ea]at this;exact this
   have gb:DGet H w (.int b) (some (V.int zb)):=by have:=DGet.k (k:=Sum.inl b) hw;rw[valV_dk,eb]at this;exact this
   refine iteF ⟨_,rfl,_,rfl,t,_,_,_,rfl,rfl,T0,rfl,w,_,rfl,ga,?_⟩
   refine⟨_,rfl,_,rfl,t,_,_,_,rfl,rfl,T0,rfl,w,_,rfl,gb,_,rfl,_,rfl,t,_,_,_,rfl,rfl,T0,rfl,w,_,rfl,DPut.k (k:=Sum.inl a) hw (sz _ (by omega)),?_⟩
   rw[putK_dk]
   have lp:=len_put wl a zb
   have T1:SqT K (upd H w (.dK (dk (put wl a zb)))) t (deedL (.exch a b)):=SqT.of (by rw[upd_ne nwt];exact ht)
   refine⟨_,rfl,_,rfl,_,rfl,t,_,_,_,rfl,rfl,T1,rfl,w,_,rfl,DPut.k (k:=Sum.inl b) upd_same (sz _ (by omega)),?_⟩
   rw[putK_dk,upd_upd]
   have T2:SqT K (upd H w (.dK (dk (put (put wl a zb) b za)))) t (deedL (.exch a b)):=SqT.of (by rw[upd_ne nwt];exact ht)
   refine⟨_,rfl,_,rfl,t,_,_,_,rfl,rfl,T2,rfl,_,rfl,t,_,_,_,rfl,rfl,T2,rfl,a,b,rfl,fun kt hk=>?_⟩
   have hkm:m≠kt:=ne_of_none (by rw[upd_ne nwm];exact hm) hk
   have hkw:w≠kt:=ne_of_none upd_same hk
   refine⟨m,_,rfl,DPut.t (k:=[Sum.inl (keyP a b).1,Sum.inl (keyP a b).2]) (by rw[upd_ne hkm,upd_ne nwm];exact hm) upd_same (by unfold mtK;rw[List.length_map];exact Nat.lt_of_le_of_lt l2 (by decide)),?_⟩
   rw[mtK_put]
   have wa:wr wl a=za:=by unfold wr;rw[ea];rfl
   have wb:wr wl b=zb:=by unfold wr;rw[eb];rfl
   refine k _ ?_ upd_same fun x o e h1 h2=>?_
   ·rw[upd_ne (Ne.symm nwm),upd_ne hkw,upd_same]
    show some (HO.dK (dk (put (put wl a zb) b za)))=some (HO.dK (dk (put (put wl a (wr wl b)) b (wr wl a))))
    rw[wa,wb]
   ·have e':upd H w (.dK (dk (put (put wl a zb) b za))) x=some o:=by rw[upd_ne h1];exact e
    rw[upd_ne h2,upd_ne (ne_of_none e' hk)]
    exact e'
theorem ok_law_deed (F:Fun K "_law_deed" "_law_deed" st_law_deed f fd)(C_law_guest:Callee P w K mg base "_law_guest" 2 ["_law_k","_law_cell"] spGuest) : FnOk P w K mg base CX0 3 f fd ["_law_drawn","_law_many","_law_cell"] spDeed1:=by
 refine F.ok sc_law_deed (fun vs H Q E h=>?_) (fun cdv A outer s H vs Q E hr h=>?_)
 ·obtain⟨dr,m,n,rfl,_⟩:=h
  rfl
 ·obtain⟨dr,m,n,rfl,⟨d0,d1⟩,⟨m0,m1⟩,k⟩:=h
  refine⟨_,pss_cons (ps_st 3 sc_law_deed.nd (pcall C_law_guest hr.m rfl (pa2 (pe_op op_mod (pe_op op_fdiv (pv 0) (pe_int)) (pv 1)) (pv 2)))) (
   pss_cons (ps_if (pt_cmpR op_eq (pe_op op_mod (pv 0) (pe_int)) (pe_int) (nomark _)) (pss_one (ps_ret (pe_tup (pa2 (pe_str) (pv 3))))) (pss_nil)) (
   pss_cons (ps_if (pt_cmpR op_eq (pe_op op_mod (pv 0) (pe_int)) (pe_int) (nomark _)) (pss_one (ps_ret (pe_tup (pa2 (pe_str) (pv 3))))) (pss_nil)) (
   pss_one (ps_ret (pe_tup (pa3 (pe_str) (pv 3) (pcall C_law_guest hr.m rfl (pa2 (pe_op op_mod (pe_op op_fdiv (pv 0) (pe_op op_mul (pe_int) (pv 1))) (pv 1)) (pv 2))))))))),?_⟩
  have em:∀ z:Int,0≤z%m∧z%m<m:=fun z=>⟨Int.emod_nonneg _ (by omega),Int.emod_lt_of_pos _ (by omega)⟩
  have a0:=em (dr/8)
  refine⟨_,rfl,_,_,rfl,rfl,⟨by decide,by decide⟩,_,rfl,_,_,rfl,rfl,by show (0:Int)<m;omega,_,rfl,_,_,rfl,⟨a0.1,by omega⟩,?_⟩
  have g0:gst (dr/8%m) n∈namesL 40 n:=gst_in ⟨a0.1,by omega⟩
  refine⟨_,rfl,_,_,rfl,rfl,by show (0:Int)<8;decide,rfl,_,rfl,?_⟩
  refine ite2 (fun _=>⟨_,rfl,by show 2≤sizeLine;decide,fun t ht=>k t (.come (gst (dr/8%m) n)) ht fun g hg=>by simp[names]at hg;rw[hg];exact g0⟩) (fun _=>?_)
  refine⟨_,rfl,_,_,rfl,rfl,by show (0:Int)<8;decide,rfl,_,rfl,?_⟩
  refine ite2 (fun _=>⟨_,rfl,by show 2≤sizeLine;decide,fun t ht=>k t (.go (gst (dr/8%m) n)) ht fun g hg=>by simp[names]at hg;rw[hg];exact g0⟩) (fun _=>?_)
  have a1:=em (dr/(8*m))
  have g1:gst (dr/(8*m)%m) n∈namesL 40 n:=gst_in ⟨a1.1,by omega⟩
  refine⟨_,rfl,_,rfl,_,rfl,_,_,rfl,rfl,.inl ⟨by decide,by decide⟩,_,_,rfl,rfl,⟨by show (0:Int)<8*m;omega,by show 8*m<1073741824;omega⟩,_,rfl,_,_,rfl,rfl,by show (0:Int)<m;omega,_,rfl,_,_,rfl,⟨a1.1,by omega⟩,by show 3≤sizeLine;decide,fun t ht=>?_⟩
  exact k t (.exch (gst (dr/8%m) n) (gst (dr/(8*m)%m) n)) ht fun g hg=>by
   simp[names]at hg
   rcases hg with rfl | rfl
   ·exact g0
   ·exact g1
theorem ok_law_crowd (F:Fun K "_law_crowd" "_law_crowd" st_law_crowd f fd) : FnOk P w K mg base CX0 1 f fd ["_law_cell"] spCrowd:=by
 refine F.ok sc_law_crowd (fun vs H Q E h=>?_) (fun cdv A outer s H vs Q E hr h=>?_)
 ·obtain⟨n,rfl,_⟩:=h
  rfl
 ·obtain⟨n,rfl,k⟩:=h
  refine⟨_,pss_cons (ps_if (pt_cmpR op_eq (pe_op op_mod (pe_op op_fdiv (pv 0) (pe_int)) (pe_int)) (pe_int) (nomark _)) (pss_one (ps_ret (pe_op op_add (pe_int) (pe_op op_mod (pe_op op_fdiv (pv 0) (pe_int)) (pe_int))))) (pss_nil)) (
   pss_one (ps_ret (pe_op op_add (pe_int) (pe_op op_mod (pv 0) (pe_int))))),?_⟩
  refine⟨_,rfl,_,_,rfl,rfl,⟨by decide,by decide⟩,_,_,rfl,rfl,by show (0:Int)<8;decide,rfl,_,rfl,?_⟩
  refine ite2 (fun _=>?_) (fun _=>?_)
  ·refine⟨_,rfl,_,_,rfl,rfl,⟨by decide,by decide⟩,_,_,rfl,rfl,by show (0:Int)<28;decide,_,_,rfl,rfl,k _ ?_⟩
   have:=Int.emod_lt_of_pos (n/1408) (show (0:Int)<28 by decide)
   have:=Int.emod_nonneg (n/1408) (show (28:Int)≠0 by decide)
   omega
  ·refine⟨_,rfl,_,_,rfl,rfl,by show (0:Int)<11;decide,_,_,rfl,rfl,k _ ?_⟩
   have:=Int.emod_lt_of_pos n (show (0:Int)<11 by decide)
   have:=Int.emod_nonneg n (show (11:Int)≠0 by decide)
   omega
theorem ok_law_deeds (F:Fun K "_law_deeds" "_law_deeds" st_law_deeds f fd)(C_law_cell_at:Callee P w K mg base "_law_cell_at" 1 ["_law_script","_law_k"] (spCell K))(C_law_crowd:Callee P w K mg base "_law_crowd" 1 ["_law_cell"] spCrowd)(C_law_guest:Callee P w K mg base "_law_guest" 2 ["_law_k","_law_cell"] spGuest)(C_law_deed:Callee P w K mg base "_law_deed" 3 ["_law_drawn","_law_many","_law_cell"] spDeed1)(C_law_draws_from:Callee P w K mg base "_law_draws_from" 3 ["_law_script","_law_start","_law_most","_law_base"] (spFrom K)) : FnOk P w K mg base CX0 4 f fd ["_law_script"] (spDeeds2 K):=by
 refine F.ok sc_law_deeds (fun vs H Q E h=>?_) (fun cdv A outer s H vs Q E hr h=>?_)
 ·obtain⟨a,ns,rfl,_⟩:=h
  rfl
 ·obtain⟨a,ns,rfl,hS,k⟩:=h
  refine⟨_,pss_cons (ps_st 1 sc_law_deeds.nd (pcall C_law_cell_at hr.m rfl (pa2 (pv 0) (pe_int)))) (
   pss_cons (ps_st 2 sc_law_deeds.nd (pcall C_law_crowd hr.m rfl (pa1 (pcall C_law_cell_at hr.m rfl (pa2 (pv 0) (pe_int)))))) (
   pss_cons (ps_st 3 sc_law_deeds.nd (pe_op op_mod (pe_op op_fdiv (pcall C_law_cell_at hr.m rfl (pa2 (pv 0) (pe_int))) (pe_int)) (pe_int))) (
   pss_cons (ps_comp (ix:=4) (so:=defScope st_law_deeds) (N:=n_law_deeds) (N':=["_law_k","_law_first","_law_cell"]) (src:=[none,some 3,some 1]) rfl rfl csc rfl (pi_range1 (by rfl) T.range (pa1 (pv 2))) (fun cl C s2 H2 ex=>⟨pgn 0 (show (["_law_k","_law_first","_law_cell"]:List Str).Nodup by decide +kernel),pts_one (PW.pt (pw_or (pt_cmpR op_gt (pv 1) (pe_int) (nomark _)) (pw_or1 (pt_cmpR op_eq (pe_op op_mod (pv 0) (pe_int)) (pe_int) (nomark _))))),pe_tup (pa2 (pe_str) (pcall C_law_guest hr.m rfl (pa2 (pv 0) (pv 2))))⟩) sc_law_deeds.nd rfl rfl) (
   pss_one (ps_ret (pe_op op_cat (pv 4) (pe_comp (so:=defScope st_law_deeds) (N:=n_law_deeds) (N':=["_law_drawn","_law_many","_law_cell"]) (src:=[none,some 2,some 1]) rfl rfl csc rfl (pi_list (pcall C_law_draws_from hr.m rfl (pa_cons (pv 0) (pa_cons (pe_int) (pa_cons (pe_int) (pa_cons (pe_int) pa_nil)))))) (fun cl C s2 H2 ex=>⟨pgn 0 (show (["_law_drawn","_law_many","_law_cell"]:List Str).Nodup by decide +kernel),pts_nil,pcall C_law_deed hr.m rfl (pa3 (pv 0) (pv 1) (pv 2))⟩)))))))),?_⟩
  refine⟨_,rfl,a,ns,1,rfl,hS,by decide,?_⟩
  generalize hcn:cellAt ns 1=cn at k ⊢
  refine⟨_,rfl,a,ns,0,rfl,hS,by decide,_,rfl,fun m ⟨m0,m1⟩=>?_⟩
  refine⟨_,rfl,a,ns,0,rfl,hS,by decide,_,_,rfl,rfl,⟨by decide,by decide⟩,_,_,rfl,rfl,by show (0:Int)<16;decide,?_⟩
  refine⟨_,rfl,m,rfl,by omega,by omega,fun l hl=>?_⟩
  refine for_range (n:=m.toNat) (fun i σ H2=>∃ (v:Option V)(ds:List Deed),σ=[v,some (.int (cellAt ns 0/11%16)),some (.int cn)]∧Same H H2∧DeedsAt H2 l ds∧(∀ d∈ds,∀ g∈names d,g∈namesL 40 cn)∧ds.length≤i∧ds.filter isEx=[])
   ⟨none,[],rfl,same_new hl,⟨[],upd_same,.nil⟩,(fun d hd=>nomatch hd),Nat.le_refl _,rfl⟩ ?_ ?_
  ·rintro i σ H2 hi ⟨v,ds,rfl,s2,⟨as,hl2,hp2⟩,hn,hlen,hex⟩
   have hal:=Paired.length hp2
   have app:∀ t,H2 t=none→∃ (v:Option V)(ds:List Deed),([some (.int (0+(i:Int))),some (.int (cellAt ns 0/11%16)),some (.int cn)]:St)=[v,some (.int (cellAt ns 0/11%16)),some (.int cn)]∧Same H (upd (upd H2 t (deedO (.come (gst (0+(i:Int)) cn)))) l (.lst (as.map V.ref++[.ref t])))∧DeedsAt (upd (upd H2 t (deedO (.come (gst (0+(i:Int)) cn)))) l (.lst (as.map V.ref++[.ref t]))) l ds∧(∀ d∈ds,∀ g∈names d,g∈namesL 40 cn)∧ds.length≤i+1∧ds.filter isEx=[]:=fun t ht=>by
    refine⟨_,ds++[.come (gst (0+(i:Int)) cn)],rfl,same_upd (s2.trans (same_new ht)) hl,deeds_snoc hl2 hp2 ht _,fun d hd g hg=>?_,by rw[List.length_append];show ds.length+1≤i+1;omega,by rw[List.filter_append,hex];rfl⟩
    rcases List.mem_append.mp hd with z | z
    ·exact hn d z g hg
    ·rw[List.mem_singleton.mp z]at hg
     simp[names]at hg
     rw[hg]
     exact gst_in ⟨by omega,by omega⟩
   refine tbc_if ⟨_,rfl,_,_,rfl,rfl,_,rfl,ite2 (fun _=>iteT ?_) (fun _=>⟨_,rfl,_,_,rfl,rfl,by show (0:Int)<2;decide,rfl,_,rfl,ite2 (fun _=>?_) (fun _=>?_)⟩)⟩
   ·refine⟨_,rfl,_,rfl,_,_,rfl,⟨by omega,by omega⟩,by show 2≤sizeLine;decide,fun t ht=>⟨_,by rw[upd_ne (ne_of_none hl2 ht)];exact hl2,by rw[List.length_map];exact small1000 (by omega),?_⟩⟩
    exact app t ht
   ·refine⟨_,rfl,_,rfl,_,_,rfl,⟨by omega,by omega⟩,by show 2≤sizeLine;decide,fun t ht=>⟨_,by rw[upd_ne (ne_of_none hl2 ht)];exact hl2,by rw[List.length_map];exact small1000 (by omega),?_⟩⟩
    exact app t ht
   ·exact⟨_,ds,rfl,s2,⟨as,hl2,hp2⟩,hn,by omega,hex⟩
  ·rintro σ H2 ⟨v,ds,rfl,s2,d2,hn,hlen,hex⟩
   refine⟨_,rfl,_,rfl,a,ns,2,48,12800,rfl,s2.seq hS,⟨by decide,by decide⟩,⟨by decide,by decide⟩,⟨by decide,by decide⟩,fun q H3 es hq s3 hq3 hes hel=>?_⟩
   refine⟨q,rfl,⟨_,SqL.of hq3⟩,fun l2 hl2=>?_⟩
   have d3:=deeds_mono (deeds_mono d2 s3) (same_new (o:=.lst []) hl2)
   have nq:q≠l2:=ne_of_none hq3 hl2
   refine for_list (K:=K) (a:=q) (xs:=es.map V.int) (fun i σ H4=>∃ (v:Option V)(fs:List Deed),σ=[v,some (.int m),some (.int cn)]∧Same H3 H4∧DeedsAt H4 l2 fs∧(∀ d∈fs,∀ g∈names d,g∈namesL 40 cn)∧fs.length=i)
    ⟨none,[],rfl,same_new hl2,⟨[],upd_same,.nil⟩,(fun d hd=>nomatch hd),rfl⟩ (fun i σ H4 _ ⟨_,_,_,s4,_⟩=>SqL.of (s4 _ _ hq3)) ?_ ?_
   ·rintro i y σ H4 hi ⟨v,fs,rfl,s4,⟨as,hl4,hp4⟩,hn4,hlen4⟩
    obtain⟨dr,hdr,rfl⟩:=map_get hi
    have hil:i<es.length:=(List.getElem?_eq_some_iff.mp hdr).1
    have hb:=hes dr (List.mem_of_getElem? hdr)
    have hal:=Paired.length hp4
    refine tbc_yes ⟨_,rfl,_,rfl,_,rfl,dr,m,cn,rfl,⟨hb.1,by omega⟩,⟨m0,m1⟩,fun t d ht hnd=>⟨_,by rw[upd_ne (ne_of_none hl4 ht)];exact hl4,by rw[List.length_map];exact small1000 (by omega),?_⟩⟩
    refine⟨_,fs++[d],rfl,same_upd (s4.trans (same_new ht)) hl2,deeds_snoc hl4 hp4 ht d,fun d' hd' g hg=>?_,by rw[List.length_append];show fs.length+1=i+1;omega⟩
    rcases List.mem_append.mp hd' with z | z
    ·exact hn4 d' z g hg
    ·rw[List.mem_singleton.mp z]at hg;exact hnd g hg
   ·rintro σ H4 ⟨v,fs,rfl,s4,⟨as4,hl4,hp4⟩,hn4,hlen4⟩
    rw[List.length_map]at hlen4
    obtain⟨as2,hl2',hp2⟩:=deeds_mono (deeds_mono d2 s3) s4
    have l1:=Paired.length hp2
    have l3:=Paired.length hp4
    refine⟨l,l2,_,_,rfl,rfl,hl2',hl4,by rw[List.length_map,List.length_map];exact Nat.le_of_lt (small1000 (by omega)),fun p hp=>?_⟩
    have s24:=(s2.trans s3).trans s4
    refine k p _ (ds++fs) (s24.free hp) (s24.trans (same_new hp)) ⟨as2++as4,by rw[upd_same,List.map_append],?_⟩ (fun d hd g hg=>?_) (by rw[List.length_append];omega) (by rw[List.filter_append,hex,List.nil_append];exact Nat.le_trans (List.length_filter_le _ _) (by omega))
    ·exact paired_append (Paired.mapP hp2 fun b y e=>(same_new hp) _ _ e) (Paired.mapP hp4 fun b y e=>(same_new hp) _ _ e)
    ·rcases List.mem_append.mp hd with z | z
     ·exact hn d z g hg
     ·exact hn4 d z g hg
theorem ok_law_evening (F:Fun K "_law_evening" "_law_evening" st_law_evening f fd)(C_law_deeds:Callee P w K mg base "_law_deeds" 4 ["_law_script"] (spDeeds2 K))(C_law_due:Callee P w K mg base "_law_due" 2 ["_law_worn","_law_met","_law_deed_here"] spDue)(C_law_after:Callee P w K mg base "_law_after" 2 ["_law_worn","_law_met","_law_deed_here"] spAfter) : FnOk P w K mg base CX0 6 f fd ["_law_script"] (spEvening2 K):=by
 refine F.ok sc_law_evening (fun vs H Q E h=>?_) (fun cdv A outer s H vs Q E hr h=>?_)
 ·obtain⟨a,ns,rfl,_⟩:=h
  rfl
 ·obtain⟨a,ns,rfl,hS,k⟩:=h
  have hu:=hu_of hr
  have nil0:(0:Nat)≤sizeLine:=Nat.zero_le _
  have three:(3:Nat)≤sizeLine:=by decide
  refine⟨_,pss_cons (ps_st 1 sc_law_evening.nd pe_dnewK) (
   pss_cons (ps_st 2 sc_law_evening.nd pe_dnewT) (
   pss_cons (ps_st 3 sc_law_evening.nd (pe_lst pa_nil)) (
   pss_cons (ps_for PassesOwn.never rfl (pi_list (pcall C_law_deeds hr.m rfl (pa1 (pv 0)))) (pgn 4 sc_law_evening.nd) (pss_one (ps_if (pt_cmpR op_eq (pe_ix ix_tup (pcall C_law_due hr.m rfl (pa3 (pv 1) (pv 2) (pv 4))) (pe_int) (fun _ _=>rfl)) (pe_str) (nomark _)) (pss_cons (ps_expr (pcall C_law_after hr.m rfl (pa3 (pv 1) (pv 2) (pv 4)))) (
   pss_one (ps_expr (pe_bm PySem.F.plainAttrs_list PySem.F.slot_list_append PySem.F.type_list_append mt_append (pv 3) (pa1 (pv 4)))))) (pss_nil)))) (
   pss_one (ps_ret (pe_tup (pa3 (pv 1) (pv 2) (pv 3)))))))),?_⟩
  intro w hw
  have sA:=same_new (o:=.dK []) hw
  have hw2:upd H w (.dK []) w=some (.dK (dk [])):=upd_same
  generalize upd H w (.dK [])=H2 at hw2 sA ⊢
  intro m hm
  have sB:=same_new (o:=.dT []) hm
  have hm0:H m=none:=sA.free hm
  have hm3:upd H2 m (.dT []) m=some (.dT (mtK [])):=upd_same
  have hw3:=sB _ _ hw2
  generalize upd H2 m (.dT [])=H3 at hm3 hw3 sB ⊢
  refine⟨nil0,fun ls hls=>?_⟩
  have sC:=same_new (o:=.lst []) hls
  have s4:=(sA.trans sB).trans sC
  have hs0:H ls=none:=(sA.trans sB).free hls
  have M4:MdE H (upd H3 ls (.lst [])) w m ls ⟨[],[],[],[]⟩ []:=⟨sC _ _ hw3,sC _ _ hm3,⟨[],upd_same,.nil⟩,hw,hm0,hs0⟩
  generalize upd H3 ls (.lst [])=H4 at M4 s4 ⊢
  refine⟨_,rfl,a,ns,rfl,s4.seq hS,fun lq H6 ds hlq s6 dlq hds hdl hxl=>?_⟩
  have M6:=M4.on s6
  have S6:=s4.trans s6
  generalize hcn:cellAt ns 1=cn at hds k
  have L40:(namesL 40 cn).length=40:=len_names 40 cn
  obtain⟨qs,hq6,hqp6⟩:=id dlq
  have hql:=Paired.length hqp6
  refine⟨lq,rfl,⟨_,SqL.of hq6⟩,for_list (K:=K) (a:=lq) (xs:=qs.map V.ref) (fun i σ HH=>∃ (es:List Deed)(v4:Option V),σ=[some (.ref a),some (.ref w),some (.ref m),some (.ref ls),v4]∧Same H HH∧MdE H HH w m ls (stOf es) (mlOf es)∧DoneAll es∧es.Sublist (ds.take i) ∧
    HH lq=some (.lst (qs.map V.ref))∧Paired (fun a x=>HH a=some (deedO x)) qs ds∧lq≠ls)
   ⟨[],none,rfl,S6,M6,doneAll_nil,List.nil_sublist _,hq6,hqp6,?_⟩ (fun i σ HH _ ⟨_,_,_,_,_,_,_,h,_⟩=>SqL.of h) ?_ ?_⟩
  ·intro z;obtain⟨as,h,_⟩:=M4.hs;rw[z,h]at hlq;cases hlq
  ·rintro i y σ HH hi ⟨es,v4,rfl,S,M,dn,sub,hq,hqp,lqs⟩
   obtain⟨t,ht,rfl⟩:=map_get hi
   have hil:i<qs.length:=(List.getElem?_eq_some_iff.mp ht).1
   obtain⟨d,hd,hT⟩:=paired_get hqp ht
   have nmD:=hds d (List.mem_of_getElem? hd)
   have smD:∀ g∈names d,g∈namesL 40 cn∧Small g:=fun g hg=>⟨nmD g hg,names_small (nmD g hg)⟩
   have nmE:∀ e∈es,∀ g∈names e,g∈namesL 40 cn∧Small g:=fun e he g hg=>by have:=hds e (List.mem_of_mem_take (sub.mem he)) g hg;exact⟨this,names_small this⟩
   have ev:=pre_of dn nmE es.length
   rw[List.take_length]at ev
   have esl:=sub.length_le
   rw[List.length_take]at esl
   have ln:=of_len ev.good ev.of
   have lm:=ev.ml
   have lf:=List.length_filter_le isEx es
   refine⟨_,rfl,_,rfl,_,rfl,w,m,t,(stOf es).worn,mlOf es,d,rfl,M.hw,M.hm,hT,fun r H1 hr1 s1 hrt=>?_⟩
   rw[judge_al ev.al]at hrt
   refine⟨r,_,_,_,rfl,rfl,SqT.of hrt,atI_nat (j:=0) (out0 _),rfl,_,rfl,?_⟩
   rw[outW_done]
   have M1:=M.on s1
   have hT1:=s1 _ _ hT
   have hq1:=s1 _ _ hq
   have hqp1:Paired (fun a x=>H1 a=some (deedO x)) qs ds:=Paired.mapP hqp fun b y e=>s1 _ _ e
   have sub1:(es++[d]).Sublist (ds.take (i+1)):=by rw[List.take_add_one,hd,Option.toList_some];exact sub.append (List.Sublist.refl _)
   have sub0:es.Sublist (ds.take (i+1)):=by rw[List.take_add_one];exact sub.trans (List.sublist_append_left _ _)
   by_cases hj:judge (stOf es) d=.done
   ·rw[decide_eq_true hj]
    obtain⟨as,hl,hp⟩:=id M1.hs
    have hal:=Paired.length hp
    rw[stOf_deeds]at hal
    refine iteT ⟨_,rfl,_,rfl,_,rfl,w,m,t,(stOf es).worn,mlOf es,d,rfl,M1.hw,M1.hm,hT1,by omega,by omega,(judge_al ev.al d).trans hj,fun H3 h1 h2 k3=>?_⟩
    obtain⟨M4,hl1⟩:=M1.done hj h1 h2 k3 hl hp hT1
    rw[nextS_done hj,nextM_done hj]at M4
    refine⟨_,rfl,.inl ⟨rfl,_,SqL.of hl1⟩,_,rfl,ls,_,_,rfl,rfl,hl1,by rw[List.length_map];exact small1000 (by omega),?_⟩
    have kp:∀ b o,H1 b=some o→b≠w→b≠m→b≠ls→(upd H3 ls (.lst (as.map V.ref++[.ref t]))) b=some o:=fun b o e n1 n2 n3=>by rw[upd_ne n3];exact k3 b o e n1 n2
    refine⟨_,_,rfl,fun b o e=>kp b o (s1 _ _ (S b o e)) (ne_of_none e M.w0) (ne_of_none e M.m0) (ne_of_none e M.s0),M4,doneAll_snoc dn hj,sub1,kp lq _ hq1 (ne_of hq1 M1.hw (by intro z;cases z)) (ne_of hq1 M1.hm (by intro z;cases z)) lqs,Paired.mapP hqp1 fun b y e=>?_,lqs⟩
    obtain⟨xs,ex⟩:=deed_tup y
    rw[ex]at e ⊢
    exact kp b _ e (ne_of e M1.hw (by intro z;cases z)) (ne_of e M1.hm (by intro z;cases z)) (ne_of e hl (by intro z;cases z))
   ·rw[decide_eq_false hj]
    exact iteF ⟨_,_,rfl,S.trans s1,M1,dn,sub0,hq1,hqp1,lqs⟩
  ·rintro σ HH ⟨es,v4,rfl,S,M,dn,sub,hq,hqp,lqs⟩
   have sub2:=sub.trans (List.take_sublist _ _)
   refine⟨_,rfl,_,rfl,_,rfl,three,fun t ht=>k t w m ls _ es (S.trans (same_new ht)) upd_same (M.on (same_new ht)) dn (fun e he g hg=>hds e (sub2.mem he) g hg) (Nat.le_trans sub2.length_le hdl) (Nat.le_trans (sub2.filter isEx).length_le hxl)⟩
theorem ok_law_do (F:Fun K "_law_do" "_law_do" st_law_do f fd)(M_Hall_come:MCallee P w K mg base (CXD P w) c.C "come" 2 ["self","guest"] (spCome c))(M_Hall_go:MCallee P w K mg base (CXD P w) c.C "go" 4 ["self","guest"] (spGo c))(M_Hall_exchange:MCallee P w K mg base (CXD P w) c.C "exchange" 4 ["self","one","other"] (spExch c)) : FnOk P w K mg base (CXD P w) 5 f fd ["_law_hall","_law_deed_here"] (spDo c):=by
 refine F.okX sc_law_do (fun vs H Q E h=>?_) (fun cdv A outer s H vs Q E hr h=>?_)
 ·obtain⟨p,t,B,st,d,rfl,_⟩:=h
  rfl
 ·obtain⟨p,t,B,st,d,rfl,ht0,S,ft,hg,sm,k⟩:=h
  have ht:H t=some (.tup (deedL d)):=by rw[←deedO_L];exact ht0
  have T0:SqT K H t (deedL d):=SqT.of ht
  refine⟨_,pss_cons (ps_if (pt_cmpR op_eq (pe_ix ix_tup (pv 1) (pe_int) (fun _ _=>rfl)) (pe_str) (nomark _)) (pss_one (ps_ret (pmeth M_Hall_come (pv 0) U.cl hr.m pass_cx (pa1 (pe_ix ix_tup (pv 1) (pe_int) (fun _ _=>rfl)))))) (pss_nil)) (
   pss_cons (ps_if (pt_cmpR op_eq (pe_ix ix_tup (pv 1) (pe_int) (fun _ _=>rfl)) (pe_str) (nomark _)) (pss_one (ps_ret (pmeth M_Hall_go (pv 0) U.cl hr.m pass_cx (pa1 (pe_ix ix_tup (pv 1) (pe_int) (fun _ _=>rfl)))))) (pss_nil)) (
   pss_one (ps_ret (pmeth M_Hall_exchange (pv 0) U.cl hr.m pass_cx (pa2 (pe_ix ix_tup (pv 1) (pe_int) (fun _ _=>rfl)) (pe_ix ix_tup (pv 1) (pe_int) (fun _ _=>rfl))))))),?_⟩
  have n1:=hf_no B (m:="come") (by decide +kernel) (by decide +kernel) (by decide +kernel) (by decide +kernel)
  have n2:=hf_no B (m:="go") (by decide +kernel) (by decide +kernel) (by decide +kernel) (by decide +kernel)
  have n3:=hf_no B (m:="exchange") (by decide +kernel) (by decide +kernel) (by decide +kernel) (by decide +kernel)
  cases d with
  | come g =>
   refine⟨_,rfl,t,_,_,_,rfl,rfl,T0,rfl,rfl,_,rfl,?_⟩
   rw[show decide (V.str (word (.come g))=V.str "come")=true from cc]
   exact iteT ⟨_,rfl,p,B.dx,_,rfl,S.ob,n1,_,rfl,t,_,_,_,rfl,rfl,T0,rfl,p,B,st,g,rfl,S,ft,sm g (by simp[names]),k⟩
  | go g =>
   refine⟨_,rfl,t,_,_,_,rfl,rfl,T0,rfl,rfl,_,rfl,?_⟩
   rw[show decide (V.str (word (.go g))=V.str "come")=false from gc]
   refine iteF ⟨_,rfl,t,_,_,_,rfl,rfl,T0,rfl,rfl,_,rfl,?_⟩
   rw[show decide (V.str (word (.go g))=V.str "go")=true from gg]
   exact iteT ⟨_,rfl,p,B.dx,_,rfl,S.ob,n2,_,rfl,t,_,_,_,rfl,rfl,T0,rfl,p,B,st,g,rfl,S,ft,sm g (by simp[names]),(fun m hm=>⟨hg.sm g m hm,fun e=>by rw[e]at hm;rw[(hg.wh g g).mp hm];rfl⟩),k⟩
  | exch a b =>
   refine⟨_,rfl,t,_,_,_,rfl,rfl,T0,rfl,rfl,_,rfl,?_⟩
   rw[show decide (V.str (word (.exch a b))=V.str "come")=false from ec]
   refine iteF ⟨_,rfl,t,_,_,_,rfl,rfl,T0,rfl,rfl,_,rfl,?_⟩
   rw[show decide (V.str (word (.exch a b))=V.str "go")=false from eg]
   exact iteF ⟨_,rfl,p,B.dx,_,rfl,S.ob,n3,_,rfl,t,_,_,_,rfl,rfl,T0,rfl,_,rfl,t,_,_,_,rfl,rfl,T0,rfl,p,B,st,a,b,rfl,S,ft,sm a (by simp[names]),sm b (by simp[names]),k⟩
theorem ok_law_hall_of (F:Fun K "_law_hall_of" "_law_hall_of" st_law_hall_of f fd)(MH:HMk P w K mg base c)(C_law_do:XCallee P w K mg base "_law_do" 5 ["_law_hall","_law_deed_here"] (spDo c)) : FnOk P w K mg base CX0 7 f fd ["_law_story"] (spHallOf c):=by
 refine F.ok sc_law_hall_of (fun vs H Q E h=>?_) (fun cdv A outer s H vs Q E hr h=>?_)
 ·obtain⟨l,ds,L,rfl,_⟩:=h
  rfl
 ·obtain⟨l,ds,L,rfl,dl,hdn,hdl,hL,hnm,k⟩:=h
  have hu:=hu_of hr
  refine⟨_,pss_cons (ps_st 1 sc_law_hall_of.nd (pHall MH U hr.m rfl)) (
   pss_cons (ps_for PassesOwn.never rfl (pi_list (pv 0)) (pgn 2 sc_law_hall_of.nd) (pss_one (ps_expr (pxcall C_law_do hr.m rfl passN (pa2 (pv 1) (pv 2)))))) (
   pss_one (ps_ret (pv 1)))),?_⟩
  intro x dx nx ndx nex
  refine⟨x,dx,rfl,upd_same,fun B H1 S1 kp fr=>⟨rfl,?_⟩⟩
  have s0:Same H (upd (upd H dx (.own x)) x (.ins c.C dx [])):=fun b o e=>by rw[upd_ne (ne_of_none e nx),upd_ne (ne_of_none e ndx)];exact e
  have E1:Ev c H H1 x B ⟨[],[],[],[]⟩:=⟨fun b o e=>kp b o (s0 b o e) (ne_of_none e nx),S1,good_empty,fun b hb=>s0.free (fr b hb)⟩
  obtain⟨qs,hq,hqp⟩:=id dl
  refine⟨_,rfl,l,rfl,⟨_,SqL.of (E1.same _ _ hq)⟩,for_list (K:=K) (a:=l) (xs:=qs.map V.ref) (fun i σ HH=>∃ (B:HA)(v:Option V),σ=[some (.ref l),some (.ref x),v]∧Ev c H HH x B (stOf (ds.take i))∧Of L (stOf (ds.take i))∧Sz i (stOf (ds.take i)))
   ⟨B,none,rfl,E1,of_empty,sz0⟩ (fun i σ HH _ ⟨_,_,_,E,_⟩=>SqL.of (E.same _ _ hq)) ?_ ?_⟩
  ·rintro i y σ HH hi ⟨B,v,rfl,E,o,z⟩
   obtain⟨t,ht,rfl⟩:=map_get hi
   obtain⟨d,hd,hT0⟩:=paired_get hqp ht
   have hT:=E.same _ _ hT0
   have hj:=hdn i d hd
   have hil:=(List.getElem?_eq_some_iff.mp hd).1
   have ft:=fits_of E.good o hL z (by omega)
   have nm:=hnm d (List.mem_of_getElem? hd)
   refine⟨_,rfl,_,rfl,x,t,B,_,d,rfl,hT,E.hall,ft,E.good,fun g hg=>(nm g hg).2,?_⟩
   unfold Does
   rw[if_pos hj]
   intro H2 mv
   have en:nextS (stOf (ds.take i)) d=stOf (ds.take (i+1)):=by unfold nextS;rw[if_pos hj,List.take_add_one,hd,Option.toList_some,stOf_snoc]
   have g2:=good_next E.good (d:=d) (fun g hg=>(nm g hg).2)
   have o2:=of_next E.good o (fun g hg=>(nm g hg).1)
   have z2:=sz_next z d
   have mv2:Moved c.C HH x B (nextS (stOf (ds.take i)) d) H2:=by unfold nextS;rw[if_pos hj];exact mv
   obtain⟨B',E2,_⟩:=E.moved mv2 g2
   rw[en]at E2 o2 z2
   exact⟨B',_,rfl,E2,o2,z2⟩
  ·rintro σ HH ⟨B,v,rfl,E,o,z⟩
   have el:=Paired.length hqp
   rw[List.length_map,el,List.take_length]at E
   exact⟨_,rfl,k x B HH nx E⟩
theorem ok_law_stands (F:Fun K "_law_stands" "_law_stands" st_law_stands f fd)(M_Hall_guests:MCallee P w K mg base CX0 c.C "guests" 1 ["self"] (spGuests c.C))(M_Hall_story:MCallee P w K mg base CX0 c.C "story" 1 ["self"] (spStory c.C))(M_Hall_moment:MCallee P w K mg base CX0 c.C "moment" 1 ["self"] (spMoment c.C))(M_Hall_pairs:MCallee P w K mg base CX0 c.C "pairs" 2 ["self"] (spHPairs c.C))(M_Hall_inside:MCallee P w K mg base CX0 c.C "inside" 1 ["self","guest"] (spInside c.C))(M_Hall_wears:MCallee P w K mg base (CXD P w) c.C "wears" 3 ["self","guest"] (spWears c))(M_Hall_wearer:MCallee P w K mg base (CXD P w) c.C "wearer" 3 ["self","mask"] (spWearer c)) : FnOk P w K mg base CX0 4 f fd ["_law_hall","_law_worn","_law_met","_law_story"] (spStands c):=by
 refine F.ok sc_law_stands (fun vs H Q E h=>?_) (fun cdv A outer s H vs Q E hr h=>?_)
 ·obtain⟨p,w,m,ls,B,st,ml,L,rfl,_⟩:=h
  rfl
 ·obtain⟨p,w,m,ls,B,st,ml,L,rfl,S,wB,hw,hm,hs,G,al,ci,mo,hL,hml,hwl,sm,k⟩:=h
  have hu:=hu_of hr
  refine⟨_,pss_cons (ps_if (PW.pt (pw_or (pt_cmpR (op_neD 1 (hun hr (by decide))) (pmeth0 M_Hall_guests (pv 0) U.cl hr.m pass0) (pe_callB (call_sortedD rfl) (by rfl) T.sorted PyProof.Rows.boot_sorted (pa1 (pv 1))) (nomark _)) (pw_or1 (pt_cmpR (op_neD 1 (hun hr (by decide))) (pmeth0 M_Hall_story (pv 0) U.cl hr.m pass0) (pv 3) (nomark _))))) (pss_one (ps_ret (pe_bl))) (pss_nil)) (
   pss_cons (ps_if (PW.pt (pw_or (pt_cmpR op_ne (pmeth0 M_Hall_moment (pv 0) U.cl hr.m pass0) (pe_callB call_len_seq (by rfl) T.len PySem.boot_len (pa1 (pv 3))) (nomark _)) (pw_or1 (pt_cmpR (op_neD 1 (hun hr (by decide))) (pmeth0 M_Hall_pairs (pv 0) U.cl hr.m pass0) (pe_callB (call_sortedT rfl) (by rfl) T.sorted PyProof.Rows.boot_sorted (pa1 (pv 2))) (nomark _))))) (pss_one (ps_ret (pe_bl))) (pss_nil)) (
   pss_cons (ps_thaw (ps_for PassesOwn.never rfl (pi_dict (pv 1)) (pgn 4 sc_law_stands.nd) (pss_cons (ps_if (pt_cmpR op_isNotB (pmeth M_Hall_inside (pv 0) U.cl hr.m pass0 (pa1 (pv 4))) (pe_bl) (nomark _)) (pss_one (ps_ret (pe_bl))) (pss_nil)) (
   pss_one (ps_if (PW.pt (pw_or (pt_cmpR op_ne (pmeth M_Hall_wears (pv 0) U.cl hr.m passN (pa1 (pv 4))) (pe_dget hu (pv 1) (pv 4) (fun _ _=>rfl)) (nomark _)) (pw_or1 (pt_cmpR op_ne (pmeth M_Hall_wearer (pv 0) U.cl hr.m passN (pa1 (pe_dget hu (pv 1) (pv 4) (fun _ _=>rfl)))) (pv 4) (nomark _))))) (pss_one (ps_ret (pe_bl))) (pss_nil)))))) (
   pss_one (ps_ret (pe_bl))))),?_⟩
  have nos:∀ (B:HA)(m:Str),¬ m="worn"→¬ m="holders"→¬ m="circles"→¬ m="deeds"→(hflds B).lookup m=none:=fun B m h1 h2 h3 h4=>hf_no B h1 h2 h3 h4
  have nG:∀ B:HA,(hflds B).lookup ("guests" : Str)=none:=fun B=>nos B _ (by decide +kernel) (by decide +kernel) (by decide +kernel) (by decide +kernel)
  have nM:∀ B:HA,(hflds B).lookup ("moment" : Str)=none:=fun B=>nos B _ (by decide +kernel) (by decide +kernel) (by decide +kernel) (by decide +kernel)
  have nI:∀ B:HA,(hflds B).lookup ("inside" : Str)=none:=fun B=>nos B _ (by decide +kernel) (by decide +kernel) (by decide +kernel) (by decide +kernel)
  have nS:∀ B:HA,(hflds B).lookup ("story" : Str)=none:=fun B=>nos B _ (by decide +kernel) (by decide +kernel) (by decide +kernel) (by decide +kernel)
  have nW:∀ B:HA,(hflds B).lookup ("wears" : Str)=none:=fun B=>nos B _ (by decide +kernel) (by decide +kernel) (by decide +kernel) (by decide +kernel)
  have nR:∀ B:HA,(hflds B).lookup ("wearer" : Str)=none:=fun B=>nos B _ (by decide +kernel) (by decide +kernel) (by decide +kernel) (by decide +kernel)
  have nT:∀ B:HA,(hflds B).lookup ("met" : Str)=none:=fun B=>nos B _ (by decide +kernel) (by decide +kernel) (by decide +kernel) (by decide +kernel)
  have nP:∀ B:HA,(hflds B).lookup ("pairs" : Str)=none:=fun B=>nos B _ (by decide +kernel) (by decide +kernel) (by decide +kernel) (by decide +kernel)
  have nQ:∀ B:HA,(hflds B).lookup ("partners" : Str)=none:=fun B=>nos B _ (by decide +kernel) (by decide +kernel) (by decide +kernel) (by decide +kernel)
  have two:(2:Nat)≤sizeLine:=by decide
  have nil0:(0:Nat)≤sizeLine:=Nat.zero_le _
  have dkk:∀ wl:List (Int×Int),(dk wl).map (·.1)=(keysL wl).map Sum.inl:=fun wl=>by unfold dk keysL;rw[List.map_map,List.map_map];rfl
  have szl:(keysL st.worn).length<64:=by unfold keysL;rw[List.length_map];omega
  refine⟨_,rfl,p,B.dx,_,rfl,S.ob,nG B,p,B,_,rfl,S,hwl,fun l1 hl1=>?_⟩
  have s1:=same_new (o:=.lst ((sortI (keysL st.worn)).map V.int)) hl1
  have h1:upd H l1 (.lst ((sortI (keysL st.worn)).map V.int)) l1=some (.lst ((sortI (keysL st.worn)).map V.int)):=upd_same
  generalize upd H l1 (.lst ((sortI (keysL st.worn)).map V.int))=H1 at s1 h1 ⊢
  refine⟨_,rfl,w,_,keysL st.worn,rfl,s1 _ _ hw,dkk _,szl,fun l2 hl2=>?_⟩
  have s2:=same_new (o:=.lst ((sortI (keysL st.worn)).map V.int)) hl2
  refine⟨l1,l2,_,_,rfl,rfl,rd_nums (SqL.of (s2 _ _ h1)),rd_nums (SqL.of upd_same),fun b hb=>⟨_,rfl,?_⟩⟩
  rw[show (if true=true then !b else b)=false by rw[hb.mpr rfl];rfl]
  have S02:=s1.trans s2
  generalize upd H1 l2 (.lst ((sortI (keysL st.worn)).map V.int))=H2 at S02 ⊢
  have hS2:=S.mono S02
  refine iteF ⟨_,rfl,p,B.dx,_,rfl,hS2.ob,nS B,p,B,_,rfl,hS2,fun l3 H3 hl3 s3 d3=>⟨_,rfl,l3,ls,_,_,rfl,rfl,rd_deeds d3,rd_deeds (deeds_mono hs (S02.trans s3)),fun b hb=>⟨_,rfl,?_⟩⟩⟩
  rw[show (if true=true then !b else b)=false by rw[hb.mpr rfl];rfl]
  have S03:=S02.trans s3
  have hS3:=S.mono S03
  obtain⟨as,hls3,hp3⟩:=deeds_mono hs S03
  refine iteF ⟨_,rfl,p,B.dx,_,rfl,hS3.ob,nM B,p,B,_,rfl,hS3,_,rfl,ls,_,rfl,.inl (SqL.of hls3),rfl,_,rfl,?_⟩
  rw[List.length_map,Paired.length hp3,decide_eq_true rfl]
  have pl:(pairsL st.circ).length≤1000:=by
   have nd1:(pairsL st.circ).Nodup:=(pairs_sorted ci).imp fun {a b} z e=>by rw[e,Qs.ltP_irr]at z;cases z
   have:=((List.perm_ext_iff_of_nodup nd1 mo.nd).mpr fun x=>pairs_mem ci al mo x).length_eq
   omega
  refine iteF ⟨_,rfl,p,B.dx,_,rfl,hS3.ob,nP B,p,B,st,L,rfl,hS3,ci,hL,pl,fun l4 H4 hl4 s4 r4=>⟨_,rfl,m,ml,rfl,(S03.trans s4) _ _ hm,mo.nd,hml,fun l5 qs H5 hl5 s5 r5 pm so=>⟨l4,l5,_,_,rfl,rfl,rd_row (r4.mono s5),rd_row r5,fun b hb=>⟨_,rfl,?_⟩⟩⟩⟩
  rw[show (if true=true then !b else b)=false by rw[hb.mpr (by rw[pairs_eq ci al mo pm so])];rfl]
  have S05:=(S03.trans s4).trans s5
  refine iteF ⟨_,rfl,w,_,rfl,S05 _ _ hw,fun o=>?_⟩
  have kp:∀ x u,H5 x=some u→x≠w→(upd H5 w (.frz o (.dK (dk st.worn)))) x=some u:=fun x u e n=>by rw[upd_ne n];exact e
  have hw6:(upd H5 w (.frz o (.dK (dk st.worn)))) w=some (.frz o (.dK (dk st.worn))):=upd_same
  have S6:HallAt c.C (upd H5 w (.frz o (.dK (dk st.worn)))) p B st:=(S.mono S05).kept (fp:=[w]) (fun b u e n=>kp b u e (fun z=>n (by rw[z];exact List.mem_cons_self))) (fun z=>by have ob:=(S.mono S05).ob;rw[List.mem_singleton.mp z,S05 _ _ hw]at ob;cases ob) (fun b hb z=>wB (by rw[←List.mem_singleton.mp z];exact hb)) (fun b xs e z=>by rw[List.mem_singleton.mp z,S05 _ _ hw]at e;cases e)
  generalize upd H5 w (.frz o (.dK (dk st.worn)))=H6 at kp hw6 S6 ⊢
  refine for_dict (d:=w) (o:=o) (kvs:=dk st.worn) (fun i σ HH=>HH=H6∧∃ v:Option V,σ=[some (.ref p),some (.ref w),some (.ref m),some (.ref ls),v])
   ⟨rfl,none,rfl⟩ (fun i σ HH _ ⟨e,_⟩=>by rw[e];exact hw6) ?_ ?_
  ·rintro i y σ HH hi ⟨rfl,v,rfl⟩
   obtain⟨q,hq,rfl⟩:=map_get hi
   have hmem:=List.mem_of_getElem? hq
   have lk:look st.worn q.1=some q.2:=look_of_mem G.wn hmem
   have lh:=(G.wh q.1 q.2).mp lk
   have sg:Small q.1:=sm _ (List.mem_map_of_mem (f:=(·.1)) hmem)
   have sq:Small q.2:=sm _ (G.ow _ _ lk)
   have dg:DGet HH w (.int q.1) (some (.int q.2)):=.inl ⟨dk st.worn,Sum.inl q.1,.inr ⟨o,hw6⟩,rfl,by rw[valV_dk,lk];rfl⟩
   refine⟨_,rfl,p,B.dx,_,rfl,S6.ob,nI B,_,rfl,p,B,st,q.1,rfl,S6,_,_,rfl,rfl,_,rfl,?_⟩
   rw[lk]
   refine iteF ⟨_,rfl,p,B.dx,_,rfl,S6.ob,nW B,_,rfl,p,B,st,q.1,rfl,S6,sg,?_⟩
   rw[lk]
   refine⟨_,rfl,_,rfl,w,_,rfl,dg,rfl,_,rfl,?_⟩
   rw[decide_eq_true rfl]
   refine iteF ⟨_,rfl,p,B.dx,_,rfl,S6.ob,nR B,_,rfl,_,rfl,w,_,rfl,dg,p,B,st,q.2,rfl,S6,sq,?_⟩
   rw[lh]
   refine⟨_,rfl,rfl,_,rfl,?_⟩
   rw[show (!decide (V.int q.1=kV (Sum.inl q.1,V.int q.2).1))=false by show (!decide (V.int q.1=V.int q.1))=false;simp]
   exact iteF ⟨rfl,_,rfl⟩
  ·rintro σ HH ⟨rfl,v,rfl⟩
   refine⟨w,o,_,hw6,fun o' u' z=>?_,k _ fun x u e=>?_⟩
   ·have z:H w=some (.frz o' u'):=z
    rw[hw]at z;cases z
   ·by_cases hx:x=w
    ·rw[hx,upd_same]
     rw[hx,hw]at e
     exact e
    ·rw[upd_ne hx]
     exact kp x u (S05 _ _ e) hx
theorem ok_law_closed_due (F:Fun K "_law_closed_due" "_law_closed_due" st_law_closed_due f fd) : FnOk P w K mg base CX0 2 f fd ["_law_worn","_law_group"] spCloDue:=by
 refine F.ok sc_law_closed_due (fun vs H Q E h=>?_) (fun cdv A outer s H vs Q E hr h=>?_)
 ·obtain⟨d,l,W,gs,rfl,_⟩:=h
  rfl
 ·obtain⟨d,l,W,gs,rfl,hd,h64,PW,hl,gl,k⟩:=h
  have hu:=hu_of hr
  have two:(2:Nat)≤sizeLine:=by decide
  refine⟨_,pss_cons (ps_for PassesOwn.never rfl (pi_list (pv 1)) (pgn 2 sc_law_closed_due.nd) (pss_one (ps_if (pt_cmp (pc_dnotin hu (pv 2) (pv 0))) (pss_one (ps_ret (pe_tup (pa2 (pe_str) (pv 2))))) (pss_nil)))) (
   pss_cons (ps_st 3 sc_law_closed_due.nd pe_dnewK) (
   pss_cons (ps_for PassesOwn.never rfl (pi_list (pv 1)) (pgn 2 sc_law_closed_due.nd) (pss_cons (ps_st 4 sc_law_closed_due.nd (pv 2)) (
   pss_one (ps_while PassesOwn.never (pt_cmp (pc_dnotin hu (pv 4) (pv 3))) (pss_cons (ps_dput hu (pv 3) (pv 4) (pe_bl) rfl) (
   pss_one (ps_st 4 sc_law_closed_due.nd (pe_dget hu (pv 0) (pv 4) (fun _ _=>rfl))))))))) (
   pss_one (ps_ret (pe_callB (call_sortedD rfl) (by rfl) T.sorted PyProof.Rows.boot_sorted (pa1 (pv 3))))))),?_⟩
  have gD:∀ {HX:Hp}(g:Int),HX d=some (.dK (dk W))→DGet HX d (.int g) ((look W g).map V.int):=fun {HX} g h=>by have:=DGet.k (k:=Sum.inl g) h;rw[valV_dk]at this;exact this
  refine⟨_,rfl,l,rfl,⟨_,SqL.of hl⟩,?_⟩
  refine for_list (K:=K) (a:=l) (xs:=gs.map V.int) (fun i σ HH=>HH=H∧(∃ v2,σ=[some (.ref d),some (.ref l),v2,none,none])∧∀ x∈gs.take i,notIn W x=false)
   ⟨rfl,⟨none,rfl⟩,fun x hx=>(by simp at hx)⟩ (fun i σ HH _ ⟨e,_⟩=>by rw[e];exact SqL.of hl) ?_ ?_
  ·rintro i y σ HH hi ⟨rfl,⟨v2,rfl⟩,bef⟩
   obtain⟨g,hg,rfl⟩:=map_get hi
   refine⟨_,rfl,_,rfl,d,_,rfl,gD g hd,_,rfl,?_⟩
   rw[Option.isSome_map]
   cases e:(look W g).isSome with
   | false =>
    have z:gs.find? (notIn W)=some g:=findAt hg bef (by unfold notIn;rw[e];rfl)
    rw[z]at k
    exact iteT ⟨_,rfl,two,fun t ht=>k t _ ht (same_new ht) upd_same⟩
   | true =>
    refine iteF ⟨rfl,⟨_,rfl⟩,fun x hx=>?_⟩
    rw[List.take_add_one,hg,Option.toList_some]at hx
    rcases List.mem_append.mp hx with q | q
    ·exact bef x q
    ·rw[List.mem_singleton.mp q];unfold notIn;rw[e];rfl
  rintro σ HH ⟨rfl,⟨v2,rfl⟩,bef⟩
  rw[List.length_map,List.take_length]at bef
  rw[find_no bef]at k
  have inW:∀ g∈gs,g∈keysL W:=fun g hg=>by
   have:=bef g hg
   unfold notIn at this
   cases e:(look W g).isSome with
   | true=>exact look_mem.mp e
   | false=>rw[e]at this;cases this
  intro fd hfd
  have nld:l≠fd:=fun z=>by rw[z,hfd]at hl;cases hl
  have ndd:d≠fd:=fun z=>by rw[z,hfd]at hd;cases hd
  have wl:∀ {L:List Int},L.Nodup→(∀ x∈L,x∈keysL W)→L.length≤W.length:=fun {L} n h=>by rw[←len_keys];exact nodup_len n h
  have s1:=same_new (o:=.dK (trK [])) hfd
  refine⟨_,rfl,l,rfl,⟨_,SqL.of (s1 _ _ hl)⟩,?_⟩
  refine for_list (K:=K) (a:=l) (xs:=gs.map V.int) (fun i σ HX=>∃ (v2 v4:Option V)(L:List Int),σ=[some (.ref d),some (.ref l),v2,some (.ref fd),v4]∧Same HH HX∧HX fd=some (.dK (trK L))∧L.Nodup∧CloI W (gs.take i) L)
   ⟨_,none,[],rfl,s1,upd_same,List.nodup_nil,CloI.nil _⟩ (fun i σ HX _ ⟨_,_,_,_,s,_⟩=>SqL.of (s _ _ hl)) ?_ ?_
  ·rintro i y σ HX hi ⟨v2',v4,L,rfl,sH,hL,nd,C⟩
   obtain⟨g,hg,rfl⟩:=map_get hi
   have gk:=inW g (List.mem_of_getElem? hg)
   have et:gs.take (i+1)=gs.take i++[g]:=by rw[List.take_add_one,hg,Option.toList_some]
   refine⟨_,rfl,?_⟩
   refine⟨fun m σ HY=>∃ (L':List Int)(here:Int),m=W.length+1-L'.length∧σ=[some (.ref d),some (.ref l),some (.int g),some (.ref fd),some (.int here)]∧Same HH HY∧HY fd=some (.dK (trK L'))∧here∈keysL W∧ChnI W (gs.take i) L L' g here,⟨_,L,g,rfl,rfl,sH,hL,gk,chn0 C nd⟩,?_⟩
   rintro m σ HY ⟨L',here,rfl,rfl,sY,hY,hk,CI⟩
   have ll:=wl CI.nd CI.sub
   refine⟨_,rfl,_,rfl,fd,_,rfl,DGet.k (k:=Sum.inl here) hY,_,rfl,?_⟩
   rw[trK_some]
   by_cases hh:here∈L'
   ·rw[decide_eq_true hh]
    exact iteF ⟨_,_,L',rfl,sY,hY,CI.nd,by rw[et];exact CI.fin C hh⟩
   ·rw[decide_eq_false hh]
    have CS:=CI.step PW hk hh
    have ll2:=wl CS.nd CS.sub
    rw[List.length_append,List.length_singleton]at ll2
    refine iteT ⟨fun σ' H'=>∃ here',σ'=[some (.ref d),some (.ref l),some (.int g),some (.ref fd),some (.int here')]∧Same HH H'∧H' fd=some (.dK (trK (L'++[here])))∧here'∈keysL W∧ChnI W (gs.take i) L (L'++[here]) g here',fun σ' H' ⟨here',h1,h2,h3,h4,h5⟩=>⟨_,by rw[List.length_append,List.length_singleton];omega,_,here',rfl,h1,h2,h3,h4,h5⟩,?_⟩
    have lk:(trK L').length<sizeLine:=by unfold trK;rw[List.length_map];exact small1000 (by omega)
    refine⟨_,rfl,_,rfl,fd,_,rfl,DPut.k (k:=Sum.inl here) hY lk,?_⟩
    rw[trK_put hh]
    have sP:=same_upd (o:=.dK (trK (L'++[here]))) sY hfd
    have gd:=gD here (sP _ _ hd)
    rw[look_wr hk]at gd
    exact⟨_,rfl,_,rfl,d,_,rfl,gd,_,rfl,sP,upd_same,PW.cl here hk,CS⟩
  ·rintro σ HX ⟨v2',v4,L,rfl,sH,hL,nd,C⟩
   rw[List.length_map,List.take_length]at C
   have ll:=wl nd C.sub
   exact⟨_,rfl,fd,_,L,rfl,hL,trK_keys L,by omega,fun q hq=>k L q _ (sH.free hq) (sH.trans (same_new hq)) upd_same nd C⟩
theorem ok_law (F:Fun K "law" "law" st_law f fd)(C_law_evening:Callee P w K mg base "_law_evening" 6 ["_law_script"] (spEvening2 K))(C_law_hall_of:Callee P w K mg base "_law_hall_of" 7 ["_law_story"] (spHallOf c))(C_law_cell_at:Callee P w K mg base "_law_cell_at" 1 ["_law_script","_law_k"] (spCell K))(C_law_size:Callee P w K mg base "_law_size" 1 ["_law_cell"] spSize)(C_law_guest:Callee P w K mg base "_law_guest" 2 ["_law_k","_law_cell"] spGuest)(C_law_draws:Callee P w K mg base "_law_draws" 2 ["_law_cell","_law_many","_law_base"] spDraws)(Cclosed_around:XCallee P w K mg base "closed_around" 6 ["hall","group"] (spClosed c))(C_law_closed_due:Callee P w K mg base "_law_closed_due" 2 ["_law_worn","_law_group"] spCloDue)(C_law_stands:Callee P w K mg base "_law_stands" 4 ["_law_hall","_law_worn","_law_met","_law_story"] (spStands c)) : FnOk P w K mg base CX0 9 f fd ["_law_script"] (spLaw K):=by
 refine F.ok sc_law (fun vs H Q E h=>?_) (fun cdv A outer s H vs Q E hr h=>?_)
 ·obtain⟨a,ns,rfl,_⟩:=h
  rfl
 ·obtain⟨a,ns,rfl,hS,hlen,k⟩:=h
  have hu:=hu_of hr
  refine⟨_,pss_cons (ps_asg (pcall C_law_evening hr.m rfl (pa1 (pv 0))) (pg_tup rfl (pgs_cons (pgn 1 sc_law.nd) (pgs_cons (pgn 2 sc_law.nd) (pgs_cons (pgn 3 sc_law.nd) pgs_nil))))) (
   pss_cons (ps_st 4 sc_law.nd (pcall C_law_hall_of hr.m rfl (pa1 (pv 3)))) (
   pss_cons (ps_st 5 sc_law.nd (pcall C_law_cell_at hr.m rfl (pa2 (pv 0) (pe_int)))) (
   pss_cons (ps_st 6 sc_law.nd (pcall C_law_size hr.m rfl (pa1 (pcall C_law_cell_at hr.m rfl (pa2 (pv 0) (pe_int)))))) (
   pss_cons (ps_comp (ix:=7) (so:=defScope st_law) (N:=n_law) (N':=["_law_drawn","_law_cell"]) (src:=[none,some 5]) rfl rfl csc rfl (pi_list (pcall C_law_draws hr.m rfl (pa3 (pe_op op_fdiv (pv 6) (pe_int)) (pe_int) (pe_int)))) (fun cl C s2 H2 ex=>⟨pgn 0 (show (["_law_drawn","_law_cell"]:List Str).Nodup by decide +kernel),pts_nil,pcall C_law_guest hr.m rfl (pa2 (pv 0) (pv 1))⟩) sc_law.nd rfl rfl) (
   pss_cons (ps_if (pt_cmpR op_gt (pe_op op_mod (pv 6) (pe_int)) (pe_int) (nomark _)) (pss_one (ps_comp (ix:=7) (so:=defScope st_law) (N:=n_law) (N':=["_law_guest_here","_law_worn"]) (src:=[none,some 1]) rfl rfl csc rfl (pi_list (pv 7)) (fun cl C s2 H2 ex=>⟨pgn 0 (show (["_law_guest_here","_law_worn"]:List Str).Nodup by decide +kernel),pts_one (pt_cmp (pc_din hu (pv 0) (pv 1))),pv 0⟩) sc_law.nd rfl rfl)) (pss_nil)) (
   pss_cons (ps_st 8 sc_law.nd (pe_callTy call_list_of (by rfl) T.list PyProof.Rows.boot_list (pa1 (pv 7)))) (
   pss_cons (ps_st 9 sc_law.nd (pe_non)) (
   pss_cons (ptry (i:=9) Cclosed_around hr.m rfl (pa2 (pv 4) (pv 8)) rfl rfl sc_law.nd rfl (Or.inl rfl) (ph_as (i:=10) rfl U.mN sc_law.nd rfl rfl (fun ea oe CC od us hc ho hd=>pss_one (ps_st 9 sc_law.nd (pe_tup (pa2 (pe_str) (pe_exfK K (ea:=ea) (oe:=oe) List.mem_cons_self hc ho hd (pv 10) rfl))))) ph_nil)) (
   pss_cons (ps_if (PW.pt (pw_or (pt_cmpR (op_neD 1 (hun hr (by decide))) (pv 9) (pcall C_law_closed_due hr.m rfl (pa2 (pv 1) (pv 7))) (nomark _)) (pw_or1 (pt_cmpR (op_neD 1 (hun hr (by decide))) (pv 8) (pv 7) (nomark _))))) (pss_one (ps_ret (pe_bl))) (pss_nil)) (
   pss_cons (ps_if (pt_val (pe_callB call_isi (by rfl) T.isinstance PyProof.Rows.boot_isinstance (pa_cons (pv 9) (pa_cons (pe_bltn (v:=.ty "list") (by rfl) T.list PyProof.Rows.boot_list rfl) pa_nil)))) (pss_cons (ps_expr (pe_bm PySem.F.plainAttrs_list PySem.F.slot_list_append PySem.F.type_list_append mt_append (pv 9) (pa1 (pe_int)))) (
   pss_one (ps_if (PW.pt (pw_or (pt_cmpR (op_neD 1 (hun hr (by decide))) (pxcall Cclosed_around hr.m rfl passN (pa2 (pv 4) (pv 8))) (pcall C_law_closed_due hr.m rfl (pa2 (pv 1) (pv 7))) (nomark _)) (pw_or1 (pt_cmpR op_ne (pe_ix ix_list (pv 9) (pe_un un_neg (pe_int)) (fun _ _=>rfl)) (pe_int) (nomark _))))) (pss_one (ps_ret (pe_bl))) (pss_nil)))) (pss_nil)) (
   pss_one (ps_ret (pcall C_law_stands hr.m rfl (pa_cons (pv 4) (pa_cons (pv 1) (pa_cons (pv 2) (pa_cons (pv 3) pa_nil))))))))))))))))),?_⟩
  have nos:∀ (B:HA)(m:Str),¬ m="worn"→¬ m="holders"→¬ m="circles"→¬ m="deeds"→(hflds B).lookup m=none:=fun B m h1 h2 h3 h4=>hf_no B h1 h2 h3 h4
  have nG:∀ B:HA,(hflds B).lookup ("guests" : Str)=none:=fun B=>nos B _ (by decide +kernel) (by decide +kernel) (by decide +kernel) (by decide +kernel)
  have nM:∀ B:HA,(hflds B).lookup ("moment" : Str)=none:=fun B=>nos B _ (by decide +kernel) (by decide +kernel) (by decide +kernel) (by decide +kernel)
  have nI:∀ B:HA,(hflds B).lookup ("inside" : Str)=none:=fun B=>nos B _ (by decide +kernel) (by decide +kernel) (by decide +kernel) (by decide +kernel)
  have nS:∀ B:HA,(hflds B).lookup ("story" : Str)=none:=fun B=>nos B _ (by decide +kernel) (by decide +kernel) (by decide +kernel) (by decide +kernel)
  have nW:∀ B:HA,(hflds B).lookup ("wears" : Str)=none:=fun B=>nos B _ (by decide +kernel) (by decide +kernel) (by decide +kernel) (by decide +kernel)
  have nR:∀ B:HA,(hflds B).lookup ("wearer" : Str)=none:=fun B=>nos B _ (by decide +kernel) (by decide +kernel) (by decide +kernel) (by decide +kernel)
  have nT:∀ B:HA,(hflds B).lookup ("met" : Str)=none:=fun B=>nos B _ (by decide +kernel) (by decide +kernel) (by decide +kernel) (by decide +kernel)
  have nP:∀ B:HA,(hflds B).lookup ("pairs" : Str)=none:=fun B=>nos B _ (by decide +kernel) (by decide +kernel) (by decide +kernel) (by decide +kernel)
  have nQ:∀ B:HA,(hflds B).lookup ("partners" : Str)=none:=fun B=>nos B _ (by decide +kernel) (by decide +kernel) (by decide +kernel) (by decide +kernel)
  have two:(2:Nat)≤sizeLine:=by decide
  have nil0:(0:Nat)≤sizeLine:=Nat.zero_le _
  have dkk:∀ wl:List (Int×Int),(dk wl).map (·.1)=(keysL wl).map Sum.inl:=fun wl=>by unfold dk keysL;rw[List.map_map,List.map_map];rfl
  refine⟨_,rfl,a,ns,rfl,hS,fun t w m ls H1 es s1 ht M dn nm el ex=>?_⟩
  refine⟨t,_,rfl,SqT.of ht,rfl,_,_,rfl,_,_,rfl,_,_,rfl,rfl,?_⟩
  generalize hcn:cellAt ns 1=cn at nm
  have L40:(namesL 40 cn).length=40:=len_names 40 cn
  have nmS:∀ d∈es,∀ g∈names d,g∈namesL 40 cn∧Small g:=fun d hd g hg=>⟨nm d hd g hg,names_small (nm d hd g hg)⟩
  have P:=pre_of dn nmS es.length
  rw[List.take_length]at P
  have pm:=P.ml
  have lno:=of_len P.good P.of
  have hls:DeedsAt H1 ls es:=by have:=M.hs;rw[stOf_deeds]at this;exact this
  refine⟨_,rfl,ls,es,namesL 40 cn,rfl,hls,dn,el,by omega,nmS,fun x B H2 hx E2=>?_⟩
  have nB:∀ b o,H1 b=some o→b∉B.fp:=fun b o e z=>by rw[E2.nfp b z]at e;cases e
  have wB:=nB _ _ M.hw
  have hw2:=E2.same _ _ M.hw
  have hm2:=E2.same _ _ M.hm
  have hs2:=deeds_mono hls E2.same
  have hS2:=(s1.trans E2.same).seq hS
  have hall:=E2.hall
  have G:=P.good
  have PW:=prm_good G
  have smk:∀ g∈keysL (stOf es).worn,Small g:=fun g hg=>names_small (P.of.1 g hg)
  obtain⟨rs1,rs2⟩:=rings_small PW
  have al:=P.al
  have ci:=P.ci
  obtain⟨st,est⟩:∃ st,st=stOf es:=⟨_,rfl⟩
  rw[←est]at hw2 hall G PW smk rs1 rs2 lno al ci
  have h64:st.worn.length<64:=by omega
  have wl64:(wrongL st.worn).length≤64:=by have:=wrong_len st.worn;omega
  have mo:=P.mo
  generalize eml:mlOf es=ml at *
  have ml48:ml.length≤48:=by omega
  have two:(2:Nat)≤sizeLine:=by decide
  have std:∀ {HX:Hp},Same H2 HX→HallAt c.C HX x B st∧HX w=some (.dK (dk st.worn))∧HX m=some (.dT (mtK ml))∧DeedsAt HX ls st.deeds:=fun b=>⟨hall.mono b,b _ _ hw2,b _ _ hm2,by rw[est,stOf_deeds];exact deeds_mono hs2 b⟩
  refine⟨_,rfl,a,ns,1,rfl,hS2,by decide,?_⟩
  refine⟨_,rfl,a,ns,2,rfl,hS2,by decide,_,rfl,?_⟩
  obtain⟨bd,ebd⟩:∃ bd,bd=absI (cellAt ns 2):=⟨_,rfl⟩
  rw[←ebd]
  refine⟨_,rfl,bd,3,rfl,rfl,⟨by decide,by decide⟩,_,12,12,rfl,⟨by decide,by decide⟩,⟨by decide,by decide⟩,fun ld ds hld dps dln=>?_⟩
  have s3:=same_new (o:=.lst (ds.map V.int)) hld
  have hld3:upd H2 ld (.lst (ds.map V.int)) ld=some (.lst (ds.map V.int)):=upd_same
  generalize upd H2 ld (.lst (ds.map V.int))=H3 at s3 hld3 ⊢
  refine⟨ld,rfl,⟨_,SqL.of hld3⟩,fun lg hlg=>?_⟩
  refine mapI_loop (K:=K) (f:=fun r=>V.int (gst r (cellAt ns 1))) hlg hld3 (by omega) (fun r HK Q' hr0 sK kk=>?_) (fun H4 s4 h4=>?_)
  ·have:=dps r hr0
   exact⟨_,rfl,_,rfl,r,_,rfl,⟨by omega,by omega⟩,kk HK (Same.refl _)⟩
  obtain⟨gs,egs⟩:∃ gs:List Int,gs=ds.map fun r=>gst r (cellAt ns 1):=⟨_,rfl⟩
  have h4':H4 lg=some (.lst (gs.map V.int)):=by rw[h4,egs,List.map_map];rfl
  have gl:gs.length≤12:=by rw[egs,List.length_map];omega
  have gsm:∀ g∈gs,Small g:=fun g hg=>by
   rw[egs]at hg
   obtain⟨r,_,rfl⟩:=List.mem_map.mp hg
   exact gst_small _ _
  have s24:=s3.trans s4
  clear h4 egs
  refine⟨_,rfl,bd,3,rfl,rfl,by show (0:Int)<3;decide,_,_,rfl,rfl,_,rfl,?_⟩
  apply shareQ (fun q HH=>∃ gs':List Int,Same H2 HH∧HH q=some (.lst (gs'.map V.int))∧gs'.length≤12∧∀ g∈gs',Small g)
  ·intro rest
   by_cases pos:bd%3>0
   ·rw[decide_eq_true pos]
    refine iteT ⟨_,rfl,lg,rfl,⟨_,SqL.of h4'⟩,fun lf hlf=>?_⟩
    refine filtI_loop (K:=K) (f:=fun x=>(look st.worn x).isSome) hlf h4' (by omega) (fun r HK Q' hr0 sK kk=>?_) (fun H5 s5 h5=>?_)
    ·have gD:DGet HK w (.int r) ((look st.worn r).map V.int):=by have:=DGet.k (k:=Sum.inl r) ((s24.trans sK) _ _ hw2);rw[valV_dk]at this;exact this
     refine⟨_,rfl,_,rfl,w,_,rfl,gD,_,rfl,?_⟩
     rw[Option.isSome_map]
     exact kk HK (Same.refl _)
    exact rest lf H5 ⟨_,s24.trans s5,h5,Nat.le_trans (List.length_filter_le _ _) gl,fun g hg=>gsm g (List.mem_filter.mp hg).1⟩
   ·rw[decide_eq_false pos]
    exact iteF (rest lg H4 ⟨gs,s24,h4',gl,gsm⟩)
  clear h4' gl gsm s24 s4 s3 hld3
  rintro lg' H5 ⟨gs',s5,hg5,gl5,gsm5⟩
  refine⟨_,rfl,lg',_,rfl,.inl (SqL.of hg5),fun lh hlh=>?_⟩
  have s6:=same_new (o:=.lst (gs'.map V.int)) hlh
  have hh6:upd H5 lh (.lst (gs'.map V.int)) lh=some (.lst (gs'.map V.int)):=upd_same
  generalize upd H5 lh (.lst (gs'.map V.int))=H6 at s6 hh6 ⊢
  have hg6:=s6 _ _ hg5
  have s26:=s5.trans s6
  clear s6 hg5 s5 hlh
  refine⟨_,rfl,_,rfl,x,lh,B,st,gs',rfl,hall.mono s26,G,h64,smk,hh6,by omega,gsm5,?_⟩
  have flN:∀ z0:Int,∀ z∈[V.str "NoGuest",V.int z0],flat3 z=true:=fun z0 z hz=>by
   rcases List.mem_cons.mp hz with e | e
   ·rw[e];rfl
   ·rw[List.mem_singleton.mp e];rfl
  have tf:∀ {b:Bool},(b=true↔True)→(if true=true then !b else b)=false:=fun {b} hb=>by rw[hb.mpr trivial];rfl
  cases hf:gs'.find? (notIn st.worn) with
  | some y =>
   intro dx H7 s7 hx7
   refine⟨_,VM.nn,iteT ⟨_,rfl,fun ea=>?_⟩⟩
   refine⟨_,rfl,rfl,U.gN,dx,_,_,rfl,hx7,rfl,two,fun t1 ht1=>?_⟩
   have s8:=s7.trans (same_new (o:=.tup [V.str "NoGuest",V.int y]) ht1)
   have h81:upd H7 t1 (.tup [V.str "NoGuest",V.int y]) t1=some (.tup [V.str "NoGuest",V.int y]):=upd_same
   generalize upd H7 t1 (.tup [V.str "NoGuest",V.int y])=H8 at s8 h81 ⊢
   have s28:=s26.trans s8
   refine⟨_,rfl,_,rfl,_,rfl,w,lg',st.worn,gs',rfl,s28 _ _ hw2,h64,PW,s8 _ _ hg6,by omega,?_⟩
   rw[hf]
   intro t2 H9 ht2 s9 h9
   refine⟨t1,t2,_,_,rfl,rfl,rd_flatT (s9 _ _ h81) (flN _),rd_flatT h9 (flN _),fun b hb=>⟨_,rfl,?_⟩⟩
   rw[tf (by simpa using hb)]
   refine iteF ⟨_,rfl,_,rfl,lh,lg',_,_,rfl,rfl,rd_nums (SqL.of (s9 _ _ (s8 _ _ hh6))),rd_nums (SqL.of (s9 _ _ (s8 _ _ hg6))),fun b2 hb2=>⟨_,rfl,?_⟩⟩
   rw[tf (by simpa using hb2)]
   obtain⟨q1,q2,q3,q4⟩:=std (s28.trans s9)
   exact iteF ⟨_,rfl,_,_,_,false,rfl,TyOf.tup (s9 _ _ h81),rfl,_,rfl,iteF ⟨_,rfl,_,rfl,_,rfl,_,rfl,x,w,m,ls,B,st,ml,namesL 40 cn,rfl,q1,wB,q2,q3,q4,G,al,ci,mo,by omega,by omega,h64,smk,fun H10 s10=>k _⟩⟩
  | none =>
   intro L lf H7 hlf s7 h7 nd7 C7
   have s27:=s26.trans s7
   have lfl:(sortI L).length≤64:=by rw[len_sortI];exact Nat.le_trans (nodup_len nd7 C7.sub) (by rw[len_keys];omega)
   refine⟨_,rfl,_,rfl,_,rfl,w,lg',st.worn,gs',rfl,s27 _ _ hw2,h64,PW,s7 _ _ hg6,by omega,?_⟩
   rw[hf]
   intro F8 q8 H8 hq8 s8 h8 nd8 C8
   have h78:=s8 _ _ h7
   refine⟨lf,q8,_,_,rfl,rfl,rd_nums (SqL.of h78),rd_nums (SqL.of h8),fun b hb=>⟨_,rfl,?_⟩⟩
   rw[tf (by rw[C7.sort C8 nd7 nd8]at hb;simpa using hb)]
   have s68:=s7.trans s8
   refine iteF ⟨_,rfl,_,rfl,lh,lg',_,_,rfl,rfl,rd_nums (SqL.of (s68 _ _ hh6)),rd_nums (SqL.of (s68 _ _ hg6)),fun b2 hb2=>⟨_,rfl,?_⟩⟩
   rw[tf (by simpa using hb2)]
   refine iteF ⟨_,rfl,_,_,_,true,rfl,TyOf.lst h78,rfl,_,rfl,iteT ?_⟩
   have lfn:H2 lf=none:=s26.free hlf
   have nh:lh≠lf:=fun z=>by rw[z,hlf]at hh6;cases hh6
   have ng:lg'≠lf:=fun z=>by rw[z,hlf]at hg6;cases hg6
   refine⟨_,rfl,.inl ⟨rfl,_,SqL.of h78⟩,lf,_,_,rfl,rfl,h78,by rw[List.length_map];exact small1000 (by omega),?_⟩
   have s29:=same_upd (o:=.lst ((sortI L).map V.int++[V.int 7])) (s26.trans s68) lfn
   have hh9:upd H8 lf (.lst ((sortI L).map V.int++[V.int 7])) lh=some (.lst (gs'.map V.int)):=by rw[upd_ne nh];exact s68 _ _ hh6
   have hg9:upd H8 lf (.lst ((sortI L).map V.int++[V.int 7])) lg'=some (.lst (gs'.map V.int)):=by rw[upd_ne ng];exact s68 _ _ hg6
   have hf9:upd H8 lf (.lst ((sortI L).map V.int++[V.int 7])) lf=some (.lst ((sortI L).map V.int++[V.int 7])):=upd_same
   generalize upd H8 lf (.lst ((sortI L).map V.int++[V.int 7]))=H9 at s29 hh9 hg9 hf9 ⊢
   refine⟨_,rfl,_,rfl,x,lh,B,st,gs',rfl,hall.mono s29,G,h64,smk,hh9,by omega,gsm5,?_⟩
   rw[hf]
   intro L10 q10 H10 hq10 s10 h10 nd10 C10
   refine⟨_,rfl,_,rfl,w,lg',st.worn,gs',rfl,(s29.trans s10) _ _ hw2,h64,PW,s10 _ _ hg9,by omega,?_⟩
   rw[hf]
   intro F11 q11 H11 hq11 s11 h11 nd11 C11
   refine⟨q10,q11,_,_,rfl,rfl,rd_nums (SqL.of (s11 _ _ h10)),rd_nums (SqL.of h11),fun b3 hb3=>⟨_,rfl,?_⟩⟩
   rw[tf (by rw[C10.sort C11 nd10 nd11]at hb3;simpa using hb3)]
   have hf11:=s11 _ _ (s10 _ _ hf9)
   refine iteF ⟨_,rfl,1,rfl,lf,_,_,_,rfl,rfl,SqL.of hf11,atI_last _ _,rfl,_,rfl,?_⟩
   rw[show (!decide (V.int 7=V.int 7))=false by rw[decide_eq_true rfl];rfl]
   obtain⟨q1,q2,q3,q4⟩:=std ((s29.trans s10).trans s11)
   exact iteF ⟨_,rfl,_,rfl,_,rfl,_,rfl,x,w,m,ls,B,st,ml,namesL 40 cn,rfl,q1,wB,q2,q3,q4,G,al,ci,mo,by omega,by omega,h64,smk,fun H10 s10=>k _⟩
end
theorem all_mk2 {l:PySem.W.OpenLaw}{w:World}{K:PySem.W.Frag}{h:Heap}{mg:Str→Option Value}{fa:Addr}{C cW cA cM cS cT cN fN:Addr}(X:K.In h)(G:h.Ns mainGlobals mg)(hfa:mg "law" = some (.ref fa))(aC:PySem.W.nsIn K mainGlobals "Hall" = some (some (.ref C)))(n_cW:PySem.W.nsIn K mainGlobals "WaltzError" = some (some (.ref cW)))(n_cA:PySem.W.nsIn K mainGlobals "AlreadyIn" = some (some (.ref cA)))(n_cM:PySem.W.nsIn K mainGlobals "Masked" = some (some (.ref cM)))(n_cS:PySem.W.nsIn K mainGlobals "Same" = some (some (.ref cS)))(n_cT:PySem.W.nsIn K mainGlobals "Met" = some (some (.ref cT)))(n_cN:PySem.W.nsIn K mainGlobals "NoGuest" = some (some (.ref cN)))(b_cN:PySem.W.findIn K (.ref cN) "__init__" = some (some (.ref fN)))(pg:PySem.W.plainGet K C Str.empty=true)(hd:PySem.W.hasDictIn K C=true)(po:PySem.W.plainOver K C=true)(sa:PySem.W.findIn K (.ref C) "__setattr__" = some (some (.builtin "object.__setattr__")))(na_worn:PySem.W.findIn K (.ref C) "worn" = some none)(na_holders:PySem.W.findIn K (.ref C) "holders" = some none)(na_circles:PySem.W.findIn K (.ref C) "circles" = some none)(na_deeds:PySem.W.findIn K (.ref C) "deeds" = some none)(e_cA:OwnExc K cA)(e_cM:OwnExc K cM)(e_cS:OwnExc K cS)(e_cT:OwnExc K cT)(e_cN:excInI K cN fN=true)(g1:PySem.W.findIn K (.ref cN) "__getattribute__" = some (some (.builtin "BaseException.__getattribute__")))(g2:PySem.W.findIn K (.ref cN) "__getattr__" = some none)(g3:PySem.W.findIn K (.ref cN) "__setattr__" = some (some (.builtin "object.__setattr__")))(g4:PySem.W.findIn K (.ref cN) "guest" = some none)(g5:PySem.W.hasDictIn K cN=true)(g6:PySem.W.mroIn K cN (.type "BaseException")=some true)(g7:PySem.W.mroIn K cN (.type "object")=some true)(g8:((PySem.W.clsIn K cN).any fun cd=>overV cd.mro)=true)(tN:PySem.W.typeIn K (.ref fN)=some (.type "function"))(wS:PySem.W.specialIn K (.ref cW) "__getattribute__" = some (some (.builtin "type.__getattribute__")))(wR:PySem.W.readsIn K cW (.type "type")=true)(wI:PySem.W.findCls K (.ref cW) (.type "type") "__init__" = some (.val (.builtin "ValueError.__init__")))(x_aa:PySem.W.exmOne K (.ref cA) (.ref cA)=some true)(x_ma:PySem.W.exmOne K (.ref cM) (.ref cA)=some false)(x_mm:PySem.W.exmOne K (.ref cM) (.ref cM)=some true)(x_sa:PySem.W.exmOne K (.ref cS) (.ref cA)=some false)(x_sm:PySem.W.exmOne K (.ref cS) (.ref cM)=some false)(x_ss:PySem.W.exmOne K (.ref cS) (.ref cS)=some true)(x_ta:PySem.W.exmOne K (.ref cT) (.ref cA)=some false)(x_tm:PySem.W.exmOne K (.ref cT) (.ref cM)=some false)(x_ts:PySem.W.exmOne K (.ref cT) (.ref cS)=some false)(x_tt:PySem.W.exmOne K (.ref cT) (.ref cT)=some true)(x_na:PySem.W.exmOne K (.ref cN) (.ref cA)=some false)(x_nm:PySem.W.exmOne K (.ref cN) (.ref cM)=some false)(x_ns:PySem.W.exmOne K (.ref cN) (.ref cS)=some false)(x_nt:PySem.W.exmOne K (.ref cN) (.ref cT)=some false)(x_nn:PySem.W.exmOne K (.ref cN) (.ref cN)=some true)(mk:PySem.W.makesIn K C=true)(kc:PySem.W.keepIn K (.ref C)=true)(F_law_cell_at:FnFact K "_law_cell_at" st_law_cell_at)(F_law_crowd:FnFact K "_law_crowd" st_law_crowd)(F_law_size:FnFact K "_law_size" st_law_size)(F_law_guest:FnFact K "_law_guest" st_law_guest)(F_law_deed:FnFact K "_law_deed" st_law_deed)(F_law_draws:FnFact K "_law_draws" st_law_draws)(F_law_draws_from:FnFact K "_law_draws_from" st_law_draws_from)(F_law_deeds:FnFact K "_law_deeds" st_law_deeds)(F_law_key:FnFact K "_law_key" st_law_key)(F_law_due:FnFact K "_law_due" st_law_due)(F_law_after:FnFact K "_law_after" st_law_after)(F_law_evening:FnFact K "_law_evening" st_law_evening)(F_Hall_init:MtFact K C "__init__" "Hall.__init__" st_Hall_init)(F_Hall_dress:MtFact K C "dress" "Hall.dress" st_Hall_dress)(F_Hall_come:MtFact K C "come" "Hall.come" st_Hall_come)(F_NoGuest_init:MtFact K cN "__init__" "NoGuest.__init__" st_NoGuest_init)(F_Hall_wears:MtFact K C "wears" "Hall.wears" st_Hall_wears)(F_Hall_go:MtFact K C "go" "Hall.go" st_Hall_go)(F_Hall_met:MtFact K C "met" "Hall.met" st_Hall_met)(F_Hall_acquaint:MtFact K C "acquaint" "Hall.acquaint" st_Hall_acquaint)(F_Hall_exchange:MtFact K C "exchange" "Hall.exchange" st_Hall_exchange)(F_law_do:FnFact K "_law_do" st_law_do)(F_law_hall_of:FnFact K "_law_hall_of" st_law_hall_of)(F_ring_with:FnFact K "ring_with" st_ring_with)(F_closed_around:FnFact K "closed_around" st_closed_around)(F_law_closed_due:FnFact K "_law_closed_due" st_law_closed_due)(F_Hall_guests:MtFact K C "guests" "Hall.guests" st_Hall_guests)(F_Hall_story:MtFact K C "story" "Hall.story" st_Hall_story)(F_Hall_moment:MtFact K C "moment" "Hall.moment" st_Hall_moment)(F_Hall_partners:MtFact K C "partners" "Hall.partners" st_Hall_partners)(F_Hall_pairs:MtFact K C "pairs" "Hall.pairs" st_Hall_pairs)(F_Hall_inside:MtFact K C "inside" "Hall.inside" st_Hall_inside)(F_Hall_wearer:MtFact K C "wearer" "Hall.wearer" st_Hall_wearer)(F_law_stands:FnFact K "_law_stands" st_law_stands)(F_law:FnFact K "law" st_law)(z_len:PySem.W.nsIn K mainGlobals "len" = some none)(z_range:PySem.W.nsIn K mainGlobals "range" = some none)(z_isinstance:PySem.W.nsIn K mainGlobals "isinstance" = some none)(z_tuple:PySem.W.nsIn K mainGlobals "tuple" = some none)(z_list:PySem.W.nsIn K mainGlobals "list" = some none)(z_int:PySem.W.nsIn K mainGlobals "int" = some none)(z_bool:PySem.W.nsIn K mainGlobals "bool" = some none)(z_all:PySem.W.nsIn K mainGlobals "all" = some none)(z_any:PySem.W.nsIn K mainGlobals "any" = some none)(z_sorted:PySem.W.nsIn K mainGlobals "sorted" = some none)(z_reversed:PySem.W.nsIn K mainGlobals "reversed" = some none)(z_set:PySem.W.nsIn K mainGlobals "set" = some none)(z_min:PySem.W.nsIn K mainGlobals "min" = some none)(z_max:PySem.W.nsIn K mainGlobals "max" = some none)(z_dict:PySem.W.nsIn K mainGlobals "dict" = some none)(z_zip:PySem.W.nsIn K mainGlobals "zip" = some none)(z_enumerate:PySem.W.nsIn K mainGlobals "enumerate" = some none)(z_sum:PySem.W.nsIn K mainGlobals "sum" = some none)(z_str:PySem.W.nsIn K mainGlobals "str" = some none) :
  ∃ fd:FuncData,(∀ (s:Shared)(v:Value),BindsTo s fd ⟨[v],[]⟩ [("_law_script",v)])∧∀ base:Heap,K.In base→base.Ns mainGlobals mg→FnOk l.prog w K mg base CX0 9 fa fd ["_law_script"] (spLaw K):=by
 obtain⟨c,rfl,rfl,rfl,rfl,rfl,rfl,rfl,rfl⟩:∃ c:HX,c.C=C∧c.cW=cW∧c.cA=cA∧c.cM=cM∧c.cS=cS∧c.cT=cT∧c.cN=cN∧c.fN=fN:=⟨⟨C,cW,cA,cM,cS,cT,cN,fN⟩,rfl,rfl,rfl,rfl,rfl,rfl,rfl,rfl⟩
 have T:Txt mg:=⟨PySem.W.mg_none_of X G z_len,PySem.W.mg_none_of X G z_range,PySem.W.mg_none_of X G z_isinstance,PySem.W.mg_none_of X G z_tuple,PySem.W.mg_none_of X G z_list,PySem.W.mg_none_of X G z_int,PySem.W.mg_none_of X G z_bool,PySem.W.mg_none_of X G z_all,PySem.W.mg_none_of X G z_any,PySem.W.mg_none_of X G z_sorted,PySem.W.mg_none_of X G z_reversed,PySem.W.mg_none_of X G z_set,PySem.W.mg_none_of X G z_min,PySem.W.mg_none_of X G z_max,PySem.W.mg_none_of X G z_dict,PySem.W.mg_none_of X G z_zip,PySem.W.mg_none_of X G z_enumerate,PySem.W.mg_none_of X G z_sum,PySem.W.mg_none_of X G z_str⟩
 have U:HT K mg c:=⟨⟨pg,hd,po,sa⟩,na_worn,na_holders,na_circles,na_deeds,PySem.W.mg_of X G aC,e_cA,e_cM,e_cS,e_cT,PySem.W.mg_of X G n_cA,PySem.W.mg_of X G n_cM,PySem.W.mg_of X G n_cS,PySem.W.mg_of X G n_cT,PySem.W.mg_of X G n_cN,PySem.W.mg_of X G n_cW,e_cN,⟨g1,g2,g3,g4,g5,g6,g7,g8⟩,tN,wS,wR,wI⟩
 have VM:HM K c:=⟨x_aa,x_ma,x_mm,x_sa,x_sm,x_ss,x_ta,x_tm,x_ts,x_tt,x_na,x_nm,x_ns,x_nt,x_nn⟩
 obtain⟨f_Hall_init,fd_Hall_init,a_Hall_init,i_Hall_init,G_Hall_init⟩:=F_Hall_init
 obtain⟨f_NoGuest_init,fd_NoGuest_init,a_NoGuest_init,i_NoGuest_init,G_NoGuest_init⟩:=F_NoGuest_init
 obtain⟨f_law,fd_law,a_law,G_law⟩:=F_law
 have e:=hfa.symm.trans (PySem.W.mg_of X G a_law)
 cases e
 have eN:=Option.some.inj (Option.some.inj (a_NoGuest_init.symm.trans b_cN))
 have eN2:f_NoGuest_init=c.fN:=by injection eN
 refine⟨fd_law,?_,fun base _ _=>?_⟩
 ·obtain⟨_,_,_,_,_,_,_,_,_,rfl,_,_⟩:=G_law.ex
  exact fun s v=>.of_eq rfl
 ·have C_law_cell_at:Callee l.prog w K mg base "_law_cell_at" 1 ["_law_script","_law_k"] (spCell K):=mkC X G F_law_cell_at fun _ _ h=>ok_law_cell_at T U VM h
  have C_law_crowd:Callee l.prog w K mg base "_law_crowd" 1 ["_law_cell"] spCrowd:=mkC X G F_law_crowd fun _ _ h=>ok_law_crowd T U VM h
  have C_law_size:Callee l.prog w K mg base "_law_size" 1 ["_law_cell"] spSize:=mkC X G F_law_size fun _ _ h=>ok_law_size T U VM h
  have C_law_guest:Callee l.prog w K mg base "_law_guest" 2 ["_law_k","_law_cell"] spGuest:=mkC X G F_law_guest fun _ _ h=>ok_law_guest T U VM h C_law_size
  have C_law_deed:Callee l.prog w K mg base "_law_deed" 3 ["_law_drawn","_law_many","_law_cell"] spDeed1:=mkC X G F_law_deed fun _ _ h=>ok_law_deed T U VM h C_law_guest
  have C_law_draws:Callee l.prog w K mg base "_law_draws" 2 ["_law_cell","_law_many","_law_base"] spDraws:=mkC X G F_law_draws fun _ _ h=>ok_law_draws T U VM h C_law_size
  have C_law_draws_from:Callee l.prog w K mg base "_law_draws_from" 3 ["_law_script","_law_start","_law_most","_law_base"] (spFrom K):=mkC X G F_law_draws_from fun _ _ h=>ok_law_draws_from T U VM h C_law_draws
  have C_law_deeds:Callee l.prog w K mg base "_law_deeds" 4 ["_law_script"] (spDeeds2 K):=mkC X G F_law_deeds fun _ _ h=>ok_law_deeds T U VM h C_law_cell_at C_law_crowd C_law_guest C_law_deed C_law_draws_from
  have C_law_key:Callee l.prog w K mg base "_law_key" 1 ["_law_one","_law_other"] spKey:=mkC X G F_law_key fun _ _ h=>ok_law_key T U VM h
  have C_law_due:Callee l.prog w K mg base "_law_due" 2 ["_law_worn","_law_met","_law_deed_here"] spDue:=mkC X G F_law_due fun _ _ h=>ok_law_due T U VM h C_law_key
  have C_law_after:Callee l.prog w K mg base "_law_after" 2 ["_law_worn","_law_met","_law_deed_here"] spAfter:=mkC X G F_law_after fun _ _ h=>ok_law_after T U VM h C_law_key
  have C_law_evening:Callee l.prog w K mg base "_law_evening" 6 ["_law_script"] (spEvening2 K):=mkC X G F_law_evening fun _ _ h=>ok_law_evening T U VM h C_law_deeds C_law_due C_law_after
  have MH:HMk l.prog w K mg base c:=⟨f_Hall_init,fd_Hall_init,⟨mk,a_Hall_init,i_Hall_init,kc⟩,ok_Hall_init T U VM G_Hall_init ,(G_Hall_init.binds (ps:=["self"]) fun _ _ _ _ _ _ us hl=>match us,hl with | [_],_=>rfl)⟩
  have M_Hall_dress:MCallee l.prog w K mg base CX0 c.C "dress" 1 ["self","guest","mask"] (spDress c.C):=mkM F_Hall_dress fun _ _ h=>ok_Hall_dress T U VM h
  have M_Hall_come:MCallee l.prog w K mg base (CXD l.prog w) c.C "come" 2 ["self","guest"] (spCome c):=mkM F_Hall_come fun _ _ h=>ok_Hall_come T U VM h M_Hall_dress
  have NG:NGCallee l.prog w K mg base c:=⟨fd_NoGuest_init,eN2▸ok_NoGuest_init T U VM G_NoGuest_init ,(G_NoGuest_init.binds (ps:=["self","guest"]) fun _ _ _ _ _ _ us hl=>match us,hl with | [_,_],_=>rfl)⟩
  have M_Hall_wears:MCallee l.prog w K mg base (CXD l.prog w) c.C "wears" 3 ["self","guest"] (spWears c):=mkM F_Hall_wears fun _ _ h=>ok_Hall_wears T U VM h NG
  have M_Hall_go:MCallee l.prog w K mg base (CXD l.prog w) c.C "go" 4 ["self","guest"] (spGo c):=mkM F_Hall_go fun _ _ h=>ok_Hall_go T U VM h M_Hall_wears
  have M_Hall_met:MCallee l.prog w K mg base CX0 c.C "met" 1 ["self","one","other"] (spMet c.C):=mkM F_Hall_met fun _ _ h=>ok_Hall_met T U VM h
  have M_Hall_acquaint:MCallee l.prog w K mg base CX0 c.C "acquaint" 1 ["self","one","other"] (spAcq c.C):=mkM F_Hall_acquaint fun _ _ h=>ok_Hall_acquaint T U VM h
  have M_Hall_exchange:MCallee l.prog w K mg base (CXD l.prog w) c.C "exchange" 4 ["self","one","other"] (spExch c):=mkM F_Hall_exchange fun _ _ h=>ok_Hall_exchange T U VM h M_Hall_wears M_Hall_met M_Hall_dress M_Hall_acquaint
  have C_law_do:XCallee l.prog w K mg base "_law_do" 5 ["_law_hall","_law_deed_here"] (spDo c):=mkX X G F_law_do fun _ _ h=>ok_law_do T U VM h M_Hall_come M_Hall_go M_Hall_exchange
  have C_law_hall_of:Callee l.prog w K mg base "_law_hall_of" 7 ["_law_story"] (spHallOf c):=mkC X G F_law_hall_of fun _ _ h=>ok_law_hall_of T U VM h MH C_law_do
  have Cring_with:XCallee l.prog w K mg base "ring_with" 5 ["hall","guest"] (spRingW c):=mkX X G F_ring_with fun _ _ h=>ok_ring_with T U VM h M_Hall_wears
  have Cclosed_around:XCallee l.prog w K mg base "closed_around" 6 ["hall","group"] (spClosed c):=mkX X G F_closed_around fun _ _ h=>ok_closed_around T U VM h Cring_with
  have C_law_closed_due:Callee l.prog w K mg base "_law_closed_due" 2 ["_law_worn","_law_group"] spCloDue:=mkC X G F_law_closed_due fun _ _ h=>ok_law_closed_due T U VM h
  have M_Hall_guests:MCallee l.prog w K mg base CX0 c.C "guests" 1 ["self"] (spGuests c.C):=mkM F_Hall_guests fun _ _ h=>ok_Hall_guests T U VM h
  have M_Hall_story:MCallee l.prog w K mg base CX0 c.C "story" 1 ["self"] (spStory c.C):=mkM F_Hall_story fun _ _ h=>ok_Hall_story T U VM h
  have M_Hall_moment:MCallee l.prog w K mg base CX0 c.C "moment" 1 ["self"] (spMoment c.C):=mkM F_Hall_moment fun _ _ h=>ok_Hall_moment T U VM h
  have M_Hall_partners:MCallee l.prog w K mg base CX0 c.C "partners" 1 ["self","guest"] (spPartners c.C):=mkM F_Hall_partners fun _ _ h=>ok_Hall_partners T U VM h
  have M_Hall_pairs:MCallee l.prog w K mg base CX0 c.C "pairs" 2 ["self"] (spHPairs c.C):=mkM F_Hall_pairs fun _ _ h=>ok_Hall_pairs T U VM h M_Hall_partners
  have M_Hall_inside:MCallee l.prog w K mg base CX0 c.C "inside" 1 ["self","guest"] (spInside c.C):=mkM F_Hall_inside fun _ _ h=>ok_Hall_inside T U VM h
  have M_Hall_wearer:MCallee l.prog w K mg base (CXD l.prog w) c.C "wearer" 3 ["self","mask"] (spWearer c):=mkM F_Hall_wearer fun _ _ h=>ok_Hall_wearer T U VM h NG
  have C_law_stands:Callee l.prog w K mg base "_law_stands" 4 ["_law_hall","_law_worn","_law_met","_law_story"] (spStands c):=mkC X G F_law_stands fun _ _ h=>ok_law_stands T U VM h M_Hall_guests M_Hall_story M_Hall_moment M_Hall_pairs M_Hall_inside M_Hall_wears M_Hall_wearer
  exact ok_law T U VM G_law C_law_evening C_law_hall_of C_law_cell_at C_law_size C_law_guest C_law_draws Cclosed_around C_law_closed_due C_law_stands
theorem walk {l:PySem.W.OpenLaw}{q:Program}{loose:List Str}{XP:(Str→Option Value)→Heap→Prop}{YP:World→Heap→Prop}{d:DefRec}{K:Params→PySem.W.Frag}(hn:l.most=some 63)(hdf:d.params.defaults=[])
  (hY:∀ (w:World)(h:Heap),YP w h→(K w.params).In h)
  (F:∀ (w:World)(mg:Str→Option Value)(fa:Addr)(h:Heap),(K w.params).In h→h.Ns mainGlobals mg→mg d.name=some (.ref fa) →
   ∃ fd:FuncData,(∀ (s:Shared)(u:Value),BindsTo s fd ⟨[u],[]⟩ [("_law_script",u)])∧∀ base:Heap,(K w.params).In base→base.Ns mainGlobals mg→FnOk l.prog w (K w.params) mg base CX0 9 fa fd ["_law_script"] (spLaw (K w.params))) :
  PySem.W.WalkO q loose XP YP l.row.toRowW d [] (fun f vs=>PySem.call f vs) :=
 L2.walk_of (n:=63) (k:=9) (x:="_law_script") (CX:=fun _=>CX0) (sp:=fun w=>spLaw (K w.params)) hn (by decide) hdf ⟨rfl,by decide,by decide⟩ hY F (fun _ _ a ns hl _ hS=>⟨a,ns,rfl,hS,hl,fun _=>rfl⟩) fun _ _ _ _ _ z=>z
end Wk17
def PySem.W.Fast.tw658755499231589326:Nat:=0
def PySem.W.Fast.tw7715767527629113421:Nat:=0
def PySem.W.Fast.tw8160823176201813115:Nat:=0
def PySem.W.Fast.tw5474859851441024972:Nat:=0
def PySem.W.Fast.tw2341645598948231573:Nat:=0
def PySem.W.Fast.tw10299656254504671496:Nat:=0
def PySem.W.Fast.tw8071225712943003719:Nat:=0
def PySem.W.Fast.tw16670835498328891532:Nat:=0
def PySem.W.Fast.tw6342973069732358083:Nat:=0
def PySem.W.Fast.tw9921494597909031843:Nat:=0
def PySem.W.Fast.tw18119874904104816317:Nat:=0
def PySem.W.Fast.tw1001081716992310469:Nat:=0
def PySem.W.Fast.tw1186275326959810974:Nat:=0
def PySem.W.Fast.tw9533198476980005821:Nat:=0
def PySem.W.Fast.tw15045319775818568889:Nat:=0
def PySem.W.Fast.tw16455180193939466390:Nat:=0
def PySem.W.Fast.tw3980108533117399830:Nat:=0
def PySem.W.Fast.tw7408130895766666060:Nat:=0
open PySem PySem.W PyProof.Rows
set_option maxRecDepth 100000 in
set_option maxHeartbeats 0 in
theorem PySem.Challenge.cw_lastwaltz_k17_closed_groups_holds : PySem.Challenge.rw_lastwaltz_k17_closed_groups.Holds := by
 w_on;o_law;k_head;(case hw=>w_witness2)
 k_fill
 refine Wk17.walk (l:=PySem.Challenge.rw_lastwaltz_k17_closed_groups) rfl rfl (fun w h Y=>PySem.W.kIn_of Y) ?F
 case F =>
  intro w mg fa h KX G hmg
  refine' Wk17.all_mk2 KX G hmg ?aC ?n_cW ?n_cA ?n_cM ?n_cS ?n_cT ?n_cN ?b_cN ?pg ?hd ?po ?sa ?na_worn ?na_holders ?na_circles ?na_deeds ?e_cA ?e_cM ?e_cS ?e_cT ?e_cN ?g1 ?g2 ?g3 ?g4 ?g5 ?g6 ?g7 ?g8 ?tN ?wS ?wR ?wI ?x_aa ?x_ma ?x_mm ?x_sa ?x_sm ?x_ss ?x_ta ?x_tm ?x_ts ?x_tt ?x_na ?x_nm ?x_ns ?x_nt ?x_nn ?mk ?kc ?F_law_cell_at ?F_law_crowd ?F_law_size ?F_law_guest ?F_law_deed ?F_law_draws ?F_law_draws_from ?F_law_deeds ?F_law_key ?F_law_due ?F_law_after ?F_law_evening ?F_Hall_init ?F_Hall_dress ?F_Hall_come ?F_NoGuest_init ?F_Hall_wears ?F_Hall_go ?F_Hall_met ?F_Hall_acquaint ?F_Hall_exchange ?F_law_do ?F_law_hall_of ?F_ring_with ?F_closed_around ?F_law_closed_due ?F_Hall_guests ?F_Hall_story ?F_Hall_moment ?F_Hall_partners ?F_Hall_pairs ?F_Hall_inside ?F_Hall_wearer ?F_law_stands ?F_law ?z_len ?z_range ?z_isinstance ?z_tuple ?z_list ?z_int ?z_bool ?z_all ?z_any ?z_sorted ?z_reversed ?z_set ?z_min ?z_max ?z_dict ?z_zip ?z_enumerate ?z_sum ?z_str
  (case aC=>k_is)
  (case n_cW=>k_is)
  (case n_cA=>k_is)
  (case n_cM=>k_is)
  (case n_cS=>k_is)
  (case n_cT=>k_is)
  (case n_cN=>k_is)
  (case b_cN=>k_is)
  (case e_cA=>kernel_rfl)
  (case e_cM=>kernel_rfl)
  (case e_cS=>kernel_rfl)
  (case e_cT=>kernel_rfl)
  (case e_cN=>kernel_rfl)
  (case g8=>kernel_rfl)
  (case x_aa=>kernel_rfl)
  (case x_ma=>kernel_rfl)
  (case x_mm=>kernel_rfl)
  (case x_sa=>kernel_rfl)
  (case x_sm=>kernel_rfl)
  (case x_ss=>kernel_rfl)
  (case x_ta=>kernel_rfl)
  (case x_tm=>kernel_rfl)
  (case x_ts=>kernel_rfl)
  (case x_tt=>kernel_rfl)
  (case x_na=>kernel_rfl)
  (case x_nm=>kernel_rfl)
  (case x_ns=>kernel_rfl)
  (case x_nt=>kernel_rfl)
  (case x_nn=>kernel_rfl)
  all_goals first | (refine' Wz.fact_mk ?a ?l ?c ?k;(case a=>k_is);(case l=>k_is);(case c=>k_is);(case k=>k_is)) | (refine' Wz.mfact_mk ?a ?i ?l ?c ?k;(case a=>k_is);(case i=>k_is);(case l=>k_is);(case c=>k_is);(case k=>k_is)) | k_is
