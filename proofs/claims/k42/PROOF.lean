import PyProof.Rows.All
import Wide.All
import OpenK.AllK
import Wide.FinOn
import Lean
import PyProof.EqAt
import PyProof.EqKinds
import PyProof.TupleCall
import PyProof.NeData
import PyProof.DictItems
import PyProof.JoinWalk
import PyProof.CallStr
import OpenK.KOwn
import KE.KTryMore
import PyProof.EnumMake
import KE.KLam
import KE.KNestM
import KE.KEqDict
import PySem.Challenge.RW_lastwaltz_k42_a_figure_spread_out
set_option Elab.async false
set_option linter.all false
set_option maxRecDepth 100000
set_option maxHeartbeats 4000000
theorem qc:type_of% @PySem.wpAny_bind:=@PySem.wpAny_bind
theorem qd:type_of% @PySem.Heap.lt_size:=@PySem.Heap.lt_size
theorem qe:type_of% @PySem.wpAny_pure:=@PySem.wpAny_pure
theorem qf:type_of% @List.length_map:=@List.length_map
theorem qg:type_of% @decide_eq_false:=@decide_eq_false
theorem qh:type_of% @Bool.false_ne_true:=@Bool.false_ne_true
theorem qi:type_of% @if_neg:=@if_neg
theorem qj:type_of% @Nat.le_refl:=@Nat.le_refl
theorem qk:type_of% @Nat.ne_of_lt:=@Nat.ne_of_lt
theorem ql:type_of% @if_pos:=@if_pos
theorem qm:type_of% @List.size_toArray:=@List.size_toArray
theorem qo:type_of% @List.mem_append_right:=@List.mem_append_right
theorem qp:type_of% @Nat.lt_of_lt_of_le:=@Nat.lt_of_lt_of_le
theorem qq:type_of% @PySem.W.mg_none_of:=@PySem.W.mg_none_of
theorem qr:type_of% @List.mem_cons_of_mem:=@List.mem_cons_of_mem
theorem qt:type_of% @decide_eq_true:=@decide_eq_true
theorem qu:type_of% @Option.some.inj:=@Option.some.inj
theorem qv:type_of% @PySem.Paired.length:=@PySem.Paired.length
theorem qw:type_of% @PySem.wpAny_field:=@PySem.wpAny_field
theorem qx:type_of% @PySem.wpAny_mono:=@PySem.wpAny_mono
theorem qy:type_of% @List.mem_cons_self:=@List.mem_cons_self
theorem qz:type_of% @List.length_append:=@List.length_append
theorem qA:type_of% @Nat.ne_of_gt:=@Nat.ne_of_gt
theorem qB:type_of% @PySem.Heap.size_push:=@PySem.Heap.size_push
theorem qC:type_of% @List.mem_cons:=@List.mem_cons
theorem qD:type_of% @List.mem_singleton:=@List.mem_singleton
theorem qE:type_of% @List.lookup_cons:=@List.lookup_cons
theorem qF:type_of% @PySem.W.kia_one:=@PySem.W.kia_one
theorem qG:type_of% @List.length_drop:=@List.length_drop
theorem qH:type_of% @Nat.zero_le:=@Nat.zero_le
theorem qI:type_of% @PySem.wpAny_newObj_type:=@PySem.wpAny_newObj_type
theorem qJ:type_of% @List.map_append:=@List.map_append
theorem qK:type_of% @Ne.symm:=@Ne.symm
theorem qL:type_of% @congrArg:=@congrArg
theorem qM:type_of% @PyProof.Rows.callWith_type1:=@PyProof.Rows.callWith_type1
theorem qN:type_of% @List.length_cons:=@List.length_cons
theorem qO:type_of% @PySem.wpAny_Call_Name_kw:=@PySem.wpAny_Call_Name_kw
theorem qP:type_of% @PySem.wpAny_seqItems:=@PySem.wpAny_seqItems
theorem qQ:type_of% @Nat.le_trans:=@Nat.le_trans
theorem qR:type_of% @List.mem_of_getElem?:=@List.mem_of_getElem?
theorem qS:type_of% @PySem.mem_of_lookup:=@PySem.mem_of_lookup
theorem qT:type_of% @PySem.F.plain_extend_loop:=@PySem.F.plain_extend_loop
theorem qU:type_of% @PySem.wpAny_call_entry:=@PySem.wpAny_call_entry
theorem qV:type_of% @PyProof.Rows.boot_isinstance:=@PyProof.Rows.boot_isinstance
theorem qW:type_of% @Int.emod_lt_of_pos:=@Int.emod_lt_of_pos
theorem qX:type_of% @List.mem_append:=@List.mem_append
theorem qY:type_of% @List.nodup_cons:=@List.nodup_cons
theorem qZ:type_of% @PySem.F.slot_tuple_iterator_next:=@PySem.F.slot_tuple_iterator_next
theorem q4:type_of% @PySem.wpAny_truthy_bool:=@PySem.wpAny_truthy_bool
theorem q5:type_of% @List.length_take:=@List.length_take
theorem rc:type_of% @beq_eq_false_iff_ne:=@beq_eq_false_iff_ne
theorem re:type_of% @Nat.lt_irrefl:=@Nat.lt_irrefl
theorem rg:type_of% @PySem.wpAny_holding:=@PySem.wpAny_holding
theorem rh:type_of% @PySem.wpAny_pyIter_tuple:=@PySem.wpAny_pyIter_tuple
theorem ri:type_of% @PySem.Obj.data_mapFields:=@PySem.Obj.data_mapFields
theorem rj:type_of% @Int.emod_nonneg:=@Int.emod_nonneg
theorem rk:type_of% @PySem.F.slot_zip_next:=@PySem.F.slot_zip_next
theorem rm:type_of% @PySem.PassesOwn.never:=@PySem.PassesOwn.never
namespace L2
open PySem PySem.Spec PyProof.Rows
abbrev gq:=Sum Int Str
def lV:gq->Value->Bool
 | .inl k,v=>Value.isInt k v
 | .inr x,v=>Value.isStrOf x v
def oY (w:World):gq->Int
 | .inl k=>hashInt k
 | .inr x=>hashStr w x
theorem aN:∀ {k:gq}{v:Value},lV k v=true->(∃ i t,k=Sum.inl i/\v=Value.int i t)\/(∃ x t,k=Sum.inr x/\v=Value.str x t)
 | .inl i,v,h=>by
  obtain⟨t,e⟩:=Value.isInt_shape (k:=i) (v:=v) h;exact .inl ⟨i,t,rfl,e⟩
 | .inr x,v,h=>by
  obtain⟨t,e⟩:=Value.isStrOf_shape (x:=x) (v:=v) h;exact .inr ⟨x,t,rfl,e⟩
theorem my (a b:Int):decide ((Sum.inl a:gq)=Sum.inl b)=(a == b):=by
 by_cases e:a=b
 ·subst e;simp
 ·have h:¬ (Sum.inl a:gq)=Sum.inl b:=fun q=>e (Sum.inl.inj q)
  rw[qg h];exact (rc.mpr e).symm
theorem mC (a b:Str):decide ((Sum.inr a:gq)=Sum.inr b)=decide (a=b):=by
 by_cases e:a=b
 ·subst e;simp
 ·have h:¬ (Sum.inr a:gq)=Sum.inr b:=fun q=>e (Sum.inr.inj q)
  rw[qg h,qg e]
theorem mz (a:Int)(b:Str):decide ((Sum.inl a:gq)=Sum.inr b)=false:=qg (fun q=>nomatch q)
theorem mB (a:Str)(b:Int):decide ((Sum.inr a:gq)=Sum.inl b)=false:=qg (fun q=>nomatch q)
def gI (prog:Program)(w:World):PySem.KeyKind prog w gq where
 is:=lV
 hash:=oY w
 inj:=fun v a b ha hb=>by
  rcases aN ha with ⟨i,t,rfl,rfl⟩ | ⟨x,t,rfl,rfl⟩
  ·rcases aN hb with ⟨j,u,rfl,e⟩ | ⟨y,u,rfl,e⟩
   ·injection e with e1 _;rw[e1]
   ·exact nomatch e
  ·rcases aN hb with ⟨j,u,rfl,e⟩ | ⟨y,u,rfl,e⟩
   ·exact nomatch e
   ·injection e with e1 _;rw[e1]
 byValue:=fun k v h=>by
  rcases aN h with ⟨i,t,rfl,rfl⟩ | ⟨x,t,rfl,rfl⟩<;>rfl
 pyHash:=fun hv h=>by
  rcases aN hv with ⟨i,t,rfl,rfl⟩ | ⟨x,t,rfl,rfl⟩
  ·exact wpAny_pyHash_int h
  ·exact wpAny_pyHash_str h
 eqBool:=fun hu hv h=>by
  rcases aN hu with ⟨i,t,rfl,rfl⟩ | ⟨x,t,rfl,rfl⟩
  ·rcases aN hv with ⟨j,u,rfl,rfl⟩ | ⟨y,u,rfl,rfl⟩
   ·rw[my]at h;exact wpAny_eqBool_int h
   ·rw[mz]at h;exact SeqAt.EqAt.int_str i t y u _ _ _ _ h
  ·rcases aN hv with ⟨j,u,rfl,rfl⟩ | ⟨y,u,rfl,rfl⟩
   ·rw[mB]at h;exact SeqAt.EqAt.str_int x t j u _ _ _ _ h
   ·rw[mC]at h;exact wpAny_eqBool_str h
 «strs»:=fun k x t v h=>by
  rcases aN h with ⟨i,u,rfl,e⟩ | ⟨y,u,rfl,e⟩
  ·exact nomatch e
  ·injection e with e1 _
   subst e1;cases v<;>rfl
inductive V where
 | non | bl (b:Bool) | int (i:Int) | str (x:Str) | byt (b:Array UInt8) | flt (b:UInt64) | ref (a:Addr) | ty (n:String)
 deriving DecidableEq
def aF:V->Value->Prop
 | .non,u=>u=Value.none
 | .bl b,u=>u=Value.bool b
 | .int i,u=>∃ t,u=Value.int i t
 | .str x,u=>∃ t,u=Value.str x t
 | .byt b,u=>∃ t,u=Value.bytes b t
 | .flt b,u=>∃ t,u=Value.float b t
 | .ref a,u=>u=Value.ref a
 | .ty n,u=>u=Value.type n
abbrev az:List V->List Value->Prop:=Paired aF
theorem az.length {xs:List V}{us:List Value}(r:az xs us):xs.length=us.length:=qv r
theorem az.get:∀ {xs:List V}{us:List Value}{i:Nat}{x:V},az xs us->xs[i]? = some x->∃ u,us[i]? = some u/\aF x u
 | _,_,_,_,.nil,e=>by simp at e
 | _,_,0,_,.cons r _,e=>by simp at e;subst e;exact⟨_,rfl,r⟩
 | _,_,i+1,x,.cons _ t,e=>by
  obtain⟨u,h1,h2⟩:=az.get (i:=i) (x:=x) t (by simpa using e);exact⟨u,by simpa using h1,h2⟩
theorem az.append:∀ {xs ys:List V}{us ws:List Value},az xs us->az ys ws->az (xs++ys) (us++ws)
 | _,_,_,_,.nil,s=>s
 | _,_,_,_,.cons r t,s=>.cons r (az.append t s)
theorem az.take:∀ {xs:List V}{us:List Value}(n:Nat),az xs us->az (xs.take n) (us.take n)
 | _,_,0,_=>.nil
 | _,_,_+1,.nil=>.nil
 | _,_,n+1,.cons r t=>.cons r (az.take n t)
theorem az.drop:∀ {xs:List V}{us:List Value}(n:Nat),az xs us->az (xs.drop n) (us.drop n)
 | _,_,0,r=>r
 | _,_,_+1,.nil=>.nil
 | _,_,n+1,.cons _ t=>az.drop n t
def gi:Option V->Option Value->Prop
 | some v,some u=>aF v u
 | none,none=>True
 | _,_=>False
def KV {κ:Type}:List (κ×V)->List (κ×Value)->Prop:=Paired fun (p:κ×V)(q:κ×Value)=>p.1=q.1/\aF p.2 q.2
def kV:gq->V
 | .inl i=>.int i
 | .inr x=>.str x
inductive HO where
 | lst (xs:List V)
 | tup (xs:List V)
 | dK (kvs:List (gq×V)) | dT (kvs:List (List gq×V))
 | set (S:Int->Bool) (n:Nat)
 | ins (C dx:Addr) (fs:List (Str×V))
 | own (x:Addr)
 | xd (fs:List (Str×V))
 | met (f x:Addr)
 | rng (lo hi:Int)
 | frz (o:Obj) (u:HO)
 | tbl (ps:Array Value)
 | ext (φ:Heap->Prop)
abbrev Hp:=Addr->Option HO
def aA (H:Hp)(a:Addr)(o:HO):Hp:=fun b=>if b=a then some o else H b
theorem ac {H:Hp}{a:Addr}{o:HO}:aA H a o a=some o:=by unfold aA;rw[ql rfl]
theorem ak {H:Hp}{a b:Addr}{o:HO}(h:b≠a):aA H a o b=H b:=by unfold aA;rw[qi h]
theorem hW {H:Hp}{a:Addr}{o u:HO}:aA (aA H a o) a u=aA H a u:=by
 funext b;unfold aA;split<;>rfl
theorem nH {H:Hp}{a b:Addr}{o u:HO}(h:H a=some o)(h':H b=some u)(d:o≠u):a≠b:=by
 intro e;subst e;rw[h]at h';exact d (qu h')
theorem aH {H:Hp}{a b:Addr}{o:HO}(h:H a=some o)(h':H b=none):a≠b:=by
 intro e;subst e;rw[h]at h';cases h'
section
variable (P:Program)(w:World)
def aQ (H:Hp)(h:Heap)(a:Addr):HO->Prop
 | .lst xs=>xs.length<=sizeLine/\∃ (its:List Value)(n:Nat),az xs its/\h.get? a=some { cls:=.type "list",data:=.seq its.toArray n }
 | .tup xs=>xs.length<=sizeLine/\∃ its:List Value,az xs its/\IsTup h a its.toArray
 | .dK kvs=>kvs.length<=sizeLine/\(a == sysModules)=false/\∃ vs,KV kvs vs/\h.DictOf (gI P w) a vs
 | .dT kvs=>kvs.length<=sizeLine/\(a == sysModules)=false/\∃ xs:List (List gq×Addr×Value),
   Paired (fun (p:List gq×V)(q:List gq×Addr×Value)=>p.1=q.1/\H q.2.1=some (.tup (p.1.map kV))/\aF p.2 q.2.2) kvs xs /\
   ∃ o es ep,h.get? a=some o/\o.ExactDict/\o.data=.dict es ep/\es.toList=xs.map (entryOfKey (tupleKind (gI P w)))/\(xs.map (·.1)).Nodup
 | .set S n=>h.SetOf (intKind P w) a S n
 | .ins C dx fs=>H dx=some (.own a)/\fs.length<=1000/\dx≠a/\h.get? a=some (PySem.W.instObj C dx) /\
   ∃ mA,h.Ns1 dx mA/\(∀ f,gi (fs.lookup f) (mA f))/\PySem.Within mA (fs.map (·.1))
 | .own _=>∃ o,h.get? a=some o
 | .xd fs=>∃ mA,h.Ns1 a mA/\∀ f,gi (fs.lookup f) (mA f)
 | .rng lo hi=>∃ t u v,h.get? a=some { cls:=.type "range",data:=.fields #[.int lo t,.int hi u,.int 1 v] }
 | .frz o u=>h.get? a=some o/\aQ H h a u
 | .tbl ps=>h.get? a=some { cls:=.none,data:=.fields ps }
 | .met f x=>h.get? a=some (PySem.W.methodObj (.ref f) (.ref x))
 | .ext φ=>φ h/\(∃ o,h.get? a=some o)/\∀ h1 h2:Heap,φ h1->(∀ o,h1.get? a=some o->h2.get? a=some o)->φ h2
def d4 (H:Hp)(h:Heap):Prop:=∀ a o,H a=some o->aQ P w H h a o
end
section
variable {P:Program}{w:World}{H H':Hp}{h h':Heap}{a:Addr}{o:HO}
theorem aQ.lt (x:aQ P w H h a o):a<h.objs.size:=by
 cases o with
 | lst xs=>obtain⟨_,_,_,_,e⟩:=x;exact qd e
 | tup xs=>obtain⟨_,_,_,p⟩:=x;exact p.lt
 | dK kvs=>obtain⟨_,_,_,_,o,_,_,e,_⟩:=x;exact qd e
 | dT kvs=>obtain⟨_,_,_,_,o,_,_,e,_⟩:=x;exact qd e
 | set S n=>obtain⟨o,_,_,_,e,_⟩:=x;exact qd e
 | ins C dx fs=>obtain⟨_,_,_,e,_⟩:=x;exact qd e
 | own y=>obtain⟨_,e⟩:=x;exact qd e
 | xd fs=>obtain⟨_,⟨_,_,_,e,_⟩,_⟩:=x;exact qd e
 | rng lo hi=>obtain⟨_,_,_,e⟩:=x;exact qd e
 | frz ob u=>obtain⟨e,_⟩:=x;exact qd e
 | tbl ps=>exact qd (show h.get? a=some _ from x)
 | met f y=>exact qd (show h.get? a=some _ from x)
 | ext φ=>obtain⟨_,⟨_,e⟩,_⟩:=x;exact qd e
theorem Paired.mapP {α β:Type}{F G:α->β->Prop}:∀ {l₁:List α}{l₂:List β},Paired F l₁ l₂->(∀ a b,F a b->G a b)->Paired G l₁ l₂
 | _,_,.nil,_=>.nil
 | _,_,.cons r t,f=>.cons (f _ _ r) (Paired.mapP t f)
theorem aQ.stay (x:aQ P w H h a o)(k:∀ b u,(b=a\/H b=some (.own a))->h.get? b=some u->h'.get? b=some u)
  (ho:∀ b,H b=some (.own a)->H' b=some (.own a)) (ht:∀ b xs,H b=some (.tup xs)->H' b=some (.tup xs)):aQ P w H' h' a o:=by
 induction o with
 | lst xs=>obtain⟨z,its,n,r,e⟩:=x;exact⟨z,its,n,r,k _ _ (.inl rfl) e⟩
 | tup xs=>obtain⟨z,its,r,ob,e,c⟩:=x;exact⟨z,its,r,ob,k _ _ (.inl rfl) e,c⟩
 | dK kvs=>obtain⟨z,y,vs,r,ob,es,ep,e,c⟩:=x;exact⟨z,y,vs,r,ob,es,ep,k _ _ (.inl rfl) e,c⟩
 | dT kvs =>
  obtain⟨z,y,xs,r,ob,es,ep,e,c⟩:=x;exact⟨z,y,xs,Paired.mapP r fun p q z=>⟨z.1,ht _ _ z.2.1,z.2.2⟩,ob,es,ep,k _ _ (.inl rfl) e,c⟩
 | set S n=>obtain⟨ob,es,ep,t,e,c⟩:=x;exact⟨ob,es,ep,t,k _ _ (.inl rfl) e,c⟩
 | ins C dx fs =>
  obtain⟨d,z,ne,e,mA,⟨od,es,ep,e2,c⟩,r⟩:=x;exact⟨ho _ d,z,ne,k _ _ (.inl rfl) e,mA,⟨od,es,ep,k _ _ (.inr d) e2,c⟩,r⟩
 | own y=>obtain⟨ob,e⟩:=x;exact⟨ob,k _ _ (.inl rfl) e⟩
 | xd fs=>obtain⟨mA,⟨od,es,ep,e,c⟩,r⟩:=x;exact⟨mA,⟨od,es,ep,k _ _ (.inl rfl) e,c⟩,r⟩
 | rng lo hi=>obtain⟨t,u,v,e⟩:=x;exact⟨t,u,v,k _ _ (.inl rfl) e⟩
 | frz ob u ih=>obtain⟨e,q⟩:=x;exact⟨k _ _ (.inl rfl) e,ih q⟩
 | tbl ps =>
  have e:h.get? a=some { cls:=.none,data:=.fields ps }:=x
  show h'.get? a=some { cls:=.none,data:=.fields ps }
  exact k a _ (.inl rfl) e
 | met f y =>
  have e:h.get? a=some (PySem.W.methodObj (.ref f) (.ref y)):=x
  show h'.get? a=some (PySem.W.methodObj (.ref f) (.ref y))
  exact k a _ (.inl rfl) e
 | ext φ=>obtain⟨p,⟨o,e⟩,st⟩:=x;exact⟨st _ _ p fun o q=>k _ _ (.inl rfl) q,⟨o,k _ _ (.inl rfl) e⟩,st⟩
theorem d4.lt (x:d4 P w H h)(e:H a=some o):a<h.objs.size:=(x a o e).lt
theorem d4.fresh (x:d4 P w H h)(e:h.objs.size<=a):H a=none:=by
 cases q:H a with
 | none=>rfl
 | some u=>exact absurd (qp (x.lt q) e) (re _)
theorem d4.kept (x:d4 P w H h)(k:∀ b u,h.get? b=some u->h'.get? b=some u):d4 P w H h':=fun a o e =>
 (x a o e).stay (fun b u _ q=>k b u q) (fun _ q=>q) fun _ _ q=>q
theorem d4.laid (x:d4 P w H h)(k:∀ b u,h.get? b=some u->h'.get? b=some u)(hp:h.objs.size<=a)(new:aQ P w (aA H a o) h' a o):d4 P w (aA H a o) h':=fun b u e=>by
 have hn:=x.fresh hp
 by_cases hb:b=a
 ·subst hb;rw[ac]at e;cases e;exact new
 ·rw[ak hb]at e
  exact (x b u e).stay (fun c v _ q=>k c v q) (fun c q=>by rw[ak (aH q hn)];exact q) fun c xs q=>by rw[ak (aH q hn)];exact q
end
def Rd (H:Hp)(a:Addr)(u:HO):Prop:=H a=some u\/∃ o,H a=some (.frz o u)
theorem Rd.ok {P:Program}{w:World}{H:Hp}{h:Heap}{a:Addr}{u:HO}(r:Rd H a u)(x:d4 P w H h):aQ P w H h a u:=by
 rcases r with r | ⟨o,r⟩
 ·exact x a u r
 ·obtain⟨_,q⟩:=x a _ r
  exact q
def oo:Option HO->Prop
 | some (.lst _)=>True
 | some (.dK _)=>True
 | some (.dT _)=>True
 | some (.set _ _)=>True
 | some (.ins _ _ _)=>True
 | some (.ext _)=>True
 | _=>False
section
variable {P:Program}{w:World}{H:Hp}{h h':Heap}{x e:Addr}{o':HO}
theorem d4.write (ok:d4 P w H h)(mu:oo (H x))(he:e=x\/H e=some (.own x))(k:∀ b u,b≠e->h.get? b=some u->h'.get? b=some u)(heo:∃ u,h'.get? e=some u)
  (new:aQ P w (aA H x o') h' x o'):d4 P w (aA H x o') h':=fun b u q=>by
 have nown:∀ c y,H c=some (.own y)->c≠x:=fun c y r z=>by subst z;rw[r]at mu;exact mu
 have ntup:∀ c xs,H c=some (.tup xs)->c≠x:=fun c xs r z=>by subst z;rw[r]at mu;exact mu
 by_cases hb:b=x
 ·subst hb;rw[ac]at q;cases q;exact new
 ·rw[ak hb]at q
  by_cases hbe:b=e
  ·have q':H b=some (.own x):=by
    rcases he with z | z
    ·exact absurd (hbe.trans z) hb
    ·rw[hbe];exact z
   rw[q]at q';cases q';obtain⟨v,hv⟩:=heo;exact⟨v,by rw[hbe];exact hv⟩
  ·refine (ok b u q).stay (fun c v hc r=>k c v ?_ r) (fun c r=>by rw[ak (nown c b r)];exact r) fun c xs r=>by rw[ak (ntup c xs r)];exact r
   rcases hc with rfl | hc
   ·exact hbe
   ·rintro rfl
    rcases he with z | z
    ·exact nown c b hc z
    ·rw[hc]at z;cases z;exact hb rfl
end
structure Un (fs ex:List Addr)(H H':Hp)(h h':Heap):Prop where
 keep:∀ b o,h.get? b=some o->H b=none->b∉fs->b∉ex->h'.get? b=some o
 slot:∀ b o,h.get? b=some o->H b=none->b∈fs->b∉ex->∃ sl,h'.get? b=some { o with slots:=sl }
 free:∀ b o,h.get? b=some o->H b=none->b∉ex->H' b=none
 there:∀ b o,h.get? b=some o->b∉ex->∃ o',h'.get? b=some o'
 tups:∀ b xs,H b=some (.tup xs)->H' b=some (.tup xs)
 frzs:∀ b o u,H b=some (.frz o u)->H' b=some (.frz o u)
 tbls:∀ b ps,H b=some (.tbl ps)->∃ more,H' b=some (.tbl (ps++more))
section
variable {fs fs' ex ex':List Addr}{H H1 H2:Hp}{h h1 h2 h':Heap}{a x e:Addr}{o:HO}
theorem Un.any (u:Un fs ex H H1 h h1){b:Addr}{ob:Obj}(q:h.get? b=some ob)(n:H b=none)(hx:b∉ex):∃ sl,h1.get? b=some { ob with slots:=sl }:=by
 by_cases hb:b∈fs
 ·exact u.slot b ob q n hb hx
 ·exact⟨ob.slots,u.keep b ob q n hb hx⟩
theorem Un.kept (k:∀ b u,h.get? b=some u->h'.get? b=some u):Un fs ex H H h h' :=
 ⟨fun b ob q _ _ _=>k b ob q,fun b ob q _ _ _=>⟨ob.slots,k b ob q⟩,fun _ _ _ n _=>n,fun b ob q _=>⟨ob,k b ob q⟩,fun _ _ q=>q,fun _ _ _ q=>q,fun _ ps q=>⟨#[],by rw[q];simp⟩⟩
theorem Un.refl:Un fs ex H H h h:=Un.kept fun _ _ q=>q
theorem Un.laid (k:∀ b u,h.get? b=some u->h'.get? b=some u)(hp:h.objs.size<=a)(hn:H a=none):Un fs ex H (aA H a o) h h' where
 keep:=fun b u q _ _ _=>k b u q
 slot:=fun b u q _ _ _=>⟨u.slots,k b u q⟩
 free:=fun b u q n _=>by rw[ak (qk (qp (qd q) hp))];exact n
 there:=fun b u q _=>⟨u,k b u q⟩
 tups:=fun b xs q=>by rw[ak (aH q hn)];exact q
 frzs:=fun b u xs q=>by rw[ak (aH q hn)];exact q
 tbls:=fun b ps q=>⟨#[],by rw[ak (aH q hn),q];simp⟩
theorem Un.write (mu:oo (H x))(he:e=x\/H e=some (.own x))(k:∀ b u,b≠e->h.get? b=some u->h'.get? b=some u)(heo:∃ u,h'.get? e=some u):Un fs ex H (aA H x o) h h':=by
 have hx:∀ b,H b=none->b≠x:=fun b n z=>by subst z;rw[n]at mu;exact mu
 have hb:∀ b,H b=none->b≠e:=fun b n z=>by
  subst z;rcases he with r | r
  ·exact hx b n r
  ·rw[n]at r;cases r
 have hm:∀ b u,H b=some u->¬ oo (some u)->b≠x:=fun b u q nm z=>by subst z;rw[q]at mu;exact nm mu
 refine⟨fun b u q n _ _=>k b u (hb b n) q,fun b u q n _ _=>⟨u.slots,k b u (hb b n) q⟩,fun b u q n _=>by rw[ak (hx b n)];exact n,fun b u q _=>?_,
  fun b xs q=>by rw[ak (hm b _ q fun z=>z)];exact q,fun b u xs q=>by rw[ak (hm b _ q fun z=>z)];exact q,fun b ps q=>⟨#[],by rw[ak (hm b _ q fun z=>z),q];simp⟩⟩
 by_cases hbe:b=e
 ·subst hbe;exact heo
 ·exact⟨u,k b u hbe q⟩
end
def oC (h:Heap)(H:Hp):List Addr:=(List.range h.objs.size).filter fun a=>(H a).isSome
def gG (h:Heap)(H:Hp):Heap:=PySem.W.hideAll h (oC h H)
theorem jX (h:Heap)(H:Hp):(gG h H).objs.size=h.objs.size:=PySem.W.hideAll_size _ _
theorem kv {h:Heap}{H:Hp}{b:Addr}{o:Obj}(e:h.get? b=some o)(n:H b=none):(gG h H).get? b=some o :=
 PySem.W.hideAll_get _ e fun hm=>by
  have q:(H b).isSome=true:=(List.mem_filter.mp hm).2;rw[n]at q;simp at q
theorem lD {h:Heap}{H:Hp}{b:Addr}{o:Obj}(e:(gG h H).get? b=some o):h.get? b=some o/\H b=none:=by
 have e':h.get? b=some o:=PySem.W.of_hideAll (oC h H) e;refine⟨e',?_⟩
 cases q:H b with
 | none=>rfl
 | some x =>
  have hm:b∈oC h H:=List.mem_filter.mpr ⟨List.mem_range.mpr (qd e'),by simp[q]⟩;have z:(gG h H).get? b=none:=PySem.W.hideAll_none (oC h H) hm;rw[z]at e;cases e
structure Mod (K:PySem.W.Frag)(mg:Str->Option Value)(base:Heap):Prop where
 kin:K.In base
 glob:base.Ns mainGlobals mg
 blt:∃ mb,base.Ns builtinsNs mb/\∀ x:Str,x≠"__name__"->mb x=bootBuiltins x
 nolimit:base.NoLimit
structure Cx where
 prog:Program
 w:World
 K:PySem.W.Frag
 mg:Str->Option Value
 base:Heap
 A:Around
 N:List Str
 s₀:Shared
 H₀:Hp
 env:Env
 outer:List Env
 stack:List Env
 ex:List Addr
 fn:Str->Bool
 calm:Bool
 pn:List (Addr×Obj)
 xe:Value->Shared->Prop
def fu (l:List Env):List Addr:=l.filterMap (·.frame)
abbrev Cx.fs (X:Cx):List Addr:=fu X.outer
def oP (sc:Scope)(x:Str):Prop:=sc.names.lookup x=some .local\/sc.names.lookup x=some .cell\/sc.names.lookup x=some .free
def m6 (sc:Scope)(x:Str):Prop:=sc.names.lookup x=some .local\/sc.names.lookup x=some .cell
def oJ (env:Env)(h:Heap)(m:Str->Option Value)(x:Str)(u:Value):Prop :=
 (env.kindOf x=some .local/\m x=some u)\/((env.kindOf x=some .cell\/env.kindOf x=some .free)/\∃ c,env.cells.lookup x=some c/\h.IsCell c (some u))
structure Cx.Ok (X:Cx):Prop where
 mod:Mod X.K X.mg X.base
 kind:X.env.scope.kind=.function
 glob:X.env.globals=mainGlobals
 blt:X.env.builtins=builtinsNs
 above:X.s₀.heap.objs.size<=X.env.locals
 inj:∀ x y c,X.env.cells.lookup x=some c->X.env.cells.lookup y=some c->x=y
 has:∀ x,(X.env.kindOf x=some .cell\/X.env.kindOf x=some .free)->∃ c,X.env.cells.lookup x=some c
 cab:∀ x c,X.fn x=true->X.env.cells.lookup x=some c->X.s₀.heap.objs.size<=c
 hd:X.calm=true->X.A.handled=none
 frames:X.A.frames=some X.stack
 stk:X.stack=X.outer\/(X.stack=X.env::X.outer/\X.env.frame=some X.env.locals)
 exf:∀ b∈X.ex,b≠X.env.locals/\∀ x c,X.env.cells.lookup x=some c->c≠b
 bs:∀ b o,X.base.get? b=some o->X.s₀.heap.get? b=some o/\X.H₀ b=none
 bsz:X.base.objs.size<=X.s₀.heap.objs.size
 noex:∀ b o,X.base.get? b=some o->b∉X.ex
 exfs:∀ b∈X.ex,b∉X.fs
 funs:X.s₀.heap.FunFrames X.base X.outer
 frf:∀ b∈X.fs,X.H₀ b=none
structure aj (X:Cx)(pins:List (Addr×Obj))(σ:List (Option V))(H:Hp)(s:Shared):Prop where
 ok:X.Ok
 os:s.os=X.s₀.os
 bare:AllBare s.gens
 base:Un X.fs X.ex X.H₀ H X.s₀.heap s.heap
 loc:∃ m,s.heap.Ns X.env.locals m/\∀ (i:Nat)(x:Str)(v:V),X.N[i]? = some x->σ[i]? = some (some v)->oP X.env.scope x->∃ u,aF v u/\oJ X.env s.heap m x u
 cell:∀ x c,X.env.cells.lookup x=some c->∃ v,s.heap.IsCell c v
 free:H X.env.locals=none
 freeC:∀ x c,X.env.cells.lookup x=some c->H c=none
 pin:∀ p∈X.pn++pins,s.heap.get? p.1=some p.2/\H p.1=none/\p.1≠X.env.locals/\p.1∉X.fs/\∀ v,p.2.data≠.cell v
 hok:d4 X.prog X.w H s.heap
 len:σ.length=X.N.length
section
variable {X:Cx}{pins:List (Addr×Obj)}{σ:List (Option V)}{H H':Hp}{s:Shared}{h':Heap}
theorem Cx.Ok.nofr (ok:X.Ok){b:Addr}{o:Obj}(e:X.base.get? b=some o):b∉X.fs:=fun hb=>by
 have:=(ok.funs.mem hb).1;rw[e]at this;cases this
theorem aj.bs (I:aj X pins σ H s):∀ b o,X.base.get? b=some o->s.heap.get? b=some o/\H b=none:=fun b o e =>
 ⟨I.base.keep b o (I.ok.bs b o e).1 (I.ok.bs b o e).2 (I.ok.nofr e) (I.ok.noex b o e),I.base.free b o (I.ok.bs b o e).1 (I.ok.bs b o e).2 (I.ok.noex b o e)⟩
theorem aj.bk (I:aj X pins σ H s):∀ b o,X.base.get? b=some o->s.heap.get? b=some o:=fun b o e=>(I.bs b o e).1
theorem aj.mod (I:aj X pins σ H s):Mod X.K X.mg X.base:=I.ok.mod
theorem aj.kIn (I:aj X pins σ H s):X.K.In s.heap:=I.ok.mod.kin.keeps I.bk
theorem aj.lt (I:aj X pins σ H s):X.env.locals<s.heap.objs.size:=let ⟨_,hn,_⟩:=I.loc;hn.lt
theorem aj.sz (I:aj X pins σ H s):X.s₀.heap.objs.size<=s.heap.objs.size:=qQ I.ok.above (Nat.le_of_lt I.lt)
theorem aj.nofs (I:aj X pins σ H s){a:Addr}(h:s.heap.objs.size<=a):a∉X.fs:=fun hb=>by
 obtain⟨_,o,ho,_⟩:=I.ok.funs.mem hb;exact absurd (qp (qd ho) (qQ I.sz h)) (re _)
theorem aj.cne (I:aj X pins σ H s):∀ x c,X.env.cells.lookup x=some c->c≠X.env.locals:=fun x c e z=>by
 obtain⟨v,o,ho,hd⟩:=I.cell x c e;obtain⟨m,⟨o',es,ep,ho',hd',_⟩,_⟩:=I.loc;rw[z,ho']at ho;cases ho;rw[hd']at hd;cases hd
theorem aj.funs (I:aj X pins σ H s):s.heap.FunFrames X.base X.outer:=by
 have all:∀ (l:List Env),(∀ b∈fu l,b∈X.fs)->X.s₀.heap.FunFrames X.base l->s.heap.FunFrames X.base l:=by
  intro l
  induction l with
  | nil=>intro _ _;trivial
  | cons env r ih =>
   intro hs hl;obtain⟨hk,⟨L,o,hf,hn,ho,hd⟩,hr⟩:=hl;have hL:L∈X.fs:=hs L (by unfold fu;rw[List.filterMap_cons,hf];exact qy);obtain⟨sl,e⟩:=I.base.slot L o ho (I.ok.frf L hL) hL fun z=>I.ok.exfs L z hL;exact⟨hk,⟨L,_,hf,hn,e,hd⟩,ih (fun b hb=>hs b (by unfold fu;rw[List.filterMap_cons,hf];exact qr _ hb)) hr⟩
 exact all X.outer (fun _ hb=>hb) I.ok.funs
theorem aj.stack (I:aj X pins σ H s):s.heap.FunFrames X.base X.stack:=by
 rcases I.ok.stk with e | ⟨e,hf⟩
 ·rw[e];exact I.funs
 ·rw[e]
  obtain⟨m,hn,_⟩:=I.loc;refine .cons (by rw[I.ok.kind];decide) hf hn ?_ I.funs;exact Heap.get?_none_of_le (qQ I.ok.bsz I.ok.above)
theorem aj.stkSub (I:aj X pins σ H s):∀ b∈fu X.stack,b∈X.env.locals::X.fs:=fun b hb=>by
 rcases I.ok.stk with e | ⟨e,hf⟩
 ·rw[e]at hb;exact qr _ hb
 ·rw[e]at hb
  unfold fu at hb;rw[List.filterMap_cons,hf]at hb;exact hb
theorem aj.stkFree (I:aj X pins σ H s):∀ b∈fu X.stack,H b=none:=fun b hb=>by
 rcases qC.mp (I.stkSub b hb) with e | hb
 ·rw[e];exact I.free
 ·obtain⟨_,o,ho,_⟩:=I.ok.funs.mem hb
  exact I.base.free b o ho (I.ok.frf b hb) fun z=>I.ok.exfs b z hb
theorem aj.step {g':Array GenState}{t':Nat}{d':Drawn}{ch:List Addr}(I:aj X pins σ H s)
  (hch:∀ b∈ch,(b∈X.ex\/X.s₀.heap.objs.size<=b)/\b≠X.env.locals/\(∀ x c,X.env.cells.lookup x=some c->c≠b)/\∀ p∈X.pn++pins,p.1≠b)
  (keep:∀ b o,b≠X.env.locals->b∉X.fs->b∉ch->s.heap.get? b=some o->H b=none->h'.get? b=some o)
  (slot:∀ b o,b≠X.env.locals->b∈X.fs->b∉ch->s.heap.get? b=some o->H b=none->∃ sl,h'.get? b=some { o with slots:=sl }) (free:∀ b o,b∉ch->s.heap.get? b=some o->H b=none->H' b=none)
  (there:∀ b o,b∉ch->s.heap.get? b=some o->∃ o',h'.get? b=some o')
  (tups:∀ b xs,H b=some (.tup xs)->H' b=some (.tup xs)) (frzs:∀ b o u,H b=some (.frz o u)->H' b=some (.frz o u)) (tbls:∀ b ps,H b=some (.tbl ps)->∃ more,H' b=some (.tbl (ps++more)))
  (ns:∀ m,s.heap.Ns X.env.locals m->h'.Ns X.env.locals m) (hok:d4 X.prog X.w H' h') (hg:AllBare g') :
  aj X pins σ H' { s with heap:=h',gens:=g',drawn:=d',toks:=t' }:=by
 have neL:∀ b o,X.s₀.heap.get? b=some o->b≠X.env.locals:=fun b o e=>qk (qp (qd e) I.ok.above)
 have neC:∀ b o,X.s₀.heap.get? b=some o->b∉X.ex->b∉ch:=fun b o e hx hb=>by
  rcases (hch b hb).1 with z | z
  ·exact hx z
  ·exact absurd (qp (qd e) z) (re _)
 have cellK:∀ x c,X.env.cells.lookup x=some c->∀ v,s.heap.IsCell c v->h'.IsCell c v:=fun x c e v ⟨o,ho,hd⟩=>by
  have nch:c∉ch:=fun z=>(hch c z).2.2.1 x c e rfl
  by_cases hc:c∈X.fs
  ·obtain⟨sl,q⟩:=slot c o (I.cne x c e) hc nch ho (I.freeC x c e)
   exact⟨_,q,hd⟩
  ·exact⟨o,keep c o (I.cne x c e) hc nch ho (I.freeC x c e),hd⟩
 refine⟨I.ok,I.os,hg,⟨fun b o e n hb hx=>?_,fun b o e n hb hx=>?_,fun b o e n hx=>?_,fun b o e hx=>?_,fun b xs e=>tups b xs (I.base.tups b xs e),fun b o xs e=>frzs b o xs (I.base.frzs b o xs e),fun b ps e=>?_⟩,?_,fun x c e=>?_,?_,fun x c e=>?_,fun p hp=>?_,hok,I.len⟩
 ·exact keep b o (neL b o e) hb (neC b o e hx) (I.base.keep b o e n hb hx) (I.base.free b o e n hx)
 ·obtain⟨sl,e1⟩:=I.base.slot b o e n hb hx
  obtain⟨sl',e2⟩:=slot b _ (neL b o e) hb (neC b o e hx) e1 (I.base.free b o e n hx);exact⟨sl',e2⟩
 ·obtain⟨o',e1⟩:=I.base.there b o e hx
  exact free b o' (neC b o e hx) e1 (I.base.free b o e n hx)
 ·obtain⟨o',e1⟩:=I.base.there b o e hx
  exact there b o' (neC b o e hx) e1
 ·obtain⟨m1,e1⟩:=I.base.tbls b ps e
  obtain⟨m2,e2⟩:=tbls b _ e1;exact⟨m1++m2,by rw[e2,Array.append_assoc]⟩
 ·obtain⟨m,hn,hl⟩:=I.loc
  refine⟨m,ns m hn,fun i x v e1 e2 e3=>?_⟩;obtain⟨u,r,l⟩:=hl i x v e1 e2 e3;refine⟨u,r,?_⟩;rcases l with l | ⟨k,c,e,z⟩
  ·exact .inl l
  ·exact .inr ⟨k,c,e,cellK x c e _ z⟩
 ·obtain⟨v,z⟩:=I.cell x c e
  exact⟨v,cellK x c e v z⟩
 ·obtain⟨m,⟨o,_,_,ho,_⟩,_⟩:=I.loc
  exact free _ o (fun z=>(hch _ z).2.1 rfl) ho I.free
 ·obtain⟨v,o,ho,hd⟩:=I.cell x c e
  exact free c o (fun z=>(hch c z).2.2.1 x c e rfl) ho (I.freeC x c e)
 ·obtain⟨e,n,ne,nf,d⟩:=I.pin p hp
  have nch:p.1∉ch:=fun z=>(hch p.1 z).2.2.2 p hp rfl;exact⟨keep p.1 p.2 ne nf nch e n,free p.1 p.2 nch e n,ne,nf,d⟩
theorem aj.un {t':Nat}(I:aj X pins σ H s)(u:Un X.fs [] H H' s.heap h')(hok:d4 X.prog X.w H' h'):aj X pins σ H' { s with heap:=h',toks:=t' }:=by
 obtain⟨m,⟨o,es,ep,ho,r⟩,_⟩:=id I.loc;obtain⟨sl,hL⟩:=u.any ho I.free (by simp)
 exact I.step (g':=s.gens) (d':=s.drawn) (ch:=[]) (fun _ z=>nomatch z) (fun b o _ hb _ e n=>u.keep b o e n hb (by simp)) (fun b o _ hb _ e n=>u.slot b o e n hb (by simp)) (fun b o _ e n=>u.free b o e n (by simp)) (fun b o _ e=>u.there b o e (by simp)) u.tups u.frzs u.tbls (fun m' hm=>by
  obtain⟨o',es',ep',ho',r'⟩:=hm;rw[ho]at ho';cases ho'
  exact⟨_,es',ep',hL,r'⟩) hok I.bare
theorem aj.call {g':Array GenState}{t':Nat}{d':Drawn}{ch:List Addr}(I:aj X pins σ H s)(u:Un (fu X.stack) ch H H' s.heap h')(hok:d4 X.prog X.w H' h')(hg:AllBare g')
  (hch:∀ b∈ch,(b∈X.ex\/X.s₀.heap.objs.size<=b)/\b≠X.env.locals/\(∀ x c,X.env.cells.lookup x=some c->c≠b)/\∀ p∈X.pn++pins,p.1≠b) :
  aj X pins σ H' { s with heap:=h',gens:=g',drawn:=d',toks:=t' }:=by
 obtain⟨m,⟨o,es,ep,ho,r⟩,_⟩:=id I.loc;obtain⟨sl,hL⟩:=u.any ho I.free fun z=>(hch _ z).2.1 rfl
 exact I.step (ch:=ch) hch (fun b o hL hb hc e n=>u.keep b o e n (fun z=>(qC.mp (I.stkSub b z)).elim hL hb) hc) (fun b o _ _ hc e n=>u.any e n hc) (fun b o hc e n=>u.free b o e n hc) (fun b o hc e=>u.there b o e hc) u.tups u.frzs u.tbls (fun m' hm=>by
  obtain⟨o',es',ep',ho',r'⟩:=hm;rw[ho]at ho';cases ho'
  exact⟨_,es',ep',hL,r'⟩) hok hg
theorem aj.turned {t':Nat}{it:Addr}(I:aj X pins σ H s)(k:∀ b o,b≠it->s.heap.get? b=some o->h'.get? b=some o)(hn:H it=none)(hL:it≠X.env.locals)
  (h1:it∈X.ex\/X.s₀.heap.objs.size<=it) (h2:∀ x c,X.env.cells.lookup x=some c->c≠it) (h3:∀ p∈X.pn++pins,p.1≠it):aj X pins σ H { s with heap:=h',toks:=t' }:=by
 have nit:∀ b u,H b=some u->b≠it:=fun b u e z=>by rw[z,hn]at e;cases e
 refine I.step (g':=s.gens) (d':=s.drawn) (ch:=[it]) (fun b hb=>?_) (fun b o _ _ hc e _=>k b o (fun z=>hc (by simp[z])) e) (fun b o _ _ hc e _=>⟨o.slots,k b o (fun z=>hc (by simp[z])) e⟩) (fun _ _ _ _ n=>n)
  (fun b o hc e=>⟨o,k b o (fun z=>hc (by simp[z])) e⟩) (fun _ _ e=>e) (fun _ _ _ e=>e) (fun b ps e=>⟨#[],by rw[e];simp⟩) (fun m hm=>?_) (fun b u e=>?_) I.bare
 ·have e:b=it:=by simpa using hb
  subst e;exact⟨h1,hL,h2,h3⟩
 ·obtain⟨o,es,ep,ho,r⟩:=hm
  exact⟨o,es,ep,k _ o (qK hL) ho,r⟩
 ·refine (I.hok b u e).stay (fun c v hc q=>k c v ?_ q) (fun _ q=>q) fun _ _ q=>q
  rcases hc with z | z
  ·rw[z];exact nit b u e
  ·exact nit c _ z
theorem aj.tok (I:aj X pins σ H s)(t:Nat):aj X pins σ H { s with toks:=t }:=I.un (h':=s.heap) (t':=t) Un.refl I.hok
theorem aj.kept {t':Nat}(I:aj X pins σ H s)(k:∀ b u,s.heap.get? b=some u->h'.get? b=some u):aj X pins σ H { s with heap:=h',toks:=t' }:=I.un (Un.kept k) (I.hok.kept k)
theorem aj.laid {a:Addr}{o:HO}{t':Nat}(I:aj X pins σ H s)(k:∀ b u,s.heap.get? b=some u->h'.get? b=some u)(hp:s.heap.objs.size<=a)(new:aQ X.prog X.w (aA H a o) h' a o) :
  aj X pins σ (aA H a o) { s with heap:=h',toks:=t' }:=I.un (Un.laid k hp (I.hok.fresh hp)) (I.hok.laid k hp new)
theorem aj.write {x e:Addr}{o:HO}{t':Nat}(I:aj X pins σ H s)(mu:oo (H x))(he:e=x\/H e=some (.own x))(k:∀ b u,b≠e->s.heap.get? b=some u->h'.get? b=some u)(heo:∃ u,h'.get? e=some u)
  (new:aQ X.prog X.w (aA H x o) h' x o):aj X pins σ (aA H x o) { s with heap:=h',toks:=t' }:=I.un (Un.write mu he k heo) (I.hok.write mu he k heo new)
theorem aj.pins_of {pins':List (Addr×Obj)}(I:aj X pins σ H s)(h:∀ p∈pins',s.heap.get? p.1=some p.2/\H p.1=none/\p.1≠X.env.locals/\p.1∉X.fs/\∀ v,p.2.data≠.cell v):aj X pins' σ H s :=
 ⟨I.ok,I.os,I.bare,I.base,I.loc,I.cell,I.free,I.freeC,fun p hp=>(qX.mp hp).elim (fun z=>I.pin p (List.mem_append_left _ z)) (h p),I.hok,I.len⟩
theorem ir {N:List Str}(hN:N.Nodup){i j:Nat}{x:Str}(a:N[i]? = some x)(b:N[j]? = some x):i=j:=by
 obtain⟨h1,e1⟩:=List.getElem?_eq_some_iff.mp a;obtain⟨h2,e2⟩:=List.getElem?_eq_some_iff.mp b;exact (List.getElem_inj hN).mp (e1.trans e2.symm)
theorem j9 {M:Model}{A:Around}{E:Value->Shared->Prop}{i:Nat}{x:Str}{v:V}{u:Value}{Q:Unit->Shared->Prop}(I:aj X pins σ H s)(hN:X.N.Nodup)(hi:X.N[i]? = some x)(hx:m6 X.env.scope x)(r:aF v u)
  (h:∀ s',aj X pins (σ.set i (some v)) H s'->(∃ a,Heap.SameBut a s.heap s'.heap/\(a=X.env.locals\/X.env.cells.lookup x=some a))->Q () s') (hf:X.fn x=true\/X.env.scope.names.lookup x=some .local:=by first | exact .inl rfl | exact .inr rfl | assumption):wpAny M A (storeName X.env x u) Q E s:=by
 obtain⟨m,hn,hl⟩:=id I.loc
 have hcls:(X.env.scope.kind == .class||(X.env.scope.kind == .module&&X.env.locals != X.env.globals))=false:=by rw[I.ok.kind];rfl
 have hiσ:i<σ.length:=by rw[I.len];exact (List.getElem?_eq_some_iff.mp hi).1
 have cne:=I.cne
 have tracked:∀ {a:Addr}{h':Heap},(∃ o,s.heap.get? a=some o/\H a=none)->Heap.SameBut a s.heap h'->d4 X.prog X.w H h':=fun {a h'} ha hs b ob e=>by
  obtain⟨_,_,hfree⟩:=ha;refine (I.hok b ob e).stay (fun c w' hc q=>(hs.2 c ?_).trans q) (fun _ q=>q) fun _ _ q=>q;rintro rfl;rcases hc with rfl | hc
  ·rw[hfree]at e;cases e
  ·rw[hfree]at hc;cases hc
 rcases hx with hk | hk
 ·refine wpAny_storeName_local hk hn (fun h' hn' hs=>?_) hcls
  obtain⟨oL,_,_,hoL,_⟩:=id hn;refine h _ ⟨I.ok,I.os,I.bare,⟨fun b o e n hb hx=>?_,fun b o e n hb hx=>?_,I.base.free,fun b o e hx=>?_,I.base.tups,I.base.frzs,I.base.tbls⟩,⟨_,hn',fun j y v' e1 e2 e3=>?_⟩,fun y c e=>?_,I.free,I.freeC,fun p hp=>?_,tracked ⟨oL,hoL,I.free⟩ hs,by simpa using I.len⟩ ⟨_,hs,.inl rfl⟩
  ·exact (hs.2 b (qk (qp (qd e) I.ok.above))).trans (I.base.keep b o e n hb hx)
  ·obtain⟨sl,e1⟩:=I.base.slot b o e n hb hx
   exact⟨sl,(hs.2 b (qk (qp (qd e) I.ok.above))).trans e1⟩
  ·obtain⟨o',e1⟩:=I.base.there b o e hx
   exact⟨o',(hs.2 b (qk (qp (qd e) I.ok.above))).trans e1⟩
  ·by_cases hj:j=i
   ·subst hj
    rw[hi]at e1;cases e1;rw[List.getElem?_set_self hiσ]at e2;cases e2;exact⟨u,r,.inl ⟨hk,by simp⟩⟩
   ·rw[List.getElem?_set_ne (qK hj)]at e2
    obtain⟨u',r',q⟩:=hl j y v' e1 e2 e3;refine⟨u',r',?_⟩;rcases q with ⟨k,e⟩ | ⟨k,c,e,z⟩
    ·refine .inl ⟨k,?_⟩
     have:y≠x:=fun e=>hj (ir hN e1 (e▸hi));simp[this,e]
    ·exact .inr ⟨k,c,e,z.sameBut hs (cne y c e)⟩
  ·obtain⟨w',z⟩:=I.cell y c e
   exact⟨w',z.sameBut hs (cne y c e)⟩
  ·obtain⟨e,n,ne,nf,d⟩:=I.pin p hp
   exact⟨(hs.2 p.1 ne).trans e,n,ne,nf,d⟩
 ·have hfn:X.fn x=true:=by
   rcases hf with z | z
   ·exact z
   ·rw[z]at hk;cases hk
  obtain⟨c,hc⟩:=I.ok.has x (.inl hk);obtain⟨w',z⟩:=I.cell x c hc;refine wpAny_storeName_cell I.ok.kind hk hc z (fun h' hc' hs=>?_);obtain⟨oc,hoc,hocd⟩:=id z;refine h { s with heap:=h' } ⟨I.ok,I.os,I.bare,⟨fun b o e n hb hx=>?_,fun b o e n hb hx=>?_,I.base.free,fun b o e hx=>?_,I.base.tups,I.base.frzs,I.base.tbls⟩,⟨m,hn.sameBut hs (qK (cne x c hc)),fun j y v' e1 e2 e3=>?_⟩,fun y c' e=>?_,I.free,I.freeC,fun p hp=>?_,tracked ⟨oc,hoc,I.freeC x c hc⟩ hs,by simpa using I.len⟩ ⟨c,hs,.inr hc⟩
  ·exact (hs.2 b (qk (qp (qd e) (I.ok.cab x c hfn hc)))).trans (I.base.keep b o e n hb hx)
  ·obtain⟨sl,e1⟩:=I.base.slot b o e n hb hx
   exact⟨sl,(hs.2 b (qk (qp (qd e) (I.ok.cab x c hfn hc)))).trans e1⟩
  ·obtain⟨o',e1⟩:=I.base.there b o e hx
   exact⟨o',(hs.2 b (qk (qp (qd e) (I.ok.cab x c hfn hc)))).trans e1⟩
  ·by_cases hj:j=i
   ·subst hj
    rw[hi]at e1;cases e1;rw[List.getElem?_set_self hiσ]at e2;cases e2;exact⟨u,r,.inr ⟨.inl hk,c,hc,hc'⟩⟩
   ·rw[List.getElem?_set_ne (qK hj)]at e2
    obtain⟨u',r',q⟩:=hl j y v' e1 e2 e3;refine⟨u',r',?_⟩;rcases q with q | ⟨k,c',e,z'⟩
    ·exact .inl q
    ·refine .inr ⟨k,c',e,z'.sameBut hs ?_⟩
     rintro rfl;exact hj (ir hN e1 (I.ok.inj _ _ _ e hc▸hi))
  ·by_cases hcc:c'=c
   ·subst hcc;exact⟨_,hc'⟩
   ·obtain⟨w2,z2⟩:=I.cell y c' e
    exact⟨w2,z2.sameBut hs hcc⟩
  ·obtain⟨e,n,ne,nf,d⟩:=I.pin p hp
   refine⟨(hs.2 p.1 ?_).trans e,n,ne,nf,d⟩;intro q;rw[q,hoc]at e;have q':oc=p.2:=qu e;exact d w' (by rw[<-q'];exact hocd)
theorem iF {M:Model}{A:Around}{E:Value->Shared->Prop}{i:Nat}{x:Str}{v:V}{u:Value}{Q:Unit->Shared->Prop}(I:aj X pins σ H s)(hN:X.N.Nodup)(hi:X.N[i]? = some x)(hx:m6 X.env.scope x)(r:aF v u)
  (h:∀ s',aj X pins (σ.set i (some v)) H s'->Q () s') (hf:X.fn x=true\/X.env.scope.names.lookup x=some .local:=by first | exact .inl rfl | exact .inr rfl | assumption):wpAny M A (storeName X.env x u) Q E s :=
 j9 I hN hi hx r (fun s' I' _=>h s' I') hf
theorem aj.call' {s':Shared}{ch:List Addr}(I:aj X pins σ H s)(ho:s'.os=s.os)(u:Un (fu X.stack) ch H H' s.heap s'.heap)(hok:d4 X.prog X.w H' s'.heap)(hg:AllBare s'.gens)
  (hch:∀ b∈ch,(b∈X.ex\/X.s₀.heap.objs.size<=b)/\b≠X.env.locals/\(∀ x c,X.env.cells.lookup x=some c->c≠b)/\∀ p∈X.pn++pins,p.1≠b):aj X pins σ H' s':=by
 obtain⟨h',g',d',t',o'⟩:=s';have e:o'=s.os:=ho;subst e;exact I.call (g':=g') (t':=t') (d':=d') u hok hg hch
end
abbrev XK:=Value->Option Addr->Hp->Prop
abbrev St:=List (Option V)
abbrev VK:=V->Hp->Prop
abbrev TE:=St->Hp->VK->Prop
abbrev TT:=St->Hp->(Bool->Hp->Prop)->Prop
abbrev TA:=St->Hp->(List V->Hp->Prop)->Prop
structure eI where
 nx:St->Hp->Prop
 rt:VK
 bk:St->Hp->Prop:=fun _ _=>False
 ct:St->Hp->Prop:=fun _ _=>False
abbrev TS:=eI->St->Hp->Prop
def EP (X:Cx)(pins:List (Addr×Obj))(σ:St)(Q:VK)(u:Value)(s':Shared):Prop:=∃ v H',aj X pins σ H' s'/\aF v u/\Q v H'
def TP (X:Cx)(pins:List (Addr×Obj))(σ:St)(Q:Bool->Hp->Prop)(b:Bool)(s':Shared):Prop:=∃ H',aj X pins σ H' s'/\Q b H'
def AP (X:Cx)(pins:List (Addr×Obj))(σ:St)(Q:List V->Hp->Prop)(us:List Value)(s':Shared):Prop:=∃ vs H',aj X pins σ H' s'/\az vs us/\Q vs H'
def SP (X:Cx)(pins:List (Addr×Obj))(D:eI)(f:Flow)(s':Shared):Prop :=
 match f with
 | .next=>∃ σ' H',aj X pins σ' H' s'/\D.nx σ' H'
 | .brk=>∃ σ' H',aj X pins σ' H' s'/\D.bk σ' H'
 | .cont=>∃ σ' H',aj X pins σ' H' s'/\D.ct σ' H'
 | .ret u=>∃ v σ' H',aj X pins σ' H' s'/\aF v u/\D.rt v H'
def PE (X:Cx)(e:Expr)(t:TE):Prop :=
 ∀ (pins:List (Addr×Obj))(s:Shared)(σ:St)(H:Hp)(Q:VK),aj X pins σ H s->t σ H Q->wpAny (model X.prog X.w) X.A (eval e X.env) (EP X pins σ Q) X.xe s
def PT (X:Cx)(e:Expr)(t:TT):Prop :=
 ∀ (pins:List (Addr×Obj))(s:Shared)(σ:St)(H:Hp)(Q:Bool->Hp->Prop),aj X pins σ H s->t σ H Q->wpAny (model X.prog X.w) X.A (isTrue e X.env (eval e X.env)) (TP X pins σ Q) X.xe s
def PW (X:Cx)(e:Expr)(t:TT):Prop :=
 ∀ (whole:Sem Value)(pins:List (Addr×Obj))(s:Shared)(σ:St)(H:Hp)(Q:Bool->Hp->Prop),aj X pins σ H s->t σ H Q->wpAny (model X.prog X.w) X.A (isTrue e X.env whole) (TP X pins σ Q) X.xe s
theorem PW.pt {X:Cx}{e:Expr}{t:TT}(h:PW X e t):PT X e t:=h _
def PA (X:Cx)(es:List Expr)(t:TA):Prop :=
 ∀ (pos:Pos)(pins:List (Addr×Obj))(s:Shared)(σ:St)(H:Hp)(Q:List V->Hp->Prop),aj X pins σ H s->t σ H Q->wpAny (model X.prog X.w) X.A (spliced (backTo pos (starEach es X.env))) (AP X pins σ Q) X.xe s
def PS (X:Cx)(st:Stmt)(t:TS):Prop :=
 ∀ (pins:List (Addr×Obj))(s:Shared)(σ:St)(H:Hp)(D:eI),aj X pins σ H s->t D σ H->wpAny (model X.prog X.w) X.A (exec st X.env) (SP X pins D) X.xe s
def iN (X:Cx)(st:List Stmt)(t:TS):Prop :=
 ∀ (pins:List (Addr×Obj))(s:Shared)(σ:St)(H:Hp)(D:eI),aj X pins σ H s->t D σ H->wpAny (model X.prog X.w) X.A (execs st X.env) (SP X pins D) X.xe s
theorem aU {α:Type}{t:Sem α}{Q Q':α->Shared->Prop}{M:Model}{A:Around}{E:Value->Shared->Prop}{s:Shared}(h:wpAny M A t Q E s)(hQ:∀ a s,Q a s->Q' a s):wpAny M A t Q' E s:=qx h hQ fun _ _ x=>x
section
variable {X:Cx}
inductive TV (i:Nat) (σ:St) (H:Hp) (Q:VK):Prop
 | mk (v:V) (e:σ[i]? = some (some v)) (h:Q v H):TV i σ H Q
def oh (i:Nat):TE:=fun σ H Q=>TV i σ H Q
def tC (v:V):TE:=fun _ H Q=>Q v H
theorem mL {i:Nat}{x:Str}{pos:Pos}(hN:X.N[i]? = some x)(hv:oP X.env.scope x)(hd:(x == ("__debug__" : Str))=false:=by decide)(hcd:(x == ("__classdict__" : Str))=false:=by decide):PE X (.Name x pos) (oh i):=by
 intro pins s σ H Q I h;obtain⟨v,e,h⟩:=h;obtain⟨m,hn,hl⟩:=I.loc;obtain⟨u,r,l⟩:=hl i x v hN e hv;have fin:EP X pins σ Q u s:=⟨v,H,I,r,h⟩;rcases l with ⟨hk,hm⟩ | ⟨hk,c,hc,hcell⟩
 ·exact wpAny_Name (wpAny_loadName_local I.ok.kind hk hn hm fin) hd
 ·rcases hk with hk | hk
  ·exact wpAny_Name (wpAny_loadName_cell I.ok.kind hk hc hcell fin) hd
  ·exact wpAny_Name (wpAny_loadName_free I.ok.kind hk hc hcell fin hcd) hd
theorem ae {i j pos}:PE X (.Constant (.int i) j pos) (tC (.int i)):=fun _ _ _ H _ I h=>wpAny_Constant_int ⟨.int i,H,I.tok _,⟨_,rfl⟩,h⟩
theorem iA {b j pos}:PE X (.Constant (.bool b) j pos) (tC (.bl b)):=fun _ _ _ H _ I h=>Constant_bool ⟨.bl b,H,I,rfl,h⟩
theorem mJ {j pos}:PE X (.Constant .none j pos) (tC .non):=fun _ _ _ H _ I h=>Constant_none ⟨.non,H,I,rfl,h⟩
theorem aD {x j pos}:PE X (.Constant (.str x) j pos) (tC (.str x)):=fun _ _ _ H _ I h=>Calls.Constant_str ⟨.str x,H,I.tok _,⟨_,rfl⟩,h⟩
def Gl (X:Cx)(x:Str):Prop:=X.env.kindOf x=some .globalImplicit
theorem fz {E:Value->Shared->Prop}{pins:List (Addr×Obj)}{s:Shared}{σ:St}{H:Hp}{x:Str}{u:Value}{pos:Pos}{Q:Value->Shared->Prop}(I:aj X pins σ H s)(hg:Gl X x)(hm:X.mg x=some u)(h:Q u s)
  (hd:(x == ("__debug__" : Str))=false:=by decide):wpAny (model X.prog X.w) X.A (eval (.Name x pos) X.env) Q E s :=
 Calls.Name_function_global I.ok.kind hg (Calls.loadGlobal_global (by rw[I.ok.glob];exact I.mod.glob.keeps I.bk) hm h) hd
theorem dN {E:Value->Shared->Prop}{pins:List (Addr×Obj)}{s:Shared}{σ:St}{H:Hp}{x:Str}{u:Value}{pos:Pos}{Q:Value->Shared->Prop}(I:aj X pins σ H s)(hg:Gl X x)(hm:X.mg x=none)(hv:bootBuiltins x=some u)(h:Q u s)
  (hn:x≠"__name__":=by decide) (hd:(x == ("__debug__" : Str))=false:=by decide):wpAny (model X.prog X.w) X.A (eval (.Name x pos) X.env) Q E s:=by
 obtain⟨mb,h1,h2⟩:=I.mod.blt;exact Calls.Name_function_global I.ok.kind hg (Calls.loadGlobal_builtin (by rw[I.ok.glob];exact I.mod.glob.keeps I.bk) hm (by rw[I.ok.blt];exact h1.keeps I.bk) ((h2 x hn).trans hv) h) hd
theorem lF {x:Str}{v:V}{u:Value}{pos:Pos}(hg:Gl X x)(hm:X.mg x=some u)(r:aF v u)(hd:(x == ("__debug__" : Str))=false:=by decide):PE X (.Name x pos) (tC v) :=
 fun _ _ _ H _ I h=>fz I hg hm ⟨v,H,I,r,h⟩ hd
theorem fA {x:Str}{v:V}{u:Value}{pos:Pos}(hg:Gl X x)(hm:X.mg x=none)(hv:bootBuiltins x=some u)(r:aF v u)(hn:x≠"__name__":=by decide)(hd:(x == ("__debug__" : Str))=false:=by decide):PE X (.Name x pos) (tC v) :=
 fun _ _ _ H _ I h=>dN I hg hm hv ⟨v,H,I,r,h⟩ hn hd
variable {a b:Expr}{ta tb:TE}{pos:Pos}
inductive oN (Q:Bool->Hp->Prop) (x:V) (H:Hp):Prop
 | mk (c:Bool) (e:x=.bl c) (h:Q c H):oN Q x H
def tB (t:TE):TT:=fun σ H Q=>t σ H fun x H1=>oN Q x H1
theorem gU {e:Expr}{t:TE}(h:PE X e t)(he:∀ whole,isTrue e X.env whole=(do let v <-whole;standAt e.pos;holding [v] (truthy v)):=by intro _;rfl):PT X e (tB t):=by
 intro pins s σ H Q I hw;refine isTrue_plain (aU (h pins s σ H _ I hw) fun v s1 ⟨x,H1,I1,r1,q1⟩=>?_) (he _);obtain⟨d,rfl,q⟩:=q1;cases r1;exact q4 ⟨H1,I1,q⟩
variable {tA tB':TT}{rest:List Expr}
def p0 (t u:TT):TT:=fun σ H Q=>t σ H fun c H1=>if c=true then Q true H1 else u σ H1 Q
def pd (t:TT):TT:=fun σ H Q=>t σ H fun c H1=>Q (!c) H1
theorem kQ (ha:PT X a tA):PW X (.BoolOp .Or [a] pos) tA:=by
 intro wh pins s σ H Q I h;refine isTrue_or (aU (ha pins s σ H Q I h) fun c s1 e=>?_)
 cases c with
 | false=>exact isTrue_or_nil e
 | true=>exact e
theorem kP (ha:PT X a tA)(hb:PW X (.BoolOp .Or (b::rest) pos) tB'):PW X (.BoolOp .Or (a::b::rest) pos) (p0 tA tB'):=by
 intro wh pins s σ H Q I h;refine isTrue_or (aU (ha pins s σ H _ I h) fun c s1 ⟨H1,I1,q1⟩=>?_)
 cases c with
 | true=>exact⟨H1,I1,q1⟩
 | false=>exact hb wh pins s1 σ H1 Q I1 q1
theorem jg (ha:PT X a tA):PT X (.UnaryOp .Not a pos) (pd tA):=by
 intro pins s σ H Q I h;exact isTrue_not (ha pins s σ H (fun c H1=>Q (!c) H1) I h)
def n0 (ta tb:TE):TE:=fun σ H Q=>ta σ H fun x H1=>∃ c,x=.bl c/\if c=true then tb σ H1 Q else Q (.bl false) H1
def pe (ta tb:TE):TE:=fun σ H Q=>ta σ H fun x H1=>∃ c,x=.bl c/\if c=true then Q (.bl true) H1 else tb σ H1 Q
def n8 (ta:TE):TE:=fun σ H Q=>ta σ H fun x H1=>∃ c,x=.bl c/\Q (.bl (!c)) H1
theorem jc {op}{t:TE}(h:PE X a t):PE X (.BoolOp op [a] pos) t:=fun pins s σ H Q I hw=>BoolOp_one (h pins s σ H Q I hw)
theorem kG (ha:PE X a ta)(hb:PE X (.BoolOp .And (b::rest) pos) tb):PE X (.BoolOp .And (a::b::rest) pos) (n0 ta tb):=by
 intro pins s σ H Q I h;refine BoolOp_and (aU (ha pins s σ H _ I h) fun v s1 ⟨x,H1,I1,r1,q1⟩=>?_);obtain⟨c,rfl,q1⟩:=q1;cases r1;refine q4 ?_
 cases c with
 | true=>exact hb pins s1 σ H1 Q I1 q1
 | false=>exact⟨.bl false,H1,I1,rfl,q1⟩
theorem nS (ha:PE X a ta)(hb:PE X (.BoolOp .Or (b::rest) pos) tb):PE X (.BoolOp .Or (a::b::rest) pos) (pe ta tb):=by
 intro pins s σ H Q I h;refine BoolOp_or (aU (ha pins s σ H _ I h) fun v s1 ⟨x,H1,I1,r1,q1⟩=>?_);obtain⟨c,rfl,q1⟩:=q1;cases r1;refine q4 ?_
 cases c with
 | false=>exact hb pins s1 σ H1 Q I1 q1
 | true=>exact⟨.bl true,H1,I1,rfl,q1⟩
theorem mK (ha:PE X a ta):PE X (.UnaryOp .Not a pos) (n8 ta):=by
 intro pins s σ H Q I h;refine UnaryOp_ (aU (ha pins s σ H _ I h) fun v s1 ⟨x,H1,I1,r1,q1⟩=>?_);obtain⟨c,rfl,q1⟩:=q1;cases r1;exact not_of (q4 ⟨.bl (!c),H1,I1,rfl,q1⟩)
end
def bA (K:PySem.W.Frag)(H:Hp)(a:Addr)(xs:List V):Prop :=
 Rd H a (.lst xs) \/
  ∃ (o:Obj)(its:Array Value)(n:Nat),K.lookup a=some o/\o.cls=.type "list"/\o.dict=none/\o.data=.seq its n/\its.size<=sizeLine/\az xs its.toList
def aG (K:PySem.W.Frag)(H:Hp)(a:Addr)(xs:List V):Prop :=
 Rd H a (.tup xs) \/
  ∃ (o:Obj)(its:Array Value)(n:Nat),K.lookup a=some o/\o.cls=.type "tuple"/\o.data=.seq its n/\its.size<=sizeLine/\az xs its.toList
def oQ:Value->Option V
 | .none=>some .non
 | .bool b=>some (.bl b)
 | .int i _=>some (.int i)
 | .str x _=>some (.str x)
 | .bytes b _=>some (.byt b)
 | .float b _=>some (.flt b)
 | .ref a=>some (.ref a)
 | .type n=>some (.ty n)
 | _=>none
theorem aF.abs {x:V}{u:Value}(r:aF x u):oQ u=some x:=by
 cases x with
 | non=>cases r;rfl
 | bl _=>cases r;rfl
 | int _=>obtain⟨t,rfl⟩:=r;rfl
 | str _=>obtain⟨t,rfl⟩:=r;rfl
 | byt _=>obtain⟨t,rfl⟩:=r;rfl
 | flt _=>obtain⟨t,rfl⟩:=r;rfl
 | ref _=>cases r;rfl
 | ty _=>cases r;rfl
theorem aF.inj {x y:V}{u:Value}(r:aF x u)(q:aF y u):x=y:=qu (r.abs.symm.trans q.abs)
theorem az.inj:∀ {xs ys:List V}{us:List Value},az xs us->az ys us->xs=ys
 | _,_,_,.nil,.nil=>rfl
 | _,_,_,.cons r t,.cons r' t'=>by rw[r.inj r',az.inj t t']
section
variable {X:Cx}{pins:List (Addr×Obj)}{σ:St}{H:Hp}{s:Shared}{a:Addr}{xs ys:List V}
theorem bA.of {K:PySem.W.Frag}(h:H a=some (.lst xs)):bA K H a xs:=.inl (.inl h)
theorem aG.of {K:PySem.W.Frag}(h:H a=some (.tup xs)):aG K H a xs:=.inl (.inl h)
theorem aj.list (I:aj X pins σ H s)(h:bA X.K H a xs):∃ its:List Value,az xs its/\PlainL s.heap a its.toArray/\xs.length<=sizeLine:=by
 rcases h with h | ⟨o,its,n,hk,hc,hd,hs,hz,r⟩
 ·obtain⟨z,its,n,r,e⟩:=h.ok I.hok
  exact⟨its,r,⟨_,n,e,rfl,rfl,rfl⟩,z⟩
 ·refine⟨its.toList,r,⟨o,n,I.kIn a o hk,hc,hd,by simpa using hs⟩,?_⟩
  have e:=r.length;simp only[Array.length_toList]at e;omega
theorem aj.tuple (I:aj X pins σ H s)(h:aG X.K H a xs):∃ its:List Value,az xs its/\IsTup s.heap a its.toArray/\xs.length<=sizeLine:=by
 rcases h with h | ⟨o,its,n,hk,hc,hs,hz,r⟩
 ·obtain⟨z,its,r,p⟩:=h.ok I.hok
  exact⟨its,r,p,z⟩
 ·refine⟨its.toList,r,⟨o,I.kIn a o hk,hc,n,by simpa using hs⟩,?_⟩
  have e:=r.length;simp only[Array.length_toList]at e;omega
theorem aj.list_inj (I:aj X pins σ H s)(h:bA X.K H a xs)(h':bA X.K H a ys):xs=ys:=by
 obtain⟨its,r,⟨o,n,e,_,_,d⟩,_⟩:=I.list h;obtain⟨its',r',⟨o',n',e',_,_,d'⟩,_⟩:=I.list h';rw[e]at e';cases e';rw[d]at d';injection d' with d1 _
 have:its=its':=by simpa using qL Array.toList d1
 subst this;exact r.inj r'
theorem aj.tuple_inj (I:aj X pins σ H s)(h:aG X.K H a xs)(h':aG X.K H a ys):xs=ys:=by
 obtain⟨its,r,⟨o,e,_,n,d⟩,_⟩:=I.tuple h;obtain⟨its',r',⟨o',e',_,n',d'⟩,_⟩:=I.tuple h';rw[e]at e';cases e';rw[d]at d';injection d' with d1 _
 have:its=its':=by simpa using qL Array.toList d1
 subst this;exact r.inj r'
end
abbrev Cx.wish (X:Cx)(E:Value->Shared->Prop):Cx:={ X with xe:=E }
abbrev Cx.nox (X:Cx):Cx:=X.wish fun _ _=>False
theorem Cx.Ok.wish {X:Cx}(ok:X.Ok)(E:Value->Shared->Prop):(X.wish E).Ok :=
 ⟨ok.mod,ok.kind,ok.glob,ok.blt,ok.above,ok.inj,ok.has,ok.cab,ok.hd,ok.frames,ok.stk,ok.exf,ok.bs,ok.bsz,ok.noex,ok.exfs,ok.funs,ok.frf⟩
theorem Cx.Ok.unwish {X:Cx}{E:Value->Shared->Prop}(ok:(X.wish E).Ok):X.Ok :=
 ⟨ok.mod,ok.kind,ok.glob,ok.blt,ok.above,ok.inj,ok.has,ok.cab,ok.hd,ok.frames,ok.stk,ok.exf,ok.bs,ok.bsz,ok.noex,ok.exfs,ok.funs,ok.frf⟩
section
variable {X:Cx}{pins:List (Addr×Obj)}{σ:St}{H:Hp}{s:Shared}{E:Value->Shared->Prop}
theorem aj.wish (I:aj X pins σ H s)(E:Value->Shared->Prop):aj (X.wish E) pins σ H s:=⟨I.ok.wish E,I.os,I.bare,I.base,I.loc,I.cell,I.free,I.freeC,I.pin,I.hok,I.len⟩
theorem aj.unwish (I:aj (X.wish E) pins σ H s):aj X pins σ H s:=⟨I.ok.unwish,I.os,I.bare,I.base,I.loc,I.cell,I.free,I.freeC,I.pin,I.hok,I.len⟩
theorem SP.unwish {D:eI}{f:Flow}{s':Shared}(h:SP (X.wish E) pins D f s'):SP X pins D f s':=by
 cases f with
 | next=>obtain⟨σ',H',I,q⟩:=h;exact⟨σ',H',I.unwish,q⟩
 | brk=>obtain⟨σ',H',I,q⟩:=h;exact⟨σ',H',I.unwish,q⟩
 | cont=>obtain⟨σ',H',I,q⟩:=h;exact⟨σ',H',I.unwish,q⟩
 | ret u=>obtain⟨v,σ',H',I,r,q⟩:=h;exact⟨v,σ',H',I.unwish,r,q⟩
theorem iN.nox {st:List Stmt}{t:TS}(h:iN X.nox st t):iN X st t:=fun pins s σ H D I hw =>
 qx (h pins s σ H D (I.wish _) hw) (fun _ _ q=>q.unwish) fun _ _ z=>False.elim z
end
section
variable {X:Cx}{st:Stmt}{rest:List Stmt}{t u:TS}{e:Expr}{te:TE}{pos:Pos}
def n6:TS:=fun D σ H=>D.nx σ H
def ph (t u:TS):TS:=fun D σ H=>t { D with nx:=u D } σ H
theorem ao:iN X [] n6:=fun _ _ σ H _ I h=>wpAny_execs_nil ⟨σ,H,I,h⟩
theorem aa (h1:PS X st t)(h2:iN X rest u):iN X (st::rest) (ph t u):=by
 intro pins s σ H D I h;refine wpAny_execs_cons (aU (h1 pins s σ H { D with nx:=u D } I h) fun f s1 q=>?_)
 cases f with
 | next =>
  obtain⟨σ',H',I',q⟩:=q;exact h2 pins s1 σ' H' D I' q
 | ret v=>exact q
 | brk=>exact q
 | cont=>exact q
theorem ag (h1:PS X st t):iN X [st] t:=by
 intro pins s σ H D I h;refine wpAny_execs_cons (aU (h1 pins s σ H D I h) fun f s1 q=>?_)
 cases f with
 | next=>exact wpAny_execs_nil q
 | ret v=>exact q
 | brk=>exact q
 | cont=>exact q
theorem aj.quiet {pins:List (Addr×Obj)}{σ:St}{H:Hp}{s:Shared}(I:aj X pins σ H s):interactive X.env=false:=by simp[interactive,I.ok.kind]
def n5 (te:TE):TS:=fun D σ H=>te σ H fun _ H1=>D.nx σ H1
theorem ek (he:PE X e te)(hs:swapsWith e none pos.line X.env=pure false:=by rfl):PS X (.Expr e pos) (n5 te):=by
 intro pins s σ H D I h;exact wpAny_Expr_any (aU (he pins s σ H _ I h) fun v s1 ⟨x,H1,I1,r1,q1⟩=>⟨σ,H1,I1,q1⟩) I.quiet hs
def pf (te:TE):TS:=fun D σ H=>te σ H D.rt
theorem ap (he:PE X e te):PS X (.Return (some e) pos) (pf te):=by
 intro pins s σ H D I h;exact wpAny_Return_some (aU (he pins s σ H _ I h) fun v s1 ⟨x,H1,I1,r1,q1⟩=>⟨x,σ,H1,I1,r1,q1⟩)
def pb (c:TT)(t u:TS):TS:=fun D σ H=>c σ H fun b H1=>if b=true then t D σ H1 else u D σ H1
theorem aK {c:Expr}{a b:List Stmt}{tc:TT}(hc:PT X c tc)(ha:iN X a t)(hb:iN X b u):PS X (.If c a b pos) (pb tc t u):=by
 intro pins s σ H D I h;refine wpAny_If (aU (hc pins s σ H _ I h) fun d s1 ⟨H1,I1,q1⟩=>?_)
 cases d with
 | true=>exact ha pins s1 σ H1 D I1 q1
 | false=>exact hb pins s1 σ H1 D I1 q1
def kY:TS:=fun _ _ _=>False
theorem kN:PS X st kY:=fun _ _ _ _ _ _ h=>h.elim
theorem aV {sts:List Stmt}:iN X sts kY:=fun _ _ _ _ _ _ h=>h.elim
end
abbrev TG:=V->St->Hp->(St->Hp->Prop)->Prop
abbrev lf:=List V->St->Hp->(St->Hp->Prop)->Prop
def PG (X:Cx)(target:Expr)(t:TG):Prop :=
 ∀ (pins:List (Addr×Obj))(s:Shared)(σ:St)(H:Hp)(v:V)(u:Value)(Q:St->Hp->Prop),aj X pins σ H s->aF v u->t v σ H Q ->
  wpAny (model X.prog X.w) X.A (assign target X.env u) (fun _ s'=>∃ σ' H',aj X pins σ' H' s'/\Q σ' H') X.xe s
def nl (X:Cx)(ts:List Expr)(t:lf):Prop :=
 ∀ (pins:List (Addr×Obj))(s:Shared)(σ:St)(H:Hp)(vs:List V)(us:List Value)(Q:St->Hp->Prop),aj X pins σ H s->az vs us->t vs σ H Q ->
  wpAny (model X.prog X.w) X.A (assignInOrder ((assignEach ts X.env).map (·.2)) us) (fun _ s'=>∃ σ' H',aj X pins σ' H' s'/\Q σ' H') X.xe s
section
variable {X:Cx}{pos:Pos}
def jC (i:Nat):TG:=fun v σ H Q=>Q (σ.set i (some v)) H
theorem fC {i:Nat}{x:Str}(hN:X.N.Nodup)(hi:X.N[i]? = some x)(hx:m6 X.env.scope x)(hf:X.fn x=true\/X.env.scope.names.lookup x=some .local:=by first | exact .inl rfl | exact .inr rfl | assumption):PG X (.Name x pos) (jC i):=by
 intro pins s σ H v u Q I r h;exact wpAny_assign_Name (iF I hN hi hx r (fun s' I'=>⟨_,H,I',h⟩) hf)
def oV:lf:=fun vs σ H Q=>vs=[]/\Q σ H
inductive GC (t:TG) (u:lf) (vs:List V) (σ:St) (H:Hp) (Q:St->Hp->Prop):Prop
 | mk (v:V) (r:List V) (e:vs=v::r) (h:t v σ H fun σ' H'=>u r σ' H' Q):GC t u vs σ H Q
def nv (t:TG)(u:lf):lf:=fun vs σ H Q=>GC t u vs σ H Q
theorem fD:nl X [] oV:=by
 intro pins s σ H vs us Q I r h;obtain⟨e,h⟩:=h;subst e;cases r;exact assignInOrder_nil ⟨σ,H,I,h⟩
theorem bN {e:Expr}{es:List Expr}{t:TG}{u:lf}(h1:PG X e t)(h2:nl X es u)
  (hs:(assignEach (e::es) X.env).map (·.2)=assign e X.env::(assignEach es X.env).map (·.2):=by rfl):nl X (e::es) (nv t u):=by
 intro pins s σ H vs us Q I r h;obtain⟨v,vr,e1,h⟩:=h;subst e1
 cases r with
 | cons r rr =>
  rw[hs];refine assignInOrder_cons (aU (h1 pins s σ H _ _ _ I r h) fun _ s1 ⟨σ1,H1,I1,q1⟩=>?_);exact h2 pins s1 σ1 H1 _ _ Q I1 rr q1
inductive GT (K:PySem.W.Frag) (n:Nat) (t:lf) (v:V) (σ:St) (H:Hp) (Q:St->Hp->Prop):Prop
 | mk (a:Addr) (xs:List V) (e:v=.ref a) (q:aG K H a xs) (l:xs.length=n) (h:t xs σ H Q):GT K n t v σ H Q
def ny (K:PySem.W.Frag)(n:Nat)(t:lf):TG:=fun v σ H Q=>GT K n t v σ H Q
theorem gR {es:List Expr}{k:Nat}{t:lf}{n:Nat}(hc:X.calm=true)(h:nl X es t)
  (hn:(assignEach es X.env).length=n:=by rfl) (hst:(assignEach es X.env).findIdx? (·.1)=none:=by rfl):PG X (.Tuple es k pos) (ny X.K n t):=by
 intro pins s σ H v u Q I r hw;obtain⟨a,xs,e1,hq,hl,hw⟩:=hw;subst e1;cases r;obtain⟨its,rv,ht,hz⟩:=I.tuple hq;refine assign_Tuple_tuple (I.ok.hd hc) ht (by simp[hn,<-hl,rv.length]) hst fun h' hx=>?_;have I1:aj X pins σ H { s with heap:=h' }:=I.kept (t':=s.toks) fun b o e=>hx b o (qk (qd e)) e;exact h pins _ σ H xs _ Q I1 (by simpa using rv) hw
def mT (te:TE)(g:TG):TS:=fun D σ H=>te σ H fun x H1=>g x σ H1 D.nx
theorem mO {tg e:Expr}{te:TE}{g:TG}(he:PE X e te)(hg:PG X tg g)(hs:swapsWithSole [tg] e pos.line X.env=pure false:=by rfl)(hw:swappedStores [tg] e X.env=pure none:=by rfl)
  (h1:(assignEach [tg] X.env).map (·.2)=[assign tg X.env]:=by rfl):PS X (.Assign [tg] e pos) (mT te g):=by
 intro pins s σ H D I h;refine wpAny_Assign_stores (aU (he pins s σ H _ I h) fun v s1 ⟨x,H1,I1,r1,q1⟩=>?_) hs hw;rw[h1];exact aU (hg pins s1 σ H1 x v _ I1 r1 q1) fun _ s2 q=>q
theorem bP {i:Nat}{x:Str}{e:Expr}{te:TE}{pos':Pos}(hN:X.N.Nodup)(hi:X.N[i]? = some x)(hx:m6 X.env.scope x)(he:PE X e te)(hs:swapsWith e (some (.Name x pos')) pos.line X.env=pure false:=by rfl)(hf:X.fn x=true\/X.env.scope.names.lookup x=some .local:=by first | exact .inl rfl | exact .inr rfl | assumption) :
  PS X (.Assign [.Name x pos'] e pos) (mT te (jC i)):=by
 intro pins s σ H D I h;refine wpAny_Assign_Name (aU (he pins s σ H _ I h) fun v s1 ⟨y,H1,I1,r1,q1⟩=>?_) hs;exact iF I1 hN hi hx r1 (fun s2 I2=>⟨_,H1,I2,q1⟩) hf
end
structure It where
 go:Nat->Hp->Prop
 yld:Nat->Hp->V->Hp->Prop
 stop:Nat->Hp->Prop
def cT (X:Cx)(pins:List (Addr×Obj))(H:Hp)(b:Addr):Prop :=
 H b=none/\b≠X.env.locals/\b∉X.fs/\(b∈X.ex\/X.s₀.heap.objs.size<=b)/\(∀ x c,X.env.cells.lookup x=some c->c≠b)/\∀ p∈X.pn++pins,p.1≠b
theorem aj.fpOk {X:Cx}{pins:List (Addr×Obj)}{σ:St}{H H':Hp}{s:Shared}{b:Addr}(I:aj X pins σ H s)(hb:s.heap.objs.size<=b)(hn:H' b=none):cT X pins H' b:=by
 refine⟨hn,qA (qp I.lt hb),I.nofs hb,.inr (qQ I.sz hb),fun x c e z=>?_,fun p hp z=>?_⟩
 ·obtain⟨v,q⟩:=I.cell x c e
  exact absurd (qp q.lt (by rw[z];exact hb)) (re _)
 ·exact absurd (qp (qd (I.pin p hp).1) (by rw[z];exact hb)) (re _)
structure jQ (P:Program)(w:World)(K:PySem.W.Frag)(tg:Expr)(J:It)(fp:List Addr)(it:Addr)(tn:Nat->Heap->Prop):Prop where
 mem:it∈fp
 obj:∀ i h,tn i h->∀ b∈fp,∃ o,h.get? b=some o/\∀ v,o.data≠.cell v
 keep:∀ i h h',tn i h->(∀ b∈fp,∀ o,h.get? b=some o->h'.get? b=some o)->tn i h'
 item:∀ (X:Cx),X.prog=P->X.w=w->X.K=K->X.calm=true->∀ (i:Nat)(pins:List (Addr×Obj))(s:Shared)(σ:St)(H:Hp)(E:Value->Shared->Prop),aj X pins σ H s->(∀ b∈fp,cT X pins H b)->tn i s.heap->J.go i H ->
  wpAny (model P w) X.A (pyNext (.ref it)) (fun r s1=>∃ u,r=some u /\
   wpAny (model P w) X.A (letOwnedTupleGo tg (.ref it) u) (fun _ s2=>∃ x H',aj X pins σ H' s2/\aF x u/\J.yld i H x H'/\tn (i+1) s2.heap/\∀ b∈fp,H' b=none) E s1) E s
 done:∀ (X:Cx),X.prog=P->X.w=w->X.K=K->X.calm=true->∀ (i:Nat)(pins:List (Addr×Obj))(s:Shared)(σ:St)(H:Hp)(E:Value->Shared->Prop),aj X pins σ H s->(∀ b∈fp,cT X pins H b)->tn i s.heap->J.stop i H ->
  wpAny (model P w) X.A (pyNext (.ref it)) (fun r s1=>r=none/\aj X pins σ H s1) E s
 self:∀ (A:Around)(i:Nat)(s:Shared)(Q:Value->Shared->Prop)(E:Value->Shared->Prop),tn i s.heap->Q (.ref it) s->wpAny (model P w) A (pyIter (.ref it)) Q E s
abbrev TI:=St->Hp->(It->Hp->Prop)->Prop
def pz (X:Cx)(pins:List (Addr×Obj))(σ:St)(tg:Expr)(R:It->Hp->Prop)(itv:Value)(s2:Shared):Prop :=
 ∃ (it:Addr)(fp:List Addr)(tn:Nat->Heap->Prop)(J:It)(H':Hp),itv=.ref it/\aj X pins σ H' s2/\jQ X.prog X.w X.K tg J fp it tn/\tn 0 s2.heap/\(∀ b∈fp,cT X pins H' b)/\R J H'
def PI (X:Cx)(tg iter:Expr)(wi:TI):Prop :=
 ∀ (pins:List (Addr×Obj))(s:Shared)(σ:St)(H:Hp)(R:It->Hp->Prop),aj X pins σ H s->wi σ H R ->
  wpAny (model X.prog X.w) X.A (eval iter X.env) (fun v s1=>wpAny (model X.prog X.w) X.A (pyIter v) (pz X pins σ tg R) X.xe s1) X.xe s
theorem ku {M:Model}{A:Around}{E:Value->Shared->Prop}{s:Shared}{tg:Expr}{it:Addr}{u:Value}{o:Obj}{n:String}{vs:Array Value}{Q:Unit->Shared->Prop}(ho:s.heap.get? it=some o)(hc:o.cls=.type n)(hd:o.data=.fields vs)
  (hn:["enumerate","zip","dict_itemiterator","dict_reverseitemiterator","odict_iterator","itertools.zip_longest","itertools.pairwise"].contains n=false) (hQ:Q () s):wpAny M A (letOwnedTupleGo tg (.ref it) u) Q E s:=by
 unfold letOwnedTupleGo
 cases tg<;>first
  | exact qe hQ
  | (cases u<;>first
    | exact qe hQ
    | (refine qc (wpAny_load ho ?_)
       rw[hc,hd]
       show wpAny M A (if (["enumerate","zip","dict_itemiterator","dict_reverseitemiterator","odict_iterator","itertools.zip_longest","itertools.pairwise"].contains n&&vs[0]? == some (rawInt _))=true then _ else _) Q E s
       rw[qi (by intro h;rw[hn,Bool.false_and]at h;cases h)]
       exact qe hQ))
def ni (K:PySem.W.Frag)(a:Addr):It :=
 ⟨fun i H=>∃ xs x,bA K H a xs/\xs[i]? = some x,fun i H x H'=>H'=H/\∀ xs,bA K H a xs->xs[i]? = some x,fun i H=>∃ xs,bA K H a xs/\xs.length<=i⟩
def nj (K:PySem.W.Frag)(a:Addr):It :=
 ⟨fun i H=>∃ xs x,aG K H a xs/\xs[i]? = some x,fun i H x H'=>H'=H/\∀ xs,aG K H a xs->xs[i]? = some x,fun i H=>∃ xs,aG K H a xs/\xs.length<=i⟩
def m5 (lo:Int)(n:Nat):It:=⟨fun i _=>i<n,fun i H x H'=>H'=H/\x=.int (lo+i),fun i _=>n<=i⟩
theorem kb {P:Program}{w:World}{K:PySem.W.Frag}{tg:Expr}(a it:Addr):jQ P w K tg (ni K a) [it] it (fun i h=>h.IsListIter it a i) where
 mem:=by simp
 obj:=fun i h st b hb=>by
  have e:b=it:=by simpa using hb
  subst e;obtain⟨o,e,c,d⟩:=st;exact⟨o,e,fun v z=>by rw[d]at z;cases z⟩
 keep:=fun i h h' st k=>st.at fun o e=>k it (by simp) o e
 item:=by
  intro X hP hw hK hc i pins s σ H E I hf st hg;subst hP hw hK;obtain⟨xs,x,hq,hx⟩:=hg;obtain⟨its,rv,p,hz⟩:=I.list hq;obtain⟨u,hu,ru⟩:=rv.get hx;obtain⟨f0,f1,f2,f3,f4,f5⟩:=hf it (by simp);refine wpAny_pyNext_list_item st p.isList (x:=u) (by simpa using hu) fun h' st' sb=>?_;have I1:aj X pins σ H { s with heap:=h' }:=I.turned (t':=s.toks) (fun b o hb e=>(sb.2 b hb).trans e) f0 f1 f3 f4 f5;obtain⟨o,e,c,d⟩:=id st';exact⟨u,rfl,ku (s:={ s with heap:=h' }) e c d (by decide) ⟨x,H,I1,ru,⟨rfl,fun ys hy=>by rw[I.list_inj hy hq];exact hx⟩,st',fun b hb=>(hf b hb).1⟩⟩
 done:=by
  intro X hP hw hK hc i pins s σ H E I hf st hg;subst hP hw hK;obtain⟨xs,hq,hx⟩:=hg;obtain⟨its,rv,p,hz⟩:=I.list hq;obtain⟨f0,f1,f2,f3,f4,f5⟩:=hf it (by simp);have hl:=rv.length;exact wpAny_pyNext_list_end (I.ok.hd hc) st p.isList (by simp;omega) fun h' eb=>⟨rfl,I.turned (t':=s.toks) (fun b o hb e=>eb b o hb e) f0 f1 f3 f4 f5⟩
 self:=fun _ _ _ _ _ st h=>wpAny_pyIter_listiter st h
theorem jo {P:Program}{w:World}{K:PySem.W.Frag}{tg:Expr}(a it:Addr):jQ P w K tg (nj K a) [it] it (fun i h=>h.IsTupleIter it a i) where
 mem:=by simp
 obj:=fun i h st b hb=>by
  have e:b=it:=by simpa using hb
  subst e;obtain⟨o,e,c,d⟩:=st;exact⟨o,e,fun v z=>by rw[d]at z;cases z⟩
 keep:=fun i h h' st k=>st.at fun o e=>k it (by simp) o e
 item:=by
  intro X hP hw hK hc i pins s σ H E I hf st hg;subst hP hw hK;obtain⟨xs,x,hq,hx⟩:=hg;obtain⟨its,rv,p,hz⟩:=I.tuple hq;obtain⟨u,hu,ru⟩:=rv.get hx;obtain⟨f0,f1,f2,f3,f4,f5⟩:=hf it (by simp);refine wpAny_pyNext_tuple_item st (show s.heap.IsTuple a its.toArray from p) (x:=u) (by simpa using hu) fun h' st' sb=>?_;have I1:aj X pins σ H { s with heap:=h' }:=I.turned (t':=s.toks) (fun b o hb e=>(sb.2 b hb).trans e) f0 f1 f3 f4 f5;obtain⟨o,e,c,d⟩:=id st';exact⟨u,rfl,ku (s:={ s with heap:=h' }) e c d (by decide) ⟨x,H,I1,ru,⟨rfl,fun ys hy=>by rw[I.tuple_inj hy hq];exact hx⟩,st',fun b hb=>(hf b hb).1⟩⟩
 done:=by
  intro X hP hw hK hc i pins s σ H E I hf st hg;subst hP hw hK;obtain⟨xs,hq,hx⟩:=hg;obtain⟨its,rv,p,hz⟩:=I.tuple hq;obtain⟨f0,f1,f2,f3,f4,f5⟩:=hf it (by simp);have hl:=rv.length;exact wpAny_pyNext_tuple_end (I.ok.hd hc) st (show s.heap.IsTuple a its.toArray from p) (by simp;omega) fun h' eb=>⟨rfl,I.turned (t':=s.toks) (fun b o hb e=>eb b o hb e) f0 f1 f3 f4 f5⟩
 self:=fun _ _ _ _ _ st h=>wpAny_pyIter_tupleiter st h
theorem jn {P:Program}{w:World}{K:PySem.W.Frag}{tg:Expr}(it:Addr)(lo:Int)(n:Nat):jQ P w K tg (m5 lo n) [it] it (fun i h=>IsRangeIter h it (lo+(i:Nat)*1) ((n:Int)-(i:Nat)) 1) where
 mem:=by simp
 obj:=fun i h st b hb=>by
  have e:b=it:=by simpa using hb
  subst e
  exact⟨_,st,fun v z=>by
   have z':Data.fields _=Data.cell v:=z
   cases z'⟩
 keep:=fun i h h' st k=>k it (by simp) _ st
 item:=by
  intro X hP hw hK hc i pins s σ H E I hf st hg;subst hP hw hK;obtain⟨f0,f1,f2,f3,f4,f5⟩:=hf it (by simp);have W:=Walks.range (prog:=X.prog) (w:=X.w) (I.ok.hd hc) it lo 1 n;refine W.item i s _ _ hg st fun v h' tk hv st' kk=>?_;obtain⟨t,rfl⟩:=hv;have I1:aj X pins σ H { s with heap:=h',toks:=tk }:=I.turned (fun b o hb e=>kk b o (by simpa using hb) e) f0 f1 f3 f4 f5;refine⟨_,rfl,ku (s:={ s with heap:=h',toks:=tk }) (n:="range_iterator") st' rfl rfl (by decide) ⟨.int (lo+i),H,I1,⟨t,?_⟩,⟨rfl,rfl⟩,st',fun b hb=>(hf b hb).1⟩⟩;rw[Int.mul_one]
 done:=by
  intro X hP hw hK hc i pins s σ H E I hf st hg;subst hP hw hK;obtain⟨f0,f1,f2,f3,f4,f5⟩:=hf it (by simp);exact wpAny_pyNext_range_end (I.ok.hd hc) st (by have:n<=i:=hg;omega) fun h' eb=>⟨rfl,I.turned (t':=s.toks) (fun b o hb e=>eb b o hb e) f0 f1 f3 f4 f5⟩
 self:=fun _ _ _ _ _ st h=>wpAny_pyIter_rangeiter st h
section
variable {X:Cx}{tg:Expr}
inductive pq (K:PySem.W.Frag) (R:It->Hp->Prop) (x:V) (H:Hp):Prop
 | mk (a:Addr) (e:x=.ref a) (q:∃ xs,bA K H a xs) (h:R (ni K a) H):pq K R x H
def nz (K:PySem.W.Frag)(tl:TE):TI:=fun σ H R=>tl σ H fun x H1=>pq K R x H1
def nB (K:PySem.W.Frag)(tl:TE):TI:=fun σ H R=>tl σ H fun x H1=>∃ a,x=.ref a/\(∃ xs,aG K H1 a xs)/\R (nj K a) H1
theorem fE {l:Expr}{tl:TE}(hl:PE X l tl):PI X tg l (nz X.K tl):=by
 intro pins s σ H R I h;refine aU (hl pins s σ H _ I h) fun v s1 ⟨x,H1,I1,r1,q1⟩=>?_;obtain⟨a,e,⟨xs,hq⟩,q⟩:=q1;subst e;cases r1;obtain⟨its,rv,p,hz⟩:=I1.list hq;refine wpAny_pyIter_list p.isList ?_;refine⟨s1.heap.objs.size,[s1.heap.objs.size],_,_,H1,rfl,I1.kept (t':=s1.toks) fun b o e=>Heap.get?_push_of_some _ e,kb a _,⟨_,Heap.get?_push_size _ rfl,rfl,rfl⟩,fun b hb=>?_,q⟩
 have e:b=s1.heap.objs.size:=by simpa using hb
 subst e;exact I1.fpOk (qj _) (I1.hok.fresh (qj _))
theorem kL {l:Expr}{tl:TE}(hl:PE X l tl):PI X tg l (nB X.K tl):=by
 intro pins s σ H R I h;refine aU (hl pins s σ H _ I h) fun v s1 ⟨x,H1,I1,r1,q1⟩=>?_;obtain⟨a,e,⟨xs,hq⟩,q⟩:=q1;subst e;cases r1;obtain⟨its,rv,p,hz⟩:=I1.tuple hq;refine rh (show s1.heap.IsTuple a its.toArray from p) ?_;refine⟨s1.heap.objs.size,[s1.heap.objs.size],_,_,H1,rfl,I1.kept (t':=s1.toks) fun b o e=>Heap.get?_push_of_some _ e,jo a _,⟨_,Heap.get?_push_size _ rfl,rfl,rfl⟩,fun b hb=>?_,q⟩
 have e:b=s1.heap.objs.size:=by simpa using hb
 subst e;exact I1.fpOk (qj _) (I1.hok.fresh (qj _))
theorem kS {pins:List (Addr×Obj)}{σ:St}{H:Hp}{s:Shared}{R:It->Hp->Prop}{E:Value->Shared->Prop}{lo hi:Int}{t u v:Tok}{tk:Nat}(I:aj X pins σ H s)(h1 : -(2 ^ 62)<=lo)(h2:lo<2 ^ 62)(h3 : -(2 ^ 62)<=hi)(h4:hi<2 ^ 62)
  (q:R (m5 lo (hi-lo).toNat) H):wpAny (model X.prog X.w) X.A (pyIter (.ref s.heap.objs.size)) (pz X pins σ tg R) E { s with heap:=s.heap.push { cls:=.type "range",data:=.fields #[.int lo t,.int hi u,.int 1 v] },toks:=tk }:=by
 refine wpAny_pyIter_range (IsRange.new ..) (small_one h1 h2 h3 h4) ?_;have I1:aj X pins σ H { s with heap:=s.heap.push { cls:=.type "range",data:=.fields #[.int lo t,.int hi u,.int 1 v] },toks:=tk }:=I.kept fun b o e=>Heap.get?_push_of_some _ e
 refine⟨(s.heap.push { cls:=.type "range",data:=.fields #[.int lo t,.int hi u,.int 1 v] }).objs.size,[(s.heap.push { cls:=.type "range",data:=.fields #[.int lo t,.int hi u,.int 1 v] }).objs.size],_,_,H,rfl,
  I1.kept (t':=tk) fun b o e=>Heap.get?_push_of_some _ e,jn _ lo (hi-lo).toNat,?_,fun b hb=>?_,q⟩
 ·have e1:lo+((0:Nat):Int)*1=lo:=by simp
  have e2:(((hi-lo).toNat:Nat):Int)-((0:Nat):Int)=Builtin.Range.rangeSize lo hi 1:=by rw[rangeSize_one];split<;>omega
  show IsRangeIter _ _ (lo+((0:Nat):Int)*1) ((((hi-lo).toNat:Nat):Int)-((0:Nat):Int)) 1
  rw[e1,e2];exact Heap.get?_push_size _ rfl
 ·have e:b=(s.heap.push { cls:=.type "range",data:=.fields #[.int lo t,.int hi u,.int 1 v] }).objs.size:=by simpa using hb
  subst e;exact I1.fpOk (qj _) (I1.hok.fresh (qj _))
def nA (ta:TA):TI:=fun σ H R=>ta σ H fun vs H1=>∃ j:Int,vs=[.int j]/\-(2 ^ 62)<=j/\j<2 ^ 62/\R (m5 0 j.toNat) H1
theorem dq {a:Expr}{ta:TA}{p pos:Pos}(hg:Gl X "range")(hm:X.mg "range" = none)(ha:PA X [a] ta)(hs:starEach [a] X.env=[(false,eval a X.env)]:=by rfl):PI X tg (.Call (.Name "range" p) [a] [] pos) (nA ta):=by
 intro pins s σ H R I h;refine Call_ (dN I hg hm boot_range (qM (aU (ha pos pins s σ H _ I h) fun us s1 ⟨vs,H1,I1,r1,q1⟩=>?_) hs rfl));obtain⟨j,e,q1,q2,q⟩:=q1;subst e
 cases r1 with
 | cons r rr =>
  cases rr;obtain⟨t,rfl⟩:=r;exact call_range_1 (kS I1 (by omega) (by omega) q1 q2 (by simpa using q))
def o9 (wi:TI)(g:TG)(tb:TS):TS:=fun D σ H=>wi σ H fun J H1=>∃ W:Nat->Nat->St->Hp->Prop,(∃ m,W 0 m σ H1)/\∀ i m σ H,W i m σ H ->
 (J.stop i H/\D.nx σ H)\/(J.go i H/\∃ N:St->Hp->Prop,(∀ σ' H',N σ' H'->∃ m',m'<m/\W (i+1) m' σ' H')/\∀ x H',J.yld i H x H'->g x σ H' fun σ2 H2=>tb { D with nx:=N,ct:=N,bk:=D.nx } σ2 H2)
def dS (fp:List Addr)(h:Heap):List (Addr×Obj):=fp.filterMap fun b=>(h.get? b).map fun o=>(b,o)
theorem aZ {fp:List Addr}{h:Heap}{b:Addr}{o:Obj}(hb:b∈fp)(e:h.get? b=some o):(b,o)∈dS fp h:=List.mem_filterMap.mpr ⟨b,hb,by rw[e];rfl⟩
theorem j5 {fp:List Addr}{h:Heap}{p:Addr×Obj}(hp:p∈dS fp h):p.1∈fp/\h.get? p.1=some p.2:=by
 obtain⟨b,hb,e⟩:=List.mem_filterMap.mp hp
 cases q:h.get? b with
 | none=>rw[q]at e;cases e
 | some o =>
  rw[q]at e;have e':(b,o)=p:=qu e;subst e';exact⟨hb,q⟩
theorem aj.pinned {pins:List (Addr×Obj)}{σ:St}{H:Hp}{s:Shared}{fp:List Addr}(I:aj X pins σ H s)(hf:∀ b∈fp,cT X pins H b)(ho:∀ b∈fp,∃ o,s.heap.get? b=some o/\∀ v,o.data≠.cell v):aj X (pins++dS fp s.heap) σ H s :=
 I.pins_of fun p hp=>(qX.mp hp).elim (fun z=>I.pin p (qo _ z)) fun z=>by
  obtain⟨hb,e⟩:=j5 z;obtain⟨f0,f1,f2,_⟩:=hf p.1 hb;obtain⟨o,e',d⟩:=ho p.1 hb;rw[e]at e';cases e';exact⟨e,f0,f1,f2,d⟩
theorem aj.unpinned {pins pl:List (Addr×Obj)}{σ:St}{H:Hp}{s:Shared}(I:aj X (pins++pl) σ H s):aj X pins σ H s:=I.pins_of fun p hp=>I.pin p (qo _ (List.mem_append_left _ hp))
theorem eR {iter:Expr}{body:List Stmt}{wi:TI}{g:TG}{tb:TS}{pos:Pos}(hp:PassesOwn (model X.prog X.w) X.A X.env X.xe)(hc:X.calm=true)(hi:PI X tg iter wi)(hg:PG X tg g)(hb:iN X body tb)
  (hs:∀ x,foldedSetIterable iter X.env x=pure x:=by intro _;rfl):PS X (.For tg iter body [] pos) (o9 wi g tb):=by
 intro pins s σ H D I h;refine wpAny_For (aU (hi pins s σ H _ I h) fun v s1 h1=>aU h1 fun itv s2 h2=>?_) hs;obtain⟨it,fp,tn,J,H2,e,I2,T,st2,f2,W,⟨m0,w0⟩,turn⟩:=h2;subst e;have stat:∀ {H':Hp},(∀ b∈fp,H' b=none)->∀ b∈fp,cT X pins H' b:=fun hn b hb=>⟨hn b hb,(f2 b hb).2⟩;refine codeAny_forLoop_any (fun n s'=>∃ i σ' H',aj X pins σ' H' s'/\tn i s'.heap/\(∀ b∈fp,H' b=none)/\W i n σ' H') ?_ m0 ⟨0,σ,H2,I2,st2,fun b hb=>(f2 b hb).1,w0⟩;rintro n s3 ⟨i,σ3,H3,I3,st3,fr3,w3⟩;rcases turn i n σ3 H3 w3 with ⟨stop,qn⟩ | ⟨go,N,hN,step⟩
 ·refine wpAny_passesOwn hp (aU (T.done X rfl rfl rfl hc i pins s3 σ3 H3 X.xe I3 (stat fr3) st3 stop) fun r s4 ⟨hr,I4⟩=>?_)
  subst hr;exact wpAny_execs_nil ⟨σ3,H3,I4,qn⟩
 ·refine wpAny_passesOwn hp (aU (T.item X rfl rfl rfl hc i pins s3 σ3 H3 X.xe I3 (stat fr3) st3 go) fun r s4 ⟨u,hr,h4⟩=>?_)
  subst hr;refine wpAny_passesOwn hp (aU h4 fun _ s5 ⟨x,H5,I5,r5,y5,st5,fr5⟩=>?_);have I5':=I5.pinned (stat fr5) (T.obj _ _ st5);refine wpAny_passesOwn hp (aU (hg _ s5 σ3 H5 x u _ I5' r5 (step x H5 y5)) fun _ s6 ⟨σ6,H6,I6,q6⟩=>?_);refine wpAny_passesOwn hp (aU (hb _ s6 σ6 H6 _ I6 q6) fun f s7 q7=>?_)
  have again:∀ {σ7:St}{H7:Hp},aj X (pins++dS fp s5.heap) σ7 H7 s7->N σ7 H7->∃ m,m<n/\∃ i σ' H',aj X pins σ' H' s7/\tn i s7.heap/\(∀ b∈fp,H' b=none)/\W i m σ' H':=fun {σ7 H7} I7 n7=>by
   obtain⟨m',hm,w7⟩:=hN σ7 H7 n7;refine⟨m',hm,i+1,σ7,H7,I7.unpinned,T.keep _ _ _ st5 fun b hb o e=>(I7.pin (b,o) (qo _ (qo _ (aZ hb e)))).1,fun b hb=>?_,w7⟩;obtain⟨o,e,d⟩:=T.obj _ _ st5 b hb;exact (I7.pin (b,o) (qo _ (qo _ (aZ hb e)))).2.1
  cases f with
  | next=>obtain⟨σ7,H7,I7,n7⟩:=q7;exact again I7 n7
  | cont=>obtain⟨σ7,H7,I7,n7⟩:=q7;exact again I7 n7
  | brk=>obtain⟨σ7,H7,I7,q7⟩:=q7;exact⟨σ7,H7,I7.unpinned,q7⟩
  | ret v=>obtain⟨x7,σ7,H7,I7,r7,q7⟩:=q7;exact⟨x7,σ7,H7,I7.unpinned,r7,q7⟩
end
theorem d7 {K:PySem.W.Frag}{a:Addr}{xs:List V}{g:TG}{tb:TS}{D:eI}{σ:St}{H:Hp}(Pv:Nat->St->Hp->Prop)(h0:Pv 0 σ H)(hl:∀ i σ H,i<=xs.length->Pv i σ H->bA K H a xs)
  (hs:∀ i x σ H,xs[i]? = some x->Pv i σ H->g x σ H fun σ2 H2=>tb { D with nx:=Pv (i+1),ct:=Pv (i+1),bk:=D.nx } σ2 H2) (hd:∀ σ H,Pv xs.length σ H->D.nx σ H) :
  ∃ W:Nat->Nat->St->Hp->Prop,(∃ m,W 0 m σ H)/\∀ i m σ H,W i m σ H ->
   ((ni K a).stop i H/\D.nx σ H)\/((ni K a).go i H/\∃ N:St->Hp->Prop,(∀ σ' H',N σ' H'->∃ m',m'<m/\W (i+1) m' σ' H')/\∀ x H',(ni K a).yld i H x H'->g x σ H' fun σ2 H2=>tb { D with nx:=N,ct:=N,bk:=D.nx } σ2 H2):=by
 refine⟨fun i m σ H=>m=xs.length-i/\i<=xs.length/\Pv i σ H,⟨xs.length,by simp,qH _,h0⟩,?_⟩;rintro i m σ H ⟨rfl,hi,p⟩;have q:=hl i σ H hi p
 by_cases hlt:i<xs.length
 ·refine .inr ⟨⟨xs,xs[i],q,by simp[hlt]⟩,Pv (i+1),fun σ' H' p'=>⟨xs.length-(i+1),by omega,rfl,hlt,p'⟩,fun x H' y=>?_⟩
  obtain⟨e,y⟩:=y;subst e;exact hs i x σ _ (y xs q) p
 ·have e:i=xs.length:=by omega
  subst e;exact .inl ⟨⟨xs,q,qj _⟩,hd σ H p⟩
theorem jB {K:PySem.W.Frag}{a:Addr}{xs:List V}{g:TG}{tb:TS}{D:eI}{σ:St}{H:Hp}(Pv:Nat->St->Hp->Prop)(h0:Pv 0 σ H)(hl:∀ i σ H,i<=xs.length->Pv i σ H->aG K H a xs)
  (hs:∀ i x σ H,xs[i]? = some x->Pv i σ H->g x σ H fun σ2 H2=>tb { D with nx:=Pv (i+1),ct:=Pv (i+1),bk:=D.nx } σ2 H2) (hd:∀ σ H,Pv xs.length σ H->D.nx σ H) :
  ∃ W:Nat->Nat->St->Hp->Prop,(∃ m,W 0 m σ H)/\∀ i m σ H,W i m σ H ->
   ((nj K a).stop i H/\D.nx σ H)\/((nj K a).go i H/\∃ N:St->Hp->Prop,(∀ σ' H',N σ' H'->∃ m',m'<m/\W (i+1) m' σ' H')/\∀ x H',(nj K a).yld i H x H'->g x σ H' fun σ2 H2=>tb { D with nx:=N,ct:=N,bk:=D.nx } σ2 H2):=by
 refine⟨fun i m σ H=>m=xs.length-i/\i<=xs.length/\Pv i σ H,⟨xs.length,by simp,qH _,h0⟩,?_⟩;rintro i m σ H ⟨rfl,hi,p⟩;have q:=hl i σ H hi p
 by_cases hlt:i<xs.length
 ·refine .inr ⟨⟨xs,xs[i],q,by simp[hlt]⟩,Pv (i+1),fun σ' H' p'=>⟨xs.length-(i+1),by omega,rfl,hlt,p'⟩,fun x H' y=>?_⟩
  obtain⟨e,y⟩:=y;subst e;exact hs i x σ _ (y xs q) p
 ·have e:i=xs.length:=by omega
  subst e;exact .inl ⟨⟨xs,q,qj _⟩,hd σ H p⟩
theorem dj {lo:Int}{n:Nat}{g:TG}{tb:TS}{D:eI}{σ:St}{H:Hp}(Pv:Nat->St->Hp->Prop)(h0:Pv 0 σ H)
  (hs:∀ i σ H,i<n->Pv i σ H->g (.int (lo+i)) σ H fun σ2 H2=>tb { D with nx:=Pv (i+1),ct:=Pv (i+1),bk:=D.nx } σ2 H2) (hd:∀ σ H,Pv n σ H->D.nx σ H) :
  ∃ W:Nat->Nat->St->Hp->Prop,(∃ m,W 0 m σ H)/\∀ i m σ H,W i m σ H ->
   ((m5 lo n).stop i H/\D.nx σ H)\/((m5 lo n).go i H/\∃ N:St->Hp->Prop,(∀ σ' H',N σ' H'->∃ m',m'<m/\W (i+1) m' σ' H')/\∀ x H',(m5 lo n).yld i H x H'->g x σ H' fun σ2 H2=>tb { D with nx:=N,ct:=N,bk:=D.nx } σ2 H2):=by
 refine⟨fun i m σ H=>m=n-i/\i<=n/\Pv i σ H,⟨n,by simp,qH _,h0⟩,?_⟩;rintro i m σ H ⟨rfl,hi,p⟩
 by_cases hlt:i<n
 ·refine .inr ⟨hlt,Pv (i+1),fun σ' H' p'=>⟨n-(i+1),by omega,rfl,hlt,p'⟩,fun x H' y=>?_⟩
  obtain⟨e,y⟩:=y;subst e y;exact hs i σ _ hlt p
 ·have e:i=n:=by omega
  subst e;exact .inl ⟨qj _,hd σ H p⟩
abbrev R2:=V->V->Hp->VK->Prop
def gh (X:Cx)(f:Value->Value->Sem Value)(r:R2):Prop :=
 ∀ (pins:List (Addr×Obj))(s:Shared)(σ:St)(H:Hp)(x y:V)(v u:Value)(Q:VK),aj X pins σ H s->aF x v->aF y u->r x y H Q ->
  wpAny (model X.prog X.w) X.A (f v u) (EP X pins σ Q) X.xe s
def oO (X:Cx)(f:Value->Sem Value)(r:V->Hp->VK->Prop):Prop :=
 ∀ (pins:List (Addr×Obj))(s:Shared)(σ:St)(H:Hp)(x:V)(v:Value)(Q:VK),aj X pins σ H s->aF x v->r x H Q ->
  wpAny (model X.prog X.w) X.A (f v) (EP X pins σ Q) X.xe s
def dC (X:Cx)(f:Value)(r:List V->Hp->VK->Prop):Prop :=
 ∀ (pins:List (Addr×Obj))(s:Shared)(σ:St)(H:Hp)(xs:List V)(us:List Value)(Q:VK),aj X pins σ H s->az xs us->r xs H Q ->
  wpAny (model X.prog X.w) X.A (call f us) (EP X pins σ Q) X.xe s
def oB (r:R2)(ta tb:TE):TE:=fun σ H Q=>ta σ H fun x H1=>tb σ H1 fun y H2=>r x y H2 Q
def p5 (r:V->Hp->VK->Prop)(ta:TE):TE:=fun σ H Q=>ta σ H fun x H1=>r x H1 Q
inductive RI (C:Int->Int->Prop) (g:Int->Int->V) (x y:V) (H:Hp) (Q:VK):Prop
 | mk (i j:Int) (e1:x=.int i) (e2:y=.int j) (c:C i j) (h:Q (g i j) H):RI C g x y H Q
def rI (C:Int->Int->Prop)(g:Int->Int->V):R2:=fun x y H Q=>RI C g x y H Q
inductive pB (g:Int->Int->V) (x y:V) (H:Hp) (Q:VK):Prop
 | mk (i j:Int) (e1:x=.int i) (e2:y=.int j) (h:Q (g i j) H):pB g x y H Q
def lZ (g:Int->Int->V):R2:=fun x y H Q=>pB g x y H Q
def rU (g:Int->V):V->Hp->VK->Prop:=fun x H Q=>∃ i,x=.int i/\Q (g i) H
section
variable {X:Cx}{a b c:Expr}{ta tb tc:TE}{pos:Pos}
theorem mo (ha:PE X a ta)(hb:PE X b tb){pins:List (Addr×Obj)}{s:Shared}{σ:St}{H:Hp}{R:V->V->Hp->Prop}(I:aj X pins σ H s)
  (h:ta σ H fun x H1=>tb σ H1 fun y H2=>R x y H2) {Q:Value->Shared->Prop} {f:Value->Value->Sem Value}
  (hf:∀ v u s2 x y H2,aj X pins σ H2 s2->aF x v->aF y u->R x y H2->wpAny (model X.prog X.w) X.A (f v u) Q X.xe s2) :
  wpAny (model X.prog X.w) X.A (eval a X.env) (fun v s₁=>wpAny (model X.prog X.w) X.A (eval b X.env) (fun u s₂=>wpAny (model X.prog X.w) X.A (f v u) Q X.xe s₂) X.xe s₁) X.xe s:=by
 refine aU (ha pins s σ H _ I h) fun v s1 ⟨x,H1,I1,r1,q1⟩=>?_;refine aU (hb pins s1 σ H1 _ I1 q1) fun u s2 ⟨y,H2,I2,r2,q2⟩=>?_;exact hf v u s2 x y H2 I2 r1 r2 q2
theorem am {op:Operator}{r:R2}(ho:gh X (binaryOp op) r)(ha:PE X a ta)(hb:PE X b tb):PE X (.BinOp a op b pos) (oB r ta tb):=by
 intro pins s σ H Q I h;exact wpAny_BinOp (mo ha hb I h fun v u s2 x y H2 I2 rx ry q=>ho pins s2 σ H2 x y v u Q I2 rx ry q)
theorem nU {op:UnaryOp}{r:V->Hp->VK->Prop}(ho:oO X (unaryOp op) r)(ha:PE X a ta):PE X (.UnaryOp op a pos) (p5 r ta):=by
 intro pins s σ H Q I h;exact UnaryOp_ (aU (ha pins s σ H _ I h) fun v s1 ⟨x,H1,I1,r1,q1⟩=>ho pins s1 σ H1 x v Q I1 r1 q1)
theorem nI {f:Value->Value->Sem Value}{C:Int->Int->Prop}{g:Int->Int->Int}
  (rule:∀ (i j:Int)(t u:Tok)(s:Shared)(Q:Value->Shared->Prop)(E:Value->Shared->Prop),C i j->Q (.int (g i j) s.toks) { s with toks:=s.toks+1 }->wpAny (model X.prog X.w) X.A (f (.int i t) (.int j u)) Q E s) :
  gh X f (rI C fun i j=>.int (g i j)):=by
 intro pins s σ H x y v u Q I rx ry h;obtain⟨i,j,rfl,rfl,hc,q⟩:=h;obtain⟨t,rfl⟩:=rx;obtain⟨t',rfl⟩:=ry;exact rule i j t t' s _ _ hc ⟨.int (g i j),H,I.tok _,⟨_,rfl⟩,q⟩
theorem nJ {f:Value->Value->Sem Value}{g:Int->Int->Int}
  (rule:∀ (i j:Int)(t u:Tok)(s:Shared)(Q:Value->Shared->Prop)(E:Value->Shared->Prop),Q (.int (g i j) s.toks) { s with toks:=s.toks+1 }->wpAny (model X.prog X.w) X.A (f (.int i t) (.int j u)) Q E s) :
  gh X f (lZ fun i j=>.int (g i j)):=by
 intro pins s σ H x y v u Q I rx ry h;obtain⟨i,j,rfl,rfl,q⟩:=h;obtain⟨t,rfl⟩:=rx;obtain⟨t',rfl⟩:=ry;exact rule i j t t' s _ _ ⟨.int (g i j),H,I.tok _,⟨_,rfl⟩,q⟩
theorem lE {f:Value->Value->Sem Value}{g:Int->Int->Bool}
  (rule:∀ (i j:Int)(t u:Tok)(s:Shared)(Q:Value->Shared->Prop)(E:Value->Shared->Prop),Q (.bool (g i j)) s->wpAny (model X.prog X.w) X.A (f (.int i t) (.int j u)) Q E s) :
  gh X f (lZ fun i j=>.bl (g i j)):=by
 intro pins s σ H x y v u Q I rx ry h;obtain⟨i,j,rfl,rfl,q⟩:=h;obtain⟨t,rfl⟩:=rx;obtain⟨t',rfl⟩:=ry;exact rule i j t t' s _ _ ⟨.bl (g i j),H,I,rfl,q⟩
def oG (i j:Int):Prop:=0<j/\j<1073741824
def oH (i j:Int):Prop:=0<=j/\j<=1000000/\i.natAbs<2 ^ 64
def mj (i j:Int):Prop:=(-(2 ^ 64)<i/\i<2 ^ 64)\/(-(2 ^ 64)<j/\j<2 ^ 64)
theorem mj.ok {i j:Int}(h:mj i j):IntMulOk i j:=by
 rcases h with ⟨h1,h2⟩ | ⟨h1,h2⟩
 ·exact .of_left (intBits_le_64 h1 h2)
 ·exact .of_right (intBits_le_64 h1 h2)
theorem bE:gh X (binaryOp .Add) (lZ fun i j=>.int (i+j)):=nJ fun _ _ _ _ _ _ _ q=>add_int q
theorem gQ:gh X (binaryOp .Sub) (lZ fun i j=>.int (i-j)):=nJ fun _ _ _ _ _ _ _ q=>sub_int q
theorem dR:gh X (binaryOp .Mult) (rI mj fun i j=>.int (i*j)):=nI fun _ _ _ _ _ _ _ hc q=>mul_int q hc.ok
theorem bF:gh X (binaryOp .FloorDiv) (rI oG fun i j=>.int (i/j)):=nI fun i j _ _ _ _ _ hc q=>by
 have h1:(0:Int)<j:=hc.1;have h2:j<1073741824:=hc.2;exact floordiv_int (by omega) (by rw[Int.fdiv_eq_ediv_of_nonneg i (by omega)];exact q) (.inl (PyProof.noPylong_small (by omega)))
theorem aT:gh X (binaryOp .Mod) (rI (fun _ j=>0<j) fun i j=>.int (i%j)):=nI fun i j _ _ _ _ _ hc q=>by
 have h1:(0:Int)<j:=hc;exact mod_int' (by omega) (by rw[Int.fmod_eq_emod_of_nonneg i (by omega)];exact q)
theorem kE:gh X (binaryOp .Pow) (rI oH fun i j=>.int (i ^ j.toNat)):=nI fun _ _ _ _ _ _ _ hc q=>pow_int_small hc.1 hc.2.1 hc.2.2 q
theorem p6 {f:Value->Sem Value}{g:Int->Int}
  (rule:∀ (i:Int)(t:Tok)(s:Shared)(Q:Value->Shared->Prop)(E:Value->Shared->Prop),Q (.int (g i) s.toks) { s with toks:=s.toks+1 }->wpAny (model X.prog X.w) X.A (f (.int i t)) Q E s) :
  oO X f (rU fun i=>.int (g i)):=by
 intro pins s σ H x v Q I rx h;obtain⟨i,rfl,q⟩:=h;obtain⟨t,rfl⟩:=rx;exact rule i t s _ _ ⟨.int (g i),H,I.tok _,⟨_,rfl⟩,q⟩
theorem mZ:oO X (unaryOp .USub) (rU fun i=>.int (-i)):=p6 fun _ _ _ _ _ q=>neg_int q
end
def nZ:V->V->Bool
 | .non,.non=>true | .non,.int _=>true | .int _,.non=>true | .non,.bl _=>true | .bl _,.non=>true | .non,.str _=>true | .str _,.non=>true
 | .int _,.int _=>true | .bl _,.bl _=>true | .str _,.str _=>true | .byt _,.byt _=>true
 | .int _,.str _=>true | .str _,.int _=>true | .bl _,.str _=>true | .str _,.bl _=>true
 | _,_=>false
def pX:R2:=fun x y H Q=>nZ x y=true/\Q (.bl (decide (x=y))) H
def pY:R2:=fun x y H Q=>nZ x y=true/\Q (.bl (!decide (x=y))) H
theorem jx {i j:Int}:decide (V.int i=V.int j)=(i == j):=by
 rw[Bool.eq_iff_iff];simp
theorem kj {i j:Bool}:decide (V.bl i=V.bl j)=(i == j):=by
 rw[Bool.eq_iff_iff];simp
theorem jy {i j:Str}:decide (V.str i=V.str j)=(i == j):=by
 rw[Bool.eq_iff_iff];simp
theorem jw {i j:Array UInt8}:decide (V.byt i=V.byt j)=(i.toList == j.toList):=by
 rw[Bool.eq_iff_iff];cases i;cases j;simp
section
variable {X:Cx}{a b c:Expr}{ta tb tc:TE}{pos:Pos}
theorem aB {pins:List (Addr×Obj)}{σ:St}{H:Hp}{s:Shared}{Q:VK}{k k':Bool}(I:aj X pins σ H s)(q:Q (.bl k) H)(e:k=k'):EP X pins σ Q (.bool k') s:=by
 subst e;exact⟨.bl k,H,I,rfl,q⟩
theorem aW:gh X (compareOp .Eq) pX:=by
 intro pins s σ H x y v u Q I rx ry h;obtain⟨hs,q⟩:=h
 cases x with
 | non =>
  cases rx
  cases y with
  | non=>cases ry;exact PySem.EqNone.eq_none_none (aB I q (by simp))
  | bl j=>cases ry;exact PySem.EqNone.eq_none_bool (aB I q (by simp))
  | int j=>obtain⟨t',rfl⟩:=ry;exact PySem.EqNone.eq_none_int (aB I q (by simp))
  | str j=>obtain⟨t',rfl⟩:=ry;exact PySem.EqNone.eq_none_str (aB I q (by simp))
  | _=>exact absurd (show false=true from hs) qh
 | bl i =>
  cases rx
  cases y with
  | non=>cases ry;exact PySem.EqNone.eq_bool_none (aB I q (by simp))
  | bl j=>cases ry;exact eq_bool (aB I q kj)
  | str j=>obtain⟨t',rfl⟩:=ry;exact PySem.EqMixed.eq_bool_str (aB I q (by simp))
  | _=>exact absurd (show false=true from hs) qh
 | int i =>
  obtain⟨t,rfl⟩:=rx
  cases y with
  | non=>cases ry;exact PySem.EqNone.eq_int_none (aB I q (by simp))
  | int j=>obtain⟨t',rfl⟩:=ry;exact eq_int (aB I q jx)
  | str j=>obtain⟨t',rfl⟩:=ry;exact PySem.EqMixed.eq_int_str (aB I q (by simp))
  | _=>exact absurd (show false=true from hs) qh
 | str i =>
  obtain⟨t,rfl⟩:=rx
  cases y with
  | non=>cases ry;exact PySem.EqNone.eq_str_none (aB I q (by simp))
  | bl j=>cases ry;exact PySem.EqMixed.eq_str_bool (aB I q (by simp))
  | int j=>obtain⟨t',rfl⟩:=ry;exact PySem.EqMixed.eq_str_int (aB I q (by simp))
  | str j=>obtain⟨t',rfl⟩:=ry;exact eq_str (aB I q jy)
  | _=>exact absurd (show false=true from hs) qh
 | byt i =>
  obtain⟨t,rfl⟩:=rx
  cases y with
  | byt j=>obtain⟨t',rfl⟩:=ry;exact PySem.W.eq_bytes (aB I q jw)
  | _=>exact absurd (show false=true from hs) qh
 | _=>cases y<;>exact absurd (show false=true from hs) qh
theorem kC:gh X (compareOp .NotEq) pY:=by
 intro pins s σ H x y v u Q I rx ry h;obtain⟨hs,q⟩:=h
 cases x with
 | non =>
  cases rx
  cases y with
  | non=>cases ry;exact PySem.EqNone.ne_none_none (aB I q (by simp))
  | bl j=>cases ry;exact PySem.EqNone.ne_none_bool (aB I q (by simp))
  | int j=>obtain⟨t',rfl⟩:=ry;exact PySem.EqNone.ne_none_int (aB I q (by simp))
  | str j=>obtain⟨t',rfl⟩:=ry;exact PySem.EqNone.ne_none_str (aB I q (by simp))
  | _=>exact absurd (show false=true from hs) qh
 | bl i =>
  cases rx
  cases y with
  | non=>cases ry;exact PySem.EqNone.ne_bool_none (aB I q (by simp))
  | bl j=>cases ry;exact ne_bool (aB I q (qL not kj))
  | str j=>obtain⟨t',rfl⟩:=ry;exact PySem.EqMixed.ne_bool_str (aB I q (by simp))
  | _=>exact absurd (show false=true from hs) qh
 | int i =>
  obtain⟨t,rfl⟩:=rx
  cases y with
  | non=>cases ry;exact PySem.EqNone.ne_int_none (aB I q (by simp))
  | int j=>obtain⟨t',rfl⟩:=ry;exact ne_int (aB I q (qL not jx))
  | str j=>obtain⟨t',rfl⟩:=ry;exact PySem.EqMixed.ne_int_str (aB I q (by simp))
  | _=>exact absurd (show false=true from hs) qh
 | str i =>
  obtain⟨t,rfl⟩:=rx
  cases y with
  | non=>cases ry;exact PySem.EqNone.ne_str_none (aB I q (by simp))
  | bl j=>cases ry;exact PySem.EqMixed.ne_str_bool (aB I q (by simp))
  | int j=>obtain⟨t',rfl⟩:=ry;exact PySem.EqMixed.ne_str_int (aB I q (by simp))
  | str j=>obtain⟨t',rfl⟩:=ry;exact ne_str (aB I q (qL not jy))
  | _=>exact absurd (show false=true from hs) qh
 | byt i =>
  obtain⟨t,rfl⟩:=rx
  cases y with
  | byt j=>obtain⟨t',rfl⟩:=ry;exact PySem.W.ne_bytes (aB I q (qL not jw))
  | _=>exact absurd (show false=true from hs) qh
 | _=>cases y<;>exact absurd (show false=true from hs) qh
theorem kB:gh X (compareOp .Lt) (lZ fun i j=>.bl (decide (i<j))):=lE fun _ _ _ _ _ _ _ q=>lt_int q
theorem nM:gh X (compareOp .LtE) (lZ fun i j=>.bl (decide (i<=j))):=lE fun _ _ _ _ _ _ _ q=>le_int q
theorem lW:gh X (compareOp .Gt) (lZ fun i j=>.bl (decide (j<i))):=lE fun _ _ _ _ _ _ _ q=>gt_int q
theorem nK:gh X (compareOp .GtE) (lZ fun i j=>.bl (decide (j<=i))):=lE fun _ _ _ _ _ _ _ q=>ge_int q
theorem ar (b:Expr){op:CmpOp}(h:op≠.In:=by decide)(h2:op≠.NotIn:=by decide):behindInMarks op b=false:=by
 have e1:(op == CmpOp.In)=false:=by cases op<;>first | rfl | exact absurd rfl h
 have e2:(op == CmpOp.NotIn)=false:=by cases op<;>first | rfl | exact absurd rfl h2
 cases b<;>simp[behindInMarks,e1,e2]
theorem fB {op:CmpOp}{r:R2}(ho:gh X (compareOp op) r)(ha:PE X a ta)(hb:PE X b tb)(hm:behindInMarks op b=false):PE X (.Compare a [op] [b] pos) (oB r ta tb):=by
 intro pins s σ H Q I h;exact wpAny_Compare1 (mo ha hb I h fun v u s2 x y H2 I2 rx ry q=>ho pins s2 σ H2 x y v u Q I2 rx ry q) hm
def og (t:TE):TT:=fun σ H Q=>t σ H fun x H'=>oN Q x H'
theorem aq {op:CmpOp}{r:R2}(ho:gh X (compareOp op) r)(ha:PE X a ta)(hb:PE X b tb)(hm:behindInMarks op b=false):PT X (.Compare a [op] [b] pos) (og (oB r ta tb)):=by
 intro pins s σ H Q I h
 refine wpAny_isTrue_Compare1 (aU (ha pins s σ H _ I h) fun v s1 ⟨x,H1,I1,r1,q1⟩=>aU (hb pins s1 σ H1 _ I1 q1) fun u s2 ⟨y,H2,I2,r2,q2⟩ =>
  aU (ho pins s2 σ H2 x y v u _ I2 r1 r2 q2) fun c s3 ⟨z,H3,I3,r3,k,e,q3⟩=>?_) hm
 subst e;cases r3;exact q4 ⟨H3,I3,q3⟩
theorem iV:(sizeLine:Nat)<2 ^ 63:=by rw[sizeLine_eq];decide
theorem gf {x:V}{us:List Value}(r:az [x] us):∃ u,us=[u]/\aF x u:=by
 cases r with
 | cons r1 r2=>cases r2;exact⟨_,rfl,r1⟩
theorem ol {x y:V}{us:List Value}(r:az [x,y] us):∃ u w',us=[u,w']/\aF x u/\aF y w':=by
 cases r with
 | cons r1 r2 =>
  cases r2 with
  | cons r3 r4=>cases r4;exact⟨_,_,rfl,r1,r3⟩
theorem jT (hc:X.calm=true):dC X (.builtin "max") (fun xs H Q=>∃ i j,xs=[.int i,.int j]/\Q (.int (if j>i then j else i)) H):=by
 intro pins s σ H xs us Q I r h;obtain⟨i,j,rfl,q⟩:=h;obtain⟨u,w',rfl,⟨t,rfl⟩,⟨t',rfl⟩⟩:=ol r;refine max_two_ints (I.ok.hd hc) fun h' tk k=>⟨_,H,I.kept k,?_,q⟩
 by_cases hj:j>i
 ·rw[ql hj,ql hj];exact⟨_,rfl⟩
 ·rw[qi hj,qi hj];exact⟨_,rfl⟩
end
structure iM (h:Heap)(x dx C:Addr)(mA:Str->Option Value):Prop where
 obj:h.get? x=some (PySem.W.instObj C dx)
 ns:h.Ns1 dx mA
 ne:dx≠x
theorem j3 {h:Heap}{dx:Addr}{mA:Str->Option Value}(n:h.Ns1 dx mA):∃ od,h.get? dx=some od/\∀ name,PySem.W.lookIn name od=some (mA name):=by
 obtain⟨o,es,ep,ho,hd,hk,_,hm⟩:=n;refine⟨o,ho,fun name=>?_⟩;have e:=hm name;unfold nsFind findBy at e;rw[<-Array.find?_toList]at e;unfold PySem.W.lookIn;rw[hd];dsimp only;split
 ·rename_i y q
  rw[q]at e;exact qL some e
 ·rename_i q
  rw[q]at e
  have a:es.toList.any (·.refKey)=false:=by
   rw[List.any_eq_false];intro y hy;obtain⟨z,t,hkey⟩:=hk y (Array.mem_toList_iff.mp hy);simp[DictEntry.refKey,hkey]
  have a':¬ es.toList.any (·.refKey)=true:=by rw[a];exact qh
  rw[qi a'];exact qL some e
theorem iM.look {h:Heap}{x dx C:Addr}{mA:Str->Option Value}(I:iM h x dx C mA):∃ od,PySem.W.InstAt h x (PySem.W.instObj C dx) C (some od)/\∀ name,PySem.W.lookIn name od=some (mA name) :=
 let ⟨od,ho,hl⟩:=j3 I.ns
 ⟨od,⟨I.obj,rfl,rfl,ho⟩,hl⟩
section
variable {prog:Program}{w:World}{A:Around}{E:Value->Shared->Prop}{s:Shared}{K:PySem.W.Frag}{x dx C f:Addr}{mA:Str->Option Value}{name:Str}{v:Value}
theorem ly {expr:Bool}{Q:Value->Shared->Prop}(X:K.In s.heap)(I:iM s.heap x dx C mA)(hg:PySem.W.plainGet K C name=true)(hh:PySem.W.hasDictIn K C=true)
  (ha:PySem.W.findIn K (.ref C) name=some none) (hv:mA name=some v) (hv':PySem.W.handedIn v=true) (h:Q v { s with toks:=s.toks+1 }) :
  wpAny (model prog w) A (getAttr (.ref x) name expr) Q E s:=by
 obtain⟨od,J,hl⟩:=I.look;exact PySem.W.get_value X J (PySem.W.plainGet_of hg).1 (PySem.W.findObj_own hh ha rfl (by rw[hl,hv])) hv' h
theorem kt {pl:Sem Bool}{Q:Value×List Value->Shared->Prop}(X:K.In s.heap)(I:iM s.heap x dx C mA)(hg:PySem.W.plainGet K C name=true)
  (hf:PySem.W.findIn K (.ref C) name=some (some (.ref f))) (ht:PySem.W.isFn K (.ref f)=true) (hv:mA name=none) (h:Q (.ref f,[.ref x]) s) :
  wpAny (model prog w) A (getMethod (.ref x) name pl) Q E s:=by
 obtain⟨od,J,hl⟩:=I.look;exact PySem.W.method_fn X J (PySem.W.plainGet_of hg).1 (PySem.W.plainGet_of hg).2 hf (beq_iff_eq.mp ht) (by show (PySem.W.lookIn name od).map (·.isSome)=some false;rw[hl,hv];rfl) h
theorem lL {ns:List Str}{Q:Unit->Shared->Prop}(X:K.In s.heap)(I:iM s.heap x dx C mA)
  (hs:PySem.W.findIn K (.ref C) "__setattr__" = some (some (.builtin "object.__setattr__"))) (hp:PySem.W.plainOver K C=true) (ht:PySem.W.takerIn K C name=some none) (hh:PySem.W.hasDictIn K C=true)
  (hw:PySem.Within mA ns) (hsz:ns.length<=sizeLine)
  (h:∀ h',iM h' x dx C (fun y=>if y=name then some v else mA y)->Heap.SameBut dx s.heap h'->Q () { s with heap:=h',toks:=s.toks+2 }) :
  wpAny (model prog w) A (setAttr (.ref x) name v) Q E s:=by
 obtain⟨od,J,hl⟩:=I.look;refine PySem.W.set_plain X J hs (PySem.W.osa_open (s:={ s with toks:=s.toks+1 }) (r:=none) X J hp ht fun b=>?_);obtain⟨cd,hc,hd'⟩:=PySem.W.any_some hh;have hx:s.heap.get? x=some ⟨.ref C,some dx,.plain,#[]⟩:=I.obj;refine qc (qe (qc (qc (wpAny_loadPart hx (qc (PySem.W.Looks.here (s:={ s with toks:=s.toks+1 }) (PySem.W.looks_clsIn X hc) ?_))))));rw[hd'];refine qe (a:=some dx) (qc (qe (qc ?_)));refine wpAny_nsSet1 (s:={ s with toks:=s.toks+1 }) I.ns fun h' hn2 hs2=>?_;obtain⟨oD,esD,epD,hoD,hdD,hcD⟩:=hn2.count (PySem.Within.cons name v hw);refine qc (wpAny_lookBehind hoD (by rw[hdD];exact pastItsLine_dict (qQ hcD (by rw[qN];omega))) ?_);exact qe (h _ ⟨(hs2.2 _ (qK I.ne)).trans I.obj,hn2,I.ne⟩ hs2)
theorem kz {R:Result->Shared->Prop}{vs:List Value}{kw:List (Str×Value)}(X:K.In s.heap)(hm:PySem.W.makesIn K C=true)
  (hi:PySem.W.findIn K (.ref C) "__init__" = some (some (.ref f))) (hf:PySem.W.typeIn K (.ref f)=some (.type "function"))
  (h:codeAny (model prog w) (A.under (.builtin "type.__call__" ⟨.ref C::vs,kw⟩)) (.call (.ref f) ⟨.ref (s.heap.objs.size+1)::vs,kw⟩) (PySem.W.InitBack (s.heap.objs.size+1) R)
   { s with heap:=(s.heap.push PySem.W.emptyDict).push (PySem.W.instObj C s.heap.objs.size) }) :
  codeAny (model prog w) A (.call (.ref C) ⟨vs,kw⟩) R s:=by
 obtain⟨hh,g,d,t,os⟩:=s;exact PySem.W.make_core (PySem.W.makes_of X hm) (PySem.W.looks_findIn X hi) (fun self=>PySem.W.bind_fn X self hf) (.inl rfl) h
end
def bJ (f:Str)(v:V):List (Str×V)->List (Str×V)
 | []=>[(f,v)]
 | (g,x)::r=>if g=f then (g,v)::r else (g,x)::bJ f v r
theorem aR (f g:Str)(v:V):∀ fs:List (Str×V),(bJ f v fs).lookup g=if g=f then some v else fs.lookup g
 | []=>by
  show List.lookup g [(f,v)]=_
  by_cases h:g=f
  ·have hb:(g == f)=true:=beq_iff_eq.mpr h
   simp only[List.lookup,hb,ql h]
  ·have hb:(g == f)=false:=rc.mpr h
   simp only[List.lookup,hb,qi h]
 | (k,x)::r=>by
  have ih:=aR f g v r;rw[show bJ f v ((k,x)::r)=(if k=f then (k,v)::r else (k,x)::bJ f v r) from rfl]
  by_cases hk:k=f
  ·rw[ql hk]
   by_cases h:g=k
   ·have hb:(g == k)=true:=beq_iff_eq.mpr h
    simp only[List.lookup,hb,ql (h.trans hk)]
   ·have hb:(g == k)=false:=rc.mpr h
    simp only[List.lookup,hb,qi (fun e:g=f=>h (e.trans hk.symm))]
  ·rw[qi hk]
   by_cases h:g=k
   ·have hb:(g == k)=true:=beq_iff_eq.mpr h
    simp only[List.lookup,hb,qi (fun e:g=f=>hk (h.symm.trans e))]
   ·have hb:(g == k)=false:=rc.mpr h
    simp only[List.lookup,hb];exact ih
theorem eL (f:Str)(v:V):∀ fs:List (Str×V),f∈(bJ f v fs).map (·.1)/\∀ g,g∈fs.map (·.1)->g∈(bJ f v fs).map (·.1)
 | []=>⟨by simp[bJ],fun g h=>by simp at h⟩
 | (k,x)::r=>by
  obtain⟨i1,i2⟩:=eL f v r;rw[show bJ f v ((k,x)::r)=(if k=f then (k,v)::r else (k,x)::bJ f v r) from rfl]
  by_cases hk:k=f
  ·rw[ql hk]
   subst hk;exact⟨by simp,fun g h=>by simpa using h⟩
  ·rw[qi hk]
   refine⟨?_,fun g h=>?_⟩
   ·rw[List.map_cons]
    exact qr _ i1
   ·rw[List.map_cons]at h ⊢
    rcases qC.mp h with e | e
    ·exact qC.mpr (.inl e)
    ·exact qr _ (i2 g e)
theorem fb (f:Str)(v:V):∀ fs:List (Str×V),(bJ f v fs).length<=fs.length+1
 | []=>by simp[bJ]
 | (k,x)::r=>by
  have ih:=fb f v r;rw[show bJ f v ((k,x)::r)=(if k=f then (k,v)::r else (k,x)::bJ f v r) from rfl]
  by_cases hk:k=f
  ·rw[ql hk,qN,qN];omega
  ·rw[qi hk,qN,qN];omega
theorem gi.some_of {v:V}{o:Option Value}(r:gi (some v) o):∃ u,o=some u/\aF v u:=by
 cases o with
 | none=>exact (show False from r).elim
 | some u=>exact⟨u,rfl,r⟩
theorem gi.none_of {o:Option Value}(r:gi none o):o=none:=by
 cases o with
 | none=>rfl
 | some u=>exact (show False from r).elim
theorem jW {v:V}{u:Value}(r:aF v u):PySem.W.handedIn u=true:=by
 cases v with
 | non=>cases (show u=Value.none from r);rfl
 | bl b=>cases (show u=Value.bool b from r);rfl
 | int i=>obtain⟨t,e⟩:=(show ∃ t,u=Value.int i t from r);cases e;rfl
 | str x=>obtain⟨t,e⟩:=(show ∃ t,u=Value.str x t from r);cases e;rfl
 | byt b=>obtain⟨t,e⟩:=(show ∃ t,u=Value.bytes b t from r);cases e;rfl
 | flt b=>obtain⟨t,e⟩:=(show ∃ t,u=Value.float b t from r);cases e;rfl
 | ref a=>cases (show u=Value.ref a from r);rfl
 | ty n=>cases (show u=Value.type n from r);rfl
section
variable {P:Program}{w:World}{H H':Hp}{h h':Heap}{a C dx:Addr}{fs fs':List (Str×V)}
theorem fv (hok:d4 P w H h)(e:H a=some (.ins C dx fs)):∃ mA,iM h a dx C mA/\(∀ f,gi (fs.lookup f) (mA f))/\PySem.Within mA (fs.map (·.1))/\fs.length<=1000/\H dx=some (.own a):=by
 obtain⟨d,z,ne,ob,mA,n,r,q⟩:=(show aQ P w H h a (.ins C dx fs) from hok a _ e);exact⟨mA,⟨ob,n,ne⟩,r,q,z,d⟩
end
structure jP (K:PySem.W.Frag)(C:Addr):Prop where
 pg:PySem.W.plainGet K C Str.empty=true
 hd:PySem.W.hasDictIn K C=true
 po:PySem.W.plainOver K C=true
 sa:PySem.W.findIn K (.ref C) "__setattr__" = some (some (.builtin "object.__setattr__"))
theorem jP.get {K:PySem.W.Frag}{C:Addr}(c:jP K C)(f:Str):PySem.W.plainGet K C f=true:=c.pg
def cD (K:PySem.W.Frag)(C:Addr)(f:Str):Prop:=PySem.W.findIn K (.ref C) f=some none
theorem cD.taker {K:PySem.W.Frag}{C:Addr}{f:Str}(n:cD K C f):PySem.W.takerIn K C f=some none:=by
 unfold PySem.W.takerIn;rw[show PySem.W.findIn K (.ref C) f=some none from n];rfl
structure lj (K:PySem.W.Frag)(C:Addr)(m:Str)(f:Addr):Prop where
 at_:PySem.W.findIn K (.ref C) m=some (some (.ref f))
 fn:PySem.W.isFn K (.ref f)=true
 kp:PySem.W.keepIn K (.ref f)=true
section
variable {X:Cx}{pins:List (Addr×Obj)}{σ:St}{H:Hp}{s:Shared}{a C dx:Addr}{fs:List (Str×V)}{f:Str}{v:V}{A:Around}{E:Value->Shared->Prop}
theorem iT {b:Bool}{Q:Value->Shared->Prop}(I:aj X pins σ H s)(e:H a=some (.ins C dx fs))(c:jP X.K C)(n:cD X.K C f)(l:fs.lookup f=some v)
  (h:∀ u s',aj X pins σ H s'->aF v u->Q u s'):wpAny (model X.prog X.w) A (getAttr (.ref a) f b) Q E s:=by
 obtain⟨mA,O,r,_,_,_⟩:=fv I.hok e;obtain⟨u,hu,ru⟩:=gi.some_of (v:=v) (o:=mA f) (by rw[<-l];exact r f);exact ly I.kIn O (c.get f) c.hd n hu (jW ru) (h u _ (I.tok _) ru)
theorem fS {m:Str}{g:Addr}{pl:Sem Bool}{Q:Value×List Value->Shared->Prop}(I:aj X pins σ H s)(e:H a=some (.ins C dx fs))(c:jP X.K C)(k:lj X.K C m g)(l:fs.lookup m=none)
  (h:Q (.ref g,[.ref a]) s):wpAny (model X.prog X.w) A (getMethod (.ref a) m pl) Q E s:=by
 obtain⟨mA,O,r,_,_,_⟩:=fv I.hok e;have hn:mA m=none:=gi.none_of (by rw[<-l];exact r m);exact kt I.kIn O (c.get m) k.at_ k.fn hn h
theorem jj {y:V}{u:Value}{Q:Unit->Shared->Prop}(I:aj X pins σ H s)(e:H a=some (.ins C dx fs))(c:jP X.K C)(n:cD X.K C f)(hl:fs.length<1000)(ry:aF y u)
  (h:∀ s',aj X pins σ (aA H a (.ins C dx (bJ f y fs))) s'->Q () s'):wpAny (model X.prog X.w) A (setAttr (.ref a) f u) Q E s:=by
 obtain⟨mA,O,r,wi,_,ho⟩:=fv I.hok e
 have hz:(fs.map (·.1)).length<=sizeLine:=by rw[qf,sizeLine_eq];omega
 refine lL I.kIn O c.sa c.po n.taker c.hd wi hz fun h' O' sb=>h _ ?_;have hd:∃ o,h'.get? dx=some o:=let ⟨o,_,_,e',_⟩:=O'.ns;⟨o,e'⟩;refine I.write (x:=a) (e:=dx) (by rw[e];exact True.intro) (.inr ho) (fun b q hb z=>(sb.2 b hb).trans z) hd ?_;refine⟨by rw[ak O.ne];exact ho,?_,O.ne,O'.obj,_,O'.ns,fun g=>?_,fun g hg=>?_⟩
 ·have:=fb f y fs;omega
 ·show gi ((bJ f y fs).lookup g) (if g=f then some u else mA g)
  rw[aR]
  by_cases q:g=f
  ·rw[ql q,ql q];exact ry
  ·rw[qi q,qi q];exact r g
 ·by_cases q:g=f
  ·rw[q];exact (eL f y fs).1
  ·refine (eL f y fs).2 g (wi g fun z=>hg ?_)
   show (if g=f then some u else mA g)=none
   rw[qi q];exact z
theorem aj.made (I:aj X pins σ H s):aj X pins σ (aA (aA H s.heap.objs.size (.own (s.heap.objs.size+1))) (s.heap.objs.size+1) (.ins C s.heap.objs.size []))
  { s with heap:=(s.heap.push PySem.W.emptyDict).push (PySem.W.instObj C s.heap.objs.size) }:=by
 have e1:(s.heap.push PySem.W.emptyDict).get? s.heap.objs.size=some PySem.W.emptyDict:=Heap.get?_push_size s.heap rfl
 have e2:((s.heap.push PySem.W.emptyDict).push (PySem.W.instObj C s.heap.objs.size)).get? (s.heap.objs.size+1)=some (PySem.W.instObj C s.heap.objs.size):=by
  have:=Heap.get?_push_size (s.heap.push PySem.W.emptyDict) (o:=PySem.W.instObj C s.heap.objs.size) rfl
  rwa [qB]at this
 have e3:(s.heap.push PySem.W.emptyDict).Ns s.heap.objs.size (fun _=>none):=⟨PySem.W.emptyDict,#[],_,e1,rfl,(fun e he=>absurd he (by simp)),fun _=>rfl⟩;have I1:=I.laid (a:=s.heap.objs.size) (o:=.own (s.heap.objs.size+1)) (h':=s.heap.push PySem.W.emptyDict) (t':=s.toks) (fun b u q=>Heap.get?_push_of_some _ q) (qj _) ⟨_,e1⟩;refine I1.laid (a:=s.heap.objs.size+1) (o:=.ins C s.heap.objs.size []) (t':=s.toks) (fun b u q=>Heap.get?_push_of_some _ q) (Nat.le_of_eq (qB _ _)) ?_;have ne:s.heap.objs.size≠s.heap.objs.size+1:=qk (Nat.lt_succ_self _);refine⟨by rw[ak ne,ac],qH _,ne,e2,fun _=>none,(Heap.Ns1.of_empty e3).at fun o q=>Heap.get?_push_of_some _ q,fun _=>True.intro,fun y hy=>absurd rfl hy⟩
theorem ls {prog:Program}{w:World}{env:Env}{e:Expr}{f:Str}{pos:Pos}{s:Shared}{Q:Value->Shared->Prop}(hb:attributeBase e f env (eval e env)=eval e env)
  (h:wpAny (model prog w) A (eval e env) (fun o s₁=>wpAny (model prog w) A (getAttr o f true) Q E s₁) E s):wpAny (model prog w) A (eval (.Attribute e f pos) env) Q E s :=
 Attribute_any_ h (by rw[arm_eval_Attribute,hb])
end
inductive pF (K:PySem.W.Frag) (f:Str) (Q:VK) (x:V) (H:Hp):Prop
 | mk (a C dx:Addr) (fs:List (Str×V)) (v:V) (e:x=.ref a) (o:H a=some (.ins C dx fs)) (c:jP K C) (n:cD K C f) (l:fs.lookup f=some v) (h:Q v H):pF K f Q x H
def o8 (K:PySem.W.Frag)(ta:TE)(f:Str):TE:=fun σ H Q=>ta σ H fun x H1=>pF K f Q x H1
def o7 (K:PySem.W.Frag)(ta tv:TE)(f:Str):TS:=fun D σ H=>tv σ H fun y H1=>ta σ H1 fun x H2=>∃ a C dx fs,x=.ref a/\H2 a=some (.ins C dx fs)/\jP K C/\cD K C f/\fs.length<1000 /\
 D.nx σ (aA H2 a (.ins C dx (bJ f y fs)))
section
variable {X:Cx}{o e value:Expr}{f:Str}{pos pos' tpos:Pos}{ta tv:TE}
theorem mI (he:PE X e ta)(hb:attributeBase e f X.env (eval e X.env)=eval e X.env):PE X (.Attribute e f pos) (o8 X.K ta f):=by
 intro pins s σ H Q I h;refine ls hb (aU (he pins s σ H _ I h) fun u s1 ⟨x,H1,I1,rx,a,C,dx,fs,v,ex,ea,c,n,l,q⟩=>?_);subst ex;obtain rfl:u=Value.ref a:=rx;exact iT I1 ea c n l fun u' s2 I2 ru=>⟨v,H1,I2,ru,q⟩
theorem jf (ha:PE X o ta)(hv:PE X value tv)(hs:swapsWith value (some (.Attribute o f pos')) pos.line X.env=pure false):PS X (.Assign [.Attribute o f pos'] value pos) (o7 X.K ta tv f):=by
 intro pins s σ H D I h;refine plainObj_wpAny_Assign_Attribute (aU (hv pins s σ H _ I h) fun u s1 ⟨y,H1,I1,ry,q⟩=>aU (ha pins s1 σ H1 _ I1 q) fun ov s2 ⟨x,H2,I2,rx,a,C,dx,fs,ex,ea,c,n,l,q2⟩=>?_) hs;subst ex;obtain rfl:ov=Value.ref a:=rx;exact jj I2 ea c n l ry fun s3 I3=>⟨σ,_,I3,q2⟩
end
section
variable {X:Cx}{pins:List (Addr×Obj)}{σ:St}{H:Hp}{s:Shared}{A:Around}{E:Value->Shared->Prop}{Q:Value->Shared->Prop}{c:Value}{b:Bool}
inductive cW (K:PySem.W.Frag) (H:Hp):V->Value->Prop where
 | non:cW K H .non (.type "NoneType")
 | bl (x:Bool):cW K H (.bl x) (.type "bool")
 | int (i:Int):cW K H (.int i) (.type "int")
 | str (x:Str):cW K H (.str x) (.type "str")
 | flt (x:UInt64):cW K H (.flt x) (.type "float")
 | lst {a:Addr} {xs:List V} (e:H a=some (.lst xs)):cW K H (.ref a) (.type "list")
 | frz {a:Addr} {o:Obj} {xs:List V} (e:H a=some (.frz o (.lst xs))):cW K H (.ref a) (.type "list")
 | tup {a:Addr} {xs:List V} (e:H a=some (.tup xs)):cW K H (.ref a) (.type "tuple")
 | dK {a:Addr} {kvs:List (gq×V)} (e:H a=some (.dK kvs)):cW K H (.ref a) (.type "dict")
 | dT {a:Addr} {kvs:List (List gq×V)} (e:H a=some (.dT kvs)):cW K H (.ref a) (.type "dict")
 | ins {a C dx:Addr} {fs:List (Str×V)} (e:H a=some (.ins C dx fs)) (cl:jP K C) (ha:PySem.W.findIn K (.ref C) "__class__" = some (some (.builtin "object.__class__")))
   (hn:PySem.W.specialIn K (.builtin "object.__class__") "__get__" = some (some (.builtin "getset_descriptor.__get__"))) (htk:PySem.W.takesIn K (.builtin "object.__class__")=some true)
   (hm:PySem.W.mroIn K C (.type "object")=some true):cW K H (.ref a) (.ref C)
theorem jZ {x:V}{u t:Value}(I:aj X pins σ H s)(rx:aF x u)(ty:cW X.K H x t)(e:PySem.W.kitOne X.K t c=some b)(h:∀ tk,Q (.bool b) { s with toks:=tk }) :
  wpAny (model X.prog X.w) A (call (.builtin "isinstance") [u,c]) Q E s:=by
 cases ty with
 | non=>cases (show u=Value.none from rx);exact qF PySem.W.kitx_none I.kIn True.intro e (fun z=>nomatch z) h
 | bl y=>cases (show u=Value.bool y from rx);exact qF PySem.W.kitx_bool I.kIn True.intro e (fun z=>nomatch z) h
 | int i=>obtain⟨t,q⟩:=(show ∃ t,u=Value.int i t from rx);cases q;exact qF PySem.W.kitx_int I.kIn True.intro e (fun z=>nomatch z) h
 | str y=>obtain⟨t,q⟩:=(show ∃ t,u=Value.str y t from rx);cases q;exact qF PySem.W.kitx_str I.kIn True.intro e (fun z=>nomatch z) h
 | flt y=>obtain⟨t,q⟩:=(show ∃ t,u=Value.float y t from rx);cases q;exact qF PySem.W.kitx_float I.kIn True.intro e (fun z=>nomatch z) h
 | @lst a xs ea =>
  cases (show u=Value.ref a from rx);obtain⟨_,_,n,_,h1⟩:=(show aQ X.prog X.w H s.heap a (.lst xs) from I.hok a _ ea);exact qF PySem.W.kitx_list I.kIn ⟨_,h1,rfl⟩ e (fun z=>nomatch z) h
 | @frz a ob xs ea =>
  cases (show u=Value.ref a from rx);obtain⟨_,_,_,n,_,h1⟩:=(show aQ X.prog X.w H s.heap a (.frz ob (.lst xs)) from I.hok a _ ea);exact qF PySem.W.kitx_list I.kIn ⟨_,h1,rfl⟩ e (fun z=>nomatch z) h
 | @tup a xs ea =>
  cases (show u=Value.ref a from rx);obtain⟨_,_,_,p⟩:=(show aQ X.prog X.w H s.heap a (.tup xs) from I.hok a _ ea);obtain⟨o,h1,h2,_⟩:=p;exact qF PySem.W.kitx_tuple I.kIn ⟨o,h1,h2⟩ e (fun z=>nomatch z) h
 | @dK a kvs ea =>
  cases (show u=Value.ref a from rx);obtain⟨_,_,vs,_,p⟩:=(show aQ X.prog X.w H s.heap a (.dK kvs) from I.hok a _ ea);obtain⟨o,es,ep,h1,h2,_⟩:=p;exact qF PySem.W.kitx_dict I.kIn ⟨o,h1,h2.1⟩ e (fun z=>nomatch z) h
 | @dT a kvs ea =>
  cases (show u=Value.ref a from rx);obtain⟨_,_,xs,_,o,es,ep,h1,h2,_⟩:=(show aQ X.prog X.w H s.heap a (.dT kvs) from I.hok a _ ea);exact qF PySem.W.kitx_dict I.kIn ⟨o,h1,h2.1⟩ e (fun z=>nomatch z) h
 | @ins a C dx fs ea cl ha hn htk hm =>
  cases (show u=Value.ref a from rx);obtain⟨mA,O,_⟩:=fv I.hok ea;obtain⟨od,J,_⟩:=O.look;exact qF (PySem.W.kitx_own (cl.get _) cl.hd ha hn htk hm) I.kIn J e (fun z=>nomatch z) h
end
structure aY (k:Nat)(A:Around):Prop where
 hd:A.handled=none
 dp:A.depth+3*k+5<recursionLimit
 un:A.units+16*k+200<cLine
theorem aY.mono {j k:Nat}{A:Around}(r:aY k A)(h:j<=k):aY j A:=⟨r.hd,by have:=r.dp;omega,by have:=r.un;omega⟩
theorem aY.deeper {k:Nat}{A:Around}(r:aY (k+1) A)(env:Env):aY k (A.deeper env) :=
 ⟨r.hd,by have:=r.dp;show A.depth+1+3*k+5<_;omega,by have:=r.un;show A.units+3+16*k+200<_;omega⟩
theorem iW {A:Around}{C:Addr}{us:List Value}{kw:List (Str×Value)}:(A.under (.builtin "type.__call__" ⟨.ref C::us,kw⟩)).depth=A.depth+1:=by
 first | rfl | simp[Around.under,Code.weight,Code.isCreation,Code.isGuard,Code.isCaller,Code.frames,Code.isFrame,guardIds]
theorem iX {A:Around}{C:Addr}{us:List Value}{kw:List (Str×Value)}:(A.under (.builtin "type.__call__" ⟨.ref C::us,kw⟩)).units=A.units+1:=by
 first | rfl | simp[Around.under,Code.cUnits,Code.frames,Code.isFrame]
theorem aY.make {k:Nat}{A:Around}(r:aY (k+1) A)(C:Addr)(us:List Value)(kw:List (Str×Value)):aY k (A.under (.builtin "type.__call__" ⟨.ref C::us,kw⟩)) :=
 ⟨r.hd,by have:=r.dp;rw[iW];omega,by have:=r.un;rw[iX];omega⟩
theorem aY.depth {k:Nat}{A:Around}(r:aY k A):A.depth<recursionLimit:=by have:=r.dp;omega
theorem aY.units {k:Nat}{A:Around}(r:aY k A):A.units+64<cLine:=by have:=r.un;omega
def iG:TA:=fun _ H Q=>Q [] H
def gc (ta:TE)(tr:TA):TA:=fun σ H Q=>ta σ H fun x H1=>tr σ H1 fun xs H2=>Q (x::xs) H2
section
variable {X:Cx}{e:Expr}{es:List Expr}{te:TE}{t:TA}{pos:Pos}
theorem aI:PA X [] iG:=fun _ _ _ _ H Q I h=>Calls.spliced_nil ⟨[],H,I,.nil,h⟩
theorem ai (ha:PE X e te)(hr:PA X es t)(hs:starEach (e::es) X.env=(false,eval e X.env)::starEach es X.env:=by rfl):PA X (e::es) (gc te t):=by
 intro pos pins s σ H Q I h;rw[hs]
 show wpAny _ _ (spliced ((false,eval e X.env)::backTo pos (starEach es X.env))) _ _ s
 refine Calls.spliced_cons (aU (ha pins s σ H _ I h) fun u s1 ⟨x,H1,I1,r1,q1⟩=>?_);exact aU (hr pos pins s1 σ H1 _ I1 q1) fun us s2 ⟨xs,H2,I2,r2,q2⟩=>⟨x::xs,H2,I2,.cons r1 r2,q2⟩
def pj (t:TA):TE:=fun σ H Q=>t σ H fun xs H1=>xs.length<=sizeLine/\∀ p,H1 p=none->Q (.ref p) (aA H1 p (.tup xs))
def pc (t:TA):TE:=fun σ H Q=>t σ H fun xs H1=>xs.length<=sizeLine/\∀ p,H1 p=none->Q (.ref p) (aA H1 p (.lst xs))
theorem a8 {x1}(h:PA X es t):PE X (.Tuple es x1 pos) (pj t):=by
 intro pins s σ H Q I hq;refine wpAny_Tuple_spliced (aU (h pos pins s σ H _ I hq) fun us s1 ⟨xs,H1,I1,r,z,q⟩=>⟨by rw[<-r.length];exact z,?_⟩);have hf:H1 s1.heap.objs.size=none:=I1.hok.fresh (qj _);refine⟨.ref s1.heap.objs.size,aA H1 s1.heap.objs.size (.tup xs),I1.laid (t':=s1.toks) (fun b u e=>Heap.get?_push_of_some _ e) (qj _) ?_,rfl,q _ hf⟩;exact⟨z,us,r,⟨_,Heap.get?_push_size _ rfl,rfl,_,rfl⟩⟩
theorem cx (h:PA X es t):PE X (.List es pos) (pc t):=by
 intro pins s σ H Q I hq;refine wpAny_List_spliced (aU (h pos pins s σ H _ I hq) fun us s1 ⟨xs,H1,I1,r,z,q⟩=>⟨by rw[<-r.length];exact z,?_⟩);have hf:H1 s1.heap.objs.size=none:=I1.hok.fresh (qj _);refine⟨.ref s1.heap.objs.size,aA H1 s1.heap.objs.size (.lst xs),I1.laid (t':=s1.toks) (fun b u e=>Heap.get?_push_of_some _ e) (qj _) ?_,rfl,q _ hf⟩;exact⟨z,us,0,r,Heap.get?_push_size _ rfl⟩
end
abbrev Sp:=List V->Hp->VK->XK->Prop
abbrev js:=List Env->Hp->Shared->XK->Value->Shared->Prop
structure iK (P:Program)(w:World)(K:PySem.W.Frag)(mg:Str->Option Value)(base:Heap)(A:Around)(outer:List Env)(s:Shared)(H:Hp):Prop where
 frames:A.frames=some outer
 mod:Mod K mg base
 bs:∀ b o,base.get? b=some o->s.heap.get? b=some o/\H b=none
 bsz:base.objs.size<=s.heap.objs.size
 funs:s.heap.FunFrames base outer
 frf:∀ b∈fu outer,H b=none
 hok:d4 P w H s.heap
 bare:AllBare s.gens
def CE (outer:List Env)(P:Program)(w:World)(H:Hp)(s:Shared)(Q:VK)(u:Value)(s':Shared):Prop :=
 ∃ v H',s'.os=s.os/\AllBare s'.gens/\Un (fu outer) [] H H' s.heap s'.heap/\d4 P w H' s'.heap/\aF v u/\Q v H'
def CR (CX:js)(outer:List Env)(P:Program)(w:World)(H:Hp)(s:Shared)(Q:VK)(E:XK)(r:Result)(s':Shared):Prop :=
 match r with
 | .ok (.ret u)=>CE outer P w H s Q u s'
 | .ok _=>False
 | .error e=>CX outer H s E e s'
structure aO (P:Program)(w:World)(K:PySem.W.Frag)(mg:Str->Option Value)(base:Heap)(CX:js)(k:Nat)(f:Addr)(fd:FuncData)(ps:List Str)(sp:Sp):Prop where
 len:∀ vs H Q E,sp vs H Q E->vs.length=ps.length
 run:∀ (A:Around)(outer:List Env)(s:Shared)(H:Hp)(args:Args)(us:List Value)(vs:List V)(Q:VK)(E:XK),aY k A->iK P w K mg base A outer s H->BindsTo s fd args (ps.zip us)->az vs us->sp vs H Q E ->
  codeAny (model P w) A (.call (.ref f) args) (CR CX outer P w H s Q E) s
theorem iK.make {P:Program}{w:World}{K:PySem.W.Frag}{mg:Str->Option Value}{base:Heap}{A:Around}{outer:List Env}{s:Shared}{H:Hp}(e:iK P w K mg base A outer s H)(C:Addr)(us:List Value)(kw:List (Str×Value)) :
  iK P w K mg base (A.under (.builtin "type.__call__" ⟨.ref C::us,kw⟩)) outer s H:=⟨by first | exact e.frames | (simpa [Around.under,Code.envs,Code.isFrame,pushEnvs] using e.frames),e.mod,e.bs,e.bsz,e.funs,e.frf,e.hok,e.bare⟩
section
variable {X:Cx}{pins:List (Addr×Obj)}{σ:St}{H:Hp}{s s':Shared}
theorem aj.env0 (I:aj X pins σ H s):iK X.prog X.w X.K X.mg X.base X.A X.stack s H :=
 ⟨I.ok.frames,I.ok.mod,I.bs,qQ I.ok.bsz I.sz,I.stack,I.stkFree,I.hok,I.bare⟩
theorem aj.after {Q:VK}{u:Value}(I:aj X pins σ H s)(h:CE X.stack X.prog X.w H s Q u s'):EP X pins σ Q u s':=by
 obtain⟨v,H',os,bare,un,hok,r,q⟩:=h;obtain⟨hh,g,d,t,os'⟩:=s';obtain rfl:os'=s.os:=os;exact⟨v,H',I.call (h':=hh) (g':=g) (d':=d) (t':=t) (ch:=[]) un hok bare (fun b z=>absurd z (by simp)),r,q⟩
end
def kX (sp:Sp)(dvs:List V)(E:XK)(t:TA):TE:=fun σ H Q=>t σ H fun vs H1=>sp (vs++dvs) H1 Q E
inductive pG (C:Addr) (m:Str) (sp:Sp) (dvs:List V) (E:XK) (t:TA) (σ:St) (Q:VK) (x:V) (H:Hp):Prop
 | mk (a dx:Addr) (fs:List (Str×V)) (e:x=.ref a) (o:H a=some (.ins C dx fs)) (l:fs.lookup m=none) (h:t σ H fun vs H2=>sp (x::(vs++dvs)) H2 Q E):pG C m sp dvs E t σ Q x H
def jL (C:Addr)(m:Str)(sp:Sp)(dvs:List V)(E:XK)(ta:TE)(t:TA):TE:=fun σ H Q=>ta σ H fun x H1=>pG C m sp dvs E t σ Q x H1
def l0 (C:Addr)(sp:Sp)(dvs:List V)(E:XK)(t:TA):TE:=fun σ H Q=>t σ H fun vs H1=>∀ x dx,H1 x=none->H1 dx=none->dx≠x ->
 sp (.ref x::(vs++dvs)) (aA (aA H1 dx (.own x)) x (.ins C dx [])) (fun v H2=>v=.non/\Q (.ref x) H2) E
def cz (K:PySem.W.Frag)(fd:FuncData)(ps:List Str)(ds:List Value):Prop :=
 ∀ (s:Shared)(us:List Value),K.In s.heap->(us++ds).length=ps.length->BindsTo s fd ⟨us,[]⟩ (ps.zip (us++ds))
theorem cz.all {K:PySem.W.Frag}{fd:FuncData}{ps:List Str}(h:∀ us:List Value,us.length=ps.length->bindArgs fd ⟨us,[]⟩=pure (ps.zip us)):cz K fd ps []:=fun s us _ hl=>by
 rw[List.append_nil]at hl ⊢;exact .of_eq (h us hl)
def ca (CX:js)(X:Cx)(E:XK):Prop:=∀ (pins:List (Addr×Obj))(σ:St)(H:Hp)(s:Shared)(e:Value)(s':Shared),aj X pins σ H s->CX X.stack H s E e s'->X.xe e s'
section
variable {X:Cx}{CX:js}{k:Nat}{f C:Addr}{fd:FuncData}{ps:List Str}{sp:Sp}{dvs:List V}{ds:List Value}{E:XK}{x m:Str}{p pos apos:Pos}{e o:Expr}{es:List Expr}{ta:TE}{t:TA}
theorem jh {pins:List (Addr×Obj)}{σ:St}{H:Hp}{s:Shared}{Q:VK}{us:List Value}{vs:List V}(F:aO X.prog X.w X.K X.mg X.base CX k f fd ps sp)(hr:aY k X.A)(hb:cz X.K fd ps ds)(hd:az dvs ds)(hx:ca CX X E)
  (I:aj X pins σ H s) (r:az vs us) (h:sp (vs++dvs) H Q E):wpAny (model X.prog X.w) X.A (call (.ref f) us) (EP X pins σ Q) X.xe s:=by
 have r2:az (vs++dvs) (us++ds):=r.append hd
 have hl:(us++ds).length=ps.length:=by rw[<-r2.length];exact F.len _ _ _ _ h
 refine wpAny_call (codeAny_mono (F.run X.A X.stack s H ⟨us,[]⟩ (us++ds) (vs++dvs) Q E hr I.env0 (hb s us I.kIn hl) r2 h) fun r s' hq=>?_)
 cases r with
 | error e=>exact hx pins σ H s e s' I hq
 | ok fl =>
  cases fl with
  | ret u=>exact I.after hq
  | next=>exact False.elim hq
  | brk=>exact False.elim hq
  | cont=>exact False.elim hq
theorem jH (F:aO X.prog X.w X.K X.mg X.base CX k f fd ps sp)(hr:aY k X.A)(hg:Gl X x)(hm:X.mg x=some (.ref f))(hk:PySem.W.keepIn X.K (.ref f)=true)(hb:cz X.K fd ps ds)(hd:az dvs ds)(hx:ca CX X E)
  (ha:PA X (e::es) t) (hdb:(x == ("__debug__" : Str))=false:=by decide) (he:starEach (e::es) X.env=(false,eval e X.env)::starEach es X.env:=by rfl) (hpl:(backTo pos (starEach es X.env)).any (·.1)=false:=by rfl) :
  PE X (.Call (.Name x p) (e::es) [] pos) (kX sp dvs E t):=by
 intro pins s σ H Q I h;refine qO (fz I hg hm ?_ hdb);refine PySem.W.callWith_K (h₀:=X.base) I.ok.mod.kin hk (aU (ha pos pins s σ H _ I h) fun us s1 ⟨vs,H1,I1,r,q⟩=>⟨I1.kIn,?_⟩) he hpl;exact jh F hr hb hd hx I1 r q
theorem lG {pl:Sem Bool}(he:PE X o ta)(c:jP X.K C)(hm:lj X.K C m f)(F:aO X.prog X.w X.K X.mg X.base CX k f fd ps sp)(hr:aY k X.A)(hb:cz X.K fd ps ds)(hd:az dvs ds)(hx:ca CX X E)(ha:PA X (e::es) t)
  (hst:starEach (e::es) X.env=(false,eval e X.env)::starEach es X.env:=by rfl) (hpl:(backTo pos (starEach es X.env)).any (·.1)=false:=by rfl)
  (ht:eval (.Call (.Attribute o m apos) (e::es) [] pos) X.env=(do
   let ov <-eval o X.env
   standAt apos.atName
   let (f,first) <-holding [ov] (getMethod ov m pl)
   callWith pos f first (backTo pos (starEach (e::es) X.env)) (backToKw pos (keywordEach [] X.env))):=by rfl) :
  PE X (.Call (.Attribute o m apos) (e::es) [] pos) (jL C m sp dvs E ta t):=by
 intro pins s σ H Q I h;refine PySem.W.methodCall_KW (pl:=pl) (aU (he pins s σ H _ I h) fun u s1 ⟨x,H1,I1,rx,a,dx,fs,ex,ea,l,q⟩=>?_) ht;subst ex;obtain rfl:u=Value.ref a:=rx;refine fS I1 ea c hm l ?_;refine PySem.W.callWith_K (first:=[.ref a]) (h₀:=X.base) I.ok.mod.kin hm.kp (aU (ha pos pins s1 σ H1 _ I1 q) fun us s2 ⟨vs,H2,I2,r,q2⟩=>⟨I2.kIn,?_⟩) hst hpl;exact jh (us:=.ref a::us) (vs:=.ref a::vs) F hr hb hd hx I2 (.cons rfl r) q2
theorem kK {pl:Sem Bool}(he:PE X o ta)(c:jP X.K C)(hm:lj X.K C m f)(F:aO X.prog X.w X.K X.mg X.base CX k f fd ps sp)(hr:aY k X.A)(hb:cz X.K fd ps ds)(hd:az dvs ds)(hx:ca CX X E)
  (ht:eval (.Call (.Attribute o m apos) [] [] pos) X.env=(do
   let ov <-eval o X.env
   standAt apos.atName
   let (f,first) <-holding [ov] (getMethod ov m pl)
   callWith pos f first (backTo pos (starEach [] X.env)) (backToKw pos (keywordEach [] X.env))):=by rfl) :
  PE X (.Call (.Attribute o m apos) [] [] pos) (jL C m sp dvs E ta iG):=by
 intro pins s σ H Q I h;refine PySem.W.methodCall_KW (pl:=pl) (aU (he pins s σ H _ I h) fun u s1 ⟨x,H1,I1,rx,a,dx,fs,ex,ea,l,q⟩=>?_) ht;subst ex;obtain rfl:u=Value.ref a:=rx;refine fS I1 ea c hm l ?_;exact PySem.W.callWith_K0 (first:=[.ref a]) I1.kIn hm.kp (jh (us:=[.ref a]) (vs:=[.ref a]) F hr hb hd hx I1 (.cons rfl .nil) q)
structure Mk (K:PySem.W.Frag)(C f:Addr):Prop where
 makes:PySem.W.makesIn K C=true
 init:PySem.W.findIn K (.ref C) "__init__" = some (some (.ref f))
 fn:PySem.W.isFn K (.ref f)=true
 kp:PySem.W.keepIn K (.ref C)=true
theorem kW {pins:List (Addr×Obj)}{σ:St}{H:Hp}{s:Shared}{Q:VK}{us:List Value}{vs:List V}(M:Mk X.K C f)(F:aO X.prog X.w X.K X.mg X.base CX k f fd ps sp)(hr:aY (k+1) X.A)(hb:cz X.K fd ps ds)(hd:az dvs ds)
  (hx:ca CX X E) (I:aj X pins σ H s) (r:az vs us)
  (h:∀ x dx,H x=none->H dx=none->dx≠x->sp (.ref x::(vs++dvs)) (aA (aA H dx (.own x)) x (.ins C dx [])) (fun v H2=>v=.non/\Q (.ref x) H2) E) :
  wpAny (model X.prog X.w) X.A (call (.ref C) us) (EP X pins σ Q) X.xe s:=by
 have hq:=h (s.heap.objs.size+1) s.heap.objs.size (I.hok.fresh (Nat.le_succ _)) (I.hok.fresh (qj _)) (qk (Nat.lt_succ_self _));have I2:=aj.made (C:=C) I;have r2:az (V.ref (s.heap.objs.size+1)::(vs++dvs)) (Value.ref (s.heap.objs.size+1)::(us++ds)):=.cons rfl (r.append hd)
 have hl:(Value.ref (s.heap.objs.size+1)::us++ds).length=ps.length:=by
  have e:=r2.length;rw[F.len _ _ _ _ hq]at e;exact e.symm
 refine wpAny_call (kz (f:=f) I.kIn M.makes M.init (beq_iff_eq.mp M.fn) (codeAny_mono (F.run _ X.stack _ _ ⟨Value.ref (s.heap.objs.size+1)::us,[]⟩ (Value.ref (s.heap.objs.size+1)::(us++ds)) _ _ E (hr.make C us [])
  (I2.env0.make C us []) (hb _ (Value.ref (s.heap.objs.size+1)::us) I2.kIn hl) r2 hq) fun r s' hq'=>?_))
 cases r with
 | error e=>exact hx pins σ _ _ e s' I2 hq'
 | ok fl =>
  cases fl with
  | ret u =>
   obtain⟨v,H',I3,rv,ev,q3⟩:=I2.after hq';subst ev;exact⟨rv,⟨V.ref (s.heap.objs.size+1),H',I3,rfl,q3⟩⟩
  | next=>exact False.elim hq'
  | brk=>exact False.elim hq'
  | cont=>exact False.elim hq'
theorem kJ (M:Mk X.K C f)(F:aO X.prog X.w X.K X.mg X.base CX k f fd ps sp)(hr:aY (k+1) X.A)(hg:Gl X x)(hm:X.mg x=some (.ref C))(hb:cz X.K fd ps ds)(hd:az dvs ds)(hx:ca CX X E)
  (hdb:(x == ("__debug__" : Str))=false:=by decide):PE X (.Call (.Name x p) [] [] pos) (l0 C sp dvs E iG):=by
 intro pins s σ H Q I h;refine qO (fz I hg hm ?_ hdb);exact PySem.W.callWith_K0 I.kIn M.kp (kW (us:=[]) M F hr hb hd hx I .nil h)
end
structure au (N P:List Str)(sc:Scope):Prop where
 kind:sc.kind=.function
 co:sc.isCoroutine=false
 gen:sc.isGenerator=false
 nd:N.Nodup
 pre:N.take P.length=P
 par:∀ x∈P,sc.names.lookup x=some .local\/sc.names.lookup x=some .cell
 nofree:∀ y∈sc.names,y.2≠.free
theorem gy {kindOf:Str->Option NameKind}{x:Str}:∀ {binds:List (Str×Value)}{m:Str->Option Value},(∀ v,(x,v)∉binds)->bindL kindOf binds m x=m x
 | [],_,_=>rfl
 | (n,v)::r,m,h=>by
  unfold bindL;rw[gy fun w hw=>h w (qr _ hw)];split
  ·have:x≠n:=by rintro rfl;exact h v qy
   simp[this]
  ·rfl
theorem gv {kindOf:Str->Option NameKind}{x:Str}:∀ {binds:List (Str×Value)}{m:Str->Option Value},(∀ v,(x,v)∉binds)->bindC kindOf binds m x=m x
 | [],_,_=>rfl
 | (n,v)::r,m,h=>by
  unfold bindC;rw[gv fun w hw=>h w (qr _ hw)];split
  ·rfl
  ·have:x≠n:=by rintro rfl;exact h v qy
   simp[this]
theorem gw {kindOf:Str->Option NameKind}{x:Str}{v:Value}:∀ {P:List Str}{vs:List Value}{i:Nat}{m:Str->Option Value},P.Nodup->P[i]? = some x->vs[i]? = some v->kindOf x=some .local ->
  bindL kindOf (P.zip vs) m x=some v
 | [],_,_,_,_,h,_,_=>by simp at h
 | _::_,[],_,_,_,_,h,_=>by simp at h
 | p::P,w::vs,0,m,nd,h1,h2,hk=>by
  simp at h1 h2;subst h1;subst h2
  show bindL kindOf ((p,w)::P.zip vs) m p=_
  unfold bindL;rw[gy fun v hv=>(qY.mp nd).1 (List.of_mem_zip hv).1,ql hk];simp
 | p::P,w::vs,i+1,m,nd,h1,h2,hk=>by
  show bindL kindOf ((p,w)::P.zip vs) m x=_
  unfold bindL;exact gw (i:=i) (qY.mp nd).2 (by simpa using h1) (by simpa using h2) hk
theorem gu {kindOf:Str->Option NameKind}{x:Str}{v:Value}:∀ {P:List Str}{vs:List Value}{i:Nat}{m:Str->Option Value},P.Nodup->P[i]? = some x->vs[i]? = some v->kindOf x≠some .local ->
  bindC kindOf (P.zip vs) m x=some v
 | [],_,_,_,_,h,_,_=>by simp at h
 | _::_,[],_,_,_,_,h,_=>by simp at h
 | p::P,w::vs,0,m,nd,h1,h2,hk=>by
  simp at h1 h2;subst h1;subst h2
  show bindC kindOf ((p,w)::P.zip vs) m p=_
  unfold bindC;rw[gv fun v hv=>(qY.mp nd).1 (List.of_mem_zip hv).1,qi hk];simp
 | p::P,w::vs,i+1,m,nd,h1,h2,hk=>by
  show bindC kindOf ((p,w)::P.zip vs) m x=_
  unfold bindC;exact gu (i:=i) (qY.mp nd).2 (by simpa using h1) (by simpa using h2) hk
def eE (N:List Str)(vs:List V):St:=vs.map some++List.replicate (N.length-vs.length) none
def gE (CX:js)(P:Program)(w:World)(K:PySem.W.Frag)(mg:Str->Option Value)(base:Heap)(N:List Str)(qual:Str)(scope:Scope)(f:Addr)(cd:Value)(A:Around)(outer:List Env)(s:Shared)(H:Hp)(E:XK):Cx where
 prog:=P
 w:=w
 K:=K
 mg:=mg
 base:=base
 A:=A.deeper (envOfC qual scope s.heap.objs.size f cd)
 N:=N
 s₀:=s
 H₀:=H
 env:=envOfC qual scope s.heap.objs.size f cd
 outer:=outer
 stack:=envOfC qual scope s.heap.objs.size f cd::outer
 ex:=[]
 calm:=true
 fn:=fun _=>true
 pn:=[]
 xe:=fun e s'=>wpAny (model P w) (A.deeper (envOfC qual scope s.heap.objs.size f cd)) (leaving (envOfC qual scope s.heap.objs.size f cd) e) (fun _ s''=>CX outer H s E e s'') (fun e' s''=>CX outer H s E e' s'') s'
theorem h9 {sc:Scope}{n:Nat}{x:Str}(h:sc.names.lookup x=some .cell):∃ c,(cellsFrom n sc.names []).lookup x=some c:=by
 have q:=PySem.W.cellsFrom_some sc.names n [] (.inl h);exact Option.isSome_iff_exists.mp q
theorem jY {CX:js}{P:Program}{w:World}{K:PySem.W.Frag}{mg:Str->Option Value}{base:Heap}{N ps:List Str}{qual:Str}{scope:Scope}{f:Addr}{cd:Value}{A:Around}{outer:List Env}{s s1:Shared}{H:Hp}{E:XK}{us:List Value}{vs:List V}
  (S:au N ps scope) (hd:A.handled=none) (e0:iK P w K mg base A outer s H) (hl:vs.length=ps.length) (r:az vs us)
  (x:InCallC s s.heap.objs.size (bindL (envOfC qual scope s.heap.objs.size f cd).kindOf (ps.zip us) fun _=>none) (cellsFrom (s.heap.objs.size+1) scope.names []) (bindC (envOfC qual scope s.heap.objs.size f cd).kindOf (ps.zip us) fun _=>none) s1) :
  aj (gE CX P w K mg base N qual scope f cd A outer s H E) [] (eE N vs) H s1:=by
 have hpl:ps.length<=N.length:=by have:=qL List.length S.pre;rw[q5]at this;omega
 obtain⟨h1,tk,rfl,hk⟩:=x.done;have noA:∀ b:Addr,b∉(gE CX P w K mg base N qual scope f cd A outer s H E).ex:=fun b z=>absurd (show b∈([]:List Addr) from z) (by simp)
 refine⟨⟨e0.mod,S.kind,rfl,rfl,qj _,fun y z c h1 h2=>?_,fun y hy=>?_,fun y c _ h=>?_,fun _=>hd,Around.frames_deeper e0.frames,.inr ⟨rfl,rfl⟩,fun b z=>absurd z (noA b),e0.bs,e0.bsz,fun b _ _=>noA b,fun b z=>absurd z (noA b),e0.funs,e0.frf⟩,
  rfl,e0.bare,Un.kept hk,⟨_,x.toInCall.ns,fun i y v h1 h2 h3=>?_⟩,fun y c h=>⟨_,x.cell y c h⟩,e0.hok.fresh (qj _),fun y c h=>?_,fun p hp=>absurd (show p∈([]:List (Addr×Obj)) from hp) (by simp),e0.hok.kept hk,?_⟩
 ·exact name_of_addr x.apart (qS h1) (qS h2)
 ·have hy:scope.names.lookup y=some .cell\/scope.names.lookup y=some .free:=hy
  rcases hy with hy | hy
  ·exact h9 hy
  ·exact absurd rfl (S.nofree _ (qS hy))
 ·exact Nat.le_of_lt (x.above y c (qS h))
 ·have hi:i<vs.length:=by
   unfold eE at h2
   by_cases hi:i<vs.length
   ·exact hi
   ·rw[List.getElem?_append_right (by simpa using hi)]at h2
    rw[List.getElem?_replicate]at h2;split at h2<;>cases h2
  have ha:vs[i]? = some v:=by
   unfold eE at h2;rw[List.getElem?_append_left (by simpa using hi),List.getElem?_map]at h2
   cases e:vs[i]? with
   | none=>rw[e]at h2;cases h2
   | some a=>rw[e]at h2;cases h2;rfl
  obtain⟨u,hu,rv⟩:=r.get ha
  have hp:ps[i]? = some y:=by
   rw[<-S.pre,List.getElem?_take_of_lt (by omega)];exact h1
  have ndP:ps.Nodup:=by rw[<-S.pre];exact S.nd.sublist (List.take_sublist _ _)
  refine⟨u,rv,?_⟩;rcases S.par y (qR hp) with k | k
  ·exact .inl ⟨k,gw ndP hp hu k⟩
  ·obtain⟨c,e⟩:=h9 (n:=s.heap.objs.size+1) k
   refine .inr ⟨.inl k,c,e,?_⟩;have q:=x.cell y c e;rw[gu ndP hp hu (by show scope.names.lookup y≠_;rw[k];decide)]at q;exact q
 ·exact e0.hok.fresh (Nat.le_of_lt (x.above y c (qS h)))
 ·unfold eE
  show _=N.length
  rw[qz,qf,List.length_replicate];omega
theorem lT {CX:js}{P:Program}{w:World}{K:PySem.W.Frag}{mg:Str->Option Value}{base:Heap}{k:Nat}{f:Addr}{name qual:Str}{params:Arguments}{body:List Stmt}{scope:Scope}{dV kV doc pm cdv ct oc:Value}{an od:Option Addr}
  {osl:Array (Option Value)} {N ps:List Str} {sp:Sp} (lk:K.lookup f=some ⟨oc,od,.func (PySem.W.fnOf name qual params body scope dV kV doc pm an cdv ct),osl⟩) (hcd:PySem.W.codeIn K cdv qual=true) (S:au N ps scope)
  (len:∀ vs H Q E,sp vs H Q E->vs.length=ps.length)
  (hbody:∀ (A:Around)(outer:List Env)(s:Shared)(H:Hp)(vs:List V)(Q:VK)(E:XK),aY k (A.deeper (envOfC qual scope s.heap.objs.size f cdv))->sp vs H Q E ->
   ∃ t,iN (gE CX P w K mg base N qual scope f cdv A outer s H E) body t/\t { nx:=fun _ H'=>Q .non H',rt:=Q } (eE N vs) H) :
  aO P w K mg base CX (k+1) f (PySem.W.fnOf name qual params body scope dV kV doc pm an cdv ct) ps sp:=by
 refine⟨len,fun A outer s H args us vs Q E hr e0 hb r hsp=>?_⟩;have hl:=len _ _ _ _ hsp;have KX:K.In s.heap:=e0.mod.kin.keeps fun b o e=>(e0.bs b o e).1;have lim:s.heap.NoLimit:=e0.mod.nolimit.keeps fun b o e=>(e0.bs b o e).1
 have hkind:∀ y∈ps.zip us,scope.names.lookup y.1=some .local\/(scope.names.lookup y.1=some .cell/\((cellsFrom (s.heap.objs.size+1) scope.names []).lookup y.1).isSome=true):=fun ⟨n,v⟩ hy=>by
  rcases S.par n (List.of_mem_zip hy).1 with q | q
  ·exact .inl q
  ·exact .inr ⟨q,PySem.W.cellsFrom_some _ _ _ (.inl q)⟩
 refine codeAny_call_function hr.depth (KX _ _ lk) rfl S.co S.gen rfl (PySem.W.codeRec_of KX hcd) (hb _ _ _ _ ?_);refine wpAny_newFunctionEnv_cells S.kind hkind fun env he s1 x=>?_;subst he;refine⟨lim.keeps x.toInCall.keep,codeAny_func ?_⟩;obtain⟨t,ht,hq⟩:=hbody A outer s H vs Q E (hr.deeper _) hsp;have I:aj (gE CX P w K mg base N qual scope f cdv A outer s H E) [] (eE N vs) H s1:=jY S hr.hd e0 hl r x;refine qx (ht [] s1 (eE N vs) H _ I hq) (fun fl s' hs=>?_) fun e s' hs=>hs
 have fin:∀ {σ':St}{H':Hp}{v:V}{u:Value},aj (gE CX P w K mg base N qual scope f cdv A outer s H E) [] σ' H' s'->aF v u->Q v H'->CE outer P w H s Q u s' :=
  fun {σ' H' v u} J rv q=>⟨v,H',J.os,J.bare,J.base,J.hok,rv,q⟩
 cases fl with
 | ret u =>
  obtain⟨v,σ',H',J,rv,q⟩:=hs;exact fin J rv q
 | next =>
  obtain⟨σ',H',J,q⟩:=hs;exact fin (v:=V.non) (u:=Value.none) J rfl q
 | brk =>
  obtain⟨_,_,_,q⟩:=hs;exact False.elim q
 | cont =>
  obtain⟨_,_,_,q⟩:=hs;exact False.elim q
section
variable {X:Cx}{x:Str}{p pos:Pos}{e:Expr}{es:List Expr}{t:TA}{id T:String}{r:List V->Hp->VK->Prop}
def pK (r:List V->Hp->VK->Prop)(t:TA):TE:=fun σ H Q=>t σ H fun vs H1=>r vs H1 Q
theorem bp (hc:dC X (.builtin id) r)(hg:Gl X x)(hm:X.mg x=none)(hv:bootBuiltins x=some (.builtin id))(ha:PA X (e::es) t)(hn:x≠"__name__":=by decide)(hdb:(x == ("__debug__" : Str))=false:=by decide)
  (he:starEach (e::es) X.env=(false,eval e X.env)::starEach es X.env:=by rfl) (hpl:(backTo pos (starEach es X.env)).any (·.1)=false:=by rfl):PE X (.Call (.Name x p) (e::es) [] pos) (pK r t):=by
 intro pins s σ H Q I h;refine qO (dN I hg hm hv ?_ hn hdb);exact PyProof.Rows.callWith_builtin1 (aU (ha pos pins s σ H _ I h) fun us s1 ⟨vs,H1,I1,r1,q1⟩=>hc pins s1 σ H1 vs us Q I1 r1 q1) he hpl
theorem dn (hc:dC X (.type T) r)(hg:Gl X x)(hm:X.mg x=none)(hv:bootBuiltins x=some (.type T))(ha:PA X (e::es) t)(hn:x≠"__name__":=by decide)(hdb:(x == ("__debug__" : Str))=false:=by decide)
  (he:starEach (e::es) X.env=(false,eval e X.env)::starEach es X.env:=by rfl) (hpl:(backTo pos (starEach es X.env)).any (·.1)=false:=by rfl):PE X (.Call (.Name x p) (e::es) [] pos) (pK r t):=by
 intro pins s σ H Q I h;refine qO (dN I hg hm hv ?_ hn hdb);exact qM (aU (ha pos pins s σ H _ I h) fun us s1 ⟨vs,H1,I1,r1,q1⟩=>hc pins s1 σ H1 vs us Q I1 r1 q1) he hpl
end
end L2
namespace HT
open PySem PyProof.Rows
section
variable {prog:Program}{w:World}{A:Around}{E:Value->Shared->Prop}{s:Shared}
def sIx (n d:Nat):Option Int->Nat
 | none=>d
 | some v=>if v<0 then (v+(n:Int)).toNat else min v.toNat n
theorem sIx_none (n d:Nat):sIx n d none=d:=rfl
theorem sIx_nat (n d k:Nat):sIx n d (some (k:Int))=min k n:=by
 show (if (k:Int)<0 then ((k:Int)+(n:Int)).toNat else min (k:Int).toNat n)=min k n
 rw[qi (by omega),Int.toNat_natCast]
theorem mR (n d:Nat)(hd:d<=n)(o:Option Int):sIx n d o<=n:=by
 cases o with
 | none=>exact hd
 | some v =>
  show (if v<0 then (v+(n:Int)).toNat else min v.toNat n)<=n
  by_cases hv:v<0
  ·rw[ql hv];omega
  ·rw[qi hv];exact Nat.min_le_right _ _
theorem jv (v:Int)(n d:Nat):(if v<0 then max (v+(n:Int)) 0 else min v (n:Int))=((sIx n d (some v):Nat):Int):=by
 show (if v<0 then max (v+(n:Int)) 0 else min v (n:Int))=(((if v<0 then (v+(n:Int)).toNat else min v.toNat n):Nat):Int)
 by_cases hv:v<0
 ·simp only[ql hv];omega
 ·simp only[qi hv];omega
theorem iO (lo hi:Option Int)(n:Nat):Builtin.Slice.sliceAdjust lo hi 1 (n:Int)=(((sIx n 0 lo:Nat):Int),((sIx n n hi:Nat):Int)):=by
 have h1:¬ ((1:Int)<0):=by omega
 unfold Builtin.Slice.sliceAdjust;simp only[h1,if_false];refine Prod.ext ?_ ?_
 ·cases lo with
  | none=>rfl
  | some v=>exact jv v n 0
 ·cases hi with
  | none=>rfl
  | some v=>exact jv v n n
theorem je (i j:Nat):Builtin.Slice.slicePlaces (i:Int) (j:Int) 1=j-i:=by
 unfold Builtin.Slice.slicePlaces
 have h1:(1:Int)>0:=by omega
 simp only[h1,if_true,Int.ediv_one];split<;>omega
theorem gb {v:Value}{o:Option Int}{Q:Option Int->Shared->Prop}(p:IsPart v o)(h:Q o s):wpAny (model prog w) A (Builtin.Slice.slicePartIndex v) Q E s:=by
 cases p with
 | none=>exact slicePart_none h
 | int i t=>exact slicePart_int h
theorem eT {sl:Addr}{vl vu:Value}{lo hi:Option Int}{n:Nat}{Q:Int×Int×Nat->Shared->Prop}(hs:s.heap.IsSliceOf sl vl vu .none)(pl:IsPart vl lo)(pu:IsPart vu hi)
  (h:Q (((sIx n 0 lo:Nat):Int),1,sIx n n hi-sIx n 0 lo) s):wpAny (model prog w) A (Builtin.Slice.sliceApplied (.ref sl) (pure (n:Int))) Q E s:=by
 obtain⟨os,hos,hcs,hds⟩:=id hs;unfold Builtin.Slice.sliceApplied Builtin.Slice.sliceFields;refine qc (qc (qw hos hds (x:=vl) rfl (qc (qw hos hds (x:=vu) rfl (qc (qw hos hds (x:=.none) rfl (qe ?_)))))));refine qc (slicePart_none ?_)
 show wpAny _ _ (if ((1:Int) == 0)=true then _ else _) _ _ s
 rw[qi (by decide)];refine qc (gb pl (qc (gb pu (qc (qe ?_)))))
 show wpAny _ _ (match Builtin.Slice.sliceAdjust lo hi 1 (n:Int) with | (lo,hi)=>pure (lo,(1:Int),Builtin.Slice.slicePlaces lo hi 1)) _ _ s
 rw[iO lo hi n]
 show wpAny _ _ (pure (((sIx n 0 lo:Nat):Int),(1:Int),Builtin.Slice.slicePlaces ((sIx n 0 lo:Nat):Int) ((sIx n n hi:Nat):Int) 1)) _ _ s
 rw[je];exact qe h
theorem kM (xs:Array Value)(i k:Nat):((List.range k).filterMap fun (m:Nat)=>xs[((i:Int)+(m:Int)*1).toNat]?).toArray=((xs.toList.drop i).take k).toArray:=by
 have e:(fun (m:Nat)=>xs[((i:Int)+(m:Int)*1).toNat]?)=fun m=>xs[i+m]?:=by
  funext m
  have:((i:Int)+(m:Int)*1).toNat=i+m:=by omega
  rw[this]
 rw[e];have:=pick_run xs i k;rw[List.filterMap_map]at this;have e2:((fun x=>xs[x]?) ∘ fun x=>i+x)=fun m=>xs[i+m]?:=rfl;rw[e2]at this;rw[this]
theorem getItem_tuple_cut {t sl:Addr}{items:Array Value}{vl vu:Value}{lo hi:Option Int}{Q:Value->Shared->Prop}(ht:IsTup s.heap t items)(hs:s.heap.IsSliceOf sl vl vu .none)(pl:IsPart vl lo)(pu:IsPart vu hi)
  (hw:¬ (sIx items.size 0 lo=0/\sIx items.size items.size hi=items.size))
  (h:Q (.ref s.heap.objs.size) { s with heap:=s.heap.push { cls:=.type "tuple",data:=.seq ((items.toList.drop (sIx items.size 0 lo)).take (sIx items.size items.size hi-sIx items.size 0 lo)).toArray } })
  (hsz:items.size<=sizeLine):wpAny (model prog w) A (getItem (.ref t) (.ref sl)) Q E s:=by
 have htake:sizeOk (.seq ((items.toList.drop (sIx items.size 0 lo)).take (sIx items.size items.size hi-sIx items.size 0 lo)).toArray):=by
  show ((items.toList.drop (sIx items.size 0 lo)).take (sIx items.size items.size hi-sIx items.size 0 lo)).toArray.size<=sizeLine
  rw[qm,q5,qG,Array.length_toList];omega
 have hj:sIx items.size items.size hi<=items.size:=mR _ _ (qj _) hi;obtain⟨os,hos,hcs,hds⟩:=id hs;have hTs:s.TypeIs (.ref sl) "slice":=⟨os,hos,hcs⟩;unfold getItem
 try with_reducible refine rg ?_
 first | refine qc (qe ?_) | skip
 refine qc (wpAny_sequenceKey ht.typeIs (by decide) ?_)
 refine qc (wpAny_callSpecial?_slot (name:=Str.ofString "__getitem__") ht.typeIs PyProof.Rows.slot_tuple_getitem
  (qU PyProof.Rows.slot_tuple_getitem ht.typeIs entry_tuple_getitem ?_ (args_tuple_getitem _ _)))
 show wpAny _ _ (Builtin.Tuple.tupleItemsOf (.ref t) >>= _) _ _ s
 refine qc (tupleItemsOf_ ht ?_);refine qc (wpAny_typeOf hTs ?_);rw[ql (by decide)];refine qc (eT hs pl pu ?_)
 have hno:¬ ((((sIx items.size 0 lo:Nat):Int) == 0&&(1:Int) == 1&&(sIx items.size items.size hi-sIx items.size 0 lo) == items.size)=true):=by
  intro q;rw[Bool.and_eq_true,Bool.and_eq_true]at q;have q1:((sIx items.size 0 lo:Nat):Int)=0:=eq_of_beq q.1.1;have q2:sIx items.size items.size hi-sIx items.size 0 lo=items.size:=eq_of_beq q.2;exact hw ⟨by omega,by omega⟩
 show wpAny _ _ (if (((sIx items.size 0 lo:Nat):Int) == 0&&(1:Int) == 1&&(sIx items.size items.size hi-sIx items.size 0 lo) == items.size)=true then _ else _) _ _ s
 rw[qi hno,kM]
 first
  | exact qc (m:=Builtin.Tuple.tupleExact _) (qI (qe ⟨_,rfl,qe h⟩) htake)
  | exact qc (m:=Builtin.Tuple.tupleExact _) (qI (qc (qe (qe ⟨_,rfl,qe h⟩))) htake)
  | exact qc (qc (m:=Builtin.Tuple.tupleExact _) (qI (qe (qe ⟨_,rfl,qe h⟩)) htake))
  | exact qc (qc (m:=Builtin.Tuple.tupleExact _) (qI (qe ⟨_,rfl,qe h⟩) htake))
end
end HT
namespace L2
open PySem PySem.Spec PyProof.Rows
abbrev TO:=St->Hp->(Option Int->Hp->Prop)->Prop
def PO (X:Cx)(e:Option Expr)(t:TO):Prop :=
 ∀ (pins:List (Addr×Obj))(s:Shared)(σ:St)(H:Hp)(Q:Option Int->Hp->Prop),aj X pins σ H s->t σ H Q ->
  wpAny (model X.prog X.w) X.A (evalPart e X.env) (fun u s'=>∃ o H',aj X pins σ H' s'/\IsPart u o/\Q o H') X.xe s
def jM:TO:=fun _ H Q=>Q none H
def n9 (t:TE):TO:=fun σ H Q=>t σ H fun x H1=>∃ i,x=.int i/\Q (some i) H1
section
variable {X:Cx}{e:Expr}{te:TE}{lo hi:Option Expr}{tl th:TO}{pos p2:Pos}
theorem gS:PO X none jM:=by
 intro pins s σ H Q I h;rw[evalPart_none];exact qe ⟨none,H,I,.none,h⟩
theorem gT (h:PE X e te):PO X (some e) (n9 te):=by
 intro pins s σ H Q I hw;rw[evalPart_some];refine aU (h pins s σ H _ I hw) fun u s1 ⟨x,H1,I1,r1,q1⟩=>?_;obtain⟨i,rfl,q⟩:=q1;obtain⟨t,rfl⟩:=r1;exact⟨some i,H1,I1,.int i t,q⟩
def oK (X:Cx)(r:V->Option Int->Option Int->Hp->VK->Prop):Prop :=
 ∀ (pins:List (Addr×Obj))(s:Shared)(σ:St)(H:Hp)(x:V)(v vl vu:Value)(lo hi:Option Int)(sl:Addr)(Q:VK),aj X pins σ H s->aF x v->s.heap.IsSliceOf sl vl vu .none->IsPart vl lo->IsPart vu hi->r x lo hi H Q ->
  ∃ T id,typeLookup (.type T) "__getitem__" = pure (some (.builtin id))/\s.TypeIs v T/\wpAny (model X.prog X.w) X.A (getItem v (.ref sl)) (EP X pins σ Q) X.xe s
def p4 (r:V->Option Int->Option Int->Hp->VK->Prop)(te:TE)(tl th:TO):TE:=fun σ H Q=>te σ H fun x H1=>tl σ H1 fun l H2=>th σ H2 fun u H3=>r x l u H3 Q
theorem f7 {r:V->Option Int->Option Int->Hp->VK->Prop}(hr:oK X r)(he:PE X e te)(hl:PO X lo tl)(hu:PO X hi th):PE X (.Subscript e (.Slice lo hi none p2) pos) (p4 r te tl th):=by
 intro pins s σ H Q I h;refine Subscript_ (aU (he pins s σ H _ I h) fun v s1 ⟨x,H1,I1,r1,q1⟩=>?_);refine wpAny_Slice (aU (hl pins s1 σ H1 _ I1 q1) fun vl s2 ⟨l,H2,I2,pl,q2⟩=>aU (hu pins s2 σ H2 _ I2 q2) fun vu s3 ⟨u,H3,I3,pu,q3⟩=>?_);rw[evalPart_none];refine qe ?_;have I4:aj X pins σ H3 { s3 with heap:=s3.heap.push { cls:=.type "slice",data:=.fields #[vl,vu,.none] } }:=I3.kept (t':=s3.toks) fun b ob q=>Heap.get?_push_of_some _ q;obtain⟨T,id,hT,ht,hg⟩:=hr pins { s3 with heap:=s3.heap.push { cls:=.type "slice",data:=.fields #[vl,vu,.none] } } σ H3 x v vl vu l u s3.heap.objs.size Q I4 r1 (Heap.IsSliceOf.new ..) pl pu q3
 show wpAny (model X.prog X.w) X.A (subscriptTail e (.Slice lo hi none p2) v (.ref s3.heap.objs.size)) (EP X pins σ Q) X.xe { s3 with heap:=s3.heap.push { cls:=.type "slice",data:=.fields #[vl,vu,.none] } }
 exact tail_any (ops:=[.ref s3.heap.objs.size,v]) ht hT hg (by with_unfolding_all rfl)
def ic (xs:List V)(lo hi:Option Int):List V:=(xs.drop (HT.sIx xs.length 0 lo)).take (HT.sIx xs.length xs.length hi-HT.sIx xs.length 0 lo)
theorem ie (xs:List V)(lo hi:Option Int):(ic xs lo hi).length<=xs.length:=by
 unfold ic;rw[q5,qG];omega
def nY (K:PySem.W.Frag):V->Option Int->Option Int->Hp->VK->Prop:=fun x lo hi H Q=>∃ a xs,x=.ref a/\aG K H a xs /\
 ¬ (HT.sIx xs.length 0 lo=0/\HT.sIx xs.length xs.length hi=xs.length)/\∀ p,H p=none->Q (.ref p) (aA H p (.tup (ic xs lo hi)))
theorem jk:oK X (nY X.K):=by
 intro pins s σ H x v vl vu lo hi sl Q I rx hs pl pu h;obtain⟨a,xs,rfl,hx,hw,q⟩:=h;cases rx;obtain⟨its,r,ht,hz⟩:=I.tuple hx
 have hlen:its.toArray.size=xs.length:=by rw[qm];exact r.length.symm
 refine⟨"tuple",_,PyProof.Rows.slot_tuple_getitem.lookup,ht.typeIs,?_⟩;refine HT.getItem_tuple_cut ht hs pl pu (by rw[hlen];exact hw) ?_ (by rw[hlen];exact hz);rw[hlen];refine⟨.ref s.heap.objs.size,_,I.laid (t':=s.toks) (o:=.tup (ic xs lo hi)) (fun b ob q=>Heap.get?_push_of_some _ q) (qj _) ?_,rfl,q _ (I.hok.fresh (qj _))⟩;exact⟨qQ (ie xs lo hi) hz,_,(r.drop (HT.sIx xs.length 0 lo)).take (HT.sIx xs.length xs.length hi-HT.sIx xs.length 0 lo),IsTup.new _ _⟩
end
def m9 (n:Nat)(i:Int):Option Nat:=if 0<=i then (if i<n then some i.toNat else none) else if -(n:Int)<=i then some (i+n).toNat else none
def m7 {α:Type}(xs:List α)(i:Int):Option α:=(m9 xs.length i).bind fun j=>xs[j]?
theorem lB {n:Nat}{i:Int}{j:Nat}(h:m9 n i=some j):seqIndex? i n=some j/\j<n/\-(n:Int)<=i/\i<n:=by
 unfold m9 at h
 by_cases h0:0<=i
 ·rw[ql h0]at h
  by_cases h1:i<n
  ·rw[ql h1]at h
   have e:i.toNat=j:=qu h;exact⟨by rw[seqIndex_of h0 h1,e],by omega,by omega,h1⟩
  ·rw[qi h1]at h;cases h
 ·rw[qi h0]at h
  by_cases h1 : -(n:Int)<=i
  ·rw[ql h1]at h
   have e:(i+n).toNat=j:=qu h;exact⟨by rw[seqIndex_neg (by omega) h1,e],by omega,h1,by omega⟩
  ·rw[qi h1]at h;cases h
theorem ju {α:Type}{xs:List α}{i:Int}{v:α}(h:m7 xs i=some v):∃ j,seqIndex? i xs.length=some j/\xs[j]? = some v/\j<xs.length/\-(xs.length:Int)<=i/\i<xs.length:=by
 unfold m7 at h
 cases e:m9 xs.length i with
 | none=>rw[e]at h;cases h
 | some j =>
  rw[e]at h;obtain⟨h1,h2,h3,h4⟩:=lB e;exact⟨j,h1,h,h2,h3,h4⟩
theorem aJ {α:Type}{xs:List α}{j:Nat}{v:α}(h:xs[j]? = some v):m7 xs (j:Int)=some v:=by
 have hj:j<xs.length:=(List.getElem?_eq_some_iff.mp h).1
 have e:m9 xs.length (j:Int)=some j:=by
  unfold m9;rw[ql (by omega),ql (by omega)];simp
 unfold m7;rw[e];exact h
def ll (b:Expr):Prop:=∀ o i,subscripted b false o i=operate [o,i] (getItem o i)
def om (X:Cx)(r:R2):Prop :=
 ∀ (value slice:Expr)(pins:List (Addr×Obj))(s:Shared)(σ:St)(H:Hp)(x y:V)(v u:Value)(Q:VK),aj X pins σ H s->aF x v->aF y u->r x y H Q ->
  subscripted slice false v u=operate [v,u] (getItem v u)->wpAny (model X.prog X.w) X.A (subscriptTail value slice v u) (EP X pins σ Q) X.xe s
def pP (X:Cx)(id:String)(r:V->List V->Hp->VK->Prop):Prop :=
 ∀ (pins:List (Addr×Obj))(s:Shared)(σ:St)(H:Hp)(x:V)(xs:List V)(v:Value)(us:List Value)(Q:VK),aj X pins σ H s->aF x v->az xs us->r x xs H Q ->
  wpAny (model X.prog X.w) X.A (call (.builtin id) (v::us)) (EP X pins σ Q) X.xe s
section
variable {X:Cx}{a b:Expr}{ta tb:TE}{pos:Pos}
theorem aC {r:R2}(hr:om X r)(ha:PE X a ta)(hb:PE X b tb)(hs:ll b):PE X (.Subscript a b pos) (oB r ta tb):=by
 intro pins s σ H Q I h;exact Subscript_ (mo ha hb I h fun v u s2 x y H2 I2 rx ry q=>hr a b pins s2 σ H2 x y v u Q I2 rx ry q (hs _ _))
inductive pC (K:PySem.W.Frag) (x y:V) (H:Hp) (Q:VK):Prop
 | mk (p:Addr) (xs:List V) (i:Int) (v:V) (e1:x=.ref p) (e2:y=.int i) (q:bA K H p xs) (a:m7 xs i=some v) (h:Q v H):pC K x y H Q
def o6 (K:PySem.W.Frag):R2:=fun x y H Q=>pC K x y H Q
inductive pD (K:PySem.W.Frag) (x y:V) (H:Hp) (Q:VK):Prop
 | mk (p:Addr) (xs:List V) (i:Int) (v:V) (e1:x=.ref p) (e2:y=.int i) (q:aG K H p xs) (a:m7 xs i=some v) (h:Q v H):pD K x y H Q
def nX (K:PySem.W.Frag):R2:=fun x y H Q=>pD K x y H Q
theorem fw:om X (o6 X.K):=by
 intro value slice pins s σ H x y v u Q I rx ry h hs;obtain⟨p,xs,i,z,rfl,rfl,hq,he,q⟩:=h;cases rx;obtain⟨t,rfl⟩:=ry;obtain⟨its,r,pl,hz⟩:=I.list hq;obtain⟨j,h1,h2,h3,h4,h5⟩:=ju he;obtain⟨w,ew,rw'⟩:=r.get h2;have hl:=r.length;have hn:=iV;have fin:EP X pins σ Q w s:=⟨z,H,I,rw',q⟩
 by_cases h0:0<=i
 ·have hj:i.toNat=j:=by
   rw[seqIndex_of h0 h5]at h1;exact qu h1
  exact item_listR pl.isList h0 (by omega) (by rw[hj];simpa using ew) fin hs
 ·have hj:(i+(its.toArray.size:Int)).toNat=j:=by
   rw[seqIndex_neg (by omega) h4]at h1;rw[qm,<-hl];exact qu h1
  exact subscriptTail_builtinR (x:=w) pl.isList.typeIs slot_list_getitem.lookup
   (wpAny_getItem_list_neg (Q:=fun r s'=>r=w/\EP X pins σ Q r s') pl.isList (by omega) (by rw[qm]<;>omega) (by omega) (by rw[hj];simpa using ew) ⟨rfl,fin⟩) hs
theorem av:om X (nX X.K):=by
 intro value slice pins s σ H x y v u Q I rx ry h hs;obtain⟨p,xs,i,z,rfl,rfl,hq,he,q⟩:=h;cases rx;obtain⟨t,rfl⟩:=ry;obtain⟨its,r,pl,hz⟩:=I.tuple hq;obtain⟨j,h1,h2,h3,h4,h5⟩:=ju he;obtain⟨w,ew,rw'⟩:=r.get h2;have hl:=r.length;have hn:=iV;have fin:EP X pins σ Q w s:=⟨z,H,I,rw',q⟩
 exact subscriptTail_builtinR (x:=w) pl.typeIs slot_tuple_getitem.lookup
  (getItem_tuple (j:=j) (Q:=fun r s'=>r=w/\EP X pins σ Q r s') pl (by omega) (by omega) (by rw[qm,<-hl];exact h1) (by simpa using ew) ⟨rfl,fin⟩) hs
def ko:V->Bool
 | .non=>true
 | .bl _=>true
 | .int _=>true
 | .str _=>true
 | _=>false
def ow:V->V->Bool
 | .non,.non=>true
 | .bl a,.bl b=>a == b
 | .bl a,.int b=>(if a then 1 else 0) == b
 | .int a,.bl b=>a == (if b then 1 else 0)
 | .int a,.int b=>a == b
 | .str a,.str b=>a == b
 | _,_=>false
theorem ms {A:Around}{s:Shared}{y x:V}{u v:Value}(ry:aF y u)(rx:aF x v)(fy:ko y=true)(fx:ko x=true):SeqAt.EqAt A s u v (ow y x):=by
 cases y with
 | non =>
  cases ry
  cases x with
  | non=>cases rx;exact SeqAt.EqAt.same _
  | bl b=>cases rx;exact SeqAt.EqAt.none_bool b
  | int b=>obtain⟨t,rfl⟩:=rx;exact SeqAt.EqAt.none_int b t
  | str b=>obtain⟨t,rfl⟩:=rx;exact SeqAt.EqAt.none_str b t
  | _=>exact absurd (show false=true from fx) qh
 | bl a =>
  cases ry
  cases x with
  | non=>cases rx;exact SeqAt.EqAt.bool_none a
  | bl b=>cases rx;exact SeqAt.EqAt.bool_bool a b
  | int b=>obtain⟨t,rfl⟩:=rx;exact SeqAt.EqAt.bool_int a b t
  | str b=>obtain⟨t,rfl⟩:=rx;exact SeqAt.EqAt.bool_str a b t
  | _=>exact absurd (show false=true from fx) qh
 | int a =>
  obtain⟨t',rfl⟩:=ry
  cases x with
  | non=>cases rx;exact SeqAt.EqAt.int_none a t'
  | bl b=>cases rx;exact SeqAt.EqAt.int_bool a t' b
  | int b=>obtain⟨t,rfl⟩:=rx;exact SeqAt.EqAt.int_int a t' b t
  | str b=>obtain⟨t,rfl⟩:=rx;exact SeqAt.EqAt.int_str a t' b t
  | _=>exact absurd (show false=true from fx) qh
 | str a =>
  obtain⟨t',rfl⟩:=ry
  cases x with
  | non=>cases rx;exact SeqAt.EqAt.str_none a t'
  | bl b=>cases rx;exact SeqAt.EqAt.str_bool a t' b
  | int b=>obtain⟨t,rfl⟩:=rx;exact SeqAt.EqAt.str_int a t' b t
  | str b=>obtain⟨t,rfl⟩:=rx;exact SeqAt.EqAt.str_str a t' b t
  | _=>exact absurd (show false=true from fx) qh
 | _=>exact absurd (show false=true from fy) qh
theorem cE:dC X (.builtin "len") (fun xs H Q=>∃ p ys,xs=[.ref p]/\(bA X.K H p ys\/aG X.K H p ys)/\Q (.int ys.length) H):=by
 intro pins s σ H xs us Q I r h;obtain⟨p,ys,rfl,hq,q⟩:=h;obtain⟨u,rfl,rx⟩:=gf r;cases rx;have hn:=iV;rcases hq with hq | hq
 ·obtain⟨its,r',pl,hz⟩:=I.list hq
  have hlen:=r'.length;exact Calls.call_len_list pl.isList (by simp only[qm]<;>omega) ⟨.int ys.length,H,I.tok _,⟨s.toks+1,by rw[qm,hlen]⟩,q⟩
 ·obtain⟨its,r',pl,hz⟩:=I.tuple hq
  have hlen:=r'.length;exact len_tuple pl (by simp only[qm]<;>omega) ⟨.int ys.length,H,I.tok _,⟨s.toks+1,by rw[qm,hlen]⟩,q⟩
theorem dE:dC X (.type "tuple") (fun xs H Q=>∃ p ys,xs=[.ref p]/\((bA X.K H p ys/\∀ l,H l=none->Q (.ref l) (aA H l (.tup ys)))\/(aG X.K H p ys/\Q (.ref p) H))):=by
 intro pins s σ H xs us Q I r h;obtain⟨p,ys,rfl,h⟩:=h;obtain⟨u,rfl,rx⟩:=gf r;cases rx;rcases h with ⟨hq,q⟩ | ⟨hq,q⟩
 ·obtain⟨its,r',pl,hz⟩:=I.list hq
  have hlen:=r'.length;refine call_tuple_list pl.isList (fun h' kp=>?_) (by simp only[qm]<;>omega);have I1:aj X pins σ H { s with heap:=h' }:=I.kept (t':=s.toks) kp
  have I2:aj X pins σ (aA H h'.objs.size (.tup ys)) { s with heap:=h'.push { cls:=.type "tuple",data:=.seq its.toArray } } :=
   I1.laid (t':=s.toks) (fun b o e=>Heap.get?_push_of_some _ e) (qj _) (show aQ X.prog X.w _ _ _ (.tup ys) from ⟨hz,its,r',IsTup.new _ _⟩)
  exact⟨.ref h'.objs.size,_,I2,rfl,q _ (I1.hok.fresh (qj _))⟩
 ·obtain⟨its,r',pl,hz⟩:=I.tuple hq
  exact call_tuple_same pl ⟨.ref p,H,I,rfl,q⟩
def pL (K:PySem.W.Frag)(T:String)(x:V)(H:Hp):Prop:=match x with
 | .str _=>T="str"
 | .int _=>T="int"
 | .ref p=>(T="list"/\∃ xs,bA K H p xs)\/(T="tuple"/\∃ o,K.lookup p=some o/\o.cls=.type "tuple"/\o.dict=none) \/
   (T="dict"/\((∃ kvs,H p=some (.dK kvs))\/∃ kvs,H p=some (.dT kvs)))\/(T="set"/\∃ S n,H p=some (.set S n))
 | _=>False
theorem mY {pins:List (Addr×Obj)}{σ:St}{H:Hp}{s:Shared}{T:String}{x:V}{v:Value}(I:aj X pins σ H s)(r:aF x v)(ty:pL X.K T x H) :
  s.TypeIs v T/\∀ a,v=.ref a->∃ ob,s.heap.get? a=some ob/\ob.dict=none:=by
 cases x with
 | str z =>
  obtain⟨t,rfl⟩:=r;cases (show T="str" from ty);exact⟨typeIs_str s z t,fun _ e=>nomatch e⟩
 | int i =>
  obtain⟨t,rfl⟩:=r;cases (show T="int" from ty);exact⟨typeIs_int s i t,fun _ e=>nomatch e⟩
 | ref p =>
  cases r;rcases ty with ⟨rfl,xs,hq⟩ | ⟨rfl,o,hk,hc,hd⟩ | ⟨rfl,hk⟩ | ⟨rfl,S,n,hk⟩
  ·obtain⟨its,_,pl,_⟩:=I.list hq
   refine⟨pl.isList.typeIs,fun a e=>?_⟩;cases e;obtain⟨o,n,e,c,hd,_⟩:=pl;exact⟨o,e,hd⟩
  ·refine⟨⟨o,I.kIn p o hk,hc⟩,fun a e=>?_⟩
   cases e;exact⟨o,I.kIn _ o hk,hd⟩
  ·have z:∃ o,s.heap.get? p=some o/\o.ExactDict:=by
    rcases hk with ⟨kvs,hk⟩ | ⟨kvs,hk⟩
    ·obtain⟨_,_,_,_,o,_,_,e,ex,_⟩:=I.hok p _ hk
     exact⟨o,e,ex⟩
    ·obtain⟨_,_,_,_,o,_,_,e,ex,_⟩:=I.hok p _ hk
     exact⟨o,e,ex⟩
   obtain⟨o,e,ex⟩:=z;refine⟨⟨o,e,ex.1⟩,fun a e2=>?_⟩;cases e2;exact⟨o,e,ex.2.1⟩
  ·obtain⟨o,_,_,_,e,ex,_⟩:=I.hok p _ hk
   refine⟨⟨o,e,ex.1⟩,fun a e2=>?_⟩;cases e2;exact⟨o,e,ex.2.1⟩
 | _=>exact False.elim ty
def pZ (K:PySem.W.Frag)(T:String)(r:V->List V->Hp->VK->Prop)(to:TE)(t:TA):TE:=fun σ H Q=>to σ H fun x H1=>pL K T x H1/\t σ H1 fun xs H2=>r x xs H2 Q
variable {o e:Expr}{es:List Expr}{to:TE}{t:TA}{name:Str}{apos cpos:Pos}{T id:String}{r:V->List V->Hp->VK->Prop}
theorem jG (pa:PlainAttrs T)(slot:Slot T name id)(hty:typeOf (.builtin id)=pure (.type "method_descriptor"))(hm:pP X id r)(ho:PE X o to)(ha:PA X (e::es) t)
  (hbase:attributeBase o name X.env (eval o X.env)=eval o X.env:=by rfl)
  (hfew:((backTo cpos (starEach (e::es) X.env)).all (fun x=>!x.1)&&(backToKw cpos (keywordEach [] X.env)).all (fun x=>x.1.isSome)
   && decide ((e::es).length+([]:List Keyword).length+(if ([]:List Keyword).isEmpty then 0 else 1)<30))=true:=by rfl)
  (hline:(apos.endLine == cpos.line)=true:=by rfl) (hs:starEach (e::es) X.env=(false,eval e X.env)::starEach es X.env:=by rfl) (hplain:(backTo cpos (starEach es X.env)).any (·.1)=false:=by rfl) :
  PE X (.Call (.Attribute o name apos) (e::es) [] cpos) (pZ X.K T r to t):=by
 intro pins s σ H Q I h;refine wpAny_Call_method_late hbase hfew hline rfl (aU (ho pins s σ H _ I h) fun v s1 ⟨x,H1,I1,r1,ty,q1⟩=>?_);obtain⟨h1,h2⟩:=mY I1 r1 ty;refine⟨T,id,pa,slot,hty,h1,h2,?_⟩;have hA:=ha cpos pins s1 σ H1 _ I1 q1;rw[hs]at hA ⊢;refine Calls.callWith_builtin (by show (false||(backTo cpos (starEach es X.env)).any (·.1))=false;rw[hplain]<;>rfl) (Calls.evalArgs_plain ?_);exact aU hA fun us s2 ⟨vs,H2,I2,r2,q2⟩=>hm pins s2 σ H2 x vs v us Q I2 r1 r2 q2
end
def pO (X:Cx)(id:String)(r:V->List V->Hp->VK->Prop):Prop :=
 ∀ (pins:List (Addr×Obj))(s:Shared)(σ:St)(H:Hp)(x:V)(xs:List V)(v:Value)(us:List Value)(Q:VK),aj X pins σ H s->aF x v->az xs us->r x xs H Q ->
  wpAny (model X.prog X.w) X.A (call (.builtin id) (v::us)) (EP X pins σ Q) X.xe s
theorem az.one:∀ {x:V}{us:List Value},az [x] us->∃ u,us=[u]/\aF x u
 | _,_,.cons r .nil=>⟨_,rfl,r⟩
theorem az.two:∀ {x y:V}{us:List Value},az [x,y] us->∃ u v,us=[u,v]/\aF x u/\aF y v
 | _,_,_,.cons r (.cons q .nil)=>⟨_,_,rfl,r,q⟩
section
variable {X:Cx}{pins:List (Addr×Obj)}{σ:St}{H:Hp}{s:Shared}{l b:Addr}{xs ys zs:List V}
theorem aj.lset {its its':List Value}{n:Nat}{f:Array Value->Array Value}{t':Nat}(I:aj X pins σ H s)(hH:H l=some (.lst xs))
  (e:s.heap.get? l=some { cls:=.type "list",data:=.seq its.toArray n }) (hf:f its.toArray=its'.toArray) (hv:az ys its') (hz:ys.length<=sizeLine) :
  aj X pins σ (aA H l (.lst ys)) { s with heap:=s.heap.update l (Obj.mapSeq f),toks:=t' }:=by
 have q:=PySem.IsL.update e f;rw[hf]at q;refine I.write (x:=l) (e:=l) (by rw[hH];exact trivial) (.inl rfl) (fun b' u hb hu=>(Heap.get?_update_other s.heap (Obj.mapSeq f) (qK hb)).trans hu) ⟨_,q⟩ ?_;exact⟨hz,its',_,hv,q⟩
theorem aj.lnew {its:List Value}{t':Nat}(I:aj X pins σ H s)(hv:az ys its)(hz:ys.length<=sizeLine) :
  aj X pins σ (aA H s.heap.objs.size (.lst ys)) { s with heap:=s.heap.push { cls:=.type "list",data:=.seq its.toArray },toks:=t' } :=
 I.laid (fun _ _ q=>Heap.get?_push_of_some _ q) (qj _) ⟨hz,its,0,hv,Heap.get?_push_size _ rfl⟩
theorem aj.fresh (I:aj X pins σ H s):H s.heap.objs.size=none:=I.hok.fresh (qj _)
theorem aj.lstM (I:aj X pins σ H s)(hH:H l=some (.lst xs)):xs.length<=sizeLine/\∃ (its:List Value)(n:Nat),az xs its/\xs.length=its.length/\s.heap.get? l=some { cls:=.type "list",data:=.seq its.toArray n }:=by
 obtain⟨z,its,n,r,e⟩:=I.hok l _ hH;exact⟨z,its,n,r,r.length,e⟩
end
section
variable {X:Cx}
inductive jJ (x:V) (vs:List V) (H:Hp) (Q:VK):Prop
 | mk (l:Addr) (xs:List V) (y:V) (h_0:x=.ref l) (h_1:vs=[y]) (h_2:H l=some (.lst xs)) (h_3:xs.length<sizeLine) (h_4:Q .non (aA H l (.lst (xs++[y])))):jJ x vs H Q
theorem dm:pO X "list.append" jJ:=by
 intro pins s σ H x vs v us Q I rx rv h;obtain⟨l,xs,y,rfl,rfl,hH,hz,q⟩:=h;cases rx;obtain⟨u,rfl,ru⟩:=rv.one;obtain⟨z,its,n,r,hl,e⟩:=I.lstM hH;refine call_meets F.slot_list_append ⟨_,e,rfl⟩ F.entry_list_append (F.args_list_append_2 _ _) (PySem.list_append l its.toArray n u (by rw[qm];omega)) ⟨e,?_⟩;refine⟨.non,_,I.lset (its':=its++[u]) hH e (by simp) (r.append (.cons ru .nil)) ?_,rfl,q⟩;rw[qz,List.length_singleton];omega
inductive nV (x:V) (y:V) (H:Hp) (Q:VK):Prop
 | mk (l b:Addr) (xs zs:List V) (h_0:x=.ref l) (h_1:y=.ref b) (h_2:H l=some (.lst xs)) (h_3:H b=some (.lst zs)) (h_4:xs.length+zs.length<=sizeLine) (h_5:∀ p,H p=none->Q (.ref p) (aA H p (.lst (xs++zs)))):nV x y H Q
theorem mG:gh X (binaryOp .Add) nV:=by
 intro pins s σ H x y v u Q I rx ry h;obtain⟨l,b,xs,zs,rfl,rfl,hH,hB,hz,q⟩:=h;cases rx;cases ry;obtain⟨z,its,n,r,hl,e⟩:=I.lstM hH;obtain⟨z2,its2,n2,r2,hl2,e2⟩:=I.lstM hB;refine PySem.P.add_list e e2 ?_ (by rw[qm,qm];omega)
 have ea:its.toArray++its2.toArray=(its++its2).toArray:=by simp
 rw[ea];exact⟨.ref _,_,I.lnew (t':=s.toks) (r.append r2) (by rw[qz];omega),rfl,q _ I.fresh⟩
end
section
variable {κ:Type} [DecidableEq κ]
theorem KV.keys {kvs:List (κ×V)}{vs:List (κ×Value)}(r:KV kvs vs):kvs.map (·.1)=vs.map (·.1):=by
 unfold KV at r
 induction r with
 | nil=>rfl
 | cons h t ih=>rw[List.map_cons,List.map_cons,ih,h.1]
end
section
variable {X:Cx}{pins:List (Addr×Obj)}{σ:St}{H:Hp}{s:Shared}{a:Addr}{y v:V}{u r:Value}{o:Option V}{A:Around}{E:Value->Shared->Prop}
theorem aj.big (I:aj X pins σ H s):sysModules<s.heap.objs.size:=by
 have h:mainGlobals<s.heap.objs.size:=(I.mod.glob.keeps I.bk).lt;exact Nat.lt_trans (by decide) h
end
theorem kl {P:Program}{w:World}{H:Hp}(h:Heap)(hb:sysModules<h.objs.size):aQ P w H (h.push { cls:=.type "dict",data:=.dict #[] }) h.objs.size (.dK []) :=
 ⟨qH _,rc.mpr (qK (qk hb)),[],.nil,Heap.DictOf.new h⟩
def mV:TE:=fun _ H Q=>∀ p,H p=none->Q (.ref p) (aA H p (.dK []))
section
variable {X:Cx}{pos:Pos}
theorem f6:PE X (.Dict [] [] pos) mV:=fun pins s σ H Q I h =>
 wpAny_Dict_empty ⟨.ref s.heap.objs.size,_,I.laid (a:=s.heap.objs.size) (o:=.dK []) (t':=s.toks) (fun _ _ q=>Heap.get?_push_of_some _ q) (qj _) (kl s.heap I.big),rfl,h _ (I.hok.fresh (qj _))⟩
end
end L2
namespace Att
open PySem PySem.W PySem.Calls PyProof.Rows
theorem fj {P:Params}{h:Heap}:∀ (ns:List Int)(vs:List Value),WellAll P h vs (ns.map WData.int)->IntsAre vs ns:=by
 intro ns
 induction ns with
 | nil =>
  intro vs w;rw[List.map_nil]at w;cases w;exact .nil
 | cons n ns ih =>
  intro vs w;rw[List.map_cons]at w
  cases w with
  | cons a b =>
   cases a;exact .cons _ _ (ih _ b)
theorem j8 {l:OpenLaw}{n:Nat}(hn:l.most=some n){P:Params}{h:Heap}{args:List WData}{vals:List Value}
  (hpre:l.row.toRowW.claim.pre args=true) (hwl:WellAll P h vals args) :
  ∃ a vs ns,vals=[Value.ref a]/\args=[WData.list (ns.map WData.int)]/\h.get? a=some { cls:=.type "list",data:=.seq vs.toArray }/\IntsAre vs ns/\ns.length<=n:=by
 have hsh:WShape.hasAll [] args [.list .int]=true:=(pre_splitW hpre).1;have hc:l.pre.holds [] { args:=args }=true:=(pre_splitW hpre).2;obtain⟨d,r,rfl,h1,h2⟩:=hasAllW_cons hsh;obtain rfl:=hasAllW_nil h2;obtain⟨xs,rfl,h3⟩:=hasW_list h1;obtain⟨ns,rfl⟩:=items_int h3
 have hlen:ns.length<=n:=by
  unfold OpenLaw.pre at hc
  have h4:(WTm.not (.lt (.lit (.int (n:Int))) (.len (.arg 0)))).holds [] { args:=[.list (ns.map .int)] }=true:=by
   have h4:=(holds_andW hc).1;rw[hn]at h4;exact h4
  have h5:=condW_of h4 (w_not (w_lt w_lit (w_len_list (w_arg rfl))));rw[qf]at h5;refine Nat.le_of_not_lt fun q=>?_
  have q':(n:Int)<((ns.length:Nat):Int):=by omega
  first
   | (rw[qt q']at h5;exact absurd h5 (by decide))
   | (simp at h5;omega)
 cases hwl with
 | cons w1 w2 =>
  cases w2
  cases w1 with
  | list ho hall=>exact⟨_,_,ns,rfl,rfl,ho,fj ns _ hall,hlen⟩
theorem j6 (l:OpenLaw)(args:List WData):l.row.toRowW.claim.post args (.bool true) args=true :=
 postW_of (r:=l.row.toRowW) (X:=(true == true))
  (show WShape.has [] (.bool true) .bool=true by first | rfl | decide | simp[WShape.has,WShape.arms,WShape.armsAll])
  (show (WTm.eq .res (.lit (.bool true))).value [] { args:=args,res:=some (.bool true),after:=args }=some (.bool (true == true)) from w_eq_bool (w_res rfl) w_lit) rfl
theorem attach_call {l:OpenLaw}{n:Nat}{q:Program}{loose:List Str}{XP:(Str->Option Value)->Heap->Prop}{YP:World->Heap->Prop}{d:DefRec}
  (hn:l.most=some n) (hdf:d.params.defaults=[])
  (call:∀ (w:World)(s₀ s₁:Shared)(mg mb:Str->Option Value)(fa:Addr)(o:Obj)(pm cd doc:Value)(a:Addr)(vs:List Value)(ns:List Int),
   Ground q loose [] XP w s₀ mg mb s₁.heap->YP w s₁.heap ->
   s₁.heap.get? fa=some o->o.data=.func (docDef d.name d.params d.body d.scope pm cd doc)->s₁.heap.CodeRec cd d.name->mg d.name=some (.ref fa) ->
   s₁.heap.get? a=some { cls:=.type "list",data:=.seq vs.toArray }->IntsAre vs ns->ns.length<=n->s₁.gens = #[] ->
   codeAny (model l.prog w) callerA (.call (.ref fa) ⟨[.ref a],[]⟩) (fun r s'=>r=.ok (.ret (.bool true))/\OldK s₁.heap s'.heap/\s'.os=s₁.os/\AllBare s'.gens) s₁) :
  WalkO q loose XP YP l.row.toRowW d [] (fun f vs=>PySem.call f vs):=by
 intro w s₀ s₁ mg mb G Y fa o pm cd doc dV kV ho hd hcd hD hmg hg args vals as hpre hlay hrd hwl hlo;obtain rfl:dV=.none:=Dflts.none hD hdf;obtain rfl:kV=.none:=Dflts.noKw hD;obtain⟨a,vs,ns,rfl,rfl,hobj,hints,hlen⟩:=j8 hn hpre hwl;refine enter_call (codeAny_mono (call w s₀ s₁ mg mb fa o pm cd doc a vs ns G Y ho (fd_plain hd) hcd hmg hobj hints hlen hg) fun r s' hq=>?_);obtain⟨rfl,h2,h3,h4⟩:=hq;exact⟨.inl ⟨.bool true,.bool true,[],rfl,fun _=>rfl,.bool true,j6 l _,fun _=>⟨List.Pairwise.nil,fun _ hm=>(nomatch hm)⟩⟩,h2,h3,h4⟩
section
variable {prog:Program}{w:World}{A:Around}{E:Value->Shared->Prop}{s:Shared}{K:Frag}
def o0 (h:Heap):Heap:={ h with objs:=#[] }
def oZ (h:Heap)(L d:Addr):List (Addr×Obj):=(List.range h.objs.size).filterMap fun a=>if a=L\/a=d then none else (h.get? a).map fun o=>(a,o)
end
end Att
namespace L2
open PySem PySem.Spec PyProof.Rows
theorem gC:∀ {vs:List Value}{ns:List Int},IntsAre vs ns->az (ns.map V.int) vs
 | _,_,.nil=>.nil
 | _,_,.cons n t h=>.cons ⟨t,rfl⟩ (gC h)
def ml (H:Hp):Prop:=∀ b,H b=none\/∃ o xs,H b=some (.frz o (.lst xs))
theorem ky {P:Program}{w:World}{K:PySem.W.Frag}{mg mb:Str->Option Value}{CX:js}{k:Nat}{fa a:Addr}{fd:FuncData}{x:Str}{sp:Sp}{s₁:Shared}{vs:List Value}{ns:List Int}
  (KX:K.In s₁.heap) (hns:s₁.heap.Ns mainGlobals mg) (hb:s₁.heap.Ns builtinsNs mb) (hbb:∀ x:Str,x≠"__name__"->mb x=bootBuiltins x) (hlim:s₁.heap.NoLimit) (hg:s₁.gens = #[])
  (ha:s₁.heap.get? a=some { cls:=.type "list",data:=.seq vs.toArray }) (hi:IntsAre vs ns) (hl:ns.length<=sizeLine) (hr:aY k callerA)
  (F:∀ base:Heap,K.In base->base.Ns mainGlobals mg->aO P w K mg base CX k fa fd [x] sp) (hbind:∀ (s:Shared)(u:Value),BindsTo s fd ⟨[u],[]⟩ [(x,u)])
  (hsp:∀ H:Hp,ml H->bA K H a (ns.map V.int)->sp [.ref a] H (fun v _=>v=.bl true) fun _ _ _=>False)
  (hCX:∀ H e s',CX [] H s₁ (fun _ _ _=>False) e s'->False) :
  codeAny (model P w) callerA (.call (.ref fa) ⟨[.ref a],[]⟩) (fun r s'=>r=.ok (.ret (.bool true))/\OldK s₁.heap s'.heap/\s'.os=s₁.os/\AllBare s'.gens) s₁:=by
 have rv:=gC hi;have lenV:=hi.length
 have core:∀ H:Hp,ml H->bA K H a (ns.map V.int)->d4 P w H s₁.heap->(∀ b,H b≠none->b=a)->(H a≠none->K.lookup a=none) ->
   codeAny (model P w) callerA (.call (.ref fa) ⟨[.ref a],[]⟩) (fun r s'=>r=.ok (.ret (.bool true))/\OldK s₁.heap s'.heap/\s'.os=s₁.os/\AllBare s'.gens) s₁:=by
  intro H hO hS hok hA hK;have base_of:∀ {b:Addr}{o:Obj},s₁.heap.get? b=some o->H b=none->(gG s₁.heap H).get? b=some o:=fun e n=>kv e n
  have noA:∀ {b:Addr}{o:Obj}{es:Array DictEntry}{ep:Nat},s₁.heap.get? b=some o->o.data=.dict es ep->H b=none:=fun {b o es ep} e d=>by
   cases q:H b with
   | none=>rfl
   | some u =>
    have e':b=a:=hA b (by rw[q];simp);subst e';rw[ha]at e;cases e;have d':Data.seq vs.toArray _=Data.dict es ep:=d;cases d'
  have nsK:∀ {b:Addr}{m:Str->Option Value},s₁.heap.Ns b m->(gG s₁.heap H).Ns b m:=fun {b m} ⟨o,es,ep,e,d,r⟩=>⟨o,es,ep,base_of e (noA e d),d,r⟩
  have hKb:K.In (gG s₁.heap H):=fun b o e=>base_of (KX b o e) (by
   cases q:H b with
   | none=>rfl
   | some u =>
    have e':b=a:=hA b (by rw[q];simp);subst e'
    rw[hK (by rw[q];simp)]at e;cases e)
  have hM:Mod K mg (gG s₁.heap H):=⟨hKb,nsK hns,⟨mb,nsK hb,hbb⟩,let ⟨mc,h1,h2⟩:=hlim;⟨mc,nsK h1,h2⟩⟩;have e0:iK P w K mg (gG s₁.heap H) callerA [] s₁ H:=⟨rfl,hM,fun b o e=>lD e,Nat.le_of_eq (jX _ _),trivial,fun b hb=>absurd (show b∈([]:List Addr) from hb) (by simp),hok,.of_eq hg⟩;refine codeAny_mono ((F _ hKb (nsK hns)).run callerA [] s₁ H ⟨[.ref a],[]⟩ [.ref a] [.ref a] _ _ hr e0 (hbind s₁ (.ref a)) (.cons rfl .nil) (hsp H hO hS)) fun r s' h=>?_
  cases r with
  | error e=>exact (hCX H e s' h).elim
  | ok fl =>
   cases fl with
   | next=>exact False.elim h
   | brk=>exact False.elim h
   | cont=>exact False.elim h
   | ret u =>
    obtain⟨v,H',os,bare,un,hok',r',q⟩:=h;have q':v=.bl true:=q;subst q';obtain rfl:u=Value.bool true:=r';refine⟨rfl,OldK.of_keep fun b o e=>?_,os,bare⟩
    cases q:H b with
    | none=>exact un.keep b o e q (by intro z;exact absurd (show b∈([]:List Addr) from z) (by simp)) (by simp)
    | some u =>
     rcases hO b with z | ⟨ob,xs,z⟩
     ·rw[q]at z;cases z
     ·have z2:=un.frzs b ob _ z
      obtain⟨e1,_⟩:=hok b _ z;obtain⟨e2,_⟩:=hok' b _ z2;rw[e]at e1;cases e1;exact e2
 cases hk:K.lookup a with
 | some o =>
  have e:=KX a o hk;rw[ha]at e;cases e;refine core (fun _=>none) (fun _=>.inl rfl) (.inr ⟨_,vs.toArray,_,hk,rfl,rfl,rfl,by rw[qm,lenV];exact hl,by simpa using rv⟩) (fun b u z=>by have z':(none:Option HO)=some u:=z;cases z') (fun b z=>absurd rfl z) fun z=>absurd rfl z
 | none =>
  refine core (fun b=>if b=a then some (.frz { cls:=.type "list",data:=.seq vs.toArray } (.lst (ns.map V.int))) else none) (fun b=>?_) (.inl (.inr ⟨{ cls:=.type "list",data:=.seq vs.toArray },ql rfl⟩)) (fun b u z=>?_) (fun b z=>?_) fun _=>hk
  ·by_cases hb:b=a
   ·exact .inr ⟨_,_,ql hb⟩
   ·exact .inl (qi hb)
  ·by_cases hb:b=a
   ·have z':=(ql hb).symm.trans z
    cases z';subst hb;exact⟨ha,by rw[qf];exact hl,vs,_,rv,ha⟩
   ·have z':=(qi hb).symm.trans z
    cases z'
  ·by_cases hb:b=a
   ·exact hb
   ·exact absurd (qi hb) z
theorem walk_of {l:PySem.W.OpenLaw}{n k:Nat}{q:Program}{loose:List Str}{XP:(Str->Option Value)->Heap->Prop}{YP:World->Heap->Prop}{d:DefRec}{K:Params->PySem.W.Frag}{CX:World->js}{sp:World->Sp}{x:Str}
  (hn:l.most=some n) (hn2:n<=sizeLine) (hdf:d.params.defaults=[]) (hr:aY k callerA)
  (hY:∀ (w:World)(h:Heap),YP w h->(K w.params).In h)
  (F:∀ (w:World)(mg:Str->Option Value)(fa:Addr)(h:Heap),(K w.params).In h->h.Ns mainGlobals mg->mg d.name=some (.ref fa) ->
   ∃ fd:FuncData,(∀ (s:Shared)(u:Value),BindsTo s fd ⟨[u],[]⟩ [(x,u)]) /\
    ∀ base:Heap,(K w.params).In base->base.Ns mainGlobals mg->aO l.prog w (K w.params) mg base (CX w) k fa fd [x] (sp w))
  (hsp:∀ (w:World)(H:Hp)(a:Addr)(ns:List Int),ns.length<=n->ml H->bA (K w.params) H a (ns.map V.int)->sp w [.ref a] H (fun v _=>v=.bl true) fun _ _ _=>False)
  (hCX:∀ (w:World)(H:Hp)(s:Shared)(e:Value)(s':Shared),CX w [] H s (fun _ _ _=>False) e s'->False) :
  PySem.W.WalkO q loose XP YP l.row.toRowW d [] (fun f vs=>PySem.call f vs):=by
 refine Att.attach_call hn hdf fun w s₀ s₁ mg mb fa o pm cd doc a vs ns G Y ho hd hcd hmg hobj hints hlen hg=>?_;have KX:=hY w _ Y;obtain⟨fd,hb,hF⟩:=F w mg fa _ KX G.T.g hmg;exact ky KX G.T.g G.T.b G.T.builtins G.T.nolimit hg hobj hints (qQ hlen hn2) hr hF hb (fun H hO hS=>hsp w H a ns hlen hO hS) fun H e s'=>hCX w H s₁ e s'
def dk (s:Stmt)(j:Nat):Stmt:=match s with
 | .ClassDef _ _ _ body _ _ _ _ _ _ _=>body.getD j (.Pass ⟨0,0,0,0⟩)
 | _=>.Pass ⟨0,0,0,0⟩
def bV (s:Stmt):Arguments:=match s with
 | .FunctionDef _ a _ _ _ _ _ _ _ _=>a
 | _=>{ posonlyargs:=[],args:=[],vararg:=none,kwonlyargs:=[],kw_defaults:=[],kwarg:=none,defaults:=[] }
def bD (s:Stmt):List Stmt:=match s with
 | .FunctionDef _ _ b _ _ _ _ _ _ _=>b
 | _=>[]
def ah (s:Stmt):Scope:=match s with
 | .FunctionDef _ _ _ _ _ _ sc _ _ _=>sc
 | _=>{ kind:=.function,names:=[],isGenerator:=false,isCoroutine:=false }
abbrev cA:js:=fun _ _ _ _ _ _=>False
abbrev E0:XK:=fun _ _ _=>False
theorem fZ {X:Cx}:ca cA X E0:=fun _ _ _ _ _ _ _ h=>h.elim
structure cU (K:PySem.W.Frag)(x qual:Str)(st:Stmt)(f:Addr)(fd:FuncData):Prop where
 ex:∃ (oc:Value)(od:Option Addr)(kV doc pm:Value)(an:Option Addr)(cdv ct:Value)(osl:Array (Option Value)),
  fd=PySem.W.fnOf x qual (bV st) (bD st) (ah st) .none kV doc pm an cdv ct/\K.lookup f=some ⟨oc,od,.func fd,osl⟩/\PySem.W.codeIn K cdv qual=true
 kp:PySem.W.keepIn K (.ref f)=true
section
variable {P:Program}{w:World}{K:PySem.W.Frag}{mg:Str->Option Value}{base:Heap}
theorem cU.ok {x qual:Str}{st:Stmt}{f:Addr}{fd:FuncData}{N ps:List Str}{k:Nat}{sp:Sp}(F:cU K x qual st f fd)(S:au N ps (ah st))(len:∀ vs H Q E,sp vs H Q E->vs.length=ps.length)
  (hbody:∀ (cdv:Value)(A:Around)(outer:List Env)(s:Shared)(H:Hp)(vs:List V)(Q:VK)(E:XK),aY k (A.deeper (envOfC qual (ah st) s.heap.objs.size f cdv))->sp vs H Q E ->
   ∃ t,iN (gE cA P w K mg base N qual (ah st) f cdv A outer s H E).nox (bD st) t/\t { nx:=fun _ H'=>Q .non H',rt:=Q } (eE N vs) H):aO P w K mg base cA (k+1) f fd ps sp:=by
 obtain⟨oc,od,kV,doc,pm,an,cdv,ct,osl,rfl,lk,hcd⟩:=F.ex;refine lT lk hcd S len fun A outer s H vs Q E hr hsp=>?_;obtain⟨t,h,q⟩:=hbody cdv A outer s H vs Q E hr hsp;exact⟨t,h.nox,q⟩
theorem cU.binds {x qual:Str}{st:Stmt}{f:Addr}{fd:FuncData}{ps:List Str}(F:cU K x qual st f fd)
  (h:∀ (kV doc pm:Value)(an:Option Addr)(cdv ct:Value)(us:List Value),us.length=ps.length->bindArgs (PySem.W.fnOf x qual (bV st) (bD st) (ah st) .none kV doc pm an cdv ct) ⟨us,[]⟩=pure (ps.zip us)):cz K fd ps []:=by
 obtain⟨oc,od,kV,doc,pm,an,cdv,ct,osl,rfl,lk,hcd⟩:=F.ex;exact .all (h kV doc pm an cdv ct)
theorem kr {x qual:Str}{st:Stmt}{f:Addr}{oc:Value}{od an:Option Addr}{osl:Array (Option Value)}{kV doc pm cdv ct:Value}(l:K.lookup f=some ⟨oc,od,.func (PySem.W.fnOf x qual (bV st) (bD st) (ah st) .none kV doc pm an cdv ct),osl⟩)
  (c:PySem.W.codeIn K cdv qual=true) (k:PySem.W.keepIn K (.ref f)=true):cU K x qual st f (PySem.W.fnOf x qual (bV st) (bD st) (ah st) .none kV doc pm an cdv ct):=⟨⟨oc,od,kV,doc,pm,an,cdv,ct,osl,rfl,l,c⟩,k⟩
end
theorem lU {A:Around}{k:Nat}(hr:aY k A):A.units+1<cLine:=Nat.lt_of_le_of_lt (Nat.add_le_add_left (by decide:1<=64) _) hr.units
theorem cC {n:Nat}(h:n<=1000):n<sizeLine:=Nat.lt_of_le_of_lt h (by decide)
section
variable {X:Cx}
theorem pv (i:Nat){x:Str}{pos:Pos}(hN:X.N[i]? = some x:=by rfl)(hv:oP X.env.scope x:=by first | exact Or.inl rfl | exact Or.inr (Or.inl rfl) | exact Or.inr (Or.inr rfl))(hd:(x == ("__debug__" : Str))=false:=by decide)
  (hcd:(x == ("__classdict__" : Str))=false:=by decide):PE X (.Name x pos) (oh i):=mL hN hv hd hcd
end
theorem aL {A B:Prop}(h:B):if false=true then A else B:=by
 rw[qi qh];exact h
theorem ce {A B:Prop}(h:A):if true=true then A else B:=by
 rw[ql rfl];exact h
theorem oX {c A B:Prop} [Decidable c] (h1:c->A)(h2:¬ c->B):if c then A else B:=by
 by_cases h:c
 ·rw[ql h]
  exact h1 h
 ·rw[qi h]
  exact h2 h
def bo (H H':Hp):Prop:=∀ b o,H b=some o->H' b=some o
theorem bo.trans {H H1 H2:Hp}(a:bo H H1)(b:bo H1 H2):bo H H2:=fun c o h=>b c o (a c o h)
theorem bo.free {H H':Hp}(e:bo H H'){l:Addr}(h:H' l=Option.none):H l=Option.none:=by
 cases q:H l with
 | none=>rfl
 | some o =>
  rw[e l o q]at h;cases h
theorem bo.seq {K:PySem.W.Frag}{H H':Hp}{a:Addr}{xs:List V}(e:bo H H')(h:bA K H a xs):bA K H' a xs:=by
 rcases h with (h | ⟨o,h⟩) | h
 ·exact .inl (.inl (e _ _ h))
 ·exact .inl (.inr ⟨o,e _ _ h⟩)
 ·exact .inr h
end L2
set_option maxHeartbeats 4000000
namespace L2
open PySem PySem.Spec PyProof.Rows
structure jt (so sc:Scope)(N N':List Str)(src:List (Option Nat)):Prop where
 kind:sc.kind=.function
 nocell:∀ y∈sc.names,y.2≠.cell
 loc:∀ y∈sc.names,y.2=.local->sc.names.lookup y.1=some .local
 fre:∀ y∈sc.names,y.2=.free->so.names.lookup y.1=some .cell\/so.names.lookup y.1=some .free
 nd:N'.Nodup
 len:src.length=N'.length
 cap:∀ p∈N'.zip src,(match p.2 with | none=>true | some j=>decide (N[j]? = some p.1/\sc.names.lookup p.1=some .free))=true
def dJ (src:List (Option Nat))(σ:St):St:=src.map fun o=>o.bind fun j=>(σ[j]?).join
def bO (X:Cx)(sc:Scope)(cl:List (Str×Addr))(C:Addr)(N':List Str)(s:Shared)(H:Hp)(ex:List Addr):Cx where
 prog:=X.prog
 w:=X.w
 K:=X.K
 mg:=X.mg
 base:=X.base
 A:=X.A
 N:=N'
 s₀:=s
 H₀:=H
 env:=compEnvC sc cl C X.env
 outer:=X.stack
 stack:=X.stack
 ex:=ex
 fn:=fun _=>false
 calm:=X.calm
 pn:=[]
 xe:=fun _ _=>False
theorem cF {env:Env}:∀ (names:List (Str×NameKind))(cs:List (Str×Addr)),(∀ y∈names,y.2=.free->∃ c,env.cells.lookup y.1=some c) ->
  (∀ x c,cs.lookup x=some c->env.cells.lookup x=some c) ->
  ∃ cl:List (Str×Addr),(forIn names cs fun x r=>if (x.2 == NameKind.free)=true then (do let a <-cellOf env x.1;pure (ForInStep.yield ((x.1,a)::r))) else pure (ForInStep.yield r):Sem (List (Str×Addr)))=pure cl /\
   (∀ x c,cl.lookup x=some c->env.cells.lookup x=some c)/\(∀ x,(∃ c,cs.lookup x=some c)->∃ c,cl.lookup x=some c)/\∀ y∈names,y.2=.free->∃ c,cl.lookup y.1=some c
 | [],cs,_,h2=>⟨cs,by rw[List.forIn_nil],h2,fun _ h=>h,fun _ h=>nomatch h⟩
 | (n,k)::r,cs,h1,h2=>by
  by_cases hk:k=.free
  ·subst hk
   obtain⟨c,hc⟩:=h1 (n,.free) qy rfl
   have h2':∀ x d,((n,c)::cs).lookup x=some d->env.cells.lookup x=some d:=fun x d e=>by
    rw[qE]at e;split at e
    ·rename_i hx
     cases e
     have:x=n:=by simpa using hx
     rw[this];exact hc
    ·exact h2 x d e
   obtain⟨cl,e,q1,q2,q3⟩:=cF r ((n,c)::cs) (fun y hy=>h1 y (qr _ hy)) h2';have has:∃ d,((n,c)::cs).lookup n=some d:=⟨c,by simp⟩;refine⟨cl,?_,q1,fun x ⟨d,hd⟩=>q2 x ?_,fun y hy hf=>?_⟩
   ·rw[List.forIn_cons,<-e]
    simp[cellOf,hc]
   ·rw[qE]
    split
    ·exact⟨_,rfl⟩
    ·exact⟨d,hd⟩
   ·rcases qC.mp hy with rfl | hy
    ·exact q2 _ has
    ·exact q3 y hy hf
  ·obtain⟨cl,e,q1,q2,q3⟩:=cF r cs (fun y hy=>h1 y (qr _ hy)) h2
   have hb:(k == NameKind.free)=false:=by simpa using hk
   refine⟨cl,?_,q1,q2,fun y hy hf=>?_⟩
   ·rw[List.forIn_cons,<-e]
    simp[hb]
   ·rcases qC.mp hy with rfl | hy
    ·exact absurd hf hk
    ·exact q3 y hy hf
theorem fP {sc:Scope}{env:Env}(h:∀ y∈sc.names,y.2=.free->∃ c,env.cells.lookup y.1=some c) :
  ∃ cl:List (Str×Addr),closureFor sc env=pure cl/\(∀ x c,cl.lookup x=some c->env.cells.lookup x=some c)/\∀ y∈sc.names,y.2=.free->∃ c,cl.lookup y.1=some c:=by
 obtain⟨cl,e,q1,_,q3⟩:=cF sc.names [] h (fun x c z=>by simp at z);refine⟨cl,?_,q1,q3⟩;unfold closureFor
 show (forIn sc.names [] _ >>= fun cs=>pure cs)=_
 refine Eq.trans (qL (fun t=>t >>= fun cs=>pure cs) (Eq.trans ?_ e)) (by simp)
 congr 1
theorem eA {env:Env}:∀ {names:List (Str×NameKind)}{x:Str},(∀ y∈names,y.2≠.cell) ->
  ((names.map fun (n,k)=>if (k == NameKind.free&&env.scope.kind == .function&&env.kindOf n == some .cell) then (n,NameKind.cell) else (n,k)).lookup x=some .cell \/
    (names.map fun (n,k)=>if (k == NameKind.free&&env.scope.kind == .function&&env.kindOf n == some .cell) then (n,NameKind.cell) else (n,k)).lookup x=some .free)->(x,NameKind.free)∈names
 | [],_,_,h=>by simp at h
 | (n,k)::r,x,hc,h=>by
  have ih:=@eA env r x (fun y hy=>hc y (qr _ hy));have h:List.lookup x ((if (k == NameKind.free&&env.scope.kind == .function&&env.kindOf n == some .cell)=true then (n,NameKind.cell) else (n,k))::_)=some .cell\/List.lookup x ((if (k == NameKind.free&&env.scope.kind == .function&&env.kindOf n == some .cell)=true then (n,NameKind.cell) else (n,k))::_)=some .free:=h
  by_cases hb:(k == NameKind.free&&env.scope.kind == .function&&env.kindOf n == some .cell)=true
  ·rw[ql hb]at h
   cases hx:x == n with
   | true =>
    have e:x=n:=by simpa using hx
    subst e
    have:k=NameKind.free:=by
     simp only[Bool.and_eq_true,beq_iff_eq]at hb;exact hb.1.1
    subst this;exact qy
   | false =>
    simp only[qE,hx]at h;exact qr _ (ih h)
  ·rw[qi hb]at h
   cases hx:x == n with
   | true =>
    have e:x=n:=by simpa using hx
    subst e;have hk:=hc (x,k) qy;simp only[qE,beq_self_eq_true,Option.some.injEq]at h;rcases h with h | h
    ·exact absurd h hk
    ·subst h;exact qy
   | false =>
    simp only[qE,hx]at h;exact qr _ (ih h)
theorem dG {env:Env}:∀ {names:List (Str×NameKind)}{x:Str},names.lookup x=some .free ->
  ((names.map fun (n,k)=>if (k == NameKind.free&&env.scope.kind == .function&&env.kindOf n == some .cell) then (n,NameKind.cell) else (n,k)).lookup x=some .cell \/
    (names.map fun (n,k)=>if (k == NameKind.free&&env.scope.kind == .function&&env.kindOf n == some .cell) then (n,NameKind.cell) else (n,k)).lookup x=some .free)
 | [],_,h=>by simp at h
 | (n,k)::r,x,h=>by
  have ih:=@dG env r x
  show List.lookup x ((if (k == NameKind.free&&env.scope.kind == .function&&env.kindOf n == some .cell)=true then (n,NameKind.cell) else (n,k))::_)=some .cell\/List.lookup x ((if (k == NameKind.free&&env.scope.kind == .function&&env.kindOf n == some .cell)=true then (n,NameKind.cell) else (n,k))::_)=some .free
  cases hx:x == n with
  | true =>
   simp only[qE,hx,Option.some.injEq]at h;subst h
   by_cases hb:(NameKind.free == NameKind.free&&env.scope.kind == .function&&env.kindOf n == some .cell)=true
   ·rw[ql hb];left;simp only[qE,hx]
   ·rw[qi hb];right;simp only[qE,hx]
  | false =>
   simp only[qE,hx]at h
   by_cases hb:(k == NameKind.free&&env.scope.kind == .function&&env.kindOf n == some .cell)=true
   ·rw[ql hb];simp only[qE,hx];exact ih h
   ·rw[qi hb];simp only[qE,hx];exact ih h
theorem cX {prog:Program}{w:World}{A:Around}{R:Result->Shared->Prop}{s:Shared}{elt target iter:Expr}{ifs:List Expr}{scope:Scope}{pos:Pos}{it acc:Value}{env:Env}(I:Nat->Shared->Prop)
  (turn:∀ n s,I n s->wpAny (model prog w) A (pyNext it) (fun r s₁=>match r with
   | none=>R (.ok .next) s₁
   | some v=>wpAny (model prog w) A (letOwnedTupleGo target it v) (fun _ s₁'=>wpAny (model prog w) A (assign target env v) (fun _ s₂ =>
     wpAny (model prog w) A (forIn ifs true fun c r=>if r=true then do let ok <-isTrue c env (eval c env);pure (ForInStep.yield ok) else pure (ForInStep.yield r)) (fun ok s₃ =>
      if ok=true then wpAny (model prog w) A (eval elt env) (fun x s₄ =>
       wpAny (model prog w) A (call (.builtin "list.append") [acc,x]) (fun _ s₅=>∃ m,m<n/\I m s₅) (fun _ _=>False) s₄) (fun _ _=>False) s₃
      else ∃ m,m<n/\I m s₃) (fun _ _=>False) s₂) (fun _ _=>False) s₁') (fun _ _=>False) s₁) (fun _ _=>False) s)
  (n:Nat) (h:I n s) :
  codeAny (model prog w) A (.compLoop (.ListComp elt [⟨target,iter,ifs,0⟩] scope pos) 0 it acc env) R s:=by
 refine codeAny_loop rfl I (fun n s hI=>?_) n h
 show wpAny _ A ((compTurn (.ListComp elt [⟨target,iter,ifs,0⟩] scope pos) 0 it acc env).onRaise (fun x=>do noteFrame x env;theTreesLotGoes x)) _ _ s
 refine wpAny_noted ?_;rw[compTurn_list];refine qc (wpAny_standAt (qc (qx (turn n s hI) (fun r s₁ h₁=>?_) fun _ _ h'=>h'.elim)))
 cases r with
 | none=>exact qe h₁
 | some v =>
  refine qc (qx h₁ (fun _ s₁' h₁'=>?_) fun _ _ h'=>h'.elim);refine qc (qx h₁' (fun _ s₂ h₂=>qc (qx h₂ (fun ok s₃ h₃=>?_) fun _ _ h'=>h'.elim)) fun _ _ h'=>h'.elim)
  cases ok with
  | false=>exact qe ⟨rfl,h₃⟩
  | true =>
   exact qc (qc (qx h₃ (fun x s₄ h₄=>qc (qx h₄ (fun _ s₅ h₅=>qe (qe ⟨rfl,h₅⟩)) fun _ _ h'=>h'.elim)) fun _ _ h'=>h'.elim))
def nq (X:Cx)(ifs:List Expr)(t:TT):Prop :=
 ∀ (pins:List (Addr×Obj))(s:Shared)(σ:St)(H:Hp)(Q:Bool->Hp->Prop),aj X pins σ H s->t σ H Q ->
  wpAny (model X.prog X.w) X.A (forIn ifs true fun c r=>if r=true then do let ok <-isTrue c X.env (eval c X.env);pure (ForInStep.yield ok) else pure (ForInStep.yield r)) (TP X pins σ Q) X.xe s
def kZ:TT:=fun _ H Q=>Q true H
theorem cH {X:Cx}:nq X [] kZ:=fun pins s σ H Q I h=>wpAny_tests_nil ⟨H,I,h⟩
def nc (tt:TT)(te:TE)(a:Addr):TS:=fun D σ H=>tt σ H fun b H1=>if b=true then te σ H1 fun y H2=>∃ ys,H2 a=some (.lst ys)/\ys.length<sizeLine/\D.nx σ (aA H2 a (.lst (ys++[y]))) else D.nx σ H1
def h8 (J:It)(g:TG)(tb:TS)(D:eI)(σ:St)(H:Hp):Prop:=∃ W:Nat->Nat->St->Hp->Prop,(∃ m,W 0 m σ H)/\∀ i m σ H,W i m σ H ->
 (J.stop i H/\D.nx σ H)\/(J.go i H/\∃ N:St->Hp->Prop,(∀ σ' H',N σ' H'->∃ m',m'<m/\W (i+1) m' σ' H')/\∀ x H',J.yld i H x H'->g x σ H' fun σ2 H2=>tb { D with nx:=N,ct:=N,bk:=D.nx } σ2 H2)
def n4 (wi:TI)(g:TG)(tt:TT)(te:TE)(src:List (Option Nat)):TE:=fun σ H Q=>wi σ H fun J H1=>∀ a,H1 a=none ->
 h8 J g (nc tt te a) { nx:=fun _ H'=>Q (.ref a) H',rt:=fun _ _=>False } (dJ src σ) (aA H1 a (.lst []))
theorem ii {X:Cx}{pins:List (Addr×Obj)}{σ:St}{H:Hp}{s:Shared}{sc so:Scope}{N':List Str}{src:List (Option Nat)}{cl:List (Str×Addr)}{fp:List Addr}{h':Heap}
  (I:aj X pins σ H s) (hso:X.env.scope=so) (S:jt so sc X.N N' src) (q1:∀ x c,cl.lookup x=some c->X.env.cells.lookup x=some c) (q3:∀ y∈sc.names,y.2=.free->∃ c,cl.lookup y.1=some c)
  (hf:∀ b∈fp,cT X pins H b) (hlt:∀ b∈fp,b<s.heap.objs.size) (hns:h'.Ns s.heap.objs.size fun _=>none) (hk:∀ b o,s.heap.get? b=some o->h'.get? b=some o) (tk:Nat) :
  aj (bO X sc cl s.heap.objs.size N' s H fp) [] (dJ src σ) H { s with heap:=h',toks:=tk }:=by
 have hb:∀ b∈fp,b≠s.heap.objs.size/\∀ x c,cl.lookup x=some c->c≠b:=fun b z=>⟨qk (hlt b z),fun x c e=>(hf b z).2.2.2.2.1 x c (q1 x c e)⟩
 refine⟨⟨I.ok.mod,?_,I.ok.glob,I.ok.blt,qj _,fun x y c h1 h2=>I.ok.inj x y c (q1 _ _ h1) (q1 _ _ h2),fun x hx=>?_,fun x c hx _=>(by cases hx),I.ok.hd,I.ok.frames,.inl rfl,hb,I.bs,qQ I.ok.bsz I.sz,fun b o e z=>?_,fun b z hz=>?_,I.stack,I.stkFree⟩,
  rfl,I.bare,Un.kept hk,⟨_,hns,fun i x v h1 h2 h3=>?_⟩,fun x c e=>?_,I.hok.fresh (qj _),fun x c e=>I.freeC x c (q1 x c e),fun p hp=>absurd (show p∈([]:List (Addr×Obj)) from hp) (by simp),I.hok.kept hk,?_⟩
 ·show (relabel sc X.env).kind=_
  exact S.kind
 ·have hx':(x,NameKind.free)∈sc.names:=eA S.nocell hx
  exact q3 _ hx' rfl
 ·rcases (hf b z).2.2.2.1 with y | y
  ·exact I.ok.noex b o e y
  ·exact absurd (qp (qd e) (qQ I.ok.bsz y)) (re _)
 ·rcases qC.mp (I.stkSub b hz) with y | y
  ·exact (hf b z).2.1 y
  ·exact (hf b z).2.2.1 y
 ·-- the captured names
  have h1':N'[i]? = some x:=h1;have h2':(dJ src σ)[i]? = some (some v):=h2;unfold dJ at h2';rw[List.getElem?_map]at h2'
  cases hs:src[i]? with
  | none=>rw[hs]at h2';cases h2'
  | some o =>
   rw[hs]at h2';have h2'':(o.bind fun j=>(σ[j]?).join)=some v:=qu h2'
   cases o with
   | none=>cases h2''
   | some j =>
    have hj:(σ[j]?).join=some v:=h2''
    have hσ:σ[j]? = some (some v):=by
     cases e:σ[j]? with
     | none=>rw[e]at hj;cases hj
     | some z=>rw[e]at hj;rw[show z=some v from hj]
    have hzip:(x,some j)∈N'.zip src:=by
     have:(N'.zip src)[i]? = some (x,some j):=by
      rw[List.getElem?_zip_eq_some];exact⟨h1',hs⟩
     exact qR this
    have hc:=of_decide_eq_true (S.cap _ hzip);obtain⟨hN,hfr⟩:X.N[j]? = some x/\sc.names.lookup x=some .free:=hc;have hmem:(x,NameKind.free)∈sc.names:=qS hfr;have hvis:=S.fre _ hmem rfl;rw[<-hso]at hvis;obtain⟨m,hn,hl⟩:=I.loc;obtain⟨u,ru,lk⟩:=hl j x v hN hσ (.inr hvis);refine⟨u,ru,.inr ⟨dG hfr,?_⟩⟩;obtain⟨c,hcl⟩:=q3 _ hmem rfl;refine⟨c,hcl,?_⟩;rcases lk with ⟨k,_⟩ | ⟨_,c',e',z⟩
    ·have k:X.env.scope.names.lookup x=some .local:=k
     rcases hvis with y | y<;>(rw[k]at y;cases y)
    ·have:=q1 x c hcl
     rw[e']at this;cases this;obtain⟨ob,e1,e2⟩:=z;exact⟨ob,hk _ _ e1,e2⟩
 ·obtain⟨v,ob,e1,e2⟩:=I.cell x c (q1 x c e)
  exact⟨v,ob,hk _ _ e1,e2⟩
 ·show (dJ src σ).length=N'.length
  unfold dJ;rw[qf];exact S.len
theorem e7 {X:Cx}{pins:List (Addr×Obj)}{σ:St}{H:Hp}{s:Shared}{l:Addr}{xs:List V}{y:V}{u:Value}{E:Value->Shared->Prop}(I:aj X pins σ H s)(hH:H l=some (.lst xs))(hz:xs.length<sizeLine)(ru:aF y u) :
  wpAny (model X.prog X.w) X.A (call (.builtin "list.append") [.ref l,u]) (fun _ s'=>aj X pins σ (aA H l (.lst (xs++[y]))) s') E s:=by
 obtain⟨z,its,n,r,hl,e⟩:=I.lstM hH;refine call_meets F.slot_list_append ⟨_,e,rfl⟩ F.entry_list_append (F.args_list_append_2 _ _) (PySem.list_append l its.toArray n u (by rw[qm];omega)) ⟨e,?_⟩;refine I.lset (its':=its++[u]) hH e (by simp) (r.append (.cons ru .nil)) ?_;rw[qz,List.length_singleton];omega
theorem ej {X:Cx}{elt tg iter:Expr}{ifs:List Expr}{sc so:Scope}{pos:Pos}{N':List Str}{src:List (Option Nat)}{wi:TI}{g:TG}{tt:TT}{te:TE}{N:List Str}(hso:X.env.scope=so)(hXN:X.N=N)(S:jt so sc N N' src)(hc:X.calm=true)(hi:PI X tg iter wi)
  (hb:∀ (cl:List (Str×Addr))(C:Addr)(s:Shared)(H:Hp)(ex:List Addr),PG (bO X sc cl C N' s H ex) tg g/\nq (bO X sc cl C N' s H ex) ifs tt/\PE (bO X sc cl C N' s H ex) elt te)
  (hs:∀ x,foldedSetIterable iter X.env x=pure x:=by intro _;rfl):PE X (.ListComp elt [⟨tg,iter,ifs,0⟩] sc pos) (n4 wi g tt te src):=by
 subst hXN;intro pins s σ H Q I h
 obtain⟨cl,hcl,q1,q3⟩:=fP (sc:=sc) (env:=X.env) fun y hy hf=>by
  have:=S.fre y hy hf;rw[<-hso]at this;exact I.ok.has y.1 this
 rw[eval_ListComp];refine wpAny_comprehension_free (use:=none) rfl hs hcl S.kind S.loc (aU (hi pins s σ H _ I h) fun v s1 h1=>aU h1 fun itv s2 h2=>?_);obtain⟨it,fp,tn,J,H2,e,I2,T,st2,f2,hR⟩:=h2;subst e;refine qI ?_
 have I3:aj X pins σ (aA H2 s2.heap.objs.size (.lst [])) { s2 with heap:=s2.heap.push { cls:=.type "list",dict:=none,data:=.seq ([]:List Value).toArray } } :=
  I2.laid (t':=s2.toks) (fun b u q=>Heap.get?_push_of_some _ q) (qj _) ⟨qH _,[],0,.nil,Heap.get?_push_size _ rfl⟩
 have hfr:=I2.hok.fresh (qj s2.heap.objs.size);obtain⟨W,⟨m0,w0⟩,turn⟩:=hR _ hfr
 have flt:∀ b∈fp,b<s2.heap.objs.size:=fun b hb=>by obtain⟨o,e,_⟩:=T.obj _ _ st2 b hb;exact qd e
 generalize hs3:({ s2 with heap:=s2.heap.push { cls:=.type "list",dict:=none,data:=.seq ([]:List Value).toArray } }:Shared)=s3 at I3 ⊢
 have e3:s3.heap=s2.heap.push { cls:=.type "list",dict:=none,data:=.seq ([]:List Value).toArray }:=by rw[<-hs3]
 have sz3:s3.heap.objs.size=s2.heap.objs.size+1:=by rw[e3,qB]
 have hf3:∀ b∈fp,cT X pins (aA H2 s2.heap.objs.size (.lst [])) b:=fun b hb=>⟨by rw[ak (qk (flt b hb))];exact (f2 b hb).1,(f2 b hb).2⟩
 have flt3:∀ b∈fp,b<s3.heap.objs.size:=fun b hb=>by rw[sz3];exact Nat.lt_succ_of_lt (flt b hb)
 have st3:tn 0 s3.heap:=T.keep _ _ _ st2 fun b _ o e=>by rw[e3];exact Heap.get?_push_of_some _ e
 refine wpAny_newFunctionEnv S.nocell (by intro y hy;simp at hy) (fun h4 hns4 hsb4=>?_) S.kind;have kp4:∀ b o,s3.heap.get? b=some o->h4.get? b=some o:=fun b o e=>hsb4.extBut b o (qk (qd e)) (Heap.get?_push_of_some _ e);have I4:=ii (h':=h4) I3 hso S q1 q3 hf3 flt3 (by simpa using hns4) kp4 (s3.toks+([]:List (Str×Value)).length);have st4:tn 0 h4:=T.keep _ _ _ st3 fun b _ o e=>kp4 b o e;generalize hC:s3.heap.objs.size=C at I4 hns4 hsb4 ⊢;obtain⟨hg,ht,he⟩:=hb cl C s3 (aA H2 s2.heap.objs.size (.lst [])) fp
 let Y:Cx:=bO X sc cl C N' s3 (aA H2 s2.heap.objs.size (.lst [])) fp
 have loop:∀ s5:Shared,s5={ s3 with heap:=h4,toks:=s3.toks+([]:List (Str×Value)).length }->codeAny (model X.prog X.w) X.A (.compLoop (.ListComp elt [⟨tg,iter,ifs,0⟩] sc pos) 0 (.ref it) (.ref s2.heap.objs.size) (compEnvC sc cl C X.env))
   (compPost (model X.prog X.w) X.A X.xe none (EP X pins σ Q) (.ref s2.heap.objs.size) C) s5:=by
  rintro s5 rfl
  have stat:∀ {H':Hp},(∀ b∈fp,H' b=none)->∀ b∈fp,cT Y [] H' b:=fun {H'} hn b hb=>by
   obtain⟨f0,f1,f2',f3,f4,f5⟩:=hf3 b hb;refine⟨hn b hb,?_,fun z=>?_,.inl hb,fun x c e=>f4 x c (q1 x c e),fun p hp=>absurd (show p∈([]:List (Addr×Obj)) from hp) (by simp)⟩
   ·show b≠C
    rw[<-hC];exact qk (flt3 b hb)
   ·have z:b∈fu X.stack:=z
    rcases qC.mp (I3.stkSub b z) with y | y
    ·exact f1 y
    ·exact f2' y
  refine cX (fun n s'=>∃ i σ' H',aj Y [] σ' H' s'/\tn i s'.heap/\(∀ b∈fp,H' b=none)/\W i n σ' H') ?_ m0 ⟨0,_,_,I4,st4,fun b hb=>(hf3 b hb).1,w0⟩;rintro n s6 ⟨i,σ6,H6,I6,st6,fr6,w6⟩;rcases turn i n σ6 H6 w6 with ⟨stop,qn⟩ | ⟨go,Nx,hN,step⟩
  ·refine aU (T.done Y rfl rfl rfl hc i [] s6 σ6 H6 _ I6 (stat fr6) st6 stop) fun r s7 ⟨hr,I7⟩=>?_
   subst hr;obtain⟨m,hn,_⟩:=id I7.loc;refine⟨m,hn,fun h' hsb=>?_⟩
   have neC:∀ b o,s3.heap.get? b=some o->b≠C:=fun b o e=>by rw[<-hC];exact qk (qd e)
   have freeC:H6 C=none:=I7.free
   have un:Un (fu X.stack) fp (aA H2 s2.heap.objs.size (.lst [])) H6 s3.heap h' :=
    ⟨fun b o e n hb hx=>(hsb.2 b (neC b o e)).trans (I7.base.keep b o e n hb hx),fun b o e n hb hx=>by
      obtain⟨sl,q⟩:=I7.base.slot b o e n hb hx
      exact⟨sl,(hsb.2 b (neC b o e)).trans q⟩,I7.base.free,fun b o e hx=>by
      obtain⟨o',q⟩:=I7.base.there b o e hx
      exact⟨o',(hsb.2 b (neC b o e)).trans q⟩,I7.base.tups,I7.base.frzs,I7.base.tbls⟩
   have hok:d4 X.prog X.w H6 h':=fun b ob e=>by
    refine (I7.hok b ob e).stay (fun c w' hc' q=>(hsb.2 c ?_).trans q) (fun _ q=>q) fun _ _ q=>q;rintro rfl;rcases hc' with z | z
    ·rw[<-z,freeC]at e;cases e
    ·rw[freeC]at z;cases z
   have J7:aj X pins σ H6 { s7 with heap:=h' }:=I3.call' (ch:=fp) (s':={ s7 with heap:=h' }) I7.os un hok I7.bare fun b hb=>⟨(hf3 b hb).2.2.2.1,(hf3 b hb).2.1,(hf3 b hb).2.2.2.2.1,(hf3 b hb).2.2.2.2.2⟩;exact⟨.ref s2.heap.objs.size,H6,J7,rfl,qn⟩
  ·refine aU (T.item Y rfl rfl rfl hc i [] s6 σ6 H6 _ I6 (stat fr6) st6 go) fun r s7 ⟨u,hr,h7⟩=>?_
   subst hr;refine aU h7 fun _ s8 ⟨x,H8,I8,r8,y8,st8,fr8⟩=>?_;have I8':=I8.pinned (stat fr8) (T.obj _ _ st8);refine aU (hg _ s8 σ6 H8 x u _ I8' r8 (step x H8 y8)) fun _ s9 ⟨σ9,H9,I9,q9⟩=>?_
   have again:∀ {s':Shared}{σ7:St}{H7:Hp},aj Y ([]++dS fp s8.heap) σ7 H7 s'->Nx σ7 H7->∃ m,m<n/\∃ i σ' H',aj Y [] σ' H' s'/\tn i s'.heap/\(∀ b∈fp,H' b=none)/\W i m σ' H':=fun {s' σ7 H7} I7 n7=>by
    obtain⟨m',hm,w7⟩:=hN σ7 H7 n7;refine⟨m',hm,i+1,σ7,H7,I7.unpinned,T.keep _ _ _ st8 fun b hb o e=>(I7.pin (b,o) (qo _ (qo _ (aZ hb e)))).1,fun b hb=>?_,w7⟩;obtain⟨o,e,d⟩:=T.obj _ _ st8 b hb;exact (I7.pin (b,o) (qo _ (qo _ (aZ hb e)))).2.1
   refine aU (ht _ s9 σ9 H9 _ I9 q9) fun ok s10 ⟨H10,I10,q10⟩=>?_
   cases ok with
   | false =>
    rw[qi qh]at q10 ⊢;exact again I10 q10
   | true =>
    rw[ql rfl]at q10 ⊢;refine aU (he _ s10 σ9 H10 _ I10 q10) fun y s11 ⟨yv,H11,I11,ry,ys,hys,hlen,q11⟩=>?_;exact aU (e7 (X:=Y) I11 hys hlen ry) fun _ s12 I12=>again I12 q11
 exact codeAny_compStart_list (loop _ rfl) (T.self _ 0 _ _ _ st4 (loop _ rfl))
section
variable {X:Cx}
def ng (i j:Int):Prop:=0<j/\j<1152921504606846976
theorem kA:gh X (binaryOp .FloorDiv) (rI ng fun i j=>.int (i/j)):=nI fun i j _ _ _ _ _ hc q=>by
 have h1:(0:Int)<j:=hc.1;have h2:j<1152921504606846976:=hc.2;refine floordiv_int (by omega) (by rw[Int.fdiv_eq_ediv_of_nonneg i (by omega)];exact q) (.inl (PyProof.noPylong_of_log2 ?_))
 have h0:j.natAbs≠0:=by omega
 have:j.natAbs.log2<60:=(Nat.log2_lt h0).mpr (by omega);omega
theorem d6:dC X (.builtin "isinstance") (fun xs H Q=>∃ x T t b,xs=[x,.ty T]/\cW X.K H x t/\PySem.W.kitOne X.K t (.type T)=some b/\Q (.bl b) H):=by
 intro pins s σ H xs us Q I r h;obtain⟨x,T,t,b,rfl,ty,e,q⟩:=h
 cases r with
 | cons rx r2 =>
  cases r2 with
  | cons rt r3 =>
   cases r3;cases rt;exact jZ I rx ty e fun tk=>⟨.bl b,H,I.tok tk,rfl,q⟩
theorem iH {A:Around}{bs:List Bool}{its:List Value}(r:az (bs.map V.bl) its) :
  TruthOf X.prog X.w A (fun i v=>its.toArray[i]? = some v) (fun i=>bs.getD i false):=by
 intro i v s Q E hv hq
 have hv':its[i]? = some v:=by simpa using hv
 have hi:i<its.length:=(List.getElem?_eq_some_iff.mp hv').1;have hl:=r.length;rw[qf]at hl;obtain⟨u,hu,ru⟩:=r.get (i:=i) (x:=V.bl (bs[i]'(by omega))) (by rw[List.getElem?_map,List.getElem?_eq_getElem (by omega)];rfl);rw[hv']at hu;cases hu;cases ru
 have e:bs.getD i false=bs[i]'(by omega):=by simp[List.getD,List.getElem?_eq_getElem (show i<bs.length by omega)]
 have hq':Q (bs.getD i false) s:=hq;rw[e]at hq';exact q4 hq'
theorem j7 (bs:List Bool):(List.range bs.length).all (fun i=>bs.getD i false)=bs.all id:=by
 have h:(List.range bs.length).map (fun i=>bs.getD i false)=bs:=by
  apply List.ext_getElem
  ·simp
  ·intro i h1 h2;simp[List.getD,List.getElem?_eq_getElem h2]
 have e:(List.range bs.length).all (fun i=>bs.getD i false)=((List.range bs.length).map (fun i=>bs.getD i false)).all id:=by rw[List.all_map];rfl
 rw[e,h]
theorem j2 {pins:List (Addr×Obj)}{σ:St}{H:Hp}{s:Shared}{A:Around}{E:Value->Shared->Prop}{p:Addr}{xs:List V}{its:List Value}{R:Value->Shared->Prop}(I:aj X pins σ H s)(hA:A.handled=none)(pl:PlainL s.heap p its.toArray)
  (h:∀ (I':Addr)(St:Nat->Heap->Prop)(s2:Shared),s2.heap.objs.size=s.heap.objs.size+1->I'=s.heap.objs.size->Walks X.prog X.w A I' [I',p] [I'] its.length (fun i v=>its.toArray[i]? = some v) St->St 0 s2.heap->(∀ b o,s.heap.get? b=some o->s2.heap.get? b=some o)->(∀ h' tk,(∀ b o,b∉[I']->s2.heap.get? b=some o->h'.get? b=some o)->aj X pins σ H { s2 with heap:=h',toks:=tk })->R (.ref I') s2) :
  wpAny (model X.prog X.w) A (pyIter (.ref p)) R E s:=by
 refine wpAny_pyIter_list pl.isList ?_
 have hlt:p<s.heap.objs.size:=by obtain⟨o,n,e,_⟩:=pl;exact qd e
 have W:=Walks.list (prog:=X.prog) (w:=X.w) hA s.heap.objs.size p (qk hlt) its.toArray;rw[qm]at W;refine h _ _ _ (by rw[qB]) rfl W ⟨⟨_,Heap.get?_push_size _ rfl,rfl,rfl⟩,pl.isList.at fun o e=>Heap.get?_push_of_some _ e⟩ (fun b o e=>Heap.get?_push_of_some _ e) fun h' tk kp=>?_;exact I.kept (t':=tk) fun b o e=>kp b o (by simpa using qk (qd e)) (Heap.get?_push_of_some _ e)
theorem jR (hc:X.calm=true):dC X (.builtin "all") (fun xs H Q=>∃ (p:Addr)(bs:List Bool),xs=[.ref p]/\bA X.K H p (bs.map V.bl)/\Q (.bl (bs.all id)) H):=by
 intro pins s σ H xs us Q I r h;obtain⟨p,bs,rfl,hq,q⟩:=h;obtain⟨u,rfl,rx⟩:=gf r;cases rx;obtain⟨its,rv,pl,hz⟩:=I.list hq;have hl:=rv.length;rw[qf]at hl;refine call_all_walk (j2 (xs:=bs.map V.bl) I (I.ok.hd hc) pl fun I' St s2 hs2 hI W st kp fin=>?_);refine⟨I',_,_,_,_,St,_,rfl,W,st,iH rv,fun h' tk k=>⟨.bl _,H,fin h' tk k,rfl,?_⟩⟩;rw[<-hl,j7];exact q
theorem d9:∀ {ns:List Int}{us:List Value},az (ns.map V.int) us->IntsAre us ns
 | [],_,r=>by cases r;exact IntsAre.nil
 | n::ns,_,r=>by
  cases r with
  | cons r t=>obtain⟨tk,rfl⟩:=r;exact IntsAre.cons _ _ (d9 t)
theorem hX:∀ {xs:List V}{us:List Value},xs.length=us.length->(∀ (i:Nat) x u,xs[i]? = some x->us[i]? = some u->aF x u)->az xs us
 | [],[],_,_=>.nil
 | x::xs,u::us,hl,h=>.cons (h 0 x u rfl rfl) (hX (by simpa using hl) fun i y v e1 e2=>h (i+1) y v (by simpa using e1) (by simpa using e2))
 | [],_::_,hl,_=>by simp at hl
 | _::_,[],hl,_=>by simp at hl
end
inductive Dt where
 | at (v:V)
 | sq (tup:Bool) (ds:List Dt)
def e9:V->Bool
 | .non=>true
 | .int _=>true
 | .str _=>true
 | _=>false
theorem fQ {v:V}(h:e9 v=true):ko v=true:=by cases v<;>first | rfl | cases h
theorem lv {x y:V}(hx:e9 x=true)(hy:e9 y=true):ow x y=true↔x=y:=by
 cases x<;>cases y<;>first | (cases hx;done) | (cases hy;done) | simp[ow]
def fh (K:PySem.W.Frag)(H:Hp)(t:Bool)(a:Addr)(xs:List V):Prop:=if t=true then aG K H a xs else bA K H a xs
def RD (K:PySem.W.Frag)(H:Hp):Nat->V->Dt->Prop
 | 0,v,d=>e9 v=true/\d=.at v
 | n+1,v,d=>(e9 v=true/\d=.at v)\/∃ a t xs ds,v=.ref a/\d=.sq t ds/\fh K H t a xs/\Paired (RD K H n) xs ds
theorem RD.flat {K:PySem.W.Frag}{H:Hp}{v:V}(h:e9 v=true):∀ n,RD K H n v (.at v)
 | 0=>⟨h,rfl⟩
 | _+1=>.inl ⟨h,rfl⟩
theorem RD.lst {K:PySem.W.Frag}{H:Hp}{a:Addr}{xs:List V}{ds:List Dt}{n:Nat}(h:bA K H a xs)(r:Paired (RD K H n) xs ds):RD K H (n+1) (.ref a) (.sq false ds) :=
 .inr ⟨a,false,xs,ds,rfl,rfl,by unfold fh;rw[qi qh];exact h,r⟩
theorem RD.tup {K:PySem.W.Frag}{H:Hp}{a:Addr}{xs:List V}{ds:List Dt}{n:Nat}(h:aG K H a xs)(r:Paired (RD K H n) xs ds):RD K H (n+1) (.ref a) (.sq true ds) :=
 .inr ⟨a,true,xs,ds,rfl,rfl,by unfold fh;rw[ql rfl];exact h,r⟩
section
variable {X:Cx}{pins:List (Addr×Obj)}{σ:St}{H:Hp}{s:Shared}
theorem RD.inj (I:aj X pins σ H s):∀ {n m:Nat}{v:V}{d e:Dt},RD X.K H n v d->RD X.K H m v e->d=e:=by
 intro n
 induction n with
 | zero =>
  intro m v d e h1 h2;obtain⟨f,rfl⟩:=h1
  cases m with
  | zero=>exact h2.2.symm
  | succ m =>
   rcases h2 with h2 | ⟨a,t,xs,ds,rfl,_⟩
   ·exact h2.2.symm
   ·cases f
 | succ n ih =>
  intro m v d e h1 h2;rcases h1 with h1 | ⟨a,t,xs,ds,rfl,rfl,q,r⟩
  ·obtain⟨f,rfl⟩:=h1
   cases m with
   | zero=>exact h2.2.symm
   | succ m =>
    rcases h2 with h2 | ⟨a,t,xs,ds,rfl,_⟩
    ·exact h2.2.symm
    ·cases f
  ·cases m with
   | zero=>cases h2.1
   | succ m =>
    rcases h2 with h2 | ⟨a',t',xs',ds',ea,rfl,q',r'⟩
    ·cases h2.1
    ·cases ea
     have pr:∀ {l:List V}{l1 l2:List Dt},Paired (RD X.K H n) l l1->Paired (RD X.K H m) l l2->l1=l2:=by
      intro l
      induction l with
      | nil=>intro l1 l2 p1 p2;cases p1;cases p2;rfl
      | cons z l ihl =>
       intro l1 l2 p1 p2
       cases p1 with
       | cons r1 t1 =>
        cases p2 with
        | cons r2 t2=>rw[ih r1 r2,ihl t1 t2]
     cases t with
     | false =>
      have q:bA X.K H a xs:=by unfold fh at q;rwa [qi qh]at q
      cases t' with
      | false =>
       have q':bA X.K H a xs':=by unfold fh at q';rwa [qi qh]at q'
       have:=I.list_inj q q';subst this;rw[pr r r']
      | true =>
       have q':aG X.K H a xs':=by unfold fh at q';rwa [ql rfl]at q'
       obtain⟨_,_,p1,_⟩:=I.list q;obtain⟨_,_,p2,_⟩:=I.tuple q';exact absurd rfl (SeqAt.ne_of_list_tuple p1.isList p2)
     | true =>
      have q:aG X.K H a xs:=by unfold fh at q;rwa [ql rfl]at q
      cases t' with
      | false =>
       have q':bA X.K H a xs':=by unfold fh at q';rwa [qi qh]at q'
       obtain⟨_,_,p1,_⟩:=I.tuple q;obtain⟨_,_,p2,_⟩:=I.list q';exact absurd rfl (SeqAt.ne_of_list_tuple p2.isList p1)
      | true =>
       have q':aG X.K H a xs':=by unfold fh at q';rwa [ql rfl]at q'
       have:=I.tuple_inj q q';subst this;rw[pr r r']
theorem kT (I:aj X pins σ H s):∀ (n:Nat){A:Around}{l b:Addr}{d e:Dt},A.units+n<cLine->RD X.K H (n+1) (.ref l) d->RD X.K H (n+1) (.ref b) e ->
  (∀ {A:Around}{y x:V}{u v:Value}{d e:Dt},A.units+n<cLine+1->RD X.K H n y d->RD X.K H n x e->aF y u->aF x v->∃ k:Bool,(k=true↔d=e)/\SeqAt.EqAt A s u v k) ->
  ∃ k:Bool,(k=true↔d=e)/\SeqAt.RcAt A s (.ref l) (.ref b) k:=by
 intro n A l b d e hu h1 h2 ih;rcases h1 with h1 | ⟨a,t,xs,ds,ea,rfl,q,r⟩
 ·cases h1.1
 cases ea;rcases h2 with h2 | ⟨a',t',xs',ds',ea,rfl,q',r'⟩
 ·cases h2.1
 cases ea
 have pw:∀ {us us':List Value},az xs us->az xs' us'->∃ ks:Nat->Bool,(∀ j (h1:j<us.length) (h2:j<us'.length),SeqAt.EqAt A.in1 s us[j] us'[j] (ks j)) /\
   (∀ j d1 d2,ds[j]? = some d1->ds'[j]? = some d2->(ks j=true↔d1=d2)):=by
  intro us us' rv rv'
  have ex:∀ j:Nat,∃ k:Bool,(∀ (h1:j<us.length)(h2:j<us'.length),SeqAt.EqAt A.in1 s us[j] us'[j] k)/\(∀ d1 d2,ds[j]? = some d1->ds'[j]? = some d2->(k=true↔d1=d2)):=by
   intro j
   by_cases hj:j<us.length/\j<us'.length
   ·obtain⟨h1,h2⟩:=hj
    have l1:=rv.length;have l2:=rv'.length;have l3:=qv r;have l4:=qv r';have gx:xs[j]? = some xs[j]:=List.getElem?_eq_getElem (by omega);have gx':xs'[j]? = some xs'[j]:=List.getElem?_eq_getElem (by omega);obtain⟨u,eu,ru⟩:=rv.get gx;obtain⟨u',eu',ru'⟩:=rv'.get gx'
    have eu2:us[j]=u:=by rw[List.getElem?_eq_getElem h1]at eu;exact qu eu
    have eu2':us'[j]=u':=by rw[List.getElem?_eq_getElem h2]at eu';exact qu eu'
    have pget:∀ {m:Nat}{zs:List V}{es:List Dt}(j:Nat){z:V},Paired (RD X.K H m) zs es->zs[j]? = some z->∃ f,es[j]? = some f/\RD X.K H m z f:=by
     intro m zs
     induction zs with
     | nil=>intro es j z p hz;simp at hz
     | cons z0 zs ihz =>
      intro es j z p hz
      cases p with
      | cons p1 p2 =>
       cases j with
       | zero=>simp at hz;subst hz;exact⟨_,rfl,p1⟩
       | succ j=>obtain⟨f,e1,e2⟩:=ihz j p2 (by simpa using hz);exact⟨f,by simpa using e1,e2⟩
    obtain⟨f,ef,rf⟩:=pget j r gx;obtain⟨f',ef',rf'⟩:=pget j r' gx';obtain⟨k,hk,he⟩:=ih (A:=A.in1) (by show A.units+1+n<cLine+1;omega) rf rf' ru ru';refine⟨k,fun _ _=>by rw[eu2,eu2'];exact he,fun d1 d2 e1 e2=>?_⟩;rw[ef]at e1;rw[ef']at e2;cases e1;cases e2;exact hk
   ·refine⟨false,fun h1 h2=>absurd ⟨h1,h2⟩ hj,fun d1 d2 e1 e2=>?_⟩
    have l1:=rv.length;have l2:=rv'.length;have l3:=qv r;have l4:=qv r';have:=(List.getElem?_eq_some_iff.mp e1).1;have:=(List.getElem?_eq_some_iff.mp e2).1;exact absurd ⟨by omega,by omega⟩ hj
  exact⟨fun j=>Classical.choose (ex j),fun j h1 h2=>(Classical.choose_spec (ex j)).1 h1 h2,fun j=>(Classical.choose_spec (ex j)).2⟩
 have allEq:∀ (ks:Nat->Bool),(∀ j d1 d2,ds[j]? = some d1->ds'[j]? = some d2->(ks j=true↔d1=d2))->ds.length=ds'.length->((List.range ds.length).all ks=true↔ds=ds'):=by
  intro ks hk hl;rw[List.all_eq_true];constructor
  ·intro h
   apply List.ext_getElem hl
   intro j h1 h2;exact (hk j _ _ (List.getElem?_eq_getElem h1) (List.getElem?_eq_getElem h2)).mp (h j (List.mem_range.mpr h1))
  ·rintro rfl j hj
   have h1:=List.mem_range.mp hj;exact (hk j _ _ (List.getElem?_eq_getElem h1) (List.getElem?_eq_getElem h1)).mpr rfl
 have l3:=qv r;have l4:=qv r'
 cases t with
 | false =>
  have q:bA X.K H l xs:=by unfold fh at q;rwa [qi qh]at q
  obtain⟨us,rv,p1,_⟩:=I.list q;have l1:=rv.length
  cases t' with
  | true =>
   have q':aG X.K H b xs':=by unfold fh at q';rwa [ql rfl]at q'
   obtain⟨us',rv',p2,_⟩:=I.tuple q';exact⟨false,by simp,SeqAt.RcAt.list_tuple p1.isList p2 (by omega)⟩
  | false =>
   have q':bA X.K H b xs':=by unfold fh at q';rwa [qi qh]at q'
   obtain⟨us',rv',p2,_⟩:=I.list q';have l2:=rv'.length
   by_cases hl:us.length=us'.length
   ·obtain⟨ks,he,hk⟩:=pw rv rv'
    refine⟨(List.range us.toArray.size).all ks,?_,SeqAt.RcAt.lists p1.isList p2.isList (by simpa using hl) (by omega) fun j h1 h2=>by simpa using he j (by simpa using h1) (by simpa using h2)⟩;rw[qm,show us.length=ds.length by omega,allEq ks hk (by omega)];constructor
    ·rintro rfl;rfl
    ·intro h;injection h
   ·refine⟨false,?_,SeqAt.RcAt.lists_lengths p1.isList p2.isList (by simpa using hl) (by omega)⟩
    constructor
    ·intro h;cases h
    ·intro h
     injection h with _ h;exact absurd (by rw[<-l1,l3,h,<-l4,l2]) hl
 | true =>
  have q:aG X.K H l xs:=by unfold fh at q;rwa [ql rfl]at q
  obtain⟨us,rv,p1,_⟩:=I.tuple q;have l1:=rv.length
  cases t' with
  | false =>
   have q':bA X.K H b xs':=by unfold fh at q';rwa [qi qh]at q'
   obtain⟨us',rv',p2,_⟩:=I.list q';exact⟨false,by simp,SeqAt.RcAt.tuple_list p1 p2.isList (by omega)⟩
  | true =>
   have q':aG X.K H b xs':=by unfold fh at q';rwa [ql rfl]at q'
   obtain⟨us',rv',p2,_⟩:=I.tuple q';have l2:=rv'.length;obtain⟨ks,he,hk⟩:=pw rv rv';refine⟨_,?_,SeqAt.RcAt.tuples (e:=ks) (show s.heap.IsTuple l us.toArray from p1) (show s.heap.IsTuple b us'.toArray from p2) (by omega) fun j h1 h2=>by simpa using he j (by simpa using h1) (by simpa using h2)⟩
   by_cases hl:us.length=us'.length
   ·rw[qm,qm,<-hl,Nat.min_self,beq_self_eq_true,Bool.and_true,show us.length=ds.length by omega,allEq ks hk (by omega)]
    constructor
    ·rintro rfl;rfl
    ·intro h;injection h
   ·have:(us.toArray.size == us'.toArray.size)=false:=by simpa using hl
    rw[this,Bool.and_false];constructor
    ·intro h;cases h
    ·intro h
     injection h with _ h;exact absurd (by rw[<-l1,l3,h,<-l4,l2]) hl
theorem kU (I:aj X pins σ H s):∀ (n:Nat){A:Around}{l b:Addr}{d e:Dt},A.units+n<cLine->RD X.K H (n+1) (.ref l) d->RD X.K H (n+1) (.ref b) e ->
  (∀ {A:Around}{y x:V}{u v:Value}{d e:Dt},A.units+n<cLine+1->RD X.K H n y d->RD X.K H n x e->aF y u->aF x v->∃ k:Bool,(k=true↔d=e)/\SeqAt.EqAt A s u v k) ->
  ∃ k:Bool,(k=true↔d=e)/\SeqAt.RcNeAt A s (.ref l) (.ref b) (!k):=by
 intro n A l b d e hu h1 h2 ih;rcases h1 with h1 | ⟨a,t,xs,ds,ea,rfl,q,r⟩
 ·cases h1.1
 cases ea;rcases h2 with h2 | ⟨a',t',xs',ds',ea,rfl,q',r'⟩
 ·cases h2.1
 cases ea
 have pw:∀ {us us':List Value},az xs us->az xs' us'->∃ ks:Nat->Bool,(∀ j (h1:j<us.length) (h2:j<us'.length),SeqAt.EqAt A.in1 s us[j] us'[j] (ks j)) /\
   (∀ j d1 d2,ds[j]? = some d1->ds'[j]? = some d2->(ks j=true↔d1=d2)):=by
  intro us us' rv rv'
  have ex:∀ j:Nat,∃ k:Bool,(∀ (h1:j<us.length)(h2:j<us'.length),SeqAt.EqAt A.in1 s us[j] us'[j] k)/\(∀ d1 d2,ds[j]? = some d1->ds'[j]? = some d2->(k=true↔d1=d2)):=by
   intro j
   by_cases hj:j<us.length/\j<us'.length
   ·obtain⟨h1,h2⟩:=hj
    have l1:=rv.length;have l2:=rv'.length;have l3:=qv r;have l4:=qv r';have gx:xs[j]? = some xs[j]:=List.getElem?_eq_getElem (by omega);have gx':xs'[j]? = some xs'[j]:=List.getElem?_eq_getElem (by omega);obtain⟨u,eu,ru⟩:=rv.get gx;obtain⟨u',eu',ru'⟩:=rv'.get gx'
    have eu2:us[j]=u:=by rw[List.getElem?_eq_getElem h1]at eu;exact qu eu
    have eu2':us'[j]=u':=by rw[List.getElem?_eq_getElem h2]at eu';exact qu eu'
    have pget:∀ {m:Nat}{zs:List V}{es:List Dt}(j:Nat){z:V},Paired (RD X.K H m) zs es->zs[j]? = some z->∃ f,es[j]? = some f/\RD X.K H m z f:=by
     intro m zs
     induction zs with
     | nil=>intro es j z p hz;simp at hz
     | cons z0 zs ihz =>
      intro es j z p hz
      cases p with
      | cons p1 p2 =>
       cases j with
       | zero=>simp at hz;subst hz;exact⟨_,rfl,p1⟩
       | succ j=>obtain⟨f,e1,e2⟩:=ihz j p2 (by simpa using hz);exact⟨f,by simpa using e1,e2⟩
    obtain⟨f,ef,rf⟩:=pget j r gx;obtain⟨f',ef',rf'⟩:=pget j r' gx';obtain⟨k,hk,he⟩:=ih (A:=A.in1) (by show A.units+1+n<cLine+1;omega) rf rf' ru ru';refine⟨k,fun _ _=>by rw[eu2,eu2'];exact he,fun d1 d2 e1 e2=>?_⟩;rw[ef]at e1;rw[ef']at e2;cases e1;cases e2;exact hk
   ·refine⟨false,fun h1 h2=>absurd ⟨h1,h2⟩ hj,fun d1 d2 e1 e2=>?_⟩
    have l1:=rv.length;have l2:=rv'.length;have l3:=qv r;have l4:=qv r';have:=(List.getElem?_eq_some_iff.mp e1).1;have:=(List.getElem?_eq_some_iff.mp e2).1;exact absurd ⟨by omega,by omega⟩ hj
  exact⟨fun j=>Classical.choose (ex j),fun j h1 h2=>(Classical.choose_spec (ex j)).1 h1 h2,fun j=>(Classical.choose_spec (ex j)).2⟩
 have allEq:∀ (ks:Nat->Bool),(∀ j d1 d2,ds[j]? = some d1->ds'[j]? = some d2->(ks j=true↔d1=d2))->ds.length=ds'.length->((List.range ds.length).all ks=true↔ds=ds'):=by
  intro ks hk hl;rw[List.all_eq_true];constructor
  ·intro h
   apply List.ext_getElem hl
   intro j h1 h2;exact (hk j _ _ (List.getElem?_eq_getElem h1) (List.getElem?_eq_getElem h2)).mp (h j (List.mem_range.mpr h1))
  ·rintro rfl j hj
   have h1:=List.mem_range.mp hj;exact (hk j _ _ (List.getElem?_eq_getElem h1) (List.getElem?_eq_getElem h1)).mpr rfl
 have l3:=qv r;have l4:=qv r'
 cases t with
 | false =>
  have q:bA X.K H l xs:=by unfold fh at q;rwa [qi qh]at q
  obtain⟨us,rv,p1,_⟩:=I.list q;have l1:=rv.length
  cases t' with
  | true =>
   have q':aG X.K H b xs':=by unfold fh at q';rwa [ql rfl]at q'
   obtain⟨us',rv',p2,_⟩:=I.tuple q';exact⟨false,by simp,SeqAt.RcNeAt.list_tuple p1.isList p2 (by omega)⟩
  | false =>
   have q':bA X.K H b xs':=by unfold fh at q';rwa [qi qh]at q'
   obtain⟨us',rv',p2,_⟩:=I.list q';have l2:=rv'.length
   by_cases hl:us.length=us'.length
   ·obtain⟨ks,he,hk⟩:=pw rv rv'
    refine⟨(List.range us.toArray.size).all ks,?_,SeqAt.RcNeAt.lists p1.isList p2.isList (by simpa using hl) (by omega) fun j h1 h2=>by simpa using he j (by simpa using h1) (by simpa using h2)⟩;rw[qm,show us.length=ds.length by omega,allEq ks hk (by omega)];constructor
    ·rintro rfl;rfl
    ·intro h;injection h
   ·refine⟨false,?_,SeqAt.RcNeAt.lists_lengths p1.isList p2.isList (by simpa using hl) (by omega)⟩
    constructor
    ·intro h;cases h
    ·intro h
     injection h with _ h;exact absurd (by rw[<-l1,l3,h,<-l4,l2]) hl
 | true =>
  have q:aG X.K H l xs:=by unfold fh at q;rwa [ql rfl]at q
  obtain⟨us,rv,p1,_⟩:=I.tuple q;have l1:=rv.length
  cases t' with
  | false =>
   have q':bA X.K H b xs':=by unfold fh at q';rwa [qi qh]at q'
   obtain⟨us',rv',p2,_⟩:=I.list q';exact⟨false,by simp,SeqAt.RcNeAt.tuple_list p1 p2.isList (by omega)⟩
  | true =>
   have q':aG X.K H b xs':=by unfold fh at q';rwa [ql rfl]at q'
   obtain⟨us',rv',p2,_⟩:=I.tuple q';have l2:=rv'.length;obtain⟨ks,he,hk⟩:=pw rv rv';refine⟨(List.range (min us.toArray.size us'.toArray.size)).all ks&&us.toArray.size == us'.toArray.size,?_,SeqAt.RcNeAt.tuples (e:=ks) (show s.heap.IsTuple l us.toArray from p1) (show s.heap.IsTuple b us'.toArray from p2) (by omega) fun j h1 h2=>by simpa using he j (by simpa using h1) (by simpa using h2)⟩
   by_cases hl:us.length=us'.length
   ·rw[qm,qm,<-hl,Nat.min_self,beq_self_eq_true,Bool.and_true,show us.length=ds.length by omega,allEq ks hk (by omega)]
    constructor
    ·rintro rfl;rfl
    ·intro h;injection h
   ·have:(us.toArray.size == us'.toArray.size)=false:=by simpa using hl
    rw[this,Bool.and_false];constructor
    ·intro h;cases h
    ·intro h
     injection h with _ h;exact absurd (by rw[<-l1,l3,h,<-l4,l2]) hl
theorem kn (I:aj X pins σ H s):∀ (n:Nat){A:Around}{y x:V}{u v:Value}{d e:Dt},A.units+n<cLine+1->RD X.K H n y d->RD X.K H n x e->aF y u->aF x v->∃ k:Bool,(k=true↔d=e)/\SeqAt.EqAt A s u v k:=by
 intro n
 have flatCase:∀ {A:Around}{y x:V}{u v:Value},e9 y=true->e9 x=true->aF y u->aF x v->∃ k:Bool,(k=true↔Dt.at y=Dt.at x)/\SeqAt.EqAt A s u v k:=by
  intro A y x u v fy fx ry rx;refine⟨ow y x,?_,ms ry rx (fQ fy) (fQ fx)⟩;rw[lv fy fx];constructor
  ·rintro rfl;rfl
  ·intro h;injection h
 induction n with
 | zero =>
  intro A y x u v d e hu h1 h2 ry rx;obtain⟨f1,rfl⟩:=h1;obtain⟨f2,rfl⟩:=h2;exact flatCase f1 f2 ry rx
 | succ n ih =>
  intro A y x u v d e hu h1 h2 ry rx;rcases id h1 with ⟨f1,rfl⟩ | ⟨a,t,xs,ds,rfl,rfl,q,r⟩
  ·rcases id h2 with ⟨f2,rfl⟩ | ⟨a',t',xs',ds',rfl,rfl,q',r'⟩
   ·exact flatCase f1 f2 ry rx
   ·cases rx
    refine⟨false,by simp,?_⟩
    cases t' with
    | false =>
     have q':bA X.K H a' xs':=by unfold fh at q';rwa [qi qh]at q'
     obtain⟨_,_,p,_⟩:=I.list q'
     cases y with
     | non=>cases ry;exact SeqAt.EqAt.none_list p.isList (by omega)
     | int _=>obtain⟨tk,rfl⟩:=ry;exact SeqAt.EqAt.int_list _ _ p.isList (by omega)
     | str _=>obtain⟨tk,rfl⟩:=ry;exact SeqAt.EqAt.str_list _ _ p.isList (by omega)
     | _=>cases f1
    | true =>
     have q':aG X.K H a' xs':=by unfold fh at q';rwa [ql rfl]at q'
     obtain⟨_,_,p,_⟩:=I.tuple q'
     cases y with
     | non=>cases ry;exact SeqAt.EqAt.none_tuple p (by omega)
     | int _=>obtain⟨tk,rfl⟩:=ry;exact SeqAt.EqAt.int_tuple _ _ p (by omega)
     | str _=>obtain⟨tk,rfl⟩:=ry;exact SeqAt.EqAt.str_tuple _ _ p (by omega)
     | _=>cases f1
  ·cases ry
   rcases id h2 with ⟨f2,rfl⟩ | ⟨a',t',xs',ds',rfl,rfl,q',r'⟩
   ·refine⟨false,by simp,?_⟩
    cases t with
    | false =>
     have q:bA X.K H a xs:=by unfold fh at q;rwa [qi qh]at q
     obtain⟨_,_,p,_⟩:=I.list q
     cases x with
     | non=>cases rx;exact SeqAt.EqAt.list_none p.isList (by omega)
     | int _=>obtain⟨tk,rfl⟩:=rx;exact SeqAt.EqAt.list_int _ _ p.isList (by omega)
     | str _=>obtain⟨tk,rfl⟩:=rx;exact SeqAt.EqAt.list_str _ _ p.isList (by omega)
     | _=>cases f2
    | true =>
     have q:aG X.K H a xs:=by unfold fh at q;rwa [ql rfl]at q
     obtain⟨_,_,p,_⟩:=I.tuple q
     cases x with
     | non=>cases rx;exact SeqAt.EqAt.tuple_none p (by omega)
     | int _=>obtain⟨tk,rfl⟩:=rx;exact SeqAt.EqAt.tuple_int _ _ p (by omega)
     | str _=>obtain⟨tk,rfl⟩:=rx;exact SeqAt.EqAt.tuple_str _ _ p (by omega)
     | _=>cases f2
   ·cases rx
    by_cases hab:a=a'
    ·subst hab
     exact⟨true,by rw[RD.inj I h1 h2];simp,SeqAt.EqAt.same _⟩
    ·obtain⟨k,hk,hr⟩:=kT I n (A:=A) (by omega) h1 h2 (fun hu'=>ih hu')
     exact⟨k,hk,.of_refs hab hr⟩
end
inductive pA (K:PySem.W.Frag) (n:Nat) (neg:Bool) (x y:V) (H:Hp) (Q:VK):Prop
 | mk (a b:Addr) (d e:Dt) (e1:x=.ref a) (e2:y=.ref b) (r1:RD K H (n+1) x d) (r2:RD K H (n+1) y e) (h:∀ k:Bool,(k=true↔d=e)->Q (.bl (if neg then !k else k)) H):pA K n neg x y H Q
def nW (K:PySem.W.Frag)(n:Nat)(neg:Bool):R2:=fun x y H Q=>pA K n neg x y H Q
section
variable {X:Cx}
theorem mH (n:Nat)(hu:X.A.units+n<cLine):gh X (compareOp .Eq) (nW X.K n false):=by
 intro pins s σ H x y v u Q I rx ry h;obtain⟨a,b,d,e,rfl,rfl,h1,h2,q⟩:=h;cases rx;cases ry;obtain⟨k,hk,hr⟩:=kT I n (A:=X.A) hu h1 h2 (fun hu'=>kn I n hu');exact hr _ _ _ _ ⟨.bl k,H,I,rfl,q k hk⟩
theorem kD (n:Nat)(hu:X.A.units+n<cLine):gh X (compareOp .NotEq) (nW X.K n true):=by
 intro pins s σ H x y v u Q I rx ry h;obtain⟨a,b,d,e,rfl,rfl,h1,h2,q⟩:=h;cases rx;cases ry;obtain⟨k,hk,hr⟩:=kU I n (A:=X.A) hu h1 h2 (fun hu'=>kn I n hu');exact hr _ _ _ _ ⟨.bl (!k),H,I,rfl,q k hk⟩
end
end L2
namespace Wz
open PySem L2
def bt (c:Int):Int:=if c<0 then -c else c
theorem lp (c:Int):0<=bt c:=by unfold bt;split<;>omega
def bC (ns:List Int)(k:Int):Int:=if k<(ns.length:Int) then ns.getD k.toNat 0 else 0
def gF (k c:Int):Int :=
 let left:=bt c
 let number:=(k*(1+left*1234567891%2147483646)+left/2147483646)%2147483647
 if left%5=4 then number+997852516353 else number
def ay (P:Program)(w:World)(K:PySem.W.Frag)(mg:Str->Option Value)(base:Heap)(x:Str)(k:Nat)(ps:List Str)(sp:Sp):Prop :=
 ∃ (f:Addr)(fd:FuncData),aO P w K mg base cA k f fd ps sp/\mg x=some (.ref f)/\PySem.W.keepIn K (.ref f)=true/\cz K fd ps []
theorem aX {X:Cx}{x:Str}{k:Nat}{ps:List Str}{sp:Sp}{e:Expr}{es:List Expr}{t:TA}{p pos:Pos}(C:ay X.prog X.w X.K X.mg X.base x k ps sp)(hr:aY k X.A)(hg:Gl X x)(ha:PA X (e::es) t)
  (hdb:(x == ("__debug__" : Str))=false:=by decide) (he:starEach (e::es) X.env=(false,eval e X.env)::starEach es X.env:=by rfl) (hpl:(backTo pos (starEach es X.env)).any (·.1)=false:=by rfl) :
  PE X (.Call (.Name x p) (e::es) [] pos) (kX sp [] E0 t):=by
 obtain⟨f,fd,G,hm,hk,hb⟩:=C;exact jH G hr hg hm hk hb .nil fZ ha hdb he hpl
theorem lC {X:Cx}(K:PySem.W.Frag)(hK:X.K=K:=by rfl):om X (nX K):=by subst hK;exact av
def cc (H:Hp)(l:Addr)(ps:List (Int×Int)):Prop:=∃ as:List Addr,H l=some (.lst (as.map V.ref))/\Paired (fun a (p:Int×Int)=>H a=some (.tup [.int p.1,.int p.2])) as ps
theorem cc.mono {H H':Hp}{l:Addr}{ps:List (Int×Int)}(r:cc H l ps)(s:bo H H'):cc H' l ps:=by
 obtain⟨as,h,p⟩:=r;exact⟨as,s _ _ h,Paired.mapP p fun a q z=>s _ _ z⟩
theorem af {H:Hp}{l:Addr}{o:HO}(h:H l=none):bo H (aA H l o):=fun b u e=>by rw[ak (aH e h)];exact e
theorem c9 {H H':Hp}{l:Addr}{o:HO}(s:bo H H')(h:H l=none):bo H (aA H' l o):=fun b u e=>by rw[ak (aH e h)];exact s b u e
theorem fY {α β:Type}{F:α->β->Prop}:∀ {l:List α}{m:List β}{i:Nat}{a:α},Paired F l m->l[i]? = some a->∃ b,m[i]? = some b/\F a b
 | _,_,_,_,.nil,h=>by simp at h
 | _,_,0,_,.cons r _,h=>by simp at h;subst h;exact⟨_,rfl,r⟩
 | _,_,i+1,a,.cons _ t,h=>by
  obtain⟨b,e1,e2⟩:=fY (i:=i) (a:=a) t (by simpa using h);exact⟨b,by simpa using e1,e2⟩
theorem dF {α β:Type}{F:α->β->Prop}:∀ {l l':List α}{m m':List β},Paired F l m->Paired F l' m'->Paired F (l++l') (m++m')
 | _,_,_,_,.nil,s=>s
 | _,_,_,_,.cons r t,s=>.cons r (dF t s)
theorem cu {α β:Type}{f:α->β}{l:List α}{i:Nat}{y:β}(h:(l.map f)[i]? = some y):∃ x,l[i]? = some x/\y=f x:=by
 rw[List.getElem?_map]at h
 cases e:l[i]? with
 | none=>rw[e]at h;cases h
 | some x=>rw[e]at h;exact⟨x,rfl,(qu h).symm⟩
theorem dr {te:TE}{a:Addr}{D:eI}{σ:St}{H:Hp}(h:te σ H fun y H2=>∃ ys,H2 a=some (.lst ys)/\ys.length<sizeLine/\D.nx σ (aA H2 a (.lst (ys++[y])))):nc kZ te a D σ H:=by
 unfold nc kZ;dsimp only;rw[ql rfl];exact h
inductive hG (K:PySem.W.Frag) (vs:List V) (H:Hp) (Q:VK) (E_:XK):Prop
 | mk (a:Addr) (ns:List Int) (k:Int) (h_0:vs=[.ref a,.int k]) (h_1:bA K H a (ns.map V.int)) (h_2:0<=k) (h_3:Q (.int (bC ns k)) H):hG K vs H Q E_
inductive eU (vs:List V) (H:Hp) (Q:VK) (E_:XK):Prop
 | mk (c:Int) (h_0:vs=[.int c]) (h_1:Q (.int (bt c)) H):eU vs H Q E_
inductive fF (vs:List V) (H:Hp) (Q:VK) (E_:XK):Prop
 | mk (c m b:Int) (h_0:vs=[.int c,.int m,.int b]) (h_1:(0<=m/\m<=1000)) (h_2:(0<b/\b<1073741824)) (h_3:∀ (l:Addr)(ds:List Int),H l=none->(∀ d∈ds,0<=d/\d<b)->(ds.length:Int)<=m->Q (.ref l) (aA H l (.lst (ds.map V.int)))):fF vs H Q E_
inductive fG (vs:List V) (H:Hp) (Q:VK) (E_:XK):Prop
 | mk (k c:Int) (h_0:vs=[.int k,.int c]) (h_1:(0<=k/\k<=1000000)) (h_2:Q (.int (gF k c)) H):fG vs H Q E_
inductive fL (vs:List V) (H:Hp) (Q:VK) (E_:XK):Prop
 | mk (i:Int) (h_0:vs=[.int i]) (h_1:Q (.bl true) H):fL vs H Q E_
inductive fJ (vs:List V) (H:Hp) (Q:VK) (E_:XK):Prop
 | mk (a:Addr) (p:Int×Int) (h_0:vs=[.ref a]) (h_1:H a=some (.tup [.int p.1,.int p.2])) (h_2:Q (.bl true) H):fJ vs H Q E_
inductive iE (K:PySem.W.Frag) (vs:List V) (H:Hp) (Q:VK) (E_:XK):Prop
 | mk (a:Addr) (ns:List Int) (h_0:vs=[.ref a]) (h_1:bA K H a (ns.map V.int)) (h_2:ns.length<=63) (h_3:∀ H',Q (.bl true) H'):iE K vs H Q E_
def nO (p:Int×Int):Dt:=.sq true [.at (.int p.1),.at (.int p.2)]
def mQ (ps:List (Int×Int)):Dt:=.sq false (ps.map nO)
theorem gV {K:PySem.W.Frag}{H:Hp}{l:Addr}{ps:List (Int×Int)}(r:cc H l ps):RD K H 2 (.ref l) (mQ ps):=by
 obtain⟨as,h,p⟩:=r;refine RD.lst (bA.of h) ?_;clear h
 induction p with
 | nil=>exact .nil
 | cons h _ ih=>exact .cons (RD.tup (aG.of h) (.cons (RD.flat rfl 0) (.cons (RD.flat rfl 0) .nil))) ih
theorem i9 {σ:St}{H:Hp}{Q:Option Int->Hp->Prop}(h:Q none H):jM σ H Q:=h
end Wz
namespace L2
open PySem PySem.Spec PyProof.Rows
def lR (g B:Heap)(e:Addr)(c:Value)(od:Option Addr)(fl:Value):Prop :=
 ∃ oe us T oT ts,g.get? e=some oe/\(oe.cls=c/\oe.dict=od)/\oe.data=.fields us/\us[1]? = some (.ref T)/\B.get? T=none/\T≠e/\g.get? T=some oT/\oT.data=.fields ts/\ts[3]? = some fl
def iL (B:Heap)(l:List Env)(e:Addr)(c:Value)(od:Option Addr)(g:Heap):Prop:=B.StaysIn g/\B.get? e=none/\g.FunFrames B l/\lR g B e c od .none
def lQ (B:Heap)(l:List Env)(e:Addr)(c:Value)(od:Option Addr)(L:Addr)(g:Heap):Prop:=B.StaysIn g/\B.get? e=none/\g.FunFrames B l/\lR g B e c od (rawInt L)
theorem lu (f:Array Value->Array Value)(o:Obj):(Obj.mapFields f o).dict=o.dict:=by
 unfold Obj.mapFields;split<;>rfl
section
variable {M:Model}{A:Around}{E:Value->Shared->Prop}{s:Shared}{B:Heap}{env:Env}{outer:List Env}{L e:Addr}{od:Option Addr}{c:Value}
def oq (g g':Heap):Prop:=∀ b o,g.get? b=some o->(∀ us,o.data≠.fields us)->∃ sl,g'.get? b=some { o with slots:=sl }
theorem km {oe:Obj}{us:Array Value}{head:Value}{hn:Bool}{Q:Unit->Shared->Prop}(fr:A.frames=some (env::outer))(hl:s.heap.FunFrames B (env::outer))(hf:env.frame=some L)
  (he:s.heap.get? e=some oe) (hk:B.StaysIn s.heap) (hb:B.get? e=none) (hd:oe.data=.fields us) (h1:1<us.size)
  (h:∀ g,B.StaysIn g->g.FunFrames B (env::outer)->lR g B e oe.cls oe.dict (rawInt L)->oq s.heap g->Q () { s with heap:=g }) :
  wpAny M A (do let a <-frameOf env;let pl <-entryPlaceOf L hn;let b <-EntryCells.newEntry head a .none (rawInt L) .none pl;setField (.ref e) 1 b) Q E s:=by
 have hne:e∉(env::outer).filterMap (·.frame):=fun z=>by
  obtain⟨_,o,ho,nf⟩:=hl.mem z;rw[he]at ho;cases ho;exact nf us hd
 refine qc (wpAny_frameOf_fun fr hl hf fun g1 sl1=>qc (wpAny_entryPlaceOf fun pl hpl=>?_));unfold EntryCells.newEntry newFields;refine qc (qI ?_ (hpl.sizeOk5 _ _ _ _ _));have e1:g1.get? e=some oe:=(sl1.2.1 e hne).trans he;have k1:B.StaysIn g1:=fun b o q=>(sl1.2.1 b fun z=>by rw[(hl.mem z).1]at q;cases q).trans (hk b o q);generalize hob:({ cls:=.type "traceback",dict:=none,data:=.fields ([head,.ref L,.none,rawInt L,.none]++(if pl.isEmpty then List.replicate 6 Value.none else pl)).toArray }:Obj)=ob
 have obd:ob.data=.fields ([head,.ref L,.none,rawInt L,.none]++(if pl.isEmpty then List.replicate 6 Value.none else pl)).toArray:=by rw[<-hob]
 have e2:=Heap.get?_push_of_some (h:=g1) ob e1;refine wpAny_setField e2 hd h1 ?_;have ne:g1.objs.size≠e:=qA (qd e1);have d3:=ri hd (·.setIfInBounds 1 (Value.ref g1.objs.size));have e3:=Heap.get?_update_self (Obj.mapFields (·.setIfInBounds 1 (Value.ref g1.objs.size))) e2 (Obj.isFreed_of_fields d3)
 have keep:∀ b o,b≠e->g1.get? b=some o->((g1.push ob).update e (Obj.mapFields (·.setIfInBounds 1 (Value.ref g1.objs.size)))).get? b=some o:=fun b o n q=>by
  rw[Heap.get?_update_other _ _ (qK n)];exact Heap.get?_push_of_some _ q
 have nr:∀ b o,s.heap.get? b=some o->(∀ vs,o.data≠.fields vs)->b≠e:=fun b o q nf z=>by
  rw[z,he]at q;cases q;exact nf us hd
 refine h _ (fun b o q=>keep b o (fun z=>by rw[z,hb]at q;cases q) (k1 b o q)) (hl.of_keeps fun b o q nf=>?_) ?_ fun b o q nf=>?_
 ·obtain⟨sl,z⟩:=sl1.2.2 b o q
  exact⟨_,keep b _ (nr b o q nf) z,rfl⟩
 ·refine⟨_,_,g1.objs.size,ob,_,e3,⟨Obj.cls_mapFields _ _,lu _ _⟩,d3,by simp[h1],k1.fresh,ne,?_,obd,by first | (simp;done) | (rcases hpl with rfl | ⟨_,_,_,_,_,_,_,rfl⟩<;>simp)⟩
  rw[Heap.get?_update_other _ _ (qK ne)];exact Heap.get?_push_size g1 (by rw[<-hob];rfl)
 ·obtain⟨sl,z⟩:=sl1.2.2 b o q
  exact⟨sl,keep b _ (nr b o q nf) z⟩
theorem iv {oe:Obj}{us:Array Value}{Q:Unit->Shared->Prop}(fr:A.frames=some (env::outer))(hl:s.heap.FunFrames B (env::outer))(hf:env.frame=some L)
  (he:s.heap.get? e=some oe) (hk:B.StaysIn s.heap) (hb:B.get? e=none) (hd:oe.data=.fields us) (h1:us[1]? = some .none)
  (h:∀ g,B.StaysIn g->g.FunFrames B (env::outer)->lR g B e oe.cls oe.dict (rawInt L)->oq s.heap g->Q () { s with heap:=g }):wpAny M A (noteFrame (.ref e) env) Q E s:=by
 unfold noteFrame;simp only[hf];refine qc (qw he hd h1 ?_);rw[qi (by decide)];exact km fr hl hf he hk hb hd (Array.getElem?_eq_some_iff.mp h1).1 h
theorem ja {Q:Unit->Shared->Prop}(fr:A.frames=some (env::outer))(hl:s.heap.FunFrames B (env::outer))(hf:env.frame=some L)(ht:lR s.heap B e c od .none)(hk:B.StaysIn s.heap)(hb:B.get? e=none)
  (h:∀ g,B.StaysIn g->g.FunFrames B (env::outer)->lR g B e c od (rawInt L)->oq s.heap g->Q () { s with heap:=g }):wpAny M A (noteFrame (.ref e) env) Q E s:=by
 obtain⟨oe,us,T,oT,ts,he,⟨rfl,rfl⟩,hd,h1,nT,ne,hT,dT,h3⟩:=ht;unfold noteFrame;simp only[hf];refine qc (qw he hd h1 ?_);rw[ql (show (Value.ref T != Value.none)=true by simp)];refine qc (qw hT dT h3 ?_);rw[qi (show ¬((Value.none == rawInt L)=true) by simp[rawInt])];refine qc (wpAny_setField hT dT (Array.getElem?_eq_some_iff.mp h3).1 ?_);have ot:∀ b,b≠T->(s.heap.update T (Obj.mapFields (·.setIfInBounds 3 Value.none))).get? b=s.heap.get? b:=fun b z=>Heap.get?_update_other _ _ (qK z)
 have nr:∀ b o,s.heap.get? b=some o->(∀ vs,o.data≠.fields vs)->b≠T:=fun b o q nf z=>by
  rw[z,hT]at q;cases q;exact nf ts dT
 refine km fr (hl.of_keeps fun b o q nf=>⟨o,(ot b (nr b o q nf)).trans q,rfl⟩) hf ((ot e (qK ne)).trans he) (fun b o q=>(ot b fun z=>by rw[z,nT]at q;cases q).trans (hk b o q)) hb hd (Array.getElem?_eq_some_iff.mp h1).1 fun g a1 a2 a3 a4=>h g a1 a2 a3 fun b o q nf=>?_;exact a4 b o ((ot b (nr b o q nf)).trans q) nf
theorem jA {l:List Env}{fl:Value}{Q:Unit->Shared->Prop}(hk:B.StaysIn s.heap)(hl:s.heap.FunFrames B l)(ht:lR s.heap B e c od fl)
  (h:∀ g,B.StaysIn g->g.FunFrames B l->lR g B e c od .none->s.heap.UpToSlots g->Q () { s with heap:=g }):wpAny M A (setFlight (.ref e) none) Q E s:=by
 obtain⟨oe,us,T,oT,ts,he,hc,hd,h1,nT,ne,hT,dT,h3⟩:=ht;have z3:3<ts.size:=(Array.getElem?_eq_some_iff.mp h3).1;have ot:∀ b,b≠T->(s.heap.update T (Obj.mapFields (·.setIfInBounds 3 ((none:Option Addr).elim Value.none fun f=>rawInt f)))).get? b=s.heap.get? b:=fun b z=>Heap.get?_update_other _ _ (qK z)
 have nr:∀ b o,s.heap.get? b=some o->(∀ vs,o.data≠.fields vs)->b≠T:=fun b o q nf z=>by
  rw[z,hT]at q;cases q;exact nf ts dT
 unfold setFlight;refine qc (qw he hd h1 ?_);rw[ql (show (Value.ref T != Value.none)=true by simp)];refine wpAny_setField hT dT z3 (h _ (fun b o q=>(ot b fun z=>by rw[z,nT]at q;cases q).trans (hk b o q)) (hl.of_keeps fun b o q nf=>⟨o,(ot b (nr b o q nf)).trans q,rfl⟩) ?_ fun b o q nf=>⟨o.slots,(ot b (nr b o q nf)).trans q⟩);exact⟨oe,us,T,_,_,(ot e (qK ne)).trans he,hc,hd,h1,nT,ne,Heap.get?_update_self _ hT (Obj.isFreed_of_fields (ri dT _)),ri dT _,by simp[z3]⟩
theorem mP {g g' g'':Heap}(a:oq g g')(b:g'.UpToSlots g''):g.UpToSlots g'':=fun x o q nf=>by
 obtain⟨sl,z⟩:=a x o q nf;obtain⟨sl2,z2⟩:=b x _ z nf;exact⟨sl2,z2⟩
theorem gH {oe:Obj}{us:Array Value}{Q:Unit->Shared->Prop}(fr:A.frames=some (env::outer))(hf:env.frame=some L)(hk:B.StaysIn s.heap)(hl:s.heap.FunFrames B (env::outer))
  (he:s.heap.get? e=some oe) (hb:B.get? e=none) (hd:oe.data=.fields us) (h1:us[1]? = some .none)
  (hq:∀ g,iL B outer e oe.cls oe.dict g->s.heap.UpToSlots g->Q () { s with heap:=g }):wpAny M A (leaving env (.ref e)) Q E s:=by
 unfold leaving;refine qc (iv fr hl hf he hk hb hd h1 fun g a1 a2 a3 a4=>?_);exact jA (s:={ s with heap:=g }) a1 a2 a3 fun g2 b1 b2 b3 b4=>hq g2 ⟨b1,hb,b2.2.2,b3⟩ (mP a4 b4)
theorem j4 {Q:Unit->Shared->Prop}(fr:A.frames=some (env::outer))(hf:env.frame=some L)(fl:iL B (env::outer) e c od s.heap)
  (hq:∀ g,lQ B (env::outer) e c od L g->s.heap.UpToSlots g->Q () { s with heap:=g }):wpAny M A (noteFrame (.ref e) env) Q E s:=by
 obtain⟨f1,f2,f3,f4⟩:=fl;exact ja fr f3 hf f4 f1 f2 fun g a1 a2 a3 a4=>hq g ⟨a1,f2,a2,a3⟩ a4
theorem mD {l:List Env}{Q:Unit->Shared->Prop}(hh:lQ B l e c od L s.heap)(hq:∀ g,iL B l e c od g->s.heap.UpToSlots g->Q () { s with heap:=g }):wpAny M A (setFlight (.ref e) none) Q E s:=by
 obtain⟨f1,f2,f3,f4⟩:=hh;exact jA f1 f3 f4 fun g a1 a2 a3 a4=>hq g ⟨a1,f2,a2,a3⟩ a4
end
abbrev oR:List Value:=[.type "ValueError",.type "Exception",.type "BaseException",.type "object"]
def oU (C t:Addr)(od:Option Addr):Obj:={ cls:=.ref C,dict:=od,data:=.fields #[.ref t,.none,.none,.none,.bool false,.none] }
abbrev gD (K:PySem.W.Frag)(C:Addr):Prop:=PySem.W.excIn K C oR "ValueError.__new__" = true
theorem lx {K:PySem.W.Frag}{h:Heap}{C:Addr}(X:K.In h)(q:gD K C) :
  ∃ bm N nm qn bs hdct sn sub ab col dd k0 k1 k2 k3 k5 mN,h.get? C=some (excClassObj nm qn C N bs bm hdct sn sub ab col dd k0 k1 k2 k3 k5 "ValueError.__new__")/\h.Ns N mN/\mN "__init__" = none/\OwnTail h oR bm:=by
 have q:PySem.W.excIn K C oR "ValueError.__new__" = true:=q;unfold PySem.W.excIn at q;split at q
 ·rename_i dd cd sl ho
  split at q
  ·rename_i C' bm k0 k1 k2 k3 n k5 hm hs
   simp only[Bool.and_eq_true,beq_iff_eq,Bool.not_eq_true']at q;obtain⟨⟨⟨⟨⟨rfl,rfl⟩,hdel⟩,ht⟩,hok⟩,hni⟩:=q;obtain⟨nm,bs,mro,ns,qn,hd,sn,sub,ab,col,del⟩:=cd;dsimp only at hm hdel hok hni;subst hm hdel
   have hsl:sl = #[k0,k1,k2,k3,some (.builtin "ValueError.__new__"),k5]:=by
    obtain⟨l⟩:=sl;simp only at hs;rw[hs]
   subst hsl;exact⟨bm,ns,nm,qn,bs,hd,sn,sub,ab,col,dd,k0,k1,k2,k3,k5,_,X _ _ ho,.of_isNs (PySem.W.isNs_of_in X hok),PySem.W.nsMap_none_of_in X hok hni,PySem.W.tail_of_in X ht⟩
  ·cases q
 ·cases q
theorem aQ.has {P:Program}{w:World}{H:Hp}{h:Heap}{a:Addr}{o:HO}(x:aQ P w H h a o):∃ u,h.get? a=some u:=by
 cases o with
 | lst xs=>obtain⟨_,_,_,_,e⟩:=x;exact⟨_,e⟩
 | tup xs=>obtain⟨_,_,_,u,e,_⟩:=x;exact⟨u,e⟩
 | dK kvs=>obtain⟨_,_,_,_,o,_,_,e,_⟩:=x;exact⟨o,e⟩
 | dT kvs=>obtain⟨_,_,_,_,o,_,_,e,_⟩:=x;exact⟨o,e⟩
 | set S n=>obtain⟨o,_,_,_,e,_⟩:=x;exact⟨o,e⟩
 | ins C dx fs=>obtain⟨_,_,_,e,_⟩:=x;exact⟨_,e⟩
 | own y=>exact x
 | xd fs=>obtain⟨_,⟨o,_,_,e,_⟩,_⟩:=x;exact⟨o,e⟩
 | rng lo hi=>obtain⟨_,_,_,e⟩:=x;exact⟨_,e⟩
 | frz ob u=>obtain⟨e,_⟩:=x;exact⟨ob,e⟩
 | tbl ps=>exact⟨_,(show h.get? a=some _ from x)⟩
 | met f y=>exact⟨_,(show h.get? a=some _ from x)⟩
 | ext φ=>obtain⟨_,e,_⟩:=x;exact e
def lh (P:Program)(w:World):js:=fun outer H s E e s'=>∃ (ea C:Addr)(od:Option Addr)(H':Hp)(B:Heap),e=.ref ea/\iL B outer ea (.ref C) od s'.heap/\Un (fu outer) [] H H' s.heap s'.heap/\d4 P w H' s'.heap/\s'.os=s.os/\AllBare s'.gens /\
 (∀ b o,s.heap.get? b=some o->b∉fu outer->∃ o',B.get? b=some o')/\(∀ b o,H' b=some o->∃ o',B.get? b=some o')/\E (.ref C) od H'
theorem oj {fs:List Addr}{H H':Hp}{h h1 h2 B:Heap}(u:Un fs [] H H' h h1)(b1:B.StaysIn h1)(b2:B.StaysIn h2)(hb:∀ b o,h.get? b=some o->b∉fs->∃ o',B.get? b=some o')(sl:∀ b o,b∈fs->h.get? b=some o->H b=none->∃ sl,h2.get? b=some { o with slots:=sl })(th:∀ b o,b∈fs->h.get? b=some o->∃ o',h2.get? b=some o'):Un fs [] H H' h h2:=by
 have eq:∀ b o,h.get? b=some o->b∉fs->h2.get? b=h1.get? b:=fun b o e hf=>by
  obtain⟨o',e'⟩:=hb b o e hf;rw[b1 b o' e',b2 b o' e']
 refine⟨fun b o e n hf hx=>(eq b o e hf).trans (u.keep b o e n hf hx),fun b o e n hf hx=>sl b o hf e n,u.free,fun b o e hx=>?_,u.tups,u.frzs,u.tbls⟩
 by_cases hf:b∈fs
 ·exact th b o hf e
 ·rw[eq b o e hf];exact u.there b o e hx
theorem mw {P:Program}{w:World}{H:Hp}{h1 h2 B:Heap}(x:d4 P w H h1)(b1:B.StaysIn h1)(b2:B.StaysIn h2)(hb:∀ b o,H b=some o->∃ o',B.get? b=some o'):d4 P w H h2:=fun a o e =>
 (x a o e).stay (fun b u hc q=>by
  have:∃ o',B.get? b=some o':=by
   rcases hc with z | z
   ·rw[z];exact hb a o e
   ·exact hb b _ z
  obtain⟨o',e'⟩:=this;rw[b1 b o' e']at q;rw[<-q]
  exact b2 b o' e') (fun _ q=>q) fun _ _ q=>q
def lP (X:Cx)(E:XK):Prop:=∀ (pins:List (Addr×Obj))(σ:St)(H:Hp)(s:Shared)(ea C t:Addr)(od:Option Addr),aj X pins σ H s->s.heap.get? ea=some (oU C t od)->H ea=none->X.s₀.heap.get? ea=none->E (.ref C) od H->X.xe (.ref ea) s
section
variable {P:Program}{w:World}{K:PySem.W.Frag}{mg:Str->Option Value}{base:Heap}{N:List Str}{qual:Str}{sc:Scope}{f:Addr}{cd:Value}{A:Around}{outer:List Env}{s0:Shared}{H0:Hp}{E:XK}
theorem kq:lP (gE (lh P w) P w K mg base N qual sc f cd A outer s0 H0 E) E:=by
 intro pins σ H s ea C t od I hx hn hs hE
 let X:Cx:=gE (lh P w) P w K mg base N qual sc f cd A outer s0 H0 E
 show wpAny _ _ (leaving _ _) _ _ _
 have hstk:(X.A.frames:Option (List Env))=some (X.env::outer):=I.ok.frames
 have frS:fu X.stack=X.env.locals::fu outer:=by unfold fu;rfl
 let B:Heap:=PySem.W.hideAll s.heap (ea::fu X.stack)
 have hkb:B.StaysIn s.heap:=fun b o q=>PySem.W.of_hideAll _ q;have inB:∀ b o,s.heap.get? b=some o->b≠ea->b∉fu X.stack->B.get? b=some o:=fun b o e ne hf=>PySem.W.hideAll_get _ e (fun z=>(qC.mp z).elim ne hf);have hl:s.heap.FunFrames B (X.env::outer):=PySem.W.funFrames_hide I.stack fun env he a hf=>qr _ (List.mem_filterMap.mpr ⟨env,he,hf⟩);refine gH (s:=s) hstk rfl hkb hl hx (PySem.W.hideAll_none _ qy) rfl rfl fun h2 fl ups=>?_;have ltl:∀ b o,s0.heap.get? b=some o->b≠X.env.locals:=fun b o e=>qk (qp (qd e) I.ok.above)
 have h0B:∀ b o,s0.heap.get? b=some o->b∉fu outer->∃ o',B.get? b=some o':=fun b o e hf=>by
  obtain⟨o',e'⟩:=I.base.there b o e (by intro z;exact absurd (show b∈([]:List Addr) from z) (by simp));refine⟨o',inB b o' e' (fun z=>?_) ?_⟩
  ·have hs':s0.heap.get? ea=none:=hs
   rw[z,hs']at e;cases e
  ·rw[frS]
   intro z;rcases qC.mp z with z | z
   ·exact ltl b o e z
   ·exact hf z
 have trB:∀ b o,H b=some o->∃ o',B.get? b=some o':=fun b o e=>by
  obtain⟨u,q⟩:=(I.hok b o e).has;exact⟨u,inB b u q (fun z=>by rw[z,hn]at e;cases e) fun z=>by rw[I.stkFree b z]at e;cases e⟩
 have noEx:∀ b,b∉X.ex:=fun b z=>absurd (show b∈([]:List Addr) from z) (by simp)
 have slot2:∀ b o,b∈fu outer->s0.heap.get? b=some o->H0 b=none->∃ sl,h2.get? b=some { o with slots:=sl }:=fun b o hf e n=>by
  obtain⟨sl,e1⟩:=I.base.slot b o e n hf (noEx b);obtain⟨_,o2,ho2,hnf⟩:=I.ok.funs.mem hf
  have e2:o2=o:=by
   have:s0.heap.get? b=some o2:=ho2;rw[e]at this;exact (qu this).symm
  subst e2;obtain⟨sl2,e3⟩:=ups b _ e1 hnf;exact⟨sl2,e3⟩
 refine⟨ea,C,od,H,B,rfl,fl,?_,mw I.hok hkb fl.1 trB,I.os,I.bare,h0B,trB,hE⟩;refine oj (h1:=s.heap) I.base hkb fl.1 h0B (fun b o hf e n=>?_) fun b o hf e=>?_
 ·exact slot2 b o hf e n
 ·obtain⟨sl,q⟩:=slot2 b o hf e (I.ok.frf b hf)
  exact⟨_,q⟩
end
theorem aj.fresh0 {X:Cx}{pins:List (Addr×Obj)}{σ:St}{H:Hp}{s:Shared}{a:Addr}(I:aj X pins σ H s)(hx:a∉X.ex)(h:s.heap.get? a=none):X.s₀.heap.get? a=none:=by
 cases e:X.s₀.heap.get? a with
 | none=>rfl
 | some o =>
  obtain⟨o',q⟩:=I.base.there a o e hx;rw[h]at q;cases q
theorem aj.unheld {X:Cx}{pins:List (Addr×Obj)}{σ:St}{H:Hp}{s:Shared}{a:Addr}(I:aj X pins σ H s)(h:s.heap.get? a=none):H a=none:=by
 cases e:H a with
 | none=>rfl
 | some o =>
  obtain⟨u,q⟩:=(I.hok a o e).has;rw[h]at q;cases q
def mW (te:TE)(C:Addr)(E:XK):TS:=fun _ σ H=>te σ H fun _ H1=>E (.ref C) none H1
theorem kO {X:Cx}{C:Addr}{E:XK}{x:Str}{e:Expr}{te:TE}{np cpos pos:Pos}(q:gD X.K C)(hfl:lP X E)(hex:X.ex=[])(hh:X.A.handled=none)(hg:Gl X x)(hm:X.mg x=some (.ref C))(he:PE X e te)
  (hdb:(x == ("__debug__" : Str))=false:=by decide) (hs:starEach [e] X.env=[(false,eval e X.env)]:=by rfl) :
  PS X (.Raise (some (.Call (.Name x np) [e] [] cpos)) none pos) (mW te C E):=by
 intro pins s σ H D I h;obtain⟨bm,N,nm,qn,bs,hdct,sn,sub,ab,col,dd,k0,k1,k2,k3,k5,mN,hC,hN,hni,T⟩:=lx I.ok.mod.kin q
 refine wpAny_Raise_call_subT (C:=C) (nm:=nm) (q:=qn) (N:=N) (bs:=bs) (bm:=bm) (hdct:=hdct) (sn:=sn) (sub:=sub) (ab:=ab) (col:=col) (dd:=dd) (k0:=k0) (k1:=k1) (k2:=k2) (k3:=k3) (k5:=k5)
  PySem.F.excBase_ValueError (mN:=mN) (T.hasType PySem.F.excBase_ValueError.hasBase) hh (by rw[hs];rfl) hni (fz I hg hm ⟨rfl,?_⟩ hdb)
 rw[hs];refine Calls.evalArgs_plain (Calls.spliced_cons (aU (he pins s σ H _ I h) fun u s1 ⟨v,H1,I1,rv,q1⟩=>Calls.spliced_nil ?_));refine⟨rfl,(show 1<=sizeLine by decide),I1.bk _ _ hC,hN.keeps I1.bk,T.keeps I1.bk,fun h' ea hx=>?_⟩;obtain⟨t,hea,_,_⟩:=hx.there;exact hfl pins σ H1 { s1 with heap:=h' } ea C t none (I1.kept (t':=s1.toks) hx.keeps) hea (I1.unheld hx.new) (I1.fresh0 (by rw[hex];simp) hx.new) q1
def nk (X:Cx)(pins:List (Addr×Obj))(σ:St)(H:Hp)(ea C:Addr)(od:Option Addr)(B:Heap)(s':Shared):Prop:=H ea=none/\∀ h2,iL B X.stack ea (.ref C) od h2->s'.heap.UpToSlots h2->aj X pins σ H { s' with heap:=h2 }
def py (X:Cx)(hdl:List ExceptHandler)(th:Value->Option Addr->TS):Prop:=∀ (pins:List (Addr×Obj))(σ:St)(H:Hp)(D:eI)(ea C:Addr)(od:Option Addr)(B:Heap)(s':Shared)(h:Heap),nk X pins σ H ea C od B s'->iL B X.stack ea (.ref C) od h->s'.heap.UpToSlots h->th (.ref C) od D σ H ->
 wpAny (model X.prog X.w) X.A (handleBy (.ref ea) X.env hdl) (SP X pins D) X.xe { s' with heap:=h }
theorem cU.okX {P:Program}{w:World}{K:PySem.W.Frag}{mg:Str->Option Value}{base:Heap}{x qual:Str}{st:Stmt}{f:Addr}{fd:FuncData}{N ps:List Str}{k:Nat}{sp:Sp}(F:cU K x qual st f fd)(S:au N ps (ah st))(len:∀ vs H Q E,sp vs H Q E->vs.length=ps.length)
  (hbody:∀ (cdv:Value)(A:Around)(outer:List Env)(s:Shared)(H:Hp)(vs:List V)(Q:VK)(E:XK),aY k (A.deeper (envOfC qual (ah st) s.heap.objs.size f cdv))->sp vs H Q E ->
   ∃ t,iN (gE (lh P w) P w K mg base N qual (ah st) f cdv A outer s H E) (bD st) t/\t { nx:=fun _ H'=>Q .non H',rt:=Q } (eE N vs) H):aO P w K mg base (lh P w) (k+1) f fd ps sp:=by
 obtain⟨oc,od,kV,doc,pm,an,cdv,ct,osl,rfl,lk,hcd⟩:=F.ex;exact lT lk hcd S len fun A outer s H vs Q E hr hsp=>hbody cdv A outer s H vs Q E hr hsp
end L2
namespace Wz
open PySem L2
def bd (P:Program)(w:World)(K:PySem.W.Frag)(mg:Str->Option Value)(base:Heap)(CX:js)(C:Addr)(m:Str)(k:Nat)(ps:List Str)(sp:Sp):Prop :=
 ∃ (f:Addr)(fd:FuncData),aO P w K mg base CX k f fd ps sp/\lj K C m f/\cz K fd ps []
def d5 (P:Program)(w:World)(K:PySem.W.Frag)(mg:Str->Option Value)(base:Heap)(x:Str)(k:Nat)(ps:List Str)(sp:Sp):Prop :=
 ∃ (f:Addr)(fd:FuncData),aO P w K mg base (lh P w) k f fd ps sp/\mg x=some (.ref f)/\PySem.W.keepIn K (.ref f)=true/\cz K fd ps []
section
variable {X:Cx}{CX:js}{k:Nat}{C:Addr}{ps:List Str}{sp:Sp}{E:XK}{m x:Str}{p pos apos:Pos}{e o:Expr}{es:List Expr}{ta:TE}{t:TA}
theorem jI {pl:Sem Bool}(M:bd X.prog X.w X.K X.mg X.base CX C m k ps sp)(he:PE X o ta)(c:jP X.K C)(hr:aY k X.A)(hx:ca CX X E)(ha:PA X (e::es) t)
  (hst:starEach (e::es) X.env=(false,eval e X.env)::starEach es X.env:=by rfl) (hpl:(backTo pos (starEach es X.env)).any (·.1)=false:=by rfl)
  (ht:eval (.Call (.Attribute o m apos) (e::es) [] pos) X.env=(do
   let ov <-eval o X.env
   standAt apos.atName
   let (f,first) <-holding [ov] (getMethod ov m pl)
   callWith pos f first (backTo pos (starEach (e::es) X.env)) (backToKw pos (keywordEach [] X.env))):=by rfl) :
  PE X (.Call (.Attribute o m apos) (e::es) [] pos) (jL C m sp [] E ta t):=by
 obtain⟨f,fd,G,hm,hb⟩:=M;exact lG he c hm G hr hb .nil hx ha hst hpl ht
theorem mM {pl:Sem Bool}(M:bd X.prog X.w X.K X.mg X.base CX C m k ps sp)(he:PE X o ta)(c:jP X.K C)(hr:aY k X.A)(hx:ca CX X E)
  (ht:eval (.Call (.Attribute o m apos) [] [] pos) X.env=(do
   let ov <-eval o X.env
   standAt apos.atName
   let (f,first) <-holding [ov] (getMethod ov m pl)
   callWith pos f first (backTo pos (starEach [] X.env)) (backToKw pos (keywordEach [] X.env))):=by rfl) :
  PE X (.Call (.Attribute o m apos) [] [] pos) (jL C m sp [] E ta iG):=by
 obtain⟨f,fd,G,hm,hb⟩:=M;exact kK he c hm G hr hb .nil hx ht
theorem kR (M:d5 X.prog X.w X.K X.mg X.base x k ps sp)(hr:aY k X.A)(hg:Gl X x)(hx:ca (lh X.prog X.w) X E)(ha:PA X (e::es) t)
  (hdb:(x == ("__debug__" : Str))=false:=by decide) (he:starEach (e::es) X.env=(false,eval e X.env)::starEach es X.env:=by rfl) (hpl:(backTo pos (starEach es X.env)).any (·.1)=false:=by rfl) :
  PE X (.Call (.Name x p) (e::es) [] pos) (kX sp [] E t):=by
 obtain⟨f,fd,G,hm,hk,hb⟩:=M;exact jH G hr hg hm hk hb .nil hx ha hdb he hpl
end
theorem oW {A:Around}{k n:Nat}(hr:aY k A)(h:n<=200):A.units+n<cLine:=by have:=hr.un;omega
end Wz
namespace L2
open PySem PySem.Spec PyProof.Rows
theorem lX {X:Cx}{P:Program}{w:World}:ca (lh P w) X (fun _ _ _=>False):=by
 intro pins σ H s e s' I hc;obtain⟨ea,C,od,H',B,rfl,fl,un,hok,os,bare,hsB,trB,hE⟩:=hc;exact hE.elim
def Cx.tried (X:Cx)(pins:List (Addr×Obj))(E:Value->Shared->Prop):Cx:={ X with xe:=E,pn:=X.pn++pins }
theorem aj.tried {X:Cx}{pins:List (Addr×Obj)}{σ:St}{H:Hp}{s:Shared}{E:Value->Shared->Prop}(I:aj X pins σ H s):aj (X.tried pins E) [] σ H s :=
 ⟨⟨I.ok.mod,I.ok.kind,I.ok.glob,I.ok.blt,I.ok.above,I.ok.inj,I.ok.has,I.ok.cab,I.ok.hd,I.ok.frames,I.ok.stk,I.ok.exf,I.ok.bs,I.ok.bsz,I.ok.noex,I.ok.exfs,I.ok.funs,I.ok.frf⟩,I.os,I.bare,I.base,I.loc,I.cell,I.free,I.freeC,fun p hp=>I.pin p (by
  have hp:p∈(X.pn++pins)++[]:=hp
  rwa [List.append_nil]at hp),I.hok,I.len⟩
theorem aj.untried {X:Cx}{pins qins:List (Addr×Obj)}{σ:St}{H:Hp}{s:Shared}{E:Value->Shared->Prop}(I:aj (X.tried pins E) qins σ H s):aj X pins σ H s :=
 ⟨⟨I.ok.mod,I.ok.kind,I.ok.glob,I.ok.blt,I.ok.above,I.ok.inj,I.ok.has,I.ok.cab,I.ok.hd,I.ok.frames,I.ok.stk,I.ok.exf,I.ok.bs,I.ok.bsz,I.ok.noex,I.ok.exfs,I.ok.funs,I.ok.frf⟩,I.os,I.bare,I.base,I.loc,I.cell,I.free,I.freeC,fun p hp=>I.pin p (by
  show p∈(X.pn++pins)++qins
  exact List.mem_append_left _ hp),I.hok,I.len⟩
def Xe (X:Cx)(pins:List (Addr×Obj))(E:XK)(e:Value)(s':Shared):Prop:=∃ (σ:St)(H:Hp)(ea C:Addr)(od:Option Addr)(B:Heap),e=.ref ea/\nk X pins σ H ea C od B s'/\iL B X.stack ea (.ref C) od s'.heap/\σ.length=X.N.length/\E (.ref C) od H
theorem lK {X:Cx}{b0:Stmt}{bs:List Stmt}{hd0:ExceptHandler}{hdl:List ExceptHandler}{tb:XK->TS}{th:Value->Option Addr->TS}{pos:Pos}
  (hst:X.stack=X.env::X.outer) (hfr:X.env.frame=some X.env.locals) (hb:∀ pins E,iN (X.tried pins (Xe X pins E)) (b0::bs) (tb E)) (hh:py X (hd0::hdl) th) :
  PS X (.Try (b0::bs) (hd0::hdl) [] [] pos) (fun D σ H=>tb (fun cls od H2=>∀ σ':St,σ'.length=X.N.length->th cls od D σ' H2) D σ H):=by
 intro pins s σ H D I h;refine wpAny_Try_except ?_;refine qx (hb pins _ [] s σ H D I.tried h) (fun f s1 hq=>?_) fun e s' hx=>?_
 ·cases f with
  | next=>obtain⟨σ',H',I1,q⟩:=hq;exact wpAny_execs_nil ⟨σ',H',I1.untried,q⟩
  | brk=>obtain⟨σ',H',I1,q⟩:=hq;exact⟨σ',H',I1.untried,q⟩
  | cont=>obtain⟨σ',H',I1,q⟩:=hq;exact⟨σ',H',I1.untried,q⟩
  | ret u=>obtain⟨v,σ',H',I1,r,q⟩:=hq;exact⟨v,σ',H',I1.untried,r,q⟩
 ·obtain⟨σ',H',ea,C,od,B,rfl,ld,fl,hl,hE⟩:=hx
  have fl':=fl;rw[hst]at fl';refine j4 (by rw[I.ok.frames,hst]) hfr fl' fun h4 held ups4=>?_;refine mD held fun h5 fl5 ups5=>?_;rw[<-hst]at fl5;exact hh pins σ' H' D ea C od B s' h5 ld fl5 (ups4.trans ups5) (hE σ' hl)
theorem aj.turned2 {X:Cx}{pins:List (Addr×Obj)}{σ:St}{H:Hp}{s:Shared}{h':Heap}{t':Nat}{e it:Addr}(I:aj X pins σ H s)(k:∀ b o,b≠e->b≠it->s.heap.get? b=some o->h'.get? b=some o)(fe:cT X pins H e)(fi:cT X pins H it):aj X pins σ H { s with heap:=h',toks:=t' }:=by
 obtain⟨e0,e1,e2,e3,e4,e5⟩:=fe;obtain⟨i0,i1,i2,i3,i4,i5⟩:=fi;have nit:∀ b u,H b=some u->b≠e/\b≠it:=fun b u q=>⟨(fun z=>by rw[z,e0]at q;cases q),(fun z=>by rw[z,i0]at q;cases q)⟩
 have nn:∀ b,b∉[e,it]->b≠e/\b≠it:=fun b hb=>by simpa using hb
 refine I.step (g':=s.gens) (d':=s.drawn) (ch:=[e,it]) (fun b hb=>?_) (fun b o _ _ hc q _=>k b o (nn b hc).1 (nn b hc).2 q) (fun b o _ _ hc q _=>⟨o.slots,k b o (nn b hc).1 (nn b hc).2 q⟩) (fun _ _ _ _ n=>n)
  (fun b o hc q=>⟨o,k b o (nn b hc).1 (nn b hc).2 q⟩) (fun _ _ q=>q) (fun _ _ _ q=>q) (fun b ps q=>⟨#[],by rw[q];simp⟩) (fun m hm=>?_) (fun b u q=>?_) I.bare
 ·have hb:b=e\/b=it:=by simpa using hb
  rcases hb with rfl | rfl
  ·exact⟨e3,e1,e4,e5⟩
  ·exact⟨i3,i1,i4,i5⟩
 ·obtain⟨o,es,ep,ho,r⟩:=hm
  exact⟨o,es,ep,k _ o (qK e1) (qK i1) ho,r⟩
 ·refine (I.hok b u q).stay (fun c v hc z=>k c v ?_ ?_ z) (fun _ z=>z) fun _ _ z=>z
  ·rcases hc with z | z
   ·rw[z];exact (nit b u q).1
   ·exact (nit c _ z).1
  ·rcases hc with z | z
   ·rw[z];exact (nit b u q).2
   ·exact (nit c _ z).2
theorem jS {X:Cx}:dC X (.builtin "len") (fun xs H Q=>∃ p S n,xs=[.ref p]/\H p=some (.set S n)/\Q (.int n) H):=by
 intro pins s σ H xs us Q I r h;obtain⟨p,S,n,rfl,hp,q⟩:=h;obtain⟨u,rfl,rx⟩:=gf r;cases rx;obtain⟨o,es,ep,t,ho,hex,hd,_,_,hb,hf,hn⟩:=(show s.heap.SetOf (intKind X.prog X.w) p S n from I.hok p _ hp);subst hn;refine call_len_set ho hex hd hf ?_ ⟨.int es.size,H,I.tok _,⟨_,rfl⟩,q⟩;have:es.size<4096:=hb;omega
theorem gj (elt t0 i0:Expr)(c0:List Expr)(t1 i1:Expr)(c1:List Expr)(scope:Scope)(pos:Pos)(it acc:Value)(env:Env) :
  compTurn (.ListComp elt [⟨t0,i0,c0,0⟩,⟨t1,i1,c1,0⟩] scope pos) 0 it acc env=(do
   standAt i0.pos
   match <-pyNext it with
   | none=>pure (.done .next)
   | some v =>
    letOwnedTupleGo t0 it v
    assign t0 env v
    let mut ok:=true
    for c in c0 do
     if ok then ok <-isTrue c env (eval c env)
    if ok then
     let x <-eval i1 env
     standAt i1.pos
     let x <-foldedSetIterable i1 env x
     let it1 <-holding [x] (pyIter x)
     let _ <-runOwn (.compStart (.ListComp elt [⟨t0,i0,c0,0⟩,⟨t1,i1,c1,0⟩] scope pos) 1 it1 acc env) env
     again (.compLoop (.ListComp elt [⟨t0,i0,c0,0⟩,⟨t1,i1,c1,0⟩] scope pos) 0 it acc env)
    else
     again (.compLoop (.ListComp elt [⟨t0,i0,c0,0⟩,⟨t1,i1,c1,0⟩] scope pos) 0 it acc env)):=by rfl
theorem gk (elt t0 i0:Expr)(c0:List Expr)(t1 i1:Expr)(c1:List Expr)(scope:Scope)(pos:Pos)(it acc:Value)(env:Env) :
  compTurn (.ListComp elt [⟨t0,i0,c0,0⟩,⟨t1,i1,c1,0⟩] scope pos) 1 it acc env=(do
   standAt i1.pos
   match <-pyNext it with
   | none=>pure (.done .next)
   | some v =>
    letOwnedTupleGo t1 it v
    assign t1 env v
    let mut ok:=true
    for c in c1 do
     if ok then ok <-isTrue c env (eval c env)
    if ok then
     (do let _ <-call (.builtin "list.append") [acc,<-eval elt env])
    again (.compLoop (.ListComp elt [⟨t0,i0,c0,0⟩,⟨t1,i1,c1,0⟩] scope pos) 1 it acc env)):=by rfl
section
variable {prog:Program}{w:World}{A:Around}{R:Result->Shared->Prop}{s:Shared}{elt t0 i0 t1 i1:Expr}{c0 c1:List Expr}{scope:Scope}{pos:Pos}{it acc:Value}{env:Env}
theorem dv (I:Nat->Shared->Prop)
  (turn:∀ n s,I n s->wpAny (model prog w) A (pyNext it) (fun r s₁=>match r with
   | none=>R (.ok .next) s₁
   | some v=>wpAny (model prog w) A (letOwnedTupleGo t1 it v) (fun _ s₁'=>wpAny (model prog w) A (assign t1 env v) (fun _ s₂ =>
     wpAny (model prog w) A (forIn c1 true fun c r=>if r=true then do let ok <-isTrue c env (eval c env);pure (ForInStep.yield ok) else pure (ForInStep.yield r)) (fun ok s₃ =>
      if ok=true then wpAny (model prog w) A (eval elt env) (fun x s₄ =>
       wpAny (model prog w) A (call (.builtin "list.append") [acc,x]) (fun _ s₅=>∃ m,m<n/\I m s₅) (fun _ _=>False) s₄) (fun _ _=>False) s₃
      else ∃ m,m<n/\I m s₃) (fun _ _=>False) s₂) (fun _ _=>False) s₁') (fun _ _=>False) s₁) (fun _ _=>False) s)
  (n:Nat) (h:I n s) :
  codeAny (model prog w) A (.compLoop (.ListComp elt [⟨t0,i0,c0,0⟩,⟨t1,i1,c1,0⟩] scope pos) 1 it acc env) R s:=by
 refine codeAny_loop rfl I (fun n s hI=>?_) n h
 show wpAny _ A ((compTurn (.ListComp elt [⟨t0,i0,c0,0⟩,⟨t1,i1,c1,0⟩] scope pos) 1 it acc env).onRaise (fun x=>do noteFrame x env;theTreesLotGoes x)) _ _ s
 refine wpAny_noted ?_;rw[gk];refine qc (wpAny_standAt (qc (qx (turn n s hI) (fun r s₁ h₁=>?_) fun _ _ h'=>h'.elim)))
 cases r with
 | none=>exact qe h₁
 | some v =>
  refine qc (qx h₁ (fun _ s₁' h₁'=>?_) fun _ _ h'=>h'.elim);refine qc (qx h₁' (fun _ s₂ h₂=>qc (qx h₂ (fun ok s₃ h₃=>?_) fun _ _ h'=>h'.elim)) fun _ _ h'=>h'.elim)
  cases ok with
  | false=>exact qe ⟨rfl,h₃⟩
  | true =>
   exact qc (qc (qx h₃ (fun x s₄ h₄=>qc (qx h₄ (fun _ s₅ h₅=>qe (qe ⟨rfl,h₅⟩)) fun _ _ h'=>h'.elim)) fun _ _ h'=>h'.elim))
theorem cY (hs:∀ x,foldedSetIterable i1 env x=pure x)(I:Nat->Shared->Prop)
  (turn:∀ n s,I n s->wpAny (model prog w) A (pyNext it) (fun r s₁=>match r with
   | none=>R (.ok .next) s₁
   | some v=>wpAny (model prog w) A (letOwnedTupleGo t0 it v) (fun _ s₁'=>wpAny (model prog w) A (assign t0 env v) (fun _ s₂ =>
     wpAny (model prog w) A (forIn c0 true fun c r=>if r=true then do let ok <-isTrue c env (eval c env);pure (ForInStep.yield ok) else pure (ForInStep.yield r)) (fun ok s₃ =>
      if ok=true then wpAny (model prog w) A (eval i1 env) (fun x s₄ =>
       wpAny (model prog w) A (pyIter x) (fun it1 s₅=>codeAny (model prog w) A (.compStart (.ListComp elt [⟨t0,i0,c0,0⟩,⟨t1,i1,c1,0⟩] scope pos) 1 it1 acc env) (fun r s₆=>r=.ok .next/\∃ m,m<n/\I m s₆) s₅) (fun _ _=>False) s₄) (fun _ _=>False) s₃
      else ∃ m,m<n/\I m s₃) (fun _ _=>False) s₂) (fun _ _=>False) s₁') (fun _ _=>False) s₁) (fun _ _=>False) s)
  (n:Nat) (h:I n s) :
  codeAny (model prog w) A (.compLoop (.ListComp elt [⟨t0,i0,c0,0⟩,⟨t1,i1,c1,0⟩] scope pos) 0 it acc env) R s:=by
 refine codeAny_loop rfl I (fun n s hI=>?_) n h
 show wpAny _ A ((compTurn (.ListComp elt [⟨t0,i0,c0,0⟩,⟨t1,i1,c1,0⟩] scope pos) 0 it acc env).onRaise (fun x=>do noteFrame x env;theTreesLotGoes x)) _ _ s
 refine wpAny_noted ?_;rw[gj];refine qc (wpAny_standAt (qc (qx (turn n s hI) (fun r s₁ h₁=>?_) fun _ _ h'=>h'.elim)))
 cases r with
 | none=>exact qe h₁
 | some v =>
  refine qc (qx h₁ (fun _ s₁' h₁'=>?_) fun _ _ h'=>h'.elim);refine qc (qx h₁' (fun _ s₂ h₂=>qc (qx h₂ (fun ok s₃ h₃=>?_) fun _ _ h'=>h'.elim)) fun _ _ h'=>h'.elim)
  cases ok with
  | false=>exact qe ⟨rfl,h₃⟩
  | true =>
   refine qc (qx h₃ (fun x s₄ h₄=>?_) fun _ _ h'=>h'.elim);refine qc (wpAny_standAt (qc (wpAny_of_eq (hs x) ?_)));refine qc (rg (qx h₄ (fun it1 s₅ h₅=>?_) fun _ _ h'=>h'.elim));refine qc (wpAny_runOwn (codeAny_mono h₅ fun r s₆ h₆=>?_));obtain⟨rfl,h₆⟩:=h₆;exact qe ⟨rfl,h₆⟩
theorem cZ
  (h0:codeAny (model prog w) A (.compLoop (.ListComp elt [⟨t0,i0,c0,0⟩,⟨t1,i1,c1,0⟩] scope pos) 1 it acc env) R s)
  (h:wpAny (model prog w) A (pyIter it) (fun it' s'=>codeAny (model prog w) A (.compLoop (.ListComp elt [⟨t0,i0,c0,0⟩,⟨t1,i1,c1,0⟩] scope pos) 1 it' acc env) R s')
   (notedBy (model prog w) A env fun x s'=>R (.error x) s') s) :
  codeAny (model prog w) A (.compStart (.ListComp elt [⟨t0,i0,c0,0⟩,⟨t1,i1,c1,0⟩] scope pos) 1 it acc env) R s:=by
 refine codeAny_of_tree ?_
 show wpAny _ _ ((compStart (.ListComp elt [⟨t0,i0,c0,0⟩,⟨t1,i1,c1,0⟩] scope pos) 1 it acc env).onRaise (fun x=>do noteFrame x env;standAt theWindowsPlace)) _ _ s
 refine wpAny_notedAt ?_;unfold compStart
 show wpAny _ _ (ask >>= _) _ _ s
 refine qc (wpAny_askSetting (wpAny_ite ?_));split
 ·first
   | exact qc (qe (qe (And.intro rfl h0)))
   | exact qe (And.intro rfl h0)
 ·first
   | exact qc (wpAny_rule (qc (wpAny_standAt (qc (qx h (fun it' s' h'=>qe (And.intro rfl h')) fun _ _ x=>x)))))
   | (refine qc (wpAny_rule ?_);show wpAny _ _ (standAt i1.pos >>= _) _ _ s;exact qc (wpAny_standAt (qc (qx h (fun it' s' h'=>qe (And.intro rfl h')) fun _ _ x=>x))))
end
theorem iR {Y:Cx}{P:List (Addr×Obj)}{σ:St}{H:Hp}{s:Shared}{elt t0 i0 t1 i1:Expr}{c0 c1:List Expr}{sc:Scope}{pos:Pos}{it a:Addr}{fp:List Addr}{tn:Nat->Heap->Prop}{J:It}{g:TG}{tt:TT}{te:TE}{nx:St->Hp->Prop}{rt:VK}{bk ct:St->Hp->Prop}
  (hc:Y.calm=true) (hxe:Y.xe=fun _ _=>False) (I:aj Y P σ H s) (T:jQ Y.prog Y.w Y.K t1 J fp it tn) (st:tn 0 s.heap) (f:∀ b∈fp,cT Y P H b) (hL:h8 J g (nc tt te a) ⟨nx,rt,bk,ct⟩ σ H) (hg:PG Y t1 g) (ht:nq Y c1 tt) (he:PE Y elt te) :
  codeAny (model Y.prog Y.w) Y.A (.compLoop (.ListComp elt [⟨t0,i0,c0,0⟩,⟨t1,i1,c1,0⟩] sc pos) 1 (.ref it) (.ref a) Y.env) (fun r s'=>r=.ok .next/\∃ σ' H',aj Y P σ' H' s'/\nx σ' H') s:=by
 obtain⟨W,⟨m0,w0⟩,turn⟩:=hL;have stat:∀ {H':Hp},(∀ b∈fp,H' b=none)->∀ b∈fp,cT Y P H' b:=fun {H'} hn b hb=>⟨hn b hb,(f b hb).2⟩;refine dv (fun n s'=>∃ i σ' H',aj Y P σ' H' s'/\tn i s'.heap/\(∀ b∈fp,H' b=none)/\W i n σ' H') ?_ m0 ⟨0,_,_,I,st,fun b hb=>(f b hb).1,w0⟩;rintro n s6 ⟨i,σ6,H6,I6,st6,fr6,w6⟩;rcases turn i n σ6 H6 w6 with ⟨stop,qn⟩ | ⟨go,Nx,hN,step⟩
 ·refine aU (T.done Y rfl rfl rfl hc i P s6 σ6 H6 _ I6 (stat fr6) st6 stop) fun r s7 ⟨hr,I7⟩=>?_
  subst hr;exact⟨rfl,σ6,H6,I7,qn⟩
 ·refine aU (T.item Y rfl rfl rfl hc i P s6 σ6 H6 _ I6 (stat fr6) st6 go) fun r s7 ⟨u,hr,h7⟩=>?_
  subst hr;refine aU h7 fun _ s8 ⟨x,H8,I8,r8,y8,st8,fr8⟩=>?_;have I8':=I8.pinned (stat fr8) (T.obj _ _ st8);have hgx:=hg _ s8 σ6 H8 x u _ I8' r8 (step x H8 y8);rw[hxe]at hgx;refine aU hgx fun _ s9 ⟨σ9,H9,I9,q9⟩=>?_
  have again:∀ {s':Shared}{σ7:St}{H7:Hp},aj Y (P++dS fp s8.heap) σ7 H7 s'->Nx σ7 H7->∃ m,m<n/\∃ i σ' H',aj Y P σ' H' s'/\tn i s'.heap/\(∀ b∈fp,H' b=none)/\W i m σ' H':=fun {s' σ7 H7} I7 n7=>by
   obtain⟨m',hm,w7⟩:=hN σ7 H7 n7;refine⟨m',hm,i+1,σ7,H7,I7.unpinned,T.keep _ _ _ st8 fun b hb o e=>(I7.pin (b,o) (qo _ (qo _ (aZ hb e)))).1,fun b hb=>?_,w7⟩;obtain⟨o,e,d⟩:=T.obj _ _ st8 b hb;exact (I7.pin (b,o) (qo _ (qo _ (aZ hb e)))).2.1
  have htx:=ht _ s9 σ9 H9 _ I9 q9;rw[hxe]at htx;refine aU htx fun ok s10 ⟨H10,I10,q10⟩=>?_
  cases ok with
  | false =>
   rw[qi qh]at q10 ⊢;exact again I10 q10
  | true =>
   rw[ql rfl]at q10 ⊢;have hex:=he _ s10 σ9 H10 _ I10 q10;rw[hxe]at hex;refine aU hex fun y s11 ⟨yv,H11,I11,ry,ys,hys,hlen,q11⟩=>?_;exact aU (e7 (X:=Y) I11 hys hlen ry) fun _ s12 I12=>again I12 q11
def mX (tt0:TT)(wi1:TI)(g1:TG)(tt1:TT)(te:TE)(a:Addr):TS:=fun D σ H=>tt0 σ H fun b H1=>if b=true then wi1 σ H1 fun J1 H2=>h8 J1 g1 (nc tt1 te a) { nx:=D.nx,rt:=fun _ _=>False } σ H2 else D.nx σ H1
def mU (wi:TI)(g0:TG)(tt0:TT)(wi1:TI)(g1:TG)(tt1:TT)(te:TE)(src:List (Option Nat)):TE:=fun σ H Q=>wi σ H fun J H1=>∀ a,H1 a=none ->
 h8 J g0 (mX tt0 wi1 g1 tt1 te a) { nx:=fun _ H'=>Q (.ref a) H',rt:=fun _ _=>False } (dJ src σ) (aA H1 a (.lst []))
theorem kH {X:Cx}{elt tg iter t1 i1:Expr}{ifs c1:List Expr}{sc so:Scope}{pos:Pos}{N':List Str}{src:List (Option Nat)}{wi wi1:TI}{g g1:TG}{tt tt1:TT}{te:TE}{N:List Str}(hso:X.env.scope=so)(hXN:X.N=N)(S:jt so sc N N' src)(hc:X.calm=true)(hi:PI X tg iter wi)
  (hb:∀ (cl:List (Str×Addr))(C:Addr)(s:Shared)(H:Hp)(ex:List Addr),PG (bO X sc cl C N' s H ex) tg g/\nq (bO X sc cl C N' s H ex) ifs tt/\PI (bO X sc cl C N' s H ex) t1 i1 wi1/\PG (bO X sc cl C N' s H ex) t1 g1/\nq (bO X sc cl C N' s H ex) c1 tt1/\PE (bO X sc cl C N' s H ex) elt te)
  (hs:∀ x,foldedSetIterable iter X.env x=pure x:=by intro _;rfl) (hs1:∀ env x,foldedSetIterable i1 env x=pure x:=by intro _ _;rfl):PE X (.ListComp elt [⟨tg,iter,ifs,0⟩,⟨t1,i1,c1,0⟩] sc pos) (mU wi g tt wi1 g1 tt1 te src):=by
 subst hXN;intro pins s σ H Q I h
 obtain⟨cl,hcl,q1,q3⟩:=fP (sc:=sc) (env:=X.env) fun y hy hf=>by
  have:=S.fre y hy hf;rw[<-hso]at this;exact I.ok.has y.1 this
 rw[eval_ListComp];refine wpAny_comprehension_free (use:=none) rfl hs hcl S.kind S.loc (aU (hi pins s σ H _ I h) fun v s1 h1=>aU h1 fun itv s2 h2=>?_);obtain⟨it,fp,tn,J,H2,e,I2,T,st2,f2,hR⟩:=h2;subst e;refine qI ?_
 have I3:aj X pins σ (aA H2 s2.heap.objs.size (.lst [])) { s2 with heap:=s2.heap.push { cls:=.type "list",dict:=none,data:=.seq ([]:List Value).toArray } } :=
  I2.laid (t':=s2.toks) (fun b u q=>Heap.get?_push_of_some _ q) (qj _) ⟨qH _,[],0,.nil,Heap.get?_push_size _ rfl⟩
 have hfr:=I2.hok.fresh (qj s2.heap.objs.size);obtain⟨W,⟨m0,w0⟩,turn⟩:=hR _ hfr
 have flt:∀ b∈fp,b<s2.heap.objs.size:=fun b hb=>by obtain⟨o,e,_⟩:=T.obj _ _ st2 b hb;exact qd e
 generalize hs3:({ s2 with heap:=s2.heap.push { cls:=.type "list",dict:=none,data:=.seq ([]:List Value).toArray } }:Shared)=s3 at I3 ⊢
 have e3:s3.heap=s2.heap.push { cls:=.type "list",dict:=none,data:=.seq ([]:List Value).toArray }:=by rw[<-hs3]
 have sz3:s3.heap.objs.size=s2.heap.objs.size+1:=by rw[e3,qB]
 have hf3:∀ b∈fp,cT X pins (aA H2 s2.heap.objs.size (.lst [])) b:=fun b hb=>⟨by rw[ak (qk (flt b hb))];exact (f2 b hb).1,(f2 b hb).2⟩
 have flt3:∀ b∈fp,b<s3.heap.objs.size:=fun b hb=>by rw[sz3];exact Nat.lt_succ_of_lt (flt b hb)
 have st3:tn 0 s3.heap:=T.keep _ _ _ st2 fun b _ o e=>by rw[e3];exact Heap.get?_push_of_some _ e
 refine wpAny_newFunctionEnv S.nocell (by intro y hy;simp at hy) (fun h4 hns4 hsb4=>?_) S.kind;have kp4:∀ b o,s3.heap.get? b=some o->h4.get? b=some o:=fun b o e=>hsb4.extBut b o (qk (qd e)) (Heap.get?_push_of_some _ e);have I4:=ii (h':=h4) I3 hso S q1 q3 hf3 flt3 (by simpa using hns4) kp4 (s3.toks+([]:List (Str×Value)).length);have st4:tn 0 h4:=T.keep _ _ _ st3 fun b _ o e=>kp4 b o e;generalize hC:s3.heap.objs.size=C at I4 hns4 hsb4 ⊢;obtain⟨hg,ht,hi1,hg1,ht1,he⟩:=hb cl C s3 (aA H2 s2.heap.objs.size (.lst [])) fp
 let Y:Cx:=bO X sc cl C N' s3 (aA H2 s2.heap.objs.size (.lst [])) fp
 have loop:∀ s5:Shared,s5={ s3 with heap:=h4,toks:=s3.toks+([]:List (Str×Value)).length }->codeAny (model X.prog X.w) X.A (.compLoop (.ListComp elt [⟨tg,iter,ifs,0⟩,⟨t1,i1,c1,0⟩] sc pos) 0 (.ref it) (.ref s2.heap.objs.size) (compEnvC sc cl C X.env))
   (compPost (model X.prog X.w) X.A X.xe none (EP X pins σ Q) (.ref s2.heap.objs.size) C) s5:=by
  rintro s5 rfl
  have stat:∀ {H':Hp},(∀ b∈fp,H' b=none)->∀ b∈fp,cT Y [] H' b:=fun {H'} hn b hb=>by
   obtain⟨f0,f1,f2',f3,f4,f5⟩:=hf3 b hb;refine⟨hn b hb,?_,fun z=>?_,.inl hb,fun x c e=>f4 x c (q1 x c e),fun p hp=>absurd (show p∈([]:List (Addr×Obj)) from hp) (by simp)⟩
   ·show b≠C
    rw[<-hC];exact qk (flt3 b hb)
   ·have z:b∈fu X.stack:=z
    rcases qC.mp (I3.stkSub b z) with y | y
    ·exact f1 y
    ·exact f2' y
  refine cY (fun x=>hs1 _ x) (fun n s'=>∃ i σ' H',aj Y [] σ' H' s'/\tn i s'.heap/\(∀ b∈fp,H' b=none)/\W i n σ' H') ?_ m0 ⟨0,_,_,I4,st4,fun b hb=>(hf3 b hb).1,w0⟩;rintro n s6 ⟨i,σ6,H6,I6,st6,fr6,w6⟩;rcases turn i n σ6 H6 w6 with ⟨stop,qn⟩ | ⟨go,Nx,hN,step⟩
  ·refine aU (T.done Y rfl rfl rfl hc i [] s6 σ6 H6 _ I6 (stat fr6) st6 stop) fun r s7 ⟨hr,I7⟩=>?_
   subst hr;obtain⟨m,hn,_⟩:=id I7.loc;refine⟨m,hn,fun h' hsb=>?_⟩
   have neC:∀ b o,s3.heap.get? b=some o->b≠C:=fun b o e=>by rw[<-hC];exact qk (qd e)
   have freeC:H6 C=none:=I7.free
   have un:Un (fu X.stack) fp (aA H2 s2.heap.objs.size (.lst [])) H6 s3.heap h' :=
    ⟨fun b o e n hb hx=>(hsb.2 b (neC b o e)).trans (I7.base.keep b o e n hb hx),fun b o e n hb hx=>by
      obtain⟨sl,q⟩:=I7.base.slot b o e n hb hx
      exact⟨sl,(hsb.2 b (neC b o e)).trans q⟩,I7.base.free,fun b o e hx=>by
      obtain⟨o',q⟩:=I7.base.there b o e hx
      exact⟨o',(hsb.2 b (neC b o e)).trans q⟩,I7.base.tups,I7.base.frzs,I7.base.tbls⟩
   have hok:d4 X.prog X.w H6 h':=fun b ob e=>by
    refine (I7.hok b ob e).stay (fun c w' hc' q=>(hsb.2 c ?_).trans q) (fun _ q=>q) fun _ _ q=>q;rintro rfl;rcases hc' with z | z
    ·rw[<-z,freeC]at e;cases e
    ·rw[freeC]at z;cases z
   have J7:aj X pins σ H6 { s7 with heap:=h' }:=I3.call' (ch:=fp) (s':={ s7 with heap:=h' }) I7.os un hok I7.bare fun b hb=>⟨(hf3 b hb).2.2.2.1,(hf3 b hb).2.1,(hf3 b hb).2.2.2.2.1,(hf3 b hb).2.2.2.2.2⟩;exact⟨.ref s2.heap.objs.size,H6,J7,rfl,qn⟩
  ·refine aU (T.item Y rfl rfl rfl hc i [] s6 σ6 H6 _ I6 (stat fr6) st6 go) fun r s7 ⟨u,hr,h7⟩=>?_
   subst hr;refine aU h7 fun _ s8 ⟨x,H8,I8,r8,y8,st8,fr8⟩=>?_;have I8':=I8.pinned (stat fr8) (T.obj _ _ st8);refine aU (hg _ s8 σ6 H8 x u _ I8' r8 (step x H8 y8)) fun _ s9 ⟨σ9,H9,I9,q9⟩=>?_
   have again:∀ {s':Shared}{σ7:St}{H7:Hp},aj Y ([]++dS fp s8.heap) σ7 H7 s'->Nx σ7 H7->∃ m,m<n/\∃ i σ' H',aj Y [] σ' H' s'/\tn i s'.heap/\(∀ b∈fp,H' b=none)/\W i m σ' H':=fun {s' σ7 H7} I7 n7=>by
    obtain⟨m',hm,w7⟩:=hN σ7 H7 n7;refine⟨m',hm,i+1,σ7,H7,I7.unpinned,T.keep _ _ _ st8 fun b hb o e=>(I7.pin (b,o) (qo _ (qo _ (aZ hb e)))).1,fun b hb=>?_,w7⟩;obtain⟨o,e,d⟩:=T.obj _ _ st8 b hb;exact (I7.pin (b,o) (qo _ (qo _ (aZ hb e)))).2.1
   refine aU (ht _ s9 σ9 H9 _ I9 q9) fun ok s10 ⟨H10,I10,q10⟩=>?_
   cases ok with
   | false =>
    rw[qi qh]at q10 ⊢;exact again I10 q10
   | true =>
    rw[ql rfl]at q10 ⊢;refine aU (hi1 _ s10 σ9 H10 _ I10 q10) fun x1 s11 h11=>aU h11 fun it1 s12 h12=>?_;obtain⟨ia,fp1,tn1,J1,H12,e1,I12,T1,st12,f12,hR1⟩:=h12;subst e1;have inner:=iR (Y:=Y) (t0:=tg) (i0:=iter) (c0:=ifs) (i1:=i1) (sc:=sc) (pos:=pos) hc rfl I12 T1 st12 f12 hR1 hg1 ht1 he;have inner':=codeAny_mono inner (R':=fun r s₆=>r=.ok .next/\∃ m,m<n/\∃ i σ' H',aj Y [] σ' H' s₆/\tn i s₆.heap/\(∀ b∈fp,H' b=none)/\W i m σ' H') fun r s6 ⟨er,σ7,H7,I7,n7⟩=>⟨er,again I7 n7⟩;exact cZ inner' (T1.self _ 0 _ _ _ st12 inner')
 exact codeAny_compStart_list (loop _ rfl) (T.self _ 0 _ _ _ st4 (loop _ rfl))
end L2
namespace Qs
open PySem PySem.W PyProof.Rows
structure p7 (n:Nat)(lt:Nat->Nat->Bool):Prop where
 irr:∀ i,lt i i=false
 tot:∀ i j,i<n->j<n->i≠j->lt i j=true\/lt j i=true
 tr:∀ i j k,lt i j=true->lt j k=true->lt i k=true
def ask {α:Type}(lt:Nat->Nat->Bool):KasT α->α
 | .ret a=>a
 | .ask i j k=>ask lt (k (lt i j))
def px {α:Type}(n:Nat)(lt:Nat->Nat->Bool):KasT α->Prop
 | .ret _=>True
 | .ask i j k=>i<n/\j<n/\px n lt (k (lt i j))
def qa {α:Type}(n:Nat)(lt:Nat->Nat->Bool)(t:KasT α)(R:α->Prop):Prop:=px n lt t/\R (ask lt t)
section
variable {n:Nat}{lt:Nat->Nat->Bool}{p:Array Nat}
def Pm (n:Nat)(p:Array Nat):Prop:=p.Perm (List.toArray (List.range n))
def Up (lt:Nat->Nat->Bool)(p:Array Nat)(k:Nat):Prop:=∀ i j,i<j->j<k->lt (p.getD i 0) (p.getD j 0)=true
def Dn (lt:Nat->Nat->Bool)(p:Array Nat)(k:Nat):Prop:=∀ i j,i<j->j<k->lt (p.getD j 0) (p.getD i 0)=true
end
def pJ (p q:Int×Int):Bool:=decide (p.1<q.1\/(p.1=q.1/\p.2<q.2))
def pU (ps:List (Int×Int))(i j:Nat):Bool:=pJ (ps.getD i (0,0)) (ps.getD j (0,0))
def mm (h:Heap)(v:Value)(p:Int×Int):Prop:=∃ (b:Addr)(o:Obj)(n:Nat)(t u:Tok),v=.ref b/\h.get? b=some o/\o.cls=.type "tuple"/\o.data=.seq #[.int p.1 t,.int p.2 u] n
section
variable {prog:Program}{w:World}{A:Around}{E:Value->Shared->Prop}{s:Shared}
def oM (vs:List Value)(ps:List (Int×Int))(out:List Value):Prop:=∃ ix:List Nat,ix.Perm (List.range vs.length)/\out=ix.map (fun i=>vs.getD i Value.none)/\(ix.map fun i=>ps.getD i (0,0)).Pairwise (fun a b=>pJ a b=true)
end
def pE (h:Heap)(d:Addr)(es:Array DictEntry)(ep:Nat):Prop:=∃ o,h.get? d=some o/\o.ExactDict/\o.data=.dict es ep
end Qs
namespace Wz
open PySem PySem.Spec PyProof.Rows L2
theorem iS {α:Type}(d:α)(l:List α):(List.range l.length).map (fun i=>l.getD i d)=l:=by
 apply List.ext_getElem?
 intro i;rw[List.getElem?_map]
 by_cases hi:i<l.length
 ·rw[List.getElem?_range hi];simp[hi]
 ·rw[List.getElem?_eq_none (by simp;omega),List.getElem?_eq_none (by omega)];rfl
end Wz
namespace L2
open PySem PySem.Spec PyProof.Rows
theorem k4 {wi1:TI}{g1:TG}{tt1:TT}{te:TE}{a:Addr}{D:eI}{σ:St}{H:Hp}(h:wi1 σ H fun J1 H2=>h8 J1 g1 (nc tt1 te a) { nx:=D.nx,rt:=fun _ _=>False } σ H2):mX kZ wi1 g1 tt1 te a D σ H:=by
 unfold mX kZ;dsimp only;rw[ql rfl];exact h
end L2
namespace Wz
open PySem L2
theorem lA {i j c:Int}(hi:0<=i/\i<100)(hj:0<=j/\j<100)(h:gF i c=gF j c):i=j:=by
 have ht0:0<=bt c*1234567891%2147483646:=rj _ (by decide);have ht1:bt c*1234567891%2147483646<2147483646:=qW _ (by decide);unfold gF at h;dsimp only at h;generalize bt c*1234567891%2147483646=t0 at *;generalize bt c/2147483646=q at *
 have h2:(i*(1+t0)+q)%2147483647=(j*(1+t0)+q)%2147483647:=by
  by_cases e:bt c%5=4
  ·rw[ql e,ql e]at h;omega
  ·rw[qi e,qi e]at h;exact h
 have h3:(2147483647:Int) ∣ (i-j)*(1+t0):=by
  have h5:=Int.dvd_of_emod_eq_zero (Int.emod_eq_emod_iff_emod_sub_eq_zero.mp h2)
  have e:i*(1+t0)+q-(j*(1+t0)+q)=(i-j)*(1+t0):=by rw[Int.sub_mul];omega
  rw[e]at h5;exact h5
 have key:∀ d:Nat,d<100->d≠0->Nat.gcd 2147483647 d=1:=by decide +kernel
 by_cases hij:i=j
 ·exact hij
 exfalso
 have h6:2147483647 ∣ (i-j).natAbs*(1+t0).natAbs:=by
  have:=Int.natAbs_dvd_natAbs.mpr h3;rw[Int.natAbs_mul]at this;exact this
 have h7:2147483647 ∣ (1+t0).natAbs:=Nat.Coprime.dvd_of_dvd_mul_left (key _ (by omega) (by omega)) h6;have:=Nat.le_of_dvd (by omega) h7;omega
end Wz
namespace L2
open PySem PySem.Spec PyProof.Rows
theorem lS (xs:List V):ic xs (some 1) none=xs.drop 1:=by
 unfold ic;rw[show HT.sIx xs.length 0 (some 1)=min 1 xs.length from HT.sIx_nat _ _ 1,HT.sIx_none]
 by_cases h:xs=[]
 ·subst h;rfl
 ·have:0<xs.length:=List.length_pos_iff.mpr h
  rw[show min 1 xs.length=1 by omega,List.take_of_length_le (by rw[qG];omega)]
open PySem PySem.Spec PyProof.Rows PySem.Calls
section
variable {X:Cx}{pins:List (Addr×Obj)}{σ:St}{H H':Hp}{s:Shared}
theorem aj.grown {h':Heap}{t':Nat}(I:aj X pins σ H s)(k:∀ b u,s.heap.get? b=some u->h'.get? b=some u)(old:∀ b u,s.heap.get? b=some u->H b=none->H' b=none)(sm:∀ b o,H b=some o->H' b=some o)
  (new:∀ b o,H' b=some o->H b=none->aQ X.prog X.w H' h' b o):aj X pins σ H' { s with heap:=h',toks:=t' }:=by
 refine I.un ⟨fun b u q _ _ _=>k b u q,fun b u q _ _ _=>⟨u.slots,k b u q⟩,fun b u q n _=>old b u q n,fun b u q _=>⟨u,k b u q⟩,fun b xs q=>sm _ _ q,fun b u xs q=>sm _ _ q,fun b ps q=>⟨#[],by rw[sm _ _ q];simp⟩⟩ fun b u e=>?_
 cases hb:H b with
 | none=>exact new b u e hb
 | some v =>
  have:=sm _ _ hb;rw[this]at e;cases e;exact (I.hok b _ hb).stay (fun c v _ q=>k c v q) (fun c q=>sm _ _ q) fun c xs q=>sm _ _ q
end
theorem lN:typeLookup (.type "zip") "__len__" = pure none:=by rw[typeLookup_type,builtinLookup_eq_fast];kernel_rfl
theorem k9:typeLookup (.type "zip") "__length_hint__" = pure none:=by rw[typeLookup_type,builtinLookup_eq_fast];kernel_rfl
abbrev li (h:Heap)(z TI TO:Addr)(f0:Value)(b:Bool):Prop :=
 h.get? z=some { cls:=.type "zip",dict:=none,data:=.fields #[f0,.bool b,.bool false,.ref TI,.ref TO],slots:=#[] }
section
variable {prog:Program}{w:World}{A:Around}{E:Value->Shared->Prop}{s:Shared}
theorem hZ {a:Addr}{Q:Option Obj->Shared->Prop}(h:Q (s.heap.get? a) s):wpAny (model prog w) A (loadIfAlive a) Q E s:=fun Γ p _=>by
 unfold loadIfAlive;rw[Sem.wp_loadIfAlive];exact qe (M:=model prog w) (A:=A) (E:=E) h Γ p (by assumption)
theorem iu {z TI TO T:Addr}{b:Bool}{o:Obj}{Q:Bool->Shared->Prop}(hz:li s.heap z TI TO (rawInt T) b)(hT:s.heap.get? T=some o)
  (hQ:∀ h',li h' z TI TO (rawInt T) true->Heap.SameBut z s.heap h'->Q false { s with heap:=h' }):wpAny (model prog w) A (Builtin.SmallTypes.ownedTupleIsFree (.ref z)) Q E s:=by
 unfold Builtin.SmallTypes.ownedTupleIsFree;refine qc (qw hz rfl (x:=rawInt T) rfl ?_)
 show wpAny _ _ (loadIfAlive T >>= _) _ _ _
 refine qc (hZ ?_);rw[hT]
 show wpAny _ _ (field (.ref z) 1 >>= _) _ _ _
 refine qc (qw hz rfl (x:=.bool b) rfl ?_)
 cases b with
 | true=>exact qc (qe (qe (hQ _ hz (by exact⟨rfl,fun _ _=>rfl⟩))))
 | false=>exact qc (wpAny_setField_rec hz (by simp) fun h1 hz1 hs1=>qe (hQ _ hz1 hs1))
end
def dM (H:Hp):List Addr->List (V×V)->Hp
 | [],_=>H
 | _,[]=>H
 | t::ts,p::ps=>aA (dM H ts ps) t (.tup [p.1,p.2])
theorem fT {H:Hp}:∀ {ts:List Addr}{ps:List (V×V)}{b:Addr},b∉ts->dM H ts ps b=H b
 | [],_,_,_=>rfl
 | _::_,[],_,_=>rfl
 | t::ts,p::ps,b,h=>by
  show aA (dM H ts ps) t _ b=_
  rw[ak (fun e=>h (by rw[e];exact qy))];exact fT fun m=>h (qr _ m)
theorem jE {H:Hp}:∀ {ts:List Addr}{ps:List (V×V)}{b:Addr}{o:HO},ts.Nodup->b∈ts->dM H ts ps b=some o->H b=none->∃ j:Nat,∃ p,ts[j]? = some b/\ps[j]? = some p/\o=.tup [p.1,p.2]
 | [],_,_,_,_,h,_,_=>nomatch h
 | _::_,[],_,_,_,_,e,n=>by rw[show dM H (_::_) []=H from rfl,n]at e;cases e
 | t::ts,p::ps,b,o,nd,h,e,n=>by
  by_cases hb:b=t
  ·subst hb
   rw[show dM H (b::ts) (p::ps)=aA (dM H ts ps) b (.tup [p.1,p.2]) from rfl,ac]at e;exact⟨0,p,rfl,rfl,(qu e).symm⟩
  ·rw[show dM H (t::ts) (p::ps)=aA (dM H ts ps) t (.tup [p.1,p.2]) from rfl,ak hb]at e
   obtain⟨j,q,e1,e2,e3⟩:=jE (qY.mp nd).2 ((qC.mp h).resolve_left hb) e n;exact⟨j+1,q,e1,e2,e3⟩
theorem fU {H:Hp}:∀ {ts:List Addr}{ps:List (V×V)},ts.Nodup->ts.length=ps.length->Paired (fun t (p:V×V)=>dM H ts ps t=some (.tup [p.1,p.2])) ts ps
 | [],[],_,_=>.nil
 | [],_::_,_,h=>by simp at h
 | _::_,[],_,h=>by simp at h
 | t::ts,p::ps,nd,h=>by
  refine .cons (show aA (dM H ts ps) t (.tup [p.1,p.2]) t=_ from ac) ?_;have hn:=qY.mp nd
  have key:∀ {us:List Addr}{qs:List (V×V)}{R S:Addr->V×V->Prop},(∀ u∈us,∀ q,R u q->S u q)->Paired R us qs->Paired S us qs:=fun {us qs R S} hRS pr=>by
   induction pr with
   | nil=>exact .nil
   | cons r _ ih=>exact .cons (hRS _ qy _ r) (ih fun u hu=>hRS u (qr _ hu))
  refine key (R:=fun t (p:V×V)=>dM H ts ps t=some (.tup [p.1,p.2])) (fun u hu q e=>?_) (fU (H:=H) hn.2 (by simpa using h))
  show aA (dM H ts ps) t _ u=_
  rw[ak (fun z=>hn.1 (by rw[<-z];exact hu))];exact e
end L2
namespace Wz
open PySem L2
theorem ki (xs:List V)(n:Nat):ic xs (some (n:Int)) none=xs.drop n:=by
 unfold ic;rw[HT.sIx_nat,HT.sIx_none]
 by_cases h:n<=xs.length
 ·rw[Nat.min_eq_left h,List.take_of_length_le (by rw[qG];exact qj _)]
 ·rw[Nat.min_eq_right (by omega),List.drop_length,List.drop_of_length_le (by omega)];simp
end Wz
namespace L2
open PySem PySem.Spec PyProof.Rows
theorem lH {X:Cx}{pos:Pos}(K:PySem.W.Frag){es:List Expr}{k:Nat}{t:lf}{n:Nat}(hc:X.calm=true)(h:nl X es t)(hK:X.K=K:=by rfl)
  (hn:(assignEach es X.env).length=n:=by rfl) (hst:(assignEach es X.env).findIdx? (·.1)=none:=by rfl):PG X (.Tuple es k pos) (ny K n t):=by
 subst hK;exact gR hc h hn hst
open PySem PySem.Spec PyProof.Rows PySem.Calls
theorem lI {X:Cx}{hdl:List ExceptHandler}:py X hdl (fun _ _ _ _ _=>False):=fun _ _ _ _ _ _ _ _ _ _ _ _ _ h=>h.elim
end L2
namespace Wz
open PySem L2
theorem f9 {HH:Hp}{q t:Addr}{ds:List Addr}{ps:List (Int×Int)}{a b:Int}(h1:HH q=some (.lst (ds.map V.ref)))(h2:Paired (fun b (e:Int×Int)=>HH b=some (.tup [.int e.1,.int e.2])) ds ps)(ht:HH t=none) :
  cc (aA (aA HH t (.tup [.int a,.int b])) q (.lst (ds.map V.ref++[V.ref t]))) q (ps++[(a,b)]):=by
 refine⟨ds++[t],by rw[ac,qJ];rfl,?_⟩;exact dF (Paired.mapP h2 fun b e y=>by rw[ak (nH y h1 (by intro u;cases u))];exact (af ht) _ _ y) (.cons (by rw[ak ((aH h1 ht).symm),ac]) .nil)
end Wz
namespace L2
open PySem
theorem aY.m {j k:Nat}{A:Around}(r:aY k A)(h:j<=k:=by decide):aY j A:=r.mono h
theorem eQ {X:Cx}{e:Expr}{t:TE}(h:PE X e t)(hs:starEach [e] X.env=(false,eval e X.env)::starEach [] X.env:=by rfl):PA X [e] (gc t iG):=ai h aI hs
theorem eG {X:Cx}{e e2:Expr}{t t2:TE}(h:PE X e t)(h2:PE X e2 t2)(hs:starEach [e,e2] X.env=(false,eval e X.env)::starEach [e2] X.env:=by rfl)(hs2:starEach [e2] X.env=(false,eval e2 X.env)::starEach [] X.env:=by rfl):PA X [e,e2] (gc t (gc t2 iG)):=ai h (ai h2 aI hs2) hs
theorem oA {X:Cx}{e e2 e3:Expr}{t t2 t3:TE}(h:PE X e t)(h2:PE X e2 t2)(h3:PE X e3 t3)(hs:starEach [e,e2,e3] X.env=(false,eval e X.env)::starEach [e2,e3] X.env:=by rfl)(hs2:starEach [e2,e3] X.env=(false,eval e2 X.env)::starEach [e3] X.env:=by rfl)(hs3:starEach [e3] X.env=(false,eval e3 X.env)::starEach [] X.env:=by rfl):PA X [e,e2,e3] (gc t (gc t2 (gc t3 iG))):=ai h (ai h2 (ai h3 aI hs3) hs2) hs
theorem bz {X:Cx}{pos:Pos}(i:Nat){x:Str}{e:Expr}{te:TE}{pos':Pos}(hN:X.N.Nodup)(he:PE X e te)(hi:X.N[i]? = some x:=by rfl)(hx:m6 X.env.scope x:=by first | exact Or.inl rfl | exact Or.inr rfl)(hs:swapsWith e (some (.Name x pos')) pos.line X.env=pure false:=by rfl)(hf:X.fn x=true\/X.env.scope.names.lookup x=some .local:=by first | exact .inl rfl | exact .inr rfl | assumption) :
  PS X (.Assign [.Name x pos'] e pos) (mT te (jC i)):=bP hN hi hx he hs hf
theorem jd {X:Cx}{pos:Pos}(i:Nat){x:Str}(hN:X.N.Nodup)(hi:X.N[i]? = some x:=by rfl)(hx:m6 X.env.scope x:=by first | exact Or.inl rfl | exact Or.inr rfl)(hf:X.fn x=true\/X.env.scope.names.lookup x=some .local:=by first | exact .inl rfl | exact .inr rfl | assumption):PG X (.Name x pos) (jC i):=fC hN hi hx hf
theorem nt {so sc:Scope}{N N':List Str}{src:List (Option Nat)}(a:sc.kind=.function:=by rfl)(b:∀ y∈sc.names,y.2≠.cell:=by decide +kernel)(c:∀ y∈sc.names,y.2=.local->sc.names.lookup y.1=some .local:=by decide +kernel)(d:∀ y∈sc.names,y.2=.free->so.names.lookup y.1=some .cell\/so.names.lookup y.1=some .free:=by decide +kernel)(e:N'.Nodup:=by decide +kernel)(f:src.length=N'.length:=by rfl)
  (g:∀ p∈N'.zip src,(match p.2 with | none=>true | some j=>decide (N[j]? = some p.1/\sc.names.lookup p.1=some .free))=true:=by decide +kernel):jt so sc N N' src:=⟨a,b,c,d,e,f,g⟩
theorem fR {N P:List Str}{sc:Scope}(a:sc.kind=.function:=by rfl)(b:sc.isCoroutine=false:=by rfl)(c:sc.isGenerator=false:=by rfl)(d:N.Nodup:=by decide +kernel)(e:N.take P.length=P:=by rfl)(f:∀ x∈P,sc.names.lookup x=some .local\/sc.names.lookup x=some .cell:=by decide +kernel)(g:∀ y∈sc.names,y.2≠.free:=by decide +kernel):au N P sc:=⟨a,b,c,d,e,f,g⟩
end L2
namespace Wz
open PySem L2
def aP (K:PySem.W.Frag)(x:Str)(st:Stmt):Prop:=∃ (f:Addr)(fd:FuncData),PySem.W.nsIn K mainGlobals x=some (some (.ref f))/\cU K x x st f fd
theorem fact_mk {K:PySem.W.Frag}{x:Str}{st:Stmt}{f:Addr}{oc:Value}{od an:Option Addr}{osl:Array (Option Value)}{kV doc pm cdv ct:Value}(a:PySem.W.nsIn K mainGlobals x=some (some (.ref f)))(l:K.lookup f=some ⟨oc,od,.func (PySem.W.fnOf x x (bV st) (bD st) (ah st) .none kV doc pm an cdv ct),osl⟩)
  (c:PySem.W.codeIn K cdv x=true) (k:PySem.W.keepIn K (.ref f)=true):aP K x st:=⟨f,_,a,kr l c k⟩
def cV (K:PySem.W.Frag)(C:Addr)(m q:Str)(st:Stmt):Prop:=∃ (f:Addr)(fd:FuncData),PySem.W.findIn K (.ref C) m=some (some (.ref f))/\PySem.W.isFn K (.ref f)=true/\cU K m q st f fd
theorem mfact_mk {K:PySem.W.Frag}{C:Addr}{m q:Str}{st:Stmt}{f:Addr}{oc:Value}{od an:Option Addr}{osl:Array (Option Value)}{kV doc pm cdv ct:Value}(a:PySem.W.findIn K (.ref C) m=some (some (.ref f)))(i:PySem.W.isFn K (.ref f)=true)(l:K.lookup f=some ⟨oc,od,.func (PySem.W.fnOf m q (bV st) (bD st) (ah st) .none kV doc pm an cdv ct),osl⟩)
  (c:PySem.W.codeIn K cdv q=true) (k:PySem.W.keepIn K (.ref f)=true):cV K C m q st:=⟨f,_,a,i,kr l c k⟩
section
variable {P:Program}{w:World}{K:PySem.W.Frag}{h base:Heap}{mg:Str->Option Value}{x m q:Str}{st:Stmt}{k:Nat}{ps:List Str}{sp:Sp}{C:Addr}{CX:js}
theorem oz {n:Nat}{P:List Value->Prop}(h:∀ (a:Value)(vs:List Value),vs.length=n->P (a::vs)):∀ us:List Value,us.length=n+1->P us
 | a::vs,e=>h a vs (Nat.succ.inj e)
theorem oy {P:List Value->Prop}(h:P []):∀ us:List Value,us.length=0->P us
 | [],_=>h
theorem iZ (X:K.In h)(G:h.Ns mainGlobals mg)(F:aP K x st)(ok:∀ f fd,cU K x x st f fd->aO P w K mg base cA k f fd ps sp)
  (hb:∀ (kV doc pm:Value)(an:Option Addr)(cdv ct:Value)(us:List Value),us.length=ps.length->bindArgs (PySem.W.fnOf x x (bV st) (bD st) (ah st) .none kV doc pm an cdv ct) ⟨us,[]⟩=pure (ps.zip us):=by intro _ _ _ _ _ _;(repeat refine oz fun _=>?_);exact oy rfl):ay P w K mg base x k ps sp:=by
 obtain⟨f,fd,a,g⟩:=F;exact⟨f,fd,ok f fd g,PySem.W.mg_of X G a,g.kp,g.binds hb⟩
theorem pW (X:K.In h)(G:h.Ns mainGlobals mg)(F:aP K x st)(ok:∀ f fd,cU K x x st f fd->aO P w K mg base (lh P w) k f fd ps sp)
  (hb:∀ (kV doc pm:Value)(an:Option Addr)(cdv ct:Value)(us:List Value),us.length=ps.length->bindArgs (PySem.W.fnOf x x (bV st) (bD st) (ah st) .none kV doc pm an cdv ct) ⟨us,[]⟩=pure (ps.zip us):=by intro _ _ _ _ _ _;(repeat refine oz fun _=>?_);exact oy rfl):d5 P w K mg base x k ps sp:=by
 obtain⟨f,fd,a,g⟩:=F;exact⟨f,fd,ok f fd g,PySem.W.mg_of X G a,g.kp,g.binds hb⟩
theorem nE (F:cV K C m q st)(ok:∀ f fd,cU K m q st f fd->aO P w K mg base CX k f fd ps sp)
  (hb:∀ (kV doc pm:Value)(an:Option Addr)(cdv ct:Value)(us:List Value),us.length=ps.length->bindArgs (PySem.W.fnOf m q (bV st) (bD st) (ah st) .none kV doc pm an cdv ct) ⟨us,[]⟩=pure (ps.zip us):=by intro _ _ _ _ _ _;(repeat refine oz fun _=>?_);exact oy rfl):bd P w K mg base CX C m k ps sp:=by
 obtain⟨f,fd,a,i,g⟩:=F;exact⟨f,fd,ok f fd g,⟨a,i,g.kp⟩,g.binds hb⟩
end
end Wz
namespace L2
open PySem PySem.Spec PyProof.Rows
theorem lJ {X:Cx}{tg:Expr}(K:PySem.W.Frag){l:Expr}{tl:TE}(hl:PE X l tl)(hK:X.K=K:=by rfl):PI X tg l (nB K tl):=by subst hK;exact kL hl
end L2
namespace PySem
open Sem (wp)
section
variable {M:Model}{A:Around}{E:Value->Shared->Prop}{s:Shared}{env:Env}
def m8 (M:Model)(A:Around)(E:Value->Shared->Prop)(use:Option (Value->Sem Unit))(Q:Value->Shared->Prop)(acc:Value)(C:Addr)(fr:Option Addr)(r:Result)(s':Shared):Prop :=
 match r,use with
 | .ok _,none=>∃ m,s'.heap.Ns C m/\∀ h',Heap.SameBut C s'.heap h'->Q acc { s' with heap:=h' }
 | .ok _,some u=>wpAny M A (u acc) (fun _ s''=>∃ m,s''.heap.Ns C m/\∀ h',Heap.SameBut C s''.heap h'->Q .none { s'' with heap:=h' }) E s'
 | .error x,_=>∃ m,s'.heap.Ns C m/\∀ h',Heap.SameBut C s'.heap h'->∀ cenv:Env,cenv.frame=fr->wpAny M A (passOn "comprehension.variables-let-go" x cenv:Sem Value) (fun _ _=>False) E { s' with heap:=h' }
end
end PySem
set_option maxRecDepth 1000000
set_option maxHeartbeats 8000000
namespace Wz
open PySem L2
theorem mS {P:St->Hp->Prop}{G:Prop}(C:St->Hp->Prop)(main:(∀ σ HH,C σ HH->P σ HH)->G)(key:∀ σ HH,C σ HH->P σ HH):G:=main key
end Wz
set_option maxRecDepth 1000000
set_option maxHeartbeats 8000000
namespace Wz
open PySem PySem.Spec PyProof.Rows L2 PySem.SetTable
section
variable {X:Cx}
theorem eJ:∀ (l acc:List Int),acc.Nodup->(l.foldl step_dedup acc).length<=acc.length+l.length/\((l.foldl step_dedup acc).length=acc.length+l.length↔(acc++l).Nodup)
 | [],acc,nd=>by simp[nd]
 | x::l,acc,nd=>by
  rw[List.foldl_cons]
  by_cases hx:x∈acc
  ·have e:step_dedup acc x=acc:=by unfold step_dedup;rw[ql (by simpa using hx)]
   rw[e];obtain⟨h1,h2⟩:=eJ l acc nd;rw[qN];refine⟨by omega,⟨fun z=>by omega,fun z=>?_⟩⟩;rw[List.nodup_append]at z;exact absurd rfl (z.2.2 x hx x qy)
  ·have e:step_dedup acc x=acc++[x]:=by unfold step_dedup;rw[qi (by simpa using hx)]
   rw[e];obtain⟨h1,h2⟩:=eJ l (acc++[x]) (List.nodup_append.mpr ⟨nd,by simp,fun a ha b hb z=>hx (by rw[<-qD.mp hb,<-z];exact ha)⟩);rw[qz,List.length_singleton]at h1 h2;rw[qN,show acc.length+(l.length+1)=acc.length+1+l.length by omega,h2,List.append_assoc];exact⟨h1,Iff.rfl⟩
theorem jU (hc:X.calm=true):dC X (.type "set") (fun xs H Q=>∃ (p:Addr)(ns:List Int),xs=[.ref p]/\bA X.K H p (ns.map V.int)/\ns.length<=1000/\∀ l S (n:Nat),H l=none->n<=ns.length->(n=ns.length↔ns.Nodup)->Q (.ref l) (aA H l (.set S n))):=by
 intro pins s σ H xs us Q I r h;obtain⟨p,ns,rfl,hq,hz,q⟩:=h;obtain⟨u,rfl,rx⟩:=gf r;cases rx;obtain⟨its,rv,pl,_⟩:=I.list hq;have hl:=rv.length;rw[qf]at hl;refine call_set_list (I.ok.hd hc) pl.isList (ns:=ns) (by simpa using d9 rv) (by rw[qm,<-hl];exact Nat.lt_of_le_of_lt (Nat.succ_le_succ hz) (by decide)) fun h' tk hS hk=>?_
 have en:(firstMet (fun i=>ns.getD i 0) its.toArray.size)=ns.foldl step_dedup []:=by
  unfold firstMet;rw[qm,<-hl,iS]
 rw[en]at hS;obtain⟨d1,d2⟩:=eJ ns [] List.nodup_nil;refine⟨.ref s.heap.objs.size,_,I.laid (t':=tk) (o:=.set _ (ns.foldl step_dedup []).length) (fun b u e=>hk b u (qd e) e) (qj _) (show aQ X.prog X.w _ _ _ (.set _ (ns.foldl step_dedup []).length) from hS),rfl,q _ _ _ (I.hok.fresh (qj _)) (by simpa using d1) (by simpa using d2)⟩
end
open PySem L2
structure pN (K:PySem.W.Frag)(mg:Str->Option Value)(o:Addr):Prop where
 e:gD K o
 m:mg "Same" = some (.ref o)
 x:PySem.W.exmOne K (.ref o) (.ref o)=some true
def lY (a b c d:Int):List (Int×Int):=[(a,b),(c,d),(a,c),(b,d),(a,d),(b,c)]
inductive eC (co:Addr) (vs:List V) (H:Hp) (Q:VK) (E:XK):Prop
 | mk (a b c d:Int) (h_0:vs=[.int a,.int b,.int c,.int d]) (h_1:([a,b,c,d].Nodup->∀ (l:Addr)(H':Hp),H l=none->bo H H'->cc H' l (lY a b c d)->Q (.ref l) H')) (h_2:(¬ [a,b,c,d].Nodup->∀ H',bo H H'->E (.ref co) none H')):eC co vs H Q E
end Wz
namespace Tm
open PySem PyProof.Rows
def el (xs:Array Keyed)(i:Nat):Keyed:=xs.getD i (.none,.none)
structure p9 (P:Program)(w:World)(A:Around)(s:Shared)(κ:SortKind)(a0:Array Keyed)(lt:Keyed->Keyed->Bool):Prop where
 cmp:∀ {x y:Keyed}{E:Value->Shared->Prop}{Q:Bool->Prop},x∈a0->y∈a0->Q (lt x y)->wpAny (model P w) A (keyLt' κ x.1 y.1) (fun b s'=>s'=s/\Q b) E s
 irr:∀ x,lt x x=false
 tr:∀ x y z,lt x y=true->lt y z=true->lt x z=true
 tot:∀ x y,x∈a0->y∈a0->x≠y->lt x y=true\/lt y x=true
 nd:a0.toList.Nodup
structure pM (κ:SortKind)(a0:Array Keyed)(st:SortSt):Prop where
 pm:(arrOf st).Perm a0
 fl:failedOf st=none
 kd:kindOf st=κ
section
variable {P:Program}{w:World}{A:Around}{E:Value->Shared->Prop}{s:Shared}{κ:SortKind}{a0:Array Keyed}{lt:Keyed->Keyed->Bool}{st:SortSt}
def Up (lt:Keyed->Keyed->Bool)(xs:Array Keyed)(lo hi:Nat):Prop:=∀ i j,lo<=i->i<j->j<hi->lt (el xs i) (el xs j)=true
def Dn (lt:Keyed->Keyed->Bool)(xs:Array Keyed)(lo hi:Nat):Prop:=∀ i j,lo<=i->i<j->j<hi->lt (el xs j) (el xs i)=true
def p8 (xs ys:Array Keyed)(lo hi:Nat):Prop:=∀ i,i<lo\/hi<=i->el ys i=el xs i
def pR (st st':SortSt):Prop:=pendingOf st'=pendingOf st/\gallopOf st'=gallopOf st
end
def ox:Bool->Keyed->Array Keyed->Nat->Nat->Nat->StateT SortSt Sem (Option Nat):=sortPriv% PySem.Builtin.gallop
def Bf (lt:Keyed->Keyed->Bool)(left:Bool)(key:Keyed)(xs:Array Keyed)(b i:Nat):Bool:=if left=true then lt (el xs (b+i)) key else !lt key (el xs (b+i))
def Fn (R:Keyed->Keyed->Prop)(T r:List Keyed):Prop:=r.Perm T/\r.Pairwise R
structure J (R:Keyed->Keyed->Prop)(T out ra rb:List Keyed):Prop where
 pm:(out++(ra++rb)).Perm T
 so:out.Pairwise R
 oa:∀ x,x∈out->∀ y,y∈ra->R x y
 ob:∀ x,x∈out->∀ y,y∈rb->R x y
 sa:ra.Pairwise R
 sb:rb.Pairwise R
 la:∀ x,x∈rb->∀ z,ra.getLast? = some z->R x z
def nD:Array Keyed->Array Keyed->StateT SortSt Sem (Array Keyed):=sortPriv% PySem.Builtin.mergeLo
def lg:Nat->StateT SortSt Sem Unit:=sortPriv% PySem.Builtin.setMinGallop
structure qb (a0:Array Keyed)(lt:Keyed->Keyed->Bool)(a b:Array Keyed):Prop where
 ma:∀ i,i<a.size->el a i∈a0
 mb:∀ i,i<b.size->el b i∈a0
 ne:∀ i j,i<a.size->j<b.size->el a i≠el b j
 ua:Up lt a 0 a.size
 ub:Up lt b 0 b.size
 za:0<a.size
 zb:0<b.size
 h0:lt (el b 0) (el a 0)=true
 hl:lt (el b (b.size-1)) (el a (a.size-1))=true
def bo (st st':SortSt):Prop:=arrOf st'=arrOf st/\failedOf st'=failedOf st/\kindOf st'=kindOf st/\pendingOf st'=pendingOf st
def Jl (lt:Keyed->Keyed->Bool)(a b:Array Keyed)(out:Array Keyed)(ia ib:Nat):Prop:=J (fun x y=>lt x y=true) (a.toList++b.toList) out.toList (a.toList.drop ia) (b.toList.drop ib)
def Sl (lt:Keyed->Keyed->Bool)(a b:Array Keyed)(n:Nat)(r:Option (Array Keyed))(out:Array Keyed)(ia ib:Nat):Prop :=
 (∃ q,r=some q/\Fn (fun x y=>lt x y=true) (a.toList++b.toList) q.toList)\/(r=none/\Jl lt a b out ia ib/\ia+1<a.size/\ib<b.size/\n<=out.size)
def nC:Array Keyed->Array Keyed->StateT SortSt Sem (Array Keyed):=sortPriv% PySem.Builtin.mergeHi
def Jh (lt:Keyed->Keyed->Bool)(a b:Array Keyed)(out:Array Keyed)(na nb:Nat):Prop:=J (fun x y=>lt y x=true) (a.toList++b.toList) out.toList (b.toList.take nb).reverse (a.toList.take na).reverse
def Sh (lt:Keyed->Keyed->Bool)(a b:Array Keyed)(n:Nat)(r:Option (Array Keyed))(out:Array Keyed)(na nb:Nat):Prop :=
 (∃ q,r=some q/\Fn (fun x y=>lt x y=true) (a.toList++b.toList) q.toList)\/(r=none/\Jh lt a b out na nb/\0<na/\na<a.size/\1<nb/\nb<=b.size/\n<=out.size)
def pS (q:Nat)(m arr:Array Keyed):Array Keyed:=m.toList.zipIdx.foldl (fun a (p,j)=>a.setIfInBounds (q+j) p) arr
def Ch (lt:Keyed->Keyed->Bool)(xs:Array Keyed):Nat->List (Nat×Nat×Nat)->Nat->Prop
 | f,[],u=>f=u
 | f,t::r,u=>t.1=f/\1<=t.2.1/\Up lt xs f (f+t.2.1)/\Ch lt xs (f+t.2.1) r u
end Tm
namespace Qs
open PySem PySem.W PyProof.Rows
open Classical in
noncomputable def dec (h:Heap) (v:Value):Int×Int:=if z:∃ p,mm h v p then choose z else (0,0)
end Qs
namespace L2
open PySem PySem.Spec PyProof.Rows
theorem iQ {X:Cx}(hc:X.calm=true):dC X (.type "list") (fun xs H Q=>∃ (p:Addr)(kvs:List (gq×V))(ns:List Int),xs=[.ref p]/\H p=some (.dK kvs)/\kvs.map (·.1)=ns.map Sum.inl/\∀ l,H l=none->Q (.ref l) (aA H l (.lst (ns.map V.int)))):=by
 intro pins s σ H xs us Q I r h;obtain⟨p,kvs,ns,rfl,hH,hk,q⟩:=h;obtain⟨u,rfl,rx⟩:=gf r;cases rx;obtain⟨hz,lo,vs,rel,dd⟩:=(show aQ X.prog X.w H s.heap p (.dK kvs) from I.hok p _ hH);obtain⟨ep,hat⟩:=dd.dictAt
 have hlk:kvs.length=ns.length:=by have:=qL List.length hk;simpa using this
 have hlv:kvs.length=vs.length:=qv rel;refine PySem.W.kdl_call (PySem.W.kdl_dict (knd:=gI X.prog X.w) (kvs:=vs) (ep:=ep) lo) (I.ok.hd hc) hat (by rw[<-hlv];exact hz) fun h' tk acc c' kp e hacc=>?_
 have hal:acc.toList.length=vs.length:=by rw[Array.length_toList];exact hacc.1
 have rI:az (ns.map V.int) acc.toList:=hX (by rw[qf,hal];omega) fun i x v e1 e2=>by
  obtain⟨k,y,hx,hks⟩:=hacc.2 i v (by rw[<-Array.getElem?_toList];exact e2)
  have e3:(vs.map (·.1))[i]? = some k:=by rw[List.getElem?_map,hx];rfl
  rw[<-rel.keys,hk,List.getElem?_map]at e3;rw[List.getElem?_map]at e1
  cases en:ns[i]? with
  | none=>rw[en]at e1;cases e1
  | some n =>
   rw[en]at e1 e3;have e1':V.int n=x:=qu e1;subst e1';have e4:(Sum.inl n:gq)=k:=qu e3;subst e4;obtain⟨t,e5⟩:=Value.isInt_shape (k:=n) (v:=v) hks;exact⟨t,e5⟩
 refine⟨.ref s.heap.objs.size,_,I.laid (t':=tk) kp (qj _) (show aQ X.prog X.w _ h' _ (.lst (ns.map V.int)) from ⟨by rw[qf,<-hlk];exact hz,acc.toList,c',rI,by simpa using e⟩),rfl,q _ (I.hok.fresh (qj _))⟩
theorem kI {X:Cx}{x:Str}{v:V}{pos:Pos}(hg:Gl X x)(hm:∃ u,X.mg x=some u/\aF v u)(hd:(x == ("__debug__" : Str))=false:=by decide):PE X (.Name x pos) (tC v):=by
 obtain⟨u,hm,r⟩:=hm;exact lF hg hm r hd
section
variable {prog:Program}{w:World}{A:Around}{E:Value->Shared->Prop}{s:Shared}
theorem bI {it t:Addr}{i:Nat}{xs:Array Value}{x:Value}{Q:Value->Shared->Prop}(hI:s.heap.IsTupleIter it t i)(hT:s.heap.IsTuple t xs)(hx:xs[i]? = some x)
  (k:∀ h',h'.IsTupleIter it t (i+1)->Heap.SameBut it s.heap h'->Q x { s with heap:=h' }):wpAny (model prog w) A (Builtin.SmallTypes.nextOf (.ref it)) Q E s:=by
 obtain⟨ot,et,_,m,dt⟩:=hT;obtain⟨oi,ei,ci,di⟩:=id hI;unfold Builtin.SmallTypes.nextOf;refine qc (wpAny_callSpecial?_slot (name:=Str.ofString "__next__") hI.typeIs qZ (qU qZ hI.typeIs F.entry_tuple_iterator_next ?_ (F.args_tuple_iterator_next_1 _)))
 show wpAny _ _ (field (.ref it) 0 >>= _) _ _ s
 refine qc (qw ei di (x:=.ref t) rfl ?_)
 show wpAny _ _ (if (Value.ref t == Value.none)=true then _ else _) _ _ s
 rw[qi (by exact qh)]
 show wpAny _ _ (field (.ref it) 1 >>= _) _ _ s
 refine qc (qw ei di (x:=.int i 0) rfl ?_)
 show wpAny _ _ (seqItems? (.ref t) >>= _) _ _ s
 refine qc (qP et dt ?_);simp only[Int.toNat_natCast,hx];refine qc (wpAny_setField ei di (by simp) (qe ⟨x,rfl,qe (k _ ⟨_,Heap.get?_update_self _ ei (Obj.isFreed_of_fields (ri di _)),(Obj.cls_mapFields ..).trans ci,?_⟩ (Heap.SameBut.update ..))⟩));rw[ri di];simp[rawInt]
theorem eM {it t:Addr}{i:Nat}{xs:Array Value}{Q:Value->Shared->Prop}(hh:A.handled=none)(hI:s.heap.IsTupleIter it t i)(hT:s.heap.IsTuple t xs)(hx:xs[i]? = none)
  (k:∀ h' e,Heap.ExtBut it s.heap h'->(∃ o,h'.get? e=some o/\o.cls=.type "StopIteration")->E (.ref e) { s with heap:=h' }):wpAny (model prog w) A (Builtin.SmallTypes.nextOf (.ref it)) Q E s:=by
 obtain⟨ot,et,_,m,dt⟩:=hT;obtain⟨oi,ei,ci,di⟩:=id hI;unfold Builtin.SmallTypes.nextOf;refine qc (wpAny_callSpecial?_slot (name:=Str.ofString "__next__") hI.typeIs qZ (qU qZ hI.typeIs F.entry_tuple_iterator_next ?_ (F.args_tuple_iterator_next_1 _)))
 show wpAny _ _ (field (.ref it) 0 >>= _) _ _ s
 refine qc (qw ei di (x:=.ref t) rfl ?_)
 show wpAny _ _ (if (Value.ref t == Value.none)=true then _ else _) _ _ s
 rw[qi (by exact qh)]
 show wpAny _ _ (field (.ref it) 1 >>= _) _ _ s
 refine qc (qw ei di (x:=.int i 0) rfl ?_)
 show wpAny _ _ (seqItems? (.ref t) >>= _) _ _ s
 refine qc (qP et dt ?_);simp only[Int.toNat_natCast,hx];refine qc (wpAny_rule (qc (wpAny_setField ei di (by simp) ?_)))
 show wpAny _ _ (newExc (.type "StopIteration") [] >>= _) _ _ _
 refine qc ?_;simp only[newExc,newTuple];refine qc (qI ?_ (by size_fits));refine qc (m:=firstArgMember _ _) (wpAny_of_eq (a:=Value.none) (by first | rfl | (simp only[firstArgMember];rfl)) ?_);refine qI ?_ (by size_fits);simp only[raiseNew];refine qc (wpAny_handled ?_)
 first | rw[show A.in1.handled=none from hh] | rw[hh]
 exact qc (qe (wpAny_throw (k _ _ (((Heap.SameBut.update ..).extBut.push _).push _) ⟨_,Heap.get?_push_size _ rfl,rfl⟩)))
end
theorem nu {prog:Program}{w:World}{A:Around}(hh:A.handled=none)(it t:Addr)(hne:t≠it)(xs:Array Value) :
  Draws prog w A it [it,t] xs.size (fun i v=>xs[i]? = some v) (fun i h=>h.IsTupleIter it t i/\h.IsTuple t xs) where
 live:=fun _ _ st=>by obtain⟨⟨o,e,_⟩,_⟩:=st;exact⟨o,e⟩
 frame:=fun _ _ _ st k=>⟨st.1.at fun o e=>k it (by simp) o e,st.2.at fun o e=>k t (by simp) o e⟩
 item:=fun i s Q E hi st k=>bI st.1 st.2 (x:=xs[i]) (by simp[hi]) fun h' st' sb=>k _ h' s.toks (by simp[hi]) ⟨st',st.2.extBut sb.extBut hne⟩ sb
 done:=fun s Q E st k=>eM hh st.1 st.2 (by simp) k
theorem ij (t:Addr)(xs:Array Value):Meets (Builtin.«enumerate.__new__» ⟨[.type "enumerate",.ref t],[]⟩) (fun _ R s=>s.heap.IsTuple t xs /\
   R (.ok (.ret (.ref (s.heap.push { cls:=.type "tuple_iterator",data:=.fields #[.ref t,.int 0 0] }).objs.size)))
    { s with heap:=(s.heap.push { cls:=.type "tuple_iterator",data:=.fields #[.ref t,.int 0 0] }).push { cls:=.type "enumerate",data:=.fields #[.none,.bool false,.ref s.heap.objs.size,rawInt 0,.none,.none] } }) :=
 .of_wp fun prog w A R s h=>by
  obtain⟨hp,g,d,tk,os⟩:=s;obtain⟨hT,h⟩:=h;have su:=sub_enumerate;have hT2:Heap.IsTuple (Shared.heap ⟨hp,g,d,tk,os⟩) t xs:=hT;obtain⟨ot,et,ct,m,dt⟩:=id hT
  wp_walk using AutoSeq1.wpAny_loadPart' et
  refine wpAny_stack_any fun st=>qe ?_;split
  ·rename_i c _ _ _ _ _
   cases (c == Value.type "enumerate")<;>(wp_walk using AutoSeq1.wpAny_loadPart' et,rh hT2;exact⟨_,rfl,h⟩)
  ·wp_walk using AutoSeq1.wpAny_loadPart' et,rh hT2
   exact⟨_,rfl,h⟩
section
variable {prog:Program}{w:World}{A:Around}{E:Value->Shared->Prop}{s:Shared}
theorem iP {t:Addr}{xs:Array Value}{Q:Value->Shared->Prop}(hT:s.heap.IsTuple t xs)
  (k:∀ h',IsEnum h' (s.heap.objs.size+1) s.heap.objs.size 0 .none->h'.IsTupleIter s.heap.objs.size t 0->(∀ b o,s.heap.get? b=some o->h'.get? b=some o)->Q (.ref (s.heap.objs.size+1)) { s with heap:=h' }) :
  wpAny (model prog w) A (call (.type "enumerate") [.ref t]) Q E s:=by
 refine callType_new F.called_enumerate (by decide) (F.typeCall_enumerate_1 _) (F.newCall_enumerate_1 _) (fun obj=>F.args_object_init_2 obj _) F.entry_enumerate_new (ij t xs) ⟨hT,?_⟩;obtain⟨oi,eoi⟩:∃ oi:Obj,oi={ cls:=.type "tuple_iterator",data:=.fields #[.ref t,.int 0 0] }:=⟨_,rfl⟩
 show _/\_
 rw[<-eoi];have sz:(s.heap.push oi).objs.size=s.heap.objs.size+1:=qB ..;have he:=Heap.get?_push_size (s.heap.push oi) (o:={ cls:=.type "enumerate",data:=.fields #[.none,.bool false,.ref s.heap.objs.size,rawInt 0,.none,.none] }) rfl;rw[sz]at he ⊢;refine⟨⟨_,he,rfl⟩,k _ he ⟨oi,Heap.get?_push_of_some _ (Heap.get?_push_size _ (by rw[eoi];rfl)),by rw[eoi],by rw[eoi];rfl⟩ fun b o e=>Heap.get?_push_of_some _ (Heap.get?_push_of_some _ e)⟩
end
def kg (K:PySem.W.Frag)(t:Addr):It :=
 ⟨fun i H=>∃ xs x,aG K H t xs/\xs[i]? = some x,fun i H y H'=>∃ T x,H T=none/\y=.ref T/\H'=aA H T (.tup [.int i,x])/\∀ xs,aG K H t xs->xs[i]? = some x,fun i H=>∃ xs,aG K H t xs/\xs.length<=i⟩
theorem jm {P:Program}{w:World}{K:PySem.W.Frag}{elts:List Expr} {kk}{pos:Pos}(e it t:Addr)(hne:e≠it):jQ P w K (.Tuple elts kk pos) (kg K t) [e,it] e (fun i h=>(∃ old,IsEnum h e it (i:Nat) old)/\h.IsTupleIter it t i) where
 mem:=by simp
 obj:=fun i h st b hb=>by
  obtain⟨⟨old,he⟩,⟨o,eo,c,d⟩⟩:=st
  have hb:b=e\/b=it:=by simpa using hb
  rcases hb with rfl | rfl
  ·exact⟨_,he,fun v z=>by cases z⟩
  ·exact⟨o,eo,fun v z=>by rw[d]at z;cases z⟩
 keep:=fun i h h' st k=>⟨st.1.elim fun old he=>⟨old,k e (by simp) _ he⟩,st.2.at fun o x=>k it (by simp) o x⟩
 item:=by
  intro X hP hw hK hc i pins s σ H E I hf st hg;subst hP hw hK;obtain⟨xs,x,hq,hx⟩:=hg;obtain⟨its,rv,p,hz⟩:=I.tuple hq;have p:s.heap.IsTuple t its.toArray:=p;obtain⟨u,hu,ru⟩:=rv.get hx;obtain⟨⟨old,he⟩,hit⟩:=st;have fe:=hf e (by simp);have fi:=hf it (by simp);have lte:e<s.heap.objs.size:=qd he
  have lti:it<s.heap.objs.size:=by obtain⟨_,q,_⟩:=id hit;exact qd q
  have net:e≠t:=fun z=>by
   obtain⟨o,eo,c,_⟩:=id p;rw[<-z,he]at eo;cases eo;simp at c
  have nit:t≠it:=fun z=>by
   obtain⟨o,eo,c,_⟩:=id p;obtain⟨o2,eo2,c2,_⟩:=id hit;rw[z,eo2]at eo;cases eo;rw[c2]at c;simp at c
  have hil:i<its.toArray.size:=by have:=(List.getElem?_eq_some_iff.mp hu).1;simpa using this
  refine wpAny_pyNext_enum_itemD (nu (A:=X.A.in1) (I.ok.hd hc) it t nit its.toArray) he ⟨hit,p⟩ hil hne (by simp[hne,net]) fun y h' tk hy ho hit' hT hsz hk=>⟨.ref s.heap.objs.size,rfl,?_⟩
  have ey:y=u:=by
   have hy:its.toArray[i]? = some y:=hy
   have hy:its[i]? = some y:=by simpa using hy
   rw[hu]at hy;exact (qu hy).symm
  subst ey;refine wpAny_letOwnedTupleGo_enum (s:={ s with heap:=h',toks:=tk+1 }) ho fun h2 he2 sb2=>?_;have hfr:H s.heap.objs.size=none:=I.hok.fresh (qj _)
  have IL:aj X pins σ (aA H s.heap.objs.size (.tup [.int i,x])) { s with heap:=s.heap.push { cls:=.type "tuple",data:=.seq #[.int i tk,y] },toks:=s.toks } :=
   I.laid (fun b o q=>Heap.get?_push_of_some _ q) (qj _) ⟨by show 2<=sizeLine;decide,[.int i tk,y],.cons ⟨_,rfl⟩ (.cons ru .nil),⟨_,Heap.get?_push_size _ rfl,rfl,_,rfl⟩⟩
  have fp':∀ b,b<s.heap.objs.size->cT X pins H b->cT X pins (aA H s.heap.objs.size (.tup [.int i,x])) b:=fun b hb ⟨f0,f1,f2,f3,f4,f5⟩=>⟨by rw[ak (qk hb)];exact f0,f1,f2,f3,f4,f5⟩
  have I2:aj X pins σ (aA H s.heap.objs.size (.tup [.int i,x])) { s with heap:=h2,toks:=tk+1 }:=IL.turned2 (t':=tk+1) (h':=h2) (fun b o n1 n2 q=>by
   refine (sb2.2 b n1).trans ?_
   show h'.get? b=some o
   by_cases hb:b=s.heap.objs.size
   ·subst hb
    have q:(s.heap.push { cls:=.type "tuple",data:=.seq #[.int i tk,y] }).get? s.heap.objs.size=some o:=q;rw[Heap.get?_push_size _ rfl]at q;cases q;exact hT
   ·have q:(s.heap.push { cls:=.type "tuple",data:=.seq #[.int i tk,y] }).get? b=some o:=q
    refine hk b o n1 n2 ?_;rw[Heap.get?_push_ne _ _ _ hb]at q
    exact q) (fp' e lte fe) (fp' it lti fi)
  refine⟨.ref s.heap.objs.size,_,I2,rfl,⟨s.heap.objs.size,x,hfr,rfl,rfl,fun ys hy=>by rw[I.tuple_inj hy hq];exact hx⟩,⟨⟨_,by simpa using he2⟩,hit'.1.at fun o q=>(sb2.2 it (qK hne)).trans q⟩,fun b hb=>?_⟩
  have hb':b=e\/b=it:=by simpa using hb
  rcases hb' with rfl | rfl
  ·exact (fp' _ lte fe).1
  ·exact (fp' _ lti fi).1
 done:=by
  intro X hP hw hK hc i pins s σ H E I hf st hg;subst hP hw hK;obtain⟨xs,hq,hx⟩:=hg;obtain⟨its,rv,p,hz⟩:=I.tuple hq;have p:s.heap.IsTuple t its.toArray:=p;obtain⟨⟨old,he⟩,hit⟩:=st;obtain⟨f0,f1,f2,f3,f4,f5⟩:=hf it (by simp)
  have nit:t≠it:=fun z=>by
   obtain⟨o,eo,c,_⟩:=id p;obtain⟨o2,eo2,c2,_⟩:=id hit;rw[z,eo2]at eo;cases eo;rw[c2]at c;simp at c
  have hl:=rv.length;unfold pyNext;refine qc (wpAny_attempt (wpAny_callSpecial?_slot (name:=Str.ofString "__next__") (T:="enumerate") ⟨_,he,rfl⟩ F.slot_enumerate_next (qU F.slot_enumerate_next (T:="enumerate") ⟨_,he,rfl⟩ F.entry_enumerate_next ?_ (F.args_enumerate_next_1 _))))
  show wpAny _ _ (field (.ref e) 2 >>= _) _ _ _
  refine qc (qw he rfl (x:=.ref it) rfl ?_);refine qc (eM (A:=X.A.in1) (I.ok.hd hc) hit p (by simp;omega) fun h' x eb hx=>?_);obtain⟨o,ho,co⟩:=hx;refine qc (wpAny_isInstance (T:="StopIteration") (b:=true) ⟨o,ho,co⟩ isSubtype_stop ?_);exact qe ⟨rfl,I.turned (t':=s.toks) (fun b o hb q=>eb b o hb q) f0 f1 f3 f4 f5⟩
 self:=fun _ _ _ _ _ st h=>st.1.elim fun old he=>wpAny_pyIter_enum he h
def mx (K:PySem.W.Frag)(t:TA):TI:=fun σ H R=>t σ H fun vs H1=>∃ l,vs=[.ref l]/\(∃ xs,aG K H1 l xs)/\R (kg K l) H1
theorem f8 {X:Cx}{elts:List Expr} {kk}{tpos:Pos}{a:Expr}{ta:TA}{p pos:Pos}(hg:Gl X "enumerate")(hm:X.mg "enumerate" = none)(ha:PA X [a] ta)
  (he:starEach [a] X.env=(false,eval a X.env)::starEach [] X.env:=by rfl) (hpl:(backTo pos (starEach [] X.env)).any (·.1)=false:=by rfl):PI X (.Tuple elts kk tpos) (.Call (.Name "enumerate" p) [a] [] pos) (mx X.K ta):=by
 intro pins s σ H R I h;refine qO (dN I hg hm boot_enumerate ?_ (by decide) (by decide));refine qM (aU (ha pos pins s σ H _ I h) fun us s1 ⟨vs,H1,I1,r1,l,e1,⟨xs,hq⟩,q⟩=>?_) he hpl;subst e1;obtain⟨u,rfl,rx⟩:=gf r1;cases rx;obtain⟨its,rv,pl,hz⟩:=I1.tuple hq;refine iP (show s1.heap.IsTuple l its.toArray from pl) fun h' hE hI hk=>?_;have I2:aj X pins σ H1 { s1 with heap:=h',toks:=s1.toks }:=I1.kept hk;refine wpAny_pyIter_enum (s:={ s1 with heap:=h' }) hE ?_;refine⟨s1.heap.objs.size+1,[s1.heap.objs.size+1,s1.heap.objs.size],_,_,H1,rfl,I2,jm _ _ l (Nat.succ_ne_self _),⟨⟨_,hE⟩,hI⟩,fun b hb=>?_,q⟩
 have hb:b=s1.heap.objs.size+1\/b=s1.heap.objs.size:=by simpa using hb
 rcases hb with rfl | rfl
 ·exact I1.fpOk (Nat.le_succ _) (I1.hok.fresh (Nat.le_succ _))
 ·exact I1.fpOk (qj _) (I1.hok.fresh (qj _))
theorem eK {K:PySem.W.Frag}{a:Addr}{xs:List V}{g:TG}{tb:TS}{D:eI}{σ:St}{H:Hp}(Pv:Nat->St->Hp->Prop)(h0:Pv 0 σ H)(hl:∀ i σ H,i<=xs.length->Pv i σ H->aG K H a xs)
  (hs:∀ i x σ H T,xs[i]? = some x->Pv i σ H->H T=none->g (.ref T) σ (aA H T (.tup [.int i,x])) fun σ2 H2=>tb { D with nx:=Pv (i+1),ct:=Pv (i+1),bk:=D.nx } σ2 H2) (hd:∀ σ H,Pv xs.length σ H->D.nx σ H) :
  ∃ W:Nat->Nat->St->Hp->Prop,(∃ m,W 0 m σ H)/\∀ i m σ H,W i m σ H ->
   ((kg K a).stop i H/\D.nx σ H)\/((kg K a).go i H/\∃ N:St->Hp->Prop,(∀ σ' H',N σ' H'->∃ m',m'<m/\W (i+1) m' σ' H')/\∀ x H',(kg K a).yld i H x H'->g x σ H' fun σ2 H2=>tb { D with nx:=N,ct:=N,bk:=D.nx } σ2 H2):=by
 refine⟨fun i m σ H=>m=xs.length-i/\i<=xs.length/\Pv i σ H,⟨xs.length,by simp,qH _,h0⟩,?_⟩;rintro i m σ H ⟨rfl,hi,p⟩;have q:=hl i σ H hi p
 by_cases hlt:i<xs.length
 ·refine .inr ⟨⟨xs,xs[i],q,by simp[hlt]⟩,Pv (i+1),fun σ' H' p'=>⟨xs.length-(i+1),by omega,rfl,hlt,p'⟩,fun y H' z=>?_⟩
  obtain⟨T,x,hT,e1,e2,hx⟩:=z;subst e1 e2;exact hs i x σ _ T (hx xs q) p hT
 ·have e:i=xs.length:=by omega
  subst e;exact .inl ⟨⟨xs,q,qj _⟩,hd σ H p⟩
open PySem PySem.Spec PyProof.Rows PySem.Calls
section
variable {prog:Program}{w:World}{A:Around}{E:Value->Shared->Prop}{s:Shared}
theorem iJ {z TI TO i1 i2 l1 l2:Addr}{k1 k2:Nat}{xs ys:Array Value}{x y a b:Value}{Q:Value->Shared->Prop}(D:ZipApart z TI TO i1 i2 l1 l2)
  (hz:IsZip s.heap z TI TO .none) (hTI:IsPair s.heap TI (.ref i1) (.ref i2)) (hTO:IsPair s.heap TO a b)
  (h1:s.heap.IsTupleIter i1 l1 k1) (h2:s.heap.IsTupleIter i2 l2 k2) (hl1:s.heap.IsTuple l1 xs) (hl2:s.heap.IsTuple l2 ys) (hx:xs[k1]? = some x) (hy:ys[k2]? = some y)
  (k:∀ h',IsZip h' z TI TO (rawInt s.heap.objs.size)->IsPair h' TO x y->h'.IsTupleIter i1 l1 (k1+1)->h'.IsTupleIter i2 l2 (k2+1)->IsPair h' s.heap.objs.size x y->h'.objs.size=s.heap.objs.size+1 ->
   (∀ c o,c≠z->c≠TO->c≠i1->c≠i2->s.heap.get? c=some o->h'.get? c=some o)->Q (.ref s.heap.objs.size) { s with heap:=h' }) :
  wpAny (model prog w) A (Builtin.«zip.__next__» ⟨[.ref z],[]⟩) (fun fin s'=>∃ v,fin=.done (.ret v)/\Q v s') E s:=by
 show wpAny _ _ (field (.ref z) 2 >>= _) _ _ _
 refine qc (qw hz rfl (x:=.bool false) rfl ?_)
 show wpAny _ _ (field (.ref z) 3 >>= _) _ _ _
 refine qc (qw hz rfl (x:=.ref TI) rfl (qc (qP hTI rfl ?_)))
 show wpAny _ _ (Builtin.SmallTypes.ownedTupleIsFree (.ref z) >>= _) _ _ _
 refine qc ?_;unfold Builtin.SmallTypes.ownedTupleIsFree;refine qc (qw hz rfl (x:=.none) rfl (qe ?_));simp only[if_true];refine qc (wpAny_rule (qc (qw hz rfl (x:=.ref TO) rfl (qc (wpAny_setField_rec hz (by simp) fun g1 z1 b1=>?_)))))
 replace z1:IsZip g1 z TI TO .ellipsis:=z1
 refine qc ?_;simp only[List.zipIdx_cons,List.zipIdx_nil,List.forIn_cons,List.forIn_nil];refine qc (qc (wpAny_onRaise ?_))
 show wpAny _ _ (Builtin.SmallTypes.nextOf (.ref i1) >>= _) _ _ _
 refine qc (bI (h1.extBut b1.extBut D.i1z) (hl1.extBut b1.extBut D.l1z) hx fun g2 t2 b2=>qe ?_);have o2:IsPair g2 TO a b:=b2.extBut _ _ D.TOi1 (b1.extBut _ _ D.TOz hTO);refine qc (qP o2 rfl (qc (wpAny_updateSeq_pair o2 fun g3 o3 b3=>?_)))
 replace o3:IsPair g3 TO x b:=o3
 refine qc (wpAny_letGo (qe (qc (qc (wpAny_onRaise ?_)))))
 show wpAny _ _ (Builtin.SmallTypes.nextOf (.ref i2) >>= _) _ _ _
 refine qc (bI (((h2.extBut b1.extBut D.i2z).extBut b2.extBut D.i12.symm).extBut b3.extBut D.TOi2.symm) (((hl2.extBut b1.extBut D.l2z).extBut b2.extBut D.l2i1).extBut b3.extBut D.l2TO) hy fun g4 t4 b4=>qe ?_);have o4:IsPair g4 TO x b:=b4.extBut _ _ D.TOi2 o3;refine qc (qP o4 rfl (qc (wpAny_updateSeq_pair o4 fun g5 o5 b5=>?_)))
 replace o5:IsPair g5 TO x y:=o5
 refine qc (wpAny_letGo (qe (qe (qc (qP o5 rfl (qc (wpAny_newTuple ?_)))))))
 have sz:g5.objs.size=s.heap.objs.size:=by rw[b5.1,b4.1,b3.1,b2.1,b1.1]
 have z5:IsZip g5 z TI TO .ellipsis:=b5.extBut _ _ D.TOz.symm (b4.extBut _ _ D.i2z.symm (b3.extBut _ _ D.TOz.symm (b2.extBut _ _ D.i1z.symm z1)));have p1:g5.IsTupleIter i1 l1 (k1+1):=((t2.extBut b3.extBut D.TOi1.symm).extBut b4.extBut D.i12).extBut b5.extBut D.TOi1.symm;have p2:g5.IsTupleIter i2 l2 (k2+1):=t4.extBut b5.extBut D.TOi2.symm;have lz:z<g5.objs.size:=qd z5
 show wpAny _ _ (Builtin.SmallTypes.ownedTupleHandOut (.ref z) (.ref g5.objs.size) >>= _) _ _ _
 refine qc ?_;unfold Builtin.SmallTypes.ownedTupleHandOut;have z6:IsZip (g5.push { cls:=.type "tuple",data:=.seq #[x,y] }) z TI TO .ellipsis:=Heap.get?_push_of_some _ z5;refine qc (wpAny_setField_rec z6 (by simp) fun g7 z7 b7=>?_)
 replace z7:IsZip g7 z TI TO (rawInt g5.objs.size):=z7
 refine wpAny_setField_rec z7 (by simp) fun g8 z8 b8=>?_
 replace z8:IsZip g8 z TI TO (rawInt g5.objs.size):=z8
 have up:∀ c o,c≠z->g5.get? c=some o->g8.get? c=some o:=fun c o c1 e=>b8.extBut _ _ c1 (b7.extBut _ _ c1 (Heap.get?_push_of_some _ e));have t8:IsPair g8 g5.objs.size x y:=b8.extBut _ _ (qA lz) (b7.extBut _ _ (qA lz) (Heap.get?_push_size _ rfl))
 have e8:g8.objs.size=g5.objs.size+1:=by rw[b8.1,b7.1,qB]
 rw[sz]at z8 t8 e8;refine qe ⟨_,rfl,?_⟩
 show Q (.ref g5.objs.size) _
 rw[sz];exact k g8 z8 (up _ _ D.TOz o5) (p1.at fun o e=>up _ o D.i1z e) (p2.at fun o e=>up _ o D.i2z e) t8 e8 fun c o c1 c2 c3 c4 e=>up c o c1 (b5.extBut _ _ c2 (b4.extBut _ _ c4 (b3.extBut _ _ c2 (b2.extBut _ _ c3 (b1.extBut _ _ c1 e)))))
theorem jq {z TI TO i1 i2 l1 l2:Addr}{k1 k2:Nat}{xs ys:Array Value}{x y a b:Value}{Q:Option Value->Shared->Prop}(D:ZipApart z TI TO i1 i2 l1 l2)
  (hz:IsZip s.heap z TI TO .none) (hTI:IsPair s.heap TI (.ref i1) (.ref i2)) (hTO:IsPair s.heap TO a b)
  (h1:s.heap.IsTupleIter i1 l1 k1) (h2:s.heap.IsTupleIter i2 l2 k2) (hl1:s.heap.IsTuple l1 xs) (hl2:s.heap.IsTuple l2 ys) (hx:xs[k1]? = some x) (hy:ys[k2]? = some y)
  (k:∀ h',IsZip h' z TI TO (rawInt s.heap.objs.size)->IsPair h' TO x y->h'.IsTupleIter i1 l1 (k1+1)->h'.IsTupleIter i2 l2 (k2+1)->IsPair h' s.heap.objs.size x y->h'.objs.size=s.heap.objs.size+1 ->
   (∀ c o,c≠z->c≠TO->c≠i1->c≠i2->s.heap.get? c=some o->h'.get? c=some o)->Q (some (.ref s.heap.objs.size)) { s with heap:=h' }) :
  wpAny (model prog w) A (pyNext (.ref z)) Q E s:=by
 have ty:s.TypeIs (.ref z) "zip":=⟨_,hz,rfl⟩;unfold pyNext;exact qc (wpAny_attempt (wpAny_callSpecial?_slot (name:=Str.ofString "__next__") ty rk (qU rk ty F.entry_zip_next (iJ D hz hTI hTO h1 h2 hl1 hl2 hx hy fun h' a1 a2 a3 a4 a5 a6 a7=>qe (k h' a1 a2 a3 a4 a5 a6 a7)) (F.args_zip_next_1 _))))
abbrev kf (h:Heap)(a:Addr):Heap:=h.push { cls:=.type "tuple_iterator",data:=.fields #[.ref a,.int 0 0] }
abbrev oE (h:Heap)(a b:Addr):Heap:=(kf (kf h a) b).push { cls:=.type "tuple",data:=.seq #[.ref h.objs.size,.ref (kf h a).objs.size] }
abbrev oF (h:Heap)(a b:Addr):Heap:=(oE h a b).push { cls:=.type "tuple",data:=.seq #[.none,.none] }
abbrev m4 (h:Heap)(a b:Addr):Heap:=(oF h a b).push { cls:=.type "zip",data:=.fields #[.none,.bool false,.bool false,.ref (kf (kf h a) b).objs.size,.ref (oE h a b).objs.size] }
theorem iY (a b:Addr)(xs ys:Array Value):Meets (Builtin.«zip.__new__» ⟨[.type "zip",.ref a,.ref b],[]⟩) (fun _ R s=>s.heap.IsTuple a xs/\s.heap.IsTuple b ys/\R (.ok (.ret (.ref (oF s.heap a b).objs.size))) { s with heap:=m4 s.heap a b }) :=
 .of_wp fun prog w A R s h=>by
  obtain⟨hp,g,d,tk,os⟩:=s;obtain⟨ha,hb,h⟩:=h;have su:=sub_zip;have ta:Heap.IsTuple (Shared.heap ⟨hp,g,d,tk,os⟩) a xs:=ha;have tb:Heap.IsTuple (Shared.heap ⟨kf hp a,g,d,tk,os⟩) b ys:=Heap.IsTuple.at hb fun o e=>Heap.get?_push_of_some _ e
  wp_walk using rh ta,rh tb
  exact⟨_,rfl,h⟩
theorem jV {a b:Addr}{xs ys:Array Value}{Q:Value->Shared->Prop}(ha:s.heap.IsTuple a xs)(hb:s.heap.IsTuple b ys)
  (k:∀ h',IsZip h' (s.heap.objs.size+4) (s.heap.objs.size+2) (s.heap.objs.size+3) .none->IsPair h' (s.heap.objs.size+2) (.ref s.heap.objs.size) (.ref (s.heap.objs.size+1)) ->
   IsPair h' (s.heap.objs.size+3) .none .none->h'.IsTupleIter s.heap.objs.size a 0->h'.IsTupleIter (s.heap.objs.size+1) b 0->h'.objs.size=s.heap.objs.size+5 ->
   (∀ c o,s.heap.get? c=some o->h'.get? c=some o)->Q (.ref (s.heap.objs.size+4)) { s with heap:=h' }) :
  wpAny (model prog w) A (call (.type "zip") [.ref a,.ref b]) Q E s:=by
 refine callType_new F.called_zip (by decide) (F.typeCall_zip_2 _ _) (F.newCall_zip_2 _ _) (fun obj=>F.args_object_init_3 obj _ _) F.entry_zip_new (iY a b xs ys) ⟨ha,hb,?_⟩;have e1:(kf s.heap a).objs.size=s.heap.objs.size+1:=qB ..
 have e2:(kf (kf s.heap a) b).objs.size=s.heap.objs.size+2:=by rw[qB,e1]
 have e3:(oE s.heap a b).objs.size=s.heap.objs.size+3:=by rw[qB,e2]
 have e4:(oF s.heap a b).objs.size=s.heap.objs.size+4:=by rw[qB,e3]
 have e5:(m4 s.heap a b).objs.size=s.heap.objs.size+5:=by rw[qB,e4]
 have g5:(m4 s.heap a b).get? (oF s.heap a b).objs.size=some _:=Heap.get?_push_size _ rfl;have g4:(m4 s.heap a b).get? (oE s.heap a b).objs.size=some _:=Heap.get?_push_of_some _ (Heap.get?_push_size _ rfl);have g3:(m4 s.heap a b).get? (kf (kf s.heap a) b).objs.size=some _:=Heap.get?_push_of_some _ (Heap.get?_push_of_some _ (Heap.get?_push_size _ rfl));have g2:(m4 s.heap a b).get? (kf s.heap a).objs.size=some _:=Heap.get?_push_of_some _ (Heap.get?_push_of_some _ (Heap.get?_push_of_some _ (Heap.get?_push_size _ rfl)));have g1:(m4 s.heap a b).get? s.heap.objs.size=some _:=Heap.get?_push_of_some _ (Heap.get?_push_of_some _ (Heap.get?_push_of_some _ (Heap.get?_push_of_some _ (Heap.get?_push_size _ rfl))))
 show _/\_
 rw[e2,e3,e4]at g5;rw[e1,e2]at g3;rw[e3]at g4;rw[e1]at g2;rw[e4];exact⟨⟨_,g5,rfl⟩,k _ g5 g3 g4 ⟨_,g1,rfl,rfl⟩ ⟨_,g2,rfl,rfl⟩ e5 fun c o e=>Heap.get?_push_of_some _ (Heap.get?_push_of_some _ (Heap.get?_push_of_some _ (Heap.get?_push_of_some _ (Heap.get?_push_of_some _ e))))⟩
theorem jp {z TI TO i1 i2 l1 l2 T:Addr}{k1 k2:Nat}{b:Bool}{oT:Obj}{xs ys:Array Value}{x y:Value}{Q:Value->Shared->Prop}(D:ZipApart z TI TO i1 i2 l1 l2)
  (hz:li s.heap z TI TO (rawInt T) b) (hT:s.heap.get? T=some oT) (hTI:IsPair s.heap TI (.ref i1) (.ref i2))
  (h1:s.heap.IsTupleIter i1 l1 k1) (h2:s.heap.IsTupleIter i2 l2 k2) (hl1:s.heap.IsTuple l1 xs) (hl2:s.heap.IsTuple l2 ys) (hx:xs[k1]? = some x) (hy:ys[k2]? = some y)
  (hQ:∀ h',li h' z TI TO (rawInt T) true->h'.IsTupleIter i1 l1 (k1+1)->h'.IsTupleIter i2 l2 (k2+1)->IsPair h' s.heap.objs.size x y->h'.objs.size=s.heap.objs.size+1 ->
   (∀ c o,c≠z->c≠i1->c≠i2->s.heap.get? c=some o->h'.get? c=some o)->Q (.ref s.heap.objs.size) { s with heap:=h' }) :
  wpAny (model prog w) A (Builtin.«zip.__next__» ⟨[.ref z],[]⟩) (fun fin s'=>∃ v,fin=.done (.ret v)/\Q v s') E s:=by
 show wpAny _ _ (field (.ref z) 2 >>= _) _ _ _
 refine qc (qw hz rfl (x:=.bool false) rfl ?_)
 show wpAny _ _ (field (.ref z) 3 >>= _) _ _ _
 refine qc (qw hz rfl (x:=.ref TI) rfl ?_);refine qc (qP hTI rfl ?_)
 show wpAny _ _ (Builtin.SmallTypes.ownedTupleIsFree (.ref z) >>= _) _ _ _
 refine qc (iu hz hT fun h₁ hz₁ hs₁=>?_);simp only[Bool.false_eq_true,if_false];refine qc ?_;simp only[List.forIn_toArray,List.forIn_cons,List.forIn_nil];refine qc (qc (rg ?_))
 show wpAny _ _ (Builtin.SmallTypes.nextOf (.ref i1) >>= _) _ _ _
 refine qc (bI (h1.extBut hs₁.extBut D.i1z) (hl1.extBut hs₁.extBut D.l1z) hx fun h₂ h1₂ hs₂=>qe (qe ?_));refine qc (qc (rg ?_))
 show wpAny _ _ (Builtin.SmallTypes.nextOf (.ref i2) >>= _) _ _ _
 refine qc (bI ((h2.extBut hs₁.extBut D.i2z).extBut hs₂.extBut D.i12.symm) ((hl2.extBut hs₁.extBut D.l2z).extBut hs₂.extBut D.l2i1) hy fun h₄ h2₄ hs₄=>qe (qe (qe ?_)));refine qc (wpAny_newTuple ?_ (by show 2<=sizeLine;decide))
 have hsz:h₄.objs.size=s.heap.objs.size:=by rw[hs₄.1,hs₂.1,hs₁.1]
 refine qe ⟨_,rfl,?_⟩
 show Q (.ref h₄.objs.size) _
 rw[hsz];have up:∀ {c:Addr}{o:Obj},h₄.get? c=some o->(h₄.push { cls:=.type "tuple",data:=.seq #[x,y] }).get? c=some o:=fun e=>Heap.get?_push_of_some _ e;refine hQ _ (up (hs₄.extBut _ _ D.i2z.symm (hs₂.extBut _ _ D.i1z.symm hz₁))) ((h1₂.extBut hs₄.extBut D.i12).at fun o e=>up e) (h2₄.at fun o e=>up e) ?_ (by rw[qB,hsz]) fun c o c1 c2 c3 e=>up (hs₄.extBut _ _ c3 (hs₂.extBut _ _ c2 (hs₁.extBut _ _ c1 e)));rw[<-hsz];exact Heap.get?_push_size _ rfl
theorem kc {z TI TO i1 i2 l1 l2 T:Addr}{k1 k2:Nat}{b:Bool}{oT:Obj}{xs ys:Array Value}{x:Value}{Q:Fin->Shared->Prop}(hh:A.handled=none)(D:ZipApart z TI TO i1 i2 l1 l2)
  (hz:li s.heap z TI TO (rawInt T) b) (hT:s.heap.get? T=some oT) (hTI:IsPair s.heap TI (.ref i1) (.ref i2))
  (h1:s.heap.IsTupleIter i1 l1 k1) (h2:s.heap.IsTupleIter i2 l2 k2) (hl1:s.heap.IsTuple l1 xs) (hl2:s.heap.IsTuple l2 ys) (hx:xs[k1]? = some x) (hy:ys[k2]? = none)
  (hE:∀ h' e,(∀ c o,c≠z->c≠i1->c≠i2->s.heap.get? c=some o->h'.get? c=some o)->(∃ o,h'.get? e=some o/\o.cls=.type "StopIteration")->E (.ref e) { s with heap:=h' }) :
  wpAny (model prog w) A (Builtin.«zip.__next__» ⟨[.ref z],[]⟩) Q E s:=by
 show wpAny _ _ (field (.ref z) 2 >>= _) _ _ _
 refine qc (qw hz rfl (x:=.bool false) rfl ?_)
 show wpAny _ _ (field (.ref z) 3 >>= _) _ _ _
 refine qc (qw hz rfl (x:=.ref TI) rfl ?_);refine qc (qP hTI rfl ?_)
 show wpAny _ _ (Builtin.SmallTypes.ownedTupleIsFree (.ref z) >>= _) _ _ _
 refine qc (iu hz hT fun h₁ hz₁ hs₁=>?_);simp only[Bool.false_eq_true,if_false];refine qc ?_;simp only[List.forIn_toArray,List.forIn_cons,List.forIn_nil];refine qc (qc (rg ?_))
 show wpAny _ _ (Builtin.SmallTypes.nextOf (.ref i1) >>= _) _ _ _
 refine qc (bI (h1.extBut hs₁.extBut D.i1z) (hl1.extBut hs₁.extBut D.l1z) hx fun h₂ h1₂ hs₂=>qe (qe ?_));refine qc (qc (rg ?_))
 show wpAny _ _ (Builtin.SmallTypes.nextOf (.ref i2) >>= _) _ _ _
 refine qc (eM hh ((h2.extBut hs₁.extBut D.i2z).extBut hs₂.extBut D.i12.symm) ((hl2.extBut hs₁.extBut D.l2z).extBut hs₂.extBut D.l2i1) hy fun h₄ e hs₄ he=>?_);exact hE h₄ e (fun c o c1 c2 c3 x=>hs₄ _ _ c3 (hs₂.extBut _ _ c2 (hs₁.extBut _ _ c1 x))) he
theorem iq {z TI TO i1 i2 l1 l2 T:Addr}{k1 k2:Nat}{b:Bool}{oT:Obj}{xs ys:Array Value}{x y:Value}{Q:Option Value->Shared->Prop}(D:ZipApart z TI TO i1 i2 l1 l2)
  (hz:li s.heap z TI TO (rawInt T) b) (hT:s.heap.get? T=some oT) (hTI:IsPair s.heap TI (.ref i1) (.ref i2))
  (h1:s.heap.IsTupleIter i1 l1 k1) (h2:s.heap.IsTupleIter i2 l2 k2) (hl1:s.heap.IsTuple l1 xs) (hl2:s.heap.IsTuple l2 ys) (hx:xs[k1]? = some x) (hy:ys[k2]? = some y)
  (hQ:∀ h',li h' z TI TO (rawInt T) true->h'.IsTupleIter i1 l1 (k1+1)->h'.IsTupleIter i2 l2 (k2+1)->IsPair h' s.heap.objs.size x y->h'.objs.size=s.heap.objs.size+1 ->
   (∀ c o,c≠z->c≠i1->c≠i2->s.heap.get? c=some o->h'.get? c=some o)->Q (some (.ref s.heap.objs.size)) { s with heap:=h' }) :
  wpAny (model prog w) A (pyNext (.ref z)) Q E s:=by
 have hTy:s.TypeIs (.ref z) "zip":=⟨_,hz,rfl⟩;unfold pyNext
 exact qc (wpAny_attempt (wpAny_callSpecial?_slot (name:=Str.ofString "__next__") hTy rk
  (qU rk hTy F.entry_zip_next
   (jp D hz hT hTI h1 h2 hl1 hl2 hx hy fun h' a1 a3 a4 a5 a6 a7=>qe (hQ h' a1 a3 a4 a5 a6 a7)) (F.args_zip_next_1 _))))
theorem i8 {z TI TO i1 i2 l1 l2 T:Addr}{k1 k2:Nat}{b:Bool}{oT:Obj}{xs ys:Array Value}{x:Value}{Q:Option Value->Shared->Prop}(hh:A.handled=none)(D:ZipApart z TI TO i1 i2 l1 l2)
  (hz:li s.heap z TI TO (rawInt T) b) (hT:s.heap.get? T=some oT) (hTI:IsPair s.heap TI (.ref i1) (.ref i2))
  (h1:s.heap.IsTupleIter i1 l1 k1) (h2:s.heap.IsTupleIter i2 l2 k2) (hl1:s.heap.IsTuple l1 xs) (hl2:s.heap.IsTuple l2 ys) (hx:xs[k1]? = some x) (hy:ys[k2]? = none)
  (hQ:∀ h',(∀ c o,c≠z->c≠i1->c≠i2->s.heap.get? c=some o->h'.get? c=some o)->Q none { s with heap:=h' }):wpAny (model prog w) A (pyNext (.ref z)) Q E s:=by
 have hTy:s.TypeIs (.ref z) "zip":=⟨_,hz,rfl⟩;unfold pyNext
 refine qc (wpAny_attempt (wpAny_callSpecial?_slot (name:=Str.ofString "__next__") hTy rk
  (qU rk hTy F.entry_zip_next (kc hh D hz hT hTI h1 h2 hl1 hl2 hx hy fun h' e hk he=>?_) (F.args_zip_next_1 _))))
 obtain⟨o,ho,hc⟩:=he;refine qc (wpAny_isInstance (T:="StopIteration") (b:=true) ⟨o,ho,hc⟩ isSubtype_stop ?_);exact qe (hQ _ hk)
theorem ke {R:Result->Shared->Prop}{z TI TO i1 i2 l1 l2 S:Addr}{xs ys:Array Value}(hh:A.handled=none)(D:ZipApart z TI TO i1 i2 l1 l2)(hxy:ys.size<xs.size)(hn:ys.size<=sizeLine)(res:Value)
  (hS1:S≠z) (hS2:S≠i1) (hS3:S≠i2) (hS4:S≠l1) (hS5:S≠l2) (hS6:S≠TI) :
  ∀ (k i:Nat)(s:Shared)(acc:List Addr)(arr:Array Value)(c:Nat)(T:Addr)(b:Bool),arr=(acc.map Value.ref).toArray->ys.size-i=k->i<=ys.size->li s.heap z TI TO (rawInt T) b->T∈acc->IsPair s.heap TI (.ref i1) (.ref i2) ->
  s.heap.IsTupleIter i1 l1 i->s.heap.IsTupleIter i2 l2 i->s.heap.IsTuple l1 xs->s.heap.IsTuple l2 ys->s.heap.get? S=some { cls:=.type "list",dict:=none,data:=.seq arr c,slots:=#[] }->acc.length=i ->
  (∀ (j:Nat)(t:Addr),acc[j]? = some t->∃ x y,xs[j]? = some x/\ys[j]? = some y/\IsPair s.heap t x y)->(∀ t∈acc,t≠z/\t≠i1/\t≠i2/\t≠S)->acc.Nodup->(∀ t∈acc,t<s.heap.objs.size) ->
  (∀ (h':Heap)(acc':List Addr)(c':Nat),(∀ b o,b≠S->b≠z->b≠i1->b≠i2->s.heap.get? b=some o->h'.get? b=some o)->h'.get? S=some { cls:=.type "list",dict:=none,data:=.seq (acc'.map Value.ref).toArray c',slots:=#[] }->acc'.length=ys.size->acc'.Nodup ->
   (∀ t∈acc',t∈acc\/s.heap.objs.size<=t)->(∀ (j:Nat)(t:Addr),acc'[j]? = some t->∃ x y,xs[j]? = some x/\ys[j]? = some y/\IsPair h' t x y)->(∀ t∈acc',t≠S)->R (.ok (.ret res)) { s with heap:=h' }) ->
  codeAny (model prog w) A (.builtin "list.extend.loop" ⟨[.ref S,.ref z,res],[]⟩) R s:=by
 intro k
 induction k with
 | zero =>
  intro i s acc arr c T b harr hk hi hz hT hTI h1 h2 hl1 hl2 hS hlen hacc hap nd hlt hR
  have hin:i=ys.size:=by omega
  obtain⟨oT,hoT⟩:∃ o,s.heap.get? T=some o:=by
   obtain⟨j,hj⟩:=List.getElem?_of_mem hT;obtain⟨_,_,_,_,p⟩:=hacc j T hj;exact⟨_,p⟩
  refine codeAny_builtin F.entry_extend_loop ?_;rw[Around.under_plainId qT _]
  show wpAny _ A.in1 (pyNext (.ref z) >>= _) _ _ s
  refine qc (i8 (A:=A.in1) hh D hz hoT hTI h1 h2 hl1 hl2 (Array.getElem?_eq_getElem (by omega)) (Array.getElem?_eq_none (by omega)) fun h' hk'=>?_);refine qe (hR h' acc c (fun b o _ b1 b2 b3 e=>hk' b o b1 b2 b3 e) (by rw[<-harr];exact hk' _ _ hS1 hS2 hS3 hS) (by omega) nd (fun t ht=>.inl ht) (fun j t e=>?_) fun t ht=>(hap t ht).2.2.2);obtain⟨x,y,e1,e2,p⟩:=hacc j t e;have ha:=hap t (qR e);exact⟨x,y,e1,e2,hk' _ _ ha.1 ha.2.1 ha.2.2.1 p⟩
 | succ k ih =>
  intro i s acc arr c T b harr hk hi hz hT hTI h1 h2 hl1 hl2 hS hlen hacc hap nd hlt hR
  obtain⟨oT,hoT⟩:∃ o,s.heap.get? T=some o:=by
   obtain⟨j,hj⟩:=List.getElem?_of_mem hT;obtain⟨_,_,_,_,p⟩:=hacc j T hj;exact⟨_,p⟩
  refine codeAny_builtin F.entry_extend_loop ?_;rw[Around.under_plainId qT _]
  show wpAny _ A.in1 (pyNext (.ref z) >>= _) _ _ s
  have ex:xs[i]? = some xs[i]:=Array.getElem?_eq_getElem (by omega);have ey:ys[i]? = some ys[i]:=Array.getElem?_eq_getElem (by omega);refine qc (iq (A:=A.in1) D hz hoT hTI h1 h2 hl1 hl2 ex ey fun h' z' i1' i2' pn sz keep=>?_);have hS':=keep _ _ hS1 hS2 hS3 hS
  show wpAny _ A.in1 (updateSeq S (·.push (.ref s.heap.objs.size)) >>= _) _ _ _
  refine qc ?_
  have hsa:arr.size=i:=by rw[harr];simp[hlen]
  obtain⟨h2',eh2⟩:∃ h2',h2'=h'.update S (Obj.mapSeq (·.push (Value.ref s.heap.objs.size))):=⟨_,rfl⟩
  have up:∀ b o,b≠S->h'.get? b=some o->h2'.get? b=some o:=fun b o hb e=>by rw[eh2];exact (Heap.get?_update_other _ _ (fun z=>hb z.symm)).trans e
  have hSn:S<s.heap.objs.size:=qd hS;have hzlt:z<s.heap.objs.size:=qd hz
  have hi1lt:i1<s.heap.objs.size:=by obtain⟨_,e,_⟩:=h1;exact qd e
  have hi2lt:i2<s.heap.objs.size:=by obtain⟨_,e,_⟩:=h2;exact qd e
  have sz2:h2'.objs.size=s.heap.objs.size+1:=by rw[eh2,Heap.size_update,sz]
  refine wpAny_updateSeq hS' rfl (qe ⟨plainId_quiet qT _,?_⟩) (by rw[hsa];omega) (by show (arr.push _).size<=sizeLine+1;rw[Array.size_push,hsa];omega);rw[<-eh2];have kp:∀ b o,b≠S->b≠z->b≠i1->b≠i2->s.heap.get? b=some o->h2'.get? b=some o:=fun b o b0 b1 b2 b3 e=>up b o b0 (keep b o b1 b2 b3 e)
  refine ih (i+1) { s with heap:=h2' } (acc++[s.heap.objs.size]) (arr.push (.ref s.heap.objs.size)) _ T true (by rw[harr];simp) (by omega) (by omega) (up _ _ hS1.symm z') (List.mem_append_left _ hT) (kp _ _ hS6.symm D.TIz D.TIi1 D.TIi2 hTI) (i1'.at fun o e=>up _ _ hS2.symm e) (i2'.at fun o e=>up _ _ hS3.symm e)
   (hl1.at fun o e=>kp _ _ hS4.symm D.l1z D.l1i1 D.l1i2 e) (hl2.at fun o e=>kp _ _ hS5.symm D.l2z D.l2i1 D.l2i2 e) (by show h2'.get? S=_;rw[eh2];exact Heap.get?_update_self _ hS' rfl) (by simp[hlen]) (fun j t e=>?_) (fun t ht=>?_) ?_ (fun t ht=>?_) fun h3 acc' c' k3 s3 l3 n3 m3 p3 f3=>?_
  ·rw[List.getElem?_append]at e
   split at e
   ·obtain⟨x,y,e1,e2,p⟩:=hacc j t e
    have ha:=hap t (qR e);exact⟨x,y,e1,e2,kp _ _ ha.2.2.2 ha.1 ha.2.1 ha.2.2.1 p⟩
   ·rename_i hj
    have hj0:j=i:=by
     have:=(List.getElem?_eq_some_iff.mp e).1;simp at this;omega
    subst hj0;rw[hlen,Nat.sub_self]at e;cases e;exact⟨_,_,ex,ey,up _ _ (qA hSn) pn⟩
  ·rcases qX.mp ht with q | q
   ·exact hap t q
   ·rw[qD.mp q];exact⟨qA hzlt,qA hi1lt,qA hi2lt,qA hSn⟩
  ·refine List.nodup_append.mpr ⟨nd,by simp,fun a ha b hb=>?_⟩
   rw[qD.mp hb];exact qk (hlt a ha)
  ·show t<h2'.objs.size
   rw[sz2];rcases qX.mp ht with q | q
   ·exact Nat.lt_succ_of_lt (hlt t q)
   ·rw[qD.mp q];exact Nat.lt_succ_self _
  ·refine hR h3 acc' c' (fun b o b0 b1 b2 b3 e=>k3 b o b0 b1 b2 b3 (kp b o b0 b1 b2 b3 e)) s3 l3 n3 (fun t ht=>?_) p3 f3
   rcases m3 t ht with q | q
   ·rcases qX.mp q with q | q
    ·exact .inl q
    ·rw[qD.mp q];exact .inr (qj _)
   ·right;have q:h2'.objs.size<=t:=q;omega
theorem jr {R:Result->Shared->Prop}{z TI TO i1 i2 l1 l2 S:Addr}{xs ys:Array Value}(hh:A.handled=none)(D:ZipApart z TI TO i1 i2 l1 l2)(hxy:ys.size<xs.size)(h0:0<ys.size)(hn:ys.size<=sizeLine)(res:Value)
  (hS1:S≠z) (hS2:S≠i1) (hS3:S≠i2) (hS4:S≠l1) (hS5:S≠l2) (hS6:S≠TI) (hS7:S≠TO) {a b:Value} {c:Nat} (hz:IsZip s.heap z TI TO .none) (hTI:IsPair s.heap TI (.ref i1) (.ref i2)) (hTO:IsPair s.heap TO a b)
  (h1:s.heap.IsTupleIter i1 l1 0) (h2:s.heap.IsTupleIter i2 l2 0) (hl1:s.heap.IsTuple l1 xs) (hl2:s.heap.IsTuple l2 ys) (hS:s.heap.get? S=some { cls:=.type "list",dict:=none,data:=.seq #[] c,slots:=#[] })
  (hR:∀ (h':Heap)(acc':List Addr)(c':Nat),(∀ b o,b≠S->b≠z->b≠TO->b≠i1->b≠i2->s.heap.get? b=some o->h'.get? b=some o)->h'.get? S=some { cls:=.type "list",dict:=none,data:=.seq (acc'.map Value.ref).toArray c',slots:=#[] }->acc'.length=ys.size->acc'.Nodup ->
   (∀ t∈acc',s.heap.objs.size<=t)->(∀ (j:Nat)(t:Addr),acc'[j]? = some t->∃ x y,xs[j]? = some x/\ys[j]? = some y/\IsPair h' t x y)->R (.ok (.ret res)) { s with heap:=h' }) :
  codeAny (model prog w) A (.builtin "list.extend.loop" ⟨[.ref S,.ref z,res],[]⟩) R s:=by
 refine codeAny_builtin F.entry_extend_loop ?_;rw[Around.under_plainId qT _]
 show wpAny _ A.in1 (pyNext (.ref z) >>= _) _ _ s
 have ex:xs[0]? = some xs[0]:=Array.getElem?_eq_getElem (by omega);have ey:ys[0]? = some ys[0]:=Array.getElem?_eq_getElem (by omega);refine qc (jq (A:=A.in1) D hz hTI hTO h1 h2 hl1 hl2 ex ey fun h' z' _ i1' i2' pn sz keep=>?_);have hS':=keep _ _ hS1 hS7 hS2 hS3 hS
 show wpAny _ A.in1 (updateSeq S (·.push (.ref s.heap.objs.size)) >>= _) _ _ _
 refine qc ?_;obtain⟨h2',eh2⟩:∃ h2',h2'=h'.update S (Obj.mapSeq (·.push (Value.ref s.heap.objs.size))):=⟨_,rfl⟩
 have up:∀ b o,b≠S->h'.get? b=some o->h2'.get? b=some o:=fun b o hb e=>by rw[eh2];exact (Heap.get?_update_other _ _ (fun z=>hb z.symm)).trans e
 have hSn:S<s.heap.objs.size:=qd hS;have hzlt:z<s.heap.objs.size:=qd hz
 have hi1lt:i1<s.heap.objs.size:=by obtain⟨_,e,_⟩:=h1;exact qd e
 have hi2lt:i2<s.heap.objs.size:=by obtain⟨_,e,_⟩:=h2;exact qd e
 have sz2:h2'.objs.size=s.heap.objs.size+1:=by rw[eh2,Heap.size_update,sz]
 refine wpAny_updateSeq hS' rfl (qe ⟨plainId_quiet qT _,?_⟩) (qH _) (by show (1:Nat)<=sizeLine+1;omega);rw[<-eh2];have kp:∀ b o,b≠S->b≠z->b≠TO->b≠i1->b≠i2->s.heap.get? b=some o->h2'.get? b=some o:=fun b o b0 b1 b2 b3 b4 e=>up b o b0 (keep b o b1 b2 b3 b4 e)
 refine ke hh D hxy hn res hS1 hS2 hS3 hS4 hS5 hS6 (ys.size-1) 1 { s with heap:=h2' } [s.heap.objs.size] #[.ref s.heap.objs.size] _ s.heap.objs.size false rfl (by omega) (by omega) (up _ _ hS1.symm z') qy (kp _ _ hS6.symm D.TIz D.TITO D.TIi1 D.TIi2 hTI) (i1'.at fun o e=>up _ _ hS2.symm e) (i2'.at fun o e=>up _ _ hS3.symm e)
  (hl1.at fun o e=>kp _ _ hS4.symm D.l1z D.l1TO D.l1i1 D.l1i2 e) (hl2.at fun o e=>kp _ _ hS5.symm D.l2z D.l2TO D.l2i1 D.l2i2 e) (by show h2'.get? S=_;rw[eh2];exact Heap.get?_update_self _ hS' rfl) rfl (fun j t e=>?_) (fun t ht=>?_) (by simp) (fun t ht=>?_) fun h3 acc' c' k3 s3 l3 n3 m3 p3 f3=>?_
 ·cases j with
  | zero=>cases e;exact⟨_,_,ex,ey,up _ _ (qA hSn) pn⟩
  | succ j=>simp at e
 ·rw[qD.mp ht];exact⟨qA hzlt,qA hi1lt,qA hi2lt,qA hSn⟩
 ·show t<h2'.objs.size
  rw[sz2,qD.mp ht];exact Nat.lt_succ_self _
 ·refine hR h3 acc' c' (fun b o b0 b1 b2 b3 b4 e=>k3 b o b0 b1 b3 b4 (kp b o b0 b1 b2 b3 b4 e)) s3 l3 n3 (fun t ht=>?_) p3
  rcases m3 t ht with q | q
  ·rw[qD.mp q];exact qj _
  ·have q:h2'.objs.size<=t:=q;omega
theorem fO {Q:Value->Shared->Prop}{z TI TO i1 i2 l1 l2:Addr}{xs ys:Array Value}(hh:A.handled=none)(D:ZipApart z TI TO i1 i2 l1 l2)(hxy:ys.size<xs.size)(h0:0<ys.size)(hn:ys.size<=sizeLine){a b:Value}
  (hz:IsZip s.heap z TI TO .none) (hTI:IsPair s.heap TI (.ref i1) (.ref i2)) (hTO:IsPair s.heap TO a b)
  (h1:s.heap.IsTupleIter i1 l1 0) (h2:s.heap.IsTupleIter i2 l2 0) (hl1:s.heap.IsTuple l1 xs) (hl2:s.heap.IsTuple l2 ys)
  (hQ:∀ (h':Heap)(acc':List Addr)(c':Nat),(∀ b o,b≠z->b≠TO->b≠i1->b≠i2->s.heap.get? b=some o->h'.get? b=some o)->h'.get? s.heap.objs.size=some { cls:=.type "list",dict:=none,data:=.seq (acc'.map Value.ref).toArray c',slots:=#[] }->acc'.length=ys.size->acc'.Nodup ->
   (∀ t∈acc',s.heap.objs.size<t)->(∀ (j:Nat)(t:Addr),acc'[j]? = some t->∃ x y,xs[j]? = some x/\ys[j]? = some y/\IsPair h' t x y)->Q (.ref s.heap.objs.size) { s with heap:=h' }) :
  wpAny (model prog w) A (call (.type "list") [.ref z]) Q E s:=by
 refine callType_codes (Q₁:=fun obj s1=>obj=.ref s.heap.objs.size/\s1={ s with heap:=s.heap.push { cls:=.type "list",data:=.seq #[] } }) PySem.F.called_list (PySem.F.typeCall_list_1 _) PySem.F.entry_list_init (code_list_new _ ⟨rfl,rfl⟩) fun obj s1 he=>?_;obtain⟨rfl,rfl⟩:=he;have hS:(s.heap.push { cls:=.type "list",data:=.seq #[] }).get? s.heap.objs.size=some { cls:=.type "list",data:=.seq #[] }:=Heap.get?_push_size _ rfl;refine⟨⟨_,hS,rfl⟩,PySem.F.args_list_init_2 _ _,?_⟩
 show wpAny _ _ (do let old <-Builtin.List.listItems (.ref s.heap.objs.size);Builtin.List.listUpdate (.ref s.heap.objs.size) (fun _=>#[]);letGo old.toList.reverse;Builtin.List.listExtendWith (.ref s.heap.objs.size) (.ref z) .none) _ _ _
 refine qc ?_;unfold Builtin.List.listItems;refine qc (qP hS rfl (qe ?_))
 show wpAny _ _ (updateSeq s.heap.objs.size (fun _=>#[]) >>= fun _=>letGo (#[]:Array Value).toList.reverse >>= fun _=>Builtin.List.listExtendWith (.ref s.heap.objs.size) (.ref z) .none) _ _ _
 refine qc (wpAny_updateSeq hS rfl ?_);have hS2:=Heap.get?_update_self (Obj.mapSeq (fun _=>(#[]:Array Value))) hS rfl
 have oth:∀ b o,s.heap.get? b=some o->((s.heap.push { cls:=.type "list",data:=.seq #[] }).update s.heap.objs.size (Obj.mapSeq (fun _=>(#[]:Array Value)))).get? b=some o :=
  fun b o e=>(Heap.get?_update_other _ _ (qA (qd e))).trans (Heap.get?_push_of_some _ e)
 have szz:((s.heap.push { cls:=.type "list",data:=.seq #[] }).update s.heap.objs.size (Obj.mapSeq (fun _=>(#[]:Array Value)))).objs.size=s.heap.objs.size+1:=by rw[Heap.size_update,qB]
 refine qc (wpAny_letGo ?_);generalize (s.heap.push { cls:=.type "list",data:=.seq #[] }).update s.heap.objs.size (Obj.mapSeq (fun _=>(#[]:Array Value)))=g at hS2 oth szz ⊢;have zlt:z≠s.heap.objs.size:=qk (qd hz);have hT:Shared.TypeIs { s with heap:=g } (.ref z) "zip":=⟨_,oth _ _ hz,rfl⟩;unfold Builtin.List.listExtendWith;refine qc (wpAny_typeOf (T:="zip") hT ?_)
 have q1:Builtin.List.listSameRef (.ref s.heap.objs.size) (.ref z)=false:=by simp[Builtin.List.listSameRef,zlt.symm]
 have q2:(Value.type "zip" == Value.type "list")=false:=by decide
 have q3:(Value.type "zip" == Value.type "tuple")=false:=by decide
 simp only[q1,q2,q3,Bool.or_false,Bool.false_eq_true,if_false];refine qc (wpAny_pyIter_zip (oth _ _ hz) ?_);refine qc (rg ?_);unfold Builtin.List.listLengthHint;refine qc (wpAny_specialOf hT lN ?_)
 show wpAny _ _ (specialOf (Value.ref z) (Str.ofString "__length_hint__") >>= _) _ _ _
 refine qc (wpAny_specialOf hT k9 ?_);refine qe ?_
 show wpAny _ _ (rule "list.extend.makes-room" >>= fun _=>Builtin.List.listTouch (.ref s.heap.objs.size) >>= fun _ =>
  again (.builtin "list.extend.loop" ⟨[.ref s.heap.objs.size,.ref z,.none],[]⟩)) _ _ _
 refine qc (wpAny_rule ?_);refine qc ?_
 show wpAny _ _ (updateSeq s.heap.objs.size (·.push .none) >>= fun _=>updateSeq s.heap.objs.size (·.pop)) _ _ _
 refine qc (wpAny_updateSeq hS2 rfl ?_);have hS₂:=Heap.get?_update_self (Obj.mapSeq (·.push Value.none)) hS2 rfl;refine wpAny_updateSeq hS₂ rfl ?_;have hS₃:=Heap.get?_update_self (Obj.mapSeq (·.pop)) hS₂ rfl
 have oth2:∀ b o,s.heap.get? b=some o->((g.update s.heap.objs.size (Obj.mapSeq (·.push Value.none))).update s.heap.objs.size (Obj.mapSeq (·.pop))).get? b=some o :=
  fun b o e=>(Heap.get?_update_other _ _ (qA (qd e))).trans ((Heap.get?_update_other _ _ (qA (qd e))).trans (oth b o e))
 have szz2:((g.update s.heap.objs.size (Obj.mapSeq (·.push Value.none))).update s.heap.objs.size (Obj.mapSeq (·.pop))).objs.size=s.heap.objs.size+1:=by rw[Heap.size_update,Heap.size_update,szz]
 generalize (g.update s.heap.objs.size (Obj.mapSeq (·.push Value.none))).update s.heap.objs.size (Obj.mapSeq (·.pop))=g2 at hS₃ oth2 szz2 ⊢
 have li1:i1≠s.heap.objs.size:=by obtain⟨_,e,_⟩:=h1;exact qk (qd e)
 have li2:i2≠s.heap.objs.size:=by obtain⟨_,e,_⟩:=h2;exact qk (qd e)
 have ll1:l1≠s.heap.objs.size:=by obtain⟨_,e,_⟩:=hl1;exact qk (qd e)
 have ll2:l2≠s.heap.objs.size:=by obtain⟨_,e,_⟩:=hl2;exact qk (qd e)
 refine qe ⟨plainId_quiet qT _,?_⟩;refine jr (A:=A.in1) (s:={ s with heap:=g2 }) (S:=s.heap.objs.size) hh D hxy h0 hn .none zlt.symm li1.symm li2.symm ll1.symm ll2.symm (qA (qd hTI)) (qA (qd hTO)) (oth2 _ _ hz) (oth2 _ _ hTI) (oth2 _ _ hTO) (h1.at fun o e=>oth2 _ _ e) (h2.at fun o e=>oth2 _ _ e) (hl1.at fun o e=>oth2 _ _ e) (hl2.at fun o e=>oth2 _ _ e) hS₃ fun h' acc' c' k3 s3 l3 n3 m3 p3=>?_;refine⟨rfl,hQ h' acc' c' (fun b o b1 b2 b3 b4 e=>k3 b o (qk (qd e)) b1 b2 b3 b4 (oth2 b o e)) s3 l3 n3 (fun t ht=>?_) p3⟩;have:=m3 t ht;have this:g2.objs.size<=t:=this;omega
end
def ka (K:PySem.W.Frag)(t:TA):TE:=fun σ H Q=>t σ H fun vs H1=>∃ (a b:Addr)(xs ys:List V),vs=[.ref a,.ref b]/\aG K H1 a xs/\aG K H1 b ys/\ys.length<xs.length/\0<ys.length /\
 ∀ (l:Addr)(ts:List Addr)(H':Hp),H1 l=none->(∀ c o,H1 c=some o->H' c=some o)->H' l=some (.lst (ts.map V.ref))->Paired (fun t (p:V×V)=>H' t=some (.tup [p.1,p.2])) ts (xs.zip ys)->Q (.ref l) H'
theorem iB {X:Cx}{e:Expr}{es:List Expr}{t:TA}{p p2 pos pos2:Pos}(hc:X.calm=true)(ha:PA X (e::es) t)(hg:Gl X "list")(hm:X.mg "list" = none)(hg2:Gl X "zip")(hm2:X.mg "zip" = none)
  (he:starEach (e::es) X.env=(false,eval e X.env)::starEach es X.env:=by rfl) (hpl:(backTo pos2 (starEach es X.env)).any (·.1)=false:=by rfl)
  (hs2:starEach [.Call (.Name "zip" p2) (e::es) [] pos2] X.env=[(false,eval (.Call (.Name "zip" p2) (e::es) [] pos2) X.env)]:=by rfl) :
  PE X (.Call (.Name "list" p) [.Call (.Name "zip" p2) (e::es) [] pos2] [] pos) (ka X.K t):=by
 intro pins s σ H Q I h;refine qO (dN I hg hm boot_list ?_ (by decide) (by decide));refine qM ?_ hs2 rfl;rw[hs2];refine spliced_cons (qO (dN I hg2 hm2 boot_zip ?_ (by decide) (by decide)));refine qM (aU (ha pos2 pins s σ H _ I h) fun us s1 ⟨vs,H1,I1,r1,a,b,xs,ys,ev,hqa,hqb,hlt,h0,q⟩=>?_) he hpl;subst ev;obtain⟨u1,u2,rfl,ru1,ru2⟩:=r1.two;cases ru1;cases ru2;obtain⟨ita,rva,pla,hza⟩:=I1.tuple hqa;obtain⟨itb,rvb,plb,hzb⟩:=I1.tuple hqb;have la:=rva.length;have lb:=rvb.length;have pla:s1.heap.IsTuple a ita.toArray:=pla;have plb:s1.heap.IsTuple b itb.toArray:=plb
 have lta:a<s1.heap.objs.size:=by obtain⟨o,e,_⟩:=id pla;exact qd e
 have ltb:b<s1.heap.objs.size:=by obtain⟨o,e,_⟩:=id plb;exact qd e
 refine jV pla plb fun h1 z1 t1 t2 i1 i2 sz k1=>spliced_nil ?_;refine fO (s:={ s1 with heap:=h1 }) (I1.ok.hd hc) (zipApart_new lta ltb) (by simpa using (show itb.length<ita.length by omega)) (by simpa using (show 0<itb.length by omega)) (by simpa using (show itb.length<=sizeLine by omega)) z1 t1 t2 i1 i2 (Heap.IsTuple.at pla fun o e=>k1 _ _ e) (Heap.IsTuple.at plb fun o e=>k1 _ _ e) fun h' ts c' k2 s2 l2 n2 m2 p2=>?_
 have l2:ts.length=itb.length:=by simpa using l2
 have m2:∀ t∈ts,h1.objs.size<t:=m2;have s2:h'.get? h1.objs.size=some { cls:=.type "list",dict:=none,data:=.seq (ts.map Value.ref).toArray c',slots:=#[] }:=s2
 have kk:∀ c o,s1.heap.get? c=some o->h'.get? c=some o:=fun c o e=>by
  have hc:c<s1.heap.objs.size:=qd e;exact k2 c o (qk (qp hc (Nat.le_add_right _ _))) (qk (qp hc (Nat.le_add_right _ _))) (qk hc) (qk (qp hc (Nat.le_add_right _ _))) (k1 c o e)
 have ln:h1.objs.size∉ts:=fun hm=>re _ (m2 _ hm)
 have lz:(xs.zip ys).length=ts.length:=by rw[List.length_zip];omega
 have out:∀ c,c<s1.heap.objs.size->aA (dM H1 ts (xs.zip ys)) h1.objs.size (.lst (ts.map V.ref)) c=H1 c:=fun c hc=>by
  have hne:c≠h1.objs.size:=by omega
  have hnm:c∉ts:=fun hm=>by have:=m2 c hm;omega
  rw[ak hne,fT hnm]
 refine⟨.ref h1.objs.size,aA (dM H1 ts (xs.zip ys)) h1.objs.size (.lst (ts.map V.ref)),?_,rfl,?_⟩
 ·refine I1.grown kk (fun c u e n=>by rw[out c (qd e)];exact n) (fun c o e=>by rw[out c (I1.hok c o e).lt];exact e) fun c o e n=>?_
  by_cases hb:c=h1.objs.size
  ·subst hb
   rw[ac]at e;cases e;refine⟨by rw[qf];omega,ts.map Value.ref,c',?_,s2⟩
   exact hX (by simp) fun i y v e1 e2=>by
    rw[List.getElem?_map]at e1 e2
    cases hts:ts[i]? with
    | none=>rw[hts]at e1;cases e1
    | some t=>rw[hts]at e1 e2;cases e1;cases e2;exact rfl
  ·rw[ak hb]at e
   by_cases hm:c∈ts
   ·obtain⟨j,pp,e1,e2,rfl⟩:=jE n2 hm e n
    obtain⟨x,y,ex,ey,ip⟩:=p2 j c e1;obtain⟨f1,f2⟩:=List.getElem?_zip_eq_some.mp e2;obtain⟨v1,g1,w1⟩:=rva.get f1;obtain⟨v2,g2,w2⟩:=rvb.get f2
    have ex:ita[j]? = some x:=by simpa using ex
    have ey:itb[j]? = some y:=by simpa using ey
    rw[ex]at g1;cases g1;rw[ey]at g2;cases g2;exact⟨(show 2<=sizeLine by decide),[x,y],.cons w1 (.cons w2 .nil),⟨_,ip,rfl,_,rfl⟩⟩
   ·rw[fT hm,n]at e;cases e
 ·refine q _ ts _ (I1.hok.fresh (by omega)) (fun c o e=>by rw[out c (I1.hok c o e).lt];exact e) ac ?_
  have pr:=fU (H:=H1) n2 lz.symm
  have key:∀ {us:List Addr}{qs:List (V×V)}{R S:Addr->V×V->Prop},(∀ u∈us,∀ q,R u q->S u q)->Paired R us qs->Paired S us qs:=fun {us qs R S} hRS pr=>by
   induction pr with
   | nil=>exact .nil
   | cons r _ ih=>exact .cons (hRS _ qy _ r) (ih fun u hu=>hRS u (qr _ hu))
  exact key (fun u hu q e=>by rw[ak (fun z=>ln (by rw[<-z];exact hu))];exact e) pr
theorem lM {X:Cx}(K:PySem.W.Frag)(hK:X.K=K:=by rfl):oK X (nY K):=by subst hK;exact jk
end L2
namespace Wz
open PySem L2
inductive ax where
 | pair (a b:Int)
 | line (gs:List Int)
 | star (gs:List Int)
 | all (gs:List Int)
 | quad (a b c d:Int)
def ax.word:ax->Str
 | .pair _ _=>"pair"
 | .line _=>"line"
 | .star _=>"star"
 | .all _=>"all"
 | .quad _ _ _ _=>"quad"
def ax.gs:ax->List Int
 | .pair a b=>[a,b]
 | .line g=>g
 | .star g=>g
 | .all g=>g
 | .quad a b c d=>[a,b,c,d]
def ax.isP:ax->Bool
 | .pair _ _=>true
 | _=>false
def du:List Int->List (Int×Int)
 | []=>[]
 | g::gs=>gs.map (fun o=>(g,o))++du gs
def ax.row:ax->List (Int×Int)
 | .pair a b=>[(a,b)]
 | .line g=>g.zip (g.drop 1)
 | .star g=>(g.drop 1).map fun o=>(g.headD 0,o)
 | .all g=>du g
 | .quad a b c d=>lY a b c d
def ax.Ok (f:ax):Prop:=2<=f.gs.length/\f.gs.length<=60/\∀ a b c d,f=.quad a b c d->[a,b,c,d].Nodup
def bH (H:Hp)(p:Addr):ax->Prop
 | .pair a b=>H p=some (.tup [.str "pair",.int a,.int b])
 | f=>∃ q,H p=some (.tup [.str f.word,.ref q])/\H q=some (.tup (f.gs.map V.int))
theorem bH.gr {H:Hp}{p:Addr}{f:ax}(h:bH H p f)(n:f.isP=false):∃ q,H p=some (.tup [.str f.word,.ref q])/\H q=some (.tup (f.gs.map V.int)):=by
 cases f<;>first | exact h | cases n
theorem bH.of {H:Hp}{p q:Addr}{f:ax}(n:f.isP=false)(h1:H p=some (.tup [.str f.word,.ref q]))(h2:H q=some (.tup (f.gs.map V.int))):bH H p f:=by
 cases f<;>first | exact⟨q,h1,h2⟩ | cases n
theorem bH.hd {H:Hp}{p:Addr}{f:ax}(h:bH H p f):∃ xs,H p=some (.tup (.str f.word::xs)):=by
 cases f with
 | pair a b=>exact⟨_,h⟩
 | _=>obtain⟨q,e,_⟩:=h;exact⟨_,e⟩
theorem bH.mono {H H':Hp}{p:Addr}{f:ax}(h:bH H p f)(s:bo H H'):bH H' p f:=by
 cases f with
 | pair a b=>exact s _ _ h
 | _=>obtain⟨q,e1,e2⟩:=h;exact⟨q,s _ _ e1,s _ _ e2⟩
theorem ax.nw (f:ax):f.word≠"back"/\f.word≠"row"/\f.word≠"name":=by
 cases f<;>(dsimp only[ax.word];refine⟨?_,?_,?_⟩<;>decide +kernel)
theorem fV:∀ g:List Int,2*(du g).length=g.length*(g.length-1)
 | []=>rfl
 | a::g=>by
  have ih:=fV g
  show 2*(g.map (fun o=>(a,o))++du g).length=_
  rw[qz,qf,Nat.mul_add,ih,qN]
  cases hn:g.length with
  | zero=>rfl
  | succ m =>
   show 2*(m+1)+(m+1)*m=(m+1+1)*(m+1)
   rw[Nat.mul_comm 2,<-Nat.mul_add,Nat.add_comm 2,Nat.mul_comm]
theorem ax.rl {f:ax}(ok:f.Ok):f.row.length<=2000:=by
 have ok:=ok.2.1
 cases f with
 | pair a b=>show (1:Nat)<=2000;decide
 | line g=>show (g.zip (g.drop 1)).length<=2000;rw[List.length_zip];have:g.length<=60:=ok;omega
 | star g=>show ((g.drop 1).map _).length<=2000;rw[qf,qG];have:g.length<=60:=ok;omega
 | all g =>
  have h:=fV g;have:g.length<=60:=ok;have:=Nat.mul_le_mul this (show g.length-1<=59 by omega)
  show (du g).length<=2000
  omega
 | quad a b c d=>show (6:Nat)<=2000;decide
theorem RD.succ {K:PySem.W.Frag}{H:Hp}:∀ {n:Nat}{v:V}{d:Dt},RD K H n v d->RD K H (n+1) v d
 | 0,_,_,h=>.inl h
 | _+1,_,_,.inl h=>.inl h
 | _+1,_,_,.inr ⟨a,t,xs,ds,e1,e2,q,p⟩=>.inr ⟨a,t,xs,ds,e1,e2,q,Paired.mapP p fun _ _ z=>RD.succ z⟩
theorem eN {g:List V}(n:Nat)(hn:0<n)(hg:0<g.length):¬ (HT.sIx g.length 0 (some (n:Int))=0/\HT.sIx g.length g.length none=g.length):=by
 rw[HT.sIx_nat];omega
theorem eh {α β:Type}{R:Addr->β->Prop}{f:α->β}:∀ {ts:List Addr}{ps:List α},Paired R ts (ps.map f)->Paired (fun t p=>R t (f p)) ts ps
 | [],[],_=>.nil
 | [],_::_,h=>nomatch h
 | _::_,[],h=>nomatch h
 | _::_,_::_,.cons a b=>.cons a (eh b)
theorem lc (a b:List Int):(a.map V.int).zip (b.map V.int)=(a.zip b).map fun p=>(V.int p.1,V.int p.2):=by
 rw[List.zip_map];rfl
structure BA where
 dx:Addr
 d1:Addr
 d2:Addr
 d3:Addr
def mn (a b c:V):List (Str×V):=[("figures",a),("lengths",b),("rows",c)]
structure cv (C:Addr)(H:Hp)(b:Addr)(A:BA):Prop where
 ob:H b=some (.ins C A.dx (mn (.ref A.d1) (.ref A.d2) (.ref A.d3)))
 fg:H A.d1=some (.dK [])
theorem cv.mono {C:Addr}{H H':Hp}{b:Addr}{A:BA}(x:cv C H b A)(s:bo H H'):cv C H' b A:=⟨s _ _ x.ob,s _ _ x.fg⟩
theorem oS:¬ (("figures" : Str)="lengths"):=by decide +kernel
theorem pI:¬ (("figures" : Str)="rows"):=by decide +kernel
theorem pT:¬ (("lengths" : Str)="rows"):=by decide +kernel
theorem kh {a b c:V}:bJ "rows" c (bJ "lengths" b (bJ "figures" a []))=mn a b c:=by
 unfold mn;simp only[bJ];rw[qi oS];simp only[bJ];rw[qi pI,qi pT]
theorem mq {a b:V}:bJ "lengths" b (bJ "figures" a [])=([("figures",a),("lengths",b)]:List (Str×V)):=by
 simp only[bJ];rw[qi oS]
theorem mr {a b c:V}:(mn a b c).lookup ("figures" : Str)=some a:=by
 rw[<-kh,aR,qi pI,aR,qi oS,aR,ql rfl]
theorem gz {a b c:V}{m:Str}(q:¬ m="figures"/\¬ m="lengths"/\¬ m="rows"):(mn a b c).lookup m=none:=by
 rw[<-kh,aR,qi q.2.2,aR,qi q.2.1,aR,qi q.1];rfl
inductive fH (vs:List V) (H:Hp) (Q:VK) (E_:XK):Prop
 | mk (p:Addr) (f:ax) (h_0:vs=[.ref p]) (h_1:bH H p f) (h_2:∀ l,H l=none->Q (.ref l) (aA H l (.lst []))):fH vs H Q E_
inductive hJ (vs:List V) (H:Hp) (Q:VK) (E_:XK):Prop
 | mk (p:Addr) (f:ax) (h_0:vs=[.ref p]) (h_1:bH H p f) (h_2:f.Ok) (h_3:Q (.int f.row.length) H):hJ vs H Q E_
inductive dX (vs:List V) (H:Hp) (Q:VK) (E_:XK):Prop
 | mk (p:Addr) (f:ax) (h_0:vs=[.ref p]) (h_1:bH H p f) (h_2:f.Ok) (h_3:∀ (l:Addr)(H':Hp),H l=none->bo H H'->cc H' l f.row->Q (.ref l) H'):dX vs H Q E_
inductive g9 (C:Addr) (vs:List V) (H:Hp) (Q:VK) (E_:XK):Prop
 | mk (b dx:Addr) (h_0:vs=[.ref b]) (h_1:H b=some (.ins C dx [])) (h_2:∀ (A:BA)(H':Hp),(∀ a o,H a=some o->a≠b->H' a=some o)->cv C H' b A->Q .non H'):g9 C vs H Q E_
inductive eB (C:Addr) (vs:List V) (H:Hp) (Q:VK) (E_:XK):Prop
 | mk (b:Addr) (A:BA) (h_0:vs=[.ref b]) (h_1:cv C H b A) (h_2:∀ l,H l=none->Q (.ref l) (aA H l (.lst []))):eB C vs H Q E_
inductive gY (C:Addr) (vs:List V) (H:Hp) (Q:VK) (E_:XK):Prop
 | mk (b p:Addr) (A:BA) (f:ax) (h_0:vs=[.ref b,.ref p]) (h_1:cv C H b A) (h_2:bH H p f) (h_3:∀ H',bo H H'->Q .non H'):gY C vs H Q E_
inductive gZ (C:Addr) (vs:List V) (H:Hp) (Q:VK) (E_:XK):Prop
 | mk (b p:Addr) (A:BA) (f:ax) (h_0:vs=[.ref b,.ref p]) (h_1:cv C H b A) (h_2:bH H p f) (h_3:f.Ok) (h_4:Q (.int f.row.length) H):gZ C vs H Q E_
inductive dW (C:Addr) (vs:List V) (H:Hp) (Q:VK) (E_:XK):Prop
 | mk (b p:Addr) (A:BA) (f:ax) (h_0:vs=[.ref b,.ref p]) (h_1:cv C H b A) (h_2:bH H p f) (h_3:f.Ok) (h_4:∀ (l:Addr)(H':Hp),H l=none->bo H H'->cc H' l f.row->Q (.ref l) H'):dW C vs H Q E_
inductive hV (vs:List V) (H:Hp) (Q:VK) (E_:XK):Prop
 | mk (l:Addr) (ps:List (Int×Int)) (h_0:vs=[.ref l]) (h_1:cc H l ps) (h_2:ps.length<=10000) (h_3:∀ H',bo H H'->Q (.bl true) H'):hV vs H Q E_
inductive fK (vs:List V) (H:Hp) (Q:VK) (E_:XK):Prop
 | mk (d:Int) (h_0:vs=[.int d]) (h_1:0<=d) (h_2:∀ (l:Addr)(rs:List Int),H l=none->2<=rs.length->rs.length<=60->(∀ r∈rs,0<=r/\r<12)->Q (.ref l) (aA H l (.lst (rs.map V.int)))):fK vs H Q E_
inductive hU (vs:List V) (H:Hp) (Q:VK) (E_:XK):Prop
 | mk (d c:Int) (h_0:vs=[.int d,.int c]) (h_1:0<=d) (h_2:∀ (p:Addr)(f:ax)(H':Hp),H p=none->bo H H'->bH H' p f->f.Ok->Q (.ref p) H'):hU vs H Q E_
def dh (w:Str)(k j:Nat):Bool:=if j<=k then false else if w="star" then decide (k=0) else if w="all" then true else decide (j=k+1)
def ig (w:Str)(k:Nat)(x:Int):List Int->Nat->List (Int×Int)
 | [],_=>[]
 | o::os,j=>(if dh w k j=true then [(x,o)] else [])++ig w k x os (j+1)
def eg (w:Str)(g:List Int):List Int->Nat->List (Int×Int)
 | [],_=>[]
 | x::xs,k=>ig w k x g 0++eg w g xs (k+1)
theorem iU {w:Str}{k:Nat}{x:Int}(h:∀ j,dh w k j=true↔k<j):∀ (os:List Int)(j:Nat),ig w k x os j=(os.drop (k+1-j)).map fun o=>(x,o)
 | [],_=>by simp[ig]
 | o::os,j=>by
  show (if dh w k j=true then [(x,o)] else [])++ig w k x os (j+1)=_
  rw[iU h os (j+1)]
  by_cases z:k<j
  ·rw[ql ((h j).mpr z),show k+1-(j+1)=0 by omega,show k+1-j=0 by omega]
   rfl
  ·rw[qi (fun q=>z ((h j).mp q)),show k+1-j=(k+1-(j+1))+1 by omega]
   rfl
theorem kx {w:Str}{k:Nat}{x:Int}(h:∀ j,dh w k j=false):∀ (os:List Int)(j:Nat),ig w k x os j=[]
 | [],_=>rfl
 | o::os,j=>by
  show (if dh w k j=true then [(x,o)] else [])++ig w k x os (j+1)=_
  rw[kx h os (j+1),qi (by rw[h j];exact qh)];rfl
theorem jD {w:Str}{k:Nat}{x:Int}(h:∀ j,dh w k j=true↔j=k+1):∀ (os:List Int)(j:Nat),ig w k x os j=if j<=k+1 then ((os.drop (k+1-j)).take 1).map (fun o=>(x,o)) else []
 | [],_=>by simp[ig]
 | o::os,j=>by
  show (if dh w k j=true then [(x,o)] else [])++ig w k x os (j+1)=_
  rw[jD h os (j+1)]
  by_cases z:j=k+1
  ·rw[ql ((h j).mpr z),qi (by omega),ql (by omega),show k+1-j=0 by omega]
   rfl
  ·rw[qi (fun q=>z ((h j).mp q))]
   by_cases y:j<=k+1
   ·rw[ql (by omega),ql y,show k+1-j=(k+1-(j+1))+1 by omega]
    rfl
   ·rw[qi (by omega),qi y]
    rfl
theorem jz {g os:List Int}{x:Int}{k:Nat}(e:g.drop k=x::os):g.drop (k+1)=os:=by
 rw[<-List.drop_drop,e];rfl
theorem jF (g:List Int):∀ (os:List Int)(k:Nat),g.drop k=os->eg "all" g os k=du os
 | [],_,_=>rfl
 | x::os,k,e=>by
  have e1:=jz e
  show ig "all" k x g 0++eg "all" g os (k+1)=os.map (fun o=>(x,o))++du os
  rw[jF g os (k+1) e1,iU (fun j=>?_),Nat.sub_zero,e1];unfold dh;rw[qi (show ¬ ("all" : Str)="star" by decide +kernel),ql rfl]
  by_cases z:j<=k
  ·rw[ql z];exact⟨fun q=>(by cases q),fun q=>by omega⟩
  ·rw[qi z];exact⟨fun _=>by omega,fun _=>rfl⟩
theorem iz (g:List Int):∀ (os:List Int)(k:Nat),g.drop k=os->eg "line" g os k=os.zip (os.drop 1)
 | [],_,_=>rfl
 | x::os,k,e=>by
  have e1:=jz e
  show ig "line" k x g 0++eg "line" g os (k+1)=(x::os).zip os
  rw[iz g os (k+1) e1,jD (fun j=>?_),ql (qH _),Nat.sub_zero,e1]
  ·cases os<;>rfl
  ·unfold dh
   rw[qi (show ¬ ("line" : Str)="star" by decide +kernel),qi (show ¬ ("line" : Str)="all" by decide +kernel)]
   by_cases z:j<=k
   ·rw[ql z];exact⟨fun q=>(by cases q),fun q=>by omega⟩
   ·rw[qi z];exact decide_eq_true_iff
theorem gB (g:List Int):∀ (os:List Int)(k:Nat),0<k->eg "star" g os k=[]
 | [],_,_=>rfl
 | x::os,k,h=>by
  show ig "star" k x g 0++eg "star" g os (k+1)=[]
  rw[gB g os (k+1) (Nat.succ_pos _),kx (fun j=>?_)]
  ·rfl
  ·unfold dh
   rw[ql rfl,qg (by omega)];split<;>rfl
theorem kF:∀ g:List Int,eg "star" g g 0=(g.drop 1).map fun o=>(g.headD 0,o)
 | []=>rfl
 | x::os=>by
  show ig "star" 0 x (x::os) 0++eg "star" (x::os) os 1=os.map fun o=>(x,o)
  rw[gB _ os 1 (by decide),iU (fun j=>?_),List.append_nil]
  ·rfl
  ·unfold dh
   rw[ql rfl]
   by_cases z:j<=0
   ·rw[ql z];exact⟨fun q=>(by cases q),fun q=>by omega⟩
   ·rw[qi z];exact⟨fun _=>by omega,fun _=>rfl⟩
inductive jK (vs:List V) (H:Hp) (Q:VK) (E_:XK):Prop
 | mk (w:Str) (k j:Nat) (h_0:vs=[.str w,.int k,.int j]) (h_1:Q (.bl (dh w k j)) H):jK vs H Q E_
inductive eD (C:Addr) (vs:List V) (H:Hp) (Q:VK) (E_:XK):Prop
 | mk (b p:Addr) (A:BA) (f:ax) (h_0:vs=[.ref b,.ref p]) (h_1:cv C H b A) (h_2:bH H p f) (h_3:f.Ok) (h_4:∀ (t l:Addr)(H':Hp),H t=none->H l=none->bo H H'->H' t=some (.tup [.str "",.ref l])->cc H' l f.row->Q (.ref t) H'):eD C vs H Q E_
structure pk (K:PySem.W.Frag)(mg:Str->Option Value)(ck:Addr):Prop where
 cl:jP K ck
 nF:cD K ck "figures"
 nL:cD K ck "lengths"
 nR:cD K ck "rows"
 mF:mg "FigureBook" = some (.ref ck)
structure nh (K:PySem.W.Frag)(mg:Str->Option Value)(co ck:Addr):Prop extends pN K mg co where
 f:pk K mg ck
 mp:∃ u,mg "MOST_PAIRS" = some u/\aF (.int 2000) u
def oI (P:Program)(w:World)(K:PySem.W.Frag)(mg:Str->Option Value)(base:Heap)(ck:Addr):Prop:=∃ (fI:Addr)(fd:FuncData),Mk K ck fI/\aO P w K mg base cA 1 fI fd ["self"] (g9 ck)/\cz K fd ["self"] []
theorem nN {X:Cx}{ck:Addr}{p pos:Pos}(M:oI X.prog X.w X.K X.mg X.base ck)(U:pk X.K X.mg ck)(hr:aY 2 X.A)(hg:Gl X "FigureBook"):PE X (.Call (.Name "FigureBook" p) [] [] pos) (l0 ck (g9 ck) [] E0 iG):=by
 obtain⟨fI,fd,M,G,hb⟩:=M;exact kJ M G hr hg U.mF hb .nil fZ
end Wz
namespace Qs
open PySem PySem.W PyProof.Rows
abbrev Q4:=Int×Int×Int×Int
def q0:Q4:=(0,0,0,0)
def pV (p q:Q4):Bool:=decide (p.1<q.1\/(p.1=q.1/\(p.2.1<q.2.1\/(p.2.1=q.2.1/\(p.2.2.1<q.2.2.1\/(p.2.2.1=q.2.2.1/\p.2.2.2<q.2.2.2))))))
def pQ (h:Heap)(v:Value)(p:Q4):Prop:=∃ (b:Addr)(o:Obj)(n:Nat)(t1 t2 t3 t4:Tok),v=.ref b/\h.get? b=some o/\o.cls=.type "tuple"/\o.data=.seq #[.int p.1 t1,.int p.2.1 t2,.int p.2.2.1 t3,.int p.2.2.2 t4] n
open Classical in
noncomputable def decQ (h:Heap) (v:Value):Q4:=if z:∃ p,pQ h v p then choose z else q0
def ou (vs:List Value)(ps:List Q4)(out:List Value):Prop:=∃ ix:List Nat,ix.Perm (List.range vs.length)/\out=ix.map (fun i=>vs.getD i Value.none)/\(ix.map fun i=>ps.getD i q0).Pairwise (fun a b=>pV a b=true)
end Qs
namespace Wk42
open PySem L2 Wz
def gd (i:Nat):Stmt:=PySem.Challenge.pw_lastwaltz_k42_a_figure_spread_out.main.body.getD i (.Pass ⟨0,0,0,0⟩)
structure pH (mg:Str->Option Value):Prop where
 len:mg "len" = none
 range:mg "range" = none
 isinstance:mg "isinstance" = none
 tuple:mg "tuple" = none
 list:mg "list" = none
 int:mg "int" = none
 bool:mg "bool" = none
 all:mg "all" = none
 any:mg "any" = none
 sorted:mg "sorted" = none
 reversed:mg "reversed" = none
 bset:mg "set" = none
 bmin:mg "min" = none
 bmax:mg "max" = none
 dict:mg "dict" = none
 zip:mg "zip" = none
 enumerate:mg "enumerate" = none
 sum:mg "sum" = none
 str:mg "str" = none
section
variable {P:Program}{w:World}{K:PySem.W.Frag}{mg:Str->Option Value}{base:Heap}{c:HX}{co cq ck f P0 P1:Addr}{fd:FuncData}
abbrev cM:Stmt:=gd 8
abbrev io:List Str:=["a","b","c","d"]
theorem gX:au io ["a","b","c","d"] (ah cM):=fR
abbrev bK:Stmt:=gd 11
abbrev fk:List Str:=["figure","unlike","inner"]
theorem eS:au fk ["figure"] (ah bK):=fR
abbrev bL:Stmt:=gd 12
abbrev fm:List Str:=["figure","many"]
theorem cB:au fm ["figure"] (ah bL):=fR
abbrev bq:Stmt:=gd 13
abbrev cG:List Str:=["figure","guests"]
theorem dH:au cG ["figure"] (ah bq):=fR
abbrev bu:Stmt:=dk (gd 14) 0
abbrev ec:List Str:=["self"]
theorem dU:au ec ["self"] (ah bu):=fR
abbrev bg:Stmt:=dk (gd 14) 2
abbrev dO:List Str:=["self"]
theorem dB:au dO ["self"] (ah bg):=fR
abbrev bc:Stmt:=dk (gd 14) 4
abbrev dz:List Str:=["self","figure"]
theorem dc:au dz ["self","figure"] (ah bc):=fR
abbrev aM:Stmt:=dk (gd 14) 5
abbrev cw:List Str:=["self","figure","inner"]
theorem bf:au cw ["self","figure"] (ah aM):=fR
abbrev a9:Stmt:=dk (gd 14) 6
abbrev dw:List Str:=["self","figure"]
theorem da:au dw ["self","figure"] (ah a9):=fR
abbrev ba:Stmt:=dk (gd 14) 7
abbrev dy:List Str:=["self","figure","row","inner"]
theorem db:au dy ["self","figure"] (ah ba):=fR
abbrev cf:Stmt:=gd 16
abbrev gl:List Str:=["_law_script","_law_k"]
theorem ga:au gl ["_law_script","_law_k"] (ah cf):=fR
abbrev cL:Stmt:=gd 17
abbrev im:List Str:=["_law_found"]
theorem gW:au im ["_law_found"] (ah cL):=fR
abbrev dg:Stmt:=gd 18
abbrev i7:List Str:=["_law_cell"]
theorem iD:au i7 ["_law_cell"] (ah dg):=fR
abbrev cI:Stmt:=gd 19
abbrev ik:List Str:=["_law_cell","_law_many","_law_base","_law_left","_law_row_here","_law_count","_law_k","_law_now"]
theorem aE:au ik ["_law_cell","_law_many","_law_base"] (ah cI):=fR
abbrev cJ:Stmt:=gd 20
abbrev il:List Str:=["_law_k","_law_cell","_law_left","_law_turn","_law_number"]
theorem bW:au il ["_law_k","_law_cell"] (ah cJ):=fR
abbrev df:Stmt:=gd 21
abbrev i6:List Str:=["_law_found"]
theorem iC:au i6 ["_law_found"] (ah df):=fR
abbrev cK:Stmt:=gd 22
abbrev gA:List Str:=["_law_found"]
theorem ji:au gA ["_law_found"] (ah cK):=fR
abbrev bZ:Stmt:=gd 23
abbrev fc:List Str:=["_law_drawn","_law_many","_law_step"]
theorem bX:au fc ["_law_drawn"] (ah bZ):=fR
abbrev bG:Stmt:=gd 24
abbrev c5:List Str:=["_law_drawn","_law_cell","_law_kind","_law_ranks_here","_law_first","_law_step","_law_guests"]
theorem be:au c5 ["_law_drawn","_law_cell"] (ah bG):=fR
abbrev bQ:Stmt:=gd 25
abbrev fW:List Str:=["_law_kind","_law_k","_law_j"]
theorem ft:au fW ["_law_kind","_law_k","_law_j"] (ah bQ):=fR
abbrev bv:Stmt:=gd 26
abbrev ee:List Str:=["_law_figure","_law_kind","_law_guests","_law_row_here","_law_k","_law_one","_law_j","_law_other"]
theorem aw:au ee ["_law_figure"] (ah bv):=fR
abbrev cy:Stmt:=gd 27
abbrev gJ:List Str:=["_law_book","_law_figure","_law_word","_law_found"]
theorem bM:au gJ ["_law_book","_law_figure"] (ah cy):=fR
abbrev jl:Stmt:=gd 28
abbrev nG:List Str:=["_law_script","_law_cell","_law_book","_law_drawn","_law_figure","_law_due","_law_word","_law_found"]
theorem de:au nG ["_law_script"] (ah jl):=fR
variable (T:pH mg)(UO:nh K mg co ck)
include T UO
theorem gP (F:cU K "quadrille" "quadrille" cM f fd) : aO P w K mg base (lh P w) 2 f fd ["a","b","c","d"] (eC co):=by
 refine F.okX gX (fun vs H Q E h=>?_) (fun cdv A outer s H vs Q E hr h=>?_)
 ·obtain⟨a,b,c,d,rfl,_⟩:=h
  rfl
 ·obtain⟨a,b,c',d,rfl,k1,k2⟩:=h
  have hu:=lU hr
  have two:(2:Nat)<=sizeLine:=by decide
  have four:(4:Nat)<=sizeLine:=by decide
  have six:(6:Nat)<=sizeLine:=by decide
  refine⟨_,aa (aK (aq kB (bp jS (by rfl) T.len PySem.boot_len (eQ (dn (jU rfl) (by rfl) T.bset PyProof.Rows.boot_set (eQ (cx (ai (pv 0) (ai (pv 1) (ai (pv 2) (ai (pv 3) aI))))))))) (ae) (ar _)) (ag (kO UO.e kq rfl hr.hd rfl UO.m (aD))) (ao)) (
   ag (ap (cx (ai (a8 (eG (pv 0) (pv 1))) (ai (a8 (eG (pv 2) (pv 3))) (ai (a8 (eG (pv 0) (pv 2))) (ai (a8 (eG (pv 1) (pv 3))) (ai (a8 (eG (pv 0) (pv 3))) (ai (a8 (eG (pv 1) (pv 2))) aI))))))))),?_⟩
  refine⟨_,rfl,_,rfl,_,rfl,_,rfl,four,fun l hl=>?_⟩;have s1:=af (o:=.lst [V.int a,V.int b,V.int c',V.int d]) hl;refine⟨l,[a,b,c',d],rfl,bA.of ac,by show (4:Nat)<=1000;decide,fun q S n hq hn hnd=>?_⟩;have s2:=af (o:=.set S n) hq;refine⟨q,_,_,rfl,ac,_,_,rfl,rfl,_,rfl,?_⟩;have s12:=s1.trans s2;generalize aA (aA H l (.lst [V.int a,V.int b,V.int c',V.int d])) q (.set S n)=H2 at s12 ⊢;have hn:n<=4:=hn;have hnd:n=4↔[a,b,c',d].Nodup:=hnd
  by_cases nd:[a,b,c',d].Nodup
  ·rw[qg (by have:=hnd.mpr nd;omega)]
   refine aL ⟨_,rfl,_,rfl,two,fun t1 h1=>⟨_,rfl,_,rfl,two,fun t2 h2=>⟨_,rfl,_,rfl,two,fun t3 h3=>⟨_,rfl,_,rfl,two,fun t4 h4=>⟨_,rfl,_,rfl,two,fun t5 h5=>⟨_,rfl,_,rfl,two,fun t6 h6=>⟨six,fun lq hlq=>?_⟩⟩⟩⟩⟩⟩⟩;have g1:=af (o:=.tup [V.int a,V.int b]) h1;have g2:=af (o:=.tup [V.int c',V.int d]) h2;have g3:=af (o:=.tup [V.int a,V.int c']) h3;have g4:=af (o:=.tup [V.int b,V.int d]) h4;have g5:=af (o:=.tup [V.int a,V.int d]) h5;have g6:=af (o:=.tup [V.int b,V.int c']) h6;have g7:=af (o:=.lst [V.ref t1,V.ref t2,V.ref t3,V.ref t4,V.ref t5,V.ref t6]) hlq;have g67:=g6.trans g7;have g57:=g5.trans g67;have g47:=g4.trans g57;have g37:=g3.trans g47;have g27:=g2.trans g37;have g17:=g1.trans g27;refine k1 nd lq _ (s12.free (g1.free (g2.free (g3.free (g4.free (g5.free (g6.free hlq))))))) (s12.trans g17) ⟨[t1,t2,t3,t4,t5,t6],ac,?_⟩;exact .cons (g27 _ _ ac) (.cons (g37 _ _ ac) (.cons (g47 _ _ ac) (.cons (g57 _ _ ac) (.cons (g67 _ _ ac) (.cons (g7 _ _ ac) .nil)))))
  ·rw[qt (by have:n≠4:=fun z=>nd (hnd.mp z);omega)]
   exact ce (k2 nd H2 s12)
theorem eO (F:cU K "inner_figures" "inner_figures" bK f fd) : aO P w K mg base cA 1 f fd ["figure"] fH:=by
 refine F.ok eS (fun vs H Q E h=>?_) (fun cdv A outer s H vs Q E hr h=>?_)
 ·obtain⟨p,f,rfl,_⟩:=h
  rfl
 ·obtain⟨p,f,rfl,hf,k⟩:=h
  refine⟨_,aa (aK (aq aW (aC av (pv 0) (ae) (fun _ _=>rfl)) (aD) (ar _)) (aV) (ao)) (
   aa (aK (aq kC (aC av (pv 0) (ae) (fun _ _=>rfl)) (aD) (ar _)) (ag (ap (cx aI))) (ao)) (
   aV)),?_⟩
  obtain⟨xs,hp⟩:=hf.hd;refine⟨_,rfl,p,_,0,_,rfl,rfl,aG.of hp,aJ (j:=0) rfl,rfl,_,rfl,?_⟩;rw[qg (fun z=>f.nw.1 (V.str.inj z))];refine aL ⟨_,rfl,p,_,0,_,rfl,rfl,aG.of hp,aJ (j:=0) rfl,rfl,_,rfl,?_⟩;rw[qg (fun z=>f.nw.2.1 (V.str.inj z))];exact ce ⟨qH _,fun l hl=>k l hl⟩
theorem eP (F:cU K "single_length" "single_length" bL f fd) : aO P w K mg base cA 1 f fd ["figure"] hJ:=by
 refine F.ok cB (fun vs H Q E h=>?_) (fun cdv A outer s H vs Q E hr h=>?_)
 ·obtain⟨p,f,rfl,_⟩:=h
  rfl
 ·obtain⟨p,f,rfl,hf,ok,k⟩:=h
  refine⟨_,aa (aK (aq aW (aC av (pv 0) (ae) (fun _ _=>rfl)) (aD) (ar _)) (ag (ap (ae))) (ao)) (
   aa (aK (aq aW (aC av (pv 0) (ae) (fun _ _=>rfl)) (aD) (ar _)) (ag (ap (ae))) (ao)) (
   aa (bz 1 cB.nd (bp cE (by rfl) T.len PySem.boot_len (eQ (aC av (pv 0) (ae) (fun _ _=>rfl))))) (
   aa (aK (aq aW (aC av (pv 0) (ae) (fun _ _=>rfl)) (aD) (ar _)) (ag (ap (am bF (am dR (pv 1) (am gQ (pv 1) (ae))) (ae)))) (ao)) (
   ag (ap (bp (jT rfl) (by rfl) T.bmax PyProof.Rows.boot_max (eG (am gQ (pv 1) (ae)) (ae)))))))),?_⟩
  obtain⟨xs,hp⟩:=hf.hd;refine⟨_,rfl,p,_,0,_,rfl,rfl,aG.of hp,aJ (j:=0) rfl,rfl,_,rfl,?_⟩;have o1:=ok.1;have o2:=ok.2.1
  cases f with
  | pair a b =>
   rw[qt (show V.str (ax.pair a b).word=V.str "pair" from rfl)];exact ce k
  | quad a b c d =>
   rw[qg (fun z=>absurd (V.str.inj z) (by dsimp only[ax.word];decide +kernel))];refine aL ⟨_,rfl,p,_,0,_,rfl,rfl,aG.of hp,aJ (j:=0) rfl,rfl,_,rfl,?_⟩;rw[qt (show V.str (ax.quad a b c d).word=V.str "quad" from rfl)];exact ce k
  | line g =>
   obtain⟨q,e1,e2⟩:=hf;have g0:2<=g.length:=o1;rw[qg (fun z=>absurd (V.str.inj z) (by dsimp only[ax.word];decide +kernel))];refine aL ⟨_,rfl,p,_,0,_,rfl,rfl,aG.of e1,rfl,rfl,_,rfl,?_⟩;rw[qg (fun z=>absurd (V.str.inj z) (by dsimp only[ax.word];decide +kernel))];refine aL ⟨_,rfl,p,_,1,_,rfl,rfl,aG.of e1,rfl,q,_,rfl,.inr (aG.of e2),_,rfl,p,_,0,_,rfl,rfl,aG.of e1,rfl,rfl,_,rfl,?_⟩;rw[qg (fun z=>absurd (V.str.inj z) (by dsimp only[ax.word];decide +kernel))];refine aL ⟨_,rfl,_,_,rfl,rfl,_,_,rfl,?_⟩
   have e:(if (0:Int)>(((ax.line g).gs.map V.int).length:Nat)-1 then (0:Int) else (((ax.line g).gs.map V.int).length:Nat)-1)=((ax.line g).row.length:Nat):=by
    show (if (0:Int)>((g.map V.int).length:Nat)-1 then (0:Int) else ((g.map V.int).length:Nat)-1)=((g.zip (g.drop 1)).length:Nat)
    rw[qf,List.length_zip,qG,qi (by omega)];omega
   rw[e];exact k
  | star g =>
   obtain⟨q,e1,e2⟩:=hf;have g0:2<=g.length:=o1;rw[qg (fun z=>absurd (V.str.inj z) (by dsimp only[ax.word];decide +kernel))];refine aL ⟨_,rfl,p,_,0,_,rfl,rfl,aG.of e1,rfl,rfl,_,rfl,?_⟩;rw[qg (fun z=>absurd (V.str.inj z) (by dsimp only[ax.word];decide +kernel))];refine aL ⟨_,rfl,p,_,1,_,rfl,rfl,aG.of e1,rfl,q,_,rfl,.inr (aG.of e2),_,rfl,p,_,0,_,rfl,rfl,aG.of e1,rfl,rfl,_,rfl,?_⟩;rw[qg (fun z=>absurd (V.str.inj z) (by dsimp only[ax.word];decide +kernel))];refine aL ⟨_,rfl,_,_,rfl,rfl,_,_,rfl,?_⟩
   have e:(if (0:Int)>(((ax.star g).gs.map V.int).length:Nat)-1 then (0:Int) else (((ax.star g).gs.map V.int).length:Nat)-1)=((ax.star g).row.length:Nat):=by
    show (if (0:Int)>((g.map V.int).length:Nat)-1 then (0:Int) else ((g.map V.int).length:Nat)-1)=(((g.drop 1).map fun o=>(g.headD 0,o)).length:Nat)
    rw[qf,qf,qG,qi (by omega)];omega
   rw[e];exact k
  | all g =>
   obtain⟨q,e1,e2⟩:=hf;have g0:2<=g.length:=o1;have g1:g.length<=60:=o2;rw[qg (fun z=>absurd (V.str.inj z) (by dsimp only[ax.word];decide +kernel))];refine aL ⟨_,rfl,p,_,0,_,rfl,rfl,aG.of e1,rfl,rfl,_,rfl,?_⟩;rw[qg (fun z=>absurd (V.str.inj z) (by dsimp only[ax.word];decide +kernel))];refine aL ⟨_,rfl,p,_,1,_,rfl,rfl,aG.of e1,rfl,q,_,rfl,.inr (aG.of e2),_,rfl,p,_,0,_,rfl,rfl,aG.of e1,rfl,rfl,_,rfl,?_⟩;rw[qt (show V.str (ax.all g).word=V.str "all" from rfl)];have lm:((ax.all g).gs.map V.int).length=g.length:=qf ..;rw[lm];refine ce ⟨_,rfl,_,rfl,_,_,rfl,rfl,_,_,rfl,rfl,.inl ⟨by omega,by omega⟩,_,_,rfl,rfl,⟨by decide,by decide⟩,?_⟩
   have e:((g.length:Nat):Int)*((g.length:Nat)-1)/2=((du g).length:Nat):=by
    have h:=fV g
    have h2:((2*(du g).length:Nat):Int)=((g.length*(g.length-1):Nat):Int):=by rw[h]
    rw[Int.natCast_mul,Int.natCast_mul,Int.natCast_sub (by omega)]at h2;have h3:((g.length:Nat):Int)*((g.length:Nat)-1)=2*((du g).length:Nat):=h2.symm;rw[h3];omega
   rw[e];exact k
theorem gn (F:cU K "single_row" "single_row" bq f fd)(Cquadrille:d5 P w K mg base "quadrille" 2 ["a","b","c","d"] (eC co)) : aO P w K mg base cA 3 f fd ["figure"] dX:=by
 refine F.ok dH (fun vs H Q E h=>?_) (fun cdv A outer s H vs Q E hr h=>?_)
 ·obtain⟨p,f,rfl,_⟩:=h
  rfl
 ·obtain⟨p,f,rfl,hf,ok,k⟩:=h
  have two:(2:Nat)<=sizeLine:=by decide
  refine⟨_,aa (aK (aq aW (aC av (pv 0) (ae) (fun _ _=>rfl)) (aD) (ar _)) (ag (ap (cx (eQ (a8 (eG (aC av (pv 0) (ae) (fun _ _=>rfl)) (aC av (pv 0) (ae) (fun _ _=>rfl)))))))) (ao)) (
   aa (bz 1 dH.nd (aC av (pv 0) (ae) (fun _ _=>rfl))) (
   aa (aK (aq aW (aC av (pv 0) (ae) (fun _ _=>rfl)) (aD) (ar _)) (ag (ap (iB rfl (eG (pv 1) (f7 jk (pv 1) (gT (ae)) gS)) (by rfl) T.list (by rfl) T.zip))) (ao)) (
   aa (aK (aq aW (aC av (pv 0) (ae) (fun _ _=>rfl)) (aD) (ar _)) (ag (ap (ej (so:=ah bq) (N:=cG) (N':=["other","guests"]) (src:=[none,some 1]) rfl rfl nt rfl (kL (f7 jk (pv 1) (gT (ae)) gS)) (fun cl C s2 H2 ex=>⟨jd 0 (show (["other","guests"]:List Str).Nodup by decide +kernel),cH,a8 (eG (aC (lC K) (pv 1) (ae) (fun _ _=>rfl)) (pv 0))⟩)))) (ao)) (
   aa (aK (aq aW (aC av (pv 0) (ae) (fun _ _=>rfl)) (aD) (ar _)) (ag (ap (kH (so:=ah bq) (N:=cG) (N':=["at","one","other","guests"]) (src:=[none,none,none,some 1]) rfl rfl nt rfl (f8 (by rfl) T.enumerate (eQ (pv 1))) (fun cl C s2 H2 ex=>⟨lH (n:=2) K rfl (bN (jd 0 (show (["at","one","other","guests"]:List Str).Nodup by decide +kernel)) (bN (jd 1 (show (["at","one","other","guests"]:List Str).Nodup by decide +kernel)) fD)),cH,lJ K (f7 (lM K) (pv 3) (gT (am bE (pv 0) (ae))) gS),jd 2 (show (["at","one","other","guests"]:List Str).Nodup by decide +kernel),cH,a8 (eG (pv 1) (pv 2))⟩)))) (ao)) (
   ag (ap (kR Cquadrille hr.m rfl lX (ai (aC av (pv 1) (ae) (fun _ _=>rfl)) (ai (aC av (pv 1) (ae) (fun _ _=>rfl)) (ai (aC av (pv 1) (ae) (fun _ _=>rfl)) (ai (aC av (pv 1) (ae) (fun _ _=>rfl)) aI))))))))))),?_⟩
  obtain⟨xs,hp⟩:=hf.hd;refine⟨_,rfl,p,_,0,_,rfl,rfl,aG.of hp,aJ (j:=0) rfl,rfl,_,rfl,?_⟩;have o1:=ok.1;have o2:=ok.2.1
  cases f with
  | pair a b =>
   have hp:H p=some (.tup [.str "pair",.int a,.int b]):=hf;rw[qt (show V.str (ax.pair a b).word=V.str "pair" from rfl)];refine ce ⟨_,rfl,p,_,1,_,rfl,rfl,aG.of hp,rfl,_,rfl,p,_,2,_,rfl,rfl,aG.of hp,rfl,two,fun t ht=>⟨by show (1:Nat)<=sizeLine;decide,fun l hl=>?_⟩⟩;have s1:=af (o:=.tup [.int a,.int b]) ht;exact k l _ (s1.free hl) (s1.trans (af hl)) ⟨[t],ac,.cons (af hl _ _ ac) .nil⟩
  | line g =>
   obtain⟨q,e1,e2⟩:=hf;have e2:H q=some (.tup (g.map V.int)):=e2;have g0:2<=g.length:=o1;have g1:g.length<=60:=o2;rw[qg (fun z=>absurd (V.str.inj z) (by dsimp only[ax.word];decide +kernel))];refine aL ⟨_,rfl,p,_,1,_,rfl,rfl,aG.of e1,rfl,_,rfl,p,_,0,_,rfl,rfl,aG.of e1,rfl,rfl,_,rfl,?_⟩;rw[qt (show V.str (ax.line g).word=V.str "line" from rfl)];refine ce ⟨_,rfl,_,rfl,_,rfl,i9 ⟨q,_,rfl,aG.of e2,eN 1 (by decide) (by rw[qf];omega),fun r hr1=>?_⟩⟩;rw[lS,<-List.map_drop];have s1:=af (o:=.tup ((g.drop 1).map V.int)) hr1;refine⟨q,r,_,_,rfl,aG.of (s1 _ _ e2),aG.of ac,by rw[qf,qf,qG];omega,by rw[qf,qG];omega,fun l ts H' hl s2 hl2 pr=>?_⟩;rw[lc]at pr;exact k l H' (s1.free hl) (s1.trans s2) ⟨ts,hl2,eh (f:=fun p:Int×Int=>(V.int p.1,V.int p.2)) (R:=fun t p=>H' t=some (.tup [p.1,p.2])) pr⟩
  | star g =>
   obtain⟨q,e1,e2⟩:=hf;have e2:H q=some (.tup (g.map V.int)):=e2;have g0:2<=g.length:=o1;have g1:g.length<=60:=o2;rw[qg (fun z=>absurd (V.str.inj z) (by dsimp only[ax.word];decide +kernel))];refine aL ⟨_,rfl,p,_,1,_,rfl,rfl,aG.of e1,rfl,_,rfl,p,_,0,_,rfl,rfl,aG.of e1,rfl,rfl,_,rfl,?_⟩;rw[qg (fun z=>absurd (V.str.inj z) (by dsimp only[ax.word];decide +kernel))];refine aL ⟨_,rfl,p,_,0,_,rfl,rfl,aG.of e1,rfl,rfl,_,rfl,?_⟩;rw[qt (show V.str (ax.star g).word=V.str "star" from rfl)];refine ce ⟨_,rfl,_,rfl,i9 ⟨q,_,rfl,aG.of e2,eN 1 (by decide) (by rw[qf];omega),fun r hr1=>?_⟩⟩;rw[lS,<-List.map_drop];have s1:=af (o:=.tup ((g.drop 1).map V.int)) hr1;have hr2:aA H r (.tup ((g.drop 1).map V.int)) r=some (.tup ((g.drop 1).map V.int)):=ac;generalize aA H r (.tup ((g.drop 1).map V.int))=H1 at s1 hr2 ⊢;refine⟨r,rfl,⟨_,aG.of hr2⟩,fun l hl=>?_⟩
   have dl:(g.drop 1).length<=60:=by rw[qG];omega
   refine jB (K:=K) (a:=r) (xs:=(g.drop 1).map V.int) (fun i σ HK=>∃ (v:Option V),σ=[v,some (.ref q)]/\bo H1 HK/\cc HK l (((g.drop 1).take i).map fun o=>(g.headD 0,o)))
    ⟨none,rfl,af hl,⟨[],ac,.nil⟩⟩ (fun i σ HK _ ⟨_,_,s2,_⟩=>aG.of (s2 _ _ hr2)) ?_ ?_
   ·rintro i y σ HK hi ⟨v,rfl,s2,row⟩
    obtain⟨o,ho,rfl⟩:=cu hi;obtain⟨as,hl2,pr⟩:=row;have al:=qv pr;rw[qf,q5]at al
    obtain⟨x0,gt,rfl⟩:∃ x0 gt,g=x0::gt:=by
     cases g with
     | nil=>simp at g0
     | cons x0 gt=>exact⟨x0,gt,rfl⟩
    refine dr ⟨_,rfl,q,_,0,_,rfl,rfl,aG.of (s2 _ _ (s1 _ _ e2)),aJ (j:=0) rfl,_,rfl,two,fun t ht=>?_⟩;have st:=af (o:=.tup [.int x0,.int o]) ht;refine⟨_,st _ _ hl2,by rw[qf];exact cC (by omega),_,rfl,c9 (s2.trans st) hl,?_⟩;have:=f9 (a:=x0) (b:=o) hl2 pr ht;rw[List.take_add_one,ho,Option.toList_some,qJ];exact this
   rintro σ HK ⟨v,rfl,s2,row⟩;rw[qf,List.take_length]at row;exact k l HK (s1.free hl) (s1.trans s2) row
  | all g =>
   obtain⟨q,e1,e2⟩:=hf;have e2:H q=some (.tup (g.map V.int)):=e2;have g0:2<=g.length:=o1;have g1:g.length<=60:=o2;have rl:=ax.rl ok;have rl:(du g).length<=2000:=rl;rw[qg (fun z=>absurd (V.str.inj z) (by dsimp only[ax.word];decide +kernel))];refine aL ⟨_,rfl,p,_,1,_,rfl,rfl,aG.of e1,rfl,_,rfl,p,_,0,_,rfl,rfl,aG.of e1,rfl,rfl,_,rfl,?_⟩;rw[qg (fun z=>absurd (V.str.inj z) (by dsimp only[ax.word];decide +kernel))];refine aL ⟨_,rfl,p,_,0,_,rfl,rfl,aG.of e1,rfl,rfl,_,rfl,?_⟩;rw[qg (fun z=>absurd (V.str.inj z) (by dsimp only[ax.word];decide +kernel))];refine aL ⟨_,rfl,p,_,0,_,rfl,rfl,aG.of e1,rfl,rfl,_,rfl,?_⟩;rw[qt (show V.str (ax.all g).word=V.str "all" from rfl)];refine ce ⟨_,rfl,q,rfl,⟨_,aG.of e2⟩,fun l hl=>?_⟩
   refine eK (K:=K) (a:=q) (xs:=g.map V.int) (fun i σ HK=>∃ (v0 v1 v2:Option V)(ps:List (Int×Int)),σ=[v0,v1,v2,some (.ref q)]/\bo H HK/\cc HK l ps/\ps++du (g.drop i)=du g)
    ⟨none,none,none,[],rfl,af hl,⟨[],ac,.nil⟩,rfl⟩ (fun i σ HK _ ⟨_,_,_,_,_,s2,_⟩=>aG.of (s2 _ _ e2)) ?_ ?_
   ·rintro i y σ HK T hi ⟨v0,v1,v2,ps,rfl,s2,row,ep⟩ hT
    obtain⟨x,hx,rfl⟩:=cu hi;have hil:=(List.getElem?_eq_some_iff.mp hx).1;have sT:=af (o:=.tup [.int (i:Int),.int x]) hT;have hTT:aA HK T (.tup [.int (i:Int),.int x]) T=some (.tup [.int (i:Int),.int x]):=ac;have row:=row.mono sT;have s2:=s2.trans sT;generalize aA HK T (.tup [.int (i:Int),.int x])=HK at hTT row s2 ⊢;refine⟨T,_,rfl,aG.of hTT,rfl,_,_,rfl,_,_,rfl,rfl,?_⟩
    have ed:g.drop i=x::g.drop (i+1):=by rw[List.drop_eq_getElem_cons hil,(List.getElem?_eq_some_iff.mp hx).2]
    rw[ed]at ep;have ep:ps++((g.drop (i+1)).map (fun o=>(x,o))++du (g.drop (i+1)))=du g:=ep;have epl:=qL List.length ep;rw[qz,qz,qf]at epl;have ei:((i:Int)+1)=((i+1:Nat):Int):=rfl;refine k4 ⟨_,rfl,_,rfl,_,_,rfl,rfl,_,rfl,i9 ⟨q,_,rfl,aG.of (s2 _ _ e2),eN (i+1) (Nat.succ_pos _) (by rw[qf];omega),fun r hr1=>?_⟩⟩;rw[ei,ki,<-List.map_drop];have s3:=af (o:=.tup ((g.drop (i+1)).map V.int)) hr1;have hr2:aA HK r (.tup ((g.drop (i+1)).map V.int)) r=some (.tup ((g.drop (i+1)).map V.int)):=ac;have row:=row.mono s3;have s3:=s2.trans s3
    have nrl:r≠l:=fun z=>by
     obtain⟨as,hl2,_⟩:=row;rw[<-z,hr2]at hl2;cases hl2
    generalize aA HK r (.tup ((g.drop (i+1)).map V.int))=H3 at row s3 hr2 ⊢;clear s2 hTT hr1;refine⟨r,rfl,⟨_,aG.of hr2⟩,?_⟩
    refine jB (K:=K) (a:=r) (xs:=(g.drop (i+1)).map V.int) (fun j σ H4=>∃ (v:Option V),σ=[some (.int (i:Int)),some (.int x),v,some (.ref q)]/\(∀ b o,H3 b=some o->b≠l->H4 b=some o)/\cc H4 l (ps++((g.drop (i+1)).take j).map fun o=>(x,o)))
     ⟨_,rfl,fun b o e _=>e,by simpa using row⟩ (fun j σ H4 _ ⟨_,_,s4,_⟩=>aG.of (s4 _ _ hr2 nrl)) ?_ ?_
    ·rintro j y σ H4 hj ⟨v,rfl,s4,row4⟩
     obtain⟨o,ho,rfl⟩:=cu hj;obtain⟨as,hl4,pr⟩:=row4;have al:=qv pr;rw[qz,qf,q5]at al;refine dr ⟨_,rfl,_,rfl,two,fun t ht=>?_⟩;have st:=af (o:=.tup [.int x,.int o]) ht;refine⟨_,st _ _ hl4,by rw[qf];have sl:sizeLine=16777216:=sizeLine_eq;omega,_,rfl,fun b u e n=>?_,?_⟩
     ·rw[ak n];exact st _ _ (s4 b u e n)
     ·have:=f9 (a:=x) (b:=o) hl4 pr ht
      rw[List.take_add_one,ho,Option.toList_some,qJ,<-List.append_assoc];exact this
    rintro σ H4 ⟨v,rfl,s4,row4⟩;rw[qf,List.take_length]at row4;exact⟨_,_,_,_,rfl,fun b u e=>s4 b u (s3 b u e) (fun z=>by rw[z,hl]at e;cases e),row4,by rw[List.append_assoc];exact ep⟩
   rintro σ HK ⟨v0,v1,v2,ps,rfl,s2,row,ep⟩;rw[qf,List.drop_length]at ep;have ep:ps++[]=du g:=ep;rw[List.append_nil]at ep;rw[ep]at row;exact k l HK hl s2 row
  | quad a b c d =>
   obtain⟨q,e1,e2⟩:=hf;have e2:H q=some (.tup ([a,b,c,d].map V.int)):=e2;rw[qg (fun z=>absurd (V.str.inj z) (by dsimp only[ax.word];decide +kernel))];refine aL ⟨_,rfl,p,_,1,_,rfl,rfl,aG.of e1,rfl,_,rfl,p,_,0,_,rfl,rfl,aG.of e1,rfl,rfl,_,rfl,?_⟩;rw[qg (fun z=>absurd (V.str.inj z) (by dsimp only[ax.word];decide +kernel))];refine aL ⟨_,rfl,p,_,0,_,rfl,rfl,aG.of e1,rfl,rfl,_,rfl,?_⟩;rw[qg (fun z=>absurd (V.str.inj z) (by dsimp only[ax.word];decide +kernel))];refine aL ⟨_,rfl,p,_,0,_,rfl,rfl,aG.of e1,rfl,rfl,_,rfl,?_⟩;rw[qg (fun z=>absurd (V.str.inj z) (by dsimp only[ax.word];decide +kernel))];exact aL ⟨_,rfl,q,_,0,_,rfl,rfl,aG.of e2,rfl,_,rfl,q,_,1,_,rfl,rfl,aG.of e2,rfl,_,rfl,q,_,2,_,rfl,rfl,aG.of e2,rfl,_,rfl,q,_,3,_,rfl,rfl,aG.of e2,rfl,a,b,c,d,rfl,fun _ l H' hl s1 r1=>k l H' hl s1 r1,fun nn=>absurd (ok.2.2 a b c d rfl) nn⟩
theorem dP (F:cU K "__init__" "FigureBook.__init__" bu f fd) : aO P w K mg base cA 1 f fd ["self"] (g9 ck):=by
 refine F.ok dU (fun vs H Q E h=>?_) (fun cdv A outer s H vs Q E hr h=>?_)
 ·obtain⟨b,dx,rfl,_⟩:=h
  rfl
 ·obtain⟨b,dx,rfl,hb,k⟩:=h
  refine⟨_,aa (jf (pv 0) (f6) rfl) (
   aa (jf (pv 0) (f6) rfl) (
   ag (jf (pv 0) (f6) rfl))),?_⟩
  intro d1 h1;have n1:b≠d1:=aH hb h1;refine⟨_,rfl,b,ck,dx,[],rfl,(by rw[ak n1];exact hb),UO.f.cl,UO.f.nF,(by show 0<1000;decide),?_⟩;intro d2 h2
  have n2:b≠d2:=fun z=>by rw[<-z,ac]at h2;cases h2
  refine⟨_,rfl,b,ck,dx,_,rfl,(by rw[ak n2,ac]),UO.f.cl,UO.f.nL,(by show 1<1000;decide),?_⟩;intro d3 h3
  have n3:b≠d3:=fun z=>by rw[<-z,ac]at h3;cases h3
  refine⟨_,rfl,b,ck,dx,_,rfl,(by rw[ak n3,ac]),UO.f.cl,UO.f.nR,(by rw[mq];show 2<1000;decide),?_⟩;rw[kh]
  have h2':aA H d1 (.dK []) d2=none:=by rw[ak (qK n2)]at h2;exact h2
  have h3':aA (aA H d1 (.dK [])) d2 (.dK []) d3=none:=by
   rw[ak (qK n3)]at h3
   by_cases z:d3=d2
   ·rw[z,ac]at h3;cases h3
   ·rw[ak z,ak (qK n3)]at h3;rw[ak z];exact h3
  have s1:=af (o:=.dK []) h1;have s2:=af (o:=.dK []) h2';have s3:=af (o:=.dK []) h3'
  have keep:∀ a o,aA (aA (aA H d1 (.dK [])) d2 (.dK [])) d3 (.dK []) a=some o->a≠b->aA (aA (aA (aA (aA (aA H d1 (.dK [])) b (.ins ck dx (bJ "figures" (.ref d1) []))) d2 (.dK [])) b (.ins ck dx (bJ "lengths" (.ref d2) (bJ "figures" (.ref d1) [])))) d3 (.dK [])) b (.ins ck dx (mn (.ref d1) (.ref d2) (.ref d3))) a=some o:=fun a o e n=>by
   rw[ak n]
   by_cases z3:a=d3
   ·rw[z3,ac]at e ⊢;exact e
   ·rw[ak z3]at e ⊢
    rw[ak n]
    by_cases z2:a=d2
    ·rw[z2,ac]at e ⊢;exact e
    ·rw[ak z2]at e ⊢
     rw[ak n];exact e
  refine k ⟨dx,d1,d2,d3⟩ _ (fun a o e n=>keep a o (s3 _ _ (s2 _ _ (s1 _ _ e))) n) ⟨ac,?_⟩;exact keep d1 _ (s3 _ _ (s2 _ _ ac)) (qK n1)
theorem dA (F:cU K "names" "FigureBook.names" bg f fd) : aO P w K mg base cA 1 f fd ["self"] (eB ck):=by
 refine F.ok dB (fun vs H Q E h=>?_) (fun cdv A outer s H vs Q E hr h=>?_)
 ·obtain⟨b,A,rfl,_⟩:=h
  rfl
 ·obtain⟨b,A,rfl,B,k⟩:=h
  refine⟨_,ag (ap (dn (iQ rfl) (by rfl) T.list PyProof.Rows.boot_list (eQ (mI (pv 0) rfl)))),?_⟩;exact⟨_,rfl,b,ck,A.dx,_,_,rfl,B.ob,UO.f.cl,UO.f.nF,mr,A.d1,[],[],rfl,B.fg,rfl,fun l hl=>k l hl⟩
theorem c8 (F:cU K "spread" "FigureBook.spread" bc f fd)(M_FigureBook_check_names:bd P w K mg base cA ck "check_names" 2 ["self","figure"] (gY ck))(M_FigureBook_length:bd P w K mg base cA ck "length" 2 ["self","figure"] (gZ ck))(M_FigureBook_row_of:bd P w K mg base cA ck "row_of" 4 ["self","figure"] (dW ck)) : aO P w K mg base cA 5 f fd ["self","figure"] (dW ck):=by
 refine F.ok dc (fun vs H Q E h=>?_) (fun cdv A outer s H vs Q E hr h=>?_)
 ·obtain⟨b,p,A,f,rfl,_⟩:=h
  rfl
 ·obtain⟨b,p,A,f,rfl,B,hf,ok,k⟩:=h
  have nm:∀ {x y z:V}{m:Str},(¬ m="figures"/\¬ m="lengths"/\¬ m="rows")->(mn x y z).lookup m=none:=fun q=>gz q;have rl:=ax.rl ok
  refine⟨_,aa (ek (jI M_FigureBook_check_names (pv 0) UO.f.cl hr.m fZ (eQ (pv 1)))) (
   aa (aK (aq lW (jI M_FigureBook_length (pv 0) UO.f.cl hr.m fZ (eQ (pv 1))) (kI (by rfl) UO.mp) (ar _)) (ag (kN)) (ao)) (
   ag (ap (jI M_FigureBook_row_of (pv 0) UO.f.cl hr.m fZ (eQ (pv 1)))))),?_⟩
  refine⟨_,rfl,b,A.dx,_,rfl,B.ob,gz (by decide +kernel),_,rfl,b,p,A,f,rfl,B,hf,fun H1 s1=>?_⟩;have B1:=B.mono s1;have hf1:=hf.mono s1;refine⟨_,rfl,b,A.dx,_,rfl,B1.ob,gz (by decide +kernel),_,rfl,b,p,A,f,rfl,B1,hf1,ok,_,_,rfl,rfl,_,rfl,?_⟩;rw[qg (show ¬ ((f.row.length:Nat):Int)>2000 by omega)];exact aL ⟨_,rfl,b,A.dx,_,rfl,B1.ob,gz (by decide +kernel),_,rfl,b,p,A,f,rfl,B1,hf1,ok,fun l H' hl s2 r=>k l H' (s1.free hl) (s1.trans s2) r⟩
theorem cg (F:cU K "check_names" "FigureBook.check_names" aM f fd)(Cinner_figures:ay P w K mg base "inner_figures" 1 ["figure"] fH) : aO P w K mg base cA 2 f fd ["self","figure"] (gY ck):=by
 refine F.ok bf (fun vs H Q E h=>?_) (fun cdv A outer s H vs Q E hr h=>?_)
 ·obtain⟨b,p,A,f,rfl,_⟩:=h
  rfl
 ·obtain⟨b,p,A,f,rfl,B,hf,k⟩:=h
  refine⟨_,aa (aK (aq aW (aC av (pv 1) (ae) (fun _ _=>rfl)) (aD) (ar _)) (aV) (ao)) (
   ag (eR rm rfl (fE (aX Cinner_figures hr.m rfl (eQ (pv 1)))) (jd 2 bf.nd) (aV))),?_⟩
  obtain⟨xs,hp⟩:=hf.hd;refine⟨_,rfl,p,_,0,_,rfl,rfl,aG.of hp,aJ (j:=0) rfl,rfl,_,rfl,?_⟩;rw[qg (fun z=>f.nw.2.2 (V.str.inj z))];refine aL ⟨_,rfl,p,f,rfl,hf,fun l hl=>⟨l,rfl,⟨_,bA.of ac⟩,?_⟩⟩;refine d7 (K:=K) (a:=l) (xs:=[]) (fun i σ HK=>HK=aA H l (.lst [])) rfl (fun i σ HK _ e=>by rw[e];exact bA.of ac) (fun i y σ HK hi=>by simp at hi) ?_;rintro σ HK rfl;exact k _ (af hl)
theorem c6 (F:cU K "length" "FigureBook.length" a9 f fd)(Csingle_length:ay P w K mg base "single_length" 1 ["figure"] hJ) : aO P w K mg base cA 2 f fd ["self","figure"] (gZ ck):=by
 refine F.ok da (fun vs H Q E h=>?_) (fun cdv A outer s H vs Q E hr h=>?_)
 ·obtain⟨b,p,A,f,rfl,_⟩:=h
  rfl
 ·obtain⟨b,p,A,f,rfl,B,hf,ok,k⟩:=h
  refine⟨_,aa (aK (aq aW (aC av (pv 1) (ae) (fun _ _=>rfl)) (aD) (ar _)) (aV) (ao)) (
   aa (aK (aq aW (aC av (pv 1) (ae) (fun _ _=>rfl)) (aD) (ar _)) (aV) (ao)) (
   aa (aK (aq aW (aC av (pv 1) (ae) (fun _ _=>rfl)) (aD) (ar _)) (aV) (ao)) (
   ag (ap (aX Csingle_length hr.m rfl (eQ (pv 1))))))),?_⟩
  obtain⟨xs,hp⟩:=hf.hd;refine⟨_,rfl,p,_,0,_,rfl,rfl,aG.of hp,aJ (j:=0) rfl,rfl,_,rfl,?_⟩;rw[qg (fun z=>f.nw.2.2 (V.str.inj z))];refine aL ⟨_,rfl,p,_,0,_,rfl,rfl,aG.of hp,aJ (j:=0) rfl,rfl,_,rfl,?_⟩;rw[qg (fun z=>f.nw.1 (V.str.inj z))];refine aL ⟨_,rfl,p,_,0,_,rfl,rfl,aG.of hp,aJ (j:=0) rfl,rfl,_,rfl,?_⟩;rw[qg (fun z=>f.nw.2.1 (V.str.inj z))];exact aL ⟨_,rfl,p,f,rfl,hf,ok,k⟩
theorem c7 (F:cU K "row_of" "FigureBook.row_of" ba f fd)(Csingle_row:ay P w K mg base "single_row" 3 ["figure"] dX) : aO P w K mg base cA 4 f fd ["self","figure"] (dW ck):=by
 refine F.ok db (fun vs H Q E h=>?_) (fun cdv A outer s H vs Q E hr h=>?_)
 ·obtain⟨b,p,A,f,rfl,_⟩:=h
  rfl
 ·obtain⟨b,p,A,f,rfl,B,hf,ok,k⟩:=h
  refine⟨_,aa (aK (aq aW (aC av (pv 1) (ae) (fun _ _=>rfl)) (aD) (ar _)) (aV) (ao)) (
   aa (aK (aq aW (aC av (pv 1) (ae) (fun _ _=>rfl)) (aD) (ar _)) (aV) (ao)) (
   aa (aK (aq aW (aC av (pv 1) (ae) (fun _ _=>rfl)) (aD) (ar _)) (aV) (ao)) (
   ag (ap (aX Csingle_row hr.m rfl (eQ (pv 1))))))),?_⟩
  obtain⟨xs,hp⟩:=hf.hd;refine⟨_,rfl,p,_,0,_,rfl,rfl,aG.of hp,aJ (j:=0) rfl,rfl,_,rfl,?_⟩;rw[qg (fun z=>f.nw.2.2 (V.str.inj z))];refine aL ⟨_,rfl,p,_,0,_,rfl,rfl,aG.of hp,aJ (j:=0) rfl,rfl,_,rfl,?_⟩;rw[qg (fun z=>f.nw.1 (V.str.inj z))];refine aL ⟨_,rfl,p,_,0,_,rfl,rfl,aG.of hp,aJ (j:=0) rfl,rfl,_,rfl,?_⟩;rw[qg (fun z=>f.nw.2.1 (V.str.inj z))];exact aL ⟨_,rfl,p,f,rfl,hf,ok,k⟩
theorem fX (F:cU K "_law_cell_at" "_law_cell_at" cf f fd) : aO P w K mg base cA 1 f fd ["_law_script","_law_k"] (hG K):=by
 refine F.ok ga (fun vs H Q E h=>?_) (fun cdv A outer s H vs Q E hr h=>?_)
 ·obtain⟨a,ns,k,rfl,_⟩:=h
  rfl
 ·obtain⟨a,ns,i,rfl,hS,hi,k⟩:=h
  refine⟨_,aa (aK (aq kB (pv 1) (bp cE (by rfl) T.len PySem.boot_len (ai (pv 0) aI)) (ar _)) (ag (ap (aC fw (pv 0) (pv 1) (fun _ _=>rfl)))) ao) (ag (ap ae)),?_⟩;refine⟨_,rfl,_,rfl,a,_,rfl,.inl hS,_,_,rfl,rfl,_,rfl,?_⟩;unfold bC at k;rw[qf]
  by_cases hc:i<(ns.length:Int)
  ·rw[ql hc]at k
   rw[qt hc];refine ce ⟨_,rfl,_,rfl,a,_,_,_,rfl,rfl,hS,?_,k⟩;have e:i=((i.toNat:Nat):Int):=(Int.toNat_of_nonneg hi).symm
   have hl:i.toNat<ns.length:=by omega
   rw[e];refine aJ ?_;rw[List.getElem?_map,List.getD_eq_getElem?_getD,Int.toNat_natCast,List.getElem?_eq_getElem hl];rfl
  ·rw[qi hc]at k
   rw[qg hc];exact aL k
theorem gO (F:cU K "_law_whole" "_law_whole" cL f fd) : aO P w K mg base cA 1 f fd ["_law_found"] fL:=by
 refine F.ok gW (fun vs H Q E h=>?_) (fun cdv A outer s H vs Q E hr h=>?_)
 ·obtain⟨i,rfl,_⟩:=h
  rfl
 ·obtain⟨i,rfl,k⟩:=h
  refine⟨_,ag (ap (kG (bp d6 (by rfl) T.isinstance qV (ai (pv 0) (ai (fA (v:=.ty "int") (by rfl) T.int PyProof.Rows.boot_int rfl) aI))) (jc (mK (bp d6 (by rfl) T.isinstance qV (ai (pv 0) (ai (fA (v:=.ty "bool") (by rfl) T.bool PyProof.Rows.boot_bool rfl) aI))))))),?_⟩;refine⟨_,rfl,_,_,_,true,rfl,cW.int i,rfl,_,rfl,ce ?_⟩;exact⟨_,rfl,_,_,_,false,rfl,cW.int i,rfl,_,rfl,k⟩
theorem iy (F:cU K "_law_size" "_law_size" dg f fd) : aO P w K mg base cA 1 f fd ["_law_cell"] eU:=by
 refine F.ok iD (fun vs H Q E h=>?_) (fun cdv A outer s H vs Q E hr h=>?_)
 ·obtain⟨c,rfl,_⟩:=h
  rfl
 ·obtain⟨c,rfl,k⟩:=h
  refine⟨_,aa (aK (aq kB (pv 0) ae (ar _)) (ag (ap (nU mZ (pv 0)))) ao) (ag (ap (pv 0))),?_⟩;refine⟨_,rfl,_,_,rfl,rfl,_,rfl,?_⟩;unfold bt at k
  by_cases hc:c<0
  ·rw[ql hc]at k
   rw[qt hc];exact ce ⟨_,rfl,_,rfl,k⟩
  ·rw[qi hc]at k
   rw[qg hc];exact aL ⟨_,rfl,k⟩
theorem gK (F:cU K "_law_draws" "_law_draws" cI f fd)(aS:ay P w K mg base "_law_size" 1 ["_law_cell"] eU) : aO P w K mg base cA 2 f fd ["_law_cell","_law_many","_law_base"] fF:=by
 refine F.ok aE (fun vs H Q E h=>?_) (fun cdv A outer s H vs Q E hr h=>?_)
 ·obtain⟨c,m,b,rfl,_⟩:=h
  rfl
 ·obtain⟨c,m,b,rfl,⟨m0,m1⟩,⟨b0,b1⟩,k⟩:=h
  refine⟨_,aa (bP (i:=3) aE.nd rfl (Or.inl rfl) (aX aS hr rfl (ai (pv 0) aI)))
   (aa (bP (i:=4) aE.nd rfl (Or.inl rfl) (cx aI))
   (aa (aK (aq nK (pv 3) (am kE ae ae) (ar _))
    (aa (bP (i:=3) aE.nd rfl (Or.inl rfl) (am gQ (pv 3) (am kE ae ae)))
    (aa (bP (i:=5) aE.nd rfl (Or.inl rfl) (am aT (pv 3) (am bE (pv 1) ae)))
    (aa (bP (i:=3) aE.nd rfl (Or.inl rfl) (am bF (pv 3) (am bE (pv 1) ae)))
    (aa (eR rm rfl (dq rfl T.range (ai (pv 5) aI)) (fC (i:=6) aE.nd rfl (Or.inl rfl))
     (aa (ek (jG PySem.F.plainAttrs_list PySem.F.slot_list_append PySem.F.type_list_append dm (pv 4) (ai (am aT (pv 3) (pv 2)) aI)))
     (ag (bP (i:=3) aE.nd rfl (Or.inl rfl) (am bF (pv 3) (pv 2))))))
    (ag (ap (pv 4)))))))
    ao)
   (aa (bP (i:=7) aE.nd rfl (Or.inl rfl) (am bE (am aT (pv 3) ae) ae))
   (aa (eR rm rfl (dq rfl T.range (ai (am aT (pv 3) (am bE (pv 1) ae)) aI)) (fC (i:=6) aE.nd rfl (Or.inl rfl))
     (aa (bP (i:=7) aE.nd rfl (Or.inl rfl) (am aT (am dR (pv 7) ae) ae))
     (ag (ek (jG PySem.F.plainAttrs_list PySem.F.slot_list_append PySem.F.type_list_append dm (pv 4) (ai (am aT (am bF (am aT (am dR (pv 7) ae) ae) ae) (pv 2)) aI))))))
   (ag (ap (pv 4))))))),?_⟩
  refine⟨_,rfl,_,rfl,by show 0<=sizeLine;exact qH _,fun l hl=>?_⟩
  have big:(10:Int) ^ (18:Int).toNat=1000000000000000000:=by decide
  have room:∀ ds:List Int,(ds.length:Int)<=1000->(ds.map V.int).length<sizeLine:=fun ds h=>by rw[qf];exact cC (by omega)
  have app:∀ (ds:List Int)(z:Int),aA (aA H l (.lst (ds.map V.int))) l (.lst (ds.map V.int++[V.int z]))=aA H l (.lst ((ds++[z]).map V.int)):=fun ds z=>by rw[hW,qJ];rfl
  have inb:∀ (ds:List Int)(z:Int),(∀ d∈ds,0<=d/\d<b)->∀ d∈ds++[z%b],0<=d/\d<b:=fun ds z h d hd=>by
   rcases qX.mp hd with hd | hd
   ·exact h d hd
   ·rw[qD.mp hd];exact⟨rj _ (by omega),qW _ b0⟩
  refine⟨_,rfl,_,_,rfl,rfl,⟨by decide,by decide,by decide⟩,_,_,rfl,rfl,_,rfl,?_⟩;refine oX (fun _=>?_) (fun _=>?_)
  ·refine⟨_,rfl,_,_,rfl,rfl,⟨by decide,by decide,by decide⟩,_,_,rfl,rfl,?_⟩
   refine⟨_,rfl,_,rfl,_,_,rfl,rfl,_,_,rfl,rfl,by show (0:Int)<m+1;omega,?_⟩;refine⟨_,rfl,_,rfl,_,_,rfl,rfl,_,_,rfl,rfl,⟨by show (0:Int)<m+1;omega,by show m+1<1073741824;omega⟩,?_⟩;have cb:=qW (bt c-(10:Int) ^ (18:Int).toNat) (show 0<m+1 by omega);have cn:=rj (bt c-(10:Int) ^ (18:Int).toNat) (show m+1≠0 by omega)
   refine⟨_,rfl,_,rfl,by omega,by omega,dj (n:=((bt c-(10:Int) ^ (18:Int).toNat)%(m+1)).toNat) (fun i σ H2=>∃ (z:Int)(v:Option V)(ds:List Int),σ=[some (.int c),some (.int m),some (.int b),some (.int z),some (.ref l),some (.int ((bt c-(10:Int) ^ (18:Int).toNat)%(m+1))),v,none]/\H2=aA H l (.lst (ds.map V.int))/\ds.length=i/\∀ d∈ds,0<=d/\d<b)
    ⟨_,none,[],rfl,rfl,rfl,fun _ z=>nomatch z⟩ ?_ ?_⟩
   ·rintro i σ H2 hi ⟨z,v,ds,rfl,rfl,hlen,hds⟩
    refine⟨_,rfl,.inl ⟨rfl,_,bA.of ac⟩,_,rfl,_,rfl,_,_,rfl,rfl,b0,l,_,_,rfl,rfl,ac,room ds (by omega),?_⟩;refine⟨_,rfl,_,rfl,_,_,rfl,rfl,⟨b0,b1⟩,?_⟩;exact⟨_,_,ds++[z%b],rfl,app ds _,by rw[qz,hlen];rfl,inb ds z hds⟩
   ·rintro σ H2 ⟨z,v,ds,rfl,rfl,hlen,hds⟩
    exact⟨_,rfl,k l ds hl hds (by omega)⟩
  ·refine⟨_,rfl,_,_,rfl,rfl,by show (0:Int)<2147483629;decide,_,_,rfl,rfl,?_⟩
   have cb:=qW (bt c) (show 0<m+1 by omega);have cn:=rj (bt c) (show m+1≠0 by omega);refine⟨_,rfl,_,rfl,_,_,rfl,rfl,_,_,rfl,rfl,by show (0:Int)<m+1;omega,?_⟩
   refine⟨_,rfl,by omega,by omega,dj (n:=(bt c%(m+1)).toNat) (fun i σ H2=>∃ (z:Int)(v:Option V)(ds:List Int),σ=[some (.int c),some (.int m),some (.int b),some (.int (bt c)),some (.ref l),none,v,some (.int z)]/\H2=aA H l (.lst (ds.map V.int))/\ds.length=i/\∀ d∈ds,0<=d/\d<b)
    ⟨_,none,[],rfl,rfl,rfl,fun _ z=>nomatch z⟩ ?_ ?_⟩
   ·rintro i σ H2 hi ⟨z,v,ds,rfl,rfl,hlen,hds⟩
    refine⟨_,rfl,_,_,rfl,rfl,.inr ⟨by decide,by decide⟩,_,_,rfl,rfl,by show (0:Int)<2147483647;decide,?_⟩;refine⟨_,rfl,.inl ⟨rfl,_,bA.of ac⟩,_,rfl,_,_,rfl,rfl,.inr ⟨by decide,by decide⟩,_,_,rfl,rfl,by show (0:Int)<998244353;decide,_,_,rfl,rfl,⟨by decide,by decide⟩,_,rfl,_,_,rfl,rfl,b0,l,_,_,rfl,rfl,ac,room ds (by omega),?_⟩;exact⟨_,_,ds++[_],rfl,app ds _,by rw[qz,hlen];rfl,inb ds _ hds⟩
   ·rintro σ H2 ⟨z,v,ds,rfl,rfl,hlen,hds⟩
    exact⟨_,rfl,k l ds hl hds (by omega)⟩
theorem gL (F:cU K "_law_guest" "_law_guest" cJ f fd)(aS:ay P w K mg base "_law_size" 1 ["_law_cell"] eU) : aO P w K mg base cA 2 f fd ["_law_k","_law_cell"] fG:=by
 refine F.ok bW (fun vs H Q E h=>?_) (fun cdv A outer s H vs Q E hr h=>?_)
 ·obtain⟨k,c,rfl,_⟩:=h
  rfl
 ·obtain⟨i,c,rfl,⟨i0,i1⟩,k⟩:=h
  refine⟨_,aa (bP (i:=2) bW.nd rfl (Or.inl rfl) (aX aS hr rfl (ai (pv 1) aI)))
   (aa (bP (i:=3) bW.nd rfl (Or.inl rfl) (am bE ae (am aT (am dR (pv 2) ae) ae)))
   (aa (bP (i:=4) bW.nd rfl (Or.inl rfl) (am aT (am bE (am dR (pv 0) (pv 3)) (am kA (pv 2) ae)) ae))
   (aa (aK (aq aW (am aT (pv 2) ae) ae (ar _)) (ag (ap (am bE (pv 4) ae))) ao)
   (ag (ap (pv 4)))))),?_⟩
  refine⟨_,rfl,_,rfl,?_⟩;refine⟨_,rfl,_,_,rfl,rfl,.inr ⟨by decide,by decide⟩,_,_,rfl,rfl,by show (0:Int)<2147483646;decide,_,_,rfl,rfl,?_⟩;refine⟨_,rfl,_,rfl,_,_,rfl,rfl,.inl ⟨by show (-(2 ^ 64):Int)<i;omega,by show i<(2 ^ 64:Int);omega⟩,_,rfl,_,_,rfl,rfl,⟨by decide,by decide⟩,_,_,rfl,rfl,_,_,rfl,rfl,by show (0:Int)<2147483647;decide,?_⟩;refine⟨_,rfl,_,_,rfl,rfl,by show (0:Int)<5;decide,rfl,_,rfl,?_⟩;unfold gF at k;dsimp only at k
  by_cases hc:bt c%5=4
  ·rw[ql hc]at k
   rw[qt (show V.int (bt c%5)=V.int 4 by rw[hc])];exact ce ⟨_,rfl,_,_,rfl,rfl,k⟩
  ·rw[qi hc]at k
   rw[qg (show ¬ V.int (bt c%5)=V.int 4 from fun z=>hc (by injection z))];exact aL ⟨_,rfl,k⟩
theorem iw (F:cU K "_law_pair" "_law_pair" df f fd)(cj:ay P w K mg base "_law_whole" 1 ["_law_found"] fL) : aO P w K mg base cA 2 f fd ["_law_found"] fJ:=by
 refine F.ok iC (fun vs H Q E h=>?_) (fun cdv A outer s H vs Q E hr h=>?_)
 ·obtain⟨a,p,rfl,_⟩:=h
  rfl
 ·obtain⟨a,p,rfl,hp,k⟩:=h
  refine⟨_,aa (aK (kP (jg (gU (bp d6 (by rfl) T.isinstance qV (ai (pv 0) (ai (fA (v:=.ty "tuple") (by rfl) T.tuple PyProof.Rows.boot_tuple rfl) aI))))) (kQ (aq kC (bp cE (by rfl) T.len PySem.boot_len (ai (pv 0) aI)) ae (ar _)))).pt (ag (ap iA)) ao)
   (ag (ap (kG (aX cj hr rfl (ai (aC av (pv 0) ae (fun _ _=>rfl)) aI)) (jc (aX cj hr rfl (ai (aC av (pv 0) ae (fun _ _=>rfl)) aI)))))),?_⟩
  refine⟨_,rfl,_,_,_,true,rfl,cW.tup hp,rfl,_,rfl,aL ?_⟩;refine⟨_,rfl,a,_,rfl,.inr (aG.of hp),rfl,_,rfl,aL ?_⟩;refine⟨_,rfl,a,_,_,_,rfl,rfl,aG.of hp,rfl,_,rfl,_,rfl,ce ?_⟩;exact⟨_,rfl,a,_,_,_,rfl,rfl,aG.of hp,rfl,_,rfl,k⟩
theorem jb (F:cU K "_law_row" "_law_row" cK f fd)(dI:ay P w K mg base "_law_pair" 2 ["_law_found"] fJ) : aO P w K mg base cA 3 f fd ["_law_found"] hV:=by
 refine F.ok ji (fun vs H Q E h=>?_) (fun cdv A outer s H vs Q E hr h=>?_)
 ·obtain⟨l,ps,rfl,_⟩:=h
  rfl
 ·obtain⟨l,ps,rfl,⟨as,hl,hp⟩,hlen,k⟩:=h
  refine⟨_,aa (aK (jg (gU (bp d6 (by rfl) T.isinstance qV (ai (pv 0) (ai (fA (v:=.ty "list") (by rfl) T.list PyProof.Rows.boot_list rfl) aI))))) (ag (ap iA)) ao)
   (ag (ap (bp (jR rfl) (by rfl) T.all PyProof.Rows.boot_all (ai (ej (so:=ah cK) (N:=gA) (N':=["_law_pair_here"]) (src:=[none]) rfl rfl ⟨rfl,by decide +kernel,by decide +kernel,by decide +kernel,by decide +kernel,rfl,by decide +kernel⟩ rfl (fE (pv 0))
    (fun cl C s2 H2 ex=>⟨fC (i:=0) (show (["_law_pair_here"]:List Str).Nodup by decide +kernel) rfl (Or.inl rfl),cH,aX dI hr rfl (ai (pv 0) aI)⟩)) aI)))),?_⟩
  refine⟨_,rfl,_,_,_,true,rfl,cW.lst hl,rfl,_,rfl,aL ?_⟩;refine⟨_,rfl,l,rfl,⟨_,bA.of hl⟩,fun q hq=>?_⟩;have hlq:l≠q:=aH hl hq
  refine d7 (K:=K) (a:=l) (xs:=as.map V.ref) (fun i σ H2=>∃ (v:Option V),σ=[v]/\bo H H2/\H2 q=some (.lst ((List.replicate i true).map V.bl)))
   ⟨none,rfl,af hq,ac⟩ (fun i σ H2 _ ⟨_,_,s2,_⟩=>bA.of (s2 _ _ hl)) ?_ ?_
  ·rintro i y σ H2 hi ⟨v,rfl,s2,hq2⟩
   have hil:i<as.length:=by have:=(List.getElem?_eq_some_iff.mp hi).1;simpa using this
   obtain⟨a,ha,rfl⟩:=cu hi;obtain⟨p,_,hpa⟩:=fY hp ha;have hpl:=qv hp;refine dr ⟨_,rfl,a,p,rfl,s2 _ _ hpa,_,hq2,by rw[qf,List.length_replicate];have sl:sizeLine=16777216:=sizeLine_eq;omega,?_⟩;exact⟨_,rfl,c9 s2 hq,by rw[ac,List.replicate_succ',qJ];rfl⟩
  ·rintro σ H2 ⟨v,rfl,s2,hq2⟩
   refine⟨q,List.replicate as.length true,rfl,bA.of (by rw[hq2,qf]),?_⟩;rw[show (List.replicate as.length true).all id=true by simp];exact k H2 s2
theorem gN (F:cU K "_law_ranks" "_law_ranks" bZ f fd) : aO P w K mg base cA 1 f fd ["_law_drawn"] fK:=by
 refine F.ok bX (fun vs H Q E h=>?_) (fun cdv A outer s H vs Q E hr h=>?_)
 ·obtain⟨d,rfl,_⟩:=h
  rfl
 ·obtain⟨d,rfl,d0,k⟩:=h
  refine⟨_,aa (bz 1 bX.nd (am bE (ae) (am aT (pv 0) (ae)))) (
   aa (aK (aq lW (am aT (am bF (pv 0) (ae)) (ae)) (ae) (ar _)) (ag (bz 1 bX.nd (am bE (ae) (am aT (am bF (pv 0) (ae)) (ae))))) (ao)) (
   aa (bz 2 bX.nd (am aT (am bF (pv 0) (ae)) (ae))) (
   ag (ap (ej (so:=ah bZ) (N:=fc) (N':=["_law_k","_law_drawn","_law_step"]) (src:=[none,some 0,some 2]) rfl rfl nt rfl (dq (by rfl) T.range (eQ (pv 1))) (fun cl C s2 H2 ex=>⟨jd 0 (show (["_law_k","_law_drawn","_law_step"]:List Str).Nodup by decide +kernel),cH,am aT (am bE (am bF (pv 1) (ae)) (am dR (pv 2) (pv 0))) (ae)⟩)))))),?_⟩
  have em:∀ z m:Int,0<m->0<=z%m/\z%m<m:=fun z m h=>⟨rj _ (by omega),qW _ h⟩;refine⟨_,rfl,_,_,rfl,rfl,by show (0:Int)<6;decide,_,_,rfl,rfl,?_⟩;refine⟨_,rfl,_,_,rfl,rfl,⟨by decide,by decide⟩,_,_,rfl,rfl,by show (0:Int)<61;decide,_,_,rfl,rfl,_,rfl,?_⟩;have a1:=em d 6 (by decide)
  apply mS (fun σ HH=>HH=H/\∃ m:Nat,σ=[some (.int d),some (.int (m:Int)),none]/\2<=m/\m<=60)
  ·intro rest
   by_cases c1:d/6%61>54
   ·rw[qt c1]
    have a2:=em (d/366) 53 (by decide);refine ce ⟨_,rfl,_,_,rfl,rfl,⟨by decide,by decide⟩,_,_,rfl,rfl,by show (0:Int)<53;decide,_,_,rfl,rfl,?_⟩;exact rest _ _ ⟨rfl,(8+d/366%53).toNat,by rw[Int.toNat_of_nonneg (by omega)];rfl,by omega,by omega⟩
   ·rw[qg c1]
    exact aL (rest _ _ ⟨rfl,(2+d%6).toNat,by rw[Int.toNat_of_nonneg (by omega)];rfl,by omega,by omega⟩)
  rintro σ HH ⟨rfl,m,rfl,m0,m1⟩;have a3:=em (d/366) 6 (by decide);refine⟨_,rfl,_,_,rfl,rfl,⟨by decide,by decide⟩,_,_,rfl,rfl,by show (0:Int)<6;decide,?_⟩;refine⟨_,rfl,(m:Int),rfl,by omega,by omega,fun l hl=>?_⟩
  refine dj (n:=m) (fun i σ H2=>∃ (v:Option V)(xs:List Int),σ=[v,some (.int d),some (.int (d/366%6))]/\xs.length=i/\(∀ r∈xs,0<=r/\r<12)/\H2=aA HH l (.lst (xs.map V.int)))
   ⟨none,[],rfl,rfl,(fun _ z=>nomatch z),rfl⟩ ?_ ?_
  ·rintro i σ H2 hi ⟨v,xs,rfl,hx,hr2,rfl⟩
   refine dr ⟨_,rfl,_,_,rfl,rfl,⟨by decide,by decide⟩,_,rfl,_,rfl,_,_,rfl,rfl,.inl ⟨by omega,by omega⟩,_,_,rfl,rfl,_,_,rfl,rfl,by show (0:Int)<12;decide,_,ac,by rw[qf];exact cC (by omega),?_⟩;refine⟨_,xs++[(d/2196+d/366%6*(0+(i:Int)))%12],rfl,by rw[qz,hx];rfl,fun r hr3=>?_,?_⟩
   ·rcases qX.mp hr3 with z | z
    ·exact hr2 r z
    ·rw[qD.mp z];exact em _ 12 (by decide)
   ·rw[hW,qJ]
    rfl
  rintro σ H2 ⟨v,xs,rfl,hx,hr2,rfl⟩;exact k l xs hl (by omega) (by omega) hr2
theorem gM (F:cU K "_law_plain" "_law_plain" bG f fd)(cR:ay P w K mg base "_law_ranks" 1 ["_law_drawn"] fK)(bw:ay P w K mg base "_law_guest" 2 ["_law_k","_law_cell"] fG) : aO P w K mg base cA 3 f fd ["_law_drawn","_law_cell"] hU:=by
 refine F.ok be (fun vs H Q E h=>?_) (fun cdv A outer s H vs Q E hr h=>?_)
 ·obtain⟨d,c,rfl,_⟩:=h
  rfl
 ·obtain⟨d,c,rfl,d0,k⟩:=h
  have two:(2:Nat)<=sizeLine:=by decide
  have three:(3:Nat)<=sizeLine:=by decide
  have em:∀ z m:Int,0<m->0<=z%m/\z%m<m:=fun z m h=>⟨rj _ (by omega),qW _ h⟩
  refine⟨_,aa (bz 2 be.nd (am aT (pv 0) (ae))) (
   aa (bz 3 be.nd (aX cR hr.m rfl (eQ (am bF (pv 0) (ae))))) (
   aa (aK (aq aW (pv 2) (ae) (ar _)) (ag (ap (a8 (oA (aD) (aX bw hr.m rfl (eG (aC fw (pv 3) (ae) (fun _ _=>rfl)) (pv 1))) (aX bw hr.m rfl (eG (aC fw (pv 3) (ae) (fun _ _=>rfl)) (pv 1))))))) (ao)) (
   aa (aK (aq aW (pv 2) (ae) (ar _)) (aa (bz 4 be.nd (am aT (am bF (pv 0) (ae)) (ae))) (
   aa (bz 5 be.nd (am bE (ae) (am aT (am bF (pv 0) (ae)) (ae)))) (
   ag (ap (a8 (eG (aD) (dn dE (by rfl) T.tuple PyProof.Rows.boot_tuple (eQ (ej (so:=ah bG) (N:=c5) (N':=["_law_k","_law_cell","_law_first","_law_step"]) (src:=[none,some 1,some 4,some 5]) rfl rfl nt rfl (dq (by rfl) T.range (eQ (ae))) (fun cl C s2 H2 ex=>⟨jd 0 (show (["_law_k","_law_cell","_law_first","_law_step"]:List Str).Nodup by decide +kernel),cH,aX bw hr.m rfl (eG (am aT (am bE (pv 2) (am dR (pv 3) (pv 0))) (ae)) (pv 1))⟩)))))))))) (ao)) (
   aa (bz 6 be.nd (dn dE (by rfl) T.tuple PyProof.Rows.boot_tuple (eQ (ej (so:=ah bG) (N:=c5) (N':=["_law_rank","_law_cell"]) (src:=[none,some 1]) rfl rfl nt rfl (fE (pv 3)) (fun cl C s2 H2 ex=>⟨jd 0 (show (["_law_rank","_law_cell"]:List Str).Nodup by decide +kernel),cH,aX bw hr.m rfl (eG (pv 0) (pv 1))⟩))))) (
   ag (ap (a8 (eG (aC fw (cx (oA (aD) (aD) (aD))) (am gQ (pv 2) (ae)) (fun _ _=>rfl)) (pv 6))))))))),?_⟩
  refine⟨_,rfl,_,_,rfl,rfl,by show (0:Int)<5;decide,?_⟩;refine⟨_,rfl,_,_,rfl,rfl,⟨by decide,by decide⟩,d/5,rfl,by omega,fun lr rs hlr r0 r1 rb=>?_⟩;have s1:=af (o:=.lst (rs.map V.int)) hlr;have h1:aA H lr (.lst (rs.map V.int)) lr=some (.lst (rs.map V.int)):=ac;generalize aA H lr (.lst (rs.map V.int))=H1 at s1 h1 ⊢;refine⟨_,rfl,rfl,_,rfl,?_⟩
  by_cases c0:d%5=0
  ·rw[qt (qL V.int c0)]
   obtain⟨x,y,rt,rfl⟩:∃ x y rt,rs=x::y::rt:=by
    match rs,r0 with
    | x::y::rt,_=>exact⟨x,y,rt,rfl⟩
   have bx:=rb x (by simp);have bY:=rb y (by simp);refine ce ⟨_,rfl,lr,_,0,_,rfl,rfl,bA.of h1,aJ (j:=0) rfl,_,rfl,x,c,rfl,⟨bx.1,by omega⟩,_,rfl,lr,_,1,_,rfl,rfl,bA.of h1,aJ (j:=1) rfl,_,rfl,y,c,rfl,⟨bY.1,by omega⟩,three,fun t ht=>?_⟩;exact k t (.pair _ _) _ (s1.free ht) (s1.trans (af ht)) ac ⟨by show (2:Nat)<=2;decide,by show (2:Nat)<=60;decide,fun _ _ _ _ z=>by cases z⟩
  rw[qg (fun z=>c0 (V.int.inj z))];refine aL ⟨_,rfl,rfl,_,rfl,?_⟩
  by_cases c4:d%5=4
  ·rw[qt (qL V.int c4)]
   have a1:=em (d/5) 12 (by decide);have a2:=em (d/60) 3 (by decide);refine ce ⟨_,rfl,_,_,rfl,rfl,⟨by decide,by decide⟩,_,_,rfl,rfl,by show (0:Int)<12;decide,?_⟩;refine⟨_,rfl,_,_,rfl,rfl,⟨by decide,by decide⟩,_,_,rfl,rfl,by show (0:Int)<3;decide,_,_,rfl,rfl,?_⟩;refine⟨4,rfl,by decide,by decide,fun l hl=>?_⟩
   refine dj (n:=4) (fun i σ H2=>∃ (v:Option V),σ=[v,some (.int c),some (.int (d/5%12)),some (.int (1+d/60%3))]/\H2=aA H1 l (.lst (((List.range i).map fun j:Nat=>gF ((d/5%12+(1+d/60%3)*(0+(j:Int)))%12) c).map V.int)))
    ⟨none,rfl,rfl⟩ ?_ ?_
   ·rintro i σ H2 hi ⟨v,rfl,rfl⟩
    have a3:=em (d/5%12+(1+d/60%3)*(0+(i:Int))) 12 (by decide);refine dr ⟨_,rfl,_,rfl,_,rfl,_,_,rfl,rfl,.inl ⟨by omega,by omega⟩,_,_,rfl,rfl,_,_,rfl,rfl,by show (0:Int)<12;decide,_,rfl,_,c,rfl,⟨a3.1,by omega⟩,_,ac,by rw[qf,qf,List.length_range];exact cC (by omega),?_⟩;refine⟨_,rfl,?_⟩;rw[hW,List.range_succ,qJ,qJ];rfl
   rintro σ H2 ⟨v,rfl,rfl⟩;have s2:=af (o:=.lst (((List.range 4).map fun j:Nat=>gF ((d/5%12+(1+d/60%3)*(0+(j:Int)))%12) c).map V.int)) hl;refine⟨l,_,rfl,.inl ⟨bA.of ac,fun q hq=>?_⟩⟩;have s3:=af (o:=.tup (((List.range 4).map fun j:Nat=>gF ((d/5%12+(1+d/60%3)*(0+(j:Int)))%12) c).map V.int)) hq;refine⟨two,fun p hp=>?_⟩;have s4:=af (o:=.tup [.str "quad",.ref q]) hp
   have nd:∀ i j:Int,0<=i->i<4->0<=j->j<4->i≠j->gF ((d/5%12+(1+d/60%3)*(0+i))%12) c≠gF ((d/5%12+(1+d/60%3)*(0+j))%12) c:=fun i j i0 i1 j0 j1 n e=>by
    have bi:=em (d/5%12+(1+d/60%3)*(0+i)) 12 (by decide);have bj:=em (d/5%12+(1+d/60%3)*(0+j)) 12 (by decide);have:=lA (by omega) (by omega) e;obtain⟨st,est⟩:∃ st,st=d/60%3:=⟨_,rfl⟩;rw[<-est]at this a2
    have:st=0\/st=1\/st=2:=by omega
    rcases this with rfl | rfl | rfl<;>omega
   have s12:=s1.trans s2;refine k p (.quad _ _ _ _) _ (s12.free (s3.free hp)) (s12.trans (s3.trans s4)) ⟨q,ac,s4 _ _ ac⟩ ⟨by show (2:Nat)<=4;decide,by show (4:Nat)<=60;decide,fun a b c' d' z=>?_⟩;cases z;simp only[qY,qC,List.not_mem_nil,or_false,not_or,List.nodup_nil,and_true,not_false_eq_true];exact⟨⟨nd 0 1 (by decide) (by decide) (by decide) (by decide) (by decide),nd 0 2 (by decide) (by decide) (by decide) (by decide) (by decide),nd 0 3 (by decide) (by decide) (by decide) (by decide) (by decide)⟩,⟨nd 1 2 (by decide) (by decide) (by decide) (by decide) (by decide),nd 1 3 (by decide) (by decide) (by decide) (by decide) (by decide)⟩,nd 2 3 (by decide) (by decide) (by decide) (by decide) (by decide)⟩
  rw[qg (fun z=>c4 (V.int.inj z))];refine aL ⟨_,rfl,lr,rfl,⟨_,bA.of h1⟩,fun l hl=>?_⟩
  refine d7 (K:=K) (a:=lr) (xs:=rs.map V.int) (fun i σ H2=>∃ (v:Option V),σ=[v,some (.int c)]/\bo H1 H2/\H2 l=some (.lst (((rs.take i).map fun r=>gF r c).map V.int)))
   ⟨none,rfl,af hl,ac⟩ (fun i σ H2 _ ⟨_,_,s2,_⟩=>bA.of (s2 _ _ h1)) ?_ ?_
  ·rintro i y σ H2 hi ⟨v,rfl,s2,hl2⟩
   obtain⟨r,hr3,rfl⟩:=cu hi;have br:=rb r (qR hr3);refine dr ⟨_,rfl,_,rfl,r,c,rfl,⟨br.1,by omega⟩,_,hl2,by rw[qf,qf,q5];exact cC (by omega),?_⟩;refine⟨_,rfl,c9 s2 hl,?_⟩;rw[ac,List.take_add_one,hr3,Option.toList_some,qJ,qJ];rfl
  rintro σ H2 ⟨v,rfl,s2,hl2⟩;rw[qf,List.take_length]at hl2;refine⟨l,_,rfl,.inl ⟨bA.of hl2,fun q hq=>?_⟩⟩;have s3:=af (o:=.tup ((rs.map fun r=>gF r c).map V.int)) hq;have hq3:aA H2 q (.tup ((rs.map fun r=>gF r c).map V.int)) q=some (.tup ((rs.map fun r=>gF r c).map V.int)):=ac;have s13:=s1.trans (s2.trans s3);generalize aA H2 q (.tup ((rs.map fun r=>gF r c).map V.int))=H3 at s13 hq3 ⊢;refine⟨three,fun lw hlw=>?_⟩;have s4:=af (o:=.lst [.str "line",.str "star",.str "all"]) hlw;have a5:=em d 5 (by decide)
  have fin:∀ (f:ax),f.isP=false->f.gs=rs.map (fun r=>gF r c)->(∀ a b c d,f≠.quad a b c d)->∀ p,aA H3 lw (.lst [.str "line",.str "star",.str "all"]) p=none->Q (.ref p) (aA (aA H3 lw (.lst [.str "line",.str "star",.str "all"])) p (.tup [.str f.word,.ref q])):=fun f fp fg fq p hp=>by
   have s5:=af (o:=.tup [.str f.word,.ref q]) hp;refine k p f _ (s13.free (s4.free hp)) (s13.trans (s4.trans s5)) (bH.of fp ac (s5 _ _ (s4 _ _ (by rw[fg];exact hq3)))) ⟨?_,?_,fun a b c d z=>absurd z (fq a b c d)⟩
   ·rw[fg,qf];exact r0
   ·rw[fg,qf];exact r1
  obtain⟨z,ez⟩:∃ z,z=d%5:=⟨_,rfl⟩;rw[<-ez]at a5 c0 c4
  have c3:z=1\/z=2\/z=3:=by omega
  refine⟨_,rfl,_,_,rfl,rfl,?_⟩;rw[<-ez];rcases c3 with rfl | rfl | rfl
  ·exact⟨lw,_,_,_,rfl,rfl,bA.of ac,aJ (j:=0) rfl,_,rfl,two,fun p hp=>fin (.line (rs.map fun r=>gF r c)) rfl rfl (fun _ _ _ _ z=>by cases z) p hp⟩
  ·exact⟨lw,_,_,_,rfl,rfl,bA.of ac,aJ (j:=1) rfl,_,rfl,two,fun p hp=>fin (.star (rs.map fun r=>gF r c)) rfl rfl (fun _ _ _ _ z=>by cases z) p hp⟩
  ·exact⟨lw,_,_,_,rfl,rfl,bA.of ac,aJ (j:=2) rfl,_,rfl,two,fun p hp=>fin (.all (rs.map fun r=>gF r c)) rfl rfl (fun _ _ _ _ z=>by cases z) p hp⟩
theorem fo (F:cU K "_law_together" "_law_together" bQ f fd) : aO P w K mg base cA 1 f fd ["_law_kind","_law_k","_law_j"] jK:=by
 refine F.ok ft (fun vs H Q E h=>?_) (fun cdv A outer s H vs Q E hr h=>?_)
 ·obtain⟨w,k,j,rfl,_⟩:=h
  rfl
 ·obtain⟨w,kk,j,rfl,k⟩:=h
  refine⟨_,aa (aK (aq nM (pv 2) (pv 1) (ar _)) (ag (ap (iA))) (ao)) (
   aa (aK (aq aW (pv 0) (aD) (ar _)) (ag (ap (fB aW (pv 1) (ae) (ar _)))) (ao)) (
   ag (ap ((nS (fB aW (pv 0) (aD) (ar _)) (jc (fB aW (pv 2) (am bE (pv 1) (ae)) (ar _)))))))),?_⟩
  refine⟨_,rfl,_,rfl,_,_,rfl,rfl,_,rfl,?_⟩;unfold dh at k
  by_cases c1:j<=kk
  ·rw[qt (show (j:Int)<=(kk:Int) by omega)]
   rw[ql c1]at k;exact ce k
  ·rw[qg (show ¬ (j:Int)<=(kk:Int) by omega)]
   rw[qi c1]at k;refine aL ⟨_,rfl,rfl,_,rfl,?_⟩
   by_cases c2:w="star"
   ·rw[qt (qL V.str c2)]
    rw[ql c2]at k;refine ce ⟨_,rfl,rfl,?_⟩;rw[show decide (V.int (kk:Int)=V.int 0)=decide (kk=0) from decide_eq_decide.mpr ⟨fun z=>by have:=V.int.inj z;omega,fun z=>by rw[z];rfl⟩];exact k
   ·rw[qg (fun z=>c2 (V.str.inj z))]
    rw[qi c2]at k;refine aL ⟨_,rfl,rfl,_,rfl,?_⟩
    by_cases c3:w="all"
    ·rw[qt (qL V.str c3)]
     rw[ql c3]at k;exact ce k
    ·rw[qg (fun z=>c3 (V.str.inj z))]
     rw[qi c3]at k;refine aL ⟨_,rfl,_,rfl,_,_,rfl,rfl,rfl,?_⟩;rw[show decide (V.int (j:Int)=V.int ((kk:Int)+1))=decide (j=kk+1) from decide_eq_decide.mpr ⟨fun z=>by have:=V.int.inj z;omega,fun z=>by rw[z];rfl⟩];exact k
theorem dQ (F:cU K "_law_plain_pairs" "_law_plain_pairs" bv f fd)(Cquadrille:d5 P w K mg base "quadrille" 2 ["a","b","c","d"] (eC co))(b6:ay P w K mg base "_law_together" 1 ["_law_kind","_law_k","_law_j"] jK) : aO P w K mg base cA 3 f fd ["_law_figure"] dX:=by
 refine F.ok aw (fun vs H Q E h=>?_) (fun cdv A outer s H vs Q E hr h=>?_)
 ·obtain⟨p,f,rfl,_⟩:=h
  rfl
 ·obtain⟨p,f,rfl,hf,ok,k⟩:=h
  have two:(2:Nat)<=sizeLine:=by decide
  refine⟨_,aa (bz 1 aw.nd (aC av (pv 0) (ae) (fun _ _=>rfl))) (
   aa (aK (aq aW (pv 1) (aD) (ar _)) (ag (ap (cx (eQ (a8 (eG (aC av (pv 0) (ae) (fun _ _=>rfl)) (aC av (pv 0) (ae) (fun _ _=>rfl)))))))) (ao)) (
   aa (bz 2 aw.nd (aC av (pv 0) (ae) (fun _ _=>rfl))) (
   aa (aK (aq aW (pv 1) (aD) (ar _)) (ag (ap (kR Cquadrille hr.m rfl lX (ai (aC av (pv 2) (ae) (fun _ _=>rfl)) (ai (aC av (pv 2) (ae) (fun _ _=>rfl)) (ai (aC av (pv 2) (ae) (fun _ _=>rfl)) (ai (aC av (pv 2) (ae) (fun _ _=>rfl)) aI))))))) (ao)) (
   aa (bz 3 aw.nd (cx aI)) (
   aa (eR rm rfl (f8 (by rfl) T.enumerate (eQ (pv 2))) (gR rfl (bN (jd 4 aw.nd) (bN (jd 5 aw.nd) fD))) (ag (eR rm rfl (f8 (by rfl) T.enumerate (eQ (pv 2))) (gR rfl (bN (jd 6 aw.nd) (bN (jd 7 aw.nd) fD))) (ag (aK (gU (aX b6 hr.m rfl (oA (pv 1) (pv 4) (pv 6)))) (ag (ek (jG PySem.F.plainAttrs_list PySem.F.slot_list_append PySem.F.type_list_append dm (pv 3) (eQ (a8 (eG (pv 5) (pv 7))))))) (ao)))))) (
   ag (ap (pv 3)))))))),?_⟩
  obtain⟨xs,hp⟩:=hf.hd;refine⟨_,rfl,p,_,0,_,rfl,rfl,aG.of hp,aJ (j:=0) rfl,_,rfl,rfl,_,rfl,?_⟩;have o1:=ok.1;have o2:=ok.2.1;have rl:=ax.rl ok
  by_cases cp:f.isP=true
  ·obtain⟨a,b,rfl⟩:∃ a b,f=.pair a b:=by
    cases f with
    | pair a b=>exact⟨a,b,rfl⟩
    | _=>cases cp
   have hp:H p=some (.tup [.str "pair",.int a,.int b]):=hf;rw[qt (show V.str (ax.pair a b).word=V.str "pair" from rfl)];refine ce ⟨_,rfl,p,_,1,_,rfl,rfl,aG.of hp,rfl,_,rfl,p,_,2,_,rfl,rfl,aG.of hp,rfl,two,fun t ht=>⟨by show (1:Nat)<=sizeLine;decide,fun l hl=>?_⟩⟩;have s1:=af (o:=.tup [.int a,.int b]) ht;exact k l _ (s1.free hl) (s1.trans (af hl)) ⟨[t],ac,.cons (af hl _ _ ac) .nil⟩
  have cp:f.isP=false:=by cases q:f.isP with
   | true=>exact absurd q cp
   | false=>rfl
  obtain⟨q,e1,e2⟩:=hf.gr cp
  have nP:f.word≠"pair":=by cases f<;>first | (dsimp only[ax.word];decide +kernel) | cases cp
  rw[qg (fun z=>nP (V.str.inj z))];refine aL ⟨_,rfl,p,_,1,_,rfl,rfl,aG.of e1,rfl,_,rfl,rfl,_,rfl,?_⟩
  by_cases cq:∃ a b c d,f=.quad a b c d
  ·obtain⟨a,b,c,d,rfl⟩:=cq
   have e2:H q=some (.tup ([a,b,c,d].map V.int)):=e2;rw[qt (show V.str (ax.quad a b c d).word=V.str "quad" from rfl)];exact ce ⟨_,rfl,q,_,0,_,rfl,rfl,aG.of e2,rfl,_,rfl,q,_,1,_,rfl,rfl,aG.of e2,rfl,_,rfl,q,_,2,_,rfl,rfl,aG.of e2,rfl,_,rfl,q,_,3,_,rfl,rfl,aG.of e2,rfl,a,b,c,d,rfl,fun _ l H' hl s1 r1=>k l H' hl s1 r1,fun nn=>absurd (ok.2.2 a b c d rfl) nn⟩
  have nQ:f.word≠"quad":=by
   cases f with
   | quad a b c d=>exact absurd ⟨a,b,c,d,rfl⟩ cq
   | pair=>cases cp
   | _=>dsimp only[ax.word];decide +kernel
  have er:eg f.word f.gs f.gs 0=f.row:=by
   cases f with
   | quad a b c d=>exact absurd ⟨a,b,c,d,rfl⟩ cq
   | pair=>cases cp
   | line g=>exact iz g g 0 rfl
   | star g=>exact kF g
   | all g=>exact jF g g 0 rfl
  rw[qg (fun z=>nQ (V.str.inj z))];refine aL ⟨qH _,fun l hl=>?_⟩;have s0:=af (o:=.lst []) hl;refine⟨_,rfl,q,rfl,⟨_,aG.of (s0 _ _ e2)⟩,?_⟩;generalize hw:f.word=w at er;generalize f.gs=g at er e2 o1 o2
  refine eK (K:=K) (a:=q) (xs:=g.map V.int) (fun i σ HK=>∃ (v4 v5 v6 v7:Option V)(ps:List (Int×Int)),σ=[some (.ref p),some (.str w),some (.ref q),some (.ref l),v4,v5,v6,v7]/\bo H HK/\cc HK l ps/\ps++eg w g (g.drop i) i=f.row)
   ⟨none,none,none,none,[],rfl,s0,⟨[],ac,.nil⟩,er⟩ (fun i σ HK _ ⟨_,_,_,_,_,_,s2,_⟩=>aG.of (s2 _ _ e2)) ?_ ?_
  ·rintro i y σ HK T hi ⟨v4,v5,v6,v7,ps,rfl,s2,row,ep⟩ hT
   obtain⟨x,hx,rfl⟩:=cu hi;have hil:=(List.getElem?_eq_some_iff.mp hx).1;have sT:=af (o:=.tup [.int (i:Int),.int x]) hT;have hTT:aA HK T (.tup [.int (i:Int),.int x]) T=some (.tup [.int (i:Int),.int x]):=ac;have row:=row.mono sT;have s2:=s2.trans sT;generalize aA HK T (.tup [.int (i:Int),.int x])=HK at hTT row s2 ⊢;refine⟨T,_,rfl,aG.of hTT,rfl,_,_,rfl,_,_,rfl,rfl,?_⟩
   have ed:g.drop i=x::g.drop (i+1):=by rw[List.drop_eq_getElem_cons hil,(List.getElem?_eq_some_iff.mp hx).2]
   rw[ed]at ep;have ep:ps++(ig w i x g 0++eg w g (g.drop (i+1)) (i+1))=f.row:=ep;refine⟨_,rfl,q,rfl,⟨_,aG.of (s2 _ _ e2)⟩,?_⟩
   refine eK (K:=K) (a:=q) (xs:=g.map V.int) (fun j σ H4=>∃ (v6 v7:Option V)(qs:List (Int×Int)),σ=[some (.ref p),some (.str w),some (.ref q),some (.ref l),some (.int (i:Int)),some (.int x),v6,v7]/\bo H H4/\cc H4 l qs/\qs++(ig w i x (g.drop j) j++eg w g (g.drop (i+1)) (i+1))=f.row)
    ⟨_,_,ps,rfl,s2,row,ep⟩ (fun i σ HK _ ⟨_,_,_,_,s2,_⟩=>aG.of (s2 _ _ e2)) ?_ ?_
   ·rintro j y σ H4 T2 hj ⟨v6,v7,qs,rfl,s4,row4,eq4⟩ hT2
    obtain⟨o,ho,rfl⟩:=cu hj;have hjl:=(List.getElem?_eq_some_iff.mp ho).1;have sT:=af (o:=.tup [.int (j:Int),.int o]) hT2;have hTT:aA H4 T2 (.tup [.int (j:Int),.int o]) T2=some (.tup [.int (j:Int),.int o]):=ac;have row4:=row4.mono sT;have s4:=s4.trans sT;generalize aA H4 T2 (.tup [.int (j:Int),.int o])=H4 at hTT row4 s4 ⊢;refine⟨T2,_,rfl,aG.of hTT,rfl,_,_,rfl,_,_,rfl,rfl,?_⟩
    have ed2:g.drop j=o::g.drop (j+1):=by rw[List.drop_eq_getElem_cons hjl,(List.getElem?_eq_some_iff.mp ho).2]
    rw[ed2]at eq4;have eq4:qs++(((if dh w i j=true then [(x,o)] else [])++ig w i x (g.drop (j+1)) (j+1))++eg w g (g.drop (i+1)) (i+1))=f.row:=eq4;refine⟨_,rfl,_,rfl,_,rfl,w,i,j,rfl,_,rfl,?_⟩
    by_cases tg:dh w i j=true
    ·rw[tg]
     rw[ql tg]at eq4;obtain⟨as,hl4,pr⟩:=row4;have al:=qv pr;have el:=qL List.length eq4;simp only[qz,List.length_singleton]at el;refine ce ⟨_,rfl,.inl ⟨rfl,_,bA.of hl4⟩,_,rfl,_,rfl,two,fun t ht=>?_⟩;have st:=af (o:=.tup [.int x,.int o]) ht;refine⟨l,_,_,rfl,rfl,st _ _ hl4,by rw[qf];have sl:sizeLine=16777216:=sizeLine_eq;omega,_,_,qs++[(x,o)],rfl,c9 (s4.trans st) hl,f9 hl4 pr ht,?_⟩;rw[<-eq4];simp only[List.append_assoc]
    ·rw[qi tg]at eq4
     rw[show dh w i j=false by cases z:dh w i j with
      | true=>exact absurd z tg
      | false=>rfl]
     exact aL ⟨_,_,qs,rfl,s4,row4,eq4⟩
   rintro σ H4 ⟨v6,v7,qs,rfl,s4,row4,eq4⟩;rw[qf,List.drop_length]at eq4;exact⟨_,_,_,_,qs,rfl,s4,row4,eq4⟩
  rintro σ H4 ⟨v4,v5,v6,v7,qs,rfl,s4,row4,eq4⟩;rw[qf,List.drop_length]at eq4;have eq4:qs++[]=f.row:=eq4;rw[List.append_nil]at eq4;rw[eq4]at row4;exact⟨_,rfl,k l H4 hl s4 row4⟩
theorem gm (F:cU K "_law_spread" "_law_spread" cy f fd)(M_FigureBook_spread:bd P w K mg base cA ck "spread" 5 ["self","figure"] (dW ck)) : aO P w K mg base cA 6 f fd ["_law_book","_law_figure"] (eD ck):=by
 refine F.ok bM (fun vs H Q E h=>?_) (fun cdv A outer s H vs Q E hr h=>?_)
 ·obtain⟨b,p,A,f,rfl,_⟩:=h
  rfl
 ·obtain⟨b,p,A,f,rfl,B,hf,ok,k⟩:=h
  have two:(2:Nat)<=sizeLine:=by decide
  refine⟨_,aa (bz 2 bM.nd (aD)) (
   aa (bz 3 bM.nd (mJ)) (
   aa (lK rfl rfl (fun pins E=>ag (bz 3 bM.nd (jI M_FigureBook_spread (pv 0) UO.f.cl hr.m fZ (eQ (pv 1))))) lI) (
   ag (ap (a8 (eG (pv 2) (pv 3))))))),?_⟩
  refine⟨_,rfl,b,A.dx,_,rfl,B.ob,gz (by decide +kernel),_,rfl,b,p,A,f,rfl,B,hf,ok,fun l H1 hl s1 r1=>?_⟩;exact⟨_,rfl,_,rfl,two,fun t ht=>k t l _ (s1.free ht) hl (s1.trans (af ht)) ac (r1.mono (af ht))⟩
theorem mE (F:cU K "law" "law" jl f fd)(bh:ay P w K mg base "_law_cell_at" 1 ["_law_script","_law_k"] (hG K))(MF:oI P w K mg base ck)(aS:ay P w K mg base "_law_size" 1 ["_law_cell"] eU)(cP:ay P w K mg base "_law_draws" 2 ["_law_cell","_law_many","_law_base"] fF)(cQ:ay P w K mg base "_law_plain" 3 ["_law_drawn","_law_cell"] hU)(bB:ay P w K mg base "_law_plain_pairs" 3 ["_law_figure"] dX)(bU:ay P w K mg base "_law_spread" 6 ["_law_book","_law_figure"] (eD ck))(eH:ay P w K mg base "_law_row" 3 ["_law_found"] hV)(M_FigureBook_names:bd P w K mg base cA ck "names" 1 ["self"] (eB ck)) : aO P w K mg base cA 7 f fd ["_law_script"] (iE K):=by
 refine F.ok de (fun vs H Q E h=>?_) (fun cdv A outer s H vs Q E hr h=>?_)
 ·obtain⟨a,ns,rfl,_⟩:=h
  rfl
 ·obtain⟨a,ns,rfl,hS,hlen,k⟩:=h
  have hu:=lU hr
  have two:(2:Nat)<=sizeLine:=by decide
  have sl:sizeLine=16777216:=sizeLine_eq
  refine⟨_,aa (bz 1 de.nd (aX bh hr.m rfl (eG (pv 0) (ae)))) (
   aa (bz 2 de.nd (nN MF UO.f hr.m rfl)) (
   aa (eR rm rfl (fE (am mG (cx (eQ (aX aS hr.m rfl (eQ (aX bh hr.m rfl (eG (pv 0) (ae))))))) (aX cP hr.m rfl (oA (aX bh hr.m rfl (eG (pv 0) (ae))) (ae) (ae))))) (jd 3 de.nd) (aa (bz 4 de.nd (aX cQ hr.m rfl (eG (pv 3) (pv 1)))) (
   aa (bz 5 de.nd (aX bB hr.m rfl (eQ (pv 4)))) (
   aa (mO (aX bU hr.m rfl (eG (pv 2) (pv 4))) (gR rfl (bN (jd 6 de.nd) (bN (jd 7 de.nd) fD)))) (
   aa (aK (PW.pt (kP (aq kC (pv 6) (aD) (ar _)) (kP (jg (gU (aX eH hr.m rfl (eQ (pv 7))))) (kQ (aq (kD 2 (oW hr (by decide))) (pv 7) (pv 5) (ar _)))))) (ag (ap (iA))) (ao)) (
   aa (ek (jG PySem.F.plainAttrs_list PySem.F.slot_list_append PySem.F.type_list_append dm (pv 7) (eQ (a8 (eG (ae) (ae)))))) (
   ag (aK (aq (kD 2 (oW hr (by decide))) (aX bU hr.m rfl (eG (pv 2) (pv 4))) (a8 (eG (aD) (pv 5))) (ar _)) (ag (ap (iA))) (ao))))))))) (
   ag (ap (fB (mH 2 (oW hr (by decide))) (mM M_FigureBook_names (pv 2) UO.f.cl hr.m fZ) (cx aI) (ar _)))))),?_⟩
  refine⟨_,rfl,a,ns,1,rfl,hS,by decide,?_⟩;intro b dx nx ndx nex;refine⟨b,dx,rfl,ac,fun A H1 kp B1=>⟨rfl,?_⟩⟩
  have s0:bo H (aA (aA H dx (.own b)) b (.ins ck dx [])):=fun c o e=>by rw[ak (aH e nx),ak (aH e ndx)];exact e
  have s1:bo H H1:=fun c o e=>kp c o (s0 c o e) (aH e nx);have f0:=lp (bC ns 0);refine⟨_,rfl,a,ns,0,rfl,s1.seq hS,by decide,_,rfl,by show (1:Nat)<=sizeLine;decide,fun l1 hl1=>?_⟩;have t1:=af (o:=.lst [.int (bt (bC ns 0))]) hl1;have h1:aA H1 l1 (.lst [.int (bt (bC ns 0))]) l1=some (.lst [.int (bt (bC ns 0))]):=ac;have B2:=B1.mono t1;have s2:=s1.trans t1;generalize aA H1 l1 (.lst [.int (bt (bC ns 0))])=H2 at h1 B2 s2 ⊢;refine⟨_,rfl,a,ns,2,rfl,s2.seq hS,by decide,_,6,109800,rfl,⟨by decide,by decide⟩,⟨by decide,by decide⟩,fun l2 ds hl2 dps dln=>?_⟩;have t2:=af (o:=.lst (ds.map V.int)) hl2;have h1:=t2 _ _ h1;have h2:aA H2 l2 (.lst (ds.map V.int)) l2=some (.lst (ds.map V.int)):=ac;have B3:=B2.mono t2;have s3:=s2.trans t2;generalize aA H2 l2 (.lst (ds.map V.int))=H3 at h1 h2 B3 s3 ⊢;refine⟨l1,l2,_,_,rfl,rfl,h1,h2,by rw[qf];show 1+ds.length<=sizeLine;omega,fun l3 hl3=>?_⟩;have t3:=af (o:=.lst ([.int (bt (bC ns 0))]++ds.map V.int)) hl3;have h3:aA H3 l3 (.lst ([.int (bt (bC ns 0))]++ds.map V.int)) l3=some (.lst ((bt (bC ns 0)::ds).map V.int)):=ac;have B4:=B3.mono t3
  have zp:∀ z∈bt (bC ns 0)::ds,0<=z:=fun z hz=>by
   rcases qC.mp hz with rfl | hz
   ·exact f0
   ·exact (dps z hz).1
  generalize bt (bC ns 0)::ds=zs at h3 zp;generalize aA H3 l3 (.lst ([.int (bt (bC ns 0))]++ds.map V.int))=H4 at h3 B4 ⊢;refine⟨l3,rfl,⟨_,bA.of h3⟩,?_⟩
  refine d7 (K:=K) (a:=l3) (xs:=zs.map V.int) (fun i σ HH=>∃ (v3 v4 v5 v6 v7:Option V),σ=[some (.ref a),some (.int (bC ns 1)),some (.ref b),v3,v4,v5,v6,v7]/\cv ck HH b A/\HH l3=some (.lst (zs.map V.int)))
   ⟨none,none,none,none,none,rfl,B4,h3⟩ (fun i σ HH _ ⟨_,_,_,_,_,_,_,h⟩=>bA.of h) ?_ ?_
  ·rintro i y σ HH hi ⟨v3,v4,v5,v6,v7,rfl,BB,hL⟩
   obtain⟨z,hz,rfl⟩:=cu hi;have z0:=zp z (qR hz);refine⟨_,rfl,_,rfl,z,_,rfl,z0,fun p f H5 hp s5 hf ok=>?_⟩;have rl:=ax.rl ok;refine⟨_,rfl,p,f,rfl,hf,ok,fun ld H6 hld s6 rd=>?_⟩;have s56:=s5.trans s6;have hf6:=hf.mono s6;have B6:=BB.mono s56;refine⟨_,rfl,_,rfl,b,p,A,f,rfl,B6,hf6,ok,fun t l H7 ht hl s7 h7 r7=>?_⟩;refine⟨t,_,rfl,aG.of h7,rfl,_,_,rfl,_,_,rfl,rfl,?_⟩;refine⟨_,rfl,rfl,_,rfl,?_⟩;rw[qt (show V.str (Str.ofString "")=V.str (Str.ofString "") from rfl)];refine aL ⟨_,rfl,l,_,rfl,r7,by omega,fun H8 s8=>⟨_,rfl,aL ?_⟩⟩;have r8:=r7.mono s8;have d8:=rd.mono (s7.trans s8);have q8:RD K H8 3 (.ref l) (mQ f.row):=RD.succ (gV r8);have q9:RD K H8 3 (.ref ld) (mQ f.row):=RD.succ (gV d8);refine⟨_,rfl,_,rfl,l,ld,_,_,rfl,rfl,q8,q9,fun bb hbb=>⟨_,rfl,?_⟩⟩;rw[show (if true=true then !bb else bb)=false by rw[hbb.mpr rfl];rfl];obtain⟨as,hl8,pr8⟩:=id r8;have al:=qv pr8;refine aL ⟨_,rfl,.inl ⟨rfl,_,bA.of hl8⟩,two,fun u hu2=>?_⟩;have su:=af (o:=.tup [.int 5,.int 6]) hu2;refine⟨l,_,_,rfl,rfl,su _ _ hl8,by rw[qf];omega,?_⟩;have s68:bo H6 (aA (aA H8 u (.tup [.int 5,.int 6])) l (.lst (as.map V.ref++[.ref u]))):=c9 ((s7.trans s8).trans su) hl;generalize aA (aA H8 u (.tup [.int 5,.int 6])) l (.lst (as.map V.ref++[.ref u]))=H9 at s68 ⊢;refine⟨_,rfl,_,rfl,b,p,A,f,rfl,B6.mono s68,hf6.mono s68,ok,fun t2 l4 H10 ht2 hl4 s10 h10 r10=>?_⟩;refine⟨_,rfl,two,fun u2 hu3=>?_⟩;have su2:=af (o:=.tup [.str "",.ref ld]) hu3;have d10:=(rd.mono s68).mono (s10.trans su2)
   refine⟨t2,u2,_,_,rfl,rfl,RD.tup (aG.of (su2 _ _ h10)) (.cons (RD.flat rfl 2) (.cons (gV (r10.mono su2)) .nil)),RD.tup (aG.of ac) (.cons (RD.flat rfl 2) (.cons (gV d10) .nil)),fun bb hbb=>⟨_,rfl,?_⟩⟩;rw[show (if true=true then !bb else bb)=false by rw[hbb.mpr rfl];rfl];refine aL ⟨_,_,_,_,_,rfl,?_,?_⟩
   ·exact (B6.mono s68).mono (s10.trans su2)
   ·exact (s10.trans su2) _ _ (s68 _ _ (s56 _ _ hL))
  rintro σ HH ⟨v3,v4,v5,v6,v7,rfl,BB,hL⟩;refine⟨_,rfl,b,A.dx,_,rfl,BB.ob,gz (by decide +kernel),b,A,rfl,BB,fun ln hln=>⟨qH _,fun le hle=>?_⟩⟩;refine⟨ln,le,_,_,rfl,rfl,RD.lst (bA.of ((af hle) _ _ ac)) .nil,RD.lst (bA.of ac) .nil,fun bb hbb=>?_⟩;rw[show (if false=true then !bb else bb)=true from hbb.mpr rfl];exact k _
end
theorem all_mk2 {l:PySem.W.OpenLaw}{w:World}{K:PySem.W.Frag}{h:Heap}{mg:Str->Option Value}{fa:Addr}{co ck t1:Addr}(X:K.In h)(G:h.Ns mainGlobals mg)(hfa:mg "law" = some (.ref fa))(n_co:PySem.W.nsIn K mainGlobals "Same" = some (some (.ref co)))(n_ck:PySem.W.nsIn K mainGlobals "FigureBook" = some (some (.ref ck)))(n_mp:PySem.W.nsIn K mainGlobals "MOST_PAIRS" = some (some (.int 2000 t1)))(kpg:PySem.W.plainGet K ck Str.empty=true)(khd:PySem.W.hasDictIn K ck=true)(kpo:PySem.W.plainOver K ck=true)(ksa:PySem.W.findIn K (.ref ck) "__setattr__" = some (some (.builtin "object.__setattr__")))(kna_figures:PySem.W.findIn K (.ref ck) "figures" = some none)(kna_lengths:PySem.W.findIn K (.ref ck) "lengths" = some none)(kna_rows:PySem.W.findIn K (.ref ck) "rows" = some none)(kmk:PySem.W.makesIn K ck=true)(kkc:PySem.W.keepIn K (.ref ck)=true)(e_co:gD K co)(x_oo:PySem.W.exmOne K (.ref co) (.ref co)=some true)(dD:aP K "_law_cell_at" cf)(cm:cV K ck "__init__" "FigureBook.__init__" bu)(fN:aP K "_law_size" dg)(eV:aP K "_law_draws" cI)(eY:aP K "_law_ranks" bZ)(eW:aP K "_law_guest" cJ)(eX:aP K "_law_plain" bG)(e6:aP K "quadrille" cM)(cS:aP K "_law_together" bQ)(cr:aP K "_law_plain_pairs" bv)(cN:aP K "inner_figures" bK)(bn:cV K ck "check_names" "FigureBook.check_names" aM)(cO:aP K "single_length" bL)(bR:cV K ck "length" "FigureBook.length" a9)(dZ:aP K "single_row" bq)(bS:cV K ck "row_of" "FigureBook.row_of" ba)(bT:cV K ck "spread" "FigureBook.spread" bc)(dY:aP K "_law_spread" cy)(eZ:aP K "_law_whole" cL)(fM:aP K "_law_pair" df)(gp:aP K "_law_row" cK)(b9:cV K ck "names" "FigureBook.names" bg)(lO:aP K "law" jl)(l8:PySem.W.nsIn K mainGlobals "len" = some none)(jN:PySem.W.nsIn K mainGlobals "range" = some none)(eF:PySem.W.nsIn K mainGlobals "isinstance" = some none)(jO:PySem.W.nsIn K mainGlobals "tuple" = some none)(k8:PySem.W.nsIn K mainGlobals "list" = some none)(l7:PySem.W.nsIn K mainGlobals "int" = some none)(k6:PySem.W.nsIn K mainGlobals "bool" = some none)(l5:PySem.W.nsIn K mainGlobals "all" = some none)(l6:PySem.W.nsIn K mainGlobals "any" = some none)(iI:PySem.W.nsIn K mainGlobals "sorted" = some none)(gg:PySem.W.nsIn K mainGlobals "reversed" = some none)(me:PySem.W.nsIn K mainGlobals "set" = some none)(md:PySem.W.nsIn K mainGlobals "min" = some none)(l9:PySem.W.nsIn K mainGlobals "max" = some none)(k7:PySem.W.nsIn K mainGlobals "dict" = some none)(mi:PySem.W.nsIn K mainGlobals "zip" = some none)(ff:PySem.W.nsIn K mainGlobals "enumerate" = some none)(mh:PySem.W.nsIn K mainGlobals "sum" = some none)(mf:PySem.W.nsIn K mainGlobals "str" = some none) :
  ∃ fd:FuncData,(∀ (s:Shared)(v:Value),BindsTo s fd ⟨[v],[]⟩ [("_law_script",v)])/\∀ base:Heap,K.In base->base.Ns mainGlobals mg->aO l.prog w K mg base cA 7 fa fd ["_law_script"] (iE K):=by
 have T:pH mg:=⟨qq X G l8,qq X G jN,qq X G eF,qq X G jO,qq X G k8,qq X G l7,qq X G k6,qq X G l5,qq X G l6,qq X G iI,qq X G gg,qq X G me,qq X G md,qq X G l9,qq X G k7,qq X G mi,qq X G ff,qq X G mh,qq X G mf⟩;have UO:nh K mg co ck:=⟨⟨e_co,PySem.W.mg_of X G n_co,x_oo⟩,⟨⟨kpg,khd,kpo,ksa⟩,kna_figures,kna_lengths,kna_rows,PySem.W.mg_of X G n_ck⟩,⟨_,PySem.W.mg_of X G n_mp,⟨_,rfl⟩⟩⟩;obtain⟨f_FigureBook_init,dL,a_FigureBook_init,i_FigureBook_init,G_FigureBook_init⟩:=cm;obtain⟨f_law,mv,a_law,G_law⟩:=lO;have e:=hfa.symm.trans (PySem.W.mg_of X G a_law);cases e;refine⟨mv,?_,fun base _ _=>?_⟩
 ·obtain⟨_,_,_,_,_,_,_,_,_,rfl,_,_⟩:=G_law.ex
  exact fun s v=>.of_eq rfl
 ·have bh:ay l.prog w K mg base "_law_cell_at" 1 ["_law_script","_law_k"] (hG K):=iZ X G dD fun _ _ h=>fX T UO h
  have MF:oI l.prog w K mg base ck:=⟨f_FigureBook_init,dL,⟨kmk,a_FigureBook_init,i_FigureBook_init,kkc⟩,dP T UO G_FigureBook_init ,(G_FigureBook_init.binds (ps:=["self"]) (by intro _ _ _ _ _ _;(repeat refine oz fun _=>?_);exact oy rfl))⟩;have aS:ay l.prog w K mg base "_law_size" 1 ["_law_cell"] eU:=iZ X G fN fun _ _ h=>iy T UO h;have cP:ay l.prog w K mg base "_law_draws" 2 ["_law_cell","_law_many","_law_base"] fF:=iZ X G eV fun _ _ h=>gK T UO h aS;have cR:ay l.prog w K mg base "_law_ranks" 1 ["_law_drawn"] fK:=iZ X G eY fun _ _ h=>gN T UO h;have bw:ay l.prog w K mg base "_law_guest" 2 ["_law_k","_law_cell"] fG:=iZ X G eW fun _ _ h=>gL T UO h aS;have cQ:ay l.prog w K mg base "_law_plain" 3 ["_law_drawn","_law_cell"] hU:=iZ X G eX fun _ _ h=>gM T UO h cR bw;have Cquadrille:d5 l.prog w K mg base "quadrille" 2 ["a","b","c","d"] (eC co):=pW X G e6 fun _ _ h=>gP T UO h;have b6:ay l.prog w K mg base "_law_together" 1 ["_law_kind","_law_k","_law_j"] jK:=iZ X G cS fun _ _ h=>fo T UO h;have bB:ay l.prog w K mg base "_law_plain_pairs" 3 ["_law_figure"] dX:=iZ X G cr fun _ _ h=>dQ T UO h Cquadrille b6;have Cinner_figures:ay l.prog w K mg base "inner_figures" 1 ["figure"] fH:=iZ X G cN fun _ _ h=>eO T UO h;have M_FigureBook_check_names:bd l.prog w K mg base cA ck "check_names" 2 ["self","figure"] (gY ck):=nE bn fun _ _ h=>cg T UO h Cinner_figures;have Csingle_length:ay l.prog w K mg base "single_length" 1 ["figure"] hJ:=iZ X G cO fun _ _ h=>eP T UO h;have M_FigureBook_length:bd l.prog w K mg base cA ck "length" 2 ["self","figure"] (gZ ck):=nE bR fun _ _ h=>c6 T UO h Csingle_length
  have Csingle_row:ay l.prog w K mg base "single_row" 3 ["figure"] dX:=iZ X G dZ fun _ _ h=>gn T UO h Cquadrille;have M_FigureBook_row_of:bd l.prog w K mg base cA ck "row_of" 4 ["self","figure"] (dW ck):=nE bS fun _ _ h=>c7 T UO h Csingle_row;have M_FigureBook_spread:bd l.prog w K mg base cA ck "spread" 5 ["self","figure"] (dW ck):=nE bT fun _ _ h=>c8 T UO h M_FigureBook_check_names M_FigureBook_length M_FigureBook_row_of;have bU:ay l.prog w K mg base "_law_spread" 6 ["_law_book","_law_figure"] (eD ck):=iZ X G dY fun _ _ h=>gm T UO h M_FigureBook_spread;have cj:ay l.prog w K mg base "_law_whole" 1 ["_law_found"] fL:=iZ X G eZ fun _ _ h=>gO T UO h;have dI:ay l.prog w K mg base "_law_pair" 2 ["_law_found"] fJ:=iZ X G fM fun _ _ h=>iw T UO h cj;have eH:ay l.prog w K mg base "_law_row" 3 ["_law_found"] hV:=iZ X G gp fun _ _ h=>jb T UO h dI;have M_FigureBook_names:bd l.prog w K mg base cA ck "names" 1 ["self"] (eB ck):=nE b9 fun _ _ h=>dA T UO h;exact mE T UO G_law bh MF aS cP cQ bB bU eH M_FigureBook_names
theorem walk {l:PySem.W.OpenLaw}{q:Program}{loose:List Str}{XP:(Str->Option Value)->Heap->Prop}{YP:World->Heap->Prop}{d:DefRec}{K:Params->PySem.W.Frag}(hn:l.most=some 63)(hdf:d.params.defaults=[])
  (hY:∀ (w:World)(h:Heap),YP w h->(K w.params).In h)
  (F:∀ (w:World)(mg:Str->Option Value)(fa:Addr)(h:Heap),(K w.params).In h->h.Ns mainGlobals mg->mg d.name=some (.ref fa) ->
   ∃ fd:FuncData,(∀ (s:Shared)(u:Value),BindsTo s fd ⟨[u],[]⟩ [("_law_script",u)])/\∀ base:Heap,(K w.params).In base->base.Ns mainGlobals mg->aO l.prog w (K w.params) mg base cA 7 fa fd ["_law_script"] (iE (K w.params))) :
  PySem.W.WalkO q loose XP YP l.row.toRowW d [] (fun f vs=>PySem.call f vs) :=
 L2.walk_of (n:=63) (k:=7) (x:="_law_script") (CX:=fun _=>cA) (sp:=fun w=>iE (K w.params)) hn (by decide) hdf ⟨rfl,by decide,by decide⟩ hY F (fun _ _ a ns hl _ hS=>⟨a,ns,rfl,hS,hl,fun _=>rfl⟩) fun _ _ _ _ _ z=>z
end Wk42
namespace PySem.W.Fast
def tw13191000687909555832:=0
def tw945121599633621318:=0
def tw15663106523544102229:=0
def tw5427592984893035412:=0
def tw15852654031411841163:=0
def tw10512451932327022874:=0
def tw13566879467906979867:=0
def tw2793113176834430185:=0
def tw17885503077087891154:=0
def tw12222501469051833777:=0
def tw9698102815656431075:=0
def tw17807172712455686971:=0
def tw2242894954252184866:=0
def tw15777407944318720477:=0
def tw3318613626100527658:=0
def tw15125091383394506874:=0
def tw7216894369532033240:=0
def tw15845420043190332647:=0
def tw15810931543707114906:=0
def tw7847473859318589423:=0
def tw4189425938052838910:=0
def tw6703780001006653100:=0
def tw4315218577426203611:=0
def tw15349857909099957606:=0
def tw1791034298656760585:=0
def tw4101167843634458474:=0
def tw14667178860069854887:=0
def tw5372082796125752750:=0
def tw116730820335864486:=0
def tw14505401811289900640:=0
def tw13207062134321008578:=0
def tw10001014889774872775:=0
def tw12479001423196773000:=0
def tw5304183154693554268:=0
def tw17571330567269670003:=0
def tw12960025803415280776:=0
def tw14145421326550166876:=0
def tw7617631843284627377:=0
def tw14130562679381720018:=0
def tw14875169823875608123:=0
def tw5977147125456434937:=0
def tw10030506125308649761:=0
def tw10034136606061846450:=0
def tw6274753147525965673:=0
def tw15381257268125627877:=0
def tw1534135619175024190:=0
def tw9554860705838301307:=0
def tw15092510718231636955:=0
def tw8722268647604451419:=0
def tw3461519542643329011:=0
def tw1580443690018854416:=0
def tw5287051883272427521:=0
def tw15994212869012870280:=0
def tw1663139241106428546:=0
def tw16581277103234939586:=0
def tw3321531073933791994:=0
def tw2599561079333062766:=0
def tw17451562141942479027:=0
def tw8560939429617983826:=0
def tw16106483429586165319:=0
def tw13186138353201132296:=0
def tw6762102640663082295:=0
def tw11093053727507162304:=0
def tw6298843000742186689:=0
def tw4971827139755686621:=0
def tw319358732929424543:=0
def tw5800915120321289410:=0
def tw683203276593744613:=0
def tw8373892128170409405:=0
def tw18180235667852294307:=0
def tw16673785130273405913:=0
def tw17892822107595769084:=0
def tw5091861401562859975:=0
def tw11117437494251742599:=0
def tw1729210922056263122:=0
def tw10298330053954859642:=0
def tw8733424930309598599:=0
def tw11737726732319667735:=0
def tw14739703347704386603:=0
def tw17242906835462221213:=0
def tw17112732895081279766:=0
def tw1528544371999287050:=0
def tw14071688631896335575:=0
def tw17919291499340592394:=0
def tw4445038614230434237:=0
def tw166557199572935363:=0
def tw11825922918974419573:=0
def tw15660656335767839749:=0
def tw15502287701700234011:=0
def tw15479335770247914420:=0
def tw10008479648837863442:=0
def tw1720715773150004466:=0
def tw17281263541535913106:=0
def tw10359633456864265272:=0
def tw12336817572517629562:=0
def tw13891045882289684997:=0
def tw16687909821705816643:=0
def tw18191434873261163731:=0
def tw7214602530674200280:=0
def tw16726620805370086920:=0
def tw4671986641754495862:=0
def tw15691110932795331108:=0
def tw8433498698119940103:=0
def tw13580218654652220241:=0
def tw1436358779904554363:=0
def tw8429664406357411707:=0
def tw13611477029663927542:=0
def tw3932431934352016120:=0
def tw7819525063403446174:=0
def tw1977472285380300347:=0
def tw9668192626229224877:=0
def tw7258919081795305700:=0
def tw18021586592598525950:=0
def tw17317443037491741889:=0
def tw11761700443421529806:=0
def tw11039446827090957604:=0
def tw15362754689871186119:=0
def tw12724972621858157844:=0
def tw1184043151532284644:=0
def tw3165838560147885094:=0
def tw3589615821330937275:=0
def tw11609033062888111785:=0
def tw5482469904009157984:=0
def tw5510168970649472227:=0
def tw13944173364813834041:=0
def tw8756879248551228270:=0
def tw15580672131479335980:=0
def tw13063457633211448121:=0
def tw7781306689766014131:=0
def tw9465949015015054169:=0
def tw13433237535535148525:=0
def tw5882678731547604702:=0
end PySem.W.Fast
open PySem PySem.W PyProof.Rows
set_option maxRecDepth 100000 in
set_option maxHeartbeats 0 in
theorem PySem.Challenge.cw_lastwaltz_k42_a_figure_spread_out_holds : PySem.Challenge.rw_lastwaltz_k42_a_figure_spread_out.Holds := by
 w_on;o_law;k_head;(case hw=>w_witness2)
 k_fill
 refine Wk42.walk (l:=PySem.Challenge.rw_lastwaltz_k42_a_figure_spread_out) rfl rfl (fun w h Y=>PySem.W.kIn_of Y) ?F
 case F =>
  intro w mg fa h KX G hmg;refine' Wk42.all_mk2 KX G hmg ?n_co ?n_ck ?n_mp ?kpg ?khd ?kpo ?ksa ?kna_figures ?kna_lengths ?kna_rows ?kmk ?kkc ?e_co ?x_oo ?dD ?cm ?fN ?eV ?eY ?eW ?eX ?e6 ?cS ?cr ?cN ?bn ?cO ?bR ?dZ ?bS ?bT ?dY ?eZ ?fM ?gp ?b9 ?lO ?l8 ?jN ?eF ?jO ?k8 ?l7 ?k6 ?l5 ?l6 ?iI ?gg ?me ?md ?l9 ?k7 ?mi ?ff ?mh ?mf
  (case n_co=>k_is)
  (case n_ck=>k_is)
  (case n_mp=>k_is)
  (case e_co=>kernel_rfl)
  (case x_oo=>kernel_rfl)
  all_goals first | (refine' Wz.fact_mk ?a ?l ?c ?k;(case a=>k_is);(case l=>k_is);(case c=>k_is);(case k=>k_is)) | (refine' Wz.mfact_mk ?a ?i ?l ?c ?k;(case a=>k_is);(case i=>k_is);(case l=>k_is);(case c=>k_is);(case k=>k_is)) | k_is
