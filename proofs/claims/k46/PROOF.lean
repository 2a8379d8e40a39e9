import PyProof.Rows.All
import Wide.All
import OpenK.AllK
import Wide.FinOn
import Lean
import PyProof.EqAt
import PyProof.EqKinds
import PyProof.TupleCall
import PyProof.NeData
import PyProof.DictItems
import PyProof.JoinWalk
import PyProof.CallStr
import OpenK.KOwn
import KE.KTryMore
import PyProof.EnumMake
import KE.KLam
import KE.KNestM
import KE.KEqDict
import PyProof.Conv_int
import PyProof.StrWalks
import PyProof.StrCalls2
import PyProof.StrLawsIn
import PyProof.SliceStr2
import PyProof.StrBlock2
import PySem.Challenge.RW_lastwaltz_k46_texts_that_are_no_figures
set_option Elab.async false
set_option linter.all false
set_option maxRecDepth 100000
set_option maxHeartbeats 4000000
theorem x4:type_of% @List.length_map:=@List.length_map
theorem x5:type_of% @decide_eq_true:=@decide_eq_true
theorem x6:type_of% @decide_eq_false:=@decide_eq_false
theorem x8:type_of% @Nat.le_refl:=@Nat.le_refl
theorem x9:type_of% @PySem.wpAny_bind:=@PySem.wpAny_bind
theorem ya:type_of% @List.mem_cons_self:=@List.mem_cons_self
theorem yb:type_of% @List.length_append:=@List.length_append
theorem yc:type_of% @List.mem_cons_of_mem:=@List.mem_cons_of_mem
theorem yd:type_of% @PySem.Heap.lt_size:=@PySem.Heap.lt_size
theorem ye:type_of% @Bool.false_ne_true:=@Bool.false_ne_true
theorem yf:type_of% @if_neg:=@if_neg
theorem yg:type_of% @List.size_toArray:=@List.size_toArray
theorem yh:type_of% @List.mem_cons:=@List.mem_cons
theorem yi:type_of% @Nat.lt_of_lt_of_le:=@Nat.lt_of_lt_of_le
theorem yj:type_of% @PySem.wpAny_pure:=@PySem.wpAny_pure
theorem yk:type_of% @List.map_append:=@List.map_append
theorem ym:type_of% @if_pos:=@if_pos
theorem yn:type_of% @List.length_drop:=@List.length_drop
theorem yo:type_of% @List.lookup_cons:=@List.lookup_cons
theorem yp:type_of% @Nat.ne_of_lt:=@Nat.ne_of_lt
theorem yq:type_of% @PySem.W.mg_none_of:=@PySem.W.mg_none_of
theorem yr:type_of% @PySem.boot_len:=@PySem.boot_len
theorem yu:type_of% @List.mem_singleton:=@List.mem_singleton
theorem yx:type_of% @PySem.F.plainAttrs_list:=@PySem.F.plainAttrs_list
theorem yy:type_of% @List.length_cons:=@List.length_cons
theorem yz:type_of% @List.all_eq_true:=@List.all_eq_true
theorem yA:type_of% @List.mem_map:=@List.mem_map
theorem yB:type_of% @PySem.F.slot_list_append:=@PySem.F.slot_list_append
theorem yC:type_of% @PySem.F.type_list_append:=@PySem.F.type_list_append
theorem yD:type_of% @List.map_cons:=@List.map_cons
theorem yE:type_of% @Option.some.inj:=@Option.some.inj
theorem yF:type_of% @List.length_singleton:=@List.length_singleton
theorem yG:type_of% @Bool.and_eq_true:=@Bool.and_eq_true
theorem yH:type_of% @List.mem_of_getElem?:=@List.mem_of_getElem?
theorem yI:type_of% @of_decide_eq_true:=@of_decide_eq_true
theorem yJ:type_of% @Int.emod_lt_of_pos:=@Int.emod_lt_of_pos
theorem yK:type_of% @PySem.sizeLine_eq:=@PySem.sizeLine_eq
theorem yL:type_of% @List.mem_append:=@List.mem_append
theorem yM:type_of% @List.length_take:=@List.length_take
theorem yN:type_of% @List.mem_append_right:=@List.mem_append_right
theorem yO:type_of% @Array.length_toList:=@Array.length_toList
theorem yP:type_of% @List.replicate_succ:=@List.replicate_succ
theorem yQ:type_of% @PyProof.Rows.boot_tuple:=@PyProof.Rows.boot_tuple
theorem yR:type_of% @Nat.le_trans:=@Nat.le_trans
theorem yS:type_of% @PySem.wpAny_truthy_bool:=@PySem.wpAny_truthy_bool
theorem yT:type_of% @Nat.zero_le:=@Nat.zero_le
theorem yU:type_of% @Option.map_eq_some_iff:=@Option.map_eq_some_iff
theorem yV:type_of% @List.drop_drop:=@List.drop_drop
theorem yW:type_of% @PyProof.Rows.boot_isinstance:=@PyProof.Rows.boot_isinstance
theorem yX:type_of% @Int.emod_nonneg:=@Int.emod_nonneg
theorem yY:type_of% @PySem.W.mg_of:=@PySem.W.mg_of
theorem yZ:type_of% @List.mem_map_of_mem:=@List.mem_map_of_mem
theorem y0:type_of% @beq_eq_false_iff_ne:=@beq_eq_false_iff_ne
theorem y1:type_of% @List.flatten_cons:=@List.flatten_cons
theorem y2:type_of% @PySem.W.kia_one:=@PySem.W.kia_one
theorem y3:type_of% @Option.bind_eq_some_iff:=@Option.bind_eq_some_iff
theorem y4:type_of% @PySem.wpAny_mono:=@PySem.wpAny_mono
theorem y6:type_of% @List.map_map:=@List.map_map
theorem y7:type_of% @List.append_assoc:=@List.append_assoc
theorem y9:type_of% @PySem.mem_of_lookup:=@PySem.mem_of_lookup
theorem zc:type_of% @congrArg:=@congrArg
theorem zd:type_of% @PySem.wpAny_Call_Name_kw:=@PySem.wpAny_Call_Name_kw
theorem ze:type_of% @Int.eq_ofNat_of_zero_le:=@Int.eq_ofNat_of_zero_le
theorem zf:type_of% @PyProof.Rows.boot_all:=@PyProof.Rows.boot_all
theorem zg:type_of% @Nat.min_eq_left:=@Nat.min_eq_left
theorem zh:type_of% @PySem.PassesOwn.never:=@PySem.PassesOwn.never
theorem zi:type_of% @PySem.wpAny_newObj_type:=@PySem.wpAny_newObj_type
theorem zj:type_of% @PySem.Paired.length:=@PySem.Paired.length
theorem zk:type_of% @Ne.symm:=@Ne.symm
theorem zm:type_of% @PySem.F.plain_max_loop:=@PySem.F.plain_max_loop
theorem zn:type_of% @Option.toList_some:=@Option.toList_some
theorem zo:type_of% @PySem.wpAny_passesOwn:=@PySem.wpAny_passesOwn
theorem zp:type_of% @List.append_nil:=@List.append_nil
theorem zq:type_of% @Nat.lt_irrefl:=@Nat.lt_irrefl
theorem zr:type_of% @List.take_add_one:=@List.take_add_one
theorem zu:type_of% @if_true:=@if_true
theorem zw:type_of% @PySem.codeAny_mono:=@PySem.codeAny_mono
theorem zx:type_of% @List.take_length:=@List.take_length
theorem zy:type_of% @decide_eq_decide:=@decide_eq_decide
theorem zA:type_of% @PySem.F.called_set:=@PySem.F.called_set
theorem zB:type_of% @PySem.wpAny_execs_nil:=@PySem.wpAny_execs_nil
theorem zC:type_of% @PySem.Calls.spliced_cons:=@PySem.Calls.spliced_cons
theorem zD:type_of% @List.nodup_cons:=@List.nodup_cons
theorem zE:type_of% @Int.natCast_add:=@Int.natCast_add
theorem zF:type_of% @Int.toNat_natCast:=@Int.toNat_natCast
theorem zG:type_of% @PySem.wpAny_field:=@PySem.wpAny_field
namespace L2
open PySem PySem.Spec PyProof.Rows
abbrev kS:=Sum Int Str
def oQ:kS->Value->Bool
 | .inl k,v=>Value.isInt k v
 | .inr x,v=>Value.isStrOf x v
def wY (w:World):kS->Int
 | .inl k=>hashInt k
 | .inr x=>hashStr w x
theorem bJ:∀ {k:kS}{v:Value},oQ k v=true->(∃ i t,k=Sum.inl i/\v=Value.int i t)\/(∃ x t,k=Sum.inr x/\v=Value.str x t)
 | .inl i,v,h=>by
  obtain⟨t,e⟩:=Value.isInt_shape (k:=i) (v:=v) h;exact .inl ⟨i,t,rfl,e⟩
 | .inr x,v,h=>by
  obtain⟨t,e⟩:=Value.isStrOf_shape (x:=x) (v:=v) h;exact .inr ⟨x,t,rfl,e⟩
theorem pB (x:Str)(t:Tok):oQ (.inr x) (.str x t)=true:=by simp[oQ,Value.isStrOf]
theorem uv (a b:Int):decide ((Sum.inl a:kS)=Sum.inl b)=(a == b):=by
 by_cases e:a=b
 ·subst e;simp
 ·have h:¬ (Sum.inl a:kS)=Sum.inl b:=fun q=>e (Sum.inl.inj q)
  rw[x6 h];exact (y0.mpr e).symm
theorem uz (a b:Str):decide ((Sum.inr a:kS)=Sum.inr b)=decide (a=b):=by
 by_cases e:a=b
 ·subst e;simp
 ·have h:¬ (Sum.inr a:kS)=Sum.inr b:=fun q=>e (Sum.inr.inj q)
  rw[x6 h,x6 e]
theorem uw (a:Int)(b:Str):decide ((Sum.inl a:kS)=Sum.inr b)=false:=x6 (fun q=>nomatch q)
theorem ux (a:Str)(b:Int):decide ((Sum.inr a:kS)=Sum.inl b)=false:=x6 (fun q=>nomatch q)
def fY (prog:Program)(w:World):PySem.KeyKind prog w kS where
 is:=oQ
 hash:=wY w
 inj:=fun v a b ha hb=>by
  rcases bJ ha with ⟨i,t,rfl,rfl⟩ | ⟨x,t,rfl,rfl⟩
  ·rcases bJ hb with ⟨j,u,rfl,e⟩ | ⟨y,u,rfl,e⟩
   ·injection e with e1 _;rw[e1]
   ·exact nomatch e
  ·rcases bJ hb with ⟨j,u,rfl,e⟩ | ⟨y,u,rfl,e⟩
   ·exact nomatch e
   ·injection e with e1 _;rw[e1]
 byValue:=fun k v h=>by
  rcases bJ h with ⟨i,t,rfl,rfl⟩ | ⟨x,t,rfl,rfl⟩<;>rfl
 pyHash:=fun hv h=>by
  rcases bJ hv with ⟨i,t,rfl,rfl⟩ | ⟨x,t,rfl,rfl⟩
  ·exact wpAny_pyHash_int h
  ·exact wpAny_pyHash_str h
 eqBool:=fun hu hv h=>by
  rcases bJ hu with ⟨i,t,rfl,rfl⟩ | ⟨x,t,rfl,rfl⟩
  ·rcases bJ hv with ⟨j,u,rfl,rfl⟩ | ⟨y,u,rfl,rfl⟩
   ·rw[uv]at h;exact wpAny_eqBool_int h
   ·rw[uw]at h;exact SeqAt.EqAt.int_str i t y u _ _ _ _ h
  ·rcases bJ hv with ⟨j,u,rfl,rfl⟩ | ⟨y,u,rfl,rfl⟩
   ·rw[ux]at h;exact SeqAt.EqAt.str_int x t j u _ _ _ _ h
   ·rw[uz]at h;exact wpAny_eqBool_str h
 «strs»:=fun k x t v h=>by
  rcases bJ h with ⟨i,u,rfl,e⟩ | ⟨y,u,rfl,e⟩
  ·exact nomatch e
  ·injection e with e1 _
   subst e1;cases v<;>rfl
theorem dO (prog:Program)(w:World)(x:Str)(t:Tok):(fY prog w).is (.inr x) (.str x t)=true:=pB x t
inductive V where
 | non | bl (b:Bool) | int (i:Int) | str (x:Str) | byt (b:Array UInt8) | flt (b:UInt64) | ref (a:Addr) | ty (n:String)
 deriving DecidableEq
def be:V->Value->Prop
 | .non,u=>u=Value.none
 | .bl b,u=>u=Value.bool b
 | .int i,u=>∃ t,u=Value.int i t
 | .str x,u=>∃ t,u=Value.str x t
 | .byt b,u=>∃ t,u=Value.bytes b t
 | .flt b,u=>∃ t,u=Value.float b t
 | .ref a,u=>u=Value.ref a
 | .ty n,u=>u=Value.type n
abbrev aR:List V->List Value->Prop:=Paired be
theorem aR.length {xs:List V}{us:List Value}(r:aR xs us):xs.length=us.length:=zj r
theorem aR.get:∀ {xs:List V}{us:List Value}{i:Nat}{x:V},aR xs us->xs[i]? = some x->∃ u,us[i]? = some u/\be x u
 | _,_,_,_,.nil,e=>by simp at e
 | _,_,0,_,.cons r _,e=>by simp at e;subst e;exact⟨_,rfl,r⟩
 | _,_,i+1,x,.cons _ t,e=>by
  obtain⟨u,h1,h2⟩:=aR.get (i:=i) (x:=x) t (by simpa using e);exact⟨u,by simpa using h1,h2⟩
theorem aR.append:∀ {xs ys:List V}{us ws:List Value},aR xs us->aR ys ws->aR (xs++ys) (us++ws)
 | _,_,_,_,.nil,s=>s
 | _,_,_,_,.cons r t,s=>.cons r (aR.append t s)
theorem aR.take:∀ {xs:List V}{us:List Value}(n:Nat),aR xs us->aR (xs.take n) (us.take n)
 | _,_,0,_=>.nil
 | _,_,_+1,.nil=>.nil
 | _,_,n+1,.cons r t=>.cons r (aR.take n t)
theorem aR.drop:∀ {xs:List V}{us:List Value}(n:Nat),aR xs us->aR (xs.drop n) (us.drop n)
 | _,_,0,r=>r
 | _,_,_+1,.nil=>.nil
 | _,_,n+1,.cons _ t=>aR.drop n t
def uc:Option V->Option Value->Prop
 | some v,some u=>be v u
 | none,none=>True
 | _,_=>False
def KV {κ:Type}:List (κ×V)->List (κ×Value)->Prop:=Paired fun (p:κ×V)(q:κ×Value)=>p.1=q.1/\be p.2 q.2
def kV:kS->V
 | .inl i=>.int i
 | .inr x=>.str x
inductive HO where
 | lst (xs:List V)
 | tup (xs:List V)
 | dK (kvs:List (kS×V)) | dT (kvs:List (List kS×V))
 | set (S:Int->Bool) (n:Nat)
 | ins (C dx:Addr) (fs:List (Str×V))
 | own (x:Addr)
 | xd (fs:List (Str×V))
 | met (f x:Addr)
 | rng (lo hi:Int)
 | frz (o:Obj) (u:HO)
 | tbl (ps:Array Value)
 | ext (φ:Heap->Prop)
abbrev Hp:=Addr->Option HO
def bE (H:Hp)(a:Addr)(o:HO):Hp:=fun b=>if b=a then some o else H b
theorem af {H:Hp}{a:Addr}{o:HO}:bE H a o a=some o:=by unfold bE;rw[ym rfl]
theorem aL {H:Hp}{a b:Addr}{o:HO}(h:b≠a):bE H a o b=H b:=by unfold bE;rw[yf h]
theorem mf {H:Hp}{a:Addr}{o u:HO}:bE (bE H a o) a u=bE H a u:=by
 funext b;unfold bE;split<;>rfl
theorem qE {H:Hp}{a b:Addr}{o u:HO}(h:H a=some o)(h':H b=some u)(d:o≠u):a≠b:=by
 intro e;subst e;rw[h]at h';exact d (yE h')
theorem bT {H:Hp}{a b:Addr}{o:HO}(h:H a=some o)(h':H b=none):a≠b:=by
 intro e;subst e;rw[h]at h';cases h'
def gp (h:Heap)(a:Addr)(items:Array Value):Prop:=∃ o,h.get? a=some o/\o.cls=.type "tuple"/\∃ n,(o.data,o.dict)=(Data.seq items n,(none:Option Addr))
theorem gp.old {h:Heap}{a:Addr}{items:Array Value}(x:gp h a items):IsTup h a items:=let ⟨o,e,c,n,d⟩:=x;⟨o,e,c,n,(Prod.mk.inj d).1⟩
theorem gp.new (h:Heap)(items:Array Value):gp (h.push { cls:=.type "tuple",data:=.seq items }) h.objs.size items:=⟨_,Heap.get?_push_size _ rfl,rfl,_,rfl⟩
section
variable (P:Program)(w:World)
def cr (H:Hp)(h:Heap)(a:Addr):HO->Prop
 | .lst xs=>xs.length<=sizeLine/\∃ (its:List Value)(n:Nat),aR xs its/\h.get? a=some { cls:=.type "list",data:=.seq its.toArray n }
 | .tup xs=>xs.length<=sizeLine/\∃ its:List Value,aR xs its/\gp h a its.toArray
 | .dK kvs=>kvs.length<=sizeLine/\(a == sysModules)=false/\∃ vs,KV kvs vs/\h.DictOf (fY P w) a vs
 | .dT kvs=>kvs.length<=sizeLine/\(a == sysModules)=false/\∃ xs:List (List kS×Addr×Value),
   Paired (fun (p:List kS×V)(q:List kS×Addr×Value)=>p.1=q.1/\H q.2.1=some (.tup (p.1.map kV))/\be p.2 q.2.2) kvs xs /\
   ∃ o es ep,h.get? a=some o/\o.ExactDict/\o.data=.dict es ep/\es.toList=xs.map (entryOfKey (tupleKind (fY P w)))/\(xs.map (·.1)).Nodup
 | .set S n=>h.SetOf (intKind P w) a S n
 | .ins C dx fs=>H dx=some (.own a)/\fs.length<=1000/\dx≠a/\h.get? a=some (PySem.W.instObj C dx) /\
   ∃ mA,h.Ns1 dx mA/\(∀ f,uc (fs.lookup f) (mA f))/\PySem.Within mA (fs.map (·.1))
 | .own _=>∃ o,h.get? a=some o
 | .xd fs=>∃ mA,h.Ns1 a mA/\∀ f,uc (fs.lookup f) (mA f)
 | .rng lo hi=>∃ t u v,h.get? a=some { cls:=.type "range",data:=.fields #[.int lo t,.int hi u,.int 1 v] }
 | .frz o u=>h.get? a=some o/\cr H h a u
 | .tbl ps=>h.get? a=some { cls:=.none,data:=.fields ps }
 | .met f x=>h.get? a=some (PySem.W.methodObj (.ref f) (.ref x))
 | .ext φ=>φ h/\(∃ o,h.get? a=some o)/\∀ h1 h2:Heap,φ h1->(∀ o,h1.get? a=some o->h2.get? a=some o)->φ h2
def gF (H:Hp)(h:Heap):Prop:=∀ a o,H a=some o->cr P w H h a o
end
section
variable {P:Program}{w:World}{H H':Hp}{h h':Heap}{a:Addr}{o:HO}
theorem cr.lt (x:cr P w H h a o):a<h.objs.size:=by
 cases o with
 | lst xs=>obtain⟨_,_,_,_,e⟩:=x;exact yd e
 | tup xs=>obtain⟨_,_,_,p⟩:=x;exact p.old.lt
 | dK kvs=>obtain⟨_,_,_,_,o,_,_,e,_⟩:=x;exact yd e
 | dT kvs=>obtain⟨_,_,_,_,o,_,_,e,_⟩:=x;exact yd e
 | set S n=>obtain⟨o,_,_,_,e,_⟩:=x;exact yd e
 | ins C dx fs=>obtain⟨_,_,_,e,_⟩:=x;exact yd e
 | own y=>obtain⟨_,e⟩:=x;exact yd e
 | xd fs=>obtain⟨_,⟨_,_,_,e,_⟩,_⟩:=x;exact yd e
 | rng lo hi=>obtain⟨_,_,_,e⟩:=x;exact yd e
 | frz ob u=>obtain⟨e,_⟩:=x;exact yd e
 | tbl ps=>exact yd (show h.get? a=some _ from x)
 | met f y=>exact yd (show h.get? a=some _ from x)
 | ext φ=>obtain⟨_,⟨_,e⟩,_⟩:=x;exact yd e
theorem Paired.mapP {α β:Type}{F G:α->β->Prop}:∀ {l₁:List α}{l₂:List β},Paired F l₁ l₂->(∀ a b,F a b->G a b)->Paired G l₁ l₂
 | _,_,.nil,_=>.nil
 | _,_,.cons r t,f=>.cons (f _ _ r) (Paired.mapP t f)
theorem cr.stay (x:cr P w H h a o)(k:∀ b u,(b=a\/H b=some (.own a))->h.get? b=some u->h'.get? b=some u)
  (ho:∀ b,H b=some (.own a)->H' b=some (.own a)) (ht:∀ b xs,H b=some (.tup xs)->H' b=some (.tup xs)):cr P w H' h' a o:=by
 induction o with
 | lst xs=>obtain⟨z,its,n,r,e⟩:=x;exact⟨z,its,n,r,k _ _ (.inl rfl) e⟩
 | tup xs=>obtain⟨z,its,r,ob,e,c⟩:=x;exact⟨z,its,r,ob,k _ _ (.inl rfl) e,c⟩
 | dK kvs=>obtain⟨z,y,vs,r,ob,es,ep,e,c⟩:=x;exact⟨z,y,vs,r,ob,es,ep,k _ _ (.inl rfl) e,c⟩
 | dT kvs =>
  obtain⟨z,y,xs,r,ob,es,ep,e,c⟩:=x;exact⟨z,y,xs,Paired.mapP r fun p q z=>⟨z.1,ht _ _ z.2.1,z.2.2⟩,ob,es,ep,k _ _ (.inl rfl) e,c⟩
 | set S n=>obtain⟨ob,es,ep,t,e,c⟩:=x;exact⟨ob,es,ep,t,k _ _ (.inl rfl) e,c⟩
 | ins C dx fs =>
  obtain⟨d,z,ne,e,mA,⟨od,es,ep,e2,c⟩,r⟩:=x;exact⟨ho _ d,z,ne,k _ _ (.inl rfl) e,mA,⟨od,es,ep,k _ _ (.inr d) e2,c⟩,r⟩
 | own y=>obtain⟨ob,e⟩:=x;exact⟨ob,k _ _ (.inl rfl) e⟩
 | xd fs=>obtain⟨mA,⟨od,es,ep,e,c⟩,r⟩:=x;exact⟨mA,⟨od,es,ep,k _ _ (.inl rfl) e,c⟩,r⟩
 | rng lo hi=>obtain⟨t,u,v,e⟩:=x;exact⟨t,u,v,k _ _ (.inl rfl) e⟩
 | frz ob u ih=>obtain⟨e,q⟩:=x;exact⟨k _ _ (.inl rfl) e,ih q⟩
 | tbl ps =>
  have e:h.get? a=some { cls:=.none,data:=.fields ps }:=x
  show h'.get? a=some { cls:=.none,data:=.fields ps }
  exact k a _ (.inl rfl) e
 | met f y =>
  have e:h.get? a=some (PySem.W.methodObj (.ref f) (.ref y)):=x
  show h'.get? a=some (PySem.W.methodObj (.ref f) (.ref y))
  exact k a _ (.inl rfl) e
 | ext φ=>obtain⟨p,⟨o,e⟩,st⟩:=x;exact⟨st _ _ p fun o q=>k _ _ (.inl rfl) q,⟨o,k _ _ (.inl rfl) e⟩,st⟩
theorem gF.lt (x:gF P w H h)(e:H a=some o):a<h.objs.size:=(x a o e).lt
theorem gF.fresh (x:gF P w H h)(e:h.objs.size<=a):H a=none:=by
 cases q:H a with
 | none=>rfl
 | some u=>exact absurd (yi (x.lt q) e) (zq _)
theorem gF.kept (x:gF P w H h)(k:∀ b u,h.get? b=some u->h'.get? b=some u):gF P w H h':=fun a o e =>
 (x a o e).stay (fun b u _ q=>k b u q) (fun _ q=>q) fun _ _ q=>q
theorem gF.laid (x:gF P w H h)(k:∀ b u,h.get? b=some u->h'.get? b=some u)(hp:h.objs.size<=a)(new:cr P w (bE H a o) h' a o):gF P w (bE H a o) h':=fun b u e=>by
 have hn:=x.fresh hp
 by_cases hb:b=a
 ·subst hb;rw[af]at e;cases e;exact new
 ·rw[aL hb]at e
  exact (x b u e).stay (fun c v _ q=>k c v q) (fun c q=>by rw[aL (bT q hn)];exact q) fun c xs q=>by rw[aL (bT q hn)];exact q
end
def Rd (H:Hp)(a:Addr)(u:HO):Prop:=H a=some u\/∃ o,H a=some (.frz o u)
theorem Rd.of {H:Hp}{a:Addr}{u:HO}(h:H a=some u):Rd H a u:=.inl h
theorem Rd.ok {P:Program}{w:World}{H:Hp}{h:Heap}{a:Addr}{u:HO}(r:Rd H a u)(x:gF P w H h):cr P w H h a u:=by
 rcases r with r | ⟨o,r⟩
 ·exact x a u r
 ·obtain⟨_,q⟩:=x a _ r
  exact q
def wu:Option HO->Prop
 | some (.lst _)=>True
 | some (.dK _)=>True
 | some (.dT _)=>True
 | some (.set _ _)=>True
 | some (.ins _ _ _)=>True
 | some (.ext _)=>True
 | _=>False
section
variable {P:Program}{w:World}{H:Hp}{h h':Heap}{x e:Addr}{o':HO}
theorem gF.write (ok:gF P w H h)(mu:wu (H x))(he:e=x\/H e=some (.own x))(k:∀ b u,b≠e->h.get? b=some u->h'.get? b=some u)(heo:∃ u,h'.get? e=some u)
  (new:cr P w (bE H x o') h' x o'):gF P w (bE H x o') h':=fun b u q=>by
 have nown:∀ c y,H c=some (.own y)->c≠x:=fun c y r z=>by subst z;rw[r]at mu;exact mu
 have ntup:∀ c xs,H c=some (.tup xs)->c≠x:=fun c xs r z=>by subst z;rw[r]at mu;exact mu
 by_cases hb:b=x
 ·subst hb;rw[af]at q;cases q;exact new
 ·rw[aL hb]at q
  by_cases hbe:b=e
  ·have q':H b=some (.own x):=by
    rcases he with z | z
    ·exact absurd (hbe.trans z) hb
    ·rw[hbe];exact z
   rw[q]at q';cases q';obtain⟨v,hv⟩:=heo;exact⟨v,by rw[hbe];exact hv⟩
  ·refine (ok b u q).stay (fun c v hc r=>k c v ?_ r) (fun c r=>by rw[aL (nown c b r)];exact r) fun c xs r=>by rw[aL (ntup c xs r)];exact r
   rcases hc with rfl | hc
   ·exact hbe
   ·rintro rfl
    rcases he with z | z
    ·exact nown c b hc z
    ·rw[hc]at z;cases z;exact hb rfl
end
structure Un (fs ex:List Addr)(H H':Hp)(h h':Heap):Prop where
 keep:∀ b o,h.get? b=some o->H b=none->b∉fs->b∉ex->h'.get? b=some o
 slot:∀ b o,h.get? b=some o->H b=none->b∈fs->b∉ex->∃ sl,h'.get? b=some { o with slots:=sl }
 free:∀ b o,h.get? b=some o->H b=none->b∉ex->H' b=none
 there:∀ b o,h.get? b=some o->b∉ex->∃ o',h'.get? b=some o'
 tups:∀ b xs,H b=some (.tup xs)->H' b=some (.tup xs)
 frzs:∀ b o u,H b=some (.frz o u)->H' b=some (.frz o u)
 tbls:∀ b ps,H b=some (.tbl ps)->∃ more,H' b=some (.tbl (ps++more))
section
variable {fs fs' ex ex':List Addr}{H H1 H2:Hp}{h h1 h2 h':Heap}{a x e:Addr}{o:HO}
theorem Un.any (u:Un fs ex H H1 h h1){b:Addr}{ob:Obj}(q:h.get? b=some ob)(n:H b=none)(hx:b∉ex):∃ sl,h1.get? b=some { ob with slots:=sl }:=by
 by_cases hb:b∈fs
 ·exact u.slot b ob q n hb hx
 ·exact⟨ob.slots,u.keep b ob q n hb hx⟩
theorem Un.kept (k:∀ b u,h.get? b=some u->h'.get? b=some u):Un fs ex H H h h' :=
 ⟨fun b ob q _ _ _=>k b ob q,fun b ob q _ _ _=>⟨ob.slots,k b ob q⟩,fun _ _ _ n _=>n,fun b ob q _=>⟨ob,k b ob q⟩,fun _ _ q=>q,fun _ _ _ q=>q,fun _ ps q=>⟨#[],by rw[q];simp⟩⟩
theorem Un.refl:Un fs ex H H h h:=Un.kept fun _ _ q=>q
theorem Un.laid (k:∀ b u,h.get? b=some u->h'.get? b=some u)(hp:h.objs.size<=a)(hn:H a=none):Un fs ex H (bE H a o) h h' where
 keep:=fun b u q _ _ _=>k b u q
 slot:=fun b u q _ _ _=>⟨u.slots,k b u q⟩
 free:=fun b u q n _=>by rw[aL (yp (yi (yd q) hp))];exact n
 there:=fun b u q _=>⟨u,k b u q⟩
 tups:=fun b xs q=>by rw[aL (bT q hn)];exact q
 frzs:=fun b u xs q=>by rw[aL (bT q hn)];exact q
 tbls:=fun b ps q=>⟨#[],by rw[aL (bT q hn),q];simp⟩
theorem Un.write (mu:wu (H x))(he:e=x\/H e=some (.own x))(k:∀ b u,b≠e->h.get? b=some u->h'.get? b=some u)(heo:∃ u,h'.get? e=some u):Un fs ex H (bE H x o) h h':=by
 have hx:∀ b,H b=none->b≠x:=fun b n z=>by subst z;rw[n]at mu;exact mu
 have hb:∀ b,H b=none->b≠e:=fun b n z=>by
  subst z;rcases he with r | r
  ·exact hx b n r
  ·rw[n]at r;cases r
 have hm:∀ b u,H b=some u->¬ wu (some u)->b≠x:=fun b u q nm z=>by subst z;rw[q]at mu;exact nm mu
 refine⟨fun b u q n _ _=>k b u (hb b n) q,fun b u q n _ _=>⟨u.slots,k b u (hb b n) q⟩,fun b u q n _=>by rw[aL (hx b n)];exact n,fun b u q _=>?_,
  fun b xs q=>by rw[aL (hm b _ q fun z=>z)];exact q,fun b u xs q=>by rw[aL (hm b _ q fun z=>z)];exact q,fun b ps q=>⟨#[],by rw[aL (hm b _ q fun z=>z),q];simp⟩⟩
 by_cases hbe:b=e
 ·subst hbe;exact heo
 ·exact⟨u,k b u hbe q⟩
end
def wB (h:Heap)(H:Hp):List Addr:=(List.range h.objs.size).filter fun a=>(H a).isSome
def lj (h:Heap)(H:Hp):Heap:=PySem.W.hideAll h (wB h H)
theorem py (h:Heap)(H:Hp):(lj h H).objs.size=h.objs.size:=PySem.W.hideAll_size _ _
theorem jH {h:Heap}{H:Hp}{b:Addr}{o:Obj}(e:h.get? b=some o)(n:H b=none):(lj h H).get? b=some o :=
 PySem.W.hideAll_get _ e fun hm=>by
  have q:(H b).isSome=true:=(List.mem_filter.mp hm).2;rw[n]at q;simp at q
theorem sv {h:Heap}{H:Hp}{b:Addr}{o:Obj}(e:(lj h H).get? b=some o):h.get? b=some o/\H b=none:=by
 have e':h.get? b=some o:=PySem.W.of_hideAll (wB h H) e;refine⟨e',?_⟩
 cases q:H b with
 | none=>rfl
 | some x =>
  have hm:b∈wB h H:=List.mem_filter.mpr ⟨List.mem_range.mpr (yd e'),by simp[q]⟩;have z:(lj h H).get? b=none:=PySem.W.hideAll_none (wB h H) hm;rw[z]at e;cases e
structure Mod (K:PySem.W.Frag)(mg:Str->Option Value)(base:Heap):Prop where
 kin:K.In base
 glob:base.Ns mainGlobals mg
 blt:∃ mb,base.Ns builtinsNs mb/\∀ x:Str,x≠"__name__"->mb x=bootBuiltins x
 nolimit:base.NoLimit
structure Cx where
 prog:Program
 w:World
 K:PySem.W.Frag
 mg:Str->Option Value
 base:Heap
 A:Around
 N:List Str
 s₀:Shared
 H₀:Hp
 env:Env
 outer:List Env
 stack:List Env
 ex:List Addr
 fn:Str->Bool
 calm:Bool
 pn:List (Addr×Obj)
 xe:Value->Shared->Prop
def dM (l:List Env):List Addr:=l.filterMap (·.frame)
abbrev Cx.fs (X:Cx):List Addr:=dM X.outer
def vt (sc:Scope)(x:Str):Prop:=sc.names.lookup x=some .local\/sc.names.lookup x=some .cell\/sc.names.lookup x=some .free
def qa (sc:Scope)(x:Str):Prop:=sc.names.lookup x=some .local\/sc.names.lookup x=some .cell
def wH (env:Env)(h:Heap)(m:Str->Option Value)(x:Str)(u:Value):Prop :=
 (env.kindOf x=some .local/\m x=some u)\/((env.kindOf x=some .cell\/env.kindOf x=some .free)/\∃ c,env.cells.lookup x=some c/\h.IsCell c (some u))
structure Cx.Ok (X:Cx):Prop where
 mod:Mod X.K X.mg X.base
 kind:X.env.scope.kind=.function
 glob:X.env.globals=mainGlobals
 blt:X.env.builtins=builtinsNs
 above:X.s₀.heap.objs.size<=X.env.locals
 inj:∀ x y c,X.env.cells.lookup x=some c->X.env.cells.lookup y=some c->x=y
 has:∀ x,(X.env.kindOf x=some .cell\/X.env.kindOf x=some .free)->∃ c,X.env.cells.lookup x=some c
 cab:∀ x c,X.fn x=true->X.env.cells.lookup x=some c->X.s₀.heap.objs.size<=c
 hd:X.calm=true->X.A.handled=none
 frames:X.A.frames=some X.stack
 stk:X.stack=X.outer\/(X.stack=X.env::X.outer/\X.env.frame=some X.env.locals)
 exf:∀ b∈X.ex,b≠X.env.locals/\∀ x c,X.env.cells.lookup x=some c->c≠b
 bs:∀ b o,X.base.get? b=some o->X.s₀.heap.get? b=some o/\X.H₀ b=none
 bsz:X.base.objs.size<=X.s₀.heap.objs.size
 noex:∀ b o,X.base.get? b=some o->b∉X.ex
 exfs:∀ b∈X.ex,b∉X.fs
 funs:X.s₀.heap.FunFrames X.base X.outer
 frf:∀ b∈X.fs,X.H₀ b=none
structure aF (X:Cx)(pins:List (Addr×Obj))(σ:List (Option V))(H:Hp)(s:Shared):Prop where
 ok:X.Ok
 os:s.os=X.s₀.os
 bare:AllBare s.gens
 base:Un X.fs X.ex X.H₀ H X.s₀.heap s.heap
 loc:∃ m,s.heap.Ns X.env.locals m/\∀ (i:Nat)(x:Str)(v:V),X.N[i]? = some x->σ[i]? = some (some v)->vt X.env.scope x->∃ u,be v u/\wH X.env s.heap m x u
 cell:∀ x c,X.env.cells.lookup x=some c->∃ v,s.heap.IsCell c v
 free:H X.env.locals=none
 freeC:∀ x c,X.env.cells.lookup x=some c->H c=none
 pin:∀ p∈X.pn++pins,s.heap.get? p.1=some p.2/\H p.1=none/\p.1≠X.env.locals/\p.1∉X.fs/\∀ v,p.2.data≠.cell v
 hok:gF X.prog X.w H s.heap
 len:σ.length=X.N.length
section
variable {X:Cx}{pins:List (Addr×Obj)}{σ:List (Option V)}{H H':Hp}{s:Shared}{h':Heap}
theorem Cx.Ok.nofr (ok:X.Ok){b:Addr}{o:Obj}(e:X.base.get? b=some o):b∉X.fs:=fun hb=>by
 have:=(ok.funs.mem hb).1;rw[e]at this;cases this
theorem aF.bs (I:aF X pins σ H s):∀ b o,X.base.get? b=some o->s.heap.get? b=some o/\H b=none:=fun b o e =>
 ⟨I.base.keep b o (I.ok.bs b o e).1 (I.ok.bs b o e).2 (I.ok.nofr e) (I.ok.noex b o e),I.base.free b o (I.ok.bs b o e).1 (I.ok.bs b o e).2 (I.ok.noex b o e)⟩
theorem aF.bk (I:aF X pins σ H s):∀ b o,X.base.get? b=some o->s.heap.get? b=some o:=fun b o e=>(I.bs b o e).1
theorem aF.mod (I:aF X pins σ H s):Mod X.K X.mg X.base:=I.ok.mod
theorem aF.kIn (I:aF X pins σ H s):X.K.In s.heap:=I.ok.mod.kin.keeps I.bk
theorem aF.lt (I:aF X pins σ H s):X.env.locals<s.heap.objs.size:=let ⟨_,hn,_⟩:=I.loc;hn.lt
theorem aF.sz (I:aF X pins σ H s):X.s₀.heap.objs.size<=s.heap.objs.size:=yR I.ok.above (Nat.le_of_lt I.lt)
theorem aF.nofs (I:aF X pins σ H s){a:Addr}(h:s.heap.objs.size<=a):a∉X.fs:=fun hb=>by
 obtain⟨_,o,ho,_⟩:=I.ok.funs.mem hb;exact absurd (yi (yd ho) (yR I.sz h)) (zq _)
theorem aF.cne (I:aF X pins σ H s):∀ x c,X.env.cells.lookup x=some c->c≠X.env.locals:=fun x c e z=>by
 obtain⟨v,o,ho,hd⟩:=I.cell x c e;obtain⟨m,⟨o',es,ep,ho',hd',_⟩,_⟩:=I.loc;rw[z,ho']at ho;cases ho;rw[hd']at hd;cases hd
theorem aF.funs (I:aF X pins σ H s):s.heap.FunFrames X.base X.outer:=by
 have all:∀ (l:List Env),(∀ b∈dM l,b∈X.fs)->X.s₀.heap.FunFrames X.base l->s.heap.FunFrames X.base l:=by
  intro l
  induction l with
  | nil=>intro _ _;trivial
  | cons env r ih =>
   intro hs hl;obtain⟨hk,⟨L,o,hf,hn,ho,hd⟩,hr⟩:=hl;have hL:L∈X.fs:=hs L (by unfold dM;rw[List.filterMap_cons,hf];exact ya);obtain⟨sl,e⟩:=I.base.slot L o ho (I.ok.frf L hL) hL fun z=>I.ok.exfs L z hL;exact⟨hk,⟨L,_,hf,hn,e,hd⟩,ih (fun b hb=>hs b (by unfold dM;rw[List.filterMap_cons,hf];exact yc _ hb)) hr⟩
 exact all X.outer (fun _ hb=>hb) I.ok.funs
theorem aF.stack (I:aF X pins σ H s):s.heap.FunFrames X.base X.stack:=by
 rcases I.ok.stk with e | ⟨e,hf⟩
 ·rw[e];exact I.funs
 ·rw[e]
  obtain⟨m,hn,_⟩:=I.loc;refine .cons (by rw[I.ok.kind];decide) hf hn ?_ I.funs;exact Heap.get?_none_of_le (yR I.ok.bsz I.ok.above)
theorem aF.stkSub (I:aF X pins σ H s):∀ b∈dM X.stack,b∈X.env.locals::X.fs:=fun b hb=>by
 rcases I.ok.stk with e | ⟨e,hf⟩
 ·rw[e]at hb;exact yc _ hb
 ·rw[e]at hb
  unfold dM at hb;rw[List.filterMap_cons,hf]at hb;exact hb
theorem aF.stkFree (I:aF X pins σ H s):∀ b∈dM X.stack,H b=none:=fun b hb=>by
 rcases yh.mp (I.stkSub b hb) with e | hb
 ·rw[e];exact I.free
 ·obtain⟨_,o,ho,_⟩:=I.ok.funs.mem hb
  exact I.base.free b o ho (I.ok.frf b hb) fun z=>I.ok.exfs b z hb
theorem aF.step {g':Array GenState}{t':Nat}{d':Drawn}{ch:List Addr}(I:aF X pins σ H s)
  (hch:∀ b∈ch,(b∈X.ex\/X.s₀.heap.objs.size<=b)/\b≠X.env.locals/\(∀ x c,X.env.cells.lookup x=some c->c≠b)/\∀ p∈X.pn++pins,p.1≠b)
  (keep:∀ b o,b≠X.env.locals->b∉X.fs->b∉ch->s.heap.get? b=some o->H b=none->h'.get? b=some o)
  (slot:∀ b o,b≠X.env.locals->b∈X.fs->b∉ch->s.heap.get? b=some o->H b=none->∃ sl,h'.get? b=some { o with slots:=sl }) (free:∀ b o,b∉ch->s.heap.get? b=some o->H b=none->H' b=none)
  (there:∀ b o,b∉ch->s.heap.get? b=some o->∃ o',h'.get? b=some o')
  (tups:∀ b xs,H b=some (.tup xs)->H' b=some (.tup xs)) (frzs:∀ b o u,H b=some (.frz o u)->H' b=some (.frz o u)) (tbls:∀ b ps,H b=some (.tbl ps)->∃ more,H' b=some (.tbl (ps++more)))
  (ns:∀ m,s.heap.Ns X.env.locals m->h'.Ns X.env.locals m) (hok:gF X.prog X.w H' h') (hg:AllBare g') :
  aF X pins σ H' { s with heap:=h',gens:=g',drawn:=d',toks:=t' }:=by
 have neL:∀ b o,X.s₀.heap.get? b=some o->b≠X.env.locals:=fun b o e=>yp (yi (yd e) I.ok.above)
 have neC:∀ b o,X.s₀.heap.get? b=some o->b∉X.ex->b∉ch:=fun b o e hx hb=>by
  rcases (hch b hb).1 with z | z
  ·exact hx z
  ·exact absurd (yi (yd e) z) (zq _)
 have cellK:∀ x c,X.env.cells.lookup x=some c->∀ v,s.heap.IsCell c v->h'.IsCell c v:=fun x c e v ⟨o,ho,hd⟩=>by
  have nch:c∉ch:=fun z=>(hch c z).2.2.1 x c e rfl
  by_cases hc:c∈X.fs
  ·obtain⟨sl,q⟩:=slot c o (I.cne x c e) hc nch ho (I.freeC x c e)
   exact⟨_,q,hd⟩
  ·exact⟨o,keep c o (I.cne x c e) hc nch ho (I.freeC x c e),hd⟩
 refine⟨I.ok,I.os,hg,⟨fun b o e n hb hx=>?_,fun b o e n hb hx=>?_,fun b o e n hx=>?_,fun b o e hx=>?_,fun b xs e=>tups b xs (I.base.tups b xs e),fun b o xs e=>frzs b o xs (I.base.frzs b o xs e),fun b ps e=>?_⟩,?_,fun x c e=>?_,?_,fun x c e=>?_,fun p hp=>?_,hok,I.len⟩
 ·exact keep b o (neL b o e) hb (neC b o e hx) (I.base.keep b o e n hb hx) (I.base.free b o e n hx)
 ·obtain⟨sl,e1⟩:=I.base.slot b o e n hb hx
  obtain⟨sl',e2⟩:=slot b _ (neL b o e) hb (neC b o e hx) e1 (I.base.free b o e n hx);exact⟨sl',e2⟩
 ·obtain⟨o',e1⟩:=I.base.there b o e hx
  exact free b o' (neC b o e hx) e1 (I.base.free b o e n hx)
 ·obtain⟨o',e1⟩:=I.base.there b o e hx
  exact there b o' (neC b o e hx) e1
 ·obtain⟨m1,e1⟩:=I.base.tbls b ps e
  obtain⟨m2,e2⟩:=tbls b _ e1;exact⟨m1++m2,by rw[e2,Array.append_assoc]⟩
 ·obtain⟨m,hn,hl⟩:=I.loc
  refine⟨m,ns m hn,fun i x v e1 e2 e3=>?_⟩;obtain⟨u,r,l⟩:=hl i x v e1 e2 e3;refine⟨u,r,?_⟩;rcases l with l | ⟨k,c,e,z⟩
  ·exact .inl l
  ·exact .inr ⟨k,c,e,cellK x c e _ z⟩
 ·obtain⟨v,z⟩:=I.cell x c e
  exact⟨v,cellK x c e v z⟩
 ·obtain⟨m,⟨o,_,_,ho,_⟩,_⟩:=I.loc
  exact free _ o (fun z=>(hch _ z).2.1 rfl) ho I.free
 ·obtain⟨v,o,ho,hd⟩:=I.cell x c e
  exact free c o (fun z=>(hch c z).2.2.1 x c e rfl) ho (I.freeC x c e)
 ·obtain⟨e,n,ne,nf,d⟩:=I.pin p hp
  have nch:p.1∉ch:=fun z=>(hch p.1 z).2.2.2 p hp rfl;exact⟨keep p.1 p.2 ne nf nch e n,free p.1 p.2 nch e n,ne,nf,d⟩
theorem aF.un {t':Nat}(I:aF X pins σ H s)(u:Un X.fs [] H H' s.heap h')(hok:gF X.prog X.w H' h'):aF X pins σ H' { s with heap:=h',toks:=t' }:=by
 obtain⟨m,⟨o,es,ep,ho,r⟩,_⟩:=id I.loc;obtain⟨sl,hL⟩:=u.any ho I.free (by simp)
 exact I.step (g':=s.gens) (d':=s.drawn) (ch:=[]) (fun _ z=>nomatch z) (fun b o _ hb _ e n=>u.keep b o e n hb (by simp)) (fun b o _ hb _ e n=>u.slot b o e n hb (by simp)) (fun b o _ e n=>u.free b o e n (by simp)) (fun b o _ e=>u.there b o e (by simp)) u.tups u.frzs u.tbls (fun m' hm=>by
  obtain⟨o',es',ep',ho',r'⟩:=hm;rw[ho]at ho';cases ho'
  exact⟨_,es',ep',hL,r'⟩) hok I.bare
theorem aF.call {g':Array GenState}{t':Nat}{d':Drawn}{ch:List Addr}(I:aF X pins σ H s)(u:Un (dM X.stack) ch H H' s.heap h')(hok:gF X.prog X.w H' h')(hg:AllBare g')
  (hch:∀ b∈ch,(b∈X.ex\/X.s₀.heap.objs.size<=b)/\b≠X.env.locals/\(∀ x c,X.env.cells.lookup x=some c->c≠b)/\∀ p∈X.pn++pins,p.1≠b) :
  aF X pins σ H' { s with heap:=h',gens:=g',drawn:=d',toks:=t' }:=by
 obtain⟨m,⟨o,es,ep,ho,r⟩,_⟩:=id I.loc;obtain⟨sl,hL⟩:=u.any ho I.free fun z=>(hch _ z).2.1 rfl
 exact I.step (ch:=ch) hch (fun b o hL hb hc e n=>u.keep b o e n (fun z=>(yh.mp (I.stkSub b z)).elim hL hb) hc) (fun b o _ _ hc e n=>u.any e n hc) (fun b o hc e n=>u.free b o e n hc) (fun b o hc e=>u.there b o e hc) u.tups u.frzs u.tbls (fun m' hm=>by
  obtain⟨o',es',ep',ho',r'⟩:=hm;rw[ho]at ho';cases ho'
  exact⟨_,es',ep',hL,r'⟩) hok hg
theorem aF.turned {t':Nat}{it:Addr}(I:aF X pins σ H s)(k:∀ b o,b≠it->s.heap.get? b=some o->h'.get? b=some o)(hn:H it=none)(hL:it≠X.env.locals)
  (h1:it∈X.ex\/X.s₀.heap.objs.size<=it) (h2:∀ x c,X.env.cells.lookup x=some c->c≠it) (h3:∀ p∈X.pn++pins,p.1≠it):aF X pins σ H { s with heap:=h',toks:=t' }:=by
 have nit:∀ b u,H b=some u->b≠it:=fun b u e z=>by rw[z,hn]at e;cases e
 refine I.step (g':=s.gens) (d':=s.drawn) (ch:=[it]) (fun b hb=>?_) (fun b o _ _ hc e _=>k b o (fun z=>hc (by simp[z])) e) (fun b o _ _ hc e _=>⟨o.slots,k b o (fun z=>hc (by simp[z])) e⟩) (fun _ _ _ _ n=>n)
  (fun b o hc e=>⟨o,k b o (fun z=>hc (by simp[z])) e⟩) (fun _ _ e=>e) (fun _ _ _ e=>e) (fun b ps e=>⟨#[],by rw[e];simp⟩) (fun m hm=>?_) (fun b u e=>?_) I.bare
 ·have e:b=it:=by simpa using hb
  subst e;exact⟨h1,hL,h2,h3⟩
 ·obtain⟨o,es,ep,ho,r⟩:=hm
  exact⟨o,es,ep,k _ o (zk hL) ho,r⟩
 ·refine (I.hok b u e).stay (fun c v hc q=>k c v ?_ q) (fun _ q=>q) fun _ _ q=>q
  rcases hc with z | z
  ·rw[z];exact nit b u e
  ·exact nit c _ z
theorem aF.tok (I:aF X pins σ H s)(t:Nat):aF X pins σ H { s with toks:=t }:=I.un (h':=s.heap) (t':=t) Un.refl I.hok
theorem aF.kept {t':Nat}(I:aF X pins σ H s)(k:∀ b u,s.heap.get? b=some u->h'.get? b=some u):aF X pins σ H { s with heap:=h',toks:=t' }:=I.un (Un.kept k) (I.hok.kept k)
theorem aF.laid {a:Addr}{o:HO}{t':Nat}(I:aF X pins σ H s)(k:∀ b u,s.heap.get? b=some u->h'.get? b=some u)(hp:s.heap.objs.size<=a)(new:cr X.prog X.w (bE H a o) h' a o) :
  aF X pins σ (bE H a o) { s with heap:=h',toks:=t' }:=I.un (Un.laid k hp (I.hok.fresh hp)) (I.hok.laid k hp new)
theorem aF.write {x e:Addr}{o:HO}{t':Nat}(I:aF X pins σ H s)(mu:wu (H x))(he:e=x\/H e=some (.own x))(k:∀ b u,b≠e->s.heap.get? b=some u->h'.get? b=some u)(heo:∃ u,h'.get? e=some u)
  (new:cr X.prog X.w (bE H x o) h' x o):aF X pins σ (bE H x o) { s with heap:=h',toks:=t' }:=I.un (Un.write mu he k heo) (I.hok.write mu he k heo new)
theorem aF.pins_of {pins':List (Addr×Obj)}(I:aF X pins σ H s)(h:∀ p∈pins',s.heap.get? p.1=some p.2/\H p.1=none/\p.1≠X.env.locals/\p.1∉X.fs/\∀ v,p.2.data≠.cell v):aF X pins' σ H s :=
 ⟨I.ok,I.os,I.bare,I.base,I.loc,I.cell,I.free,I.freeC,fun p hp=>(yL.mp hp).elim (fun z=>I.pin p (List.mem_append_left _ z)) (h p),I.hok,I.len⟩
theorem mK {N:List Str}(hN:N.Nodup){i j:Nat}{x:Str}(a:N[i]? = some x)(b:N[j]? = some x):i=j:=by
 obtain⟨h1,e1⟩:=List.getElem?_eq_some_iff.mp a;obtain⟨h2,e2⟩:=List.getElem?_eq_some_iff.mp b;exact (List.getElem_inj hN).mp (e1.trans e2.symm)
theorem pU {M:Model}{A:Around}{E:Value->Shared->Prop}{i:Nat}{x:Str}{v:V}{u:Value}{Q:Unit->Shared->Prop}(I:aF X pins σ H s)(hN:X.N.Nodup)(hi:X.N[i]? = some x)(hx:qa X.env.scope x)(r:be v u)
  (h:∀ s',aF X pins (σ.set i (some v)) H s'->(∃ a,Heap.SameBut a s.heap s'.heap/\(a=X.env.locals\/X.env.cells.lookup x=some a))->Q () s') (hf:X.fn x=true\/X.env.scope.names.lookup x=some .local:=by first | exact .inl rfl | exact .inr rfl | assumption):wpAny M A (storeName X.env x u) Q E s:=by
 obtain⟨m,hn,hl⟩:=id I.loc
 have hcls:(X.env.scope.kind == .class||(X.env.scope.kind == .module&&X.env.locals != X.env.globals))=false:=by rw[I.ok.kind];rfl
 have hiσ:i<σ.length:=by rw[I.len];exact (List.getElem?_eq_some_iff.mp hi).1
 have cne:=I.cne
 have tracked:∀ {a:Addr}{h':Heap},(∃ o,s.heap.get? a=some o/\H a=none)->Heap.SameBut a s.heap h'->gF X.prog X.w H h':=fun {a h'} ha hs b ob e=>by
  obtain⟨_,_,hfree⟩:=ha;refine (I.hok b ob e).stay (fun c w' hc q=>(hs.2 c ?_).trans q) (fun _ q=>q) fun _ _ q=>q;rintro rfl;rcases hc with rfl | hc
  ·rw[hfree]at e;cases e
  ·rw[hfree]at hc;cases hc
 rcases hx with hk | hk
 ·refine wpAny_storeName_local hk hn (fun h' hn' hs=>?_) hcls
  obtain⟨oL,_,_,hoL,_⟩:=id hn;refine h _ ⟨I.ok,I.os,I.bare,⟨fun b o e n hb hx=>?_,fun b o e n hb hx=>?_,I.base.free,fun b o e hx=>?_,I.base.tups,I.base.frzs,I.base.tbls⟩,⟨_,hn',fun j y v' e1 e2 e3=>?_⟩,fun y c e=>?_,I.free,I.freeC,fun p hp=>?_,tracked ⟨oL,hoL,I.free⟩ hs,by simpa using I.len⟩ ⟨_,hs,.inl rfl⟩
  ·exact (hs.2 b (yp (yi (yd e) I.ok.above))).trans (I.base.keep b o e n hb hx)
  ·obtain⟨sl,e1⟩:=I.base.slot b o e n hb hx
   exact⟨sl,(hs.2 b (yp (yi (yd e) I.ok.above))).trans e1⟩
  ·obtain⟨o',e1⟩:=I.base.there b o e hx
   exact⟨o',(hs.2 b (yp (yi (yd e) I.ok.above))).trans e1⟩
  ·by_cases hj:j=i
   ·subst hj
    rw[hi]at e1;cases e1;rw[List.getElem?_set_self hiσ]at e2;cases e2;exact⟨u,r,.inl ⟨hk,by simp⟩⟩
   ·rw[List.getElem?_set_ne (zk hj)]at e2
    obtain⟨u',r',q⟩:=hl j y v' e1 e2 e3;refine⟨u',r',?_⟩;rcases q with ⟨k,e⟩ | ⟨k,c,e,z⟩
    ·refine .inl ⟨k,?_⟩
     have:y≠x:=fun e=>hj (mK hN e1 (e▸hi));simp[this,e]
    ·exact .inr ⟨k,c,e,z.sameBut hs (cne y c e)⟩
  ·obtain⟨w',z⟩:=I.cell y c e
   exact⟨w',z.sameBut hs (cne y c e)⟩
  ·obtain⟨e,n,ne,nf,d⟩:=I.pin p hp
   exact⟨(hs.2 p.1 ne).trans e,n,ne,nf,d⟩
 ·have hfn:X.fn x=true:=by
   rcases hf with z | z
   ·exact z
   ·rw[z]at hk;cases hk
  obtain⟨c,hc⟩:=I.ok.has x (.inl hk);obtain⟨w',z⟩:=I.cell x c hc;refine wpAny_storeName_cell I.ok.kind hk hc z (fun h' hc' hs=>?_);obtain⟨oc,hoc,hocd⟩:=id z;refine h { s with heap:=h' } ⟨I.ok,I.os,I.bare,⟨fun b o e n hb hx=>?_,fun b o e n hb hx=>?_,I.base.free,fun b o e hx=>?_,I.base.tups,I.base.frzs,I.base.tbls⟩,⟨m,hn.sameBut hs (zk (cne x c hc)),fun j y v' e1 e2 e3=>?_⟩,fun y c' e=>?_,I.free,I.freeC,fun p hp=>?_,tracked ⟨oc,hoc,I.freeC x c hc⟩ hs,by simpa using I.len⟩ ⟨c,hs,.inr hc⟩
  ·exact (hs.2 b (yp (yi (yd e) (I.ok.cab x c hfn hc)))).trans (I.base.keep b o e n hb hx)
  ·obtain⟨sl,e1⟩:=I.base.slot b o e n hb hx
   exact⟨sl,(hs.2 b (yp (yi (yd e) (I.ok.cab x c hfn hc)))).trans e1⟩
  ·obtain⟨o',e1⟩:=I.base.there b o e hx
   exact⟨o',(hs.2 b (yp (yi (yd e) (I.ok.cab x c hfn hc)))).trans e1⟩
  ·by_cases hj:j=i
   ·subst hj
    rw[hi]at e1;cases e1;rw[List.getElem?_set_self hiσ]at e2;cases e2;exact⟨u,r,.inr ⟨.inl hk,c,hc,hc'⟩⟩
   ·rw[List.getElem?_set_ne (zk hj)]at e2
    obtain⟨u',r',q⟩:=hl j y v' e1 e2 e3;refine⟨u',r',?_⟩;rcases q with q | ⟨k,c',e,z'⟩
    ·exact .inl q
    ·refine .inr ⟨k,c',e,z'.sameBut hs ?_⟩
     rintro rfl;exact hj (mK hN e1 (I.ok.inj _ _ _ e hc▸hi))
  ·by_cases hcc:c'=c
   ·subst hcc;exact⟨_,hc'⟩
   ·obtain⟨w2,z2⟩:=I.cell y c' e
    exact⟨w2,z2.sameBut hs hcc⟩
  ·obtain⟨e,n,ne,nf,d⟩:=I.pin p hp
   refine⟨(hs.2 p.1 ?_).trans e,n,ne,nf,d⟩;intro q;rw[q,hoc]at e;have q':oc=p.2:=yE e;exact d w' (by rw[<-q'];exact hocd)
theorem hX {M:Model}{A:Around}{E:Value->Shared->Prop}{i:Nat}{x:Str}{v:V}{u:Value}{Q:Unit->Shared->Prop}(I:aF X pins σ H s)(hN:X.N.Nodup)(hi:X.N[i]? = some x)(hx:qa X.env.scope x)(r:be v u)
  (h:∀ s',aF X pins (σ.set i (some v)) H s'->Q () s') (hf:X.fn x=true\/X.env.scope.names.lookup x=some .local:=by first | exact .inl rfl | exact .inr rfl | assumption):wpAny M A (storeName X.env x u) Q E s :=
 pU I hN hi hx r (fun s' I' _=>h s' I') hf
theorem aF.call' {s':Shared}{ch:List Addr}(I:aF X pins σ H s)(ho:s'.os=s.os)(u:Un (dM X.stack) ch H H' s.heap s'.heap)(hok:gF X.prog X.w H' s'.heap)(hg:AllBare s'.gens)
  (hch:∀ b∈ch,(b∈X.ex\/X.s₀.heap.objs.size<=b)/\b≠X.env.locals/\(∀ x c,X.env.cells.lookup x=some c->c≠b)/\∀ p∈X.pn++pins,p.1≠b):aF X pins σ H' s':=by
 obtain⟨h',g',d',t',o'⟩:=s';have e:o'=s.os:=ho;subst e;exact I.call (g':=g') (t':=t') (d':=d') u hok hg hch
end
abbrev XK:=Value->Option Addr->Hp->Prop
abbrev St:=List (Option V)
abbrev VK:=V->Hp->Prop
abbrev TE:=St->Hp->VK->Prop
abbrev TT:=St->Hp->(Bool->Hp->Prop)->Prop
abbrev TA:=St->Hp->(List V->Hp->Prop)->Prop
structure gH where
 nx:St->Hp->Prop
 rt:VK
 bk:St->Hp->Prop:=fun _ _=>False
 ct:St->Hp->Prop:=fun _ _=>False
abbrev TS:=gH->St->Hp->Prop
def EP (X:Cx)(pins:List (Addr×Obj))(σ:St)(Q:VK)(u:Value)(s':Shared):Prop:=∃ v H',aF X pins σ H' s'/\be v u/\Q v H'
def TP (X:Cx)(pins:List (Addr×Obj))(σ:St)(Q:Bool->Hp->Prop)(b:Bool)(s':Shared):Prop:=∃ H',aF X pins σ H' s'/\Q b H'
def AP (X:Cx)(pins:List (Addr×Obj))(σ:St)(Q:List V->Hp->Prop)(us:List Value)(s':Shared):Prop:=∃ vs H',aF X pins σ H' s'/\aR vs us/\Q vs H'
def SP (X:Cx)(pins:List (Addr×Obj))(D:gH)(f:Flow)(s':Shared):Prop :=
 match f with
 | .next=>∃ σ' H',aF X pins σ' H' s'/\D.nx σ' H'
 | .brk=>∃ σ' H',aF X pins σ' H' s'/\D.bk σ' H'
 | .cont=>∃ σ' H',aF X pins σ' H' s'/\D.ct σ' H'
 | .ret u=>∃ v σ' H',aF X pins σ' H' s'/\be v u/\D.rt v H'
def PE (X:Cx)(e:Expr)(t:TE):Prop :=
 ∀ (pins:List (Addr×Obj))(s:Shared)(σ:St)(H:Hp)(Q:VK),aF X pins σ H s->t σ H Q->wpAny (model X.prog X.w) X.A (eval e X.env) (EP X pins σ Q) X.xe s
def PT (X:Cx)(e:Expr)(t:TT):Prop :=
 ∀ (pins:List (Addr×Obj))(s:Shared)(σ:St)(H:Hp)(Q:Bool->Hp->Prop),aF X pins σ H s->t σ H Q->wpAny (model X.prog X.w) X.A (isTrue e X.env (eval e X.env)) (TP X pins σ Q) X.xe s
def PW (X:Cx)(e:Expr)(t:TT):Prop :=
 ∀ (whole:Sem Value)(pins:List (Addr×Obj))(s:Shared)(σ:St)(H:Hp)(Q:Bool->Hp->Prop),aF X pins σ H s->t σ H Q->wpAny (model X.prog X.w) X.A (isTrue e X.env whole) (TP X pins σ Q) X.xe s
theorem PW.pt {X:Cx}{e:Expr}{t:TT}(h:PW X e t):PT X e t:=h _
def PA (X:Cx)(es:List Expr)(t:TA):Prop :=
 ∀ (pos:Pos)(pins:List (Addr×Obj))(s:Shared)(σ:St)(H:Hp)(Q:List V->Hp->Prop),aF X pins σ H s->t σ H Q->wpAny (model X.prog X.w) X.A (spliced (backTo pos (starEach es X.env))) (AP X pins σ Q) X.xe s
def PS (X:Cx)(st:Stmt)(t:TS):Prop :=
 ∀ (pins:List (Addr×Obj))(s:Shared)(σ:St)(H:Hp)(D:gH),aF X pins σ H s->t D σ H->wpAny (model X.prog X.w) X.A (exec st X.env) (SP X pins D) X.xe s
def mm (X:Cx)(st:List Stmt)(t:TS):Prop :=
 ∀ (pins:List (Addr×Obj))(s:Shared)(σ:St)(H:Hp)(D:gH),aF X pins σ H s->t D σ H->wpAny (model X.prog X.w) X.A (execs st X.env) (SP X pins D) X.xe s
theorem bK {α:Type}{t:Sem α}{Q Q':α->Shared->Prop}{M:Model}{A:Around}{E:Value->Shared->Prop}{s:Shared}(h:wpAny M A t Q E s)(hQ:∀ a s,Q a s->Q' a s):wpAny M A t Q' E s:=y4 h hQ fun _ _ x=>x
section
variable {X:Cx}
inductive TV (i:Nat) (σ:St) (H:Hp) (Q:VK):Prop
 | mk (v:V) (e:σ[i]? = some (some v)) (h:Q v H):TV i σ H Q
def nv (i:Nat):TE:=fun σ H Q=>TV i σ H Q
def tC (v:V):TE:=fun _ H Q=>Q v H
theorem qS {i:Nat}{x:Str}{pos:Pos}(hN:X.N[i]? = some x)(hv:vt X.env.scope x)(hd:(x == ("__debug__" : Str))=false:=by decide)(hcd:(x == ("__classdict__" : Str))=false:=by decide):PE X (.Name x pos) (nv i):=by
 intro pins s σ H Q I h;obtain⟨v,e,h⟩:=h;obtain⟨m,hn,hl⟩:=I.loc;obtain⟨u,r,l⟩:=hl i x v hN e hv;have fin:EP X pins σ Q u s:=⟨v,H,I,r,h⟩;rcases l with ⟨hk,hm⟩ | ⟨hk,c,hc,hcell⟩
 ·exact wpAny_Name (wpAny_loadName_local I.ok.kind hk hn hm fin) hd
 ·rcases hk with hk | hk
  ·exact wpAny_Name (wpAny_loadName_cell I.ok.kind hk hc hcell fin) hd
  ·exact wpAny_Name (wpAny_loadName_free I.ok.kind hk hc hcell fin hcd) hd
theorem aa {i j pos}:PE X (.Constant (.int i) j pos) (tC (.int i)):=fun _ _ _ H _ I h=>wpAny_Constant_int ⟨.int i,H,I.tok _,⟨_,rfl⟩,h⟩
theorem fF {b j pos}:PE X (.Constant (.bool b) j pos) (tC (.bl b)):=fun _ _ _ H _ I h=>Constant_bool ⟨.bl b,H,I,rfl,h⟩
theorem oh {j pos}:PE X (.Constant .none j pos) (tC .non):=fun _ _ _ H _ I h=>Constant_none ⟨.non,H,I,rfl,h⟩
theorem ak {x j pos}:PE X (.Constant (.str x) j pos) (tC (.str x)):=fun _ _ _ H _ I h=>Calls.Constant_str ⟨.str x,H,I.tok _,⟨_,rfl⟩,h⟩
def Gl (X:Cx)(x:Str):Prop:=X.env.kindOf x=some .globalImplicit
theorem eI {E:Value->Shared->Prop}{pins:List (Addr×Obj)}{s:Shared}{σ:St}{H:Hp}{x:Str}{u:Value}{pos:Pos}{Q:Value->Shared->Prop}(I:aF X pins σ H s)(hg:Gl X x)(hm:X.mg x=some u)(h:Q u s)
  (hd:(x == ("__debug__" : Str))=false:=by decide):wpAny (model X.prog X.w) X.A (eval (.Name x pos) X.env) Q E s :=
 Calls.Name_function_global I.ok.kind hg (Calls.loadGlobal_global (by rw[I.ok.glob];exact I.mod.glob.keeps I.bk) hm h) hd
theorem iz {E:Value->Shared->Prop}{pins:List (Addr×Obj)}{s:Shared}{σ:St}{H:Hp}{x:Str}{u:Value}{pos:Pos}{Q:Value->Shared->Prop}(I:aF X pins σ H s)(hg:Gl X x)(hm:X.mg x=none)(hv:bootBuiltins x=some u)(h:Q u s)
  (hn:x≠"__name__":=by decide) (hd:(x == ("__debug__" : Str))=false:=by decide):wpAny (model X.prog X.w) X.A (eval (.Name x pos) X.env) Q E s:=by
 obtain⟨mb,h1,h2⟩:=I.mod.blt;exact Calls.Name_function_global I.ok.kind hg (Calls.loadGlobal_builtin (by rw[I.ok.glob];exact I.mod.glob.keeps I.bk) hm (by rw[I.ok.blt];exact h1.keeps I.bk) ((h2 x hn).trans hv) h) hd
theorem gW {x:Str}{v:V}{u:Value}{pos:Pos}(hg:Gl X x)(hm:X.mg x=some u)(r:be v u)(hd:(x == ("__debug__" : Str))=false:=by decide):PE X (.Name x pos) (tC v) :=
 fun _ _ _ H _ I h=>eI I hg hm ⟨v,H,I,r,h⟩ hd
theorem eN {x:Str}{v:V}{u:Value}{pos:Pos}(hg:Gl X x)(hm:X.mg x=none)(hv:bootBuiltins x=some u)(r:be v u)(hn:x≠"__name__":=by decide)(hd:(x == ("__debug__" : Str))=false:=by decide):PE X (.Name x pos) (tC v) :=
 fun _ _ _ H _ I h=>iz I hg hm hv ⟨v,H,I,r,h⟩ hn hd
variable {a b:Expr}{ta tb:TE}{pos:Pos}
def PC (X:Cx)(op:CmpOp)(a b:Expr)(t:TE):Prop :=
 ∀ (pins:List (Addr×Obj))(s:Shared)(σ:St)(H:Hp)(Q:VK),aF X pins σ H s->t σ H Q ->
  wpAny (model X.prog X.w) X.A (eval a X.env) (fun v s₁=>wpAny (model X.prog X.w) X.A (eval b X.env) (fun u s₂=>wpAny (model X.prog X.w) X.A (compareOp op v u) (EP X pins σ Q) X.xe s₂) X.xe s₁) X.xe s
theorem qF (b:Expr){op:CmpOp}(h:op≠.In)(h2:op≠.NotIn):behindInMarks op b=false:=by
 have e1:(op == CmpOp.In)=false:=by cases op<;>first | rfl | exact absurd rfl h
 have e2:(op == CmpOp.NotIn)=false:=by cases op<;>first | rfl | exact absurd rfl h2
 cases b<;>simp[behindInMarks,e1,e2]
def xq (ta:TE):TE:=fun σ H Q=>ta σ H fun x H1=>Q (.bl (decide (x=.non))) H1
theorem be.none_iff {x:V}{v:Value}(r:be x v):(v == Value.none)=decide (x=.non):=by
 cases x with
 | non=>cases r;rfl
 | bl _=>cases r;rfl
 | int _=>obtain⟨t,rfl⟩:=r;rfl
 | str _=>obtain⟨t,rfl⟩:=r;rfl
 | byt _=>obtain⟨t,rfl⟩:=r;rfl
 | flt _=>obtain⟨t,rfl⟩:=r;rfl
 | ref _=>cases r;rfl
 | ty _=>cases r;rfl
theorem uJ {j pos'}(ha:PE X a ta):PC X .Is a (.Constant .none j pos') (xq ta):=by
 intro pins s σ H Q I h;refine bK (ha pins s σ H _ I h) fun v s1 ⟨x,H1,I1,r1,q1⟩=>?_;exact Constant_none (is_none_gen ⟨.bl _,H1,I1,by rw[r1.none_iff];rfl,q1⟩)
inductive wL (Q:Bool->Hp->Prop) (x:V) (H:Hp):Prop
 | mk (c:Bool) (e:x=.bl c) (h:Q c H):wL Q x H
def tB (t:TE):TT:=fun σ H Q=>t σ H fun x H1=>wL Q x H1
theorem qU {op:CmpOp}{t:TE}(h:PC X op a b t)(h1:behindInMarks op b=false:=by first | exact qF _ (by decide) (by decide) | rfl):PT X (.Compare a [op] [b] pos) (tB t):=by
 intro pins s σ H Q I hw;refine wpAny_isTrue_Compare1 (bK (h pins s σ H _ I hw) fun v s1 h1=>bK h1 fun u s2 h2=>bK h2 fun c s3 ⟨x,H1,I1,r1,q1⟩=>?_) h1;obtain⟨d,rfl,q⟩:=q1;cases r1;exact yS ⟨H1,I1,q⟩
theorem eO {e:Expr}{t:TE}(h:PE X e t)(he:∀ whole,isTrue e X.env whole=(do let v <-whole;standAt e.pos;holding [v] (truthy v)):=by intro _;rfl):PT X e (tB t):=by
 intro pins s σ H Q I hw;refine isTrue_plain (bK (h pins s σ H _ I hw) fun v s1 ⟨x,H1,I1,r1,q1⟩=>?_) (he _);obtain⟨d,rfl,q⟩:=q1;cases r1;exact yS ⟨H1,I1,q⟩
variable {tA tB':TT}{rest:List Expr}
def xi (t u:TT):TT:=fun σ H Q=>t σ H fun c H1=>if c=true then u σ H1 Q else Q false H1
def xU (t u:TT):TT:=fun σ H Q=>t σ H fun c H1=>if c=true then Q true H1 else u σ H1 Q
def xr (t:TT):TT:=fun σ H Q=>t σ H fun c H1=>Q (!c) H1
theorem eP (ha:PT X a tA):PW X (.BoolOp .And [a] pos) tA:=by
 intro wh pins s σ H Q I h;refine isTrue_and (bK (ha pins s σ H Q I h) fun c s1 e=>?_)
 cases c with
 | true=>exact isTrue_and_nil e
 | false=>exact e
theorem gz (ha:PT X a tA):PW X (.BoolOp .Or [a] pos) tA:=by
 intro wh pins s σ H Q I h;refine isTrue_or (bK (ha pins s σ H Q I h) fun c s1 e=>?_)
 cases c with
 | false=>exact isTrue_or_nil e
 | true=>exact e
theorem fL (ha:PT X a tA)(hb:PW X (.BoolOp .And (b::rest) pos) tB'):PW X (.BoolOp .And (a::b::rest) pos) (xi tA tB'):=by
 intro wh pins s σ H Q I h;refine isTrue_and (bK (ha pins s σ H _ I h) fun c s1 ⟨H1,I1,q1⟩=>?_)
 cases c with
 | true=>exact hb wh pins s1 σ H1 Q I1 q1
 | false=>exact⟨H1,I1,q1⟩
theorem gX (ha:PT X a tA)(hb:PW X (.BoolOp .Or (b::rest) pos) tB'):PW X (.BoolOp .Or (a::b::rest) pos) (xU tA tB'):=by
 intro wh pins s σ H Q I h;refine isTrue_or (bK (ha pins s σ H _ I h) fun c s1 ⟨H1,I1,q1⟩=>?_)
 cases c with
 | true=>exact⟨H1,I1,q1⟩
 | false=>exact hb wh pins s1 σ H1 Q I1 q1
theorem cH (ha:PT X a tA):PT X (.UnaryOp .Not a pos) (xr tA):=by
 intro pins s σ H Q I h;exact isTrue_not (ha pins s σ H (fun c H1=>Q (!c) H1) I h)
def v3 (ta tb:TE):TE:=fun σ H Q=>ta σ H fun x H1=>∃ c,x=.bl c/\if c=true then tb σ H1 Q else Q (.bl false) H1
def xu (ta tb:TE):TE:=fun σ H Q=>ta σ H fun x H1=>∃ c,x=.bl c/\if c=true then Q (.bl true) H1 else tb σ H1 Q
def we (ta:TE):TE:=fun σ H Q=>ta σ H fun x H1=>∃ c,x=.bl c/\Q (.bl (!c)) H1
theorem lO {op}{t:TE}(h:PE X a t):PE X (.BoolOp op [a] pos) t:=fun pins s σ H Q I hw=>BoolOp_one (h pins s σ H Q I hw)
theorem og (ha:PE X a ta)(hb:PE X (.BoolOp .And (b::rest) pos) tb):PE X (.BoolOp .And (a::b::rest) pos) (v3 ta tb):=by
 intro pins s σ H Q I h;refine BoolOp_and (bK (ha pins s σ H _ I h) fun v s1 ⟨x,H1,I1,r1,q1⟩=>?_);obtain⟨c,rfl,q1⟩:=q1;cases r1;refine yS ?_
 cases c with
 | true=>exact hb pins s1 σ H1 Q I1 q1
 | false=>exact⟨.bl false,H1,I1,rfl,q1⟩
theorem vO (ha:PE X a ta)(hb:PE X (.BoolOp .Or (b::rest) pos) tb):PE X (.BoolOp .Or (a::b::rest) pos) (xu ta tb):=by
 intro pins s σ H Q I h;refine BoolOp_or (bK (ha pins s σ H _ I h) fun v s1 ⟨x,H1,I1,r1,q1⟩=>?_);obtain⟨c,rfl,q1⟩:=q1;cases r1;refine yS ?_
 cases c with
 | false=>exact hb pins s1 σ H1 Q I1 q1
 | true=>exact⟨.bl true,H1,I1,rfl,q1⟩
theorem uO (ha:PE X a ta):PE X (.UnaryOp .Not a pos) (we ta):=by
 intro pins s σ H Q I h;refine UnaryOp_ (bK (ha pins s σ H _ I h) fun v s1 ⟨x,H1,I1,r1,q1⟩=>?_);obtain⟨c,rfl,q1⟩:=q1;cases r1;exact not_of (yS ⟨.bl (!c),H1,I1,rfl,q1⟩)
end
def bC (K:PySem.W.Frag)(H:Hp)(a:Addr)(xs:List V):Prop :=
 Rd H a (.lst xs) \/
  ∃ (o:Obj)(its:Array Value)(n:Nat),K.lookup a=some o/\o.cls=.type "list"/\o.dict=none/\o.data=.seq its n/\its.size<=sizeLine/\aR xs its.toList
def bw (K:PySem.W.Frag)(H:Hp)(a:Addr)(xs:List V):Prop :=
 Rd H a (.tup xs) \/
  ∃ (o:Obj)(its:Array Value)(n:Nat),K.lookup a=some o/\o.cls=.type "tuple"/\o.data=.seq its n/\its.size<=sizeLine/\aR xs its.toList
def wO:Value->Option V
 | .none=>some .non
 | .bool b=>some (.bl b)
 | .int i _=>some (.int i)
 | .str x _=>some (.str x)
 | .bytes b _=>some (.byt b)
 | .float b _=>some (.flt b)
 | .ref a=>some (.ref a)
 | .type n=>some (.ty n)
 | _=>none
theorem be.abs {x:V}{u:Value}(r:be x u):wO u=some x:=by
 cases x with
 | non=>cases r;rfl
 | bl _=>cases r;rfl
 | int _=>obtain⟨t,rfl⟩:=r;rfl
 | str _=>obtain⟨t,rfl⟩:=r;rfl
 | byt _=>obtain⟨t,rfl⟩:=r;rfl
 | flt _=>obtain⟨t,rfl⟩:=r;rfl
 | ref _=>cases r;rfl
 | ty _=>cases r;rfl
theorem be.inj {x y:V}{u:Value}(r:be x u)(q:be y u):x=y:=yE (r.abs.symm.trans q.abs)
theorem aR.inj:∀ {xs ys:List V}{us:List Value},aR xs us->aR ys us->xs=ys
 | _,_,_,.nil,.nil=>rfl
 | _,_,_,.cons r t,.cons r' t'=>by rw[r.inj r',aR.inj t t']
section
variable {X:Cx}{pins:List (Addr×Obj)}{σ:St}{H:Hp}{s:Shared}{a:Addr}{xs ys:List V}
theorem bC.of {K:PySem.W.Frag}(h:H a=some (.lst xs)):bC K H a xs:=.inl (.inl h)
theorem bw.of {K:PySem.W.Frag}(h:H a=some (.tup xs)):bw K H a xs:=.inl (.inl h)
theorem aF.list (I:aF X pins σ H s)(h:bC X.K H a xs):∃ its:List Value,aR xs its/\PlainL s.heap a its.toArray/\xs.length<=sizeLine:=by
 rcases h with h | ⟨o,its,n,hk,hc,hd,hs,hz,r⟩
 ·obtain⟨z,its,n,r,e⟩:=h.ok I.hok
  exact⟨its,r,⟨_,n,e,rfl,rfl,rfl⟩,z⟩
 ·refine⟨its.toList,r,⟨o,n,I.kIn a o hk,hc,hd,by simpa using hs⟩,?_⟩
  have e:=r.length;simp only[yO]at e;omega
theorem aF.tuple (I:aF X pins σ H s)(h:bw X.K H a xs):∃ its:List Value,aR xs its/\IsTup s.heap a its.toArray/\xs.length<=sizeLine:=by
 rcases h with h | ⟨o,its,n,hk,hc,hs,hz,r⟩
 ·obtain⟨z,its,r,p⟩:=h.ok I.hok
  exact⟨its,r,p.old,z⟩
 ·refine⟨its.toList,r,⟨o,I.kIn a o hk,hc,n,by simpa using hs⟩,?_⟩
  have e:=r.length;simp only[yO]at e;omega
theorem aF.list_inj (I:aF X pins σ H s)(h:bC X.K H a xs)(h':bC X.K H a ys):xs=ys:=by
 obtain⟨its,r,⟨o,n,e,_,_,d⟩,_⟩:=I.list h;obtain⟨its',r',⟨o',n',e',_,_,d'⟩,_⟩:=I.list h';rw[e]at e';cases e';rw[d]at d';injection d' with d1 _
 have:its=its':=by simpa using zc Array.toList d1
 subst this;exact r.inj r'
theorem aF.tuple_inj (I:aF X pins σ H s)(h:bw X.K H a xs)(h':bw X.K H a ys):xs=ys:=by
 obtain⟨its,r,⟨o,e,_,n,d⟩,_⟩:=I.tuple h;obtain⟨its',r',⟨o',e',_,n',d'⟩,_⟩:=I.tuple h';rw[e]at e';cases e';rw[d]at d';injection d' with d1 _
 have:its=its':=by simpa using zc Array.toList d1
 subst this;exact r.inj r'
end
abbrev Cx.wish (X:Cx)(E:Value->Shared->Prop):Cx:={ X with xe:=E }
abbrev Cx.nox (X:Cx):Cx:=X.wish fun _ _=>False
theorem Cx.Ok.wish {X:Cx}(ok:X.Ok)(E:Value->Shared->Prop):(X.wish E).Ok :=
 ⟨ok.mod,ok.kind,ok.glob,ok.blt,ok.above,ok.inj,ok.has,ok.cab,ok.hd,ok.frames,ok.stk,ok.exf,ok.bs,ok.bsz,ok.noex,ok.exfs,ok.funs,ok.frf⟩
theorem Cx.Ok.unwish {X:Cx}{E:Value->Shared->Prop}(ok:(X.wish E).Ok):X.Ok :=
 ⟨ok.mod,ok.kind,ok.glob,ok.blt,ok.above,ok.inj,ok.has,ok.cab,ok.hd,ok.frames,ok.stk,ok.exf,ok.bs,ok.bsz,ok.noex,ok.exfs,ok.funs,ok.frf⟩
section
variable {X:Cx}{pins:List (Addr×Obj)}{σ:St}{H:Hp}{s:Shared}{E:Value->Shared->Prop}
theorem aF.wish (I:aF X pins σ H s)(E:Value->Shared->Prop):aF (X.wish E) pins σ H s:=⟨I.ok.wish E,I.os,I.bare,I.base,I.loc,I.cell,I.free,I.freeC,I.pin,I.hok,I.len⟩
theorem aF.unwish (I:aF (X.wish E) pins σ H s):aF X pins σ H s:=⟨I.ok.unwish,I.os,I.bare,I.base,I.loc,I.cell,I.free,I.freeC,I.pin,I.hok,I.len⟩
theorem SP.unwish {D:gH}{f:Flow}{s':Shared}(h:SP (X.wish E) pins D f s'):SP X pins D f s':=by
 cases f with
 | next=>obtain⟨σ',H',I,q⟩:=h;exact⟨σ',H',I.unwish,q⟩
 | brk=>obtain⟨σ',H',I,q⟩:=h;exact⟨σ',H',I.unwish,q⟩
 | cont=>obtain⟨σ',H',I,q⟩:=h;exact⟨σ',H',I.unwish,q⟩
 | ret u=>obtain⟨v,σ',H',I,r,q⟩:=h;exact⟨v,σ',H',I.unwish,r,q⟩
theorem mm.nox {st:List Stmt}{t:TS}(h:mm X.nox st t):mm X st t:=fun pins s σ H D I hw =>
 y4 (h pins s σ H D (I.wish _) hw) (fun _ _ q=>q.unwish) fun _ _ z=>False.elim z
end
section
variable {X:Cx}{st:Stmt}{rest:List Stmt}{t u:TS}{e:Expr}{te:TE}{pos:Pos}
def wd:TS:=fun D σ H=>D.nx σ H
def sM (t u:TS):TS:=fun D σ H=>t { D with nx:=u D } σ H
theorem aq:mm X [] wd:=fun _ _ σ H _ I h=>zB ⟨σ,H,I,h⟩
theorem ae (h1:PS X st t)(h2:mm X rest u):mm X (st::rest) (sM t u):=by
 intro pins s σ H D I h;refine wpAny_execs_cons (bK (h1 pins s σ H { D with nx:=u D } I h) fun f s1 q=>?_)
 cases f with
 | next =>
  obtain⟨σ',H',I',q⟩:=q;exact h2 pins s1 σ' H' D I' q
 | ret v=>exact q
 | brk=>exact q
 | cont=>exact q
theorem ah (h1:PS X st t):mm X [st] t:=by
 intro pins s σ H D I h;refine wpAny_execs_cons (bK (h1 pins s σ H D I h) fun f s1 q=>?_)
 cases f with
 | next=>exact zB q
 | ret v=>exact q
 | brk=>exact q
 | cont=>exact q
theorem aF.quiet {pins:List (Addr×Obj)}{σ:St}{H:Hp}{s:Shared}(I:aF X pins σ H s):interactive X.env=false:=by simp[interactive,I.ok.kind]
def wa (te:TE):TS:=fun D σ H=>te σ H fun _ H1=>D.nx σ H1
theorem cg (he:PE X e te)(hs:swapsWith e none pos.line X.env=pure false:=by rfl):PS X (.Expr e pos) (wa te):=by
 intro pins s σ H D I h;exact wpAny_Expr_any (bK (he pins s σ H _ I h) fun v s1 ⟨x,H1,I1,r1,q1⟩=>⟨σ,H1,I1,q1⟩) I.quiet hs
def wg (te:TE):TS:=fun D σ H=>te σ H D.rt
theorem ap (he:PE X e te):PS X (.Return (some e) pos) (wg te):=by
 intro pins s σ H D I h;exact wpAny_Return_some (bK (he pins s σ H _ I h) fun v s1 ⟨x,H1,I1,r1,q1⟩=>⟨x,σ,H1,I1,r1,q1⟩)
def wj:TS:=fun D _ H=>D.rt .non H
theorem oV:PS X (.Return none pos) wj:=fun _ _ σ H _ I h=>wpAny_Return_none ⟨.non,σ,H,I,rfl,h⟩
def xp (c:TT)(t u:TS):TS:=fun D σ H=>c σ H fun b H1=>if b=true then t D σ H1 else u D σ H1
theorem aJ {c:Expr}{a b:List Stmt}{tc:TT}(hc:PT X c tc)(ha:mm X a t)(hb:mm X b u):PS X (.If c a b pos) (xp tc t u):=by
 intro pins s σ H D I h;refine wpAny_If (bK (hc pins s σ H _ I h) fun d s1 ⟨H1,I1,q1⟩=>?_)
 cases d with
 | true=>exact ha pins s1 σ H1 D I1 q1
 | false=>exact hb pins s1 σ H1 D I1 q1
end
abbrev TG:=V->St->Hp->(St->Hp->Prop)->Prop
abbrev rM:=List V->St->Hp->(St->Hp->Prop)->Prop
def PG (X:Cx)(target:Expr)(t:TG):Prop :=
 ∀ (pins:List (Addr×Obj))(s:Shared)(σ:St)(H:Hp)(v:V)(u:Value)(Q:St->Hp->Prop),aF X pins σ H s->be v u->t v σ H Q ->
  wpAny (model X.prog X.w) X.A (assign target X.env u) (fun _ s'=>∃ σ' H',aF X pins σ' H' s'/\Q σ' H') X.xe s
def wv (X:Cx)(ts:List Expr)(t:rM):Prop :=
 ∀ (pins:List (Addr×Obj))(s:Shared)(σ:St)(H:Hp)(vs:List V)(us:List Value)(Q:St->Hp->Prop),aF X pins σ H s->aR vs us->t vs σ H Q ->
  wpAny (model X.prog X.w) X.A (assignInOrder ((assignEach ts X.env).map (·.2)) us) (fun _ s'=>∃ σ' H',aF X pins σ' H' s'/\Q σ' H') X.xe s
abbrev wz:=V->V->Hp->VK->Prop
def xz (X:Cx)(op:Operator)(t:wz):Prop :=
 ∀ (pins:List (Addr×Obj))(s:Shared)(σ:St)(H:Hp)(x y:V)(v u:Value)(Q:VK),aF X pins σ H s->be x v->be y u->t x y H Q ->
  wpAny (model X.prog X.w) X.A (inplaceOp op v u) (EP X pins σ Q) X.xe s
section
variable {X:Cx}{pos:Pos}
def gh (i:Nat):TG:=fun v σ H Q=>Q (σ.set i (some v)) H
theorem lP {i:Nat}{x:Str}(hN:X.N.Nodup)(hi:X.N[i]? = some x)(hx:qa X.env.scope x)(hf:X.fn x=true\/X.env.scope.names.lookup x=some .local:=by first | exact .inl rfl | exact .inr rfl | assumption):PG X (.Name x pos) (gh i):=by
 intro pins s σ H v u Q I r h;exact wpAny_assign_Name (hX I hN hi hx r (fun s' I'=>⟨_,H,I',h⟩) hf)
def wS:rM:=fun vs σ H Q=>vs=[]/\Q σ H
inductive GC (t:TG) (u:rM) (vs:List V) (σ:St) (H:Hp) (Q:St->Hp->Prop):Prop
 | mk (v:V) (r:List V) (e:vs=v::r) (h:t v σ H fun σ' H'=>u r σ' H' Q):GC t u vs σ H Q
def vx (t:TG)(u:rM):rM:=fun vs σ H Q=>GC t u vs σ H Q
theorem dU:wv X [] wS:=by
 intro pins s σ H vs us Q I r h;obtain⟨e,h⟩:=h;subst e;cases r;exact assignInOrder_nil ⟨σ,H,I,h⟩
theorem bh {e:Expr}{es:List Expr}{t:TG}{u:rM}(h1:PG X e t)(h2:wv X es u)
  (hs:(assignEach (e::es) X.env).map (·.2)=assign e X.env::(assignEach es X.env).map (·.2):=by rfl):wv X (e::es) (vx t u):=by
 intro pins s σ H vs us Q I r h;obtain⟨v,vr,e1,h⟩:=h;subst e1
 cases r with
 | cons r rr =>
  rw[hs];refine assignInOrder_cons (bK (h1 pins s σ H _ _ _ I r h) fun _ s1 ⟨σ1,H1,I1,q1⟩=>?_);exact h2 pins s1 σ1 H1 _ _ Q I1 rr q1
inductive GT (K:PySem.W.Frag) (n:Nat) (t:rM) (v:V) (σ:St) (H:Hp) (Q:St->Hp->Prop):Prop
 | mk (a:Addr) (xs:List V) (e:v=.ref a) (q:bw K H a xs) (l:xs.length=n) (h:t xs σ H Q):GT K n t v σ H Q
def wT (K:PySem.W.Frag)(n:Nat)(t:rM):TG:=fun v σ H Q=>GT K n t v σ H Q
theorem fI {es:List Expr}{k:Nat}{t:rM}{n:Nat}(hc:X.calm=true)(h:wv X es t)
  (hn:(assignEach es X.env).length=n:=by rfl) (hst:(assignEach es X.env).findIdx? (·.1)=none:=by rfl):PG X (.Tuple es k pos) (wT X.K n t):=by
 intro pins s σ H v u Q I r hw;obtain⟨a,xs,e1,hq,hl,hw⟩:=hw;subst e1;cases r;obtain⟨its,rv,ht,hz⟩:=I.tuple hq;refine assign_Tuple_tuple (I.ok.hd hc) ht (by simp[hn,<-hl,rv.length]) hst fun h' hx=>?_;have I1:aF X pins σ H { s with heap:=h' }:=I.kept (t':=s.toks) fun b o e=>hx b o (yp (yd e)) e;exact h pins _ σ H xs _ Q I1 (by simpa using rv) hw
def rm (te:TE)(g:TG):TS:=fun D σ H=>te σ H fun x H1=>g x σ H1 D.nx
theorem fK {tg e:Expr}{te:TE}{g:TG}(he:PE X e te)(hg:PG X tg g)(hs:swapsWithSole [tg] e pos.line X.env=pure false:=by rfl)(hw:swappedStores [tg] e X.env=pure none:=by rfl)
  (h1:(assignEach [tg] X.env).map (·.2)=[assign tg X.env]:=by rfl):PS X (.Assign [tg] e pos) (rm te g):=by
 intro pins s σ H D I h;refine wpAny_Assign_stores (bK (he pins s σ H _ I h) fun v s1 ⟨x,H1,I1,r1,q1⟩=>?_) hs hw;rw[h1];exact bK (hg pins s1 σ H1 x v _ I1 r1 q1) fun _ s2 q=>q
theorem di {i:Nat}{x:Str}{e:Expr}{te:TE}{pos':Pos}(hN:X.N.Nodup)(hi:X.N[i]? = some x)(hx:qa X.env.scope x)(he:PE X e te)(hs:swapsWith e (some (.Name x pos')) pos.line X.env=pure false:=by rfl)(hf:X.fn x=true\/X.env.scope.names.lookup x=some .local:=by first | exact .inl rfl | exact .inr rfl | assumption) :
  PS X (.Assign [.Name x pos'] e pos) (rm te (gh i)):=by
 intro pins s σ H D I h;refine wpAny_Assign_Name (bK (he pins s σ H _ I h) fun v s1 ⟨y,H1,I1,r1,q1⟩=>?_) hs;exact hX I1 hN hi hx r1 (fun s2 I2=>⟨_,H1,I2,q1⟩) hf
def xj (i:Nat)(te:TE)(ti:wz):TS:=fun D σ H=>∃ x,σ[i]? = some (some x)/\te σ H fun y H1=>ti x y H1 fun z H2=>D.nx (σ.set i (some z)) H2
theorem uQ {i:Nat}{x:Str}{e:Expr}{te:TE}{op:Operator}{ti:wz}{pos':Pos}(hN:X.N.Nodup)(hi:X.N[i]? = some x)(hx:qa X.env.scope x)(he:PE X e te)(ho:xz X op ti)(hf:X.fn x=true\/X.env.scope.names.lookup x=some .local:=by first | exact .inl rfl | exact .inr rfl | assumption) :
  PS X (.AugAssign (.Name x pos') op e pos) (xj i te ti):=by
 intro pins s σ H D I h;obtain⟨v,e1,h⟩:=h;obtain⟨m,hn,hl⟩:=I.loc
 have vis:vt X.env.scope x:=by rcases hx with k | k;exact .inl k;exact .inr (.inl k)
 obtain⟨u,r,l⟩:=hl i x v hi e1 vis;refine wpAny_AugAssign_Name ?_
 have go:wpAny (model X.prog X.w) X.A (eval e X.env) (fun w s₂=>wpAny (model X.prog X.w) X.A (inplaceOp op u w) (fun r s₃=>wpAny (model X.prog X.w) X.A (storeName X.env x r) (fun _=>SP X pins D .next) X.xe s₃) X.xe s₂) X.xe s:=by
  refine bK (he pins s σ H _ I h) fun w s1 ⟨y,H1,I1,r1,q1⟩=>?_;refine bK (ho pins s1 σ H1 v y u w _ I1 r r1 q1) fun z s2 ⟨zv,H2,I2,r2,q2⟩=>?_;exact hX I2 hN hi hx r2 (fun s3 I3=>⟨_,H2,I3,q2⟩) hf
 rcases l with ⟨hk,hm⟩ | ⟨hk,c,hc,hcell⟩
 ·exact wpAny_loadName_local I.ok.kind hk hn hm go
 ·rcases hk with hk | hk
  ·exact wpAny_loadName_cell I.ok.kind hk hc hcell go
  ·rcases hx with k | k
   ·have:X.env.scope.names.lookup x=some .free:=hk
    rw[k]at this;cases this
   ·have:X.env.scope.names.lookup x=some .free:=hk
    rw[k]at this;cases this
def xN (f:Int->Int->Int):wz:=fun x y H Q=>∃ i j,x=.int i/\y=.int j/\Q (.int (f i j)) H
theorem uu:xz X .Add (xN fun i j=>i+j):=by
 intro pins s σ H x y v u Q I r1 r2 h;obtain⟨i,j,e1,e2,q⟩:=h;subst e1;subst e2;obtain⟨t,rfl⟩:=r1;obtain⟨t',rfl⟩:=r2;exact iadd_int ⟨.int _,H,I.tok _,⟨_,rfl⟩,q⟩
end
section
variable {X:Cx}{pos:Pos}
def uW (c:TT)(tb:TS):TS:=fun D σ H=>∃ W:Nat->St->Hp->Prop,(∃ m,W m σ H)/\∀ m σ H,W m σ H ->
 c σ H fun b H1=>if b=true then ∃ N:St->Hp->Prop,(∀ σ' H',N σ' H'->∃ m',m'<m/\W m' σ' H')/\tb { D with nx:=N,ct:=N,bk:=D.nx } σ H1 else D.nx σ H1
theorem mY {c:Expr}{body:List Stmt}{tc:TT}{tb:TS}(hp:PassesOwn (model X.prog X.w) X.A X.env X.xe)(hc:PT X c tc)(hb:mm X body tb):PS X (.While c body [] pos) (uW tc tb):=by
 intro pins s σ H D I h;obtain⟨W,⟨m0,w0⟩,turn⟩:=h;refine wpAny_While (codeAny_whileLoop (fun n s'=>∃ σ' H',aF X pins σ' H' s'/\W n σ' H') ?_ m0 ⟨σ,H,I,w0⟩);rintro n s1 ⟨σ1,H1,I1,w1⟩;refine zo hp (bK (hc pins s1 σ1 H1 _ I1 (turn n σ1 H1 w1)) fun b s2 ⟨H2,I2,q2⟩=>?_)
 cases b with
 | true =>
  obtain⟨N,hN,q2⟩:=q2;rw[ym rfl];refine zo hp (bK (hb pins s2 σ1 H2 _ I2 q2) fun f s3 q3=>?_)
  cases f with
  | next =>
   obtain⟨σ3,H3,I3,n3⟩:=q3;obtain⟨m',hm,w3⟩:=hN σ3 H3 n3;exact⟨m',hm,σ3,H3,I3,w3⟩
  | cont =>
   obtain⟨σ3,H3,I3,n3⟩:=q3;obtain⟨m',hm,w3⟩:=hN σ3 H3 n3;exact⟨m',hm,σ3,H3,I3,w3⟩
  | brk=>exact q3
  | ret v=>exact q3
 | false =>
  rw[yf ye];exact zB ⟨σ1,H2,I2,q2⟩
end
structure It where
 go:Nat->Hp->Prop
 yld:Nat->Hp->V->Hp->Prop
 stop:Nat->Hp->Prop
def kQ (X:Cx)(pins:List (Addr×Obj))(H:Hp)(b:Addr):Prop :=
 H b=none/\b≠X.env.locals/\b∉X.fs/\(b∈X.ex\/X.s₀.heap.objs.size<=b)/\(∀ x c,X.env.cells.lookup x=some c->c≠b)/\∀ p∈X.pn++pins,p.1≠b
theorem aF.fpOk {X:Cx}{pins:List (Addr×Obj)}{σ:St}{H H':Hp}{s:Shared}{b:Addr}(I:aF X pins σ H s)(hb:s.heap.objs.size<=b)(hn:H' b=none):kQ X pins H' b:=by
 refine⟨hn,Nat.ne_of_gt (yi I.lt hb),I.nofs hb,.inr (yR I.sz hb),fun x c e z=>?_,fun p hp z=>?_⟩
 ·obtain⟨v,q⟩:=I.cell x c e
  exact absurd (yi q.lt (by rw[z];exact hb)) (zq _)
 ·exact absurd (yi (yd (I.pin p hp).1) (by rw[z];exact hb)) (zq _)
structure pc (P:Program)(w:World)(K:PySem.W.Frag)(tg:Expr)(J:It)(fp:List Addr)(it:Addr)(tn:Nat->Heap->Prop):Prop where
 mem:it∈fp
 obj:∀ i h,tn i h->∀ b∈fp,∃ o,h.get? b=some o/\∀ v,o.data≠.cell v
 keep:∀ i h h',tn i h->(∀ b∈fp,∀ o,h.get? b=some o->h'.get? b=some o)->tn i h'
 item:∀ (X:Cx),X.prog=P->X.w=w->X.K=K->X.calm=true->∀ (i:Nat)(pins:List (Addr×Obj))(s:Shared)(σ:St)(H:Hp)(E:Value->Shared->Prop),aF X pins σ H s->(∀ b∈fp,kQ X pins H b)->tn i s.heap->J.go i H ->
  wpAny (model P w) X.A (pyNext (.ref it)) (fun r s1=>∃ u,r=some u /\
   wpAny (model P w) X.A (letOwnedTupleGo tg (.ref it) u) (fun _ s2=>∃ x H',aF X pins σ H' s2/\be x u/\J.yld i H x H'/\tn (i+1) s2.heap/\∀ b∈fp,H' b=none) E s1) E s
 done:∀ (X:Cx),X.prog=P->X.w=w->X.K=K->X.calm=true->∀ (i:Nat)(pins:List (Addr×Obj))(s:Shared)(σ:St)(H:Hp)(E:Value->Shared->Prop),aF X pins σ H s->(∀ b∈fp,kQ X pins H b)->tn i s.heap->J.stop i H ->
  wpAny (model P w) X.A (pyNext (.ref it)) (fun r s1=>r=none/\aF X pins σ H s1) E s
 self:∀ (A:Around)(i:Nat)(s:Shared)(Q:Value->Shared->Prop)(E:Value->Shared->Prop),tn i s.heap->Q (.ref it) s->wpAny (model P w) A (pyIter (.ref it)) Q E s
abbrev TI:=St->Hp->(It->Hp->Prop)->Prop
def wJ (X:Cx)(pins:List (Addr×Obj))(σ:St)(tg:Expr)(R:It->Hp->Prop)(itv:Value)(s2:Shared):Prop :=
 ∃ (it:Addr)(fp:List Addr)(tn:Nat->Heap->Prop)(J:It)(H':Hp),itv=.ref it/\aF X pins σ H' s2/\pc X.prog X.w X.K tg J fp it tn/\tn 0 s2.heap/\(∀ b∈fp,kQ X pins H' b)/\R J H'
def PI (X:Cx)(tg iter:Expr)(wi:TI):Prop :=
 ∀ (pins:List (Addr×Obj))(s:Shared)(σ:St)(H:Hp)(R:It->Hp->Prop),aF X pins σ H s->wi σ H R ->
  wpAny (model X.prog X.w) X.A (eval iter X.env) (fun v s1=>wpAny (model X.prog X.w) X.A (pyIter v) (wJ X pins σ tg R) X.xe s1) X.xe s
theorem mz {M:Model}{A:Around}{E:Value->Shared->Prop}{s:Shared}{tg:Expr}{it:Addr}{u:Value}{o:Obj}{n:String}{vs:Array Value}{Q:Unit->Shared->Prop}(ho:s.heap.get? it=some o)(hc:o.cls=.type n)(hd:o.data=.fields vs)
  (hn:["enumerate","zip","dict_itemiterator","dict_reverseitemiterator","odict_iterator","itertools.zip_longest","itertools.pairwise"].contains n=false) (hQ:Q () s):wpAny M A (letOwnedTupleGo tg (.ref it) u) Q E s:=by
 unfold letOwnedTupleGo
 cases tg<;>first
  | exact yj hQ
  | (cases u<;>first
    | exact yj hQ
    | (refine x9 (wpAny_load ho ?_)
       rw[hc,hd]
       show wpAny M A (if (["enumerate","zip","dict_itemiterator","dict_reverseitemiterator","odict_iterator","itertools.zip_longest","itertools.pairwise"].contains n&&vs[0]? == some (rawInt _))=true then _ else _) Q E s
       rw[yf (by intro h;rw[hn,Bool.false_and]at h;cases h)]
       exact yj hQ))
def tZ (K:PySem.W.Frag)(a:Addr):It :=
 ⟨fun i H=>∃ xs x,bC K H a xs/\xs[i]? = some x,fun i H x H'=>H'=H/\∀ xs,bC K H a xs->xs[i]? = some x,fun i H=>∃ xs,bC K H a xs/\xs.length<=i⟩
def vk (K:PySem.W.Frag)(a:Addr):It :=
 ⟨fun i H=>∃ xs x,bw K H a xs/\xs[i]? = some x,fun i H x H'=>H'=H/\∀ xs,bw K H a xs->xs[i]? = some x,fun i H=>∃ xs,bw K H a xs/\xs.length<=i⟩
def vb (lo:Int)(n:Nat):It:=⟨fun i _=>i<n,fun i H x H'=>H'=H/\x=.int (lo+i),fun i _=>n<=i⟩
theorem pY {P:Program}{w:World}{K:PySem.W.Frag}{tg:Expr}(a it:Addr):pc P w K tg (tZ K a) [it] it (fun i h=>h.IsListIter it a i) where
 mem:=by simp
 obj:=fun i h st b hb=>by
  have e:b=it:=by simpa using hb
  subst e;obtain⟨o,e,c,d⟩:=st;exact⟨o,e,fun v z=>by rw[d]at z;cases z⟩
 keep:=fun i h h' st k=>st.at fun o e=>k it (by simp) o e
 item:=by
  intro X hP hw hK hc i pins s σ H E I hf st hg;subst hP hw hK;obtain⟨xs,x,hq,hx⟩:=hg;obtain⟨its,rv,p,hz⟩:=I.list hq;obtain⟨u,hu,ru⟩:=rv.get hx;obtain⟨f0,f1,f2,f3,f4,f5⟩:=hf it (by simp);refine wpAny_pyNext_list_item st p.isList (x:=u) (by simpa using hu) fun h' st' sb=>?_;have I1:aF X pins σ H { s with heap:=h' }:=I.turned (t':=s.toks) (fun b o hb e=>(sb.2 b hb).trans e) f0 f1 f3 f4 f5;obtain⟨o,e,c,d⟩:=id st';exact⟨u,rfl,mz (s:={ s with heap:=h' }) e c d (by decide) ⟨x,H,I1,ru,⟨rfl,fun ys hy=>by rw[I.list_inj hy hq];exact hx⟩,st',fun b hb=>(hf b hb).1⟩⟩
 done:=by
  intro X hP hw hK hc i pins s σ H E I hf st hg;subst hP hw hK;obtain⟨xs,hq,hx⟩:=hg;obtain⟨its,rv,p,hz⟩:=I.list hq;obtain⟨f0,f1,f2,f3,f4,f5⟩:=hf it (by simp);have hl:=rv.length;exact wpAny_pyNext_list_end (I.ok.hd hc) st p.isList (by simp;omega) fun h' eb=>⟨rfl,I.turned (t':=s.toks) (fun b o hb e=>eb b o hb e) f0 f1 f3 f4 f5⟩
 self:=fun _ _ _ _ _ st h=>wpAny_pyIter_listiter st h
theorem oA {P:Program}{w:World}{K:PySem.W.Frag}{tg:Expr}(a it:Addr):pc P w K tg (vk K a) [it] it (fun i h=>h.IsTupleIter it a i) where
 mem:=by simp
 obj:=fun i h st b hb=>by
  have e:b=it:=by simpa using hb
  subst e;obtain⟨o,e,c,d⟩:=st;exact⟨o,e,fun v z=>by rw[d]at z;cases z⟩
 keep:=fun i h h' st k=>st.at fun o e=>k it (by simp) o e
 item:=by
  intro X hP hw hK hc i pins s σ H E I hf st hg;subst hP hw hK;obtain⟨xs,x,hq,hx⟩:=hg;obtain⟨its,rv,p,hz⟩:=I.tuple hq;obtain⟨u,hu,ru⟩:=rv.get hx;obtain⟨f0,f1,f2,f3,f4,f5⟩:=hf it (by simp);refine wpAny_pyNext_tuple_item st (show s.heap.IsTuple a its.toArray from p) (x:=u) (by simpa using hu) fun h' st' sb=>?_;have I1:aF X pins σ H { s with heap:=h' }:=I.turned (t':=s.toks) (fun b o hb e=>(sb.2 b hb).trans e) f0 f1 f3 f4 f5;obtain⟨o,e,c,d⟩:=id st';exact⟨u,rfl,mz (s:={ s with heap:=h' }) e c d (by decide) ⟨x,H,I1,ru,⟨rfl,fun ys hy=>by rw[I.tuple_inj hy hq];exact hx⟩,st',fun b hb=>(hf b hb).1⟩⟩
 done:=by
  intro X hP hw hK hc i pins s σ H E I hf st hg;subst hP hw hK;obtain⟨xs,hq,hx⟩:=hg;obtain⟨its,rv,p,hz⟩:=I.tuple hq;obtain⟨f0,f1,f2,f3,f4,f5⟩:=hf it (by simp);have hl:=rv.length;exact wpAny_pyNext_tuple_end (I.ok.hd hc) st (show s.heap.IsTuple a its.toArray from p) (by simp;omega) fun h' eb=>⟨rfl,I.turned (t':=s.toks) (fun b o hb e=>eb b o hb e) f0 f1 f3 f4 f5⟩
 self:=fun _ _ _ _ _ st h=>wpAny_pyIter_tupleiter st h
theorem oz {P:Program}{w:World}{K:PySem.W.Frag}{tg:Expr}(it:Addr)(lo:Int)(n:Nat):pc P w K tg (vb lo n) [it] it (fun i h=>IsRangeIter h it (lo+(i:Nat)*1) ((n:Int)-(i:Nat)) 1) where
 mem:=by simp
 obj:=fun i h st b hb=>by
  have e:b=it:=by simpa using hb
  subst e
  exact⟨_,st,fun v z=>by
   have z':Data.fields _=Data.cell v:=z
   cases z'⟩
 keep:=fun i h h' st k=>k it (by simp) _ st
 item:=by
  intro X hP hw hK hc i pins s σ H E I hf st hg;subst hP hw hK;obtain⟨f0,f1,f2,f3,f4,f5⟩:=hf it (by simp);have W:=Walks.range (prog:=X.prog) (w:=X.w) (I.ok.hd hc) it lo 1 n;refine W.item i s _ _ hg st fun v h' tk hv st' kk=>?_;obtain⟨t,rfl⟩:=hv;have I1:aF X pins σ H { s with heap:=h',toks:=tk }:=I.turned (fun b o hb e=>kk b o (by simpa using hb) e) f0 f1 f3 f4 f5;refine⟨_,rfl,mz (s:={ s with heap:=h',toks:=tk }) (n:="range_iterator") st' rfl rfl (by decide) ⟨.int (lo+i),H,I1,⟨t,?_⟩,⟨rfl,rfl⟩,st',fun b hb=>(hf b hb).1⟩⟩;rw[Int.mul_one]
 done:=by
  intro X hP hw hK hc i pins s σ H E I hf st hg;subst hP hw hK;obtain⟨f0,f1,f2,f3,f4,f5⟩:=hf it (by simp);exact wpAny_pyNext_range_end (I.ok.hd hc) st (by have:n<=i:=hg;omega) fun h' eb=>⟨rfl,I.turned (t':=s.toks) (fun b o hb e=>eb b o hb e) f0 f1 f3 f4 f5⟩
 self:=fun _ _ _ _ _ st h=>wpAny_pyIter_rangeiter st h
section
variable {X:Cx}{tg:Expr}
inductive xv (K:PySem.W.Frag) (R:It->Hp->Prop) (x:V) (H:Hp):Prop
 | mk (a:Addr) (e:x=.ref a) (q:∃ xs,bC K H a xs) (h:R (tZ K a) H):xv K R x H
def vA (K:PySem.W.Frag)(tl:TE):TI:=fun σ H R=>tl σ H fun x H1=>xv K R x H1
def wW (K:PySem.W.Frag)(tl:TE):TI:=fun σ H R=>tl σ H fun x H1=>∃ a,x=.ref a/\(∃ xs,bw K H1 a xs)/\R (vk K a) H1
theorem dm {l:Expr}{tl:TE}(hl:PE X l tl):PI X tg l (vA X.K tl):=by
 intro pins s σ H R I h;refine bK (hl pins s σ H _ I h) fun v s1 ⟨x,H1,I1,r1,q1⟩=>?_;obtain⟨a,e,⟨xs,hq⟩,q⟩:=q1;subst e;cases r1;obtain⟨its,rv,p,hz⟩:=I1.list hq;refine wpAny_pyIter_list p.isList ?_;refine⟨s1.heap.objs.size,[s1.heap.objs.size],_,_,H1,rfl,I1.kept (t':=s1.toks) fun b o e=>Heap.get?_push_of_some _ e,pY a _,⟨_,Heap.get?_push_size _ rfl,rfl,rfl⟩,fun b hb=>?_,q⟩
 have e:b=s1.heap.objs.size:=by simpa using hb
 subst e;exact I1.fpOk (x8 _) (I1.hok.fresh (x8 _))
theorem oj {l:Expr}{tl:TE}(hl:PE X l tl):PI X tg l (wW X.K tl):=by
 intro pins s σ H R I h;refine bK (hl pins s σ H _ I h) fun v s1 ⟨x,H1,I1,r1,q1⟩=>?_;obtain⟨a,e,⟨xs,hq⟩,q⟩:=q1;subst e;cases r1;obtain⟨its,rv,p,hz⟩:=I1.tuple hq;refine wpAny_pyIter_tuple (show s1.heap.IsTuple a its.toArray from p) ?_;refine⟨s1.heap.objs.size,[s1.heap.objs.size],_,_,H1,rfl,I1.kept (t':=s1.toks) fun b o e=>Heap.get?_push_of_some _ e,oA a _,⟨_,Heap.get?_push_size _ rfl,rfl,rfl⟩,fun b hb=>?_,q⟩
 have e:b=s1.heap.objs.size:=by simpa using hb
 subst e;exact I1.fpOk (x8 _) (I1.hok.fresh (x8 _))
theorem qX {pins:List (Addr×Obj)}{σ:St}{H:Hp}{s:Shared}{R:It->Hp->Prop}{E:Value->Shared->Prop}{lo hi:Int}{t u v:Tok}{tk:Nat}(I:aF X pins σ H s)(h1 : -(2 ^ 62)<=lo)(h2:lo<2 ^ 62)(h3 : -(2 ^ 62)<=hi)(h4:hi<2 ^ 62)
  (q:R (vb lo (hi-lo).toNat) H):wpAny (model X.prog X.w) X.A (pyIter (.ref s.heap.objs.size)) (wJ X pins σ tg R) E { s with heap:=s.heap.push { cls:=.type "range",data:=.fields #[.int lo t,.int hi u,.int 1 v] },toks:=tk }:=by
 refine wpAny_pyIter_range (IsRange.new ..) (small_one h1 h2 h3 h4) ?_;have I1:aF X pins σ H { s with heap:=s.heap.push { cls:=.type "range",data:=.fields #[.int lo t,.int hi u,.int 1 v] },toks:=tk }:=I.kept fun b o e=>Heap.get?_push_of_some _ e
 refine⟨(s.heap.push { cls:=.type "range",data:=.fields #[.int lo t,.int hi u,.int 1 v] }).objs.size,[(s.heap.push { cls:=.type "range",data:=.fields #[.int lo t,.int hi u,.int 1 v] }).objs.size],_,_,H,rfl,
  I1.kept (t':=tk) fun b o e=>Heap.get?_push_of_some _ e,oz _ lo (hi-lo).toNat,?_,fun b hb=>?_,q⟩
 ·have e1:lo+((0:Nat):Int)*1=lo:=by simp
  have e2:(((hi-lo).toNat:Nat):Int)-((0:Nat):Int)=Builtin.Range.rangeSize lo hi 1:=by rw[rangeSize_one];split<;>omega
  show IsRangeIter _ _ (lo+((0:Nat):Int)*1) ((((hi-lo).toNat:Nat):Int)-((0:Nat):Int)) 1
  rw[e1,e2];exact Heap.get?_push_size _ rfl
 ·have e:b=(s.heap.push { cls:=.type "range",data:=.fields #[.int lo t,.int hi u,.int 1 v] }).objs.size:=by simpa using hb
  subst e;exact I1.fpOk (x8 _) (I1.hok.fresh (x8 _))
def vB (ta:TA):TI:=fun σ H R=>ta σ H fun vs H1=>∃ j:Int,vs=[.int j]/\-(2 ^ 62)<=j/\j<2 ^ 62/\R (vb 0 j.toNat) H1
theorem f7 {a:Expr}{ta:TA}{p pos:Pos}(hg:Gl X "range")(hm:X.mg "range" = none)(ha:PA X [a] ta)(hs:starEach [a] X.env=[(false,eval a X.env)]:=by rfl):PI X tg (.Call (.Name "range" p) [a] [] pos) (vB ta):=by
 intro pins s σ H R I h;refine Call_ (iz I hg hm boot_range (PyProof.Rows.callWith_type1 (bK (ha pos pins s σ H _ I h) fun us s1 ⟨vs,H1,I1,r1,q1⟩=>?_) hs rfl));obtain⟨j,e,q1,q2,q⟩:=q1;subst e
 cases r1 with
 | cons r rr =>
  cases rr;obtain⟨t,rfl⟩:=r;exact call_range_1 (qX I1 (by omega) (by omega) q1 q2 (by simpa using q))
def xn (wi:TI)(g:TG)(tb:TS):TS:=fun D σ H=>wi σ H fun J H1=>∃ W:Nat->Nat->St->Hp->Prop,(∃ m,W 0 m σ H1)/\∀ i m σ H,W i m σ H ->
 (J.stop i H/\D.nx σ H)\/(J.go i H/\∃ N:St->Hp->Prop,(∀ σ' H',N σ' H'->∃ m',m'<m/\W (i+1) m' σ' H')/\∀ x H',J.yld i H x H'->g x σ H' fun σ2 H2=>tb { D with nx:=N,ct:=N,bk:=D.nx } σ2 H2)
def j3 (fp:List Addr)(h:Heap):List (Addr×Obj):=fp.filterMap fun b=>(h.get? b).map fun o=>(b,o)
theorem eJ {fp:List Addr}{h:Heap}{b:Addr}{o:Obj}(hb:b∈fp)(e:h.get? b=some o):(b,o)∈j3 fp h:=List.mem_filterMap.mpr ⟨b,hb,by rw[e];rfl⟩
theorem pL {fp:List Addr}{h:Heap}{p:Addr×Obj}(hp:p∈j3 fp h):p.1∈fp/\h.get? p.1=some p.2:=by
 obtain⟨b,hb,e⟩:=List.mem_filterMap.mp hp
 cases q:h.get? b with
 | none=>rw[q]at e;cases e
 | some o =>
  rw[q]at e;have e':(b,o)=p:=yE e;subst e';exact⟨hb,q⟩
theorem aF.pinned {pins:List (Addr×Obj)}{σ:St}{H:Hp}{s:Shared}{fp:List Addr}(I:aF X pins σ H s)(hf:∀ b∈fp,kQ X pins H b)(ho:∀ b∈fp,∃ o,s.heap.get? b=some o/\∀ v,o.data≠.cell v):aF X (pins++j3 fp s.heap) σ H s :=
 I.pins_of fun p hp=>(yL.mp hp).elim (fun z=>I.pin p (yN _ z)) fun z=>by
  obtain⟨hb,e⟩:=pL z;obtain⟨f0,f1,f2,_⟩:=hf p.1 hb;obtain⟨o,e',d⟩:=ho p.1 hb;rw[e]at e';cases e';exact⟨e,f0,f1,f2,d⟩
theorem aF.unpinned {pins pl:List (Addr×Obj)}{σ:St}{H:Hp}{s:Shared}(I:aF X (pins++pl) σ H s):aF X pins σ H s:=I.pins_of fun p hp=>I.pin p (yN _ (List.mem_append_left _ hp))
theorem gy {iter:Expr}{body:List Stmt}{wi:TI}{g:TG}{tb:TS}{pos:Pos}(hp:PassesOwn (model X.prog X.w) X.A X.env X.xe)(hc:X.calm=true)(hi:PI X tg iter wi)(hg:PG X tg g)(hb:mm X body tb)
  (hs:∀ x,foldedSetIterable iter X.env x=pure x:=by intro _;rfl):PS X (.For tg iter body [] pos) (xn wi g tb):=by
 intro pins s σ H D I h;refine wpAny_For (bK (hi pins s σ H _ I h) fun v s1 h1=>bK h1 fun itv s2 h2=>?_) hs;obtain⟨it,fp,tn,J,H2,e,I2,T,st2,f2,W,⟨m0,w0⟩,turn⟩:=h2;subst e;have stat:∀ {H':Hp},(∀ b∈fp,H' b=none)->∀ b∈fp,kQ X pins H' b:=fun hn b hb=>⟨hn b hb,(f2 b hb).2⟩;refine codeAny_forLoop_any (fun n s'=>∃ i σ' H',aF X pins σ' H' s'/\tn i s'.heap/\(∀ b∈fp,H' b=none)/\W i n σ' H') ?_ m0 ⟨0,σ,H2,I2,st2,fun b hb=>(f2 b hb).1,w0⟩;rintro n s3 ⟨i,σ3,H3,I3,st3,fr3,w3⟩;rcases turn i n σ3 H3 w3 with ⟨stop,qn⟩ | ⟨go,N,hN,step⟩
 ·refine zo hp (bK (T.done X rfl rfl rfl hc i pins s3 σ3 H3 X.xe I3 (stat fr3) st3 stop) fun r s4 ⟨hr,I4⟩=>?_)
  subst hr;exact zB ⟨σ3,H3,I4,qn⟩
 ·refine zo hp (bK (T.item X rfl rfl rfl hc i pins s3 σ3 H3 X.xe I3 (stat fr3) st3 go) fun r s4 ⟨u,hr,h4⟩=>?_)
  subst hr;refine zo hp (bK h4 fun _ s5 ⟨x,H5,I5,r5,y5,st5,fr5⟩=>?_);have I5':=I5.pinned (stat fr5) (T.obj _ _ st5);refine zo hp (bK (hg _ s5 σ3 H5 x u _ I5' r5 (step x H5 y5)) fun _ s6 ⟨σ6,H6,I6,q6⟩=>?_);refine zo hp (bK (hb _ s6 σ6 H6 _ I6 q6) fun f s7 q7=>?_)
  have again:∀ {σ7:St}{H7:Hp},aF X (pins++j3 fp s5.heap) σ7 H7 s7->N σ7 H7->∃ m,m<n/\∃ i σ' H',aF X pins σ' H' s7/\tn i s7.heap/\(∀ b∈fp,H' b=none)/\W i m σ' H':=fun {σ7 H7} I7 n7=>by
   obtain⟨m',hm,w7⟩:=hN σ7 H7 n7;refine⟨m',hm,i+1,σ7,H7,I7.unpinned,T.keep _ _ _ st5 fun b hb o e=>(I7.pin (b,o) (yN _ (yN _ (eJ hb e)))).1,fun b hb=>?_,w7⟩;obtain⟨o,e,d⟩:=T.obj _ _ st5 b hb;exact (I7.pin (b,o) (yN _ (yN _ (eJ hb e)))).2.1
  cases f with
  | next=>obtain⟨σ7,H7,I7,n7⟩:=q7;exact again I7 n7
  | cont=>obtain⟨σ7,H7,I7,n7⟩:=q7;exact again I7 n7
  | brk=>obtain⟨σ7,H7,I7,q7⟩:=q7;exact⟨σ7,H7,I7.unpinned,q7⟩
  | ret v=>obtain⟨x7,σ7,H7,I7,r7,q7⟩:=q7;exact⟨x7,σ7,H7,I7.unpinned,r7,q7⟩
end
theorem dC {K:PySem.W.Frag}{a:Addr}{xs:List V}{g:TG}{tb:TS}{D:gH}{σ:St}{H:Hp}(Pv:Nat->St->Hp->Prop)(h0:Pv 0 σ H)(hl:∀ i σ H,i<=xs.length->Pv i σ H->bC K H a xs)
  (hs:∀ i x σ H,xs[i]? = some x->Pv i σ H->g x σ H fun σ2 H2=>tb { D with nx:=Pv (i+1),ct:=Pv (i+1),bk:=D.nx } σ2 H2) (hd:∀ σ H,Pv xs.length σ H->D.nx σ H) :
  ∃ W:Nat->Nat->St->Hp->Prop,(∃ m,W 0 m σ H)/\∀ i m σ H,W i m σ H ->
   ((tZ K a).stop i H/\D.nx σ H)\/((tZ K a).go i H/\∃ N:St->Hp->Prop,(∀ σ' H',N σ' H'->∃ m',m'<m/\W (i+1) m' σ' H')/\∀ x H',(tZ K a).yld i H x H'->g x σ H' fun σ2 H2=>tb { D with nx:=N,ct:=N,bk:=D.nx } σ2 H2):=by
 refine⟨fun i m σ H=>m=xs.length-i/\i<=xs.length/\Pv i σ H,⟨xs.length,by simp,yT _,h0⟩,?_⟩;rintro i m σ H ⟨rfl,hi,p⟩;have q:=hl i σ H hi p
 by_cases hlt:i<xs.length
 ·refine .inr ⟨⟨xs,xs[i],q,by simp[hlt]⟩,Pv (i+1),fun σ' H' p'=>⟨xs.length-(i+1),by omega,rfl,hlt,p'⟩,fun x H' y=>?_⟩
  obtain⟨e,y⟩:=y;subst e;exact hs i x σ _ (y xs q) p
 ·have e:i=xs.length:=by omega
  subst e;exact .inl ⟨⟨xs,q,x8 _⟩,hd σ H p⟩
theorem lc {K:PySem.W.Frag}{a:Addr}{xs:List V}{g:TG}{tb:TS}{D:gH}{σ:St}{H:Hp}(Pv:Nat->St->Hp->Prop)(h0:Pv 0 σ H)(hl:∀ i σ H,i<=xs.length->Pv i σ H->bw K H a xs)
  (hs:∀ i x σ H,xs[i]? = some x->Pv i σ H->g x σ H fun σ2 H2=>tb { D with nx:=Pv (i+1),ct:=Pv (i+1),bk:=D.nx } σ2 H2) (hd:∀ σ H,Pv xs.length σ H->D.nx σ H) :
  ∃ W:Nat->Nat->St->Hp->Prop,(∃ m,W 0 m σ H)/\∀ i m σ H,W i m σ H ->
   ((vk K a).stop i H/\D.nx σ H)\/((vk K a).go i H/\∃ N:St->Hp->Prop,(∀ σ' H',N σ' H'->∃ m',m'<m/\W (i+1) m' σ' H')/\∀ x H',(vk K a).yld i H x H'->g x σ H' fun σ2 H2=>tb { D with nx:=N,ct:=N,bk:=D.nx } σ2 H2):=by
 refine⟨fun i m σ H=>m=xs.length-i/\i<=xs.length/\Pv i σ H,⟨xs.length,by simp,yT _,h0⟩,?_⟩;rintro i m σ H ⟨rfl,hi,p⟩;have q:=hl i σ H hi p
 by_cases hlt:i<xs.length
 ·refine .inr ⟨⟨xs,xs[i],q,by simp[hlt]⟩,Pv (i+1),fun σ' H' p'=>⟨xs.length-(i+1),by omega,rfl,hlt,p'⟩,fun x H' y=>?_⟩
  obtain⟨e,y⟩:=y;subst e;exact hs i x σ _ (y xs q) p
 ·have e:i=xs.length:=by omega
  subst e;exact .inl ⟨⟨xs,q,x8 _⟩,hd σ H p⟩
theorem fV {lo:Int}{n:Nat}{g:TG}{tb:TS}{D:gH}{σ:St}{H:Hp}(Pv:Nat->St->Hp->Prop)(h0:Pv 0 σ H)
  (hs:∀ i σ H,i<n->Pv i σ H->g (.int (lo+i)) σ H fun σ2 H2=>tb { D with nx:=Pv (i+1),ct:=Pv (i+1),bk:=D.nx } σ2 H2) (hd:∀ σ H,Pv n σ H->D.nx σ H) :
  ∃ W:Nat->Nat->St->Hp->Prop,(∃ m,W 0 m σ H)/\∀ i m σ H,W i m σ H ->
   ((vb lo n).stop i H/\D.nx σ H)\/((vb lo n).go i H/\∃ N:St->Hp->Prop,(∀ σ' H',N σ' H'->∃ m',m'<m/\W (i+1) m' σ' H')/\∀ x H',(vb lo n).yld i H x H'->g x σ H' fun σ2 H2=>tb { D with nx:=N,ct:=N,bk:=D.nx } σ2 H2):=by
 refine⟨fun i m σ H=>m=n-i/\i<=n/\Pv i σ H,⟨n,by simp,yT _,h0⟩,?_⟩;rintro i m σ H ⟨rfl,hi,p⟩
 by_cases hlt:i<n
 ·refine .inr ⟨hlt,Pv (i+1),fun σ' H' p'=>⟨n-(i+1),by omega,rfl,hlt,p'⟩,fun x H' y=>?_⟩
  obtain⟨e,y⟩:=y;subst e y;exact hs i σ _ hlt p
 ·have e:i=n:=by omega
  subst e;exact .inl ⟨x8 _,hd σ H p⟩
abbrev R2:=V->V->Hp->VK->Prop
def gq (X:Cx)(f:Value->Value->Sem Value)(r:R2):Prop :=
 ∀ (pins:List (Addr×Obj))(s:Shared)(σ:St)(H:Hp)(x y:V)(v u:Value)(Q:VK),aF X pins σ H s->be x v->be y u->r x y H Q ->
  wpAny (model X.prog X.w) X.A (f v u) (EP X pins σ Q) X.xe s
def wN (X:Cx)(f:Value->Sem Value)(r:V->Hp->VK->Prop):Prop :=
 ∀ (pins:List (Addr×Obj))(s:Shared)(σ:St)(H:Hp)(x:V)(v:Value)(Q:VK),aF X pins σ H s->be x v->r x H Q ->
  wpAny (model X.prog X.w) X.A (f v) (EP X pins σ Q) X.xe s
def ec (X:Cx)(f:Value)(r:List V->Hp->VK->Prop):Prop :=
 ∀ (pins:List (Addr×Obj))(s:Shared)(σ:St)(H:Hp)(xs:List V)(us:List Value)(Q:VK),aF X pins σ H s->aR xs us->r xs H Q ->
  wpAny (model X.prog X.w) X.A (call f us) (EP X pins σ Q) X.xe s
def wM (X:Cx)(r:V->Hp->(Bool->Hp->Prop)->Prop):Prop :=
 ∀ (pins:List (Addr×Obj))(s:Shared)(σ:St)(H:Hp)(x:V)(v:Value)(Q:Bool->Hp->Prop),aF X pins σ H s->be x v->r x H Q ->
  wpAny (model X.prog X.w) X.A (truthy v) (TP X pins σ Q) X.xe s
def wf (r:R2)(ta tb:TE):TE:=fun σ H Q=>ta σ H fun x H1=>tb σ H1 fun y H2=>r x y H2 Q
def xV (r:V->Hp->VK->Prop)(ta:TE):TE:=fun σ H Q=>ta σ H fun x H1=>r x H1 Q
inductive RI (C:Int->Int->Prop) (g:Int->Int->V) (x y:V) (H:Hp) (Q:VK):Prop
 | mk (i j:Int) (e1:x=.int i) (e2:y=.int j) (c:C i j) (h:Q (g i j) H):RI C g x y H Q
def rI (C:Int->Int->Prop)(g:Int->Int->V):R2:=fun x y H Q=>RI C g x y H Q
inductive xB (g:Int->Int->V) (x y:V) (H:Hp) (Q:VK):Prop
 | mk (i j:Int) (e1:x=.int i) (e2:y=.int j) (h:Q (g i j) H):xB g x y H Q
def td (g:Int->Int->V):R2:=fun x y H Q=>xB g x y H Q
def rU (g:Int->V):V->Hp->VK->Prop:=fun x H Q=>∃ i,x=.int i/\Q (g i) H
section
variable {X:Cx}{a b c:Expr}{ta tb tc:TE}{pos:Pos}
theorem ug (ha:PE X a ta)(hb:PE X b tb){pins:List (Addr×Obj)}{s:Shared}{σ:St}{H:Hp}{R:V->V->Hp->Prop}(I:aF X pins σ H s)
  (h:ta σ H fun x H1=>tb σ H1 fun y H2=>R x y H2) {Q:Value->Shared->Prop} {f:Value->Value->Sem Value}
  (hf:∀ v u s2 x y H2,aF X pins σ H2 s2->be x v->be y u->R x y H2->wpAny (model X.prog X.w) X.A (f v u) Q X.xe s2) :
  wpAny (model X.prog X.w) X.A (eval a X.env) (fun v s₁=>wpAny (model X.prog X.w) X.A (eval b X.env) (fun u s₂=>wpAny (model X.prog X.w) X.A (f v u) Q X.xe s₂) X.xe s₁) X.xe s:=by
 refine bK (ha pins s σ H _ I h) fun v s1 ⟨x,H1,I1,r1,q1⟩=>?_;refine bK (hb pins s1 σ H1 _ I1 q1) fun u s2 ⟨y,H2,I2,r2,q2⟩=>?_;exact hf v u s2 x y H2 I2 r1 r2 q2
theorem ai {op:Operator}{r:R2}(ho:gq X (binaryOp op) r)(ha:PE X a ta)(hb:PE X b tb):PE X (.BinOp a op b pos) (wf r ta tb):=by
 intro pins s σ H Q I h;exact wpAny_BinOp (ug ha hb I h fun v u s2 x y H2 I2 rx ry q=>ho pins s2 σ H2 x y v u Q I2 rx ry q)
theorem vP {op:UnaryOp}{r:V->Hp->VK->Prop}(ho:wN X (unaryOp op) r)(ha:PE X a ta):PE X (.UnaryOp op a pos) (xV r ta):=by
 intro pins s σ H Q I h;exact UnaryOp_ (bK (ha pins s σ H _ I h) fun v s1 ⟨x,H1,I1,r1,q1⟩=>ho pins s1 σ H1 x v Q I1 r1 q1)
theorem vL {f:Value->Value->Sem Value}{C:Int->Int->Prop}{g:Int->Int->Int}
  (rule:∀ (i j:Int)(t u:Tok)(s:Shared)(Q:Value->Shared->Prop)(E:Value->Shared->Prop),C i j->Q (.int (g i j) s.toks) { s with toks:=s.toks+1 }->wpAny (model X.prog X.w) X.A (f (.int i t) (.int j u)) Q E s) :
  gq X f (rI C fun i j=>.int (g i j)):=by
 intro pins s σ H x y v u Q I rx ry h;obtain⟨i,j,rfl,rfl,hc,q⟩:=h;obtain⟨t,rfl⟩:=rx;obtain⟨t',rfl⟩:=ry;exact rule i j t t' s _ _ hc ⟨.int (g i j),H,I.tok _,⟨_,rfl⟩,q⟩
theorem vM {f:Value->Value->Sem Value}{g:Int->Int->Int}
  (rule:∀ (i j:Int)(t u:Tok)(s:Shared)(Q:Value->Shared->Prop)(E:Value->Shared->Prop),Q (.int (g i j) s.toks) { s with toks:=s.toks+1 }->wpAny (model X.prog X.w) X.A (f (.int i t) (.int j u)) Q E s) :
  gq X f (td fun i j=>.int (g i j)):=by
 intro pins s σ H x y v u Q I rx ry h;obtain⟨i,j,rfl,rfl,q⟩:=h;obtain⟨t,rfl⟩:=rx;obtain⟨t',rfl⟩:=ry;exact rule i j t t' s _ _ ⟨.int (g i j),H,I.tok _,⟨_,rfl⟩,q⟩
theorem sw {f:Value->Value->Sem Value}{g:Int->Int->Bool}
  (rule:∀ (i j:Int)(t u:Tok)(s:Shared)(Q:Value->Shared->Prop)(E:Value->Shared->Prop),Q (.bool (g i j)) s->wpAny (model X.prog X.w) X.A (f (.int i t) (.int j u)) Q E s) :
  gq X f (td fun i j=>.bl (g i j)):=by
 intro pins s σ H x y v u Q I rx ry h;obtain⟨i,j,rfl,rfl,q⟩:=h;obtain⟨t,rfl⟩:=rx;obtain⟨t',rfl⟩:=ry;exact rule i j t t' s _ _ ⟨.bl (g i j),H,I,rfl,q⟩
def wE (i j:Int):Prop:=0<j/\j<1073741824
def wF (i j:Int):Prop:=0<=j/\j<=1000000/\i.natAbs<2 ^ 64
def tX (i j:Int):Prop:=(-(2 ^ 64)<i/\i<2 ^ 64)\/(-(2 ^ 64)<j/\j<2 ^ 64)
theorem tX.ok {i j:Int}(h:tX i j):IntMulOk i j:=by
 rcases h with ⟨h1,h2⟩ | ⟨h1,h2⟩
 ·exact .of_left (intBits_le_64 h1 h2)
 ·exact .of_right (intBits_le_64 h1 h2)
theorem aV:gq X (binaryOp .Add) (td fun i j=>.int (i+j)):=vM fun _ _ _ _ _ _ _ q=>add_int q
theorem lM:gq X (binaryOp .Sub) (td fun i j=>.int (i-j)):=vM fun _ _ _ _ _ _ _ q=>sub_int q
theorem iK:gq X (binaryOp .Mult) (rI tX fun i j=>.int (i*j)):=vL fun _ _ _ _ _ _ _ hc q=>mul_int q hc.ok
theorem bv:gq X (binaryOp .FloorDiv) (rI wE fun i j=>.int (i/j)):=vL fun i j _ _ _ _ _ hc q=>by
 have h1:(0:Int)<j:=hc.1;have h2:j<1073741824:=hc.2;exact floordiv_int (by omega) (by rw[Int.fdiv_eq_ediv_of_nonneg i (by omega)];exact q) (.inl (PyProof.noPylong_small (by omega)))
theorem aT:gq X (binaryOp .Mod) (rI (fun _ j=>0<j) fun i j=>.int (i%j)):=vL fun i j _ _ _ _ _ hc q=>by
 have h1:(0:Int)<j:=hc;exact mod_int' (by omega) (by rw[Int.fmod_eq_emod_of_nonneg i (by omega)];exact q)
theorem qL:gq X (binaryOp .Pow) (rI wF fun i j=>.int (i ^ j.toNat)):=vL fun _ _ _ _ _ _ _ hc q=>pow_int_small hc.1 hc.2.1 hc.2.2 q
theorem xW {f:Value->Sem Value}{g:Int->Int}
  (rule:∀ (i:Int)(t:Tok)(s:Shared)(Q:Value->Shared->Prop)(E:Value->Shared->Prop),Q (.int (g i) s.toks) { s with toks:=s.toks+1 }->wpAny (model X.prog X.w) X.A (f (.int i t)) Q E s) :
  wN X f (rU fun i=>.int (g i)):=by
 intro pins s σ H x v Q I rx h;obtain⟨i,rfl,q⟩:=h;obtain⟨t,rfl⟩:=rx;exact rule i t s _ _ ⟨.int (g i),H,I.tok _,⟨_,rfl⟩,q⟩
theorem uZ:wN X (unaryOp .USub) (rU fun i=>.int (-i)):=xW fun _ _ _ _ _ q=>neg_int q
end
def vU:V->V->Bool
 | .non,.non=>true | .non,.int _=>true | .int _,.non=>true | .non,.bl _=>true | .bl _,.non=>true | .non,.str _=>true | .str _,.non=>true
 | .int _,.int _=>true | .bl _,.bl _=>true | .str _,.str _=>true | .byt _,.byt _=>true
 | .int _,.str _=>true | .str _,.int _=>true | .bl _,.str _=>true | .str _,.bl _=>true
 | _,_=>false
def xQ:R2:=fun x y H Q=>vU x y=true/\Q (.bl (decide (x=y))) H
def xR:R2:=fun x y H Q=>vU x y=true/\Q (.bl (!decide (x=y))) H
theorem oH {i j:Int}:decide (V.int i=V.int j)=(i == j):=by
 rw[Bool.eq_iff_iff];simp
theorem qo {i j:Bool}:decide (V.bl i=V.bl j)=(i == j):=by
 rw[Bool.eq_iff_iff];simp
theorem oI {i j:Str}:decide (V.str i=V.str j)=(i == j):=by
 rw[Bool.eq_iff_iff];simp
theorem oG {i j:Array UInt8}:decide (V.byt i=V.byt j)=(i.toList == j.toList):=by
 rw[Bool.eq_iff_iff];cases i;cases j;simp
section
variable {X:Cx}{a b c:Expr}{ta tb tc:TE}{pos:Pos}
theorem aU {pins:List (Addr×Obj)}{σ:St}{H:Hp}{s:Shared}{Q:VK}{k k':Bool}(I:aF X pins σ H s)(q:Q (.bl k) H)(e:k=k'):EP X pins σ Q (.bool k') s:=by
 subst e;exact⟨.bl k,H,I,rfl,q⟩
theorem bz:gq X (compareOp .Eq) xQ:=by
 intro pins s σ H x y v u Q I rx ry h;obtain⟨hs,q⟩:=h
 cases x with
 | non =>
  cases rx
  cases y with
  | non=>cases ry;exact PySem.EqNone.eq_none_none (aU I q (by simp))
  | bl j=>cases ry;exact PySem.EqNone.eq_none_bool (aU I q (by simp))
  | int j=>obtain⟨t',rfl⟩:=ry;exact PySem.EqNone.eq_none_int (aU I q (by simp))
  | str j=>obtain⟨t',rfl⟩:=ry;exact PySem.EqNone.eq_none_str (aU I q (by simp))
  | _=>exact absurd (show false=true from hs) ye
 | bl i =>
  cases rx
  cases y with
  | non=>cases ry;exact PySem.EqNone.eq_bool_none (aU I q (by simp))
  | bl j=>cases ry;exact eq_bool (aU I q qo)
  | str j=>obtain⟨t',rfl⟩:=ry;exact PySem.EqMixed.eq_bool_str (aU I q (by simp))
  | _=>exact absurd (show false=true from hs) ye
 | int i =>
  obtain⟨t,rfl⟩:=rx
  cases y with
  | non=>cases ry;exact PySem.EqNone.eq_int_none (aU I q (by simp))
  | int j=>obtain⟨t',rfl⟩:=ry;exact eq_int (aU I q oH)
  | str j=>obtain⟨t',rfl⟩:=ry;exact PySem.EqMixed.eq_int_str (aU I q (by simp))
  | _=>exact absurd (show false=true from hs) ye
 | str i =>
  obtain⟨t,rfl⟩:=rx
  cases y with
  | non=>cases ry;exact PySem.EqNone.eq_str_none (aU I q (by simp))
  | bl j=>cases ry;exact PySem.EqMixed.eq_str_bool (aU I q (by simp))
  | int j=>obtain⟨t',rfl⟩:=ry;exact PySem.EqMixed.eq_str_int (aU I q (by simp))
  | str j=>obtain⟨t',rfl⟩:=ry;exact eq_str (aU I q oI)
  | _=>exact absurd (show false=true from hs) ye
 | byt i =>
  obtain⟨t,rfl⟩:=rx
  cases y with
  | byt j=>obtain⟨t',rfl⟩:=ry;exact PySem.W.eq_bytes (aU I q oG)
  | _=>exact absurd (show false=true from hs) ye
 | _=>cases y<;>exact absurd (show false=true from hs) ye
theorem i9:gq X (compareOp .NotEq) xR:=by
 intro pins s σ H x y v u Q I rx ry h;obtain⟨hs,q⟩:=h
 cases x with
 | non =>
  cases rx
  cases y with
  | non=>cases ry;exact PySem.EqNone.ne_none_none (aU I q (by simp))
  | bl j=>cases ry;exact PySem.EqNone.ne_none_bool (aU I q (by simp))
  | int j=>obtain⟨t',rfl⟩:=ry;exact PySem.EqNone.ne_none_int (aU I q (by simp))
  | str j=>obtain⟨t',rfl⟩:=ry;exact PySem.EqNone.ne_none_str (aU I q (by simp))
  | _=>exact absurd (show false=true from hs) ye
 | bl i =>
  cases rx
  cases y with
  | non=>cases ry;exact PySem.EqNone.ne_bool_none (aU I q (by simp))
  | bl j=>cases ry;exact ne_bool (aU I q (zc not qo))
  | str j=>obtain⟨t',rfl⟩:=ry;exact PySem.EqMixed.ne_bool_str (aU I q (by simp))
  | _=>exact absurd (show false=true from hs) ye
 | int i =>
  obtain⟨t,rfl⟩:=rx
  cases y with
  | non=>cases ry;exact PySem.EqNone.ne_int_none (aU I q (by simp))
  | int j=>obtain⟨t',rfl⟩:=ry;exact ne_int (aU I q (zc not oH))
  | str j=>obtain⟨t',rfl⟩:=ry;exact PySem.EqMixed.ne_int_str (aU I q (by simp))
  | _=>exact absurd (show false=true from hs) ye
 | str i =>
  obtain⟨t,rfl⟩:=rx
  cases y with
  | non=>cases ry;exact PySem.EqNone.ne_str_none (aU I q (by simp))
  | bl j=>cases ry;exact PySem.EqMixed.ne_str_bool (aU I q (by simp))
  | int j=>obtain⟨t',rfl⟩:=ry;exact PySem.EqMixed.ne_str_int (aU I q (by simp))
  | str j=>obtain⟨t',rfl⟩:=ry;exact ne_str (aU I q (zc not oI))
  | _=>exact absurd (show false=true from hs) ye
 | byt i =>
  obtain⟨t,rfl⟩:=rx
  cases y with
  | byt j=>obtain⟨t',rfl⟩:=ry;exact PySem.W.ne_bytes (aU I q (zc not oG))
  | _=>exact absurd (show false=true from hs) ye
 | _=>cases y<;>exact absurd (show false=true from hs) ye
theorem kL:gq X (compareOp .Lt) (td fun i j=>.bl (decide (i<j))):=sw fun _ _ _ _ _ _ _ q=>lt_int q
theorem dR:gq X (compareOp .LtE) (td fun i j=>.bl (decide (i<=j))):=sw fun _ _ _ _ _ _ _ q=>le_int q
theorem qK:gq X (compareOp .Gt) (td fun i j=>.bl (decide (j<i))):=sw fun _ _ _ _ _ _ _ q=>gt_int q
theorem vN:gq X (compareOp .GtE) (td fun i j=>.bl (decide (j<=i))):=sw fun _ _ _ _ _ _ _ q=>ge_int q
theorem iJ:gq X (compareOp .In) (fun x y H Q=>∃ i j,x=.str i/\y=.str j/\Q (.bl (!(Builtin.Str.occurrences j i 0 j.length 1).isEmpty)) H):=by
 intro pins s σ H x y v u Q I rx ry h;obtain⟨i,j,rfl,rfl,q⟩:=h;obtain⟨t,rfl⟩:=rx;obtain⟨t',rfl⟩:=ry;exact in_str (aU I q rfl)
theorem lL:gq X (compareOp .NotIn) (fun x y H Q=>∃ i j,x=.str i/\y=.str j/\Q (.bl (!(!(Builtin.Str.occurrences j i 0 j.length 1).isEmpty))) H):=by
 intro pins s σ H x y v u Q I rx ry h;obtain⟨i,j,rfl,rfl,q⟩:=h;obtain⟨t,rfl⟩:=rx;obtain⟨t',rfl⟩:=ry;exact notIn_str (aU I q rfl)
theorem aD (b:Expr){op:CmpOp}(h:op≠.In:=by decide)(h2:op≠.NotIn:=by decide):behindInMarks op b=false:=by
 have e1:(op == CmpOp.In)=false:=by cases op<;>first | rfl | exact absurd rfl h
 have e2:(op == CmpOp.NotIn)=false:=by cases op<;>first | rfl | exact absurd rfl h2
 cases b<;>simp[behindInMarks,e1,e2]
theorem f6 {op:CmpOp}{r:R2}(ho:gq X (compareOp op) r)(ha:PE X a ta)(hb:PE X b tb)(hm:behindInMarks op b=false):PE X (.Compare a [op] [b] pos) (wf r ta tb):=by
 intro pins s σ H Q I h;exact wpAny_Compare1 (ug ha hb I h fun v u s2 x y H2 I2 rx ry q=>ho pins s2 σ H2 x y v u Q I2 rx ry q) hm
def tq (t:TE):TT:=fun σ H Q=>t σ H fun x H'=>wL Q x H'
theorem ao {op:CmpOp}{r:R2}(ho:gq X (compareOp op) r)(ha:PE X a ta)(hb:PE X b tb)(hm:behindInMarks op b=false):PT X (.Compare a [op] [b] pos) (tq (wf r ta tb)):=by
 intro pins s σ H Q I h
 refine wpAny_isTrue_Compare1 (bK (ha pins s σ H _ I h) fun v s1 ⟨x,H1,I1,r1,q1⟩=>bK (hb pins s1 σ H1 _ I1 q1) fun u s2 ⟨y,H2,I2,r2,q2⟩ =>
  bK (ho pins s2 σ H2 x y v u _ I2 r1 r2 q2) fun c s3 ⟨z,H3,I3,r3,k,e,q3⟩=>?_) hm
 subst e;cases r3;exact yS ⟨H3,I3,q3⟩
def rn (r r':R2)(ta tb tc:TE):TE:=fun σ H Q=>ta σ H fun x H1=>tb σ H1 fun y H2=>r x y H2 fun z H3=>∃ k,z=.bl k /\
 (if k=true then tc σ H3 fun w' H4=>r' y w' H4 Q else Q (.bl false) H3)
theorem qR {op op':CmpOp}{r r':R2}(ho:gq X (compareOp op) r)(ho':gq X (compareOp op') r')(ha:PE X a ta)(hb:PE X b tb)(hc:PE X c tc)
  (hm:lastMarks [op,op'] [b,c]=false:=by with_unfolding_all rfl):PE X (.Compare a [op,op'] [b,c] pos) (rn r r' ta tb tc):=by
 intro pins s σ H Q I h
 refine Compare_chain (bK (ha pins s σ H _ I h) fun v s1 ⟨x,H1,I1,r1,q1⟩=>chain_link (bK (hb pins s1 σ H1 _ I1 q1) fun u s2 ⟨y,H2,I2,r2,q2⟩ =>
  bK (ho pins s2 σ H2 x y v u _ I2 r1 r2 q2) fun d s3 ⟨z,H3,I3,r3,k,e,q3⟩=>?_)) hm
 subst e;cases r3;refine yS ?_
 cases k with
 | false=>exact ite_ff ⟨.bl false,H3,I3,rfl,q3⟩
 | true=>exact ite_tt (chain_last (bK (hc pins s3 σ H3 _ I3 q3) fun w' s4 ⟨z',H4,I4,r4,q4⟩=>ho' pins s4 σ H4 y z' u w' Q I4 r2 r4 q4))
theorem et {op op':CmpOp}{r r':R2}(ho:gq X (compareOp op) r)(ho':gq X (compareOp op') r')(ha:PE X a ta)(hb:PE X b tb)(hc:PE X c tc)
  (hm:lastMarks [op,op'] [b,c]=false:=by with_unfolding_all rfl):PT X (.Compare a [op,op'] [b,c] pos) (tq (rn r r' ta tb tc)):=by
 intro pins s σ H Q I h
 refine isTrue_chain (bK (ha pins s σ H _ I h) fun v s1 ⟨x,H1,I1,r1,q1⟩=>test_link (bK (hb pins s1 σ H1 _ I1 q1) fun u s2 ⟨y,H2,I2,r2,q2⟩ =>
  bK (ho pins s2 σ H2 x y v u _ I2 r1 r2 q2) fun d s3 ⟨z,H3,I3,r3,k,e,q3⟩=>?_)) hm
 subst e;cases r3;refine yS ?_
 cases k with
 | false =>
  obtain⟨k',e',q'⟩:=q3;cases e';exact ite_ff ⟨H3,I3,q'⟩
 | true =>
  refine ite_tt (test_last (bK (hc pins s3 σ H3 _ I3 q3) fun w' s4 ⟨z',H4,I4,r4,q4⟩=>bK (ho' pins s4 σ H4 y z' u w' _ I4 r2 r4 q4) fun d' s5 ⟨z2,H5,I5,r5,k2,e2,q5⟩=>?_));subst e2;cases r5;exact yS ⟨H5,I5,q5⟩
def vq (K:PySem.W.Frag)(x:V)(H:Hp)(k:Bool):Prop :=
 match x with
 | .non=>k=false
 | .bl b=>k=b
 | .int i=>k=(i != 0)
 | .str y=>y.length<=sizeLine/\k=((y.length:Int) != 0)
 | .byt y=>y.size<=sizeLine/\k=((y.size:Int) != 0)
 | .ref p=>(∃ xs,bC K H p xs/\k = !xs.isEmpty)\/(∃ xs,bw K H p xs/\k = !xs.isEmpty)\/∃ kvs,H p=some (.dK kvs)/\k = !kvs.isEmpty
 | _=>False
theorem nO {κ:Type}{kvs:List (κ×V)}{vs:List (κ×Value)}(r:KV kvs vs):(!vs.isEmpty) = !kvs.isEmpty:=by
 cases r<;>rfl
theorem jI {xs:List V}{its:List Value}(r:aR xs its):(!its.toArray.isEmpty) = !xs.isEmpty:=by
 cases r<;>simp
theorem iA:(sizeLine:Nat)<2 ^ 63:=by rw[yK];decide
theorem uX:wM X (fun x H Q=>∃ k,vq X.K x H k/\Q k H):=by
 intro pins s σ H x v Q I rx h;obtain⟨k,e,q⟩:=h;have hl:=iA;have hs:sizeLine=16777216:=yK
 cases x with
 | non =>
  cases rx;have e':k=false:=e;subst e';exact truthy_none ⟨H,I,q⟩
 | bl b =>
  cases rx;have e':k=b:=e;subst e';exact yS ⟨H,I,q⟩
 | int i =>
  obtain⟨t,rfl⟩:=rx;have e':k=(i != 0):=e;subst e';exact PySem.P.truthy_int ⟨H,I,q⟩
 | str y =>
  obtain⟨t,rfl⟩:=rx;obtain⟨hy,e'⟩:y.length<=sizeLine/\k=((y.length:Int) != 0):=e;subst e';exact PySem.P.truthy_str (by omega) ⟨H,I.tok _,q⟩
 | byt y =>
  obtain⟨t,rfl⟩:=rx;obtain⟨hy,e'⟩:y.size<=sizeLine/\k=((y.size:Int) != 0):=e;subst e';exact PySem.W.truthy_bytes (by omega) ⟨H,I.tok _,q⟩
 | ref p =>
  cases rx;have e':(∃ xs,bC X.K H p xs/\k = !xs.isEmpty)\/(∃ xs,bw X.K H p xs/\k = !xs.isEmpty)\/∃ kvs,H p=some (.dK kvs)/\k = !kvs.isEmpty:=e;rcases e' with ⟨xs,hx,e'⟩ | ⟨xs,hx,e'⟩ | ⟨kvs,hx,e'⟩
  ·subst e'
   obtain⟨its,r,pl,hz⟩:=I.list hx;have hlen:=r.length;exact wpAny_truthy_list pl.isList (by simp only[yg];omega) ⟨H,I.tok _,by rw[jI r];exact q⟩
  ·subst e'
   obtain⟨its,r,pl,hz⟩:=I.tuple hx;have hlen:=r.length;exact truthy_tuple pl (by simp only[yg];omega) ⟨H,I.tok _,by rw[jI r];exact q⟩
  ·subst e'
   obtain⟨hz,hS,vs,r,m⟩:kvs.length<=sizeLine/\(p == sysModules)=false/\∃ vs,KV kvs vs/\s.heap.DictOf (fY X.prog X.w) p vs:=I.hok p _ hx;have hlen:kvs.length=vs.length:=zj r;exact wpAny_truthy_dict hS m (by omega) ⟨H,I.tok _,by rw[nO r];exact q⟩
 | _=>exact (show False from e).elim
theorem mZ (ha:PE X a ta)(he:∀ whole,isTrue a X.env whole=(do let v <-whole;standAt a.pos;holding [v] (truthy v))) :
  PT X a (fun σ H Q=>ta σ H fun x H'=>∃ k,vq X.K x H' k/\Q k H'):=by
 intro pins s σ H Q I h;exact isTrue_plain (bK (ha pins s σ H _ I h) fun v s1 ⟨x,H1,I1,r1,q1⟩=>uX pins s1 σ H1 x v Q I1 r1 q1) (he _)
theorem ay:gq X (binaryOp .Add) (fun x y H Q=>∃ i j,x=.str i/\y=.str j/\i.length+j.length<=sizeLine/\Q (.str (i++j)) H):=by
 intro pins s σ H x y v u Q I rx ry h;obtain⟨i,j,rfl,rfl,hz,q⟩:=h;obtain⟨t,rfl⟩:=rx;obtain⟨t',rfl⟩:=ry;exact add_str (fun t' tk=>⟨.str (i++j),H,I.tok _,⟨_,rfl⟩,q⟩) hz
theorem fi {x:V}{us:List Value}(r:aR [x] us):∃ u,us=[u]/\be x u:=by
 cases r with
 | cons r1 r2=>cases r2;exact⟨_,rfl,r1⟩
theorem wm {x y:V}{us:List Value}(r:aR [x,y] us):∃ u w',us=[u,w']/\be x u/\be y w':=by
 cases r with
 | cons r1 r2 =>
  cases r2 with
  | cons r3 r4=>cases r4;exact⟨_,_,rfl,r1,r3⟩
theorem kB (hc:X.calm=true):ec X (.builtin "min") (fun xs H Q=>∃ i j,xs=[.int i,.int j]/\Q (.int (if j<i then j else i)) H):=by
 intro pins s σ H xs us Q I r h;obtain⟨i,j,rfl,q⟩:=h;obtain⟨u,w',rfl,⟨t,rfl⟩,⟨t',rfl⟩⟩:=wm r;refine min_two_ints (I.ok.hd hc) fun h' tk k=>⟨_,H,I.kept k,?_,q⟩
 by_cases hj:j<i
 ·rw[ym hj,ym hj];exact⟨_,rfl⟩
 ·rw[yf hj,yf hj];exact⟨_,rfl⟩
end
structure t8 (h:Heap)(x dx C:Addr)(mA:Str->Option Value):Prop where
 obj:h.get? x=some (PySem.W.instObj C dx)
 ns:h.Ns1 dx mA
 ne:dx≠x
theorem pG {h:Heap}{dx:Addr}{mA:Str->Option Value}(n:h.Ns1 dx mA):∃ od,h.get? dx=some od/\∀ name,PySem.W.lookIn name od=some (mA name):=by
 obtain⟨o,es,ep,ho,hd,hk,_,hm⟩:=n;refine⟨o,ho,fun name=>?_⟩;have e:=hm name;unfold nsFind findBy at e;rw[<-Array.find?_toList]at e;unfold PySem.W.lookIn;rw[hd];dsimp only;split
 ·rename_i y q
  rw[q]at e;exact zc some e
 ·rename_i q
  rw[q]at e
  have a:es.toList.any (·.refKey)=false:=by
   rw[List.any_eq_false];intro y hy;obtain⟨z,t,hkey⟩:=hk y (Array.mem_toList_iff.mp hy);simp[DictEntry.refKey,hkey]
  have a':¬ es.toList.any (·.refKey)=true:=by rw[a];exact ye
  rw[yf a'];exact zc some e
theorem t8.look {h:Heap}{x dx C:Addr}{mA:Str->Option Value}(I:t8 h x dx C mA):∃ od,PySem.W.InstAt h x (PySem.W.instObj C dx) C (some od)/\∀ name,PySem.W.lookIn name od=some (mA name) :=
 let ⟨od,ho,hl⟩:=pG I.ns
 ⟨od,⟨I.obj,rfl,rfl,ho⟩,hl⟩
section
variable {P:Program}{w:World}{H H':Hp}{h h':Heap}{a C dx:Addr}{fs fs':List (Str×V)}
theorem rY (hok:gF P w H h)(e:H a=some (.ins C dx fs)):∃ mA,t8 h a dx C mA/\(∀ f,uc (fs.lookup f) (mA f))/\PySem.Within mA (fs.map (·.1))/\fs.length<=1000/\H dx=some (.own a):=by
 obtain⟨d,z,ne,ob,mA,n,r,q⟩:=(show cr P w H h a (.ins C dx fs) from hok a _ e);exact⟨mA,⟨ob,n,ne⟩,r,q,z,d⟩
end
structure wG (K:PySem.W.Frag)(C:Addr):Prop where
 pg:PySem.W.plainGet K C Str.empty=true
 hd:PySem.W.hasDictIn K C=true
 po:PySem.W.plainOver K C=true
 sa:PySem.W.findIn K (.ref C) "__setattr__" = some (some (.builtin "object.__setattr__"))
theorem wG.get {K:PySem.W.Frag}{C:Addr}(c:wG K C)(f:Str):PySem.W.plainGet K C f=true:=c.pg
section
variable {X:Cx}{pins:List (Addr×Obj)}{σ:St}{H:Hp}{s:Shared}{A:Around}{E:Value->Shared->Prop}{Q:Value->Shared->Prop}{c:Value}{b:Bool}
inductive ef (K:PySem.W.Frag) (H:Hp):V->Value->Prop where
 | non:ef K H .non (.type "NoneType")
 | bl (x:Bool):ef K H (.bl x) (.type "bool")
 | int (i:Int):ef K H (.int i) (.type "int")
 | str (x:Str):ef K H (.str x) (.type "str")
 | flt (x:UInt64):ef K H (.flt x) (.type "float")
 | lst {a:Addr} {xs:List V} (e:H a=some (.lst xs)):ef K H (.ref a) (.type "list")
 | frz {a:Addr} {o:Obj} {xs:List V} (e:H a=some (.frz o (.lst xs))):ef K H (.ref a) (.type "list")
 | tup {a:Addr} {xs:List V} (e:H a=some (.tup xs)):ef K H (.ref a) (.type "tuple")
 | dK {a:Addr} {kvs:List (kS×V)} (e:H a=some (.dK kvs)):ef K H (.ref a) (.type "dict")
 | dT {a:Addr} {kvs:List (List kS×V)} (e:H a=some (.dT kvs)):ef K H (.ref a) (.type "dict")
 | ins {a C dx:Addr} {fs:List (Str×V)} (e:H a=some (.ins C dx fs)) (cl:wG K C) (ha:PySem.W.findIn K (.ref C) "__class__" = some (some (.builtin "object.__class__")))
   (hn:PySem.W.specialIn K (.builtin "object.__class__") "__get__" = some (some (.builtin "getset_descriptor.__get__"))) (htk:PySem.W.takesIn K (.builtin "object.__class__")=some true)
   (hm:PySem.W.mroIn K C (.type "object")=some true):ef K H (.ref a) (.ref C)
theorem pA {x:V}{u t:Value}(I:aF X pins σ H s)(rx:be x u)(ty:ef X.K H x t)(e:PySem.W.kitOne X.K t c=some b)(h:∀ tk,Q (.bool b) { s with toks:=tk }) :
  wpAny (model X.prog X.w) A (call (.builtin "isinstance") [u,c]) Q E s:=by
 cases ty with
 | non=>cases (show u=Value.none from rx);exact y2 PySem.W.kitx_none I.kIn True.intro e (fun z=>nomatch z) h
 | bl y=>cases (show u=Value.bool y from rx);exact y2 PySem.W.kitx_bool I.kIn True.intro e (fun z=>nomatch z) h
 | int i=>obtain⟨t,q⟩:=(show ∃ t,u=Value.int i t from rx);cases q;exact y2 PySem.W.kitx_int I.kIn True.intro e (fun z=>nomatch z) h
 | str y=>obtain⟨t,q⟩:=(show ∃ t,u=Value.str y t from rx);cases q;exact y2 PySem.W.kitx_str I.kIn True.intro e (fun z=>nomatch z) h
 | flt y=>obtain⟨t,q⟩:=(show ∃ t,u=Value.float y t from rx);cases q;exact y2 PySem.W.kitx_float I.kIn True.intro e (fun z=>nomatch z) h
 | @lst a xs ea =>
  cases (show u=Value.ref a from rx);obtain⟨_,_,n,_,h1⟩:=(show cr X.prog X.w H s.heap a (.lst xs) from I.hok a _ ea);exact y2 PySem.W.kitx_list I.kIn ⟨_,h1,rfl⟩ e (fun z=>nomatch z) h
 | @frz a ob xs ea =>
  cases (show u=Value.ref a from rx);obtain⟨_,_,_,n,_,h1⟩:=(show cr X.prog X.w H s.heap a (.frz ob (.lst xs)) from I.hok a _ ea);exact y2 PySem.W.kitx_list I.kIn ⟨_,h1,rfl⟩ e (fun z=>nomatch z) h
 | @tup a xs ea =>
  cases (show u=Value.ref a from rx);obtain⟨_,_,_,p⟩:=(show cr X.prog X.w H s.heap a (.tup xs) from I.hok a _ ea);obtain⟨o,h1,h2,_⟩:=p;exact y2 PySem.W.kitx_tuple I.kIn ⟨o,h1,h2⟩ e (fun z=>nomatch z) h
 | @dK a kvs ea =>
  cases (show u=Value.ref a from rx);obtain⟨_,_,vs,_,p⟩:=(show cr X.prog X.w H s.heap a (.dK kvs) from I.hok a _ ea);obtain⟨o,es,ep,h1,h2,_⟩:=p;exact y2 PySem.W.kitx_dict I.kIn ⟨o,h1,h2.1⟩ e (fun z=>nomatch z) h
 | @dT a kvs ea =>
  cases (show u=Value.ref a from rx);obtain⟨_,_,xs,_,o,es,ep,h1,h2,_⟩:=(show cr X.prog X.w H s.heap a (.dT kvs) from I.hok a _ ea);exact y2 PySem.W.kitx_dict I.kIn ⟨o,h1,h2.1⟩ e (fun z=>nomatch z) h
 | @ins a C dx fs ea cl ha hn htk hm =>
  cases (show u=Value.ref a from rx);obtain⟨mA,O,_⟩:=rY I.hok ea;obtain⟨od,J,_⟩:=O.look;exact y2 (PySem.W.kitx_own (cl.get _) cl.hd ha hn htk hm) I.kIn J e (fun z=>nomatch z) h
end
structure cz (k:Nat)(A:Around):Prop where
 hd:A.handled=none
 dp:A.depth+3*k+5<recursionLimit
 un:A.units+16*k+200<cLine
theorem cz.mono {j k:Nat}{A:Around}(r:cz k A)(h:j<=k):cz j A:=⟨r.hd,by have:=r.dp;omega,by have:=r.un;omega⟩
theorem cz.deeper {k:Nat}{A:Around}(r:cz (k+1) A)(env:Env):cz k (A.deeper env) :=
 ⟨r.hd,by have:=r.dp;show A.depth+1+3*k+5<_;omega,by have:=r.un;show A.units+3+16*k+200<_;omega⟩
theorem cz.depth {k:Nat}{A:Around}(r:cz k A):A.depth<recursionLimit:=by have:=r.dp;omega
theorem cz.units {k:Nat}{A:Around}(r:cz k A):A.units+64<cLine:=by have:=r.un;omega
def kt:TA:=fun _ H Q=>Q [] H
def fh (ta:TE)(tr:TA):TA:=fun σ H Q=>ta σ H fun x H1=>tr σ H1 fun xs H2=>Q (x::xs) H2
section
variable {X:Cx}{e:Expr}{es:List Expr}{te:TE}{t:TA}{pos:Pos}
theorem bn:PA X [] kt:=fun _ _ _ _ H Q I h=>Calls.spliced_nil ⟨[],H,I,.nil,h⟩
theorem aO (ha:PE X e te)(hr:PA X es t)(hs:starEach (e::es) X.env=(false,eval e X.env)::starEach es X.env:=by rfl):PA X (e::es) (fh te t):=by
 intro pos pins s σ H Q I h;rw[hs]
 show wpAny _ _ (spliced ((false,eval e X.env)::backTo pos (starEach es X.env))) _ _ s
 refine zC (bK (ha pins s σ H _ I h) fun u s1 ⟨x,H1,I1,r1,q1⟩=>?_);exact bK (hr pos pins s1 σ H1 _ I1 q1) fun us s2 ⟨xs,H2,I2,r2,q2⟩=>⟨x::xs,H2,I2,.cons r1 r2,q2⟩
def wk (t:TA):TE:=fun σ H Q=>t σ H fun xs H1=>xs.length<=sizeLine/\∀ p,H1 p=none->Q (.ref p) (bE H1 p (.tup xs))
def uU (t:TA):TE:=fun σ H Q=>t σ H fun xs H1=>xs.length<=sizeLine/\∀ p,H1 p=none->Q (.ref p) (bE H1 p (.lst xs))
theorem bo {x1}(h:PA X es t):PE X (.Tuple es x1 pos) (wk t):=by
 intro pins s σ H Q I hq;refine wpAny_Tuple_spliced (bK (h pos pins s σ H _ I hq) fun us s1 ⟨xs,H1,I1,r,z,q⟩=>⟨by rw[<-r.length];exact z,?_⟩);have hf:H1 s1.heap.objs.size=none:=I1.hok.fresh (x8 _);refine⟨.ref s1.heap.objs.size,bE H1 s1.heap.objs.size (.tup xs),I1.laid (t':=s1.toks) (fun b u e=>Heap.get?_push_of_some _ e) (x8 _) ?_,rfl,q _ hf⟩;exact⟨z,us,r,⟨_,Heap.get?_push_size _ rfl,rfl,_,rfl⟩⟩
theorem d6 (h:PA X es t):PE X (.List es pos) (uU t):=by
 intro pins s σ H Q I hq;refine wpAny_List_spliced (bK (h pos pins s σ H _ I hq) fun us s1 ⟨xs,H1,I1,r,z,q⟩=>⟨by rw[<-r.length];exact z,?_⟩);have hf:H1 s1.heap.objs.size=none:=I1.hok.fresh (x8 _);refine⟨.ref s1.heap.objs.size,bE H1 s1.heap.objs.size (.lst xs),I1.laid (t':=s1.toks) (fun b u e=>Heap.get?_push_of_some _ e) (x8 _) ?_,rfl,q _ hf⟩;exact⟨z,us,0,r,Heap.get?_push_size _ rfl⟩
end
abbrev Sp:=List V->Hp->VK->XK->Prop
abbrev ku:=List Env->Hp->Shared->XK->Value->Shared->Prop
structure o8 (P:Program)(w:World)(K:PySem.W.Frag)(mg:Str->Option Value)(base:Heap)(A:Around)(outer:List Env)(s:Shared)(H:Hp):Prop where
 frames:A.frames=some outer
 mod:Mod K mg base
 bs:∀ b o,base.get? b=some o->s.heap.get? b=some o/\H b=none
 bsz:base.objs.size<=s.heap.objs.size
 funs:s.heap.FunFrames base outer
 frf:∀ b∈dM outer,H b=none
 hok:gF P w H s.heap
 bare:AllBare s.gens
def CE (outer:List Env)(P:Program)(w:World)(H:Hp)(s:Shared)(Q:VK)(u:Value)(s':Shared):Prop :=
 ∃ v H',s'.os=s.os/\AllBare s'.gens/\Un (dM outer) [] H H' s.heap s'.heap/\gF P w H' s'.heap/\be v u/\Q v H'
def CR (CX:ku)(outer:List Env)(P:Program)(w:World)(H:Hp)(s:Shared)(Q:VK)(E:XK)(r:Result)(s':Shared):Prop :=
 match r with
 | .ok (.ret u)=>CE outer P w H s Q u s'
 | .ok _=>False
 | .error e=>CX outer H s E e s'
structure bc (P:Program)(w:World)(K:PySem.W.Frag)(mg:Str->Option Value)(base:Heap)(CX:ku)(k:Nat)(f:Addr)(fd:FuncData)(ps:List Str)(sp:Sp):Prop where
 len:∀ vs H Q E,sp vs H Q E->vs.length=ps.length
 run:∀ (A:Around)(outer:List Env)(s:Shared)(H:Hp)(args:Args)(us:List Value)(vs:List V)(Q:VK)(E:XK),cz k A->o8 P w K mg base A outer s H->BindsTo s fd args (ps.zip us)->aR vs us->sp vs H Q E ->
  codeAny (model P w) A (.call (.ref f) args) (CR CX outer P w H s Q E) s
section
variable {X:Cx}{pins:List (Addr×Obj)}{σ:St}{H:Hp}{s s':Shared}
theorem aF.env0 (I:aF X pins σ H s):o8 X.prog X.w X.K X.mg X.base X.A X.stack s H :=
 ⟨I.ok.frames,I.ok.mod,I.bs,yR I.ok.bsz I.sz,I.stack,I.stkFree,I.hok,I.bare⟩
theorem aF.after {Q:VK}{u:Value}(I:aF X pins σ H s)(h:CE X.stack X.prog X.w H s Q u s'):EP X pins σ Q u s':=by
 obtain⟨v,H',os,bare,un,hok,r,q⟩:=h;obtain⟨hh,g,d,t,os'⟩:=s';obtain rfl:os'=s.os:=os;exact⟨v,H',I.call (h':=hh) (g':=g) (d':=d) (t':=t) (ch:=[]) un hok bare (fun b z=>absurd z (by simp)),r,q⟩
end
def nu (sp:Sp)(dvs:List V)(E:XK)(t:TA):TE:=fun σ H Q=>t σ H fun vs H1=>sp (vs++dvs) H1 Q E
def fk (K:PySem.W.Frag)(fd:FuncData)(ps:List Str)(ds:List Value):Prop :=
 ∀ (s:Shared)(us:List Value),K.In s.heap->(us++ds).length=ps.length->BindsTo s fd ⟨us,[]⟩ (ps.zip (us++ds))
theorem fk.all {K:PySem.W.Frag}{fd:FuncData}{ps:List Str}(h:∀ us:List Value,us.length=ps.length->bindArgs fd ⟨us,[]⟩=pure (ps.zip us)):fk K fd ps []:=fun s us _ hl=>by
 rw[zp]at hl ⊢;exact .of_eq (h us hl)
def eD (CX:ku)(X:Cx)(E:XK):Prop:=∀ (pins:List (Addr×Obj))(σ:St)(H:Hp)(s:Shared)(e:Value)(s':Shared),aF X pins σ H s->CX X.stack H s E e s'->X.xe e s'
section
variable {X:Cx}{CX:ku}{k:Nat}{f C:Addr}{fd:FuncData}{ps:List Str}{sp:Sp}{dvs:List V}{ds:List Value}{E:XK}{x m:Str}{p pos apos:Pos}{e o:Expr}{es:List Expr}{ta:TE}{t:TA}
theorem rc {pins:List (Addr×Obj)}{σ:St}{H:Hp}{s:Shared}{Q:VK}{us:List Value}{vs:List V}(F:bc X.prog X.w X.K X.mg X.base CX k f fd ps sp)(hr:cz k X.A)(hb:fk X.K fd ps ds)(hd:aR dvs ds)(hx:eD CX X E)
  (I:aF X pins σ H s) (r:aR vs us) (h:sp (vs++dvs) H Q E):wpAny (model X.prog X.w) X.A (call (.ref f) us) (EP X pins σ Q) X.xe s:=by
 have r2:aR (vs++dvs) (us++ds):=r.append hd
 have hl:(us++ds).length=ps.length:=by rw[<-r2.length];exact F.len _ _ _ _ h
 refine wpAny_call (zw (F.run X.A X.stack s H ⟨us,[]⟩ (us++ds) (vs++dvs) Q E hr I.env0 (hb s us I.kIn hl) r2 h) fun r s' hq=>?_)
 cases r with
 | error e=>exact hx pins σ H s e s' I hq
 | ok fl =>
  cases fl with
  | ret u=>exact I.after hq
  | next=>exact False.elim hq
  | brk=>exact False.elim hq
  | cont=>exact False.elim hq
theorem oS (F:bc X.prog X.w X.K X.mg X.base CX k f fd ps sp)(hr:cz k X.A)(hg:Gl X x)(hm:X.mg x=some (.ref f))(hk:PySem.W.keepIn X.K (.ref f)=true)(hb:fk X.K fd ps ds)(hd:aR dvs ds)(hx:eD CX X E)
  (ha:PA X (e::es) t) (hdb:(x == ("__debug__" : Str))=false:=by decide) (he:starEach (e::es) X.env=(false,eval e X.env)::starEach es X.env:=by rfl) (hpl:(backTo pos (starEach es X.env)).any (·.1)=false:=by rfl) :
  PE X (.Call (.Name x p) (e::es) [] pos) (nu sp dvs E t):=by
 intro pins s σ H Q I h;refine zd (eI I hg hm ?_ hdb);refine PySem.W.callWith_K (h₀:=X.base) I.ok.mod.kin hk (bK (ha pos pins s σ H _ I h) fun us s1 ⟨vs,H1,I1,r,q⟩=>⟨I1.kIn,?_⟩) he hpl;exact rc F hr hb hd hx I1 r q
theorem qP (F:bc X.prog X.w X.K X.mg X.base CX k f fd ps sp)(hr:cz k X.A)(hg:Gl X x)(hm:X.mg x=some (.ref f))(hk:PySem.W.keepIn X.K (.ref f)=true)(hb:fk X.K fd ps ds)(hd:aR dvs ds)(hx:eD CX X E)
  (hdb:(x == ("__debug__" : Str))=false:=by decide):PE X (.Call (.Name x p) [] [] pos) (nu sp dvs E kt):=by
 intro pins s σ H Q I h;refine zd (eI I hg hm ?_ hdb);exact PySem.W.callWith_K0 I.kIn hk (rc (us:=[]) F hr hb hd hx I .nil h)
end
structure aH (N P:List Str)(sc:Scope):Prop where
 kind:sc.kind=.function
 co:sc.isCoroutine=false
 gen:sc.isGenerator=false
 nd:N.Nodup
 pre:N.take P.length=P
 par:∀ x∈P,sc.names.lookup x=some .local\/sc.names.lookup x=some .cell
 nofree:∀ y∈sc.names,y.2≠.free
theorem kz {kindOf:Str->Option NameKind}{x:Str}:∀ {binds:List (Str×Value)}{m:Str->Option Value},(∀ v,(x,v)∉binds)->bindL kindOf binds m x=m x
 | [],_,_=>rfl
 | (n,v)::r,m,h=>by
  unfold bindL;rw[kz fun w hw=>h w (yc _ hw)];split
  ·have:x≠n:=by rintro rfl;exact h v ya
   simp[this]
  ·rfl
theorem kx {kindOf:Str->Option NameKind}{x:Str}:∀ {binds:List (Str×Value)}{m:Str->Option Value},(∀ v,(x,v)∉binds)->bindC kindOf binds m x=m x
 | [],_,_=>rfl
 | (n,v)::r,m,h=>by
  unfold bindC;rw[kx fun w hw=>h w (yc _ hw)];split
  ·rfl
  ·have:x≠n:=by rintro rfl;exact h v ya
   simp[this]
theorem ky {kindOf:Str->Option NameKind}{x:Str}{v:Value}:∀ {P:List Str}{vs:List Value}{i:Nat}{m:Str->Option Value},P.Nodup->P[i]? = some x->vs[i]? = some v->kindOf x=some .local ->
  bindL kindOf (P.zip vs) m x=some v
 | [],_,_,_,_,h,_,_=>by simp at h
 | _::_,[],_,_,_,_,h,_=>by simp at h
 | p::P,w::vs,0,m,nd,h1,h2,hk=>by
  simp at h1 h2;subst h1;subst h2
  show bindL kindOf ((p,w)::P.zip vs) m p=_
  unfold bindL;rw[kz fun v hv=>(zD.mp nd).1 (List.of_mem_zip hv).1,ym hk];simp
 | p::P,w::vs,i+1,m,nd,h1,h2,hk=>by
  show bindL kindOf ((p,w)::P.zip vs) m x=_
  unfold bindL;exact ky (i:=i) (zD.mp nd).2 (by simpa using h1) (by simpa using h2) hk
theorem kw {kindOf:Str->Option NameKind}{x:Str}{v:Value}:∀ {P:List Str}{vs:List Value}{i:Nat}{m:Str->Option Value},P.Nodup->P[i]? = some x->vs[i]? = some v->kindOf x≠some .local ->
  bindC kindOf (P.zip vs) m x=some v
 | [],_,_,_,_,h,_,_=>by simp at h
 | _::_,[],_,_,_,_,h,_=>by simp at h
 | p::P,w::vs,0,m,nd,h1,h2,hk=>by
  simp at h1 h2;subst h1;subst h2
  show bindC kindOf ((p,w)::P.zip vs) m p=_
  unfold bindC;rw[kx fun v hv=>(zD.mp nd).1 (List.of_mem_zip hv).1,yf hk];simp
 | p::P,w::vs,i+1,m,nd,h1,h2,hk=>by
  show bindC kindOf ((p,w)::P.zip vs) m x=_
  unfold bindC;exact kw (i:=i) (zD.mp nd).2 (by simpa using h1) (by simpa using h2) hk
def gm (N:List Str)(vs:List V):St:=vs.map some++List.replicate (N.length-vs.length) none
def je (CX:ku)(P:Program)(w:World)(K:PySem.W.Frag)(mg:Str->Option Value)(base:Heap)(N:List Str)(qual:Str)(scope:Scope)(f:Addr)(cd:Value)(A:Around)(outer:List Env)(s:Shared)(H:Hp)(E:XK):Cx where
 prog:=P
 w:=w
 K:=K
 mg:=mg
 base:=base
 A:=A.deeper (envOfC qual scope s.heap.objs.size f cd)
 N:=N
 s₀:=s
 H₀:=H
 env:=envOfC qual scope s.heap.objs.size f cd
 outer:=outer
 stack:=envOfC qual scope s.heap.objs.size f cd::outer
 ex:=[]
 calm:=true
 fn:=fun _=>true
 pn:=[]
 xe:=fun e s'=>wpAny (model P w) (A.deeper (envOfC qual scope s.heap.objs.size f cd)) (leaving (envOfC qual scope s.heap.objs.size f cd) e) (fun _ s''=>CX outer H s E e s'') (fun e' s''=>CX outer H s E e' s'') s'
theorem mv {sc:Scope}{n:Nat}{x:Str}(h:sc.names.lookup x=some .cell):∃ c,(cellsFrom n sc.names []).lookup x=some c:=by
 have q:=PySem.W.cellsFrom_some sc.names n [] (.inl h);exact Option.isSome_iff_exists.mp q
theorem pz {CX:ku}{P:Program}{w:World}{K:PySem.W.Frag}{mg:Str->Option Value}{base:Heap}{N ps:List Str}{qual:Str}{scope:Scope}{f:Addr}{cd:Value}{A:Around}{outer:List Env}{s s1:Shared}{H:Hp}{E:XK}{us:List Value}{vs:List V}
  (S:aH N ps scope) (hd:A.handled=none) (e0:o8 P w K mg base A outer s H) (hl:vs.length=ps.length) (r:aR vs us)
  (x:InCallC s s.heap.objs.size (bindL (envOfC qual scope s.heap.objs.size f cd).kindOf (ps.zip us) fun _=>none) (cellsFrom (s.heap.objs.size+1) scope.names []) (bindC (envOfC qual scope s.heap.objs.size f cd).kindOf (ps.zip us) fun _=>none) s1) :
  aF (je CX P w K mg base N qual scope f cd A outer s H E) [] (gm N vs) H s1:=by
 have hpl:ps.length<=N.length:=by have:=zc List.length S.pre;rw[yM]at this;omega
 obtain⟨h1,tk,rfl,hk⟩:=x.done;have noA:∀ b:Addr,b∉(je CX P w K mg base N qual scope f cd A outer s H E).ex:=fun b z=>absurd (show b∈([]:List Addr) from z) (by simp)
 refine⟨⟨e0.mod,S.kind,rfl,rfl,x8 _,fun y z c h1 h2=>?_,fun y hy=>?_,fun y c _ h=>?_,fun _=>hd,Around.frames_deeper e0.frames,.inr ⟨rfl,rfl⟩,fun b z=>absurd z (noA b),e0.bs,e0.bsz,fun b _ _=>noA b,fun b z=>absurd z (noA b),e0.funs,e0.frf⟩,
  rfl,e0.bare,Un.kept hk,⟨_,x.toInCall.ns,fun i y v h1 h2 h3=>?_⟩,fun y c h=>⟨_,x.cell y c h⟩,e0.hok.fresh (x8 _),fun y c h=>?_,fun p hp=>absurd (show p∈([]:List (Addr×Obj)) from hp) (by simp),e0.hok.kept hk,?_⟩
 ·exact name_of_addr x.apart (y9 h1) (y9 h2)
 ·have hy:scope.names.lookup y=some .cell\/scope.names.lookup y=some .free:=hy
  rcases hy with hy | hy
  ·exact mv hy
  ·exact absurd rfl (S.nofree _ (y9 hy))
 ·exact Nat.le_of_lt (x.above y c (y9 h))
 ·have hi:i<vs.length:=by
   unfold gm at h2
   by_cases hi:i<vs.length
   ·exact hi
   ·rw[List.getElem?_append_right (by simpa using hi)]at h2
    rw[List.getElem?_replicate]at h2;split at h2<;>cases h2
  have ha:vs[i]? = some v:=by
   unfold gm at h2;rw[List.getElem?_append_left (by simpa using hi),List.getElem?_map]at h2
   cases e:vs[i]? with
   | none=>rw[e]at h2;cases h2
   | some a=>rw[e]at h2;cases h2;rfl
  obtain⟨u,hu,rv⟩:=r.get ha
  have hp:ps[i]? = some y:=by
   rw[<-S.pre,List.getElem?_take_of_lt (by omega)];exact h1
  have ndP:ps.Nodup:=by rw[<-S.pre];exact S.nd.sublist (List.take_sublist _ _)
  refine⟨u,rv,?_⟩;rcases S.par y (yH hp) with k | k
  ·exact .inl ⟨k,ky ndP hp hu k⟩
  ·obtain⟨c,e⟩:=mv (n:=s.heap.objs.size+1) k
   refine .inr ⟨.inl k,c,e,?_⟩;have q:=x.cell y c e;rw[kw ndP hp hu (by show scope.names.lookup y≠_;rw[k];decide)]at q;exact q
 ·exact e0.hok.fresh (Nat.le_of_lt (x.above y c (y9 h)))
 ·unfold gm
  show _=N.length
  rw[yb,x4,List.length_replicate];omega
theorem qr {CX:ku}{P:Program}{w:World}{K:PySem.W.Frag}{mg:Str->Option Value}{base:Heap}{k:Nat}{f:Addr}{name qual:Str}{params:Arguments}{body:List Stmt}{scope:Scope}{dV kV doc pm cdv ct oc:Value}{an od:Option Addr}
  {osl:Array (Option Value)} {N ps:List Str} {sp:Sp} (lk:K.lookup f=some ⟨oc,od,.func (PySem.W.fnOf name qual params body scope dV kV doc pm an cdv ct),osl⟩) (hcd:PySem.W.codeIn K cdv qual=true) (S:aH N ps scope)
  (len:∀ vs H Q E,sp vs H Q E->vs.length=ps.length)
  (hbody:∀ (A:Around)(outer:List Env)(s:Shared)(H:Hp)(vs:List V)(Q:VK)(E:XK),cz k (A.deeper (envOfC qual scope s.heap.objs.size f cdv))->sp vs H Q E ->
   ∃ t,mm (je CX P w K mg base N qual scope f cdv A outer s H E) body t/\t { nx:=fun _ H'=>Q .non H',rt:=Q } (gm N vs) H) :
  bc P w K mg base CX (k+1) f (PySem.W.fnOf name qual params body scope dV kV doc pm an cdv ct) ps sp:=by
 refine⟨len,fun A outer s H args us vs Q E hr e0 hb r hsp=>?_⟩;have hl:=len _ _ _ _ hsp;have KX:K.In s.heap:=e0.mod.kin.keeps fun b o e=>(e0.bs b o e).1;have lim:s.heap.NoLimit:=e0.mod.nolimit.keeps fun b o e=>(e0.bs b o e).1
 have hkind:∀ y∈ps.zip us,scope.names.lookup y.1=some .local\/(scope.names.lookup y.1=some .cell/\((cellsFrom (s.heap.objs.size+1) scope.names []).lookup y.1).isSome=true):=fun ⟨n,v⟩ hy=>by
  rcases S.par n (List.of_mem_zip hy).1 with q | q
  ·exact .inl q
  ·exact .inr ⟨q,PySem.W.cellsFrom_some _ _ _ (.inl q)⟩
 refine codeAny_call_function hr.depth (KX _ _ lk) rfl S.co S.gen rfl (PySem.W.codeRec_of KX hcd) (hb _ _ _ _ ?_);refine wpAny_newFunctionEnv_cells S.kind hkind fun env he s1 x=>?_;subst he;refine⟨lim.keeps x.toInCall.keep,codeAny_func ?_⟩;obtain⟨t,ht,hq⟩:=hbody A outer s H vs Q E (hr.deeper _) hsp;have I:aF (je CX P w K mg base N qual scope f cdv A outer s H E) [] (gm N vs) H s1:=pz S hr.hd e0 hl r x;refine y4 (ht [] s1 (gm N vs) H _ I hq) (fun fl s' hs=>?_) fun e s' hs=>hs
 have fin:∀ {σ':St}{H':Hp}{v:V}{u:Value},aF (je CX P w K mg base N qual scope f cdv A outer s H E) [] σ' H' s'->be v u->Q v H'->CE outer P w H s Q u s' :=
  fun {σ' H' v u} J rv q=>⟨v,H',J.os,J.bare,J.base,J.hok,rv,q⟩
 cases fl with
 | ret u =>
  obtain⟨v,σ',H',J,rv,q⟩:=hs;exact fin J rv q
 | next =>
  obtain⟨σ',H',J,q⟩:=hs;exact fin (v:=V.non) (u:=Value.none) J rfl q
 | brk =>
  obtain⟨_,_,_,q⟩:=hs;exact False.elim q
 | cont =>
  obtain⟨_,_,_,q⟩:=hs;exact False.elim q
section
variable {X:Cx}{x:Str}{p pos:Pos}{e:Expr}{es:List Expr}{t:TA}{id T:String}{r:List V->Hp->VK->Prop}
def xI (r:List V->Hp->VK->Prop)(t:TA):TE:=fun σ H Q=>t σ H fun vs H1=>r vs H1 Q
theorem aC (hc:ec X (.builtin id) r)(hg:Gl X x)(hm:X.mg x=none)(hv:bootBuiltins x=some (.builtin id))(ha:PA X (e::es) t)(hn:x≠"__name__":=by decide)(hdb:(x == ("__debug__" : Str))=false:=by decide)
  (he:starEach (e::es) X.env=(false,eval e X.env)::starEach es X.env:=by rfl) (hpl:(backTo pos (starEach es X.env)).any (·.1)=false:=by rfl):PE X (.Call (.Name x p) (e::es) [] pos) (xI r t):=by
 intro pins s σ H Q I h;refine zd (iz I hg hm hv ?_ hn hdb);exact PyProof.Rows.callWith_builtin1 (bK (ha pos pins s σ H _ I h) fun us s1 ⟨vs,H1,I1,r1,q1⟩=>hc pins s1 σ H1 vs us Q I1 r1 q1) he hpl
theorem bO (hc:ec X (.type T) r)(hg:Gl X x)(hm:X.mg x=none)(hv:bootBuiltins x=some (.type T))(ha:PA X (e::es) t)(hn:x≠"__name__":=by decide)(hdb:(x == ("__debug__" : Str))=false:=by decide)
  (he:starEach (e::es) X.env=(false,eval e X.env)::starEach es X.env:=by rfl) (hpl:(backTo pos (starEach es X.env)).any (·.1)=false:=by rfl):PE X (.Call (.Name x p) (e::es) [] pos) (xI r t):=by
 intro pins s σ H Q I h;refine zd (iz I hg hm hv ?_ hn hdb);exact PyProof.Rows.callWith_type1 (bK (ha pos pins s σ H _ I h) fun us s1 ⟨vs,H1,I1,r1,q1⟩=>hc pins s1 σ H1 vs us Q I1 r1 q1) he hpl
end
end L2
namespace HT
open PySem PyProof.Rows
section
variable {prog:Program}{w:World}{A:Around}{E:Value->Shared->Prop}{s:Shared}
def sIx (n d:Nat):Option Int->Nat
 | none=>d
 | some v=>if v<0 then (v+(n:Int)).toNat else min v.toNat n
theorem sIx_none (n d:Nat):sIx n d none=d:=rfl
theorem sIx_nat (n d k:Nat):sIx n d (some (k:Int))=min k n:=by
 show (if (k:Int)<0 then ((k:Int)+(n:Int)).toNat else min (k:Int).toNat n)=min k n
 rw[yf (by omega),zF]
theorem sIx_le (n d:Nat)(hd:d<=n)(o:Option Int):sIx n d o<=n:=by
 cases o with
 | none=>exact hd
 | some v =>
  show (if v<0 then (v+(n:Int)).toNat else min v.toNat n)<=n
  by_cases hv:v<0
  ·rw[ym hv];omega
  ·rw[yf hv];exact Nat.min_le_right _ _
theorem oE (v:Int)(n d:Nat):(if v<0 then max (v+(n:Int)) 0 else min v (n:Int))=((sIx n d (some v):Nat):Int):=by
 show (if v<0 then max (v+(n:Int)) 0 else min v (n:Int))=(((if v<0 then (v+(n:Int)).toNat else min v.toNat n):Nat):Int)
 by_cases hv:v<0
 ·simp only[ym hv];omega
 ·simp only[yf hv];omega
theorem nF (lo hi:Option Int)(n:Nat):Builtin.Slice.sliceAdjust lo hi 1 (n:Int)=(((sIx n 0 lo:Nat):Int),((sIx n n hi:Nat):Int)):=by
 have h1:¬ ((1:Int)<0):=by omega
 unfold Builtin.Slice.sliceAdjust;simp only[h1,if_false];refine Prod.ext ?_ ?_
 ·cases lo with
  | none=>rfl
  | some v=>exact oE v n 0
 ·cases hi with
  | none=>rfl
  | some v=>exact oE v n n
theorem om (i j:Nat):Builtin.Slice.slicePlaces (i:Int) (j:Int) 1=j-i:=by
 unfold Builtin.Slice.slicePlaces
 have h1:(1:Int)>0:=by omega
 simp only[h1,zu,Int.ediv_one];split<;>omega
theorem ka {v:Value}{o:Option Int}{Q:Option Int->Shared->Prop}(p:IsPart v o)(h:Q o s):wpAny (model prog w) A (Builtin.Slice.slicePartIndex v) Q E s:=by
 cases p with
 | none=>exact slicePart_none h
 | int i t=>exact slicePart_int h
theorem iO {sl:Addr}{vl vu:Value}{lo hi:Option Int}{n:Nat}{Q:Int×Int×Nat->Shared->Prop}(hs:s.heap.IsSliceOf sl vl vu .none)(pl:IsPart vl lo)(pu:IsPart vu hi)
  (h:Q (((sIx n 0 lo:Nat):Int),1,sIx n n hi-sIx n 0 lo) s):wpAny (model prog w) A (Builtin.Slice.sliceApplied (.ref sl) (pure (n:Int))) Q E s:=by
 obtain⟨os,hos,hcs,hds⟩:=id hs;unfold Builtin.Slice.sliceApplied Builtin.Slice.sliceFields;refine x9 (x9 (zG hos hds (x:=vl) rfl (x9 (zG hos hds (x:=vu) rfl (x9 (zG hos hds (x:=.none) rfl (yj ?_)))))));refine x9 (slicePart_none ?_)
 show wpAny _ _ (if ((1:Int) == 0)=true then _ else _) _ _ s
 rw[yf (by decide)];refine x9 (ka pl (x9 (ka pu (x9 (yj ?_)))))
 show wpAny _ _ (match Builtin.Slice.sliceAdjust lo hi 1 (n:Int) with | (lo,hi)=>pure (lo,(1:Int),Builtin.Slice.slicePlaces lo hi 1)) _ _ s
 rw[nF lo hi n]
 show wpAny _ _ (pure (((sIx n 0 lo:Nat):Int),(1:Int),Builtin.Slice.slicePlaces ((sIx n 0 lo:Nat):Int) ((sIx n n hi:Nat):Int) 1)) _ _ s
 rw[om];exact yj h
theorem qT (xs:Array Value)(i k:Nat):((List.range k).filterMap fun (m:Nat)=>xs[((i:Int)+(m:Int)*1).toNat]?).toArray=((xs.toList.drop i).take k).toArray:=by
 have e:(fun (m:Nat)=>xs[((i:Int)+(m:Int)*1).toNat]?)=fun m=>xs[i+m]?:=by
  funext m
  have:((i:Int)+(m:Int)*1).toNat=i+m:=by omega
  rw[this]
 rw[e];have:=pick_run xs i k;rw[List.filterMap_map]at this;have e2:((fun x=>xs[x]?) ∘ fun x=>i+x)=fun m=>xs[i+m]?:=rfl;rw[e2]at this;rw[this]
theorem getItem_tuple_cut {t sl:Addr}{items:Array Value}{vl vu:Value}{lo hi:Option Int}{Q:Value->Shared->Prop}(ht:IsTup s.heap t items)(hs:s.heap.IsSliceOf sl vl vu .none)(pl:IsPart vl lo)(pu:IsPart vu hi)
  (hw:¬ (sIx items.size 0 lo=0/\sIx items.size items.size hi=items.size))
  (h:Q (.ref s.heap.objs.size) { s with heap:=s.heap.push { cls:=.type "tuple",data:=.seq ((items.toList.drop (sIx items.size 0 lo)).take (sIx items.size items.size hi-sIx items.size 0 lo)).toArray } })
  (hsz:items.size<=sizeLine):wpAny (model prog w) A (getItem (.ref t) (.ref sl)) Q E s:=by
 have htake:sizeOk (.seq ((items.toList.drop (sIx items.size 0 lo)).take (sIx items.size items.size hi-sIx items.size 0 lo)).toArray):=by
  show ((items.toList.drop (sIx items.size 0 lo)).take (sIx items.size items.size hi-sIx items.size 0 lo)).toArray.size<=sizeLine
  rw[yg,yM,yn,yO];omega
 have hj:sIx items.size items.size hi<=items.size:=sIx_le _ _ (x8 _) hi;obtain⟨os,hos,hcs,hds⟩:=id hs;have hTs:s.TypeIs (.ref sl) "slice":=⟨os,hos,hcs⟩;unfold getItem
 try with_reducible refine wpAny_holding ?_
 first | refine x9 (yj ?_) | skip
 refine x9 (wpAny_sequenceKey ht.typeIs (by decide) ?_)
 refine x9 (wpAny_callSpecial?_slot (name:=Str.ofString "__getitem__") ht.typeIs PyProof.Rows.slot_tuple_getitem
  (wpAny_call_entry PyProof.Rows.slot_tuple_getitem ht.typeIs entry_tuple_getitem ?_ (args_tuple_getitem _ _)))
 show wpAny _ _ (Builtin.Tuple.tupleItemsOf (.ref t) >>= _) _ _ s
 refine x9 (tupleItemsOf_ ht ?_);refine x9 (wpAny_typeOf hTs ?_);rw[ym (by decide)];refine x9 (iO hs pl pu ?_)
 have hno:¬ ((((sIx items.size 0 lo:Nat):Int) == 0&&(1:Int) == 1&&(sIx items.size items.size hi-sIx items.size 0 lo) == items.size)=true):=by
  intro q;rw[yG,yG]at q;have q1:((sIx items.size 0 lo:Nat):Int)=0:=eq_of_beq q.1.1;have q2:sIx items.size items.size hi-sIx items.size 0 lo=items.size:=eq_of_beq q.2;exact hw ⟨by omega,by omega⟩
 show wpAny _ _ (if (((sIx items.size 0 lo:Nat):Int) == 0&&(1:Int) == 1&&(sIx items.size items.size hi-sIx items.size 0 lo) == items.size)=true then _ else _) _ _ s
 rw[yf hno,qT]
 first
  | exact x9 (m:=Builtin.Tuple.tupleExact _) (zi (yj ⟨_,rfl,yj h⟩) htake)
  | exact x9 (m:=Builtin.Tuple.tupleExact _) (zi (x9 (yj (yj ⟨_,rfl,yj h⟩))) htake)
  | exact x9 (x9 (m:=Builtin.Tuple.tupleExact _) (zi (yj (yj ⟨_,rfl,yj h⟩)) htake))
  | exact x9 (x9 (m:=Builtin.Tuple.tupleExact _) (zi (yj ⟨_,rfl,yj h⟩) htake))
end
end HT
namespace L2
open PySem PySem.Spec PyProof.Rows
abbrev TO:=St->Hp->(Option Int->Hp->Prop)->Prop
def PO (X:Cx)(e:Option Expr)(t:TO):Prop :=
 ∀ (pins:List (Addr×Obj))(s:Shared)(σ:St)(H:Hp)(Q:Option Int->Hp->Prop),aF X pins σ H s->t σ H Q ->
  wpAny (model X.prog X.w) X.A (evalPart e X.env) (fun u s'=>∃ o H',aF X pins σ H' s'/\IsPart u o/\Q o H') X.xe s
def sL:TO:=fun _ H Q=>Q none H
def rq (t:TE):TO:=fun σ H Q=>t σ H fun x H1=>∃ i,x=.int i/\Q (some i) H1
section
variable {X:Cx}{e:Expr}{te:TE}{lo hi:Option Expr}{tl th:TO}{pos p2:Pos}
theorem ca:PO X none sL:=by
 intro pins s σ H Q I h;rw[evalPart_none];exact yj ⟨none,H,I,.none,h⟩
theorem aQ (h:PE X e te):PO X (some e) (rq te):=by
 intro pins s σ H Q I hw;rw[evalPart_some];refine bK (h pins s σ H _ I hw) fun u s1 ⟨x,H1,I1,r1,q1⟩=>?_;obtain⟨i,rfl,q⟩:=q1;obtain⟨t,rfl⟩:=r1;exact⟨some i,H1,I1,.int i t,q⟩
def wx (X:Cx)(r:V->Option Int->Option Int->Hp->VK->Prop):Prop :=
 ∀ (pins:List (Addr×Obj))(s:Shared)(σ:St)(H:Hp)(x:V)(v vl vu:Value)(lo hi:Option Int)(sl:Addr)(Q:VK),aF X pins σ H s->be x v->s.heap.IsSliceOf sl vl vu .none->IsPart vl lo->IsPart vu hi->r x lo hi H Q ->
  ∃ T id,typeLookup (.type T) "__getitem__" = pure (some (.builtin id))/\s.TypeIs v T/\wpAny (model X.prog X.w) X.A (getItem v (.ref sl)) (EP X pins σ Q) X.xe s
def xJ (r:V->Option Int->Option Int->Hp->VK->Prop)(te:TE)(tl th:TO):TE:=fun σ H Q=>te σ H fun x H1=>tl σ H1 fun l H2=>th σ H2 fun u H3=>r x l u H3 Q
theorem aX {r:V->Option Int->Option Int->Hp->VK->Prop}(hr:wx X r)(he:PE X e te)(hl:PO X lo tl)(hu:PO X hi th):PE X (.Subscript e (.Slice lo hi none p2) pos) (xJ r te tl th):=by
 intro pins s σ H Q I h;refine Subscript_ (bK (he pins s σ H _ I h) fun v s1 ⟨x,H1,I1,r1,q1⟩=>?_);refine wpAny_Slice (bK (hl pins s1 σ H1 _ I1 q1) fun vl s2 ⟨l,H2,I2,pl,q2⟩=>bK (hu pins s2 σ H2 _ I2 q2) fun vu s3 ⟨u,H3,I3,pu,q3⟩=>?_);rw[evalPart_none];refine yj ?_;have I4:aF X pins σ H3 { s3 with heap:=s3.heap.push { cls:=.type "slice",data:=.fields #[vl,vu,.none] } }:=I3.kept (t':=s3.toks) fun b ob q=>Heap.get?_push_of_some _ q;obtain⟨T,id,hT,ht,hg⟩:=hr pins { s3 with heap:=s3.heap.push { cls:=.type "slice",data:=.fields #[vl,vu,.none] } } σ H3 x v vl vu l u s3.heap.objs.size Q I4 r1 (Heap.IsSliceOf.new ..) pl pu q3
 show wpAny (model X.prog X.w) X.A (subscriptTail e (.Slice lo hi none p2) v (.ref s3.heap.objs.size)) (EP X pins σ Q) X.xe { s3 with heap:=s3.heap.push { cls:=.type "slice",data:=.fields #[vl,vu,.none] } }
 exact tail_any (ops:=[.ref s3.heap.objs.size,v]) ht hT hg (by with_unfolding_all rfl)
def kj (xs:List V)(lo hi:Option Int):List V:=(xs.drop (HT.sIx xs.length 0 lo)).take (HT.sIx xs.length xs.length hi-HT.sIx xs.length 0 lo)
theorem i3 (xs:List V)(lo hi:Option Int):(kj xs lo hi).length<=xs.length:=by
 unfold kj;rw[yM,yn];omega
def xh (K:PySem.W.Frag):V->Option Int->Option Int->Hp->VK->Prop:=fun x lo hi H Q=>∃ a xs,x=.ref a/\bw K H a xs /\
 ¬ (HT.sIx xs.length 0 lo=0/\HT.sIx xs.length xs.length hi=xs.length)/\∀ p,H p=none->Q (.ref p) (bE H p (.tup (kj xs lo hi)))
theorem rg:wx X (xh X.K):=by
 intro pins s σ H x v vl vu lo hi sl Q I rx hs pl pu h;obtain⟨a,xs,rfl,hx,hw,q⟩:=h;cases rx;obtain⟨its,r,ht,hz⟩:=I.tuple hx
 have hlen:its.toArray.size=xs.length:=by rw[yg];exact r.length.symm
 refine⟨"tuple",_,PyProof.Rows.slot_tuple_getitem.lookup,ht.typeIs,?_⟩;refine HT.getItem_tuple_cut ht hs pl pu (by rw[hlen];exact hw) ?_ (by rw[hlen];exact hz);rw[hlen];refine⟨.ref s.heap.objs.size,_,I.laid (t':=s.toks) (o:=.tup (kj xs lo hi)) (fun b ob q=>Heap.get?_push_of_some _ q) (x8 _) ?_,rfl,q _ (I.hok.fresh (x8 _))⟩;exact⟨yR (i3 xs lo hi) hz,_,(r.drop (HT.sIx xs.length 0 lo)).take (HT.sIx xs.length xs.length hi-HT.sIx xs.length 0 lo),gp.new _ _⟩
end
def vf (n:Nat)(i:Int):Option Nat:=if 0<=i then (if i<n then some i.toNat else none) else if -(n:Int)<=i then some (i+n).toNat else none
def sW {α:Type}(xs:List α)(i:Int):Option α:=(vf xs.length i).bind fun j=>xs[j]?
theorem r6 {n:Nat}{i:Int}{j:Nat}(h:vf n i=some j):seqIndex? i n=some j/\j<n/\-(n:Int)<=i/\i<n:=by
 unfold vf at h
 by_cases h0:0<=i
 ·rw[ym h0]at h
  by_cases h1:i<n
  ·rw[ym h1]at h
   have e:i.toNat=j:=yE h;exact⟨by rw[seqIndex_of h0 h1,e],by omega,by omega,h1⟩
  ·rw[yf h1]at h;cases h
 ·rw[yf h0]at h
  by_cases h1 : -(n:Int)<=i
  ·rw[ym h1]at h
   have e:(i+n).toNat=j:=yE h;exact⟨by rw[seqIndex_neg (by omega) h1,e],by omega,h1,by omega⟩
  ·rw[yf h1]at h;cases h
theorem kY {α:Type}{xs:List α}{i:Int}{v:α}(h:sW xs i=some v):∃ j,seqIndex? i xs.length=some j/\xs[j]? = some v/\j<xs.length/\-(xs.length:Int)<=i/\i<xs.length:=by
 unfold sW at h
 cases e:vf xs.length i with
 | none=>rw[e]at h;cases h
 | some j =>
  rw[e]at h;obtain⟨h1,h2,h3,h4⟩:=r6 e;exact⟨j,h1,h,h2,h3,h4⟩
theorem aN {α:Type}{xs:List α}{j:Nat}{v:α}(h:xs[j]? = some v):sW xs (j:Int)=some v:=by
 have hj:j<xs.length:=(List.getElem?_eq_some_iff.mp h).1
 have e:vf xs.length (j:Int)=some j:=by
  unfold vf;rw[ym (by omega),ym (by omega)];simp
 unfold sW;rw[e];exact h
def rK (b:Expr):Prop:=∀ o i,subscripted b false o i=operate [o,i] (getItem o i)
def vm (X:Cx)(r:R2):Prop :=
 ∀ (value slice:Expr)(pins:List (Addr×Obj))(s:Shared)(σ:St)(H:Hp)(x y:V)(v u:Value)(Q:VK),aF X pins σ H s->be x v->be y u->r x y H Q ->
  subscripted slice false v u=operate [v,u] (getItem v u)->wpAny (model X.prog X.w) X.A (subscriptTail value slice v u) (EP X pins σ Q) X.xe s
def wI (X:Cx)(id:String)(r:V->List V->Hp->VK->Prop):Prop :=
 ∀ (pins:List (Addr×Obj))(s:Shared)(σ:St)(H:Hp)(x:V)(xs:List V)(v:Value)(us:List Value)(Q:VK),aF X pins σ H s->be x v->aR xs us->r x xs H Q ->
  wpAny (model X.prog X.w) X.A (call (.builtin id) (v::us)) (EP X pins σ Q) X.xe s
section
variable {X:Cx}{a b:Expr}{ta tb:TE}{pos:Pos}
theorem ba {r:R2}(hr:vm X r)(ha:PE X a ta)(hb:PE X b tb)(hs:rK b):PE X (.Subscript a b pos) (wf r ta tb):=by
 intro pins s σ H Q I h;exact Subscript_ (ug ha hb I h fun v u s2 x y H2 I2 rx ry q=>hr a b pins s2 σ H2 x y v u Q I2 rx ry q (hs _ _))
inductive xC (K:PySem.W.Frag) (x y:V) (H:Hp) (Q:VK):Prop
 | mk (p:Addr) (xs:List V) (i:Int) (v:V) (e1:x=.ref p) (e2:y=.int i) (q:bC K H p xs) (a:sW xs i=some v) (h:Q v H):xC K x y H Q
def xc (K:PySem.W.Frag):R2:=fun x y H Q=>xC K x y H Q
inductive xD (K:PySem.W.Frag) (x y:V) (H:Hp) (Q:VK):Prop
 | mk (p:Addr) (xs:List V) (i:Int) (v:V) (e1:x=.ref p) (e2:y=.int i) (q:bw K H p xs) (a:sW xs i=some v) (h:Q v H):xD K x y H Q
def vQ (K:PySem.W.Frag):R2:=fun x y H Q=>xD K x y H Q
def xf:R2:=fun x y H Q=>∃ z i c,x=.str z/\y=.int i/\z.length<=sizeLine/\sW z.cps.toList i=some c/\Q (.str ⟨#[c]⟩) H
theorem dj:vm X (xc X.K):=by
 intro value slice pins s σ H x y v u Q I rx ry h hs;obtain⟨p,xs,i,z,rfl,rfl,hq,he,q⟩:=h;cases rx;obtain⟨t,rfl⟩:=ry;obtain⟨its,r,pl,hz⟩:=I.list hq;obtain⟨j,h1,h2,h3,h4,h5⟩:=kY he;obtain⟨w,ew,rw'⟩:=r.get h2;have hl:=r.length;have hn:=iA;have fin:EP X pins σ Q w s:=⟨z,H,I,rw',q⟩
 by_cases h0:0<=i
 ·have hj:i.toNat=j:=by
   rw[seqIndex_of h0 h5]at h1;exact yE h1
  exact item_listR pl.isList h0 (by omega) (by rw[hj];simpa using ew) fin hs
 ·have hj:(i+(its.toArray.size:Int)).toNat=j:=by
   rw[seqIndex_neg (by omega) h4]at h1;rw[yg,<-hl];exact yE h1
  exact subscriptTail_builtinR (x:=w) pl.isList.typeIs slot_list_getitem.lookup
   (wpAny_getItem_list_neg (Q:=fun r s'=>r=w/\EP X pins σ Q r s') pl.isList (by omega) (by rw[yg]<;>omega) (by omega) (by rw[hj];simpa using ew) ⟨rfl,fin⟩) hs
theorem bB:vm X (vQ X.K):=by
 intro value slice pins s σ H x y v u Q I rx ry h hs;obtain⟨p,xs,i,z,rfl,rfl,hq,he,q⟩:=h;cases rx;obtain⟨t,rfl⟩:=ry;obtain⟨its,r,pl,hz⟩:=I.tuple hq;obtain⟨j,h1,h2,h3,h4,h5⟩:=kY he;obtain⟨w,ew,rw'⟩:=r.get h2;have hl:=r.length;have hn:=iA;have fin:EP X pins σ Q w s:=⟨z,H,I,rw',q⟩
 exact subscriptTail_builtinR (x:=w) pl.typeIs slot_tuple_getitem.lookup
  (getItem_tuple (j:=j) (Q:=fun r s'=>r=w/\EP X pins σ Q r s') pl (by omega) (by omega) (by rw[yg,<-hl];exact h1) (by simpa using ew) ⟨rfl,fin⟩) hs
theorem lu:vm X xf:=by
 intro value slice pins s σ H x y v u Q I rx ry h hs;obtain⟨z,i,c,rfl,rfl,hz,he,q⟩:=h;obtain⟨t,rfl⟩:=rx;obtain⟨t',rfl⟩:=ry;obtain⟨j,h1,h2,h3,h4,h5⟩:=kY he
 have hl:z.cps.toList.length=z.length:=by simp[Str.length]
 rw[hl]at h1 h4 h5;have hn:=iA
 exact tail_any (typeIs_str s z t) slot_str_getitem.lookup (getItem_str (c:=c) (by
  have e1:decide (i < -(2 ^ 63:Int))=false:=x6 (by omega);have e2:decide (i>=2 ^ 63)=false:=x6 (by omega)
  rw[e1,e2,Bool.or_false]) (by rw[h1];simpa using h2) ⟨.str ⟨#[c]⟩,H,I.tok _,⟨_,rfl⟩,q⟩) hs
theorem lX (lo hi:Option Int)(n:Nat):(sliceBounds lo hi none n).1=((HT.sIx n 0 lo:Nat):Int)/\(sliceBounds lo hi none n).2.1=((HT.sIx n n hi:Nat):Int)/\(sliceBounds lo hi none n).2.2=1:=by
 refine⟨?_,?_,rfl⟩
 ·cases lo with
  | none=>simp[sliceBounds,HT.sIx]
  | some i =>
   simp only[sliceBounds,HT.sIx,Option.getD_none,show (1:Int)>0 by decide,zu]
   by_cases h:i<0
   ·simp only[h,zu]<;>omega
   ·simp only[h,if_false]<;>omega
 ·cases hi with
  | none=>simp[sliceBounds,HT.sIx]
  | some i =>
   simp only[sliceBounds,HT.sIx,Option.getD_none,show (1:Int)>0 by decide,zu]
   by_cases h:i<0
   ·simp only[h,zu]<;>omega
   ·simp only[h,if_false]<;>omega
theorem kr (its:List Value)(lo hi:Option Int):slicePick its.toArray lo hi none=((its.drop (HT.sIx its.length 0 lo)).take (HT.sIx its.length its.length hi-HT.sIx its.length 0 lo)).toArray:=by
 obtain⟨h1,h2,h3⟩:=lX lo hi its.toArray.size;unfold slicePick;rw[h1,h2,h3];simp only[sliceRange_one,pick_run,yg]<;>rfl
inductive vS (K:PySem.W.Frag) (x:V) (lo:Option Int) (hi:Option Int) (H:Hp) (Q:VK):Prop
 | mk (a:Addr) (xs:List V) (h_0:x=.ref a) (h_1:bC K H a xs) (h_2:∀ p,H p=none->Q (.ref p) (bE H p (.lst (kj xs lo hi)))):vS K x lo hi H Q
theorem sE:wx X (vS X.K):=by
 intro pins s σ H x v vl vu lo hi sl Q I rx hs pl pu h;obtain⟨a,xs,rfl,hx,q⟩:=h;cases rx;obtain⟨its,r,ht,hz⟩:=I.list hx;have hlen:=r.length;refine⟨"list",_,slot_list_getitem.lookup,ht.isList.typeIs,?_⟩;refine wpAny_getItem_list_slice ht.isList hs pl pu .none (by simp) ?_ (by rw[yg]<;>omega);rw[kr,<-hlen];refine⟨.ref s.heap.objs.size,_,I.laid (t':=s.toks) (o:=.lst (kj xs lo hi)) (fun b ob q=>Heap.get?_push_of_some _ q) (x8 _) ?_,rfl,q _ (I.hok.fresh (x8 _))⟩;exact⟨yR (i3 xs lo hi) hz,_,0,(r.drop (HT.sIx xs.length 0 lo)).take (HT.sIx xs.length xs.length hi-HT.sIx xs.length 0 lo),Heap.get?_push_size _ rfl⟩
def gM:V->Bool
 | .non=>true
 | .bl _=>true
 | .int _=>true
 | .str _=>true
 | _=>false
def p7:V->V->Bool
 | .non,.non=>true
 | .bl a,.bl b=>a == b
 | .bl a,.int b=>(if a then 1 else 0) == b
 | .int a,.bl b=>a == (if b then 1 else 0)
 | .int a,.int b=>a == b
 | .str a,.str b=>a == b
 | _,_=>false
theorem ui {A:Around}{s:Shared}{y x:V}{u v:Value}(ry:be y u)(rx:be x v)(fy:gM y=true)(fx:gM x=true):SeqAt.EqAt A s u v (p7 y x):=by
 cases y with
 | non =>
  cases ry
  cases x with
  | non=>cases rx;exact SeqAt.EqAt.same _
  | bl b=>cases rx;exact SeqAt.EqAt.none_bool b
  | int b=>obtain⟨t,rfl⟩:=rx;exact SeqAt.EqAt.none_int b t
  | str b=>obtain⟨t,rfl⟩:=rx;exact SeqAt.EqAt.none_str b t
  | _=>exact absurd (show false=true from fx) ye
 | bl a =>
  cases ry
  cases x with
  | non=>cases rx;exact SeqAt.EqAt.bool_none a
  | bl b=>cases rx;exact SeqAt.EqAt.bool_bool a b
  | int b=>obtain⟨t,rfl⟩:=rx;exact SeqAt.EqAt.bool_int a b t
  | str b=>obtain⟨t,rfl⟩:=rx;exact SeqAt.EqAt.bool_str a b t
  | _=>exact absurd (show false=true from fx) ye
 | int a =>
  obtain⟨t',rfl⟩:=ry
  cases x with
  | non=>cases rx;exact SeqAt.EqAt.int_none a t'
  | bl b=>cases rx;exact SeqAt.EqAt.int_bool a t' b
  | int b=>obtain⟨t,rfl⟩:=rx;exact SeqAt.EqAt.int_int a t' b t
  | str b=>obtain⟨t,rfl⟩:=rx;exact SeqAt.EqAt.int_str a t' b t
  | _=>exact absurd (show false=true from fx) ye
 | str a =>
  obtain⟨t',rfl⟩:=ry
  cases x with
  | non=>cases rx;exact SeqAt.EqAt.str_none a t'
  | bl b=>cases rx;exact SeqAt.EqAt.str_bool a t' b
  | int b=>obtain⟨t,rfl⟩:=rx;exact SeqAt.EqAt.str_int a t' b t
  | str b=>obtain⟨t,rfl⟩:=rx;exact SeqAt.EqAt.str_str a t' b t
  | _=>exact absurd (show false=true from fx) ye
 | _=>exact absurd (show false=true from fy) ye
def rT (x:V)(u:Value):Bool:=match u with
 | .none=>p7 .non x
 | .bool b=>p7 (.bl b) x
 | .int i _=>p7 (.int i) x
 | .str z _=>p7 (.str z) x
 | _=>false
theorem qq {x y:V}{u:Value}(r:be y u)(f:gM y=true):rT x u=p7 y x:=by
 cases y with
 | non=>cases r;rfl
 | bl b=>cases r;rfl
 | int i=>obtain⟨t,rfl⟩:=r;rfl
 | str z=>obtain⟨t,rfl⟩:=r;rfl
 | _=>exact absurd (show false=true from f) ye
theorem kU {x:V}:∀ {xs:List V}{us:List Value},aR xs us->xs.all gM=true->us.any (rT x)=xs.any fun y=>p7 y x
 | _,_,.nil,_=>rfl
 | y::xs,u::us,.cons r t,f=>by
  rw[List.all_cons,yG]at f;rw[List.any_cons,List.any_cons,qq r f.1,kU t f.2]
theorem jO {A:Around}{s:Shared}{x:V}{v:Value}(rx:be x v)(fx:gM x=true):∀ {xs:List V}{us:List Value},aR xs us->xs.all gM=true->∀ u∈us,SeqAt.EqAt A s u v (rT x u)
 | _,_,.nil,_=>fun u hu=>by cases hu
 | y::xs,u::us,.cons r t,f=>fun u' hu=>by
  rw[List.all_cons,yG]at f;rcases yh.mp hu with rfl | hu
  ·rw[qq r f.1];exact ui r rx f.1 fx
  ·exact jO rx fx t f.2 u' hu
def nE (x:V)(xs:List V):Bool:=xs.any fun y=>p7 y x
inductive xG (K:PySem.W.Frag) (neg:Bool) (x:V) (y:V) (H:Hp) (Q:VK):Prop
 | mk (p:Addr) (xs:List V) (h_0:y=.ref p) (h_1:(bC K H p xs\/bw K H p xs)) (h_2:gM x=true) (h_3:xs.all gM=true) (h_4:Q (.bl (if neg then !nE x xs else nE x xs)) H):xG K neg x y H Q
theorem dA:gq X (compareOp .In) (xG X.K false):=by
 intro pins s σ H x y v u Q I rx ry h;obtain⟨p,xs,rfl,hq,fx,fs,q⟩:=h;cases ry;rcases hq with hq | hq
 ·obtain⟨its,r,pl,hz⟩:=I.list hq
  refine SeqAt.in_listAt (rT x) pl.isList (fun w hw=>jO rx fx r fs w (by simpa using hw)) ⟨.bl _,H,I,rfl,?_⟩;rw[show its.toArray.any (rT x)=its.any (rT x) by simp,kU r fs];exact q
 ·obtain⟨its,r,pl,hz⟩:=I.tuple hq
  refine SeqAt.in_tupleAt (rT x) pl (fun w hw=>jO rx fx r fs w (by simpa using hw)) ⟨.bl _,H,I,rfl,?_⟩;rw[show its.toArray.any (rT x)=its.any (rT x) by simp,kU r fs];exact q
theorem aS:ec X (.builtin "len") (fun xs H Q=>∃ p ys,xs=[.ref p]/\(bC X.K H p ys\/bw X.K H p ys)/\Q (.int ys.length) H):=by
 intro pins s σ H xs us Q I r h;obtain⟨p,ys,rfl,hq,q⟩:=h;obtain⟨u,rfl,rx⟩:=fi r;cases rx;have hn:=iA;rcases hq with hq | hq
 ·obtain⟨its,r',pl,hz⟩:=I.list hq
  have hlen:=r'.length;exact Calls.call_len_list pl.isList (by simp only[yg]<;>omega) ⟨.int ys.length,H,I.tok _,⟨s.toks+1,by rw[yg,hlen]⟩,q⟩
 ·obtain⟨its,r',pl,hz⟩:=I.tuple hq
  have hlen:=r'.length;exact len_tuple pl (by simp only[yg]<;>omega) ⟨.int ys.length,H,I.tok _,⟨s.toks+1,by rw[yg,hlen]⟩,q⟩
theorem bS:ec X (.builtin "len") (fun xs H Q=>∃ z,xs=[.str z]/\z.length<=sizeLine/\Q (.int z.length) H):=by
 intro pins s σ H xs us Q I r h;obtain⟨z,rfl,hz,q⟩:=h;obtain⟨u,rfl,t,rfl⟩:=fi r;have hn:=iA;exact len_str (by omega) ⟨.int z.length,H,I.tok _,⟨_,rfl⟩,q⟩
theorem gL:ec X (.type "list") (fun xs H Q=>∃ p ys,xs=[.ref p]/\(bC X.K H p ys\/bw X.K H p ys)/\∀ l,H l=none->Q (.ref l) (bE H l (.lst ys))):=by
 intro pins s σ H xs us Q I r h;obtain⟨p,ys,rfl,hq,q⟩:=h;obtain⟨u,rfl,rx⟩:=fi r;cases rx
 have fin:∀ (its:List Value),aR ys its->ys.length<=sizeLine->∀ (h':Heap)(c':Nat),(∀ b o',s.heap.get? b=some o'->h'.get? b=some o') ->
   h'.get? s.heap.objs.size=some { cls:=.type "list",dict:=none,data:=.seq its.toArray c',slots:=#[] }->EP X pins σ Q (.ref s.heap.objs.size) { s with heap:=h' }:=fun its r' hz h' c' kp e =>
  ⟨.ref s.heap.objs.size,_,I.laid (t':=s.toks) kp (x8 _) (show cr X.prog X.w _ h' _ (.lst ys) from ⟨hz,its,c',r',e⟩),rfl,q _ (I.hok.fresh (x8 _))⟩
 rcases hq with hq | hq
 ·obtain⟨its,r',pl,hz⟩:=I.list hq
  have hlen:=r'.length;obtain⟨o,ho,hc,n,hd⟩:=pl.isList;exact call_list_seq p (.inl rfl) ho hc hd (fun h' c' kp e=>fin its r' hz h' c' kp e) (by simp only[yg]<;>omega)
 ·obtain⟨its,r',pl,hz⟩:=I.tuple hq
  have hlen:=r'.length;obtain⟨o,ho,hc,n,hd⟩:=pl;exact call_list_seq p (.inr rfl) ho hc hd (fun h' c' kp e=>fin its r' hz h' c' kp e) (by simp only[yg]<;>omega)
theorem cA:ec X (.type "tuple") (fun xs H Q=>∃ p ys,xs=[.ref p]/\((bC X.K H p ys/\∀ l,H l=none->Q (.ref l) (bE H l (.tup ys)))\/(bw X.K H p ys/\Q (.ref p) H))):=by
 intro pins s σ H xs us Q I r h;obtain⟨p,ys,rfl,h⟩:=h;obtain⟨u,rfl,rx⟩:=fi r;cases rx;rcases h with ⟨hq,q⟩ | ⟨hq,q⟩
 ·obtain⟨its,r',pl,hz⟩:=I.list hq
  have hlen:=r'.length;refine call_tuple_list pl.isList (fun h' kp=>?_) (by simp only[yg]<;>omega);have I1:aF X pins σ H { s with heap:=h' }:=I.kept (t':=s.toks) kp
  have I2:aF X pins σ (bE H h'.objs.size (.tup ys)) { s with heap:=h'.push { cls:=.type "tuple",data:=.seq its.toArray } } :=
   I1.laid (t':=s.toks) (fun b o e=>Heap.get?_push_of_some _ e) (x8 _) (show cr X.prog X.w _ _ _ (.tup ys) from ⟨hz,its,r',gp.new _ _⟩)
  exact⟨.ref h'.objs.size,_,I2,rfl,q _ (I1.hok.fresh (x8 _))⟩
 ·obtain⟨its,r',pl,hz⟩:=I.tuple hq
  exact call_tuple_same pl ⟨.ref p,H,I,rfl,q⟩
def wC (K:PySem.W.Frag)(T:String)(x:V)(H:Hp):Prop:=match x with
 | .str _=>T="str"
 | .int _=>T="int"
 | .ref p=>(T="list"/\∃ xs,bC K H p xs)\/(T="tuple"/\∃ o,K.lookup p=some o/\o.cls=.type "tuple"/\o.dict=none) \/
   (T="dict"/\((∃ kvs,H p=some (.dK kvs))\/∃ kvs,H p=some (.dT kvs)))\/(T="set"/\∃ S n,H p=some (.set S n))
 | _=>False
theorem rD {pins:List (Addr×Obj)}{σ:St}{H:Hp}{s:Shared}{T:String}{x:V}{v:Value}(I:aF X pins σ H s)(r:be x v)(ty:wC X.K T x H) :
  s.TypeIs v T/\∀ a,v=.ref a->∃ ob,s.heap.get? a=some ob/\ob.dict=none:=by
 cases x with
 | str z =>
  obtain⟨t,rfl⟩:=r;cases (show T="str" from ty);exact⟨typeIs_str s z t,fun _ e=>nomatch e⟩
 | int i =>
  obtain⟨t,rfl⟩:=r;cases (show T="int" from ty);exact⟨typeIs_int s i t,fun _ e=>nomatch e⟩
 | ref p =>
  cases r;rcases ty with ⟨rfl,xs,hq⟩ | ⟨rfl,o,hk,hc,hd⟩ | ⟨rfl,hk⟩ | ⟨rfl,S,n,hk⟩
  ·obtain⟨its,_,pl,_⟩:=I.list hq
   refine⟨pl.isList.typeIs,fun a e=>?_⟩;cases e;obtain⟨o,n,e,c,hd,_⟩:=pl;exact⟨o,e,hd⟩
  ·refine⟨⟨o,I.kIn p o hk,hc⟩,fun a e=>?_⟩
   cases e;exact⟨o,I.kIn _ o hk,hd⟩
  ·have z:∃ o,s.heap.get? p=some o/\o.ExactDict:=by
    rcases hk with ⟨kvs,hk⟩ | ⟨kvs,hk⟩
    ·obtain⟨_,_,_,_,o,_,_,e,ex,_⟩:=I.hok p _ hk
     exact⟨o,e,ex⟩
    ·obtain⟨_,_,_,_,o,_,_,e,ex,_⟩:=I.hok p _ hk
     exact⟨o,e,ex⟩
   obtain⟨o,e,ex⟩:=z;refine⟨⟨o,e,ex.1⟩,fun a e2=>?_⟩;cases e2;exact⟨o,e,ex.2.1⟩
  ·obtain⟨o,_,_,_,e,ex,_⟩:=I.hok p _ hk
   refine⟨⟨o,e,ex.1⟩,fun a e2=>?_⟩;cases e2;exact⟨o,e,ex.2.1⟩
 | _=>exact False.elim ty
def xk (K:PySem.W.Frag)(T:String)(r:V->List V->Hp->VK->Prop)(to:TE):TE:=fun σ H Q=>to σ H fun x H1=>wC K T x H1/\r x [] H1 Q
def xH (K:PySem.W.Frag)(T:String)(r:V->List V->Hp->VK->Prop)(to:TE)(t:TA):TE:=fun σ H Q=>to σ H fun x H1=>wC K T x H1/\t σ H1 fun xs H2=>r x xs H2 Q
variable {o e:Expr}{es:List Expr}{to:TE}{t:TA}{name:Str}{apos cpos:Pos}{T id:String}{r:V->List V->Hp->VK->Prop}
theorem uL (pa:PlainAttrs T)(slot:Slot T name id)(hty:typeOf (.builtin id)=pure (.type "method_descriptor"))(hm:wI X id r)(ho:PE X o to)
  (hbase:attributeBase o name X.env (eval o X.env)=eval o X.env:=by rfl) (hline:(apos.endLine == cpos.line)=true:=by rfl):PE X (.Call (.Attribute o name apos) [] [] cpos) (xk X.K T r to):=by
 intro pins s σ H Q I h;refine wpAny_Call_method0_late hbase hline (bK (ho pins s σ H _ I h) fun v s1 ⟨x,H1,I1,r1,ty,q1⟩=>?_);obtain⟨h1,h2⟩:=rD I1 r1 ty;exact⟨T,id,pa,slot,hty,h1,h2,Calls.callWith_builtin rfl (PySem.evalArgs_none (hm pins s1 σ H1 x [] v [] Q I1 r1 .nil q1))⟩
theorem ek (pa:PlainAttrs T)(slot:Slot T name id)(hty:typeOf (.builtin id)=pure (.type "method_descriptor"))(hm:wI X id r)(ho:PE X o to)(ha:PA X (e::es) t)
  (hbase:attributeBase o name X.env (eval o X.env)=eval o X.env:=by rfl)
  (hfew:((backTo cpos (starEach (e::es) X.env)).all (fun x=>!x.1)&&(backToKw cpos (keywordEach [] X.env)).all (fun x=>x.1.isSome)
   && decide ((e::es).length+([]:List Keyword).length+(if ([]:List Keyword).isEmpty then 0 else 1)<30))=true:=by rfl)
  (hline:(apos.endLine == cpos.line)=true:=by rfl) (hs:starEach (e::es) X.env=(false,eval e X.env)::starEach es X.env:=by rfl) (hplain:(backTo cpos (starEach es X.env)).any (·.1)=false:=by rfl) :
  PE X (.Call (.Attribute o name apos) (e::es) [] cpos) (xH X.K T r to t):=by
 intro pins s σ H Q I h;refine wpAny_Call_method_late hbase hfew hline rfl (bK (ho pins s σ H _ I h) fun v s1 ⟨x,H1,I1,r1,ty,q1⟩=>?_);obtain⟨h1,h2⟩:=rD I1 r1 ty;refine⟨T,id,pa,slot,hty,h1,h2,?_⟩;have hA:=ha cpos pins s1 σ H1 _ I1 q1;rw[hs]at hA ⊢;refine Calls.callWith_builtin (by show (false||(backTo cpos (starEach es X.env)).any (·.1))=false;rw[hplain]<;>rfl) (Calls.evalArgs_plain ?_);exact bK hA fun us s2 ⟨vs,H2,I2,r2,q2⟩=>hm pins s2 σ H2 x vs v us Q I2 r1 r2 q2
end
def xx (X:Cx)(id:String)(r:V->List V->Hp->VK->Prop):Prop :=
 ∀ (pins:List (Addr×Obj))(s:Shared)(σ:St)(H:Hp)(x:V)(xs:List V)(v:Value)(us:List Value)(Q:VK),aF X pins σ H s->be x v->aR xs us->r x xs H Q ->
  wpAny (model X.prog X.w) X.A (call (.builtin id) (v::us)) (EP X pins σ Q) X.xe s
theorem aR.one:∀ {x:V}{us:List Value},aR [x] us->∃ u,us=[u]/\be x u
 | _,_,.cons r .nil=>⟨_,rfl,r⟩
theorem aR.zero:∀ {us:List Value},aR [] us->us=[]
 | _,.nil=>rfl
theorem aR.dropLast {xs:List V}{us:List Value}(h:aR xs us):aR xs.dropLast us.dropLast:=by
 induction h with
 | nil=>exact .nil
 | cons r t ih =>
  cases t with
  | nil=>exact .nil
  | cons q t'=>exact .cons r ih
theorem aR.rep {xs:List V}{us:List Value}(h:aR xs us):∀ k:Nat,aR (List.replicate k xs).flatten (List.replicate k us).flatten
 | 0=>.nil
 | k+1=>by
  rw[yP,yP,y1,y1];exact aR.append h (aR.rep h k)
theorem nK {α:Type}(l:List α):l.eraseIdx (l.length-1)=l.dropLast:=by
 induction l with
 | nil=>rfl
 | cons a r ih =>
  cases r with
  | nil=>rfl
  | cons b r =>
   have e:(a::b::r).length-1=((b::r).length-1)+1:=by
    have h1:(a::b::r).length=r.length+2:=rfl;have h2:(b::r).length=r.length+1:=rfl;omega
   rw[e,List.eraseIdx_cons_succ,ih]
   all_goals rfl
theorem kG (its:List Value):∀ (k:Nat)(acc:List Value),
  List.foldl (fun x1 x2=>x1++x2) acc.toArray (List.replicate k its.toArray)=(acc++(List.replicate k its).flatten).toArray
 | 0,acc=>by simp
 | k+1,acc=>by
  have e:acc.toArray++its.toArray=(acc++its).toArray:=by simp
  have e2:(acc++its)++(List.replicate k its).flatten=acc++(List.replicate (k+1) its).flatten:=by
   rw[yP,y1,y7]
  rw[<-e2,<-kG its k (acc++its),<-e,yP,List.foldl_cons]
section
variable {X:Cx}{pins:List (Addr×Obj)}{σ:St}{H:Hp}{s:Shared}{l b:Addr}{xs ys zs:List V}
theorem aF.lset {its its':List Value}{n:Nat}{f:Array Value->Array Value}{t':Nat}(I:aF X pins σ H s)(hH:H l=some (.lst xs))
  (e:s.heap.get? l=some { cls:=.type "list",data:=.seq its.toArray n }) (hf:f its.toArray=its'.toArray) (hv:aR ys its') (hz:ys.length<=sizeLine) :
  aF X pins σ (bE H l (.lst ys)) { s with heap:=s.heap.update l (Obj.mapSeq f),toks:=t' }:=by
 have q:=PySem.IsL.update e f;rw[hf]at q;refine I.write (x:=l) (e:=l) (by rw[hH];exact trivial) (.inl rfl) (fun b' u hb hu=>(Heap.get?_update_other s.heap (Obj.mapSeq f) (zk hb)).trans hu) ⟨_,q⟩ ?_;exact⟨hz,its',_,hv,q⟩
theorem aF.lnew {its:List Value}{t':Nat}(I:aF X pins σ H s)(hv:aR ys its)(hz:ys.length<=sizeLine) :
  aF X pins σ (bE H s.heap.objs.size (.lst ys)) { s with heap:=s.heap.push { cls:=.type "list",data:=.seq its.toArray },toks:=t' } :=
 I.laid (fun _ _ q=>Heap.get?_push_of_some _ q) (x8 _) ⟨hz,its,0,hv,Heap.get?_push_size _ rfl⟩
theorem aF.fresh (I:aF X pins σ H s):H s.heap.objs.size=none:=I.hok.fresh (x8 _)
theorem aF.lstM (I:aF X pins σ H s)(hH:H l=some (.lst xs)):xs.length<=sizeLine/\∃ (its:List Value)(n:Nat),aR xs its/\xs.length=its.length/\s.heap.get? l=some { cls:=.type "list",data:=.seq its.toArray n }:=by
 obtain⟨z,its,n,r,e⟩:=I.hok l _ hH;exact⟨z,its,n,r,r.length,e⟩
theorem qG {n:Nat}(h:n<=sizeLine):Builtin.List.listTooLong n=false:=by
 unfold Builtin.List.listTooLong;exact x6 (by omega)
end
section
variable {X:Cx}
inductive lR (x:V) (vs:List V) (H:Hp) (Q:VK):Prop
 | mk (l:Addr) (xs:List V) (y:V) (h_0:x=.ref l) (h_1:vs=[y]) (h_2:H l=some (.lst xs)) (h_3:xs.length<sizeLine) (h_4:Q .non (bE H l (.lst (xs++[y])))):lR x vs H Q
theorem bD:xx X "list.append" lR:=by
 intro pins s σ H x vs v us Q I rx rv h;obtain⟨l,xs,y,rfl,rfl,hH,hz,q⟩:=h;cases rx;obtain⟨u,rfl,ru⟩:=rv.one;obtain⟨z,its,n,r,hl,e⟩:=I.lstM hH;refine call_meets F.slot_list_append ⟨_,e,rfl⟩ F.entry_list_append (F.args_list_append_2 _ _) (PySem.list_append l its.toArray n u (by rw[yg];omega)) ⟨e,?_⟩;refine⟨.non,_,I.lset (its':=its++[u]) hH e (by simp) (r.append (.cons ru .nil)) ?_,rfl,q⟩;rw[yb,yF];omega
inductive vR (x:V) (vs:List V) (H:Hp) (Q:VK):Prop
 | mk (l:Addr) (xs:List V) (y:V) (h_0:x=.ref l) (h_1:vs=[]) (h_2:H l=some (.lst xs)) (h_3:xs[xs.length-1]? = some y) (h_4:Q y (bE H l (.lst xs.dropLast))):vR x vs H Q
theorem uC:xx X "list.pop" vR:=by
 intro pins s σ H x vs v us Q I rx rv h;obtain⟨l,xs,y,rfl,rfl,hH,hy,q⟩:=h;cases rx;have hus:=rv.zero;subst hus;obtain⟨z,its,n,r,hl,e⟩:=I.lstM hH;obtain⟨u,hu,ru⟩:=r.get hy
 have hy':its.toArray[its.toArray.size-1]? = some u:=by
  show its.toArray[its.length-1]? = some u
  rw[<-Array.getElem?_toList,<-hl];exact hu
 refine call_meets F.slot_list_pop ⟨_,e,rfl⟩ F.entry_list_pop (F.args_list_pop_1 _) (MeetsSeq.list_pop_last l its.toArray n u hy' (by rw[yg];omega)) ⟨e,?_⟩;refine⟨y,_,I.lset (its':=its.dropLast) hH e ?_ r.dropLast ?_,ru,q⟩
 ·show its.toArray.eraseIdxIfInBounds (its.toArray.size-1)=its.dropLast.toArray
  rw[yg,List.eraseIdxIfInBounds_toArray,nK]
 ·rw[List.length_dropLast]
  omega
inductive sC (x:V) (y:V) (H:Hp) (Q:VK):Prop
 | mk (l b:Addr) (xs zs:List V) (h_0:x=.ref l) (h_1:y=.ref b) (h_2:H l=some (.lst xs)) (h_3:H b=some (.lst zs)) (h_4:xs.length+zs.length<=sizeLine) (h_5:∀ p,H p=none->Q (.ref p) (bE H p (.lst (xs++zs)))):sC x y H Q
theorem uH:gq X (binaryOp .Add) sC:=by
 intro pins s σ H x y v u Q I rx ry h;obtain⟨l,b,xs,zs,rfl,rfl,hH,hB,hz,q⟩:=h;cases rx;cases ry;obtain⟨z,its,n,r,hl,e⟩:=I.lstM hH;obtain⟨z2,its2,n2,r2,hl2,e2⟩:=I.lstM hB;refine PySem.P.add_list e e2 ?_ (by rw[yg,yg];omega)
 have ea:its.toArray++its2.toArray=(its++its2).toArray:=by simp
 rw[ea];exact⟨.ref _,_,I.lnew (t':=s.toks) (r.append r2) (by rw[yb];omega),rfl,q _ I.fresh⟩
def xg:R2:=fun x y H Q=>∃ l k xs,x=.ref l/\y=.int k/\H l=some (.lst xs)/\-(2 ^ 63)<=k/\k<2 ^ 63/\xs.length*k.toNat<=sizeLine /\
 ∀ p,H p=none->Q (.ref p) (bE H p (.lst (List.replicate k.toNat xs).flatten))
theorem si {α:Type}(xs:List α)(k:Nat):(List.replicate k xs).flatten.length=k*xs.length:=by
 induction k with
 | zero=>simp
 | succ k ih=>rw[yP,y1,yb,ih,Nat.succ_mul,Nat.add_comm]
theorem uI:gq X (binaryOp .Mult) xg:=by
 intro pins s σ H x y v u Q I rx ry h;obtain⟨l,k,xs,rfl,rfl,hH,h1,h2,hz,q⟩:=h;cases rx;obtain⟨t,rfl⟩:=ry;obtain⟨z,its,n,r,hl,e⟩:=I.lstM hH
 have hlen:its.toArray.size*k.toNat<=sizeLine:=by rw[yg,<-hl];exact hz
 have hcap:¬ its.toArray.size*k.toNat>(2 ^ 63-1)/8:=by
  have:(sizeLine:Nat)<=(2 ^ 63-1)/8:=by decide
  omega
 have hfit:¬ (!Builtin.List.listFitsIndex k)=true:=by
  rw[fitsIndex_both h1 h2];exact ye
 have hlong:¬ Builtin.List.listTooLong (its.toArray.size*k.toNat)=true:=by
  rw[qG hlen];exact ye
 have hnew:List.foldl (fun x1 x2=>x1++x2) #[] (List.replicate (if its.toArray.isEmpty=true then 0 else k.toNat) its.toArray)=(List.replicate k.toNat its).flatten.toArray:=by
  have f0:∀ m:Nat,List.foldl (fun x1 x2=>x1++x2) #[] (List.replicate m its.toArray)=(List.replicate m its).flatten.toArray:=fun m=>by
   have:=kG its m [];rw[List.nil_append]at this;exact this
  rw[f0]
  cases its with
  | nil=>simp
  | cons a r'=>rw[yf (by simp)]
 refine wpAny_binaryOp_repeat_ref (T:="list") (U:="int") (by decide) ⟨_,e,rfl⟩ (fun s'=>typeIs_int s' k t) noFill_list_mul F.fills_int_mul F.slot_int_rmul repeat_list F.slot_int_index.lookup
  (call_meets F.slot_int_rmul (typeIs_int s k t) F.entry_int_rmul (F.args_int_rmul_2 _ _) (int___rmul___int_list k t l its.toArray n)
   ⟨e,rfl,⟨_,e,rfl⟩,call_meets F.slot_list_mul ⟨_,e,rfl⟩ F.entry_list_mul (F.args_list_mul_2 _ _) (AutoListH.list___mul___list_int_3 l its.toArray n k t hfit hcap hlong) ⟨e,?_⟩⟩)
 rw[hnew];exact⟨.ref _,_,I.lnew (t':=s.toks) (r.rep k.toNat) (by rw[si,Nat.mul_comm];exact hz),rfl,q _ I.fresh⟩
end
def vo (i:Expr):Prop:=∀ ov iv,subscripted i false ov iv=operate [ov,iv] (getItem ov iv)
theorem sI {prog:Program}{w:World}{A:Around}{E:Value->Shared->Prop}{s:Shared}{env:Env}{value slice:Expr}{pos:Pos}{T id:String}{Q:Value->Shared->Prop}
  (hl:typeLookup (.type T) "__getitem__" = pure (some (.builtin id))) (hs:vo slice)
  (h:wpAny (model prog w) A (eval value env) (fun o s₁=>wpAny (model prog w) A (eval slice env) (fun i s₂=>s₂.TypeIs o T/\wpAny (model prog w) A (getItem o i) Q E s₂) E s₁) E s) :
  wpAny (model prog w) A (eval (.Subscript value slice pos) env) Q E s:=by
 refine Subscript_ (y4 h (fun o s₁ h₁=>y4 h₁ (fun i s₂ h₂=>?_) fun _ _ x=>x) fun _ _ x=>x);obtain⟨hT,h₂⟩:=h₂;unfold subscriptTail;refine x9 ?_;rw[getitemInPython_of_ne hT.not_modules];refine x9 (wpAny_specialOf hT hl ?_)
 have fin:wpAny (model prog w) A (subscripted slice false o i) (fun r s₃=>wpAny (model prog w) A (letTemporaryGo value o r >>= fun _=>pure r) Q E s₃) E s₂:=by
  rw[hs o i];exact wpAny_operating (y4 h₂ (fun r s₃ h₃=>x9 (wpAny_letTemporaryGo (yj h₃))) fun _ _ x=>x)
 first
  | exact yj (x9 fin)
  | exact x9 (yj (x9 fin))
  | exact x9 fin
end L2
namespace Att
open PySem PySem.W PySem.Calls PyProof.Rows
theorem jf {P:Params}{h:Heap}:∀ (ns:List Int)(vs:List Value),WellAll P h vs (ns.map WData.int)->IntsAre vs ns:=by
 intro ns
 induction ns with
 | nil =>
  intro vs w;rw[List.map_nil]at w;cases w;exact .nil
 | cons n ns ih =>
  intro vs w;rw[yD]at w
  cases w with
  | cons a b =>
   cases a;exact .cons _ _ (ih _ b)
theorem pS {l:OpenLaw}{n:Nat}(hn:l.most=some n){P:Params}{h:Heap}{args:List WData}{vals:List Value}
  (hpre:l.row.toRowW.claim.pre args=true) (hwl:WellAll P h vals args) :
  ∃ a vs ns,vals=[Value.ref a]/\args=[WData.list (ns.map WData.int)]/\h.get? a=some { cls:=.type "list",data:=.seq vs.toArray }/\IntsAre vs ns/\ns.length<=n:=by
 have hsh:WShape.hasAll [] args [.list .int]=true:=(pre_splitW hpre).1;have hc:l.pre.holds [] { args:=args }=true:=(pre_splitW hpre).2;obtain⟨d,r,rfl,h1,h2⟩:=hasAllW_cons hsh;obtain rfl:=hasAllW_nil h2;obtain⟨xs,rfl,h3⟩:=hasW_list h1;obtain⟨ns,rfl⟩:=items_int h3
 have hlen:ns.length<=n:=by
  unfold OpenLaw.pre at hc
  have h4:(WTm.not (.lt (.lit (.int (n:Int))) (.len (.arg 0)))).holds [] { args:=[.list (ns.map .int)] }=true:=by
   have h4:=(holds_andW hc).1;rw[hn]at h4;exact h4
  have h5:=condW_of h4 (w_not (w_lt w_lit (w_len_list (w_arg rfl))));rw[x4]at h5;refine Nat.le_of_not_lt fun q=>?_
  have q':(n:Int)<((ns.length:Nat):Int):=by omega
  first
   | (rw[x5 q']at h5;exact absurd h5 (by decide))
   | (simp at h5;omega)
 cases hwl with
 | cons w1 w2 =>
  cases w2
  cases w1 with
  | list ho hall=>exact⟨_,_,ns,rfl,rfl,ho,jf ns _ hall,hlen⟩
theorem pP (l:OpenLaw)(args:List WData):l.row.toRowW.claim.post args (.bool true) args=true :=
 postW_of (r:=l.row.toRowW) (X:=(true == true))
  (show WShape.has [] (.bool true) .bool=true by first | rfl | decide | simp[WShape.has,WShape.arms,WShape.armsAll])
  (show (WTm.eq .res (.lit (.bool true))).value [] { args:=args,res:=some (.bool true),after:=args }=some (.bool (true == true)) from w_eq_bool (w_res rfl) w_lit) rfl
theorem attach_call {l:OpenLaw}{n:Nat}{q:Program}{loose:List Str}{XP:(Str->Option Value)->Heap->Prop}{YP:World->Heap->Prop}{d:DefRec}
  (hn:l.most=some n) (hdf:d.params.defaults=[])
  (call:∀ (w:World)(s₀ s₁:Shared)(mg mb:Str->Option Value)(fa:Addr)(o:Obj)(pm cd doc:Value)(a:Addr)(vs:List Value)(ns:List Int),
   Ground q loose [] XP w s₀ mg mb s₁.heap->YP w s₁.heap ->
   s₁.heap.get? fa=some o->o.data=.func (docDef d.name d.params d.body d.scope pm cd doc)->s₁.heap.CodeRec cd d.name->mg d.name=some (.ref fa) ->
   s₁.heap.get? a=some { cls:=.type "list",data:=.seq vs.toArray }->IntsAre vs ns->ns.length<=n->s₁.gens = #[] ->
   codeAny (model l.prog w) callerA (.call (.ref fa) ⟨[.ref a],[]⟩) (fun r s'=>r=.ok (.ret (.bool true))/\OldK s₁.heap s'.heap/\s'.os=s₁.os/\AllBare s'.gens) s₁) :
  WalkO q loose XP YP l.row.toRowW d [] (fun f vs=>PySem.call f vs):=by
 intro w s₀ s₁ mg mb G Y fa o pm cd doc dV kV ho hd hcd hD hmg hg args vals as hpre hlay hrd hwl hlo;obtain rfl:dV=.none:=Dflts.none hD hdf;obtain rfl:kV=.none:=Dflts.noKw hD;obtain⟨a,vs,ns,rfl,rfl,hobj,hints,hlen⟩:=pS hn hpre hwl;refine enter_call (zw (call w s₀ s₁ mg mb fa o pm cd doc a vs ns G Y ho (fd_plain hd) hcd hmg hobj hints hlen hg) fun r s' hq=>?_);obtain⟨rfl,h2,h3,h4⟩:=hq;exact⟨.inl ⟨.bool true,.bool true,[],rfl,fun _=>rfl,.bool true,pP l _,fun _=>⟨List.Pairwise.nil,fun _ hm=>(nomatch hm)⟩⟩,h2,h3,h4⟩
section
variable {prog:Program}{w:World}{A:Around}{E:Value->Shared->Prop}{s:Shared}{K:Frag}
def xa (h:Heap):Heap:={ h with objs:=#[] }
def w9 (h:Heap)(L d:Addr):List (Addr×Obj):=(List.range h.objs.size).filterMap fun a=>if a=L\/a=d then none else (h.get? a).map fun o=>(a,o)
end
end Att
namespace L2
open PySem PySem.Spec PyProof.Rows
theorem kO:∀ {vs:List Value}{ns:List Int},IntsAre vs ns->aR (ns.map V.int) vs
 | _,_,.nil=>.nil
 | _,_,.cons n t h=>.cons ⟨t,rfl⟩ (kO h)
def eH (s:Stmt):Arguments:=match s with
 | .FunctionDef _ a _ _ _ _ _ _ _ _=>a
 | _=>{ posonlyargs:=[],args:=[],vararg:=none,kwonlyargs:=[],kw_defaults:=[],kwarg:=none,defaults:=[] }
def cQ (s:Stmt):List Stmt:=match s with
 | .FunctionDef _ _ b _ _ _ _ _ _ _=>b
 | _=>[]
def aj (s:Stmt):Scope:=match s with
 | .FunctionDef _ _ _ _ _ _ sc _ _ _=>sc
 | _=>{ kind:=.function,names:=[],isGenerator:=false,isCoroutine:=false }
abbrev gE:ku:=fun _ _ _ _ _ _=>False
abbrev E0:XK:=fun _ _ _=>False
theorem sY {X:Cx}:eD gE X E0:=fun _ _ _ _ _ _ _ h=>h.elim
structure ee (K:PySem.W.Frag)(x qual:Str)(st:Stmt)(f:Addr)(fd:FuncData):Prop where
 ex:∃ (oc:Value)(od:Option Addr)(kV doc pm:Value)(an:Option Addr)(cdv ct:Value)(osl:Array (Option Value)),
  fd=PySem.W.fnOf x qual (eH st) (cQ st) (aj st) .none kV doc pm an cdv ct/\K.lookup f=some ⟨oc,od,.func fd,osl⟩/\PySem.W.codeIn K cdv qual=true
 kp:PySem.W.keepIn K (.ref f)=true
section
variable {P:Program}{w:World}{K:PySem.W.Frag}{mg:Str->Option Value}{base:Heap}
theorem ee.ok {x qual:Str}{st:Stmt}{f:Addr}{fd:FuncData}{N ps:List Str}{k:Nat}{sp:Sp}(F:ee K x qual st f fd)(S:aH N ps (aj st))(len:∀ vs H Q E,sp vs H Q E->vs.length=ps.length)
  (hbody:∀ (cdv:Value)(A:Around)(outer:List Env)(s:Shared)(H:Hp)(vs:List V)(Q:VK)(E:XK),cz k (A.deeper (envOfC qual (aj st) s.heap.objs.size f cdv))->sp vs H Q E ->
   ∃ t,mm (je gE P w K mg base N qual (aj st) f cdv A outer s H E).nox (cQ st) t/\t { nx:=fun _ H'=>Q .non H',rt:=Q } (gm N vs) H):bc P w K mg base gE (k+1) f fd ps sp:=by
 obtain⟨oc,od,kV,doc,pm,an,cdv,ct,osl,rfl,lk,hcd⟩:=F.ex;refine qr lk hcd S len fun A outer s H vs Q E hr hsp=>?_;obtain⟨t,h,q⟩:=hbody cdv A outer s H vs Q E hr hsp;exact⟨t,h.nox,q⟩
theorem ee.binds {x qual:Str}{st:Stmt}{f:Addr}{fd:FuncData}{ps:List Str}(F:ee K x qual st f fd)
  (h:∀ (kV doc pm:Value)(an:Option Addr)(cdv ct:Value)(us:List Value),us.length=ps.length->bindArgs (PySem.W.fnOf x qual (eH st) (cQ st) (aj st) .none kV doc pm an cdv ct) ⟨us,[]⟩=pure (ps.zip us)):fk K fd ps []:=by
 obtain⟨oc,od,kV,doc,pm,an,cdv,ct,osl,rfl,lk,hcd⟩:=F.ex;exact .all (h kV doc pm an cdv ct)
theorem uk {x qual:Str}{st:Stmt}{f:Addr}{oc:Value}{od an:Option Addr}{osl:Array (Option Value)}{kV doc pm cdv ct:Value}(l:K.lookup f=some ⟨oc,od,.func (PySem.W.fnOf x qual (eH st) (cQ st) (aj st) .none kV doc pm an cdv ct),osl⟩)
  (c:PySem.W.codeIn K cdv qual=true) (k:PySem.W.keepIn K (.ref f)=true):ee K x qual st f (PySem.W.fnOf x qual (eH st) (cQ st) (aj st) .none kV doc pm an cdv ct):=⟨⟨oc,od,kV,doc,pm,an,cdv,ct,osl,rfl,l,c⟩,k⟩
end
theorem qu {A:Around}{k:Nat}(hr:cz k A):A.units+1<cLine:=Nat.lt_of_le_of_lt (Nat.add_le_add_left (by decide:1<=64) _) hr.units
theorem bZ {n:Nat}(h:n<=1000):n<sizeLine:=Nat.lt_of_le_of_lt h (by decide)
section
variable {X:Cx}
theorem pv (i:Nat){x:Str}{pos:Pos}(hN:X.N[i]? = some x:=by rfl)(hv:vt X.env.scope x:=by first | exact Or.inl rfl | exact Or.inr (Or.inl rfl) | exact Or.inr (Or.inr rfl))(hd:(x == ("__debug__" : Str))=false:=by decide)
  (hcd:(x == ("__classdict__" : Str))=false:=by decide):PE X (.Name x pos) (nv i):=qS hN hv hd hcd
end
theorem au {A B:Prop}(h:B):if false=true then A else B:=by
 rw[yf ye];exact h
theorem aI {A B:Prop}(h:A):if true=true then A else B:=by
 rw[ym rfl];exact h
theorem wX {c A B:Prop} [Decidable c] (h1:c->A)(h2:¬ c->B):if c then A else B:=by
 by_cases h:c
 ·rw[ym h]
  exact h1 h
 ·rw[yf h]
  exact h2 h
def aG (H H':Hp):Prop:=∀ b o,H b=some o->H' b=some o
theorem aG.refl (H:Hp):aG H H:=fun _ _ h=>h
theorem aG.trans {H H1 H2:Hp}(a:aG H H1)(b:aG H1 H2):aG H H2:=fun c o h=>b c o (a c o h)
theorem aG.free {H H':Hp}(e:aG H H'){l:Addr}(h:H' l=Option.none):H l=Option.none:=by
 cases q:H l with
 | none=>rfl
 | some o =>
  rw[e l o q]at h;cases h
end L2
set_option maxHeartbeats 4000000
namespace L2
open PySem PySem.Spec PyProof.Rows
structure p8 (so sc:Scope)(N N':List Str)(src:List (Option Nat)):Prop where
 kind:sc.kind=.function
 nocell:∀ y∈sc.names,y.2≠.cell
 loc:∀ y∈sc.names,y.2=.local->sc.names.lookup y.1=some .local
 fre:∀ y∈sc.names,y.2=.free->so.names.lookup y.1=some .cell\/so.names.lookup y.1=some .free
 nd:N'.Nodup
 len:src.length=N'.length
 cap:∀ p∈N'.zip src,(match p.2 with | none=>true | some j=>decide (N[j]? = some p.1/\sc.names.lookup p.1=some .free))=true
def ip (src:List (Option Nat))(σ:St):St:=src.map fun o=>o.bind fun j=>(σ[j]?).join
def jE (X:Cx)(sc:Scope)(cl:List (Str×Addr))(C:Addr)(N':List Str)(s:Shared)(H:Hp)(ex:List Addr):Cx where
 prog:=X.prog
 w:=X.w
 K:=X.K
 mg:=X.mg
 base:=X.base
 A:=X.A
 N:=N'
 s₀:=s
 H₀:=H
 env:=compEnvC sc cl C X.env
 outer:=X.stack
 stack:=X.stack
 ex:=ex
 fn:=fun _=>false
 calm:=X.calm
 pn:=[]
 xe:=fun _ _=>False
theorem eG {env:Env}:∀ (names:List (Str×NameKind))(cs:List (Str×Addr)),(∀ y∈names,y.2=.free->∃ c,env.cells.lookup y.1=some c) ->
  (∀ x c,cs.lookup x=some c->env.cells.lookup x=some c) ->
  ∃ cl:List (Str×Addr),(forIn names cs fun x r=>if (x.2 == NameKind.free)=true then (do let a <-cellOf env x.1;pure (ForInStep.yield ((x.1,a)::r))) else pure (ForInStep.yield r):Sem (List (Str×Addr)))=pure cl /\
   (∀ x c,cl.lookup x=some c->env.cells.lookup x=some c)/\(∀ x,(∃ c,cs.lookup x=some c)->∃ c,cl.lookup x=some c)/\∀ y∈names,y.2=.free->∃ c,cl.lookup y.1=some c
 | [],cs,_,h2=>⟨cs,by rw[List.forIn_nil],h2,fun _ h=>h,fun _ h=>nomatch h⟩
 | (n,k)::r,cs,h1,h2=>by
  by_cases hk:k=.free
  ·subst hk
   obtain⟨c,hc⟩:=h1 (n,.free) ya rfl
   have h2':∀ x d,((n,c)::cs).lookup x=some d->env.cells.lookup x=some d:=fun x d e=>by
    rw[yo]at e;split at e
    ·rename_i hx
     cases e
     have:x=n:=by simpa using hx
     rw[this];exact hc
    ·exact h2 x d e
   obtain⟨cl,e,q1,q2,q3⟩:=eG r ((n,c)::cs) (fun y hy=>h1 y (yc _ hy)) h2';have has:∃ d,((n,c)::cs).lookup n=some d:=⟨c,by simp⟩;refine⟨cl,?_,q1,fun x ⟨d,hd⟩=>q2 x ?_,fun y hy hf=>?_⟩
   ·rw[List.forIn_cons,<-e]
    simp[cellOf,hc]
   ·rw[yo]
    split
    ·exact⟨_,rfl⟩
    ·exact⟨d,hd⟩
   ·rcases yh.mp hy with rfl | hy
    ·exact q2 _ has
    ·exact q3 y hy hf
  ·obtain⟨cl,e,q1,q2,q3⟩:=eG r cs (fun y hy=>h1 y (yc _ hy)) h2
   have hb:(k == NameKind.free)=false:=by simpa using hk
   refine⟨cl,?_,q1,q2,fun y hy hf=>?_⟩
   ·rw[List.forIn_cons,<-e]
    simp[hb]
   ·rcases yh.mp hy with rfl | hy
    ·exact absurd hf hk
    ·exact q3 y hy hf
theorem nI {sc:Scope}{env:Env}(h:∀ y∈sc.names,y.2=.free->∃ c,env.cells.lookup y.1=some c) :
  ∃ cl:List (Str×Addr),closureFor sc env=pure cl/\(∀ x c,cl.lookup x=some c->env.cells.lookup x=some c)/\∀ y∈sc.names,y.2=.free->∃ c,cl.lookup y.1=some c:=by
 obtain⟨cl,e,q1,_,q3⟩:=eG sc.names [] h (fun x c z=>by simp at z);refine⟨cl,?_,q1,q3⟩;unfold closureFor
 show (forIn sc.names [] _ >>= fun cs=>pure cs)=_
 refine Eq.trans (zc (fun t=>t >>= fun cs=>pure cs) (Eq.trans ?_ e)) (by simp)
 congr 1
theorem gY {env:Env}:∀ {names:List (Str×NameKind)}{x:Str},(∀ y∈names,y.2≠.cell) ->
  ((names.map fun (n,k)=>if (k == NameKind.free&&env.scope.kind == .function&&env.kindOf n == some .cell) then (n,NameKind.cell) else (n,k)).lookup x=some .cell \/
    (names.map fun (n,k)=>if (k == NameKind.free&&env.scope.kind == .function&&env.kindOf n == some .cell) then (n,NameKind.cell) else (n,k)).lookup x=some .free)->(x,NameKind.free)∈names
 | [],_,_,h=>by simp at h
 | (n,k)::r,x,hc,h=>by
  have ih:=@gY env r x (fun y hy=>hc y (yc _ hy));have h:List.lookup x ((if (k == NameKind.free&&env.scope.kind == .function&&env.kindOf n == some .cell)=true then (n,NameKind.cell) else (n,k))::_)=some .cell\/List.lookup x ((if (k == NameKind.free&&env.scope.kind == .function&&env.kindOf n == some .cell)=true then (n,NameKind.cell) else (n,k))::_)=some .free:=h
  by_cases hb:(k == NameKind.free&&env.scope.kind == .function&&env.kindOf n == some .cell)=true
  ·rw[ym hb]at h
   cases hx:x == n with
   | true =>
    have e:x=n:=by simpa using hx
    subst e
    have:k=NameKind.free:=by
     simp only[yG,beq_iff_eq]at hb;exact hb.1.1
    subst this;exact ya
   | false =>
    simp only[yo,hx]at h;exact yc _ (ih h)
  ·rw[yf hb]at h
   cases hx:x == n with
   | true =>
    have e:x=n:=by simpa using hx
    subst e;have hk:=hc (x,k) ya;simp only[yo,beq_self_eq_true,Option.some.injEq]at h;rcases h with h | h
    ·exact absurd h hk
    ·subst h;exact ya
   | false =>
    simp only[yo,hx]at h;exact yc _ (ih h)
theorem gk {env:Env}:∀ {names:List (Str×NameKind)}{x:Str},names.lookup x=some .free ->
  ((names.map fun (n,k)=>if (k == NameKind.free&&env.scope.kind == .function&&env.kindOf n == some .cell) then (n,NameKind.cell) else (n,k)).lookup x=some .cell \/
    (names.map fun (n,k)=>if (k == NameKind.free&&env.scope.kind == .function&&env.kindOf n == some .cell) then (n,NameKind.cell) else (n,k)).lookup x=some .free)
 | [],_,h=>by simp at h
 | (n,k)::r,x,h=>by
  have ih:=@gk env r x
  show List.lookup x ((if (k == NameKind.free&&env.scope.kind == .function&&env.kindOf n == some .cell)=true then (n,NameKind.cell) else (n,k))::_)=some .cell\/List.lookup x ((if (k == NameKind.free&&env.scope.kind == .function&&env.kindOf n == some .cell)=true then (n,NameKind.cell) else (n,k))::_)=some .free
  cases hx:x == n with
  | true =>
   simp only[yo,hx,Option.some.injEq]at h;subst h
   by_cases hb:(NameKind.free == NameKind.free&&env.scope.kind == .function&&env.kindOf n == some .cell)=true
   ·rw[ym hb];left;simp only[yo,hx]
   ·rw[yf hb];right;simp only[yo,hx]
  | false =>
   simp only[yo,hx]at h
   by_cases hb:(k == NameKind.free&&env.scope.kind == .function&&env.kindOf n == some .cell)=true
   ·rw[ym hb];simp only[yo,hx];exact ih h
   ·rw[yf hb];simp only[yo,hx];exact ih h
theorem fC {prog:Program}{w:World}{A:Around}{R:Result->Shared->Prop}{s:Shared}{elt target iter:Expr}{ifs:List Expr}{scope:Scope}{pos:Pos}{it acc:Value}{env:Env}(I:Nat->Shared->Prop)
  (turn:∀ n s,I n s->wpAny (model prog w) A (pyNext it) (fun r s₁=>match r with
   | none=>R (.ok .next) s₁
   | some v=>wpAny (model prog w) A (letOwnedTupleGo target it v) (fun _ s₁'=>wpAny (model prog w) A (assign target env v) (fun _ s₂ =>
     wpAny (model prog w) A (forIn ifs true fun c r=>if r=true then do let ok <-isTrue c env (eval c env);pure (ForInStep.yield ok) else pure (ForInStep.yield r)) (fun ok s₃ =>
      if ok=true then wpAny (model prog w) A (eval elt env) (fun x s₄ =>
       wpAny (model prog w) A (call (.builtin "list.append") [acc,x]) (fun _ s₅=>∃ m,m<n/\I m s₅) (fun _ _=>False) s₄) (fun _ _=>False) s₃
      else ∃ m,m<n/\I m s₃) (fun _ _=>False) s₂) (fun _ _=>False) s₁') (fun _ _=>False) s₁) (fun _ _=>False) s)
  (n:Nat) (h:I n s) :
  codeAny (model prog w) A (.compLoop (.ListComp elt [⟨target,iter,ifs,0⟩] scope pos) 0 it acc env) R s:=by
 refine codeAny_loop rfl I (fun n s hI=>?_) n h
 show wpAny _ A ((compTurn (.ListComp elt [⟨target,iter,ifs,0⟩] scope pos) 0 it acc env).onRaise (fun x=>do noteFrame x env;theTreesLotGoes x)) _ _ s
 refine wpAny_noted ?_;rw[compTurn_list];refine x9 (wpAny_standAt (x9 (y4 (turn n s hI) (fun r s₁ h₁=>?_) fun _ _ h'=>h'.elim)))
 cases r with
 | none=>exact yj h₁
 | some v =>
  refine x9 (y4 h₁ (fun _ s₁' h₁'=>?_) fun _ _ h'=>h'.elim);refine x9 (y4 h₁' (fun _ s₂ h₂=>x9 (y4 h₂ (fun ok s₃ h₃=>?_) fun _ _ h'=>h'.elim)) fun _ _ h'=>h'.elim)
  cases ok with
  | false=>exact yj ⟨rfl,h₃⟩
  | true =>
   exact x9 (x9 (y4 h₃ (fun x s₄ h₄=>x9 (y4 h₄ (fun _ s₅ h₅=>yj (yj ⟨rfl,h₅⟩)) fun _ _ h'=>h'.elim)) fun _ _ h'=>h'.elim))
def xA (X:Cx)(ifs:List Expr)(t:TT):Prop :=
 ∀ (pins:List (Addr×Obj))(s:Shared)(σ:St)(H:Hp)(Q:Bool->Hp->Prop),aF X pins σ H s->t σ H Q ->
  wpAny (model X.prog X.w) X.A (forIn ifs true fun c r=>if r=true then do let ok <-isTrue c X.env (eval c X.env);pure (ForInStep.yield ok) else pure (ForInStep.yield r)) (TP X pins σ Q) X.xe s
def pX:TT:=fun _ H Q=>Q true H
theorem ci {X:Cx}:xA X [] pX:=fun pins s σ H Q I h=>wpAny_tests_nil ⟨H,I,h⟩
def vg (tt:TT)(te:TE)(a:Addr):TS:=fun D σ H=>tt σ H fun b H1=>if b=true then te σ H1 fun y H2=>∃ ys,H2 a=some (.lst ys)/\ys.length<sizeLine/\D.nx σ (bE H2 a (.lst (ys++[y]))) else D.nx σ H1
def oD (J:It)(g:TG)(tb:TS)(D:gH)(σ:St)(H:Hp):Prop:=∃ W:Nat->Nat->St->Hp->Prop,(∃ m,W 0 m σ H)/\∀ i m σ H,W i m σ H ->
 (J.stop i H/\D.nx σ H)\/(J.go i H/\∃ N:St->Hp->Prop,(∀ σ' H',N σ' H'->∃ m',m'<m/\W (i+1) m' σ' H')/\∀ x H',J.yld i H x H'->g x σ H' fun σ2 H2=>tb { D with nx:=N,ct:=N,bk:=D.nx } σ2 H2)
def v9 (wi:TI)(g:TG)(tt:TT)(te:TE)(src:List (Option Nat)):TE:=fun σ H Q=>wi σ H fun J H1=>∀ a,H1 a=none ->
 oD J g (vg tt te a) { nx:=fun _ H'=>Q (.ref a) H',rt:=fun _ _=>False } (ip src σ) (bE H1 a (.lst []))
theorem qv {X:Cx}{pins:List (Addr×Obj)}{σ:St}{H:Hp}{s:Shared}{sc so:Scope}{N':List Str}{src:List (Option Nat)}{cl:List (Str×Addr)}{fp:List Addr}{h':Heap}
  (I:aF X pins σ H s) (hso:X.env.scope=so) (S:p8 so sc X.N N' src) (q1:∀ x c,cl.lookup x=some c->X.env.cells.lookup x=some c) (q3:∀ y∈sc.names,y.2=.free->∃ c,cl.lookup y.1=some c)
  (hf:∀ b∈fp,kQ X pins H b) (hlt:∀ b∈fp,b<s.heap.objs.size) (hns:h'.Ns s.heap.objs.size fun _=>none) (hk:∀ b o,s.heap.get? b=some o->h'.get? b=some o) (tk:Nat) :
  aF (jE X sc cl s.heap.objs.size N' s H fp) [] (ip src σ) H { s with heap:=h',toks:=tk }:=by
 have hb:∀ b∈fp,b≠s.heap.objs.size/\∀ x c,cl.lookup x=some c->c≠b:=fun b z=>⟨yp (hlt b z),fun x c e=>(hf b z).2.2.2.2.1 x c (q1 x c e)⟩
 refine⟨⟨I.ok.mod,?_,I.ok.glob,I.ok.blt,x8 _,fun x y c h1 h2=>I.ok.inj x y c (q1 _ _ h1) (q1 _ _ h2),fun x hx=>?_,fun x c hx _=>(by cases hx),I.ok.hd,I.ok.frames,.inl rfl,hb,I.bs,yR I.ok.bsz I.sz,fun b o e z=>?_,fun b z hz=>?_,I.stack,I.stkFree⟩,
  rfl,I.bare,Un.kept hk,⟨_,hns,fun i x v h1 h2 h3=>?_⟩,fun x c e=>?_,I.hok.fresh (x8 _),fun x c e=>I.freeC x c (q1 x c e),fun p hp=>absurd (show p∈([]:List (Addr×Obj)) from hp) (by simp),I.hok.kept hk,?_⟩
 ·show (relabel sc X.env).kind=_
  exact S.kind
 ·have hx':(x,NameKind.free)∈sc.names:=gY S.nocell hx
  exact q3 _ hx' rfl
 ·rcases (hf b z).2.2.2.1 with y | y
  ·exact I.ok.noex b o e y
  ·exact absurd (yi (yd e) (yR I.ok.bsz y)) (zq _)
 ·rcases yh.mp (I.stkSub b hz) with y | y
  ·exact (hf b z).2.1 y
  ·exact (hf b z).2.2.1 y
 ·-- the captured names
  have h1':N'[i]? = some x:=h1;have h2':(ip src σ)[i]? = some (some v):=h2;unfold ip at h2';rw[List.getElem?_map]at h2'
  cases hs:src[i]? with
  | none=>rw[hs]at h2';cases h2'
  | some o =>
   rw[hs]at h2';have h2'':(o.bind fun j=>(σ[j]?).join)=some v:=yE h2'
   cases o with
   | none=>cases h2''
   | some j =>
    have hj:(σ[j]?).join=some v:=h2''
    have hσ:σ[j]? = some (some v):=by
     cases e:σ[j]? with
     | none=>rw[e]at hj;cases hj
     | some z=>rw[e]at hj;rw[show z=some v from hj]
    have hzip:(x,some j)∈N'.zip src:=by
     have:(N'.zip src)[i]? = some (x,some j):=by
      rw[List.getElem?_zip_eq_some];exact⟨h1',hs⟩
     exact yH this
    have hc:=yI (S.cap _ hzip);obtain⟨hN,hfr⟩:X.N[j]? = some x/\sc.names.lookup x=some .free:=hc;have hmem:(x,NameKind.free)∈sc.names:=y9 hfr;have hvis:=S.fre _ hmem rfl;rw[<-hso]at hvis;obtain⟨m,hn,hl⟩:=I.loc;obtain⟨u,ru,lk⟩:=hl j x v hN hσ (.inr hvis);refine⟨u,ru,.inr ⟨gk hfr,?_⟩⟩;obtain⟨c,hcl⟩:=q3 _ hmem rfl;refine⟨c,hcl,?_⟩;rcases lk with ⟨k,_⟩ | ⟨_,c',e',z⟩
    ·have k:X.env.scope.names.lookup x=some .local:=k
     rcases hvis with y | y<;>(rw[k]at y;cases y)
    ·have:=q1 x c hcl
     rw[e']at this;cases this;obtain⟨ob,e1,e2⟩:=z;exact⟨ob,hk _ _ e1,e2⟩
 ·obtain⟨v,ob,e1,e2⟩:=I.cell x c (q1 x c e)
  exact⟨v,ob,hk _ _ e1,e2⟩
 ·show (ip src σ).length=N'.length
  unfold ip;rw[x4];exact S.len
theorem mr {X:Cx}{pins:List (Addr×Obj)}{σ:St}{H:Hp}{s:Shared}{l:Addr}{xs:List V}{y:V}{u:Value}{E:Value->Shared->Prop}(I:aF X pins σ H s)(hH:H l=some (.lst xs))(hz:xs.length<sizeLine)(ru:be y u) :
  wpAny (model X.prog X.w) X.A (call (.builtin "list.append") [.ref l,u]) (fun _ s'=>aF X pins σ (bE H l (.lst (xs++[y]))) s') E s:=by
 obtain⟨z,its,n,r,hl,e⟩:=I.lstM hH;refine call_meets F.slot_list_append ⟨_,e,rfl⟩ F.entry_list_append (F.args_list_append_2 _ _) (PySem.list_append l its.toArray n u (by rw[yg];omega)) ⟨e,?_⟩;refine I.lset (its':=its++[u]) hH e (by simp) (r.append (.cons ru .nil)) ?_;rw[yb,yF];omega
theorem b9 {X:Cx}{elt tg iter:Expr}{ifs:List Expr}{sc so:Scope}{pos:Pos}{N':List Str}{src:List (Option Nat)}{wi:TI}{g:TG}{tt:TT}{te:TE}{N:List Str}(hso:X.env.scope=so)(hXN:X.N=N)(S:p8 so sc N N' src)(hc:X.calm=true)(hi:PI X tg iter wi)
  (hb:∀ (cl:List (Str×Addr))(C:Addr)(s:Shared)(H:Hp)(ex:List Addr),PG (jE X sc cl C N' s H ex) tg g/\xA (jE X sc cl C N' s H ex) ifs tt/\PE (jE X sc cl C N' s H ex) elt te)
  (hs:∀ x,foldedSetIterable iter X.env x=pure x:=by intro _;rfl):PE X (.ListComp elt [⟨tg,iter,ifs,0⟩] sc pos) (v9 wi g tt te src):=by
 subst hXN;intro pins s σ H Q I h
 obtain⟨cl,hcl,q1,q3⟩:=nI (sc:=sc) (env:=X.env) fun y hy hf=>by
  have:=S.fre y hy hf;rw[<-hso]at this;exact I.ok.has y.1 this
 rw[eval_ListComp];refine wpAny_comprehension_free (use:=none) rfl hs hcl S.kind S.loc (bK (hi pins s σ H _ I h) fun v s1 h1=>bK h1 fun itv s2 h2=>?_);obtain⟨it,fp,tn,J,H2,e,I2,T,st2,f2,hR⟩:=h2;subst e;refine zi ?_
 have I3:aF X pins σ (bE H2 s2.heap.objs.size (.lst [])) { s2 with heap:=s2.heap.push { cls:=.type "list",dict:=none,data:=.seq ([]:List Value).toArray } } :=
  I2.laid (t':=s2.toks) (fun b u q=>Heap.get?_push_of_some _ q) (x8 _) ⟨yT _,[],0,.nil,Heap.get?_push_size _ rfl⟩
 have hfr:=I2.hok.fresh (x8 s2.heap.objs.size);obtain⟨W,⟨m0,w0⟩,turn⟩:=hR _ hfr
 have flt:∀ b∈fp,b<s2.heap.objs.size:=fun b hb=>by obtain⟨o,e,_⟩:=T.obj _ _ st2 b hb;exact yd e
 generalize hs3:({ s2 with heap:=s2.heap.push { cls:=.type "list",dict:=none,data:=.seq ([]:List Value).toArray } }:Shared)=s3 at I3 ⊢
 have e3:s3.heap=s2.heap.push { cls:=.type "list",dict:=none,data:=.seq ([]:List Value).toArray }:=by rw[<-hs3]
 have sz3:s3.heap.objs.size=s2.heap.objs.size+1:=by rw[e3,Heap.size_push]
 have hf3:∀ b∈fp,kQ X pins (bE H2 s2.heap.objs.size (.lst [])) b:=fun b hb=>⟨by rw[aL (yp (flt b hb))];exact (f2 b hb).1,(f2 b hb).2⟩
 have flt3:∀ b∈fp,b<s3.heap.objs.size:=fun b hb=>by rw[sz3];exact Nat.lt_succ_of_lt (flt b hb)
 have st3:tn 0 s3.heap:=T.keep _ _ _ st2 fun b _ o e=>by rw[e3];exact Heap.get?_push_of_some _ e
 refine wpAny_newFunctionEnv S.nocell (by intro y hy;simp at hy) (fun h4 hns4 hsb4=>?_) S.kind;have kp4:∀ b o,s3.heap.get? b=some o->h4.get? b=some o:=fun b o e=>hsb4.extBut b o (yp (yd e)) (Heap.get?_push_of_some _ e);have I4:=qv (h':=h4) I3 hso S q1 q3 hf3 flt3 (by simpa using hns4) kp4 (s3.toks+([]:List (Str×Value)).length);have st4:tn 0 h4:=T.keep _ _ _ st3 fun b _ o e=>kp4 b o e;generalize hC:s3.heap.objs.size=C at I4 hns4 hsb4 ⊢;obtain⟨hg,ht,he⟩:=hb cl C s3 (bE H2 s2.heap.objs.size (.lst [])) fp
 let Y:Cx:=jE X sc cl C N' s3 (bE H2 s2.heap.objs.size (.lst [])) fp
 have loop:∀ s5:Shared,s5={ s3 with heap:=h4,toks:=s3.toks+([]:List (Str×Value)).length }->codeAny (model X.prog X.w) X.A (.compLoop (.ListComp elt [⟨tg,iter,ifs,0⟩] sc pos) 0 (.ref it) (.ref s2.heap.objs.size) (compEnvC sc cl C X.env))
   (compPost (model X.prog X.w) X.A X.xe none (EP X pins σ Q) (.ref s2.heap.objs.size) C) s5:=by
  rintro s5 rfl
  have stat:∀ {H':Hp},(∀ b∈fp,H' b=none)->∀ b∈fp,kQ Y [] H' b:=fun {H'} hn b hb=>by
   obtain⟨f0,f1,f2',f3,f4,f5⟩:=hf3 b hb;refine⟨hn b hb,?_,fun z=>?_,.inl hb,fun x c e=>f4 x c (q1 x c e),fun p hp=>absurd (show p∈([]:List (Addr×Obj)) from hp) (by simp)⟩
   ·show b≠C
    rw[<-hC];exact yp (flt3 b hb)
   ·have z:b∈dM X.stack:=z
    rcases yh.mp (I3.stkSub b z) with y | y
    ·exact f1 y
    ·exact f2' y
  refine fC (fun n s'=>∃ i σ' H',aF Y [] σ' H' s'/\tn i s'.heap/\(∀ b∈fp,H' b=none)/\W i n σ' H') ?_ m0 ⟨0,_,_,I4,st4,fun b hb=>(hf3 b hb).1,w0⟩;rintro n s6 ⟨i,σ6,H6,I6,st6,fr6,w6⟩;rcases turn i n σ6 H6 w6 with ⟨stop,qn⟩ | ⟨go,Nx,hN,step⟩
  ·refine bK (T.done Y rfl rfl rfl hc i [] s6 σ6 H6 _ I6 (stat fr6) st6 stop) fun r s7 ⟨hr,I7⟩=>?_
   subst hr;obtain⟨m,hn,_⟩:=id I7.loc;refine⟨m,hn,fun h' hsb=>?_⟩
   have neC:∀ b o,s3.heap.get? b=some o->b≠C:=fun b o e=>by rw[<-hC];exact yp (yd e)
   have freeC:H6 C=none:=I7.free
   have un:Un (dM X.stack) fp (bE H2 s2.heap.objs.size (.lst [])) H6 s3.heap h' :=
    ⟨fun b o e n hb hx=>(hsb.2 b (neC b o e)).trans (I7.base.keep b o e n hb hx),fun b o e n hb hx=>by
      obtain⟨sl,q⟩:=I7.base.slot b o e n hb hx
      exact⟨sl,(hsb.2 b (neC b o e)).trans q⟩,I7.base.free,fun b o e hx=>by
      obtain⟨o',q⟩:=I7.base.there b o e hx
      exact⟨o',(hsb.2 b (neC b o e)).trans q⟩,I7.base.tups,I7.base.frzs,I7.base.tbls⟩
   have hok:gF X.prog X.w H6 h':=fun b ob e=>by
    refine (I7.hok b ob e).stay (fun c w' hc' q=>(hsb.2 c ?_).trans q) (fun _ q=>q) fun _ _ q=>q;rintro rfl;rcases hc' with z | z
    ·rw[<-z,freeC]at e;cases e
    ·rw[freeC]at z;cases z
   have J7:aF X pins σ H6 { s7 with heap:=h' }:=I3.call' (ch:=fp) (s':={ s7 with heap:=h' }) I7.os un hok I7.bare fun b hb=>⟨(hf3 b hb).2.2.2.1,(hf3 b hb).2.1,(hf3 b hb).2.2.2.2.1,(hf3 b hb).2.2.2.2.2⟩;exact⟨.ref s2.heap.objs.size,H6,J7,rfl,qn⟩
  ·refine bK (T.item Y rfl rfl rfl hc i [] s6 σ6 H6 _ I6 (stat fr6) st6 go) fun r s7 ⟨u,hr,h7⟩=>?_
   subst hr;refine bK h7 fun _ s8 ⟨x,H8,I8,r8,y8,st8,fr8⟩=>?_;have I8':=I8.pinned (stat fr8) (T.obj _ _ st8);refine bK (hg _ s8 σ6 H8 x u _ I8' r8 (step x H8 y8)) fun _ s9 ⟨σ9,H9,I9,q9⟩=>?_
   have again:∀ {s':Shared}{σ7:St}{H7:Hp},aF Y ([]++j3 fp s8.heap) σ7 H7 s'->Nx σ7 H7->∃ m,m<n/\∃ i σ' H',aF Y [] σ' H' s'/\tn i s'.heap/\(∀ b∈fp,H' b=none)/\W i m σ' H':=fun {s' σ7 H7} I7 n7=>by
    obtain⟨m',hm,w7⟩:=hN σ7 H7 n7;refine⟨m',hm,i+1,σ7,H7,I7.unpinned,T.keep _ _ _ st8 fun b hb o e=>(I7.pin (b,o) (yN _ (yN _ (eJ hb e)))).1,fun b hb=>?_,w7⟩;obtain⟨o,e,d⟩:=T.obj _ _ st8 b hb;exact (I7.pin (b,o) (yN _ (yN _ (eJ hb e)))).2.1
   refine bK (ht _ s9 σ9 H9 _ I9 q9) fun ok s10 ⟨H10,I10,q10⟩=>?_
   cases ok with
   | false =>
    rw[yf ye]at q10 ⊢;exact again I10 q10
   | true =>
    rw[ym rfl]at q10 ⊢;refine bK (he _ s10 σ9 H10 _ I10 q10) fun y s11 ⟨yv,H11,I11,ry,ys,hys,hlen,q11⟩=>?_;exact bK (mr (X:=Y) I11 hys hlen ry) fun _ s12 I12=>again I12 q11
 exact codeAny_compStart_list (loop _ rfl) (T.self _ 0 _ _ _ st4 (loop _ rfl))
section
variable {X:Cx}
def vi (i j:Int):Prop:=0<j/\j<1152921504606846976
theorem qJ:gq X (binaryOp .FloorDiv) (rI vi fun i j=>.int (i/j)):=vL fun i j _ _ _ _ _ hc q=>by
 have h1:(0:Int)<j:=hc.1;have h2:j<1152921504606846976:=hc.2;refine floordiv_int (by omega) (by rw[Int.fdiv_eq_ediv_of_nonneg i (by omega)];exact q) (.inl (PyProof.noPylong_of_log2 ?_))
 have h0:j.natAbs≠0:=by omega
 have:j.natAbs.log2<60:=(Nat.log2_lt h0).mpr (by omega);omega
theorem dB:ec X (.builtin "isinstance") (fun xs H Q=>∃ x T t b,xs=[x,.ty T]/\ef X.K H x t/\PySem.W.kitOne X.K t (.type T)=some b/\Q (.bl b) H):=by
 intro pins s σ H xs us Q I r h;obtain⟨x,T,t,b,rfl,ty,e,q⟩:=h
 cases r with
 | cons rx r2 =>
  cases r2 with
  | cons rt r3 =>
   cases r3;cases rt;exact pA I rx ty e fun tk=>⟨.bl b,H,I.tok tk,rfl,q⟩
theorem ny {A:Around}{bs:List Bool}{its:List Value}(r:aR (bs.map V.bl) its) :
  TruthOf X.prog X.w A (fun i v=>its.toArray[i]? = some v) (fun i=>bs.getD i false):=by
 intro i v s Q E hv hq
 have hv':its[i]? = some v:=by simpa using hv
 have hi:i<its.length:=(List.getElem?_eq_some_iff.mp hv').1;have hl:=r.length;rw[x4]at hl;obtain⟨u,hu,ru⟩:=r.get (i:=i) (x:=V.bl (bs[i]'(by omega))) (by rw[List.getElem?_map,List.getElem?_eq_getElem (by omega)];rfl);rw[hv']at hu;cases hu;cases ru
 have e:bs.getD i false=bs[i]'(by omega):=by simp[List.getD,List.getElem?_eq_getElem (show i<bs.length by omega)]
 have hq':Q (bs.getD i false) s:=hq;rw[e]at hq';exact yS hq'
theorem pQ (bs:List Bool):(List.range bs.length).all (fun i=>bs.getD i false)=bs.all id:=by
 have h:(List.range bs.length).map (fun i=>bs.getD i false)=bs:=by
  apply List.ext_getElem
  ·simp
  ·intro i h1 h2;simp[List.getD,List.getElem?_eq_getElem h2]
 have e:(List.range bs.length).all (fun i=>bs.getD i false)=((List.range bs.length).map (fun i=>bs.getD i false)).all id:=by rw[List.all_map];rfl
 rw[e,h]
theorem kI {pins:List (Addr×Obj)}{σ:St}{H:Hp}{s:Shared}{A:Around}{E:Value->Shared->Prop}{p:Addr}{xs:List V}{its:List Value}{R:Value->Shared->Prop}(I:aF X pins σ H s)(hA:A.handled=none)(pl:PlainL s.heap p its.toArray)
  (h:∀ (I':Addr)(St:Nat->Heap->Prop)(s2:Shared),s2.heap.objs.size=s.heap.objs.size+1->I'=s.heap.objs.size->Walks X.prog X.w A I' [I',p] [I'] its.length (fun i v=>its.toArray[i]? = some v) St->St 0 s2.heap->(∀ b o,s.heap.get? b=some o->s2.heap.get? b=some o)->(∀ h' tk,(∀ b o,b∉[I']->s2.heap.get? b=some o->h'.get? b=some o)->aF X pins σ H { s2 with heap:=h',toks:=tk })->R (.ref I') s2) :
  wpAny (model X.prog X.w) A (pyIter (.ref p)) R E s:=by
 refine wpAny_pyIter_list pl.isList ?_
 have hlt:p<s.heap.objs.size:=by obtain⟨o,n,e,_⟩:=pl;exact yd e
 have W:=Walks.list (prog:=X.prog) (w:=X.w) hA s.heap.objs.size p (yp hlt) its.toArray;rw[yg]at W;refine h _ _ _ (by rw[Heap.size_push]) rfl W ⟨⟨_,Heap.get?_push_size _ rfl,rfl,rfl⟩,pl.isList.at fun o e=>Heap.get?_push_of_some _ e⟩ (fun b o e=>Heap.get?_push_of_some _ e) fun h' tk kp=>?_;exact I.kept (t':=tk) fun b o e=>kp b o (by simpa using yp (yd e)) (Heap.get?_push_of_some _ e)
theorem dz (hc:X.calm=true):ec X (.builtin "all") (fun xs H Q=>∃ (p:Addr)(bs:List Bool),xs=[.ref p]/\bC X.K H p (bs.map V.bl)/\Q (.bl (bs.all id)) H):=by
 intro pins s σ H xs us Q I r h;obtain⟨p,bs,rfl,hq,q⟩:=h;obtain⟨u,rfl,rx⟩:=fi r;cases rx;obtain⟨its,rv,pl,hz⟩:=I.list hq;have hl:=rv.length;rw[x4]at hl;refine call_all_walk (kI (xs:=bs.map V.bl) I (I.ok.hd hc) pl fun I' St s2 hs2 hI W st kp fin=>?_);refine⟨I',_,_,_,_,St,_,rfl,W,st,ny rv,fun h' tk k=>⟨.bl _,H,fin h' tk k,rfl,?_⟩⟩;rw[<-hl,pQ];exact q
theorem gQ:∀ {ns:List Int}{us:List Value},aR (ns.map V.int) us->IntsAre us ns
 | [],_,r=>by cases r;exact IntsAre.nil
 | n::ns,_,r=>by
  cases r with
  | cons r t=>obtain⟨tk,rfl⟩:=r;exact IntsAre.cons _ _ (gQ t)
end
end L2
namespace Wz
open PySem L2
def cV (c:Int):Int:=if c<0 then -c else c
def gu (ns:List Int)(k:Int):Int:=if k<(ns.length:Int) then ns.getD k.toNat 0 else 0
def fW (k c:Int):Int :=
 let left:=cV c
 let number:=(k*(1+left*1234567891%2147483646)+left/2147483646)%2147483647
 if left%5=4 then number+997852516353 else number
def aA (P:Program)(w:World)(K:PySem.W.Frag)(mg:Str->Option Value)(base:Heap)(x:Str)(k:Nat)(ps:List Str)(sp:Sp):Prop :=
 ∃ (f:Addr)(fd:FuncData),bc P w K mg base gE k f fd ps sp/\mg x=some (.ref f)/\PySem.W.keepIn K (.ref f)=true/\fk K fd ps []
theorem aW {X:Cx}{x:Str}{k:Nat}{ps:List Str}{sp:Sp}{e:Expr}{es:List Expr}{t:TA}{p pos:Pos}(C:aA X.prog X.w X.K X.mg X.base x k ps sp)(hr:cz k X.A)(hg:Gl X x)(ha:PA X (e::es) t)
  (hdb:(x == ("__debug__" : Str))=false:=by decide) (he:starEach (e::es) X.env=(false,eval e X.env)::starEach es X.env:=by rfl) (hpl:(backTo pos (starEach es X.env)).any (·.1)=false:=by rfl) :
  PE X (.Call (.Name x p) (e::es) [] pos) (nu sp [] E0 t):=by
 obtain⟨f,fd,G,hm,hk,hb⟩:=C;exact oS G hr hg hm hk hb .nil sY ha hdb he hpl
theorem jk {X:Cx}(K:PySem.W.Frag)(hK:X.K=K:=by rfl):vm X (vQ K):=by subst hK;exact bB
theorem ag {H:Hp}{l:Addr}{o:HO}(h:H l=none):aG H (bE H l o):=fun b u e=>by rw[aL (bT e h)];exact e
theorem cE {H H':Hp}{l:Addr}{o:HO}(s:aG H H')(h:H l=none):aG H (bE H' l o):=fun b u e=>by rw[aL (bT e h)];exact s b u e
theorem eL {α β:Type}{F:α->β->Prop}:∀ {l:List α}{m:List β}{i:Nat}{a:α},Paired F l m->l[i]? = some a->∃ b,m[i]? = some b/\F a b
 | _,_,_,_,.nil,h=>by simp at h
 | _,_,0,_,.cons r _,h=>by simp at h;subst h;exact⟨_,rfl,r⟩
 | _,_,i+1,a,.cons _ t,h=>by
  obtain⟨b,e1,e2⟩:=eL (i:=i) (a:=a) t (by simpa using h);exact⟨b,by simpa using e1,e2⟩
theorem cD {α β:Type}{F:α->β->Prop}:∀ {l l':List α}{m m':List β},Paired F l m->Paired F l' m'->Paired F (l++l') (m++m')
 | _,_,_,_,.nil,s=>s
 | _,_,_,_,.cons r t,s=>.cons r (cD t s)
theorem dk {α β:Type}{f:α->β}{l:List α}{i:Nat}{y:β}(h:(l.map f)[i]? = some y):∃ x,l[i]? = some x/\y=f x:=by
 rw[List.getElem?_map]at h
 cases e:l[i]? with
 | none=>rw[e]at h;cases h
 | some x=>rw[e]at h;exact⟨x,rfl,(yE h).symm⟩
theorem c5 {te:TE}{a:Addr}{D:gH}{σ:St}{H:Hp}(h:te σ H fun y H2=>∃ ys,H2 a=some (.lst ys)/\ys.length<sizeLine/\D.nx σ (bE H2 a (.lst (ys++[y])))):vg pX te a D σ H:=by
 unfold vg pX;dsimp only;rw[ym rfl];exact h
inductive lY (K:PySem.W.Frag) (vs:List V) (H:Hp) (Q:VK) (E_:XK):Prop
 | mk (a:Addr) (ns:List Int) (k:Int) (h_0:vs=[.ref a,.int k]) (h_1:bC K H a (ns.map V.int)) (h_2:0<=k) (h_3:Q (.int (gu ns k)) H):lY K vs H Q E_
inductive iQ (vs:List V) (H:Hp) (Q:VK) (E_:XK):Prop
 | mk (c:Int) (h_0:vs=[.int c]) (h_1:Q (.int (cV c)) H):iQ vs H Q E_
inductive gZ (vs:List V) (H:Hp) (Q:VK) (E_:XK):Prop
 | mk (c m b:Int) (h_0:vs=[.int c,.int m,.int b]) (h_1:(0<=m/\m<=1000)) (h_2:(0<b/\b<1073741824)) (h_3:∀ (l:Addr)(ds:List Int),H l=none->(∀ d∈ds,0<=d/\d<b)->(ds.length:Int)<=m->Q (.ref l) (bE H l (.lst (ds.map V.int)))):gZ vs H Q E_
inductive g8 (vs:List V) (H:Hp) (Q:VK) (E_:XK):Prop
 | mk (k c:Int) (h_0:vs=[.int k,.int c]) (h_1:(0<=k/\k<=1000000)) (h_2:Q (.int (fW k c)) H):g8 vs H Q E_
inductive jv (vs:List V) (H:Hp) (Q:VK) (E_:XK):Prop
 | mk (i:Int) (h_0:vs=[.int i]) (h_1:Q (.bl true) H):jv vs H Q E_
end Wz
namespace L2
open PySem PySem.Spec PyProof.Rows
def sV (g B:Heap)(e:Addr)(c:Value)(od:Option Addr)(fl:Value):Prop :=
 ∃ oe us T oT ts,g.get? e=some oe/\(oe.cls=c/\oe.dict=od)/\oe.data=.fields us/\us[1]? = some (.ref T)/\B.get? T=none/\T≠e/\g.get? T=some oT/\oT.data=.fields ts/\ts[3]? = some fl
def im (B:Heap)(l:List Env)(e:Addr)(c:Value)(od:Option Addr)(g:Heap):Prop:=B.StaysIn g/\B.get? e=none/\g.FunFrames B l/\sV g B e c od .none
def sT (B:Heap)(l:List Env)(e:Addr)(c:Value)(od:Option Addr)(L:Addr)(g:Heap):Prop:=B.StaysIn g/\B.get? e=none/\g.FunFrames B l/\sV g B e c od (rawInt L)
theorem rS (f:Array Value->Array Value)(o:Obj):(Obj.mapFields f o).dict=o.dict:=by
 unfold Obj.mapFields;split<;>rfl
theorem im.obj {B g:Heap}{l:List Env}{e:Addr}{c:Value}{od:Option Addr}(x:im B l e c od g):∃ ob us,g.get? e=some ob/\ob.cls=c/\ob.dict=od/\ob.data=.fields us:=by
 obtain⟨_,_,_,oe,us,_,_,_,he,hc,hd,_⟩:=x;exact⟨oe,us,he,hc.1,hc.2,hd⟩
section
variable {M:Model}{A:Around}{E:Value->Shared->Prop}{s:Shared}{B:Heap}{env:Env}{outer:List Env}{L e:Addr}{od:Option Addr}{c:Value}
def ww (g g':Heap):Prop:=∀ b o,g.get? b=some o->(∀ us,o.data≠.fields us)->∃ sl,g'.get? b=some { o with slots:=sl }
theorem qp {oe:Obj}{us:Array Value}{head:Value}{hn:Bool}{Q:Unit->Shared->Prop}(fr:A.frames=some (env::outer))(hl:s.heap.FunFrames B (env::outer))(hf:env.frame=some L)
  (he:s.heap.get? e=some oe) (hk:B.StaysIn s.heap) (hb:B.get? e=none) (hd:oe.data=.fields us) (h1:1<us.size)
  (h:∀ g,B.StaysIn g->g.FunFrames B (env::outer)->sV g B e oe.cls oe.dict (rawInt L)->ww s.heap g->Q () { s with heap:=g }) :
  wpAny M A (do let a <-frameOf env;let pl <-entryPlaceOf L hn;let b <-EntryCells.newEntry head a .none (rawInt L) .none pl;setField (.ref e) 1 b) Q E s:=by
 have hne:e∉(env::outer).filterMap (·.frame):=fun z=>by
  obtain⟨_,o,ho,nf⟩:=hl.mem z;rw[he]at ho;cases ho;exact nf us hd
 refine x9 (wpAny_frameOf_fun fr hl hf fun g1 sl1=>x9 (wpAny_entryPlaceOf fun pl hpl=>?_));unfold EntryCells.newEntry newFields;refine x9 (zi ?_ (hpl.sizeOk5 _ _ _ _ _));have e1:g1.get? e=some oe:=(sl1.2.1 e hne).trans he;have k1:B.StaysIn g1:=fun b o q=>(sl1.2.1 b fun z=>by rw[(hl.mem z).1]at q;cases q).trans (hk b o q);generalize hob:({ cls:=.type "traceback",dict:=none,data:=.fields ([head,.ref L,.none,rawInt L,.none]++(if pl.isEmpty then List.replicate 6 Value.none else pl)).toArray }:Obj)=ob
 have obd:ob.data=.fields ([head,.ref L,.none,rawInt L,.none]++(if pl.isEmpty then List.replicate 6 Value.none else pl)).toArray:=by rw[<-hob]
 have e2:=Heap.get?_push_of_some (h:=g1) ob e1;refine wpAny_setField e2 hd h1 ?_;have ne:g1.objs.size≠e:=Nat.ne_of_gt (yd e1);have d3:=Obj.data_mapFields hd (·.setIfInBounds 1 (Value.ref g1.objs.size));have e3:=Heap.get?_update_self (Obj.mapFields (·.setIfInBounds 1 (Value.ref g1.objs.size))) e2 (Obj.isFreed_of_fields d3)
 have keep:∀ b o,b≠e->g1.get? b=some o->((g1.push ob).update e (Obj.mapFields (·.setIfInBounds 1 (Value.ref g1.objs.size)))).get? b=some o:=fun b o n q=>by
  rw[Heap.get?_update_other _ _ (zk n)];exact Heap.get?_push_of_some _ q
 have nr:∀ b o,s.heap.get? b=some o->(∀ vs,o.data≠.fields vs)->b≠e:=fun b o q nf z=>by
  rw[z,he]at q;cases q;exact nf us hd
 refine h _ (fun b o q=>keep b o (fun z=>by rw[z,hb]at q;cases q) (k1 b o q)) (hl.of_keeps fun b o q nf=>?_) ?_ fun b o q nf=>?_
 ·obtain⟨sl,z⟩:=sl1.2.2 b o q
  exact⟨_,keep b _ (nr b o q nf) z,rfl⟩
 ·refine⟨_,_,g1.objs.size,ob,_,e3,⟨Obj.cls_mapFields _ _,rS _ _⟩,d3,by simp[h1],k1.fresh,ne,?_,obd,by first | (simp;done) | (rcases hpl with rfl | ⟨_,_,_,_,_,_,_,rfl⟩<;>simp)⟩
  rw[Heap.get?_update_other _ _ (zk ne)];exact Heap.get?_push_size g1 (by rw[<-hob];rfl)
 ·obtain⟨sl,z⟩:=sl1.2.2 b o q
  exact⟨sl,keep b _ (nr b o q nf) z⟩
theorem mL {oe:Obj}{us:Array Value}{Q:Unit->Shared->Prop}(fr:A.frames=some (env::outer))(hl:s.heap.FunFrames B (env::outer))(hf:env.frame=some L)
  (he:s.heap.get? e=some oe) (hk:B.StaysIn s.heap) (hb:B.get? e=none) (hd:oe.data=.fields us) (h1:us[1]? = some .none)
  (h:∀ g,B.StaysIn g->g.FunFrames B (env::outer)->sV g B e oe.cls oe.dict (rawInt L)->ww s.heap g->Q () { s with heap:=g }):wpAny M A (noteFrame (.ref e) env) Q E s:=by
 unfold noteFrame;simp only[hf];refine x9 (zG he hd h1 ?_);rw[yf (by decide)];exact qp fr hl hf he hk hb hd (Array.getElem?_eq_some_iff.mp h1).1 h
theorem jS {Q:Unit->Shared->Prop}(fr:A.frames=some (env::outer))(hl:s.heap.FunFrames B (env::outer))(hf:env.frame=some L)(ht:sV s.heap B e c od .none)(hk:B.StaysIn s.heap)(hb:B.get? e=none)
  (h:∀ g,B.StaysIn g->g.FunFrames B (env::outer)->sV g B e c od (rawInt L)->ww s.heap g->Q () { s with heap:=g }):wpAny M A (noteFrame (.ref e) env) Q E s:=by
 obtain⟨oe,us,T,oT,ts,he,⟨rfl,rfl⟩,hd,h1,nT,ne,hT,dT,h3⟩:=ht;unfold noteFrame;simp only[hf];refine x9 (zG he hd h1 ?_);rw[ym (show (Value.ref T != Value.none)=true by simp)];refine x9 (zG hT dT h3 ?_);rw[yf (show ¬((Value.none == rawInt L)=true) by simp[rawInt])];refine x9 (wpAny_setField hT dT (Array.getElem?_eq_some_iff.mp h3).1 ?_);have ot:∀ b,b≠T->(s.heap.update T (Obj.mapFields (·.setIfInBounds 3 Value.none))).get? b=s.heap.get? b:=fun b z=>Heap.get?_update_other _ _ (zk z)
 have nr:∀ b o,s.heap.get? b=some o->(∀ vs,o.data≠.fields vs)->b≠T:=fun b o q nf z=>by
  rw[z,hT]at q;cases q;exact nf ts dT
 refine qp fr (hl.of_keeps fun b o q nf=>⟨o,(ot b (nr b o q nf)).trans q,rfl⟩) hf ((ot e (zk ne)).trans he) (fun b o q=>(ot b fun z=>by rw[z,nT]at q;cases q).trans (hk b o q)) hb hd (Array.getElem?_eq_some_iff.mp h1).1 fun g a1 a2 a3 a4=>h g a1 a2 a3 fun b o q nf=>?_;exact a4 b o ((ot b (nr b o q nf)).trans q) nf
theorem ji {l:List Env}{fl:Value}{Q:Unit->Shared->Prop}(hk:B.StaysIn s.heap)(hl:s.heap.FunFrames B l)(ht:sV s.heap B e c od fl)
  (h:∀ g,B.StaysIn g->g.FunFrames B l->sV g B e c od .none->s.heap.UpToSlots g->Q () { s with heap:=g }):wpAny M A (setFlight (.ref e) none) Q E s:=by
 obtain⟨oe,us,T,oT,ts,he,hc,hd,h1,nT,ne,hT,dT,h3⟩:=ht;have z3:3<ts.size:=(Array.getElem?_eq_some_iff.mp h3).1;have ot:∀ b,b≠T->(s.heap.update T (Obj.mapFields (·.setIfInBounds 3 ((none:Option Addr).elim Value.none fun f=>rawInt f)))).get? b=s.heap.get? b:=fun b z=>Heap.get?_update_other _ _ (zk z)
 have nr:∀ b o,s.heap.get? b=some o->(∀ vs,o.data≠.fields vs)->b≠T:=fun b o q nf z=>by
  rw[z,hT]at q;cases q;exact nf ts dT
 unfold setFlight;refine x9 (zG he hd h1 ?_);rw[ym (show (Value.ref T != Value.none)=true by simp)];refine wpAny_setField hT dT z3 (h _ (fun b o q=>(ot b fun z=>by rw[z,nT]at q;cases q).trans (hk b o q)) (hl.of_keeps fun b o q nf=>⟨o,(ot b (nr b o q nf)).trans q,rfl⟩) ?_ fun b o q nf=>⟨o.slots,(ot b (nr b o q nf)).trans q⟩);exact⟨oe,us,T,_,_,(ot e (zk ne)).trans he,hc,hd,h1,nT,ne,Heap.get?_update_self _ hT (Obj.isFreed_of_fields (Obj.data_mapFields dT _)),Obj.data_mapFields dT _,by simp[z3]⟩
theorem qZ {g g' g'':Heap}(a:ww g g')(b:g'.UpToSlots g''):g.UpToSlots g'':=fun x o q nf=>by
 obtain⟨sl,z⟩:=a x o q nf;obtain⟨sl2,z2⟩:=b x _ z nf;exact⟨sl2,z2⟩
theorem lz {oe:Obj}{us:Array Value}{Q:Unit->Shared->Prop}(fr:A.frames=some (env::outer))(hf:env.frame=some L)(hk:B.StaysIn s.heap)(hl:s.heap.FunFrames B (env::outer))
  (he:s.heap.get? e=some oe) (hb:B.get? e=none) (hd:oe.data=.fields us) (h1:us[1]? = some .none)
  (hq:∀ g,im B outer e oe.cls oe.dict g->s.heap.UpToSlots g->Q () { s with heap:=g }):wpAny M A (leaving env (.ref e)) Q E s:=by
 unfold leaving;refine x9 (mL fr hl hf he hk hb hd h1 fun g a1 a2 a3 a4=>?_);exact ji (s:={ s with heap:=g }) a1 a2 a3 fun g2 b1 b2 b3 b4=>hq g2 ⟨b1,hb,b2.2.2,b3⟩ (qZ a4 b4)
theorem jM {Q:Unit->Shared->Prop}(fr:A.frames=some (env::outer))(hf:env.frame=some L)(fl:im B (env::outer) e c od s.heap)
  (hq:∀ g,im B outer e c od g->s.heap.UpToSlots g->Q () { s with heap:=g }):wpAny M A (leaving env (.ref e)) Q E s:=by
 obtain⟨f1,f2,f3,f4⟩:=fl;unfold leaving;refine x9 (jS fr f3 hf f4 f1 f2 fun g a1 a2 a3 a4=>?_);exact ji (s:={ s with heap:=g }) a1 a2 a3 fun g2 b1 b2 b3 b4=>hq g2 ⟨b1,f2,b2.2.2,b3⟩ (qZ a4 b4)
theorem pH {Q:Unit->Shared->Prop}(fr:A.frames=some (env::outer))(hf:env.frame=some L)(fl:im B (env::outer) e c od s.heap)
  (hq:∀ g,sT B (env::outer) e c od L g->s.heap.UpToSlots g->Q () { s with heap:=g }):wpAny M A (noteFrame (.ref e) env) Q E s:=by
 obtain⟨f1,f2,f3,f4⟩:=fl;exact jS fr f3 hf f4 f1 f2 fun g a1 a2 a3 a4=>hq g ⟨a1,f2,a2,a3⟩ a4
theorem uB {l:List Env}{Q:Unit->Shared->Prop}(hh:sT B l e c od L s.heap)(hq:∀ g,im B l e c od g->s.heap.UpToSlots g->Q () { s with heap:=g }):wpAny M A (setFlight (.ref e) none) Q E s:=by
 obtain⟨f1,f2,f3,f4⟩:=hh;exact ji f1 f3 f4 fun g a1 a2 a3 a4=>hq g ⟨a1,f2,a2,a3⟩ a4
theorem lx {l:List Env}{Q:Unit->Shared->Prop}(hh:im B l e c od s.heap)(hq:∀ g,im B l e c od g->s.heap.UpToSlots g->Q () { s with heap:=g }):wpAny M A (setFlight (.ref e) none) Q E s:=by
 obtain⟨f1,f2,f3,f4⟩:=hh;exact ji f1 f3 f4 fun g a1 a2 a3 a4=>hq g ⟨a1,f2,a2,a3⟩ a4
end
abbrev wP:List Value:=[.type "ValueError",.type "Exception",.type "BaseException",.type "object"]
def wR (C t:Addr)(od:Option Addr):Obj:={ cls:=.ref C,dict:=od,data:=.fields #[.ref t,.none,.none,.none,.bool false,.none] }
abbrev kT (K:PySem.W.Frag)(C:Addr):Prop:=PySem.W.excIn K C wP "ValueError.__new__" = true
theorem rV {K:PySem.W.Frag}{h:Heap}{C:Addr}(X:K.In h)(q:kT K C) :
  ∃ bm N nm qn bs hdct sn sub ab col dd k0 k1 k2 k3 k5 mN,h.get? C=some (excClassObj nm qn C N bs bm hdct sn sub ab col dd k0 k1 k2 k3 k5 "ValueError.__new__")/\h.Ns N mN/\mN "__init__" = none/\OwnTail h wP bm:=by
 have q:PySem.W.excIn K C wP "ValueError.__new__" = true:=q;unfold PySem.W.excIn at q;split at q
 ·rename_i dd cd sl ho
  split at q
  ·rename_i C' bm k0 k1 k2 k3 n k5 hm hs
   simp only[yG,beq_iff_eq,Bool.not_eq_true']at q;obtain⟨⟨⟨⟨⟨rfl,rfl⟩,hdel⟩,ht⟩,hok⟩,hni⟩:=q;obtain⟨nm,bs,mro,ns,qn,hd,sn,sub,ab,col,del⟩:=cd;dsimp only at hm hdel hok hni;subst hm hdel
   have hsl:sl = #[k0,k1,k2,k3,some (.builtin "ValueError.__new__"),k5]:=by
    obtain⟨l⟩:=sl;simp only at hs;rw[hs]
   subst hsl;exact⟨bm,ns,nm,qn,bs,hd,sn,sub,ab,col,dd,k0,k1,k2,k3,k5,_,X _ _ ho,.of_isNs (PySem.W.isNs_of_in X hok),PySem.W.nsMap_none_of_in X hok hni,PySem.W.tail_of_in X ht⟩
  ·cases q
 ·cases q
theorem cr.has {P:Program}{w:World}{H:Hp}{h:Heap}{a:Addr}{o:HO}(x:cr P w H h a o):∃ u,h.get? a=some u:=by
 cases o with
 | lst xs=>obtain⟨_,_,_,_,e⟩:=x;exact⟨_,e⟩
 | tup xs=>obtain⟨_,_,_,u,e,_⟩:=x;exact⟨u,e⟩
 | dK kvs=>obtain⟨_,_,_,_,o,_,_,e,_⟩:=x;exact⟨o,e⟩
 | dT kvs=>obtain⟨_,_,_,_,o,_,_,e,_⟩:=x;exact⟨o,e⟩
 | set S n=>obtain⟨o,_,_,_,e,_⟩:=x;exact⟨o,e⟩
 | ins C dx fs=>obtain⟨_,_,_,e,_⟩:=x;exact⟨_,e⟩
 | own y=>exact x
 | xd fs=>obtain⟨_,⟨o,_,_,e,_⟩,_⟩:=x;exact⟨o,e⟩
 | rng lo hi=>obtain⟨_,_,_,e⟩:=x;exact⟨_,e⟩
 | frz ob u=>obtain⟨e,_⟩:=x;exact⟨ob,e⟩
 | tbl ps=>exact⟨_,(show h.get? a=some _ from x)⟩
 | met f y=>exact⟨_,(show h.get? a=some _ from x)⟩
 | ext φ=>obtain⟨_,e,_⟩:=x;exact e
def ij (P:Program)(w:World):ku:=fun outer H s E e s'=>∃ (ea C:Addr)(od:Option Addr)(H':Hp)(B:Heap),e=.ref ea/\im B outer ea (.ref C) od s'.heap/\Un (dM outer) [] H H' s.heap s'.heap/\gF P w H' s'.heap/\s'.os=s.os/\AllBare s'.gens /\
 (∀ b o,s.heap.get? b=some o->b∉dM outer->∃ o',B.get? b=some o')/\(∀ b o,H' b=some o->∃ o',B.get? b=some o')/\E (.ref C) od H'
theorem o5 {fs:List Addr}{H H':Hp}{h h1 h2 B:Heap}(u:Un fs [] H H' h h1)(b1:B.StaysIn h1)(b2:B.StaysIn h2)(hb:∀ b o,h.get? b=some o->b∉fs->∃ o',B.get? b=some o')(sl:∀ b o,b∈fs->h.get? b=some o->H b=none->∃ sl,h2.get? b=some { o with slots:=sl })(th:∀ b o,b∈fs->h.get? b=some o->∃ o',h2.get? b=some o'):Un fs [] H H' h h2:=by
 have eq:∀ b o,h.get? b=some o->b∉fs->h2.get? b=h1.get? b:=fun b o e hf=>by
  obtain⟨o',e'⟩:=hb b o e hf;rw[b1 b o' e',b2 b o' e']
 refine⟨fun b o e n hf hx=>(eq b o e hf).trans (u.keep b o e n hf hx),fun b o e n hf hx=>sl b o hf e n,u.free,fun b o e hx=>?_,u.tups,u.frzs,u.tbls⟩
 by_cases hf:b∈fs
 ·exact th b o hf e
 ·rw[eq b o e hf];exact u.there b o e hx
theorem ll {P:Program}{w:World}{H:Hp}{h1 h2 B:Heap}(x:gF P w H h1)(b1:B.StaysIn h1)(b2:B.StaysIn h2)(hb:∀ b o,H b=some o->∃ o',B.get? b=some o'):gF P w H h2:=fun a o e =>
 (x a o e).stay (fun b u hc q=>by
  have:∃ o',B.get? b=some o':=by
   rcases hc with z | z
   ·rw[z];exact hb a o e
   ·exact hb b _ z
  obtain⟨o',e'⟩:=this;rw[b1 b o' e']at q;rw[<-q]
  exact b2 b o' e') (fun _ q=>q) fun _ _ q=>q
def sS (X:Cx)(E:XK):Prop:=∀ (pins:List (Addr×Obj))(σ:St)(H:Hp)(s:Shared)(ea C t:Addr)(od:Option Addr),aF X pins σ H s->s.heap.get? ea=some (wR C t od)->H ea=none->X.s₀.heap.get? ea=none->E (.ref C) od H->X.xe (.ref ea) s
section
variable {P:Program}{w:World}{K:PySem.W.Frag}{mg:Str->Option Value}{base:Heap}{N:List Str}{qual:Str}{sc:Scope}{f:Addr}{cd:Value}{A:Around}{outer:List Env}{s0:Shared}{H0:Hp}{E:XK}
theorem c8:sS (je (ij P w) P w K mg base N qual sc f cd A outer s0 H0 E) E:=by
 intro pins σ H s ea C t od I hx hn hs hE
 let X:Cx:=je (ij P w) P w K mg base N qual sc f cd A outer s0 H0 E
 show wpAny _ _ (leaving _ _) _ _ _
 have hstk:(X.A.frames:Option (List Env))=some (X.env::outer):=I.ok.frames
 have frS:dM X.stack=X.env.locals::dM outer:=by unfold dM;rfl
 let B:Heap:=PySem.W.hideAll s.heap (ea::dM X.stack)
 have hkb:B.StaysIn s.heap:=fun b o q=>PySem.W.of_hideAll _ q;have inB:∀ b o,s.heap.get? b=some o->b≠ea->b∉dM X.stack->B.get? b=some o:=fun b o e ne hf=>PySem.W.hideAll_get _ e (fun z=>(yh.mp z).elim ne hf);have hl:s.heap.FunFrames B (X.env::outer):=PySem.W.funFrames_hide I.stack fun env he a hf=>yc _ (List.mem_filterMap.mpr ⟨env,he,hf⟩);refine lz (s:=s) hstk rfl hkb hl hx (PySem.W.hideAll_none _ ya) rfl rfl fun h2 fl ups=>?_;have ltl:∀ b o,s0.heap.get? b=some o->b≠X.env.locals:=fun b o e=>yp (yi (yd e) I.ok.above)
 have h0B:∀ b o,s0.heap.get? b=some o->b∉dM outer->∃ o',B.get? b=some o':=fun b o e hf=>by
  obtain⟨o',e'⟩:=I.base.there b o e (by intro z;exact absurd (show b∈([]:List Addr) from z) (by simp));refine⟨o',inB b o' e' (fun z=>?_) ?_⟩
  ·have hs':s0.heap.get? ea=none:=hs
   rw[z,hs']at e;cases e
  ·rw[frS]
   intro z;rcases yh.mp z with z | z
   ·exact ltl b o e z
   ·exact hf z
 have trB:∀ b o,H b=some o->∃ o',B.get? b=some o':=fun b o e=>by
  obtain⟨u,q⟩:=(I.hok b o e).has;exact⟨u,inB b u q (fun z=>by rw[z,hn]at e;cases e) fun z=>by rw[I.stkFree b z]at e;cases e⟩
 have noEx:∀ b,b∉X.ex:=fun b z=>absurd (show b∈([]:List Addr) from z) (by simp)
 have slot2:∀ b o,b∈dM outer->s0.heap.get? b=some o->H0 b=none->∃ sl,h2.get? b=some { o with slots:=sl }:=fun b o hf e n=>by
  obtain⟨sl,e1⟩:=I.base.slot b o e n hf (noEx b);obtain⟨_,o2,ho2,hnf⟩:=I.ok.funs.mem hf
  have e2:o2=o:=by
   have:s0.heap.get? b=some o2:=ho2;rw[e]at this;exact (yE this).symm
  subst e2;obtain⟨sl2,e3⟩:=ups b _ e1 hnf;exact⟨sl2,e3⟩
 refine⟨ea,C,od,H,B,rfl,fl,?_,ll I.hok hkb fl.1 trB,I.os,I.bare,h0B,trB,hE⟩;refine o5 (h1:=s.heap) I.base hkb fl.1 h0B (fun b o hf e n=>?_) fun b o hf e=>?_
 ·exact slot2 b o hf e n
 ·obtain⟨sl,q⟩:=slot2 b o hf e (I.ok.frf b hf)
  exact⟨_,q⟩
theorem fZ:eD (ij P w) (je (ij P w) P w K mg base N qual sc f cd A outer s0 H0 E) E:=by
 intro pins σ H s e s' I hc;obtain⟨ea,C,od,H',B,rfl,fl,un,hok,os,bare,hsB,trB,hE⟩:=hc
 let X:Cx:=je (ij P w) P w K mg base N qual sc f cd A outer s0 H0 E
 show wpAny _ _ (leaving _ _) _ _ _
 have hstk:(X.A.frames:Option (List Env))=some (X.env::outer):=I.ok.frames
 have frS:dM X.stack=X.env.locals::dM outer:=by unfold dM;rfl
 refine jM hstk rfl fl fun h2 fl2 ups=>?_;have ltl:∀ b o,s0.heap.get? b=some o->b≠X.env.locals:=fun b o e=>yp (yi (yd e) I.ok.above);have noEx:∀ b,b∉X.ex:=fun b z=>absurd (show b∈([]:List Addr) from z) (by simp)
 have h0B:∀ b o,s0.heap.get? b=some o->b∉dM outer->∃ o',B.get? b=some o':=fun b o e hf=>by
  obtain⟨o',e'⟩:=I.base.there b o e (noEx b);refine hsB b o' e' ?_;rw[frS];intro z;rcases yh.mp z with z | z
  ·exact ltl b o e z
  ·exact hf z
 have unS:Un (dM outer) [] H0 H' s0.heap s'.heap:=by
  have u1:Un (dM outer) [] H0 H s0.heap s.heap:=I.base;refine⟨fun b o e n hf hx=>?_,fun b o e n hf hx=>?_,fun b o e n hx=>?_,fun b o e hx=>?_,fun b xs q=>un.tups b xs (u1.tups b xs q),fun b o u q=>un.frzs b o u (u1.frzs b o u q),fun b ps q=>?_⟩
  ·refine un.keep b o (u1.keep b o e n hf hx) (u1.free b o e n hx) ?_ hx
   rw[frS];intro z;rcases yh.mp z with z | z
   ·exact ltl b o e z
   ·exact hf z
  ·obtain⟨sl,e1⟩:=u1.slot b o e n hf hx
   obtain⟨sl2,e2⟩:=un.slot b _ e1 (u1.free b o e n hx) (by rw[frS];exact yc _ hf) hx;exact⟨sl2,e2⟩
  ·obtain⟨o',e'⟩:=u1.there b o e hx
   exact un.free b o' e' (u1.free b o e n hx) hx
  ·obtain⟨o',e'⟩:=u1.there b o e hx
   exact un.there b o' e' hx
  ·obtain⟨m1,e1⟩:=u1.tbls b ps q
   obtain⟨m2,e2⟩:=un.tbls b _ e1;exact⟨m1++m2,by rw[e2,Array.append_assoc]⟩
 have slot2:∀ b o,b∈dM outer->s0.heap.get? b=some o->H0 b=none->∃ sl,h2.get? b=some { o with slots:=sl }:=fun b o hf e n=>by
  obtain⟨sl,e1⟩:=unS.slot b o e n hf (by simp);obtain⟨_,o2,ho2,hnf⟩:=I.ok.funs.mem hf
  have e2:o2=o:=by
   have:s0.heap.get? b=some o2:=ho2;rw[e]at this;exact (yE this).symm
  subst e2;obtain⟨sl2,e3⟩:=ups b _ e1 hnf;exact⟨sl2,e3⟩
 refine⟨ea,C,od,H',B,rfl,fl2,?_,ll hok fl.1 fl2.1 trB,os.trans I.os,bare,h0B,trB,hE⟩;refine o5 (h1:=s'.heap) unS fl.1 fl2.1 h0B (fun b o hf e n=>slot2 b o hf e n) fun b o hf e=>?_;obtain⟨sl,q⟩:=slot2 b o hf e (I.ok.frf b hf);exact⟨_,q⟩
end
theorem aF.fresh0 {X:Cx}{pins:List (Addr×Obj)}{σ:St}{H:Hp}{s:Shared}{a:Addr}(I:aF X pins σ H s)(hx:a∉X.ex)(h:s.heap.get? a=none):X.s₀.heap.get? a=none:=by
 cases e:X.s₀.heap.get? a with
 | none=>rfl
 | some o =>
  obtain⟨o',q⟩:=I.base.there a o e hx;rw[h]at q;cases q
theorem aF.unheld {X:Cx}{pins:List (Addr×Obj)}{σ:St}{H:Hp}{s:Shared}{a:Addr}(I:aF X pins σ H s)(h:s.heap.get? a=none):H a=none:=by
 cases e:H a with
 | none=>rfl
 | some o =>
  obtain⟨u,q⟩:=(I.hok a o e).has;rw[h]at q;cases q
def uV (te:TE)(C:Addr)(E:XK):TS:=fun _ σ H=>te σ H fun _ H1=>E (.ref C) none H1
theorem da {X:Cx}{C:Addr}{E:XK}{x:Str}{e:Expr}{te:TE}{np cpos pos:Pos}(q:kT X.K C)(hfl:sS X E)(hex:X.ex=[])(hh:X.A.handled=none)(hg:Gl X x)(hm:X.mg x=some (.ref C))(he:PE X e te)
  (hdb:(x == ("__debug__" : Str))=false:=by decide) (hs:starEach [e] X.env=[(false,eval e X.env)]:=by rfl) :
  PS X (.Raise (some (.Call (.Name x np) [e] [] cpos)) none pos) (uV te C E):=by
 intro pins s σ H D I h;obtain⟨bm,N,nm,qn,bs,hdct,sn,sub,ab,col,dd,k0,k1,k2,k3,k5,mN,hC,hN,hni,T⟩:=rV I.ok.mod.kin q
 refine wpAny_Raise_call_subT (C:=C) (nm:=nm) (q:=qn) (N:=N) (bs:=bs) (bm:=bm) (hdct:=hdct) (sn:=sn) (sub:=sub) (ab:=ab) (col:=col) (dd:=dd) (k0:=k0) (k1:=k1) (k2:=k2) (k3:=k3) (k5:=k5)
  PySem.F.excBase_ValueError (mN:=mN) (T.hasType PySem.F.excBase_ValueError.hasBase) hh (by rw[hs];rfl) hni (eI I hg hm ⟨rfl,?_⟩ hdb)
 rw[hs];refine Calls.evalArgs_plain (zC (bK (he pins s σ H _ I h) fun u s1 ⟨v,H1,I1,rv,q1⟩=>Calls.spliced_nil ?_));refine⟨rfl,(show 1<=sizeLine by decide),I1.bk _ _ hC,hN.keeps I1.bk,T.keeps I1.bk,fun h' ea hx=>?_⟩;obtain⟨t,hea,_,_⟩:=hx.there;exact hfl pins σ H1 { s1 with heap:=h' } ea C t none (I1.kept (t':=s1.toks) hx.keeps) hea (I1.unheld hx.new) (I1.fresh0 (by rw[hex];simp) hx.new) q1
def vn (X:Cx)(pins:List (Addr×Obj))(σ:St)(H:Hp)(ea C:Addr)(od:Option Addr)(B:Heap)(s':Shared):Prop:=H ea=none/\∀ h2,im B X.stack ea (.ref C) od h2->s'.heap.UpToSlots h2->aF X pins σ H { s' with heap:=h2 }
theorem sf {X:Cx}{pins:List (Addr×Obj)}{σ:St}{H H':Hp}{s s':Shared}{ea C:Addr}{od:Option Addr}{B:Heap}(I:aF X pins σ H s)(fl:im B X.stack ea (.ref C) od s'.heap)(un:Un (dM X.stack) [] H H' s.heap s'.heap)(hok:gF X.prog X.w H' s'.heap)(os:s'.os=s.os)(bare:AllBare s'.gens)
  (hsB:∀ b o,s.heap.get? b=some o->b∉dM X.stack->∃ o',B.get? b=some o') (trB:∀ b o,H' b=some o->∃ o',B.get? b=some o'):vn X pins σ H' ea C od B s':=by
 refine⟨?_,fun h2 fl2 ups=>?_⟩
 ·cases e:H' ea with
  | none=>rfl
  | some o =>
   obtain⟨o',q⟩:=trB ea o e;rw[fl.2.1]at q;cases q
 have slot2:∀ b o,b∈dM X.stack->s.heap.get? b=some o->H b=none->∃ sl,h2.get? b=some { o with slots:=sl }:=fun b o hf e n=>by
  obtain⟨sl,e1⟩:=un.slot b o e n hf (by simp);obtain⟨_,o2,ho2,hnf⟩:=I.stack.mem hf
  have e2:o2=o:=by
   have:s.heap.get? b=some o2:=ho2;rw[e]at this;exact (yE this).symm
  subst e2;obtain⟨sl2,e3⟩:=ups b _ e1 hnf;exact⟨sl2,e3⟩
 refine I.call' (ch:=[]) (s':={ s' with heap:=h2 }) os ?_ (ll hok fl.1 fl2.1 trB) bare fun b z=>absurd z (by simp);refine o5 (h1:=s'.heap) un fl.1 fl2.1 hsB (fun b o hf e n=>slot2 b o hf e n) fun b o hf e=>?_;obtain⟨sl,q⟩:=slot2 b o hf e (I.stkFree b hf);exact⟨_,q⟩
def Cx.marked (X:Cx)(ea:Addr)(oe:Obj):Cx:={ X with A:=X.A.mark (some (.ref ea)),calm:=false,xe:=fun _ _=>False,pn:=(ea,oe)::X.pn }
theorem aF.marked {X:Cx}{pins:List (Addr×Obj)}{σ:St}{H:Hp}{s:Shared}{ea:Addr}{oe:Obj}{us:Array Value}(I:aF X pins σ H s)(he:s.heap.get? ea=some oe)(hd:oe.data=.fields us)(hn:H ea=none):aF (X.marked ea oe) pins σ H s:=by
 refine⟨⟨I.ok.mod,I.ok.kind,I.ok.glob,I.ok.blt,I.ok.above,I.ok.inj,I.ok.has,I.ok.cab,fun z=>(by cases z),I.ok.frames,I.ok.stk,I.ok.exf,I.ok.bs,I.ok.bsz,I.ok.noex,I.ok.exfs,I.ok.funs,I.ok.frf⟩,I.os,I.bare,I.base,I.loc,I.cell,I.free,I.freeC,fun p hp=>?_,I.hok,I.len⟩;rcases yh.mp (show p∈(ea,oe)::(X.pn++pins) from hp) with z | z
 ·subst z
  refine⟨he,hn,fun z=>?_,fun z=>?_,fun v z=>?_⟩
  ·obtain⟨m,⟨o,es,ep,ho,hdd,_⟩,_⟩:=I.loc
   have z:ea=X.env.locals:=z;rw[<-z,he]at ho;cases ho;rw[hd]at hdd;cases hdd
  ·obtain⟨_,o,ho,nf⟩:=I.funs.mem z
   rw[he]at ho;cases ho;exact nf us hd
  ·have z:oe.data=.cell v:=z
   rw[hd]at z;cases z
 ·exact I.pin p z
theorem aF.unmarked {X:Cx}{pins:List (Addr×Obj)}{σ:St}{H:Hp}{s:Shared}{ea:Addr}{oe:Obj}(ok:X.Ok)(I:aF (X.marked ea oe) pins σ H s):aF X pins σ H s :=
 ⟨ok,I.os,I.bare,I.base,I.loc,I.cell,I.free,I.freeC,fun p hp=>I.pin p (show p∈(ea,oe)::(X.pn++pins) from yc _ hp),I.hok,I.len⟩
theorem SP.unmarked {X:Cx}{pins:List (Addr×Obj)}{D:gH}{f:Flow}{s':Shared}{ea:Addr}{oe:Obj}(ok:X.Ok)(h:SP (X.marked ea oe) pins D f s'):SP X pins D f s':=by
 cases f with
 | next=>obtain⟨σ',H',I,q⟩:=h;exact⟨σ',H',I.unmarked ok,q⟩
 | brk=>obtain⟨σ',H',I,q⟩:=h;exact⟨σ',H',I.unmarked ok,q⟩
 | cont=>obtain⟨σ',H',I,q⟩:=h;exact⟨σ',H',I.unmarked ok,q⟩
 | ret u=>obtain⟨v,σ',H',I,r,q⟩:=h;exact⟨v,σ',H',I.unmarked ok,r,q⟩
def vp (X:Cx)(hdl:List ExceptHandler)(th:Value->Option Addr->TS):Prop:=∀ (pins:List (Addr×Obj))(σ:St)(H:Hp)(D:gH)(ea C:Addr)(od:Option Addr)(B:Heap)(s':Shared)(h:Heap),vn X pins σ H ea C od B s'->im B X.stack ea (.ref C) od h->s'.heap.UpToSlots h->th (.ref C) od D σ H ->
 wpAny (model X.prog X.w) X.A (handleBy (.ref ea) X.env hdl) (SP X pins D) X.xe { s' with heap:=h }
theorem sy {X:Cx}{y:Str}{C1:Addr}{b0:Stmt}{suite:List Stmt}{t1:TS}{th:Value->Option Addr->TS}{np pos:Pos}{rest:List ExceptHandler}(hg:Gl X y)(hm:X.mg y=some (.ref C1))(hs:∀ ea oe,mm (X.marked ea oe) (b0::suite) t1)(hr:vp X rest th)
  (hdb:(y == ("__debug__" : Str))=false:=by decide):vp X (.ExceptHandler (some (.Name y np)) none (b0::suite) pos::rest) (fun cls od D σ H=>∃ b,PySem.W.exmOne X.K cls (.ref C1)=some b/\if b=true then t1 D σ H else th cls od D σ H):=by
 intro pins σ H D ea C od B s' h ld fl ups ht;obtain⟨b,hb,ht⟩:=ht;have I:=ld.2 h fl ups;obtain⟨ob,us,hob,hobc,hobd,hobf⟩:=fl.obj;have Im:=I.marked (ea:=ea) hob hobf ld.1
 have LT:PySem.W.Looks (model X.prog X.w) h (typeOf (.ref ea)) (.ref C):=by
  rw[<-hobc];exact (PySem.W.Looks.ld hob).andThen .now
 refine wpAny_handleBy_cons (codeAny_handlers_test (eI (X:=X.marked ea ob) Im hg hm ?_ hdb)) (by intro z;cases z);refine (PySem.W.exm_one (K:=X.K) I.kIn LT hb).here ?_
 cases b with
 | true =>
  rw[ym rfl]at ht;refine codeAny_handlers_suite ?_;refine lx fl fun h6 fl6 ups6=>?_;obtain⟨oe,us6,hoe,hoec,hoed,hoef⟩:=fl6.obj;have I6:=(ld.2 h6 fl6 (ups.trans ups6)).marked (ea:=ea) hoe hoef ld.1;exact y4 (hs ea oe pins _ σ H D I6 ht) (fun f s2 hq=>hq.unmarked I.ok) fun _ _ z=>z.elim
 | false =>
  rw[yf ye]at ht;exact hr pins σ H D ea C od B s' h ld fl ups ht
theorem uP {X:Cx}:vp X [] (fun _ _ _ _ _=>False):=fun _ _ _ _ _ _ _ _ _ _ _ _ _ h=>h.elim
def tu (sp:Sp)(t:TA)(i:Nat)(th:Value->Option Addr->TS):TS:=fun D σ H=>t σ H fun vs H1=>sp vs H1 (fun v H2=>D.nx (σ.set i (some v)) H2) (fun cls od H2=>th cls od D σ H2)
theorem oo {X:Cx}{k:Nat}{f:Addr}{fd:FuncData}{ps:List Str}{sp:Sp}{i:Nat}{x fn:Str}{e:Expr}{es:List Expr}{t:TA}{hd0:ExceptHandler}{hdl:List ExceptHandler}{th:Value->Option Addr->TS}{px p cpos spos pos:Pos}
  (G:bc X.prog X.w X.K X.mg X.base (ij X.prog X.w) k f fd ps sp) (hr:cz k X.A) (hg:Gl X fn) (hm:X.mg fn=some (.ref f)) (hk:PySem.W.keepIn X.K (.ref f)=true) (hb:fk X.K fd ps []) (ha:PA X.nox (e::es) t)
  (hst:X.stack=X.env::X.outer) (hfr:X.env.frame=some X.env.locals) (hN:X.N.Nodup) (hi:X.N[i]? = some x) (hx:qa X.env.scope x) (hh:vp X (hd0::hdl) th)
  (hs:swapsWith (.Call (.Name fn p) (e::es) [] cpos) (some (.Name x px)) spos.line X.env=pure false:=by rfl) (hf:X.fn x=true\/X.env.scope.names.lookup x=some .local:=by first | exact .inl rfl | exact .inr rfl | assumption)
  (hdb:(fn == ("__debug__" : Str))=false:=by decide) (he:starEach (e::es) X.env=(false,eval e X.env)::starEach es X.env:=by rfl) (hpl:(backTo cpos (starEach es X.env)).any (·.1)=false:=by rfl) :
  PS X (.Try [.Assign [.Name x px] (.Call (.Name fn p) (e::es) [] cpos) spos] (hd0::hdl) [] [] pos) (tu sp t i th):=by
 intro pins s σ H D I h;refine wpAny_Try_except ?_;refine wpAny_execs_cons ?_;refine wpAny_Assign_Name ?_ hs;refine zd (eI I hg hm ?_ hdb);refine PySem.W.callWith_K (h₀:=X.base) I.ok.mod.kin hk (y4 (ha cpos pins s σ H _ (I.wish _) h) (fun us s1 ⟨vs,H1,I1,r,q⟩=>⟨I1.unwish.kIn,?_⟩) fun _ _ z=>z.elim) he hpl;have I1:=I1.unwish
 have hl:us.length=ps.length:=by rw[<-r.length];exact G.len _ _ _ _ q
 have hb':=hb s1 us I1.kIn (by rw[zp];exact hl);rw[zp]at hb';refine wpAny_call (zw (G.run X.A X.stack s1 H1 ⟨us,[]⟩ us vs _ _ hr I1.env0 hb' r q) fun rs s' hq=>?_)
 cases rs with
 | error er =>
  obtain⟨ea,C,od,H',B,rfl,fl,un,hok,os,bare,hsB,trB,hE⟩:=hq;have ld:=sf I1 fl un hok os bare hsB trB;have fl':=fl;rw[hst]at fl';refine pH (by rw[I.ok.frames,hst]) hfr fl' fun h4 held ups4=>?_;refine uB held fun h5 fl5 ups5=>?_;rw[<-hst]at fl5;exact hh pins σ H' D ea C od B s' h5 ld fl5 (ups4.trans ups5) hE
 | ok fl =>
  cases fl with
  | ret u =>
   obtain⟨v,H2,I2,rv,q2⟩:=I1.after hq;exact hX I2 hN hi hx rv (fun s3 I3=>zB (zB ⟨_,H2,I3,q2⟩)) hf
  | next=>exact False.elim hq
  | brk=>exact False.elim hq
  | cont=>exact False.elim hq
theorem ee.okX {P:Program}{w:World}{K:PySem.W.Frag}{mg:Str->Option Value}{base:Heap}{x qual:Str}{st:Stmt}{f:Addr}{fd:FuncData}{N ps:List Str}{k:Nat}{sp:Sp}(F:ee K x qual st f fd)(S:aH N ps (aj st))(len:∀ vs H Q E,sp vs H Q E->vs.length=ps.length)
  (hbody:∀ (cdv:Value)(A:Around)(outer:List Env)(s:Shared)(H:Hp)(vs:List V)(Q:VK)(E:XK),cz k (A.deeper (envOfC qual (aj st) s.heap.objs.size f cdv))->sp vs H Q E ->
   ∃ t,mm (je (ij P w) P w K mg base N qual (aj st) f cdv A outer s H E) (cQ st) t/\t { nx:=fun _ H'=>Q .non H',rt:=Q } (gm N vs) H):bc P w K mg base (ij P w) (k+1) f fd ps sp:=by
 obtain⟨oc,od,kV,doc,pm,an,cdv,ct,osl,rfl,lk,hcd⟩:=F.ex;exact qr lk hcd S len fun A outer s H vs Q E hr hsp=>hbody cdv A outer s H vs Q E hr hsp
def PJ (X:Cx)(es:List Expr)(t:TA):Prop:=∀ (out:Str)(m:Nat)(pins:List (Addr×Obj))(s:Shared)(σ:St)(H:Hp)(Q:VK),out.length<=1000*m->m+es.length<=100->aF X pins σ H s->t σ H (fun _ H'=>∀ x:Str,Q (.str x) H')->wpAny (model X.prog X.w) X.A (joinParts out (evalEach es X.env)) (EP X pins σ Q) X.xe s
theorem lQ {X:Cx}:PJ X [] kt:=by
 intro out m pins s σ H Q ho hm I h;refine joinParts_nil ⟨.str out,H,I.tok _,⟨_,rfl⟩,h out⟩ ?_;exact yR ho (yR (Nat.mul_le_mul_left 1000 (show m<=100 by simpa using hm)) (by decide))
def tJ (te:TE)(t:TA):TA:=fun σ H Q=>te σ H fun x H1=>∃ y:Str,x=.str y/\y.length<=1000/\t σ H1 Q
theorem dW {X:Cx}{e:Expr}{es:List Expr}{te:TE}{t:TA}(he:PE X e te)(h:PJ X es t):PJ X (e::es) (tJ te t):=by
 intro out m pins s σ H Q ho hm I hq
 show wpAny _ _ (joinParts out (eval e X.env::evalEach es X.env)) _ _ s
 refine joinParts_cons (bK (he pins s σ H _ I hq) fun u s1 ⟨x,H1,I1,rx,y,ex,hy,q1⟩=>?_);subst ex;obtain⟨tk,rfl⟩:=rx
 have hl:(out++y).length<=1000*(m+1):=by rw[strLen_append];omega
 rw[yy]at hm;refine⟨yR hl (yR (Nat.mul_le_mul_left 1000 (show m+1<=100 by omega)) (by decide)),?_⟩;exact h (out++y) (m+1) pins s1 σ H1 Q hl (by omega) I1 q1
def xT (t:TA):TE:=fun σ H Q=>t σ H fun _ H'=>∀ x:Str,Q (.str x) H'
theorem jo {X:Cx}{e1 e2:Expr}{es:List Expr}{t:TA}{pos:Pos}(h:PJ X (e1::e2::es) t)(hn:(e1::e2::es).length<=100:=by decide):PE X (.JoinedStr (e1::e2::es) pos) (xT t):=by
 intro pins s σ H Q I hq;refine JoinedStr_many ?_;exact h Str.empty 0 pins s σ H Q (by show 0<=_;exact yT _) (by simpa using hn) I hq
def xS (te:TE):TE:=fun σ H Q=>te σ H fun x H1=>∃ i:Int,x=.int i/\i.natAbs<10 ^ 100/\∀ y:Str,y.length<=1000->Q (.str y) H1
theorem lN {X:Cx}{e:Expr}{te:TE}{pos:Pos}(he:PE X e te):PE X (.FormattedValue e (-1) none pos) (xS te):=by
 intro pins s σ H Q I h;refine FormattedValue_plain (bK (he pins s σ H _ I h) fun u s1 ⟨x,H1,I1,rx,i,ex,hi,q⟩=>?_);subst ex;obtain⟨tk,rfl⟩:=rx
 have hd:i.natAbs.log2<1920:=by
  by_cases h0:i.natAbs=0
  ·rw[h0];decide
  ·exact (Nat.log2_lt h0).mpr (yi hi (by decide +kernel))
 refine wpAny_formatField_int hd ⟨.str (toString i),H1,I1.tok _,⟨_,rfl⟩,q _ ?_⟩;have:=PySem.int_text_length_le10 (a:=i) (k:=100) (by decide) hi
 show (Str.ofString (toString i)).length<=1000
 rw[PySem.ofString_length];omega
end L2
namespace Wz
open PySem L2
def bR (P:Program)(w:World)(K:PySem.W.Frag)(mg:Str->Option Value)(base:Heap)(x:Str)(k:Nat)(ps:List Str)(sp:Sp):Prop :=
 ∃ (f:Addr)(fd:FuncData),bc P w K mg base (ij P w) k f fd ps sp/\mg x=some (.ref f)/\PySem.W.keepIn K (.ref f)=true/\fk K fd ps []
section
variable {X:Cx}{CX:ku}{k:Nat}{C:Addr}{ps:List Str}{sp:Sp}{E:XK}{m x:Str}{p pos apos:Pos}{e o:Expr}{es:List Expr}{ta:TE}{t:TA}
theorem j4 (M:bR X.prog X.w X.K X.mg X.base x k ps sp)(hr:cz k X.A)(hg:Gl X x)(hx:eD (ij X.prog X.w) X E)(ha:PA X (e::es) t)
  (hdb:(x == ("__debug__" : Str))=false:=by decide) (he:starEach (e::es) X.env=(false,eval e X.env)::starEach es X.env:=by rfl) (hpl:(backTo pos (starEach es X.env)).any (·.1)=false:=by rfl) :
  PE X (.Call (.Name x p) (e::es) [] pos) (nu sp [] E t):=by
 obtain⟨f,fd,G,hm,hk,hb⟩:=M;exact oS G hr hg hm hk hb .nil hx ha hdb he hpl
theorem xb {X:Cx}{k:Nat}{ps:List Str}{sp:Sp}{i:Nat}{x fn:Str}{e:Expr}{es:List Expr}{t:TA}{hd0:ExceptHandler}{hdl:List ExceptHandler}{th:Value->Option Addr->TS}{px p cpos spos pos:Pos}
  (M:bR X.prog X.w X.K X.mg X.base fn k ps sp) (hr:cz k X.A) (hg:Gl X fn) (ha:PA X.nox (e::es) t)
  (hst:X.stack=X.env::X.outer) (hfr:X.env.frame=some X.env.locals) (hN:X.N.Nodup) (hi:X.N[i]? = some x) (hx:qa X.env.scope x) (hh:vp X (hd0::hdl) th)
  (hs:swapsWith (.Call (.Name fn p) (e::es) [] cpos) (some (.Name x px)) spos.line X.env=pure false:=by rfl) (hf:X.fn x=true\/X.env.scope.names.lookup x=some .local:=by first | exact .inl rfl | exact .inr rfl | assumption)
  (hdb:(fn == ("__debug__" : Str))=false:=by decide) (he:starEach (e::es) X.env=(false,eval e X.env)::starEach es X.env:=by rfl) (hpl:(backTo cpos (starEach es X.env)).any (·.1)=false:=by rfl) :
  PS X (.Try [.Assign [.Name x px] (.Call (.Name fn p) (e::es) [] cpos) spos] (hd0::hdl) [] [] pos) (tu sp t i th):=by
 obtain⟨f,fd,G,hm,hk,hb⟩:=M;exact oo G hr hg hm hk hb ha hst hfr hN hi hx hh hs hf hdb he hpl
end
theorem wU {A:Around}{k n:Nat}(hr:cz k A)(h:n<=200):A.units+n<cLine:=by have:=hr.un;omega
end Wz
namespace L2
open PySem PySem.Spec PyProof.Rows
theorem kA {X:Cx}:ec X (.builtin "len") (fun xs H Q=>∃ p S n,xs=[.ref p]/\H p=some (.set S n)/\Q (.int n) H):=by
 intro pins s σ H xs us Q I r h;obtain⟨p,S,n,rfl,hp,q⟩:=h;obtain⟨u,rfl,rx⟩:=fi r;cases rx;obtain⟨o,es,ep,t,ho,hex,hd,_,_,hb,hf,hn⟩:=(show s.heap.SetOf (intKind X.prog X.w) p S n from I.hok p _ hp);subst hn;refine call_len_set ho hex hd hf ?_ ⟨.int es.size,H,I.tok _,⟨_,rfl⟩,q⟩;have:es.size<4096:=hb;omega
end L2
namespace Qs
open PySem PySem.W PyProof.Rows
structure xX (n:Nat)(lt:Nat->Nat->Bool):Prop where
 irr:∀ i,lt i i=false
 tot:∀ i j,i<n->j<n->i≠j->lt i j=true\/lt j i=true
 tr:∀ i j k,lt i j=true->lt j k=true->lt i k=true
def ask {α:Type}(lt:Nat->Nat->Bool):KasT α->α
 | .ret a=>a
 | .ask i j k=>ask lt (k (lt i j))
def xy {α:Type}(n:Nat)(lt:Nat->Nat->Bool):KasT α->Prop
 | .ret _=>True
 | .ask i j k=>i<n/\j<n/\xy n lt (k (lt i j))
def x0 {α:Type}(n:Nat)(lt:Nat->Nat->Bool)(t:KasT α)(R:α->Prop):Prop:=xy n lt t/\R (ask lt t)
section
variable {n:Nat}{lt:Nat->Nat->Bool}{p:Array Nat}
def Pm (n:Nat)(p:Array Nat):Prop:=p.Perm (List.toArray (List.range n))
def Up (lt:Nat->Nat->Bool)(p:Array Nat)(k:Nat):Prop:=∀ i j,i<j->j<k->lt (p.getD i 0) (p.getD j 0)=true
def Dn (lt:Nat->Nat->Bool)(p:Array Nat)(k:Nat):Prop:=∀ i j,i<j->j<k->lt (p.getD j 0) (p.getD i 0)=true
end
def xF (p q:Int×Int):Bool:=decide (p.1<q.1\/(p.1=q.1/\p.2<q.2))
def xO (ps:List (Int×Int))(i j:Nat):Bool:=xF (ps.getD i (0,0)) (ps.getD j (0,0))
def t9 (h:Heap)(v:Value)(p:Int×Int):Prop:=∃ (b:Addr)(o:Obj)(n:Nat)(t u:Tok),v=.ref b/\h.get? b=some o/\o.cls=.type "tuple"/\o.data=.seq #[.int p.1 t,.int p.2 u] n
section
variable {prog:Program}{w:World}{A:Around}{E:Value->Shared->Prop}{s:Shared}
def wK (vs:List Value)(ps:List (Int×Int))(out:List Value):Prop:=∃ ix:List Nat,ix.Perm (List.range vs.length)/\out=ix.map (fun i=>vs.getD i Value.none)/\(ix.map fun i=>ps.getD i (0,0)).Pairwise (fun a b=>xF a b=true)
end
def xE (h:Heap)(d:Addr)(es:Array DictEntry)(ep:Nat):Prop:=∃ o,h.get? d=some o/\o.ExactDict/\o.data=.dict es ep
end Qs
namespace Wz
open PySem PySem.Spec PyProof.Rows L2
theorem nL {α:Type}(d:α)(l:List α):(List.range l.length).map (fun i=>l.getD i d)=l:=by
 apply List.ext_getElem?
 intro i;rw[List.getElem?_map]
 by_cases hi:i<l.length
 ·rw[List.getElem?_range hi];simp[hi]
 ·rw[List.getElem?_eq_none (by simp;omega),List.getElem?_eq_none (by omega)];rfl
open PySem L2
theorem rX {i j c:Int}(hi:0<=i/\i<100)(hj:0<=j/\j<100)(h:fW i c=fW j c):i=j:=by
 have ht0:0<=cV c*1234567891%2147483646:=yX _ (by decide);have ht1:cV c*1234567891%2147483646<2147483646:=yJ _ (by decide);unfold fW at h;dsimp only at h;generalize cV c*1234567891%2147483646=t0 at *;generalize cV c/2147483646=q at *
 have h2:(i*(1+t0)+q)%2147483647=(j*(1+t0)+q)%2147483647:=by
  by_cases e:cV c%5=4
  ·rw[ym e,ym e]at h;omega
  ·rw[yf e,yf e]at h;exact h
 have h3:(2147483647:Int) ∣ (i-j)*(1+t0):=by
  have h5:=Int.dvd_of_emod_eq_zero (Int.emod_eq_emod_iff_emod_sub_eq_zero.mp h2)
  have e:i*(1+t0)+q-(j*(1+t0)+q)=(i-j)*(1+t0):=by rw[Int.sub_mul];omega
  rw[e]at h5;exact h5
 have key:∀ d:Nat,d<100->d≠0->Nat.gcd 2147483647 d=1:=by decide +kernel
 by_cases hij:i=j
 ·exact hij
 exfalso
 have h6:2147483647 ∣ (i-j).natAbs*(1+t0).natAbs:=by
  have:=Int.natAbs_dvd_natAbs.mpr h3;rw[Int.natAbs_mul]at this;exact this
 have h7:2147483647 ∣ (1+t0).natAbs:=Nat.Coprime.dvd_of_dvd_mul_left (key _ (by omega) (by omega)) h6;have:=Nat.le_of_dvd (by omega) h7;omega
end Wz
namespace L2
open PySem PySem.Spec PyProof.Rows
theorem sX (xs:List V):kj xs (some 1) none=xs.drop 1:=by
 unfold kj;rw[show HT.sIx xs.length 0 (some 1)=min 1 xs.length from HT.sIx_nat _ _ 1,HT.sIx_none]
 by_cases h:xs=[]
 ·subst h;rfl
 ·have:0<xs.length:=List.length_pos_iff.mpr h
  rw[show min 1 xs.length=1 by omega,List.take_of_length_le (by rw[yn];omega)]
end L2
namespace Wz
open PySem L2
theorem qm (xs:List V)(n:Nat):kj xs (some (n:Int)) none=xs.drop n:=by
 unfold kj;rw[HT.sIx_nat,HT.sIx_none]
 by_cases h:n<=xs.length
 ·rw[zg h,List.take_of_length_le (by rw[yn];exact x8 _)]
 ·rw[Nat.min_eq_right (by omega),List.drop_length,List.drop_of_length_le (by omega)];simp
end Wz
namespace L2
open PySem
theorem cz.m {j k:Nat}{A:Around}(r:cz k A)(h:j<=k:=by decide):cz j A:=r.mono h
theorem cx {X:Cx}{e:Expr}{t:TE}(h:PE X e t)(hs:starEach [e] X.env=(false,eval e X.env)::starEach [] X.env:=by rfl):PA X [e] (fh t kt):=aO h bn hs
theorem dI {X:Cx}{e e2:Expr}{t t2:TE}(h:PE X e t)(h2:PE X e2 t2)(hs:starEach [e,e2] X.env=(false,eval e X.env)::starEach [e2] X.env:=by rfl)(hs2:starEach [e2] X.env=(false,eval e2 X.env)::starEach [] X.env:=by rfl):PA X [e,e2] (fh t (fh t2 kt)):=aO h (aO h2 bn hs2) hs
theorem mW {X:Cx}{e e2 e3:Expr}{t t2 t3:TE}(h:PE X e t)(h2:PE X e2 t2)(h3:PE X e3 t3)(hs:starEach [e,e2,e3] X.env=(false,eval e X.env)::starEach [e2,e3] X.env:=by rfl)(hs2:starEach [e2,e3] X.env=(false,eval e2 X.env)::starEach [e3] X.env:=by rfl)(hs3:starEach [e3] X.env=(false,eval e3 X.env)::starEach [] X.env:=by rfl):PA X [e,e2,e3] (fh t (fh t2 (fh t3 kt))):=aO h (aO h2 (aO h3 bn hs3) hs2) hs
theorem aZ {X:Cx}{pos:Pos}(i:Nat){x:Str}{e:Expr}{te:TE}{pos':Pos}(hN:X.N.Nodup)(he:PE X e te)(hi:X.N[i]? = some x:=by rfl)(hx:qa X.env.scope x:=by first | exact Or.inl rfl | exact Or.inr rfl)(hs:swapsWith e (some (.Name x pos')) pos.line X.env=pure false:=by rfl)(hf:X.fn x=true\/X.env.scope.names.lookup x=some .local:=by first | exact .inl rfl | exact .inr rfl | assumption) :
  PS X (.Assign [.Name x pos'] e pos) (rm te (gh i)):=di hN hi hx he hs hf
theorem fJ {X:Cx}{pos:Pos}(i:Nat){x:Str}(hN:X.N.Nodup)(hi:X.N[i]? = some x:=by rfl)(hx:qa X.env.scope x:=by first | exact Or.inl rfl | exact Or.inr rfl)(hf:X.fn x=true\/X.env.scope.names.lookup x=some .local:=by first | exact .inl rfl | exact .inr rfl | assumption):PG X (.Name x pos) (gh i):=lP hN hi hx hf
theorem oF {so sc:Scope}{N N':List Str}{src:List (Option Nat)}(a:sc.kind=.function:=by rfl)(b:∀ y∈sc.names,y.2≠.cell:=by decide +kernel)(c:∀ y∈sc.names,y.2=.local->sc.names.lookup y.1=some .local:=by decide +kernel)(d:∀ y∈sc.names,y.2=.free->so.names.lookup y.1=some .cell\/so.names.lookup y.1=some .free:=by decide +kernel)(e:N'.Nodup:=by decide +kernel)(f:src.length=N'.length:=by rfl)
  (g:∀ p∈N'.zip src,(match p.2 with | none=>true | some j=>decide (N[j]? = some p.1/\sc.names.lookup p.1=some .free))=true:=by decide +kernel):p8 so sc N N' src:=⟨a,b,c,d,e,f,g⟩
theorem ie {N P:List Str}{sc:Scope}(a:sc.kind=.function:=by rfl)(b:sc.isCoroutine=false:=by rfl)(c:sc.isGenerator=false:=by rfl)(d:N.Nodup:=by decide +kernel)(e:N.take P.length=P:=by rfl)(f:∀ x∈P,sc.names.lookup x=some .local\/sc.names.lookup x=some .cell:=by decide +kernel)(g:∀ y∈sc.names,y.2≠.free:=by decide +kernel):aH N P sc:=⟨a,b,c,d,e,f,g⟩
end L2
namespace Wz
open PySem L2
def aY (K:PySem.W.Frag)(x:Str)(st:Stmt):Prop:=∃ (f:Addr)(fd:FuncData),PySem.W.nsIn K mainGlobals x=some (some (.ref f))/\ee K x x st f fd
theorem fact_mk {K:PySem.W.Frag}{x:Str}{st:Stmt}{f:Addr}{oc:Value}{od an:Option Addr}{osl:Array (Option Value)}{kV doc pm cdv ct:Value}(a:PySem.W.nsIn K mainGlobals x=some (some (.ref f)))(l:K.lookup f=some ⟨oc,od,.func (PySem.W.fnOf x x (eH st) (cQ st) (aj st) .none kV doc pm an cdv ct),osl⟩)
  (c:PySem.W.codeIn K cdv x=true) (k:PySem.W.keepIn K (.ref f)=true):aY K x st:=⟨f,_,a,uk l c k⟩
section
variable {P:Program}{w:World}{K:PySem.W.Frag}{h base:Heap}{mg:Str->Option Value}{x m q:Str}{st:Stmt}{k:Nat}{ps:List Str}{sp:Sp}{C:Addr}{CX:ku}
theorem vE {n:Nat}{P:List Value->Prop}(h:∀ (a:Value)(vs:List Value),vs.length=n->P (a::vs)):∀ us:List Value,us.length=n+1->P us
 | a::vs,e=>h a vs (Nat.succ.inj e)
theorem vD {P:List Value->Prop}(h:P []):∀ us:List Value,us.length=0->P us
 | [],_=>h
theorem jg (X:K.In h)(G:h.Ns mainGlobals mg)(F:aY K x st)(ok:∀ f fd,ee K x x st f fd->bc P w K mg base gE k f fd ps sp)
  (hb:∀ (kV doc pm:Value)(an:Option Addr)(cdv ct:Value)(us:List Value),us.length=ps.length->bindArgs (PySem.W.fnOf x x (eH st) (cQ st) (aj st) .none kV doc pm an cdv ct) ⟨us,[]⟩=pure (ps.zip us):=by intro _ _ _ _ _ _;(repeat refine vE fun _=>?_);exact vD rfl):aA P w K mg base x k ps sp:=by
 obtain⟨f,fd,a,g⟩:=F;exact⟨f,fd,ok f fd g,yY X G a,g.kp,g.binds hb⟩
theorem vI (X:K.In h)(G:h.Ns mainGlobals mg)(F:aY K x st)(ok:∀ f fd,ee K x x st f fd->bc P w K mg base (ij P w) k f fd ps sp)
  (hb:∀ (kV doc pm:Value)(an:Option Addr)(cdv ct:Value)(us:List Value),us.length=ps.length->bindArgs (PySem.W.fnOf x x (eH st) (cQ st) (aj st) .none kV doc pm an cdv ct) ⟨us,[]⟩=pure (ps.zip us):=by intro _ _ _ _ _ _;(repeat refine vE fun _=>?_);exact vD rfl):bR P w K mg base x k ps sp:=by
 obtain⟨f,fd,a,g⟩:=F;exact⟨f,fd,ok f fd g,yY X G a,g.kp,g.binds hb⟩
end
end Wz
namespace L2
open PySem PySem.Spec PyProof.Rows
theorem pF {i:Int}(h:i.natAbs<10 ^ 100):i.natAbs.log2<1920:=by
 by_cases h0:i.natAbs=0
 ·rw[h0];decide
 ·rw[Nat.log2_lt h0]
  exact Nat.lt_trans h (by decide +kernel)
theorem qh {X:Cx}:ec X (.type "str") (fun xs H Q=>(∃ s,xs=[.str s]/\Q (.str s) H)\/∃ i:Int,xs=[.int i]/\i.natAbs<10 ^ 100/\Q (.str (Str.ofString (toString i))) H):=by
 intro pins s σ H xs us Q I r h;rcases h with ⟨z,rfl,q⟩ | ⟨i,rfl,hi,q⟩
 ·obtain⟨u,rfl,rx⟩:=fi r
  obtain⟨t,rfl⟩:=rx;exact P.str_of_str ⟨.str z,H,I,⟨t,rfl⟩,q⟩
 ·obtain⟨u,rfl,rx⟩:=fi r
  obtain⟨t,rfl⟩:=rx;exact P.str_of_int (pF hi) ⟨.str _,H,I.tok _,⟨_,rfl⟩,q⟩
theorem kP:∀ {ts:List Str}{its:List Value},aR (ts.map V.str) its->∃ l:List (Str×Tok),its=strValues l/\l.map (·.1)=ts
 | [],its,r=>by
  have:=r.length;refine⟨[],?_,rfl⟩;exact List.eq_nil_of_length_eq_zero this.symm
 | t::ts,its,r=>by
  cases r with
  | cons rx rt =>
   obtain⟨l,e1,e2⟩:=kP rt;obtain⟨k,rfl⟩:=rx;exact⟨(t,k)::l,by rw[e1];rfl,by rw[yD,e2]⟩
def tj (K:PySem.W.Frag):V->List V->Hp->VK->Prop:=fun x vs H Q=>∃ sep l ts,x=.str sep/\vs=[.ref l]/\bC K H l (ts.map V.str)/\JoinOk sep ts=true/\Q (.str (Txt.join sep ts)) H
theorem sk {X:Cx}(K:PySem.W.Frag)(hK:X.K=K:=by rfl):wI X "str.join" (tj K):=by
 subst hK;intro pins s σ H x xs v us Q I rx rv h;obtain⟨sep,l,ts,rfl,rfl,hq,ok,q⟩:=h;obtain⟨t,rfl⟩:=rx;obtain⟨u,rfl,ru⟩:=fi rv;cases ru;obtain⟨its,rl,pl,hz⟩:=I.list hq;obtain⟨ls,rfl,e⟩:=kP rl;exact SC.join pl.isList e ok fun t' k=>⟨.str _,H,I.tok _,⟨_,rfl⟩,q⟩
theorem oU {X:Cx}(K:PySem.W.Frag){o e:Expr}{to te:TE}{apos cpos:Pos}(ho:PE X o to)(he:PE X e te)(hK:X.K=K:=by rfl)(hbase:attributeBase o "join" X.env (eval o X.env)=eval o X.env:=by rfl)
  (hfew:((backTo cpos (starEach [e] X.env)).all (fun x=>!x.1)&&(backToKw cpos (keywordEach [] X.env)).all (fun x=>x.1.isSome)&&decide ([e].length+([]:List Keyword).length+(if ([]:List Keyword).isEmpty then 0 else 1)<30))=true:=by rfl)
  (hline:(apos.endLine == cpos.line)=true:=by rfl) (hs:starEach [e] X.env=(false,eval e X.env)::starEach [] X.env:=by rfl) (hplain:(backTo cpos (starEach [] X.env)).any (·.1)=false:=by rfl) :
  PE X (.Call (.Attribute o "join" apos) [e] [] cpos) (xH K "str" (tj K) to (fh te kt)):=by
 subst hK;exact ek PySem.F.plainAttrs_str PySem.F.slot_str_join PySem.F.type_str_join (sk X.K) ho (aO he bn hs) hbase hfew hline hs hplain
end L2
namespace Wz
open PySem L2
def gS (g:Int):Str:=Str.ofString (toString g)
theorem oP {sep:Str}{ts:List Str}{B:Nat}(h:∀ y∈ts,y.length<=B)(hl:ts.length*B+ts.length*sep.length<=16777216):JoinOk sep ts=true:=by
 unfold JoinOk;rw[StrLaws.joinFits h hl];rfl
end Wz
namespace PySem
open Sem (wp)
section
variable {M:Model}{A:Around}{E:Value->Shared->Prop}{s:Shared}{env:Env}
def vd (M:Model)(A:Around)(E:Value->Shared->Prop)(use:Option (Value->Sem Unit))(Q:Value->Shared->Prop)(acc:Value)(C:Addr)(fr:Option Addr)(r:Result)(s':Shared):Prop :=
 match r,use with
 | .ok _,none=>∃ m,s'.heap.Ns C m/\∀ h',Heap.SameBut C s'.heap h'->Q acc { s' with heap:=h' }
 | .ok _,some u=>wpAny M A (u acc) (fun _ s''=>∃ m,s''.heap.Ns C m/\∀ h',Heap.SameBut C s''.heap h'->Q .none { s'' with heap:=h' }) E s'
 | .error x,_=>∃ m,s'.heap.Ns C m/\∀ h',Heap.SameBut C s'.heap h'->∀ cenv:Env,cenv.frame=fr->wpAny M A (passOn "comprehension.variables-let-go" x cenv:Sem Value) (fun _ _=>False) E { s' with heap:=h' }
end
end PySem
namespace Wz
open PySem L2
theorem uK {X:Cx}{x:Str}{k:Nat}{ps:List Str}{sp:Sp}{p pos:Pos}(C:aA X.prog X.w X.K X.mg X.base x k ps sp)(hr:cz k X.A)(hg:Gl X x)
  (hdb:(x == ("__debug__" : Str))=false:=by decide):PE X (.Call (.Name x p) [] [] pos) (nu sp [] E0 kt):=by
 obtain⟨f,fd,G,hm,hk,hb⟩:=C;exact qP G hr hg hm hk hb .nil sY hdb
end Wz
namespace L2
open PySem PySem.Spec PyProof.Rows
abbrev nQ (qual:Str)(scope:Scope)(s:Shared)(f c':Addr)(y:Str)(cy:Addr):Env:=PySem.W.envX qual scope s.heap.objs.size f (.ref c') [(y,cy)]
def kD (CX:ku)(P:Program)(w:World)(K:PySem.W.Frag)(mg:Str->Option Value)(base:Heap)(N:List Str)(qual:Str)(scope:Scope)(f c':Addr)(y:Str)(cy:Addr)(A:Around)(outer:List Env)(s:Shared)(H:Hp)(E:XK):Cx where
 prog:=P
 w:=w
 K:=K
 mg:=mg
 base:=base
 A:=A.deeper (nQ qual scope s f c' y cy)
 N:=N
 s₀:=s
 H₀:=H
 env:=nQ qual scope s f c' y cy
 outer:=outer
 stack:=nQ qual scope s f c' y cy::outer
 ex:=[]
 calm:=true
 fn:=fun _=>false
 pn:=[]
 xe:=fun e s'=>wpAny (model P w) (A.deeper (nQ qual scope s f c' y cy)) (leaving (nQ qual scope s f c' y cy) e) (fun _ s''=>CX outer H s E e s'') (fun e' s''=>CX outer H s E e' s'') s'
structure mj (ps:List Str)(y:Str)(sc:Scope):Prop where
 kind:sc.kind=.function
 co:sc.isCoroutine=false
 gen:sc.isGenerator=false
 nd:(ps++[y]).Nodup
 par:∀ x∈ps,sc.names.lookup x=some .local
 nocell:∀ z∈sc.names,z.2≠.cell
 fr:∀ x,sc.names.lookup x=some .free->x=y
 fry:sc.names.lookup y=some .free
structure kv (base:Heap)(qual:Str)(params:Arguments)(body:Expr)(scope:Scope)(y:Str)(vy:V)(f c' cy:Addr)(pm ct:Value):Prop where
 ob:base.get? f=some (PySem.W.kla_obj "<lambda>" qual params body scope [(y,cy)] pm c' ct)
 cell:∃ u,be vy u/\base.IsCell cy (some u)
def fA (H:Hp)(c':Addr)(qual:Str):Prop:=∃ oc vs t,H c'=some (.frz oc (.own c'))/\oc.data=.fields vs/\vs[1]? = some (.str qual t)
theorem fA.rec {P:Program}{w:World}{H:Hp}{h:Heap}{c':Addr}{qual:Str}(x:fA H c' qual)(ok:gF P w H h):h.CodeRec (.ref c') qual:=by
 obtain⟨oc,vs,t,e,d,v⟩:=x;exact⟨c',oc,vs,t,rfl,(ok c' _ e).1,d,v⟩
theorem oR {α:Type}{x:Str}{u:α}:∀ {l:List (Str×α)},(l.map (·.1)).Nodup->(x,u)∈l->l.lookup x=some u
 | p::l,nd,h=>by
  rw[yD,zD]at nd;rw[yo];rcases yh.mp h with e | e
  ·rw[<-e];simp
  ·have ne:(x == p.1)=false:=by
    rw[y0];exact fun z=>nd.1 (by rw[<-z];exact yZ (f:=(·.1)) e)
   rw[ne];exact oR nd.2 e
theorem rH {ps:List Str}{us:List Value}{i:Nat}{x:Str}{u:Value}(nd:ps.Nodup)(hl:ps.length=us.length)(h1:ps[i]? = some x)(h2:us[i]? = some u):(ps.zip us).reverse.lookup x=some u:=by
 refine oR ?_ ?_
 ·rw[List.map_reverse,List.map_fst_zip (by omega)]
  exact (List.reverse_perm ps).nodup_iff.mpr nd
 ·rw[List.mem_reverse]
  exact yH (i:=i) (List.getElem?_zip_eq_some.mpr ⟨h1,h2⟩)
theorem pC {CX:ku}{P:Program}{w:World}{K:PySem.W.Frag}{mg:Str->Option Value}{base:Heap}{ps:List Str}{y:Str}{qual:Str}{params:Arguments}{body:Expr}{scope:Scope}{vy:V}{f c' cy:Addr}{pm ct:Value}{A:Around}{outer:List Env}{s:Shared}{h1:Heap}{tk:Nat}{H:Hp}{E:XK}{us:List Value}{vs:List V}
  (S:mj ps y scope) (Lm:kv base qual params body scope y vy f c' cy pm ct) (hd:A.handled=none) (e0:o8 P w K mg base A outer s H) (hl:vs.length=ps.length) (r:aR vs us)
  (hns:h1.Ns s.heap.objs.size (fun x=>(ps.zip us).reverse.lookup x)) (hk:∀ b o,s.heap.get? b=some o->h1.get? b=some o) :
  aF (kD CX P w K mg base (ps++[y]) qual scope f c' y cy A outer s H E) [] (vs.map some++[some vy]) H { s with heap:=h1,toks:=tk }:=by
 have noA:∀ b:Addr,b∉(kD CX P w K mg base (ps++[y]) qual scope f c' y cy A outer s H E).ex:=fun b z=>absurd (show b∈([]:List Addr) from z) (by simp);obtain⟨uy,ry,oc,hoc,hdc⟩:=Lm.cell
 have lk:∀ x c,List.lookup x [(y,cy)]=some c->x=y/\c=cy:=fun x c h=>by
  rw[yo]at h
  cases e:x == y with
  | true=>rw[e]at h;cases h;exact⟨eq_of_beq e,rfl⟩
  | false=>rw[e]at h;cases h
 have lky:List.lookup y [(y,cy)]=some cy:=by rw[yo,beq_self_eq_true]
 refine⟨⟨e0.mod,S.kind,rfl,rfl,x8 _,fun x z c h1 h2=>?_,fun x hx=>?_,fun x c h=>?_,fun _=>hd,Around.frames_deeper e0.frames,.inr ⟨rfl,rfl⟩,fun b z=>absurd z (noA b),e0.bs,e0.bsz,fun b _ _=>noA b,fun b z=>absurd z (noA b),e0.funs,e0.frf⟩,
  rfl,e0.bare,Un.kept hk,⟨_,hns,fun i x v h1 h2 h3=>?_⟩,fun x c h=>?_,e0.hok.fresh (x8 _),fun x c h=>?_,fun p hp=>absurd (show p∈([]:List (Addr×Obj)) from hp) (by simp),e0.hok.kept hk,?_⟩
 ·rw[(lk x c h1).1,(lk z c h2).1]
 ·have hx:scope.names.lookup x=some .cell\/scope.names.lookup x=some .free:=hx
  rcases hx with q | q
  ·exact absurd rfl (S.nocell _ (y9 q))
  ·exact⟨cy,by rw[S.fr x q];exact lky⟩
 ·cases h
 ·by_cases hi:i<ps.length
  ·have hp:ps[i]? = some x:=by
    have h1:(ps++[y])[i]? = some x:=h1;rw[List.getElem?_append_left hi]at h1;exact h1
   have ha:vs[i]? = some v:=by
    have h2:(vs.map some++[some vy])[i]? = some (some v):=h2;rw[List.getElem?_append_left (by simpa [hl] using hi),List.getElem?_map]at h2
    cases e:vs[i]? with
    | none=>rw[e]at h2;cases h2
    | some a=>rw[e]at h2;cases h2;rfl
   obtain⟨u,hu,rv⟩:=r.get ha;refine⟨u,rv,.inl ⟨S.par x (yH hp),?_⟩⟩;exact rH (List.nodup_append.mp S.nd).1 (by rw[<-r.length,hl]) hp hu
  ·have h1:(ps++[y])[i]? = some x:=h1
   have hi2:i=ps.length:=by have:=(List.getElem?_eq_some_iff.mp h1).1;simp at this;omega
   have h2:(vs.map some++[some vy])[i]? = some (some v):=h2;rw[hi2,List.getElem?_append_right (x8 _),Nat.sub_self]at h1;rw[hi2,List.getElem?_append_right (by simp[hl]),show ps.length-(vs.map some).length=0 by simp[hl]]at h2;cases h1;cases h2;exact⟨uy,ry,.inr ⟨.inr S.fry,cy,lky,oc,hk _ _ (e0.bs _ _ hoc).1,hdc⟩⟩
 ·obtain⟨rfl,rfl⟩:=lk x c h
  exact⟨_,oc,hk _ _ (e0.bs _ _ hoc).1,hdc⟩
 ·obtain⟨rfl,rfl⟩:=lk x c h
  exact (e0.bs _ _ hoc).2
 ·show (vs.map some++[some vy]).length=(ps++[y]).length
  simp[hl]
theorem uA {CX:ku}{P:Program}{w:World}{K:PySem.W.Frag}{mg:Str->Option Value}{base:Heap}{k:Nat}{ps:List Str}{y:Str}{qual:Str}{params:Arguments}{body:Expr}{scope:Scope}{vy:V}{f c' cy:Addr}{pm ct:Value}{sp:Sp}
  (S:mj ps y scope) (Lm:kv base qual params body scope y vy f c' cy pm ct)
  (len:∀ vs H Q E,sp vs H Q E->vs.length=ps.length) (hcd:∀ vs H Q E,sp vs H Q E->fA H c' qual)
  (hbody:∀ (A:Around)(outer:List Env)(s:Shared)(H:Hp)(vs:List V)(Q:VK)(E:XK),cz k (A.deeper (nQ qual scope s f c' y cy))->sp vs H Q E ->
   ∃ t,PE (kD CX P w K mg base (ps++[y]) qual scope f c' y cy A outer s H E) body t/\t (vs.map some++[some vy]) H Q) :
  bc P w K mg base CX (k+1) f (PySem.W.kla_fn "<lambda>" qual params body scope [(y,cy)] pm (.ref c') ct) ps sp:=by
 refine⟨len,fun A outer s H args us vs Q E hr e0 hb r hsp=>?_⟩;have hl:=len _ _ _ _ hsp;have hkp:∀ b o,base.get? b=some o->s.heap.get? b=some o:=fun b o e=>(e0.bs b o e).1;have lim:s.heap.NoLimit:=e0.mod.nolimit.keeps hkp;refine PySem.W.kla_callFunE hr.depth (hkp _ _ Lm.ob) rfl S.co S.gen rfl ((hcd _ _ _ _ hsp).rec e0.hok) (hb _ _ _ _ ?_);refine wpAny_newFunctionEnv S.nocell (fun z hz=>S.par z.1 (List.of_mem_zip hz).1) (fun h1 hns hsb=>⟨lim.fresh _ hsb,?_⟩) S.kind;have hk1:∀ b o,s.heap.get? b=some o->h1.get? b=some o:=fun b o e=>hsb.extBut b o (yp (yd e)) (Heap.get?_push_of_some _ e)
 show codeAny _ _ (.expr body (nQ qual scope s f c' y cy)) _ _
 obtain⟨t,ht,hq⟩:=hbody A outer s H vs Q E (hr.deeper _) hsp;have I:aF (kD CX P w K mg base (ps++[y]) qual scope f c' y cy A outer s H E) [] (vs.map some++[some vy]) H { s with heap:=h1,toks:=s.toks+(ps.zip us).length }:=pC S Lm hr.hd e0 hl r hns hk1;refine PySem.W.kla_codeExpr (y4 (ht [] _ _ H Q I hq) (fun u s' ⟨v,H',J,rv,q⟩=>?_) fun e s' hs=>hs);exact⟨v,H',J.os,J.bare,J.base,J.hok,rv,q⟩
def gG (K:PySem.W.Frag)(c P:Addr):Prop:=∃ (o:Obj)(vs:Array Value)(file:Str)(tf:Tok)(flags:Int)(tg:Tok)(inF:Bool)(text:Int)(tt:Tok),K.lookup c=some o/\o.cls=.type "code"/\o.data=.fields vs/\vs[11]? = some (.ref P)/\vs.getD 11 .none=.ref P/\vs.getD 18 .none=.str file tf /\
  vs.getD 7 .none=.int flags tg/\vs.getD 9 .none=.bool inF/\vs.getD 10 .none=.int text tt/\c≠P
theorem gG.hd {K:PySem.W.Frag}{c P:Addr}{h:Heap}(x:gG K c P)(k:K.In h):PySem.W.CodeHd h c P:=by
 obtain⟨o,vs,file,tf,flags,tg,inF,text,tt,e,r⟩:=x;exact⟨o,vs,file,tf,flags,tg,inF,text,tt,k _ _ e,r⟩
def ii (mg:Str->Option Value)(base:Heap):Prop:=∃ bm ob,mg "__builtins__" = some (.ref bm)/\bm≠builtinsNs/\base.get? bm=some ob/\ob.cls=.type "module"/\ob.dict=some builtinsNs/\ob.data=.plain
def TabI (H:Hp)(P:Addr)(pos:Pos)(qual:Str):Prop:=H P=some (.tbl #[])\/∃ c',H P=some (.tbl #[rawInt pos.line,rawInt pos.col,.ref c'])/\fA H c' qual
theorem TabI.tbl {H:Hp}{P:Addr}{pos:Pos}{qual:Str}(x:TabI H P pos qual):∃ ps,H P=some (.tbl ps):=x.elim (fun e=>⟨_,e⟩) fun ⟨_,e,_⟩=>⟨_,e⟩
theorem TabI.same {H H':Hp}{P:Addr}{pos:Pos}{qual:Str}(x:TabI H P pos qual)(s:aG H H'):TabI H' P pos qual:=by
 rcases x with e | ⟨c',e,oc,vs,t,e2,r⟩
 ·exact .inl (s _ _ e)
 ·exact .inr ⟨c',s _ _ e,oc,vs,t,s _ _ e2,r⟩
section
variable {X:Cx}{pins:List (Addr×Obj)}{σ:St}{H:Hp}{s:Shared}
theorem qB {A:Around}{E:Value->Shared->Prop}{params:Arguments}{body:Expr}{scope:Scope}{pos:Pos}{y:Str}{c0 P cy:Addr}{qual:Str}{Q:Value->Shared->Prop}(I:aF X pins σ H s)(hc:X.env.code=.ref c0)(C:gG X.K c0 P)(B:ii X.mg X.base)(hq:X.env.qual++"<lambda>" = qual)
  (hT:TabI H P pos qual) (hdf:defaultsOf params X.env=([],[])) (hcl:closureFor scope X.env=pure [(y,cy)]) (hcy:X.env.cells.lookup y=some cy)
  (h:∀ (f c':Addr)(pm ct:Value)(H':Hp)(s':Shared),aF X pins σ H' s'->s'.heap.get? f=some (PySem.W.kla_obj "<lambda>" qual params body scope [(y,cy)] pm c' ct)->s.heap.objs.size<=f->H' f=none->fA H' c' qual->TabI H' P pos qual->(∀ b o,H b=some o->b≠P->H' b=some o) ->
   (∀ b o,s.heap.get? b=some o->b≠P->s'.heap.get? b=some o)->Q (.ref f) s') :
  wpAny (model X.prog X.w) A (eval (.Lambda params body scope pos) X.env) Q E s:=by
 refine PySem.W.kla_eval hdf ?_;rw[hq];have kb:=I.bk;have CH:=C.hd I.kIn;obtain⟨bm,ob,b1,b2,b3,b4,b5,b6⟩:=B;have gN:s.heap.Ns mainGlobals X.mg:=I.ok.mod.glob.keeps kb;obtain⟨ps,hps⟩:=hT.tbl;have hPo:s.heap.get? P=some (PySem.W.tabObj ps):=I.hok P _ hps
 have nP:∀ b o,X.base.get? b=some o->b≠P:=fun b o e z=>by rw[z]at e;rw[(I.bs _ _ e).2]at hps;cases hps
 have gP:mainGlobals≠P:=fun z=>by
  obtain⟨o,es,ep,e,hd,_⟩:=I.ok.mod.glob;exact nP _ _ e z
 have bG:bm≠mainGlobals:=fun z=>by
  obtain⟨o,es,ep,e,hd,_⟩:=I.ok.mod.glob;rw[z,e]at b3;cases b3;rw[hd]at b6;cases b6
 have hb:s.heap.BuiltinsAt X.mg P:=⟨bm,ob,b1,b2,bG,nP _ _ b3,kb _ _ b3,b4,b5,b6⟩;rcases hT with hT | ⟨c',hT,hcf⟩
 ·rw[hps]at hT
  cases hT;refine PySem.W.kla_makeFunction (mg:=X.mg) hcl I.ok.glob gN hc CH hPo (by trivial) rfl gP hb fun c' ctv h' tk hx hge hlt hrec htb=>?_;obtain⟨c1,oc,vs,t,e1,hoc,hdc,hvc⟩:=hrec;cases e1;have hcH:H c'=none:=I.hok.fresh hge
  have cP:c'≠P:=fun z=>by rw[z,hps]at hcH;cases hcH
  have fH:H h'.objs.size=none:=I.hok.fresh (yR hge (Nat.le_of_lt hlt))
  have fP:h'.objs.size≠P:=fun z=>by rw[z,hps]at fH;cases fH
  have fc:h'.objs.size≠c':=Nat.ne_of_gt hlt;have kk:∀ b o,s.heap.get? b=some o->b≠P->(h'.push (PySem.W.kla_obj "<lambda>" qual params body scope [(y,cy)] ((X.mg "__name__").getD .none) c' ctv)).get? b=some o:=fun b o e n=>Heap.get?_push_of_some _ (hx b o n e);have lt0:∀ b o,s.heap.get? b=some o->b≠c':=fun b o e z=>absurd (yi (yd (z▸e)) hge) (zq _)
  have ltH:∀ b o,H b=some o->b≠c':=fun b o e z=>by rw[z,hcH]at e;cases e
  have I1:aF X pins σ (bE (bE H P (.tbl (#[]++#[rawInt pos.line,rawInt pos.col,.ref c']))) c' (.frz oc (.own c'))) { s with heap:=h'.push (PySem.W.kla_obj "<lambda>" qual params body scope [(y,cy)] ((X.mg "__name__").getD .none) c' ctv),toks:=tk }:=by
   have hne:∀ b o,H b=some o->b≠P->bE (bE H P (.tbl (#[]++#[rawInt pos.line,rawInt pos.col,.ref c']))) c' (.frz oc (.own c')) b=some o:=fun b o e n=>by rw[aL (ltH b o e),aL n];exact e
   refine I.un ⟨fun b o e n _ _=>kk b o e (fun z=>by rw[z,hps]at n;cases n),fun b o e n _ _=>⟨o.slots,kk b o e (fun z=>by rw[z,hps]at n;cases n)⟩,fun b o e n _=>?_,fun b o e _=>?_,fun b xs e=>hne b _ e (fun z=>by rw[z,hps]at e;cases e),fun b o u e=>hne b _ e (fun z=>by rw[z,hps]at e;cases e),fun b qs e=>?_⟩ fun b u e=>?_
   ·rw[aL (lt0 b o e),aL (fun z=>by rw[z,hps]at n;cases n)];exact n
   ·by_cases z:b=P
    ·exact⟨_,by rw[z];exact Heap.get?_push_of_some _ htb⟩
    ·exact⟨o,kk b o e z⟩
   ·by_cases z:b=P
    ·rw[z,hps]at e;cases e
     exact⟨#[rawInt pos.line,rawInt pos.col,.ref c'],by rw[z,aL (zk cP),af]⟩
    ·exact⟨#[],by rw[hne b _ e z];simp⟩
   ·by_cases z:b=c'
    ·rw[z,af]at e
     cases e;rw[z];exact⟨Heap.get?_push_of_some _ hoc,_,Heap.get?_push_of_some _ hoc⟩
    ·rw[aL z]at e
     by_cases z2:b=P
     ·rw[z2,af]at e
      cases e;rw[z2];exact Heap.get?_push_of_some _ htb
     ·rw[aL z2]at e
      refine (I.hok b u e).stay (fun d v hd q=>kk d v q ?_) (fun d q=>hne d _ q (fun z=>by rw[z,hps]at q;cases q)) fun d xs q=>hne d _ q (fun z=>by rw[z,hps]at q;cases q);rcases hd with r | r
      ·rw[r];exact z2
      ·exact fun z=>by rw[z,hps]at r;cases r
  have cf:fA (bE (bE H P (.tbl (#[]++#[rawInt pos.line,rawInt pos.col,.ref c']))) c' (.frz oc (.own c'))) c' qual:=⟨oc,vs,t,af,hdc,hvc⟩;refine h _ c' _ ctv _ _ I1 (Heap.get?_push_size _ rfl) (yR hge (Nat.le_of_lt hlt)) ?_ cf (.inr ⟨c',?_,cf⟩) (fun b o e n=>?_) kk
  ·rw[aL fc,aL fP];exact fH
  ·rw[aL (zk cP),af];rfl
  ·rw[aL (ltH b o e),aL n];exact e
 ·rw[hps]at hT
  cases hT;refine PySem.W.kla_makeFunctionHit (cv:=.ref c') (mg:=X.mg) hcl I.ok.glob gN hc CH hPo ?_ ?_ hb fun ctv h' tk hk hsz=>?_
  ·exact True.intro
  ·exact codeAmong_snoc (pos:=pos) (c:=.ref c') [] True.intro rfl
  have fH:H h'.objs.size=none:=I.hok.fresh hsz;have kk:∀ b o,s.heap.get? b=some o->(h'.push (PySem.W.kla_obj "<lambda>" qual params body scope [(y,cy)] ((X.mg "__name__").getD .none) c' ctv)).get? b=some o:=fun b o e=>Heap.get?_push_of_some _ (hk b o e);exact h _ c' _ ctv H _ (I.kept kk) (Heap.get?_push_size _ rfl) hsz fH hcf (.inr ⟨c',hps,hcf⟩) (fun b o e _=>e) (fun b o e _=>kk b o e)
theorem i5 {h base base':Heap}:∀ {l:List Env},h.FunFrames base l->(∀ b∈dM l,base'.get? b=none)->h.FunFrames base' l
 | [],_,_=>trivial
 | env::r,hl,hn=>by
  obtain⟨hk,⟨L,o,hf,hb,ho,hd⟩,hr⟩:=hl
  have e:dM (env::r)=L::dM r:=by unfold dM;rw[List.filterMap_cons,hf]
  rw[e]at hn;exact⟨hk,⟨L,o,hf,hn L ya,ho,hd⟩,i5 hr fun b hb=>hn b (yc _ hb)⟩
def jC (base h:Heap)(f cy:Addr):Heap:=PySem.W.hideAll h ((List.range h.objs.size).filter fun b=>decide (base.get? b=none/\b≠f/\b≠cy))
theorem eE {base h:Heap}{f cy b:Addr}{o:Obj}(e:h.get? b=some o)(hb:(∃ o,base.get? b=some o)\/b=f\/b=cy):(jC base h f cy).get? b=some o:=by
 refine PySem.W.hideAll_get _ e fun z=>?_;obtain⟨n1,n2,n3⟩:=yI (List.mem_filter.mp z).2;rcases hb with ⟨o,q⟩ | q | q
 ·rw[n1]at q;cases q
 ·exact n2 q
 ·exact n3 q
theorem kK {base h:Heap}{f cy b:Addr}{o:Obj}(e:(jC base h f cy).get? b=some o):h.get? b=some o/\((∃ o,base.get? b=some o)\/b=f\/b=cy):=by
 have e1:=PySem.W.of_hideAll _ e;refine⟨e1,?_⟩
 by_cases z:base.get? b=none/\b≠f/\b≠cy
 ·have:(jC base h f cy).get? b=none:=PySem.W.hideAll_none _ (List.mem_filter.mpr ⟨List.mem_range.mpr (yd e1),x5 z⟩)
  rw[this]at e;cases e
 ·by_cases z1:b=f
  ·exact .inr (.inl z1)
  by_cases z2:b=cy
  ·exact .inr (.inr z2)
  cases q:base.get? b with
  | none=>exact absurd ⟨q,z1,z2⟩ z
  | some o=>exact .inl ⟨o,rfl⟩
theorem Mod.keeps {K:PySem.W.Frag}{mg:Str->Option Value}{base base':Heap}(m:Mod K mg base)(k:∀ b o,base.get? b=some o->base'.get? b=some o):Mod K mg base' :=
 ⟨m.kin.keeps k,m.glob.keeps k,let ⟨mb,h1,h2⟩:=m.blt;⟨mb,h1.keeps k,h2⟩,m.nolimit.keeps k⟩
theorem qA {f cy:Addr}{y:Str}(I:aF X pins σ H s)(hf:H f=none)(hfo:∃ o,s.heap.get? f=some o)(hs0:X.env.locals<f)(hcy:X.env.cells.lookup y=some cy)(hfn:X.fn y=true):o8 X.prog X.w X.K X.mg (jC X.base s.heap f cy) X.A X.stack s H:=by
 have e0:=I.env0
 have nf:∀ b∈dM X.stack,b≠f/\b≠cy:=fun b hb=>by
  rcases yh.mp (I.stkSub b hb) with z | z
  ·exact⟨by rw[z];exact yp hs0,by rw[z];exact (I.cne y cy hcy).symm⟩
  ·obtain⟨_,o,ho,_⟩:=I.ok.funs.mem z
   have l1:=yd ho;have l2:=I.ok.cab y cy hfn hcy;have l3:=I.ok.above;exact⟨yp (Nat.lt_trans (yi l1 l3) hs0),yp (yi l1 l2)⟩
 refine⟨e0.frames,I.ok.mod.keeps fun b o e=>eE (I.bk b o e) (.inl ⟨o,e⟩),fun b o e=>?_,Nat.le_of_eq (PySem.W.hideAll_size _ _),i5 e0.funs fun b hb=>?_,e0.frf,e0.hok,e0.bare⟩
 ·obtain⟨e1,z⟩:=kK e
  refine⟨e1,?_⟩;rcases z with ⟨o',z⟩ | z | z
  ·exact (I.bs b o' z).2
  ·rw[z];exact hf
  ·rw[z];exact I.freeC y cy hcy
 ·cases q:(jC X.base s.heap f cy).get? b with
  | none=>rfl
  | some o =>
   obtain⟨_,z⟩:=kK q;rcases z with ⟨o',z⟩ | z | z
   ·have:=(I.stack.mem hb).1
    rw[this]at z;cases z
   ·exact absurd z (nf b hb).1
   ·exact absurd z (nf b hb).2
end
section
variable {X:Cx}{CX:ku}{k:Nat}{E:XK}{x y:Str}{p pos:Pos}{e e1 e2:Expr}{es:List Expr}{te t1 t2:TE}{t:TA}
theorem qQ {i:Nat}{f:Addr}{fd:FuncData}{ps:List Str}{sp:Sp}{o:Obj}(F:bc X.prog X.w X.K X.mg X.base CX k f fd ps sp)(hr:cz k X.A)(hN:X.N[i]? = some x)(hv:vt X.env.scope x)(ho:X.base.get? f=some o)(hd:o.data=.func fd)
  (hb:∀ (s:Shared)(us:List Value),us.length=ps.length->BindsTo s fd ⟨us,[]⟩ (ps.zip us)) (hx:eD CX X E) (ha:PA X (e::es) t)
  (hdb:(x == ("__debug__" : Str))=false:=by decide) (hcd:(x == ("__classdict__" : Str))=false:=by decide) (he:starEach (e::es) X.env=(false,eval e X.env)::starEach es X.env:=by rfl) (hpl:(backTo pos (starEach es X.env)).any (·.1)=false:=by rfl) :
  PE X (.Call (.Name x p) (e::es) [] pos) (fun σ H Q=>σ[i]? = some (some (.ref f))/\t σ H fun vs H1=>sp vs H1 Q E):=by
 intro pins s σ H Q I h;obtain⟨hσ,h⟩:=h;refine zd (bK (qS hN hv hdb hcd pins s σ H (fun v H'=>v=.ref f/\H'=H) I ⟨_,hσ,rfl,rfl⟩) fun u s1 ⟨v,H1,I1,rv,ev,eh⟩=>?_);subst ev eh;obtain rfl:u=Value.ref f:=rv
 have kp:∀ h:Heap,h.get? f=some o->∃ k,(k=Keeper.frame\/k=Keeper.machine\/k=Keeper.boundFrame)/\PySem.W.Looks (model X.prog X.w) h (keeperOf (.ref f)) k:=fun h q=>by
  obtain⟨oc,od,dt,sl⟩:=o;have hd:dt=.func fd:=hd;subst hd;exact⟨.frame,.inl rfl,(PySem.W.Looks.ld (part:=none) q).andThen .now⟩
 rw[he];refine PySem.W.callWith_of (P:=fun h=>h.get? f=some o) (by show ((false||(backTo pos (starEach es X.env)).any (·.1))||false)=false;rw[hpl];rfl) kp (Calls.evalArgs_plain ?_);have hA:=ha pos pins s1 σ H1 _ I1 h;rw[he]at hA;refine bK hA fun us s2 ⟨vs,H2,I2,r,q⟩=>⟨(I2.bs _ _ ho).1,?_⟩
 have hl:us.length=ps.length:=by rw[<-r.length];exact F.len _ _ _ _ q
 refine wpAny_call (zw (F.run X.A X.stack s2 H2 ⟨us,[]⟩ us vs Q E hr I2.env0 (hb s2 us hl) r q) fun r s' hq=>?_)
 cases r with
 | error e=>exact hx pins σ H2 s2 e s' I2 hq
 | ok fl =>
  cases fl with
  | ret u=>exact I2.after hq
  | next=>exact False.elim hq
  | brk=>exact False.elim hq
  | cont=>exact False.elim hq
end
theorem ee.okXC {P:Program}{w:World}{K:PySem.W.Frag}{mg:Str->Option Value}{base:Heap}{x qual:Str}{st:Stmt}{f c0:Addr}{fd:FuncData}{N ps:List Str}{k:Nat}{sp:Sp}(F:ee K x qual st f fd)(S:aH N ps (aj st))(hco:fd.code=.ref c0)(len:∀ vs H Q E,sp vs H Q E->vs.length=ps.length)
  (hbody:∀ (A:Around)(outer:List Env)(s:Shared)(H:Hp)(vs:List V)(Q:VK)(E:XK),cz k (A.deeper (envOfC qual (aj st) s.heap.objs.size f (.ref c0)))->sp vs H Q E ->
   ∃ t,mm (je (ij P w) P w K mg base N qual (aj st) f (.ref c0) A outer s H E) (cQ st) t/\t { nx:=fun _ H'=>Q .non H',rt:=Q } (gm N vs) H):bc P w K mg base (ij P w) (k+1) f fd ps sp:=by
 obtain⟨oc,od,kV,doc,pm,an,cdv,ct,osl,rfl,lk,hcd⟩:=F.ex;have e:cdv=.ref c0:=hco;subst e;exact qr lk hcd S len fun A outer s H vs Q E hr hsp=>hbody A outer s H vs Q E hr hsp
def r9 (e:Expr):Arguments:=match e with | .Lambda a _ _ _=>a | _=>{ posonlyargs:=[],args:=[],vararg:=none,kwonlyargs:=[],kw_defaults:=[],kwarg:=none,defaults:=[] }
def se (e:Expr):Expr:=match e with | .Lambda _ b _ _=>b | _=>e
def qy (e:Expr):Scope:=match e with | .Lambda _ _ s _=>s | _=>{ kind:=.function,names:=[],isGenerator:=false,isCoroutine:=false }
def wZ (e:Expr):Pos:=match e with | .Lambda _ _ _ p=>p | _=>⟨0,0,0,0⟩
end L2
namespace Wz
open PySem L2
inductive ke (K:PySem.W.Frag) (P0:Addr) (vs:List V) (H:Hp) (Q:VK) (E_:XK):Prop
 | mk (a:Addr) (ns:List Int) (h_0:vs=[.ref a]) (h_1:bC K H a (ns.map V.int)) (h_2:ns.length<=63) (h_3:H P0=some (.tbl #[])) (h_4:∀ H',Q (.bl true) H'):ke K P0 vs H Q E_
theorem TabI.put {H:Hp}{P l:Addr}{pos:Pos}{qual:Str}{xs:List V}{o:HO}(x:TabI H P pos qual)(e:H l=some (.lst xs)):TabI (bE H l o) P pos qual:=by
 rcases x with q | ⟨c',q,oc,vs,t,e2,r⟩
 ·exact .inl (by rw[aL (qE q e (by intro z;cases z))];exact q)
 ·exact .inr ⟨c',by rw[aL (qE q e (by intro z;cases z))];exact q,oc,vs,t,by rw[aL (qE e2 e (by intro z;cases z))];exact e2,r⟩
end Wz
namespace L2
open PySem PySem.Spec PyProof.Rows
theorem kN {K:PySem.W.Frag}{x:Str}{c P:Addr}(h:PySem.W.tabIn K x=some (c,P)):∃ (f:Addr)(oc:Value)(od:Option Addr)(fd:FuncData)(osl:Array (Option Value))(o:Obj)(vs:Array Value),PySem.W.nsIn K mainGlobals x=some (some (.ref f))/\K.lookup f=some ⟨oc,od,.func fd,osl⟩/\fd.code=.ref c/\K.lookup c=some o/\o.data=.fields vs/\vs[11]? = some (.ref P):=by
 unfold PySem.W.tabIn at h;split at h
 ·rename_i f hf
  split at h
  ·rename_i oc od fd osl hfo
   split at h
   ·rename_i c₂ hc
    split at h
    ·rename_i a1 a2 vs a3 hco
     split at h
     ·rename_i P₂ hv
      cases h;exact⟨f,oc,od,fd,osl,_,vs,hf,hfo,hc,hco,rfl,hv⟩
     ·cases h
    ·cases h
   ·cases h
  ·cases h
 ·cases h
theorem rA {K:PySem.W.Frag}{x qual:Str}{st:Stmt}{c P f:Addr}{fd:FuncData}(h:PySem.W.tabIn K x=some (c,P))(hf:PySem.W.nsIn K mainGlobals x=some (some (.ref f)))(F:ee K x qual st f fd):fd.code=.ref c:=by
 obtain⟨f',oc,od,fd',osl,o,vs,e1,e2,e3,_⟩:=kN h;rw[hf]at e1;cases e1;obtain⟨oc2,od2,kV,doc,pm,an,cdv,ct,osl2,e4,lk,_⟩:=F.ex;rw[e2]at lk;cases lk;exact e3
theorem qj {K:PySem.W.Frag}{x:Str}{c P:Addr}{h:Heap}(ht:PySem.W.tabIn K x=some (c,P))(X:K.In h)(C:PySem.W.CodeHd h c P):gG K c P:=by
 obtain⟨f',oc,od,fd',osl,o,vs,e1,e2,e3,e4,e5,e6⟩:=kN ht;obtain⟨o',vs',file,tf,flags,tg,inF,text,tt,g,r⟩:=C;have:=X _ _ e4;rw[g]at this;cases this;exact⟨o,vs',file,tf,flags,tg,inF,text,tt,e4,r⟩
theorem pD {P:Program}{w:World}{K:PySem.W.Frag}{mg mb:Str->Option Value}{CX:ku}{k:Nat}{fa a c0 P0:Addr}{fd:FuncData}{x:Str}{sp:Sp}{s₁:Shared}{vs:List Value}{ns:List Int}
  (KX:K.In s₁.heap) (hns:s₁.heap.Ns mainGlobals mg) (hb:s₁.heap.Ns builtinsNs mb) (hbb:∀ x:Str,x≠"__name__"->mb x=bootBuiltins x) (hlim:s₁.heap.NoLimit) (hg:s₁.gens = #[])
  (ha:s₁.heap.get? a=some { cls:=.type "list",data:=.seq vs.toArray }) (hi:IntsAre vs ns) (hl:ns.length<=sizeLine) (hr:cz k callerA)
  (hK:PySem.W.noTabs K=true) (C:PySem.W.CodeHd s₁.heap c0 P0) (hP:s₁.heap.get? P0=some (PySem.W.tabObj #[])) (BM:ii mg s₁.heap)
  (F:∀ base:Heap,K.In base->base.Ns mainGlobals mg->ii mg base->bc P w K mg base CX k fa fd [x] sp) (hbind:∀ (s:Shared)(u:Value),BindsTo s fd ⟨[u],[]⟩ [(x,u)])
  (hsp:∀ H:Hp,H P0=some (.tbl #[])->bC K H a (ns.map V.int)->sp [.ref a] H (fun v _=>v=.bl true) fun _ _ _=>False)
  (hCX:∀ H e s',CX [] H s₁ (fun _ _ _=>False) e s'->False) :
  codeAny (model P w) callerA (.call (.ref fa) ⟨[.ref a],[]⟩) (fun r s'=>r=.ok (.ret (.bool true))/\OldK s₁.heap s'.heap/\s'.os=s₁.os/\AllBare s'.gens) s₁:=by
 have rv:=kO hi;have lenV:=hi.length
 have aP:a≠P0:=fun z=>by rw[z,hP]at ha;cases ha
 have Kno:∀ b o,K.lookup b=some o->b≠P0:=fun b o e z=>by
  have e2:=KX b o e;rw[z,hP]at e2;cases e2;have h2:=yz.mp hK (b,PySem.W.tabObj #[]) (PySem.W.mem_of_lookupK e);exact absurd (show false=true from h2) ye
 obtain⟨H,HP,HA,Hrest⟩:∃ H:Hp,H P0=some (.tbl #[])/\((K.lookup a=none/\H a=some (.frz { cls:=.type "list",data:=.seq vs.toArray } (.lst (ns.map V.int))))\/(∃ o,K.lookup a=some o)/\H a=none)/\∀ b,b≠P0->b≠a->H b=none:=by
  cases hk:K.lookup a with
  | some o=>exact⟨fun b=>if b=P0 then some (.tbl #[]) else none,ym rfl,.inr ⟨⟨o,rfl⟩,yf aP⟩,fun b n _=>yf n⟩
  | none=>exact⟨fun b=>if b=P0 then some (.tbl #[]) else if b=a then some (.frz { cls:=.type "list",data:=.seq vs.toArray } (.lst (ns.map V.int))) else none,ym rfl,.inl ⟨rfl,by show (if a=P0 then _ else _)=_;rw[yf aP,ym rfl]⟩,fun b n1 n2=>by show (if b=P0 then _ else _)=_;rw[yf n1,yf n2]⟩
 have hok:gF P w H s₁.heap:=fun b u e=>by
  by_cases z:b=P0
  ·rw[z,HP]at e;cases e;rw[z];exact hP
  ·by_cases z2:b=a
   ·rw[z2]at e ⊢
    rcases HA with ⟨_,q⟩ | ⟨_,q⟩
    ·rw[q]at e;cases e
     exact⟨ha,by rw[x4];exact hl,vs,_,rv,ha⟩
    ·rw[q]at e;cases e
   ·rw[Hrest b z z2]at e;cases e
 have hS:bC K H a (ns.map V.int):=by
  rcases HA with ⟨_,q⟩ | ⟨⟨o,q1⟩,q⟩
  ·exact .inl (.inr ⟨_,q⟩)
  ·have e:=KX a o q1
   rw[ha]at e;cases e;exact .inr ⟨_,vs.toArray,_,q1,rfl,rfl,rfl,by rw[yg,lenV];exact hl,by simpa using rv⟩
 have free:∀ {b:Addr}{o:Obj},s₁.heap.get? b=some o->(∀ qs,o.data≠.fields qs)->(∀ qs n,o.data≠.seq qs n)->H b=none:=fun {b o} e n1 n2=>Hrest b (fun z=>by rw[z,hP]at e;cases e;exact n1 _ rfl) (fun z=>by rw[z,ha]at e;cases e;exact n2 _ _ rfl);have nsK:∀ {b:Addr}{m:Str->Option Value},s₁.heap.Ns b m->(lj s₁.heap H).Ns b m:=fun {b m} ⟨o,es,ep,e,d,r⟩=>⟨o,es,ep,jH e (free e (fun qs z=>by rw[d]at z;cases z) (fun qs n z=>by rw[d]at z;cases z)),d,r⟩
 have hKb:K.In (lj s₁.heap H):=fun b o e=>jH (KX b o e) (by
  by_cases z:b=a
  ·rcases HA with ⟨q0,_⟩ | ⟨_,q⟩
   ·rw[z,q0]at e;cases e
   ·rw[z];exact q
  ·exact Hrest b (Kno b o e) z)
 have hM:Mod K mg (lj s₁.heap H):=⟨hKb,nsK hns,⟨mb,nsK hb,hbb⟩,let ⟨mc,h1,h2⟩:=hlim;⟨mc,nsK h1,h2⟩⟩;have e0:o8 P w K mg (lj s₁.heap H) callerA [] s₁ H:=⟨rfl,hM,fun b o e=>sv e,Nat.le_of_eq (py _ _),trivial,fun b hb=>absurd (show b∈([]:List Addr) from hb) (by simp),hok,.of_eq hg⟩
 have BM2:ii mg (lj s₁.heap H):=by
  obtain⟨bm,ob,b1,b2,b3,b4,b5,b6⟩:=BM;exact⟨bm,ob,b1,b2,jH b3 (free b3 (fun qs z=>by rw[b6]at z;cases z) (fun qs n z=>by rw[b6]at z;cases z)),b4,b5,b6⟩
 refine zw ((F _ hKb (nsK hns) BM2).run callerA [] s₁ H ⟨[.ref a],[]⟩ [.ref a] [.ref a] _ _ hr e0 (hbind s₁ (.ref a)) (.cons rfl .nil) (hsp H HP hS)) fun r s' h=>?_
 cases r with
 | error e=>exact (hCX H e s' h).elim
 | ok fl =>
  cases fl with
  | next=>exact False.elim h
  | brk=>exact False.elim h
  | cont=>exact False.elim h
  | ret u =>
   obtain⟨v,H',os,bare,un,hok',r',q⟩:=h;have q':v=.bl true:=q;subst q';obtain rfl:u=Value.bool true:=r'
   have kp:∀ b o,s₁.heap.get? b=some o->b≠P0->s'.heap.get? b=some o:=fun b o e n=>by
    by_cases z:b=a
    ·rcases HA with ⟨_,q1⟩ | ⟨_,q1⟩
     ·have z2:=un.frzs b _ _ (by rw[z];exact q1)
      obtain⟨e2,_⟩:=hok' b _ z2;rw[z,ha]at e;cases e;exact e2
     ·exact un.keep b o e (by rw[z];exact q1) (by intro z;exact absurd (show b∈([]:List Addr) from z) (by simp)) (by simp)
    ·exact un.keep b o e (Hrest b n z) (by intro z;exact absurd (show b∈([]:List Addr) from z) (by simp)) (by simp)
   obtain⟨more,hm⟩:=un.tbls P0 _ HP;have hP':s'.heap.get? P0=some (PySem.W.tabObj (#[]++more)):=hok' P0 _ hm;refine⟨rfl,⟨fun b o e=>?_,fun b o e=>?_⟩,os,bare⟩
   ·by_cases z:b=P0
    ·rw[z]at e ⊢
     have e':=e;rw[hP]at e';cases e';exact .inr (.inl ⟨(C.tab hP).isCodeTable,rfl,#[],more,rfl,hP'⟩)
    ·exact .inl (kp b o e z)
   ·by_cases z:b=P0
    ·exact⟨_,by rw[z];exact hP'⟩
    ·exact⟨o,kp b o e z⟩
theorem walk_ofT {l:PySem.W.OpenLaw}{n k:Nat}{q:Program}{loose:List Str}{XP:(Str->Option Value)->Heap->Prop}{YP:World->Heap->Prop}{d:DefRec}{K:Params->PySem.W.Frag}{CX:World->ku}{sp:World->Sp}{x nm:Str}{c0 P0:Addr}
  (hn:l.most=some n) (hn2:n<=sizeLine) (hdf:d.params.defaults=[]) (hr:cz k callerA)
  (hY:∀ (w:World)(h:Heap),YP w h->(K w.params).In h)
  (hTY:∀ (w:World)(h:Heap),YP w h->h.get? P0=some (PySem.W.tabObj #[])) (hch:∀ w:World,PySem.W.codeHdIn (K w.params) c0 P0=true) (htab:∀ w:World,PySem.W.tabIn (K w.params) nm=some (c0,P0)) (hnt:∀ w:World,PySem.W.noTabs (K w.params)=true)
  (F:∀ (w:World)(mg:Str->Option Value)(fa:Addr)(h:Heap),(K w.params).In h->h.Ns mainGlobals mg->mg d.name=some (.ref fa)->gG (K w.params) c0 P0->PySem.W.tabIn (K w.params) nm=some (c0,P0) ->
   ∃ fd:FuncData,(∀ (s:Shared)(u:Value),BindsTo s fd ⟨[u],[]⟩ [(x,u)]) /\
    ∀ base:Heap,(K w.params).In base->base.Ns mainGlobals mg->ii mg base->bc l.prog w (K w.params) mg base (CX w) k fa fd [x] (sp w))
  (hsp:∀ (w:World)(H:Hp)(a:Addr)(ns:List Int),ns.length<=n->H P0=some (.tbl #[])->bC (K w.params) H a (ns.map V.int)->sp w [.ref a] H (fun v _=>v=.bl true) fun _ _ _=>False)
  (hCX:∀ (w:World)(H:Hp)(s:Shared)(e:Value)(s':Shared),CX w [] H s (fun _ _ _=>False) e s'->False) :
  PySem.W.WalkO q loose XP YP l.row.toRowW d [] (fun f vs=>PySem.call f vs):=by
 refine Att.attach_call hn hdf fun w s₀ s₁ mg mb fa o pm cd doc a vs ns G Y ho hd hcd hmg hobj hints hlen hg=>?_;have KX:=hY w _ Y;have CH:=PySem.W.codeHd_of_K KX (hch w);have hP:=hTY w _ Y;obtain⟨fd,hb,hF⟩:=F w mg fa _ KX G.T.g hmg (qj (htab w) KX CH) (htab w);exact pD KX G.T.g G.T.b G.T.builtins G.T.nolimit hg hobj hints (yR hlen hn2) hr (hnt w) CH hP G.T.bmain hF hb (fun H hO hS=>hsp w H a ns hlen hO hS) fun H e s'=>hCX w H s₁ e s'
end L2
namespace Wz
open PySem PySem.Spec PyProof.Rows L2 PySem.SetTable
abbrev ng (es:Array (Int×Value))(ep:Nat)(t:SetTable):Obj:={ cls:=.type "set",dict:=none,data:=.set es ep t }
end Wz
set_option maxRecDepth 1000000
set_option maxHeartbeats 8000000
namespace Wz
open PySem L2
theorem j9 {P:St->Hp->Prop}{G:Prop}(C:St->Hp->Prop)(main:(∀ σ HH,C σ HH->P σ HH)->G)(key:∀ σ HH,C σ HH->P σ HH):G:=main key
end Wz
set_option maxRecDepth 1000000
set_option maxHeartbeats 8000000
namespace Wz
open PySem PySem.Spec PyProof.Rows L2 PySem.SetTable
section
variable {X:Cx}
theorem ir:∀ (l acc:List Int),acc.Nodup->(l.foldl step_dedup acc).length<=acc.length+l.length/\((l.foldl step_dedup acc).length=acc.length+l.length↔(acc++l).Nodup)
 | [],acc,nd=>by simp[nd]
 | x::l,acc,nd=>by
  rw[List.foldl_cons]
  by_cases hx:x∈acc
  ·have e:step_dedup acc x=acc:=by unfold step_dedup;rw[ym (by simpa using hx)]
   rw[e];obtain⟨h1,h2⟩:=ir l acc nd;rw[yy];refine⟨by omega,⟨fun z=>by omega,fun z=>?_⟩⟩;rw[List.nodup_append]at z;exact absurd rfl (z.2.2 x hx x ya)
  ·have e:step_dedup acc x=acc++[x]:=by unfold step_dedup;rw[yf (by simpa using hx)]
   rw[e];obtain⟨h1,h2⟩:=ir l (acc++[x]) (List.nodup_append.mpr ⟨nd,by simp,fun a ha b hb z=>hx (by rw[<-yu.mp hb,<-z];exact ha)⟩);rw[yb,yF]at h1 h2;rw[yy,show acc.length+(l.length+1)=acc.length+1+l.length by omega,h2,y7];exact⟨h1,Iff.rfl⟩
end
end Wz
namespace Tm
open PySem PyProof.Rows
def el (xs:Array Keyed)(i:Nat):Keyed:=xs.getD i (.none,.none)
structure xZ (P:Program)(w:World)(A:Around)(s:Shared)(κ:SortKind)(a0:Array Keyed)(lt:Keyed->Keyed->Bool):Prop where
 cmp:∀ {x y:Keyed}{E:Value->Shared->Prop}{Q:Bool->Prop},x∈a0->y∈a0->Q (lt x y)->wpAny (model P w) A (keyLt' κ x.1 y.1) (fun b s'=>s'=s/\Q b) E s
 irr:∀ x,lt x x=false
 tr:∀ x y z,lt x y=true->lt y z=true->lt x z=true
 tot:∀ x y,x∈a0->y∈a0->x≠y->lt x y=true\/lt y x=true
 nd:a0.toList.Nodup
structure xK (κ:SortKind)(a0:Array Keyed)(st:SortSt):Prop where
 pm:(arrOf st).Perm a0
 fl:failedOf st=none
 kd:kindOf st=κ
section
variable {P:Program}{w:World}{A:Around}{E:Value->Shared->Prop}{s:Shared}{κ:SortKind}{a0:Array Keyed}{lt:Keyed->Keyed->Bool}{st:SortSt}
def Up (lt:Keyed->Keyed->Bool)(xs:Array Keyed)(lo hi:Nat):Prop:=∀ i j,lo<=i->i<j->j<hi->lt (el xs i) (el xs j)=true
def Dn (lt:Keyed->Keyed->Bool)(xs:Array Keyed)(lo hi:Nat):Prop:=∀ i j,lo<=i->i<j->j<hi->lt (el xs j) (el xs i)=true
def xY (xs ys:Array Keyed)(lo hi:Nat):Prop:=∀ i,i<lo\/hi<=i->el ys i=el xs i
def xM (st st':SortSt):Prop:=pendingOf st'=pendingOf st/\gallopOf st'=gallopOf st
end
def wA:Bool->Keyed->Array Keyed->Nat->Nat->Nat->StateT SortSt Sem (Option Nat):=sortPriv% PySem.Builtin.gallop
def Bf (lt:Keyed->Keyed->Bool)(left:Bool)(key:Keyed)(xs:Array Keyed)(b i:Nat):Bool:=if left=true then lt (el xs (b+i)) key else !lt key (el xs (b+i))
def Fn (R:Keyed->Keyed->Prop)(T r:List Keyed):Prop:=r.Perm T/\r.Pairwise R
structure J (R:Keyed->Keyed->Prop)(T out ra rb:List Keyed):Prop where
 pm:(out++(ra++rb)).Perm T
 so:out.Pairwise R
 oa:∀ x,x∈out->∀ y,y∈ra->R x y
 ob:∀ x,x∈out->∀ y,y∈rb->R x y
 sa:ra.Pairwise R
 sb:rb.Pairwise R
 la:∀ x,x∈rb->∀ z,ra.getLast? = some z->R x z
def vH:Array Keyed->Array Keyed->StateT SortSt Sem (Array Keyed):=sortPriv% PySem.Builtin.mergeLo
def rJ:Nat->StateT SortSt Sem Unit:=sortPriv% PySem.Builtin.setMinGallop
structure x3 (a0:Array Keyed)(lt:Keyed->Keyed->Bool)(a b:Array Keyed):Prop where
 ma:∀ i,i<a.size->el a i∈a0
 mb:∀ i,i<b.size->el b i∈a0
 ne:∀ i j,i<a.size->j<b.size->el a i≠el b j
 ua:Up lt a 0 a.size
 ub:Up lt b 0 b.size
 za:0<a.size
 zb:0<b.size
 h0:lt (el b 0) (el a 0)=true
 hl:lt (el b (b.size-1)) (el a (a.size-1))=true
def aG (st st':SortSt):Prop:=arrOf st'=arrOf st/\failedOf st'=failedOf st/\kindOf st'=kindOf st/\pendingOf st'=pendingOf st
def Jl (lt:Keyed->Keyed->Bool)(a b:Array Keyed)(out:Array Keyed)(ia ib:Nat):Prop:=J (fun x y=>lt x y=true) (a.toList++b.toList) out.toList (a.toList.drop ia) (b.toList.drop ib)
def Sl (lt:Keyed->Keyed->Bool)(a b:Array Keyed)(n:Nat)(r:Option (Array Keyed))(out:Array Keyed)(ia ib:Nat):Prop :=
 (∃ q,r=some q/\Fn (fun x y=>lt x y=true) (a.toList++b.toList) q.toList)\/(r=none/\Jl lt a b out ia ib/\ia+1<a.size/\ib<b.size/\n<=out.size)
def vG:Array Keyed->Array Keyed->StateT SortSt Sem (Array Keyed):=sortPriv% PySem.Builtin.mergeHi
def Jh (lt:Keyed->Keyed->Bool)(a b:Array Keyed)(out:Array Keyed)(na nb:Nat):Prop:=J (fun x y=>lt y x=true) (a.toList++b.toList) out.toList (b.toList.take nb).reverse (a.toList.take na).reverse
def Sh (lt:Keyed->Keyed->Bool)(a b:Array Keyed)(n:Nat)(r:Option (Array Keyed))(out:Array Keyed)(na nb:Nat):Prop :=
 (∃ q,r=some q/\Fn (fun x y=>lt x y=true) (a.toList++b.toList) q.toList)\/(r=none/\Jh lt a b out na nb/\0<na/\na<a.size/\1<nb/\nb<=b.size/\n<=out.size)
def back (q:Nat)(m arr:Array Keyed):Array Keyed:=m.toList.zipIdx.foldl (fun a (p,j)=>a.setIfInBounds (q+j) p) arr
def Ch (lt:Keyed->Keyed->Bool)(xs:Array Keyed):Nat->List (Nat×Nat×Nat)->Nat->Prop
 | f,[],u=>f=u
 | f,t::r,u=>t.1=f/\1<=t.2.1/\Up lt xs f (f+t.2.1)/\Ch lt xs (f+t.2.1) r u
end Tm
namespace Qs
open PySem PySem.W PyProof.Rows
open Classical in
noncomputable def dec (h:Heap) (v:Value):Int×Int:=if z:∃ p,t9 h v p then choose z else (0,0)
end Qs
namespace Wz
open PySem L2
theorem vz {n:Nat}{v:V}{σ:St}{H:Hp}{Q:St->Hp->Prop}(h:Q (σ.set n (some v)) H):gh n v σ H Q:=h
open PySem PySem.Spec
theorem pW:typeLookup (.type "str") "__int__" = pure none:=by rw[typeLookup_type,builtinLookup_eq_fast];kernel_rfl
theorem pV:typeLookup (.type "str") "__index__" = pure none:=by rw[typeLookup_type,builtinLookup_eq_fast];kernel_rfl
theorem nj:typeLookup (.type "str") "__trunc__" = pure none:=by rw[typeLookup_type,builtinLookup_eq_fast];kernel_rfl
theorem kF {f:Array Nat×Bool->Nat->Option (Array Nat×Bool)}(hf:∀ p d,d<10->f p (d+48)=some (p.1.push d,true)):∀ (l:List Nat)(p:Array Nat×Bool),(∀ d∈l,d<10)->(l.map (·+48)).foldlM f p=some (p.1++l.toArray,if l=[] then p.2 else true)
 | [],p,_=>by simp
 | d::l,p,h=>by
  rw[yD,List.foldlM_cons,hf p d (h d ya)]
  show (l.map (·+48)).foldlM f (p.1.push d,true)=_
  rw[kF hf l _ fun x hx=>h x (yc _ hx)];simp
theorem iu {d:Nat}(h:d<10):d=0\/d=1\/d=2\/d=3\/d=4\/d=5\/d=6\/d=7\/d=8\/d=9:=by omega
theorem mw {p:Nat->Bool}(hp:∀ d,d<10->p (d+48)=false){q:List Nat}(h:∀ c∈q,∃ d,d<10/\c=d+48):q.dropWhile p=q:=by
 cases q with
 | nil=>rfl
 | cons c q =>
  obtain⟨d,hd,rfl⟩:=h c ya;rw[List.dropWhile_cons_of_neg];rw[hp d hd];exact ye
theorem uD {q:List Nat}{y:Option (Array Nat)}{l:List Nat}{f:Array Nat×Bool->Nat->Option (Array Nat×Bool)}{g:Array Nat×Bool->Option (Array Nat)}(h:y=(q.foldlM f (#[],false)).bind g)(hq:q=l.map (·+48))(hl:l≠[])(hd:∀ d∈l,d<10)
  (hf:∀ p d,d<10->f p (d+48)=some (p.1.push d,true)) (hg:∀ ds,g (ds,true)=some ds):y=some l.toArray:=by
 rw[h,hq,kF hf l _ hd,yf hl]
 show g (#[]++l.toArray,true)=_
 rw[hg];simp
theorem meets_int_new_str (x:Str)(t:Tok)(d:Nat)(l:List Nat)(hx:x.cps.toList=(d::l).map (·+48))(h0:d=0->l=[])(hd:∀ e∈d::l,e<10)(hl:(d::l).length<=640):Meets (Builtin.«int.__new__» ⟨[.type "int",.str x t],[]⟩) (Made.int ((d::l).foldl (fun a e=>a*10+e) 0:Nat)).spec :=
 Meets.of_wp fun prog w A R s hs=>by
  obtain⟨hp,g,dr,tk,os⟩:=s;have f1:=F.conv_sub_int;have f2:=F.madeHere_int;have f3:=pW;have f4:=pV;have f5:=nj;have hT:(⟨hp,g,dr,tk,os⟩:Shared).TypeIs (.str x t) "str":=rfl
  have g1:(x.cps.all fun x=>decide (x<128))=true:=by
   rw[<-Array.all_toList,hx,yz];intro c hc;obtain⟨e,he,rfl⟩:=yA.mp hc;have:=hd e he;exact x5 (by omega)
  have g2:x.cps.toList.takeWhile (fun x=>x != 0)=x.cps.toList:=by
   have tw:∀ q:List Nat,(∀ c∈q,c≠0)->q.takeWhile (fun x=>x != 0)=q:=fun q=>by
    induction q with
    | nil=>intro _;rfl
    | cons c q ih=>intro h;rw[List.takeWhile_cons_of_pos (by simpa using h c ya),ih fun c hc=>h c (yc _ hc)]
   refine tw _ fun c hc=>?_;rw[hx]at hc;obtain⟨e,he,rfl⟩:=yA.mp hc;omega
  have g3:x.cps.toList.length<=640:=by rw[hx,x4];exact hl
  repeat (any_goals (first | assumption | wp_step))
  rw[g1];simp only[zu,g2,g3];refine x9 (yj ?_)
  have hq:∀ c∈(d::l).map (·+48),∃ e,e<10/\c=e+48:=fun c hc=>by
   obtain⟨e,he,rfl⟩:=yA.mp hc;exact⟨e,hd e he,rfl⟩
  have hq2:∀ c∈((d::l).map (·+48)).reverse,∃ e,e<10/\c=e+48:=fun c hc=>hq c (List.mem_reverse.mp hc)
  have sz:l.length<=639:=by have:l.length+1<=640:=hl;omega
  rw[hx];rcases iu (hd d ya) with rfl | z
  ·have e0:=h0 rfl
   subst e0
   conv=>arg 3;arg 2;whnf
   show wpAny _ _ (if _ then _ else _) _ _ _
   rw[ym (by simp)]
   repeat (any_goals (first | assumption | wp_step))
   exact⟨_,rfl,hs⟩
  ·rcases z with rfl | rfl | rfl | rfl | rfl | rfl | rfl | rfl | rfl
   all_goals
    conv=>arg 3;arg 2;whnf
    rw[mw (by decide) hq,mw (by decide) hq2,List.reverse_reverse]
    conv =>
     arg 3;arg 2;arg 2
     tactic=>exact uD rfl rfl (List.cons_ne_nil _ _) hd (by rintro⟨ds,b⟩ d h;rcases iu h with rfl | rfl | rfl | rfl | rfl | rfl | rfl | rfl | rfl | rfl<;>rfl) fun _=>rfl
    dsimp only;rw[yf (by simp),yf (by simp;omega),yf (by simp)]
    show wpAny _ _ (if _ then _ else _) _ _ _
    rw[ym (by simp)]
    repeat (any_goals (first | assumption | wp_step))
    refine⟨_,rfl,?_⟩;rw[yf ye,List.foldl_toArray];exact hs
structure Num (x:Str)(ds:List Nat):Prop where
 eq:x.cps.toList=ds.map (·+48)
 ne:ds≠[]
 nz:ds.head? = some 0->ds=[0]
 dg:∀ e∈ds,e<10
 ln:ds.length<=12
def numV (ds:List Nat):Nat:=ds.foldl (fun a e=>a*10+e) 0
end Wz
namespace L2
open PySem PySem.Spec PyProof.Rows
theorem pj {X:Cx}:ec X (.type "int") (fun xs H Q=>∃ x ds,xs=[.str x]/\Wz.Num x ds/\Q (.int (Wz.numV ds)) H):=by
 intro pins s σ H xs us Q I r h;obtain⟨x,ds,rfl,N,q⟩:=h;obtain⟨u,rfl,rx⟩:=fi r;obtain⟨t,rfl⟩:=rx
 cases ds with
 | nil=>exact absurd rfl N.ne
 | cons d l =>
  have ln:l.length+1<=12:=N.ln
  exact call_int_1 (Wz.meets_int_new_str x t d l N.eq (fun z=>by
   have:=N.nz (by rw[z];rfl)
   exact (List.cons.inj this).2) N.dg (by show l.length+1<=640;omega)) ⟨rfl,.int _,H,I.tok _,⟨_,rfl⟩,q⟩
def jd (x:Str):Prop:=x.cps.all (· < 128)=true
def vc (x:Str):It :=
 ⟨fun i _=>i<x.cps.toList.length,fun i H v H'=>H'=H/\∃ c,x.cps.toList[i]? = some c/\v=.str ⟨#[c]⟩,fun i _=>x.cps.toList.length<=i⟩
theorem rC {P:Program}{w:World}{K:PySem.W.Frag}{tg:Expr}(x:Str)(t:Tok)(it:Addr):pc P w K tg (vc x) [it] it (fun i h=>h.IsStrIter it "str_ascii_iterator" x t i) where
 mem:=by simp
 obj:=fun i h st b hb=>by
  have e:b=it:=by simpa using hb
  subst e;obtain⟨o,e,c,d⟩:=st;exact⟨o,e,fun v z=>by rw[d]at z;cases z⟩
 keep:=fun i h h' ⟨o,e,r⟩ k=>⟨o,k it (by simp) o e,r⟩
 item:=by
  intro X hP hw hK hc i pins s σ H E I hf st hg;subst hP hw hK;have hg:i<x.cps.toList.length:=hg;obtain⟨f0,f1,f2,f3,f4,f5⟩:=hf it (by simp)
  have hx:x.cps[i]? = some x.cps.toList[i]:=by simp
  refine wpAny_pyNext_ascii_item st hx fun h' st' sb=>?_;have I1:aF X pins σ H { s with heap:=h',toks:=s.toks+1 }:=I.turned (t':=s.toks+1) (fun b o hb e=>(sb.2 b hb).trans e) f0 f1 f3 f4 f5;obtain⟨o,e,c,d⟩:=id st';exact⟨_,rfl,mz (s:={ s with heap:=h',toks:=s.toks+1 }) e c d (by decide) ⟨.str ⟨#[x.cps.toList[i]]⟩,H,I1,⟨_,rfl⟩,⟨rfl,_,List.getElem?_eq_getElem hg,rfl⟩,st',fun b hb=>(hf b hb).1⟩⟩
 done:=by
  intro X hP hw hK hc i pins s σ H E I hf st hg;subst hP hw hK;have hg:x.cps.toList.length<=i:=hg;obtain⟨f0,f1,f2,f3,f4,f5⟩:=hf it (by simp);refine wpAny_pyNext_ascii_end (I.ok.hd hc) st (by rw[Array.getElem?_eq_none];simpa using hg) fun h' eb=>⟨rfl,I.turned (t':=s.toks) (fun b o hb e=>eb b o hb e) f0 f1 f3 f4 f5⟩
 self:=fun _ _ _ _ _ st h=>wpAny_pyIter_striter_ascii st h
def wV (t:TE):TI:=fun σ H R=>t σ H fun v H1=>∃ x,v=.str x/\jd x/\R (vc x) H1
theorem oi {X:Cx}{tg l:Expr}{tl:TE}(hl:PE X l tl):PI X tg l (wV tl):=by
 intro pins s σ H R I h;refine bK (hl pins s σ H _ I h) fun v s1 ⟨y,H1,I1,r1,x,e,ha,q⟩=>?_;subst e;obtain⟨t,rfl⟩:=r1;refine wpAny_pyIter_ascii ha ?_;refine⟨s1.heap.objs.size,[s1.heap.objs.size],_,_,H1,rfl,I1.kept (t':=s1.toks) fun b o e=>Heap.get?_push_of_some _ e,rC x t _,⟨_,Heap.get?_push_size _ rfl,rfl,rfl⟩,fun b hb=>?_,q⟩
 have e:b=s1.heap.objs.size:=by simpa using hb
 subst e;exact I1.fpOk (x8 _) (I1.hok.fresh (x8 _))
theorem rW {x:Str}{g:TG}{tb:TS}{D:gH}{σ:St}{H:Hp}(Pv:Nat->St->Hp->Prop)(h0:Pv 0 σ H)
  (hs:∀ i c σ H,x.cps.toList[i]? = some c->Pv i σ H->g (.str ⟨#[c]⟩) σ H fun σ2 H2=>tb { D with nx:=Pv (i+1),ct:=Pv (i+1),bk:=D.nx } σ2 H2) (hd:∀ σ H,Pv x.cps.toList.length σ H->D.nx σ H) :
  ∃ W:Nat->Nat->St->Hp->Prop,(∃ m,W 0 m σ H)/\∀ i m σ H,W i m σ H ->
   ((vc x).stop i H/\D.nx σ H)\/((vc x).go i H/\∃ N:St->Hp->Prop,(∀ σ' H',N σ' H'->∃ m',m'<m/\W (i+1) m' σ' H')/\∀ v H',(vc x).yld i H v H'->g v σ H' fun σ2 H2=>tb { D with nx:=N,ct:=N,bk:=D.nx } σ2 H2):=by
 generalize hl:x.cps.toList.length=n at hd;refine⟨fun i m σ H=>m=n-i/\i<=n/\Pv i σ H,⟨n,by simp,yT _,h0⟩,?_⟩;rintro i m σ H ⟨rfl,hi,p⟩
 by_cases hlt:i<n
 ·refine .inr ⟨show i<x.cps.toList.length by omega,Pv (i+1),fun σ' H' p'=>⟨n-(i+1),by omega,rfl,hlt,p'⟩,fun v H' y=>?_⟩
  obtain⟨e,c,hc,e2⟩:=y;subst e e2;exact hs i c σ _ hc p
 ·have e:i=n:=by omega
  subst e;exact .inl ⟨show x.cps.toList.length<=i by omega,hd σ H p⟩
end L2
namespace Wz
open PySem L2
theorem mP (ds:List Nat)(e:Nat):numV (ds++[e])=numV ds*10+e:=by unfold numV;rw[List.foldl_append];rfl
theorem wQ (n:Nat):∃ ds:List Nat,(Nat.toDigits 10 n).map Char.toNat=ds.map (·+48)/\ds≠[]/\(ds.head? = some 0->n=0)/\(∀ e∈ds,e<10)/\numV ds=n/\(n=0->ds=[0])/\∀ k,1<=k->n<10 ^ k->ds.length<=k:=by
 induction n using Nat.strongRecOn with
 | _ n ih =>
  have dc:∀ d,d<10->(Nat.digitChar d).toNat=d+48:=fun d h=>by
   rcases iu h with rfl | rfl | rfl | rfl | rfl | rfl | rfl | rfl | rfl | rfl<;>rfl
  by_cases h:n<10
  ·rw[Nat.toDigits_of_lt_base h]
   refine⟨[n],by show [(Nat.digitChar n).toNat]=[n+48];rw[dc n h],by simp,fun z=>by simpa using z,fun e he=>by rw[yu.mp he];exact h,by show 0*10+n=n;omega,fun z=>by rw[z],fun k hk _=>by simpa using hk⟩
  ·rw[Nat.toDigits_of_base_le (by decide) (by omega)]
   obtain⟨ds,h1,h2,h3,h4,h5,_,h6⟩:=ih (n/10) (by omega);refine⟨ds++[n%10],?_,by simp,fun z=>?_,fun e he=>?_,?_,fun z=>by omega,fun k hk hn=>?_⟩
   ·rw[yk,h1,yk]
    show _++[(Nat.digitChar (n%10)).toNat]=_++[n%10+48]
    rw[dc _ (by omega)]
   ·cases ds with
    | nil=>exact absurd rfl h2
    | cons d ds=>have:=h3 z;omega
   ·rcases yL.mp he with y | y
    ·exact h4 e y
    ·rw[yu.mp y];omega
   ·rw[mP,h5];omega
   ·rw[yb,yF]
    cases k with
    | zero=>omega
    | succ k =>
     by_cases k0:k=0
     ·subst k0;omega
     ·have:=h6 k (by omega) (by rw[Nat.pow_succ]at hn;omega)
      omega
theorem su {g:Int}(h0:0<=g)(h:g<10 ^ 12):∃ ds,Num (gS g) ds/\(numV ds:Int)=g:=by
 obtain⟨n,rfl⟩:=ze h0;obtain⟨ds,h1,h2,h3,h4,h5,h7,h6⟩:=wQ n;refine⟨ds,⟨?_,h2,fun z=>?_,h4,h6 12 (by decide) (by omega)⟩,by rw[h5]⟩
 ·unfold gS
  rw[show toString (n:Int)=String.ofList (Nat.toDigits 10 n) from rfl,Str.ofString_eq_toList]
  show ((String.ofList (Nat.toDigits 10 n)).toList.map Char.toNat)=_
  rw[String.toList_ofList,h1]
 ·have hn:=h3 z
  exact h7 hn
end Wz
namespace L2
open PySem PySem.Spec PyProof.Rows
theorem fG {X:Cx}{x:Str}{v:V}{pos:Pos}(hg:Gl X x)(hm:∃ u,X.mg x=some u/\be v u)(hd:(x == ("__debug__" : Str))=false:=by decide):PE X (.Name x pos) (tC v):=by
 obtain⟨u,hm,r⟩:=hm;exact gW hg hm r hd
end L2
namespace Wz
open PySem L2
theorem iR {te:TE}{Qf:Hp->Prop}{x:Str}{q:Addr}{f:Nat->Bool}{rest:L2.St}{H:Hp}(hq:H q=none)(hlen:x.cps.toList.length<=1000)
  (ht:∀ (c:Nat)(HK:Hp)(Q':VK),aG H HK->(∀ H5,aG HK H5->Q' (.bl (f c)) H5)->te (some (.str ⟨#[c]⟩)::rest) HK Q') (k:∀ (HK:Hp),aG H HK->HK q=some (.lst ((x.cps.toList.map f).map V.bl))->Qf HK) :
  oD (vc x) (gh 0) (vg pX te q) { nx:=fun _ H'=>Qf H',rt:=fun _ _=>False } (none::rest) (bE H q (.lst [])):=by
 refine rW (fun i σ HK=>∃ v:Option V,σ=v::rest/\aG H HK/\HK q=some (.lst (((x.cps.toList.take i).map f).map V.bl))) ⟨none,rfl,ag hq,af⟩ ?_ ?_
 ·rintro i c σ HK hi ⟨v,rfl,t1,hq2⟩
  have hil:i<x.cps.toList.length:=(List.getElem?_eq_some_iff.mp hi).1;refine c5 (ht c HK _ t1 fun H5 s5=>⟨_,s5 _ _ hq2,by rw[x4,x4,yM];exact bZ (by omega),_,rfl,cE (t1.trans s5) hq,?_⟩);rw[af,zr,hi,zn,yk,yk];rfl
 ·rintro σ HK ⟨v,rfl,t1,hq2⟩
  rw[zx]at hq2;exact k HK t1 hq2
def gi (c:Nat):Bool:=decide (48<=c/\c<58)
theorem uh (c:Nat):(!(Builtin.Str.occurrences (Str.ofString "0123456789") ⟨#[c]⟩ 0 (Str.ofString "0123456789").length 1).isEmpty)=gi c:=by
 rw[StrLaws.found_one]
 have e:(Str.ofString "0123456789").cps.toList=[48,49,50,51,52,53,54,55,56,57]:=by decide +kernel
 rw[e];unfold gi;rw[zy];simp only[yh,List.not_mem_nil,or_false];omega
theorem eK (z:Str):(∃ ds,Num z ds)↔1<=z.length/\z.length<=12/\(∀ c∈z.cps.toList,gi c=true)/\¬ (z.cps.toList.head? = some 48/\z.cps.toList≠[48]):=by
 have hz:z.length=z.cps.toList.length:=by rw[yO];rfl
 rw[hz];constructor
 ·rintro⟨ds,N⟩
  have h1:=N.ne;have h2:=N.ln;have h3:=N.nz;rw[N.eq,x4];refine⟨?_,h2,fun c hc=>?_,fun ⟨a,b⟩=>?_⟩
  ·cases ds with
   | nil=>exact absurd rfl h1
   | cons _ _=>simp
  ·obtain⟨e,he,rfl⟩:=yA.mp hc
   have:=N.dg e he;exact x5 ⟨by omega,by omega⟩
  ·cases ds with
   | nil=>exact absurd rfl h1
   | cons d ds =>
    have d0:d=0:=by simpa using a
    have:=h3 (by rw[d0];rfl);rw[this]at b;exact b rfl
 ·rintro⟨h1,h2,h3,h4⟩
  have hd:∀ c∈z.cps.toList,48<=c/\c<58:=fun c hc=>yI (h3 c hc);refine⟨z.cps.toList.map (· - 48),⟨?_,?_,fun q=>?_,fun e he=>?_,by rw[x4];exact h2⟩⟩
  ·rw[y6]
   refine Eq.symm ((List.map_congr_left (g:=id) fun c hc=>?_).trans (List.map_id _));have:=hd c hc
   show c-48+48=c
   omega
  ·intro q
   have:=zc List.length q;rw[x4]at this;have this:z.cps.toList.length=0:=this;omega
  ·rw[List.head?_map]at q
   cases hc:z.cps.toList.head? with
   | none=>rw[hc]at q;cases q
   | some c =>
    rw[hc]at q;have q:c-48=0:=yE q;have cm:c∈z.cps.toList:=List.mem_of_mem_head? hc;have:=hd c cm
    have c48:c=48:=by omega
    have l48:z.cps.toList=[48]:=Classical.byContradiction fun n=>h4 ⟨by rw[hc,c48],n⟩;rw[l48];rfl
  ·obtain⟨c,hc,rfl⟩:=yA.mp he
   have:=hd c hc;omega
theorem rk {z y:Str}:decide (V.str z=V.str y)=decide (z.cps.toList=y.cps.toList):=by
 rw[zy];constructor
 ·intro e;rw[V.str.inj e]
 ·intro e
  obtain⟨⟨l⟩⟩:=z;obtain⟨⟨m⟩⟩:=y;have e:l=m:=e;rw[e]
theorem iC {K:PySem.W.Frag}{te:TE}{Qf:Hp->Prop}{lr q:Addr}{α:Type}(g:α->V){rs:List α}{f:α->V}{rest:L2.St}{H:Hp}(hq:H q=none)(h1:H lr=some (.lst (rs.map g)))(hlen:rs.length<=1000)
  (ht:∀ (r:α)(HK:Hp)(Q':VK),r∈rs->aG H HK->(∀ H5,aG HK H5->Q' (f r) H5)->te (some (g r)::rest) HK Q') (k:∀ (HK:Hp),aG H HK->HK q=some (.lst (rs.map f))->Qf HK) :
  oD (tZ K lr) (gh 0) (vg pX te q) { nx:=fun _ H'=>Qf H',rt:=fun _ _=>False } (none::rest) (bE H q (.lst [])):=by
 refine dC (K:=K) (a:=lr) (xs:=rs.map g) (fun i σ HK=>∃ v:Option V,σ=v::rest/\aG H HK/\HK q=some (.lst ((rs.take i).map f))) ⟨none,rfl,ag hq,af⟩ (fun i σ HK _ ⟨_,_,s2,_⟩=>bC.of (s2 _ _ h1)) ?_ ?_
 ·rintro i y σ HK hi ⟨v,rfl,t1,hq2⟩
  obtain⟨r,hr0,rfl⟩:=dk hi;have hil:i<rs.length:=(List.getElem?_eq_some_iff.mp hr0).1;refine c5 (ht r HK _ (yH hr0) t1 fun H5 s5=>⟨_,s5 _ _ hq2,by rw[x4,yM];exact bZ (by omega),_,rfl,cE (t1.trans s5) hq,?_⟩);rw[af,zr,hr0,zn,yk];rfl
 ·rintro σ HK ⟨v,rfl,t1,hq2⟩
  rw[x4,zx]at hq2;exact k HK t1 hq2
def aK (x:Str):List Nat:=x.cps.toList
theorem bH (x:Str):x.length=(aK x).length:=by unfold aK;rw[yO];rfl
theorem cO (x y:Str):aK (x++y)=aK x++aK y:=by
 show (x.cps++y.cps).toList=_
 rw[Array.toList_append];rfl
theorem kH (g:Array Nat):∀ (ps:List Str)(a:Array Nat),(ps.foldl (fun acc p=>acc++g++p.cps) a).toList=a.toList++(ps.map fun p=>g.toList++aK p).flatten
 | [],a=>by simp
 | p::ps,a=>by
  rw[List.foldl_cons,kH g ps];simp[aK]
theorem oO (sep p:Str)(ps:List Str):aK (Txt.join sep (p::ps))=aK p++(ps.map fun q=>aK sep++aK q).flatten:=by
 unfold Txt.join Builtin.Str.glued
 show ((ps.foldl (fun acc p=>acc++sep.cps++p.cps) p.cps)).toList=_
 rw[kH];rfl
def mh (g:Int):Prop:=0<=g/\g<10 ^ 12
theorem mO {g:Int}(h:mh g):∃ ds,Num (gS g) ds/\(numV ds:Int)=g:=su h.1 h.2
theorem iF {g:Int}(h:mh g):(∀ c∈aK (gS g),48<=c/\c<58)/\(aK (gS g)).length<=12:=by
 obtain⟨ds,N,e⟩:=mO h;unfold aK;rw[N.eq];refine⟨fun c hc=>?_,by rw[x4];exact N.ln⟩;obtain⟨d,hd,rfl⟩:=yA.mp hc;have:=N.dg d hd;exact⟨by omega,by omega⟩
theorem io {x:Str}(h:∀ c∈aK x,c<128):jd x:=by
 unfold jd;rw[<-Array.all_toList,yz];exact fun c hc=>x5 (h c hc)
theorem fX (k c:Int):mh (fW k c):=by
 unfold mh fW;have h:=yX (k*(1+cV c*1234567891%2147483646)+cV c/2147483646) (show (2147483647:Int)≠0 by decide);have h2:=yJ (k*(1+cV c*1234567891%2147483646)+cV c/2147483646) (show (0:Int)<2147483647 by decide);dsimp only;generalize (k*(1+cV c*1234567891%2147483646)+cV c/2147483646)%2147483647=y at h h2;split<;>omega
inductive cN where
 | pair (a b:Int)
 | line (gs:List Int)
 | star (gs:List Int)
 | all (gs:List Int)
 | quad (a b c d:Int)
def cN.word:cN->Str
 | .pair _ _=>"pair"
 | .line _=>"line"
 | .star _=>"star"
 | .all _=>"all"
 | .quad _ _ _ _=>"quad"
def cN.gs:cN->List Int
 | .pair a b=>[a,b]
 | .line g=>g
 | .star g=>g
 | .all g=>g
 | .quad a b c d=>[a,b,c,d]
def cN.isP:cN->Bool
 | .pair _ _=>true
 | _=>false
def cN.Ok (f:cN):Prop:=2<=f.gs.length/\f.gs.length<=60/\∀ a b c d,f=.quad a b c d->[a,b,c,d].Nodup
def gK (H:Hp)(p:Addr):cN->Prop
 | .pair a b=>H p=some (.tup [.str "pair",.int a,.int b])
 | f=>∃ q,H p=some (.tup [.str f.word,.ref q])/\H q=some (.tup (f.gs.map V.int))
theorem gK.gr {H:Hp}{p:Addr}{f:cN}(h:gK H p f)(n:f.isP=false):∃ q,H p=some (.tup [.str f.word,.ref q])/\H q=some (.tup (f.gs.map V.int)):=by
 cases f<;>first | exact h | cases n
theorem gK.of {H:Hp}{p q:Addr}{f:cN}(n:f.isP=false)(h1:H p=some (.tup [.str f.word,.ref q]))(h2:H q=some (.tup (f.gs.map V.int))):gK H p f:=by
 cases f<;>first | exact⟨q,h1,h2⟩ | cases n
theorem gK.hd {H:Hp}{p:Addr}{f:cN}(h:gK H p f):∃ xs,H p=some (.tup (.str f.word::xs)):=by
 cases f with
 | pair a b=>exact⟨_,h⟩
 | _=>obtain⟨q,e,_⟩:=h;exact⟨_,e⟩
theorem cN.nw (f:cN):f.word≠"back"/\f.word≠"row"/\f.word≠"name":=by
 cases f<;>(dsimp only[cN.word];refine⟨?_,?_,?_⟩<;>decide +kernel)
inductive jt (vs:List V) (H:Hp) (Q:VK) (E_:XK):Prop
 | mk (d:Int) (h_0:vs=[.int d]) (h_1:0<=d) (h_2:∀ (l:Addr)(rs:List Int),H l=none->2<=rs.length->rs.length<=60->(∀ r∈rs,0<=r/\r<12)->Q (.ref l) (bE H l (.lst (rs.map V.int)))):jt vs H Q E_
end Wz
namespace Qs
open PySem PySem.W PyProof.Rows
abbrev Q4:=Int×Int×Int×Int
def q0:Q4:=(0,0,0,0)
def xP (p q:Q4):Bool:=decide (p.1<q.1\/(p.1=q.1/\(p.2.1<q.2.1\/(p.2.1=q.2.1/\(p.2.2.1<q.2.2.1\/(p.2.2.1=q.2.2.1/\p.2.2.2<q.2.2.2))))))
def xL (h:Heap)(v:Value)(p:Q4):Prop:=∃ (b:Addr)(o:Obj)(n:Nat)(t1 t2 t3 t4:Tok),v=.ref b/\h.get? b=some o/\o.cls=.type "tuple"/\o.data=.seq #[.int p.1 t1,.int p.2.1 t2,.int p.2.2.1 t3,.int p.2.2.2 t4] n
open Classical in
noncomputable def decQ (h:Heap) (v:Value):Q4:=if z:∃ p,xL h v p then choose z else q0
def wy (vs:List Value)(ps:List Q4)(out:List Value):Prop:=∃ ix:List Nat,ix.Perm (List.range vs.length)/\out=ix.map (fun i=>vs.getD i Value.none)/\(ix.map fun i=>ps.getD i q0).Pairwise (fun a b=>xP a b=true)
end Qs
namespace L2
open PySem PySem.Spec PyProof.Rows
section
variable {prog:Program}{w:World}{A:Around}{R:Result->Shared->Prop}{I:Addr}{fp wr:List Addr}{n:Nat}{P:Nat->Value->Prop}{St:Nat->Heap->Prop}
abbrev vF (I S:Addr)(d:Value):Code:=.builtin "max.loop" ⟨[.ref I,.none,.ref S],[("default",d)]⟩
theorem pI (W:Walks prog w A.in1 I fp wr n P St)(bt:Nat->Nat->Bool)(cmp:CmpOf prog w A.in1 .Gt P bt)(d:Value)(S:Addr)(nS:S∉fp) :
  ∀ (m j:Nat)(s:Shared)(v:Value)(c:Nat),m+(j+1)=n->St (j+1) s.heap->P (argBest bt j) v ->
  s.heap.get? S=some { cls:=.type "list",dict:=none,data:=.seq #[v,v] c,slots:=#[] } ->
  (∀ u h' tk,P (argBest bt (n-1)) u->(∀ b o,b∉wr->b≠S->s.heap.get? b=some o->h'.get? b=some o)->R (.ok (.ret u)) { s with heap:=h',toks:=tk })->codeAny (model prog w) A (vF I S d) R s:=by
 have nW:S∉wr:=fun z=>nS (W.sub _ z)
 have nm:(toString "max"++toString ".loop" : String)="max.loop":=by decide
 intro m
 induction m with
 | zero =>
  intro j s v c e st pv hS k
  have e:j+1=n:=by omega
  refine codeAny_builtin F.entry_max_loop ?_;rw[Around.under_plainId zm _]
  show wpAny _ A.in1 (seqItems? (.ref S) >>= _) _ _ s
  refine x9 (wpAny_seqItems hS rfl ?_)
  show wpAny _ A.in1 (tryCatch (pyNext (.ref I)) _ >>= _) _ _ s
  refine x9 (wpAny_tryCatch (W.done s _ _ (e▸st) fun h1 t1 k1=>?_));have hS1:=k1 S _ nW hS
  show wpAny _ A.in1 (updateSeq S (fun _=>#[]) >>= _) _ _ _
  refine x9 (wpAny_updateSeq hS1 rfl (x9 (wpAny_letGo (yj ?_))));exact k v _ t1 (by rw[<-e];exact pv) fun b o b1 b2 z=>(Heap.get?_update_other _ _ (zk b2)).trans (k1 b o b1 z)
 | succ m ih =>
  intro j s v c e st pv hS k;refine codeAny_builtin F.entry_max_loop ?_;rw[Around.under_plainId zm _]
  show wpAny _ A.in1 (seqItems? (.ref S) >>= _) _ _ s
  refine x9 (wpAny_seqItems hS rfl ?_)
  show wpAny _ A.in1 (tryCatch (pyNext (.ref I)) _ >>= _) _ _ s
  refine x9 (wpAny_tryCatch (W.item (j+1) s _ _ (by omega) st fun u h1 t1 pu st1 k1=>?_));have hS1:=k1 S _ nW hS
  show wpAny _ A.in1 (tryCatch (holding [u,u] (richCompare .Gt u v >>= _)) _ >>= _) _ _ _
  refine x9 (wpAny_tryCatch (wpAny_holding (x9 (cmp (j+1) (argBest bt j) u v _ _ _ pu pv ?_))));refine x9 (wpAny_holding (yS ?_));refine x9 (wpAny_letGo (yj ?_))
  cases q:bt (j+1) (argBest bt j) with
  | true =>
   simp only[zu];refine x9 (wpAny_updateSeq hS1 rfl (x9 (wpAny_letGo ?_)));rw[nm];refine yj ⟨plainId_quiet zm _,ih (j+1) _ u _ (by omega) (W.frame _ _ _ st1 fun b hb o z=>(Heap.get?_update_other _ _ (fun y:S=b=>nS (by rw[y];exact hb))).trans z) (by simp only[argBest,q,zu];exact pu) (Heap.get?_update_self _ hS1 rfl) fun u2 h2 t2 p2 k2=>?_⟩;exact k u2 h2 t2 p2 fun b o b1 b2 z=>k2 b o b1 b2 ((Heap.get?_update_other _ _ (zk b2)).trans (k1 b o b1 z))
  | false =>
   simp only[Bool.false_eq_true,if_false];refine x9 (wpAny_letGo ?_);rw[nm];refine yj ⟨plainId_quiet zm _,ih (j+1) _ v c (by omega) st1 (by simp only[argBest,q,Bool.false_eq_true,if_false];exact pv) hS1 fun u2 h2 t2 p2 k2=>?_⟩;exact k u2 h2 t2 p2 fun b o b1 b2 z=>k2 b o b1 b2 (k1 b o b1 z)
theorem nR (W:Walks prog w A.in1 I fp wr n P St)(bt:Nat->Nat->Bool)(cmp:CmpOf prog w A.in1 .Gt P bt)(d:Value)(S:Addr)(nS:S∉fp){s:Shared}{c:Nat}(st:St 0 s.heap)
  (hS:s.heap.get? S=some { cls:=.type "list",dict:=none,data:=.seq #[] c,slots:=#[] })
  (k0:n=0->∀ h' tk,(∀ b o,b∉wr->b≠S->s.heap.get? b=some o->h'.get? b=some o)->R (.ok (.ret d)) { s with heap:=h',toks:=tk })
  (k:0<n->∀ u h' tk,P (argBest bt (n-1)) u->(∀ b o,b∉wr->b≠S->s.heap.get? b=some o->h'.get? b=some o)->R (.ok (.ret u)) { s with heap:=h',toks:=tk }):codeAny (model prog w) A (vF I S d) R s:=by
 have nW:S∉wr:=fun z=>nS (W.sub _ z)
 have nm:(toString "max"++toString ".loop" : String)="max.loop":=by decide
 refine codeAny_builtin F.entry_max_loop ?_;rw[Around.under_plainId zm _]
 show wpAny _ A.in1 (seqItems? (.ref S) >>= _) _ _ s
 refine x9 (wpAny_seqItems hS rfl ?_)
 show wpAny _ A.in1 (tryCatch (pyNext (.ref I)) _ >>= _) _ _ s
 by_cases n0:n=0
 ·refine x9 (wpAny_tryCatch (W.done s _ _ (n0▸st) fun h1 t1 k1=>?_))
  exact x9 (wpAny_rule (yj (k0 n0 _ t1 fun b o b1 b2 z=>k1 b o b1 z)))
 ·refine x9 (wpAny_tryCatch (W.item 0 s _ _ (by omega) st fun u h1 t1 pu st1 k1=>?_))
  have hS1:=k1 S _ nW hS
  show wpAny _ A.in1 (updateSeq S (fun _=>#[u,u]) >>= _) _ _ _
  refine x9 (wpAny_updateSeq hS1 rfl ?_);rw[nm];refine yj ⟨plainId_quiet zm _,pI W bt cmp d S nS (n-1) 0 _ u _ (by omega) (W.frame _ _ _ st1 fun b hb o z=>(Heap.get?_update_other _ _ (fun y:S=b=>nS (by rw[y];exact hb))).trans z) pu (Heap.get?_update_self _ hS1 rfl) fun u2 h2 t2 p2 k2=>?_⟩;exact k (by omega) u2 h2 t2 p2 fun b o b1 b2 z=>k2 b o b1 b2 ((Heap.get?_update_other _ _ (zk b2)).trans (k1 b o b1 z))
end
theorem qi (a d:Value):checkBuiltinCall "max" ⟨[a],[("default",d)]⟩=pure ():=by kernel_rfl
section
variable {prog:Program}{w:World}{A:Around}{E:Value->Shared->Prop}{s:Shared}
theorem pk {x d:Value}{Q:Value->Shared->Prop}
  (h:wpAny (model prog w) A.in1 (pyIter x) (fun it s2=>∃ I fp wr n P St bt,it=.ref I/\Walks prog w A.in1 I fp wr n P St/\St 0 s2.heap/\(∀ b∈fp,b<s2.heap.objs.size)/\CmpOf prog w A.in1 .Gt P bt /\
   (n=0->∀ h' tk,(∀ b o,b∉wr->s2.heap.get? b=some o->h'.get? b=some o)->Q d { s2 with heap:=h',toks:=tk }) /\
   (0<n->∀ v h' tk,P (argBest bt (n-1)) v->(∀ b o,b∉wr->s2.heap.get? b=some o->h'.get? b=some o)->Q v { s2 with heap:=h',toks:=tk })) E s) :
  wpAny (model prog w) A (call (.builtin "max") [x] [("default",d)]) Q E s:=by
 have nm:(toString "max"++toString ".loop" : String)="max.loop":=by decide
 refine wpAny_call (codeAny_call_builtin F.plain_max F.entry_max (wpAny_of_eq (qi x d) ?_))
 show wpAny _ A.in1 (Builtin.Builtins.bindParams "max" ["key","default"] 0 ⟨[],[("default",d)]⟩ >>= _) _ _ s
 refine x9 (wpAny_of_eq (show Builtin.Builtins.bindParams "max" ["key","default"] 0 ⟨[],[("default",d)]⟩=pure [none,some d] from rfl) ?_);refine x9 (yj (x9 (y4 h (fun it s2 h2=>?_) fun _ _ e=>e)));obtain⟨I,fp,wr,n,P,St,bt,rfl,W,st,lt,cmp,k0,k⟩:=h2;refine x9 (zi ?_);have nS:s2.heap.objs.size∉fp:=fun z=>zq _ (lt _ z);rw[nm];refine yj ⟨plainId_quiet zm _,nR W bt cmp d s2.heap.objs.size nS (W.frame _ _ _ st fun b _ o e=>Heap.get?_push_of_some _ e) (Heap.get?_push_size _ rfl) (fun n0 h' tk hk=>?_) fun n0 v h' tk pv hk=>?_⟩
 ·exact k0 n0 h' tk fun b o b1 e=>hk b o b1 (yp (yd e)) (Heap.get?_push_of_some _ e)
 ·exact k n0 v h' tk pv fun b o b1 e=>hk b o b1 (yp (yd e)) (Heap.get?_push_of_some _ e)
end
def wb (K:PySem.W.Frag)(ta:TA)(d:Int):TE:=fun σ H Q=>ta σ H fun vs H1=>∃ (l:Addr)(ns:List Int),vs=[.ref l]/\bC K H1 l (ns.map V.int)/\(ns=[]->Q (.int d) H1)/\∀ M,M∈ns->(∀ a∈ns,a<=M)->Q (.int M) H1
theorem sx {X:Cx}{a:Expr}{ta:TA}{d:Int}{p pos cp kp:Pos}{cj:Nat}(hc:X.calm=true)(hg:Gl X "max")(hm:X.mg "max" = none)(ha:PA X [a] ta)
  (he:backTo pos (starEach [a] X.env)=(false,eval a X.env)::backTo pos (starEach [] X.env):=by rfl) (hplain:(backTo pos (starEach [a] X.env)).any (·.1)=false:=by rfl)
  (hall:(backToKw pos (keywordEach [⟨some "default",.Constant (.int d) cj cp,kp⟩] X.env)).all (·.1.isSome)=true:=by rfl) (hkw:(backToKw pos (keywordEach [⟨some "default",.Constant (.int d) cj cp,kp⟩] X.env)).any (·.1.isNone)=false:=by rfl) :
  PE X (.Call (.Name "max" p) [a] [⟨some "default",.Constant (.int d) cj cp,kp⟩] pos) (wb X.K ta d):=by
 intro pins s σ H Q I h;refine zd (iz I hg hm boot_max ?_ (by decide) (by decide));refine callWith_kw (bK (ha pos pins s σ H _ I h) fun us s1 ⟨vs,H1,I1,r1,l,ns,e1,hq,q0,q⟩=>?_) he hplain hall hkw;subst e1;obtain⟨u,rfl,rx⟩:=fi r1;cases rx;refine kws_cons (wpAny_Constant_int (kws_nil ?_));have I2:aF X pins σ H1 { s1 with toks:=s1.toks+1 }:=I1.tok _;obtain⟨its,rv,pl,hz⟩:=I2.list hq;have hl:=rv.length;rw[x4]at hl
 show wpAny _ _ (call (.builtin "max") [.ref l] [("default",.int d s1.toks)]) _ _ _
 refine pk (kI (xs:=ns.map V.int) I2 (I2.ok.hd hc) pl fun I' St s2 hs2 hI W st kp fin=>?_)
 have val:∀ (i:Nat)(v:Value),its.toArray[i]? = some v->∃ t,v=.int (ns.getD i 0) t:=fun i v e=>by
  have e:its[i]? = some v:=by simpa using e
  have hi:i<ns.length:=by have:=(List.getElem?_eq_some_iff.mp e).1;omega
  obtain⟨u,eu,ru⟩:=rv.get (i:=i) (x:=V.int ns[i]) (by rw[List.getElem?_map,List.getElem?_eq_getElem hi];rfl);rw[e]at eu;cases eu;obtain⟨t,rfl⟩:=ru;exact⟨t,by rw[List.getD_eq_getElem?_getD,List.getElem?_eq_getElem hi];rfl⟩
 have hlt:l<s1.heap.objs.size:=by obtain⟨o,n,e,_⟩:=pl;exact yd e
 refine⟨I',_,_,_,_,St,_,rfl,W,st,fun b hb=>?_,CmpOf.ints_gt (fun i=>ns.getD i 0) val,fun n0 h' tk k=>?_,fun n0 v h' tk hv k=>?_⟩
 ·rcases yh.mp hb with z | z
  ·rw[z,hI,hs2];exact Nat.lt_succ_self _
  ·rw[yu.mp z,hs2];exact Nat.lt_succ_of_lt hlt
 ·exact⟨.int d,H1,fin h' tk k,⟨_,rfl⟩,q0 (List.eq_nil_of_length_eq_zero (by omega))⟩
 ·obtain⟨t,rfl⟩:=val _ _ hv
  obtain⟨h1,h2⟩:=argBest_gt (fun i=>ns.getD i 0) (its.length-1);refine⟨.int _,H1,fin h' tk k,⟨t,rfl⟩,q _ ?_ fun a ha=>?_⟩
  ·rw[List.getD_eq_getElem?_getD,List.getElem?_eq_getElem (by omega)];exact List.getElem_mem _
  ·obtain⟨j,hj⟩:=List.getElem?_of_mem ha
   have hjl:j<ns.length:=(List.getElem?_eq_some_iff.mp hj).1;have:=h2 j (by omega);rw[show ns.getD j 0=a by rw[List.getD_eq_getElem?_getD,hj];rfl]at this;exact this
theorem jj {P:Program}{w:World}{K:PySem.W.Frag}{mg:Str->Option Value}{base:Heap}{CX:ku}{k:Nat}{f:Addr}{fd:FuncData}{ps:List Str}{sp:Sp}(no:∀ vs H Q E,¬ sp vs H Q E):bc P w K mg base CX k f fd ps sp :=
 ⟨fun vs H Q E h=>(no vs H Q E h).elim,fun A outer s H args us vs Q E hr e0 hb r h=>(no vs H Q E h).elim⟩
def xm (te:TE):TE:=fun σ H Q=>te σ H fun x H1=>∃ z:Str,x=.str z/\z.length<=1000/\∀ y:Str,y.length<=1000->Q (.str y) H1
theorem uM {X:Cx}{e:Expr}{te:TE}{pos:Pos}(he:PE X e te):PE X (.FormattedValue e (-1) none pos) (xm te):=by
 intro pins s σ H Q I h;refine FormattedValue_plain (bK (he pins s σ H _ I h) fun u s1 ⟨x,H1,I1,rx,z,ex,hz,q⟩=>?_);subst ex;obtain⟨tk,rfl⟩:=rx;have sl:sizeLine=16777216:=yK;exact wpAny_formatField_str ⟨.str z,H1,I1,⟨_,rfl⟩,q z hz⟩ ⟨.str z,H1,I1.tok _,⟨_,rfl⟩,q z hz⟩ (by omega)
end L2
namespace Wz
open PySem L2
inductive aB where
 | pl (f:cN)
 | row (fs:List aB)
 | back (f:aB)
 | name (w:Str)
def aB.word:aB->Str
 | .pl f=>f.word
 | .row _=>"row"
 | .back _=>"back"
 | .name _=>"name"
mutual
def aB.names:aB->List Str
 | .pl _=>[]
 | .row fs=>aB.namesL fs
 | .back f=>f.names
 | .name w=>[w]
def aB.namesL:List aB->List Str
 | []=>[]
 | f::fs=>f.names++aB.namesL fs
end
def bA:Nat->Hp->Addr->aB->Prop
 | 0,_,_,_=>False
 | _+1,H,p,.pl f=>gK H p f/\f.Ok
 | _+1,H,p,.name w=>H p=some (.tup [.str "name",.str w])/\w.length<=100
 | n+1,H,p,.back f=>∃ q,H p=some (.tup [.str "back",.ref q])/\bA n H q f
 | n+1,H,p,.row fs=>∃ t as,H p=some (.tup [.str "row",.ref t])/\H t=some (.tup (as.map V.ref))/\fs.length<=100/\Paired (bA n H) as fs
theorem bA.mono {H H':Hp}(s:∀ b xs,H b=some (.tup xs)->H' b=some (.tup xs)):∀ {n:Nat}{p:Addr}{f:aB},bA n H p f->bA n H' p f
 | 0,_,_,h=>h
 | n+1,p,.pl f,h=>by
  refine⟨?_,h.2⟩;have h:=h.1
  cases f with
  | pair a b=>exact s _ _ h
  | _=>obtain⟨q,e1,e2⟩:=h;exact⟨q,s _ _ e1,s _ _ e2⟩
 | n+1,p,.name w,h=>⟨s _ _ h.1,h.2⟩
 | n+1,p,.back f,h=>by
  obtain⟨q,e1,e2⟩:=h;exact⟨q,s _ _ e1,bA.mono s e2⟩
 | n+1,p,.row fs,h=>by
  obtain⟨t,as,e1,e2,hl,e3⟩:=h;exact⟨t,as,s _ _ e1,s _ _ e2,hl,Paired.mapP e3 fun _ _ z=>bA.mono s z⟩
theorem bA.hd {n:Nat}{H:Hp}{p:Addr}{f:aB}(h:bA n H p f):∃ xs,H p=some (.tup (.str f.word::xs)):=by
 cases n with
 | zero=>exact h.elim
 | succ n =>
  cases f with
  | pl f=>exact h.1.hd
  | name w=>exact⟨_,h.1⟩
  | back f=>obtain⟨q,e,_⟩:=h;exact⟨_,e⟩
  | row fs=>obtain⟨t,as,e,_⟩:=h;exact⟨_,e⟩
def bI (c:Nat):Bool:=decide (97<=c/\c<123)
theorem qD (c:Nat):(!(Builtin.Str.occurrences (Str.ofString "abcdefghijklmnopqrstuvwxyz") ⟨#[c]⟩ 0 (Str.ofString "abcdefghijklmnopqrstuvwxyz").length 1).isEmpty)=bI c:=by
 rw[StrLaws.found_one]
 have e:(Str.ofString "abcdefghijklmnopqrstuvwxyz").cps.toList=(List.range 26).map (·+97):=by decide +kernel
 rw[e];unfold bI;rw[zy,yA];constructor
 ·rintro⟨k,hk,rfl⟩
  have:=List.mem_range.mp hk;omega
 ·intro h
  exact⟨c-97,List.mem_range.mpr (by omega),by omega⟩
def kindsL:List Str:=["pair","line","star","all","quad","row","back","name"]
def dD (z:Str):Bool:=!decide (z∈kindsL)&&decide (1<=z.length/\z.length<=12)&&z.cps.toList.all bI
theorem gO (z:Str):∀ xs:List Str,nE (V.str z) (xs.map V.str)=decide (z∈xs)
 | []=>rfl
 | x::xs=>by
  have ih:=gO z xs;unfold nE at ih ⊢;rw[yD,List.any_cons,ih]
  by_cases e:z=x
  ·subst e
   rw[show p7 (V.str z) (V.str z)=true by simp[p7],x5 ya];rfl
  ·rw[show p7 (V.str x) (V.str z)=false by simp[p7];exact fun q=>e q.symm]
   rw[Bool.false_or];exact zy.mpr ⟨fun q=>yc _ q,fun q=>(yh.mp q).resolve_left e⟩
theorem kE (xs:List Str):(xs.map V.str).all gM=true:=yz.mpr fun v hv=>by obtain⟨x,_,rfl⟩:=yA.mp hv;rfl
theorem bA.up {H:Hp}:∀ {n:Nat}{p:Addr}{f:aB},bA n H p f->bA (n+1) H p f
 | 0,_,_,h=>h.elim
 | n+1,p,.pl f,h=>h
 | n+1,p,.name w,h=>h
 | n+1,p,.back f,h=>by
  obtain⟨q,e1,e2⟩:=h;exact⟨q,e1,bA.up e2⟩
 | n+1,p,.row fs,h=>by
  obtain⟨t,as,e1,e2,fl,pr⟩:=h;exact⟨t,as,e1,e2,fl,Paired.mapP pr fun _ _ z=>bA.up z⟩
theorem bA.le {H:Hp}{n m:Nat}{p:Addr}{f:aB}(h:bA n H p f)(hl:n<=m):bA m H p f:=by
 induction hl with
 | refl=>exact h
 | step _ ih=>exact ih.up
theorem tD (w:Str):decide (V.str (aB.name w).word=V.str "name")=true:=by show decide (V.str (Str.ofString "name")=V.str (Str.ofString "name"))=true;decide +kernel
theorem tv (f:aB):decide (V.str (aB.back f).word=V.str "back")=true:=by show decide (V.str (Str.ofString "back")=V.str (Str.ofString "back"))=true;decide +kernel
theorem tz (f:aB):decide (V.str (aB.back f).word=V.str "name")=false:=by show decide (V.str (Str.ofString "back")=V.str (Str.ofString "name"))=false;decide +kernel
theorem tG (fs:List aB):decide (V.str (aB.row fs).word=V.str "back")=false:=by show decide (V.str (Str.ofString "row")=V.str (Str.ofString "back"))=false;decide +kernel
theorem tK (fs:List aB):decide (V.str (aB.row fs).word=V.str "row")=true:=by show decide (V.str (Str.ofString "row")=V.str (Str.ofString "row"))=true;decide +kernel
theorem tH (fs:List aB):decide (V.str (aB.row fs).word=V.str "name")=false:=by show decide (V.str (Str.ofString "row")=V.str (Str.ofString "name"))=false;decide +kernel
theorem tE (f:cN):decide (V.str (aB.pl f).word=V.str "back")=false:=x6 (fun z=>f.nw.1 (V.str.inj z))
theorem wo (f:cN):decide (V.str (aB.pl f).word=V.str "row")=false:=x6 (fun z=>f.nw.2.1 (V.str.inj z))
theorem tF (f:cN):decide (V.str (aB.pl f).word=V.str "name")=false:=x6 (fun z=>f.nw.2.2 (V.str.inj z))
end Wz
namespace L2
open PySem PySem.Spec PyProof.Rows
theorem b7 {X:Cx} {x j p}{es:List Expr}{t:TA}(hr:PA X es t):PA X (.Constant (.str x) j p::es) (fh (tC (.str x)) t):=aO ak hr rfl
theorem oy {es:List Expr}{p:Pos}{t:Option Expr}{n:Nat}{env:Env}:swapsWith (.List es p) t n env=pure false:=rfl
structure sU (X:Cx)(ss:List Stmt)(t:TS):Prop where
 h:mm X ss t
structure QA (X:Cx)(es:List Expr)(t:TA):Prop where
 h:PA X es t
theorem eQ {X:Cx}:QA X [] kt:=⟨bn⟩
theorem ar {X:Cx} {x j p}{es:List Expr}{t:TA}(hr:QA X es t):QA X (.Constant (.str x) j p::es) (fh (tC (.str x)) t):=⟨b7 hr.h⟩
end L2
namespace Wz
open PySem L2
theorem qC {w:Str}{c:Nat}:(w++⟨#[c]⟩:Str).length=w.length+1:=by
 rw[bH,cO,yb,<-bH];rfl
theorem ei {b:Bool}{p q:Prop}(h1:b=true->p)(h2:b=false->q):if b=true then p else q:=by
 cases b
 ·exact au (h2 rfl)
 ·exact aI (h1 rfl)
theorem jP:∀ a b:List aB,aB.namesL (a++b)=aB.namesL a++aB.namesL b
 | [],b=>by rw[aB.namesL];rfl
 | f::a,b=>by rw[List.cons_append,aB.namesL,aB.namesL,jP a b,y7]
inductive hW (vs:List V) (H:Hp) (Q:VK) (E_:XK):Prop
 | mk (p:Addr) (n:Nat) (f:aB) (h_0:vs=[.ref p]) (h_1:bA n H p f) (h_2:(∃ g,f=.pl g)\/∃ w,f=.name w) (h_3:∀ H' k,aG H H'->Q (.bl k) H'):hW vs H Q E_
def kR (H:Hp)(t:Addr)(x:aB×Nat):Prop:=∃ p,H t=some (.tup [.ref p,.int x.2])/\bA x.2 H p x.1
def fj (x:aB×Nat):Prop:=1<=x.2/\x.2<=7/\(x.2=1->(∃ g,x.1=.pl g)\/∃ w,x.1=.name w)
def sQ (x:aB×Nat):Nat:=if x.2=1 then 20 else x.1.names.length
def kh:List (aB×Nat)->Nat
 | []=>0
 | x::xs=>sQ x+kh xs
def rL (H:Hp)(s:Addr)(xs:List (aB×Nat)):Prop:=∃ ts:List Addr,H s=some (.lst (ts.map V.ref))/\Paired (kR H) ts xs
theorem kR.mono {H H':Hp}{t:Addr}{x:aB×Nat}(h:kR H t x)(s:∀ b ys,H b=some (.tup ys)->H' b=some (.tup ys)):kR H' t x:=by
 obtain⟨p,e1,e2⟩:=h;exact⟨p,s _ _ e1,e2.mono s⟩
theorem h8:∀ a b:List (aB×Nat),kh (a++b)=kh a+kh b
 | [],b=>by rw[List.nil_append,kh];omega
 | x::a,b=>by rw[List.cons_append,kh,kh,h8 a b];omega
theorem fj.few {x:aB×Nat}(h:fj x):x.1.names.length<=sQ x:=by
 unfold sQ;split
 ·rename_i e
  rcases h.2.2 e with ⟨g,z⟩ | ⟨w,z⟩
  ·rw[z,aB.names];simp
  ·rw[z,aB.names];simp
 ·exact x8 _
theorem iS:∀ xs:List (aB×Nat),(∀ x∈xs,fj x)->(aB.namesL (xs.map (·.1))).length<=kh xs
 | [],_=>by rw[List.map_nil,aB.namesL];exact yT _
 | x::xs,h=>by
  have ih:=iS xs fun y hy=>h y (yc _ hy);have:=(h x ya).few;rw[yD,aB.namesL,yb,kh];omega
theorem qx {H:Hp}{ts:List Addr}{xs:List (aB×Nat)}(h:Paired (kR H) ts xs)(ok:∀ x∈xs,fj x):∃ ps:List Addr,Paired (fun t p=>∃ n:Int,H t=some (.tup [.ref p,.int n])) ts ps/\Paired (bA 7 H) ps (xs.map (·.1)):=by
 induction h with
 | nil=>exact⟨[],.nil,.nil⟩
 | cons a _ ih =>
  obtain⟨ps,p1,p2⟩:=ih fun x hx=>ok x (yc _ hx);obtain⟨p,e1,e2⟩:=a;exact⟨p::ps,.cons ⟨_,e1⟩ p1,.cons (e2.le (ok _ ya).2.1) p2⟩
def p9 (s:Addr)(H H':Hp):Prop:=∀ a o,H a=some o->a≠s->H' a=some o
theorem jK {s:Addr}{H H':Hp}(h:aG H H'):p9 s H H':=fun a o e _=>h a o e
theorem p9.trans {s:Addr}{H H' H2:Hp}(h:p9 s H H')(t:p9 s H' H2):p9 s H H2:=fun a o e n=>t a o (h a o e n) n
theorem jm {s:Addr}{H:Hp}{o:HO}:p9 s H (bE H s o):=fun a u e n=>by rw[aL n];exact e
theorem p9.tup {s:Addr}{H H':Hp}{vs:List V}(h:p9 s H H')(e:H s=some (.lst vs)):∀ b ys,H b=some (.tup ys)->H' b=some (.tup ys):=fun b ys z=>h b _ z fun q=>by rw[q,e]at z;cases z
theorem rf {H H':Hp}{s t:Addr}{ts:List Addr}{xs:List (aB×Nat)}{x:aB×Nat}(pr:Paired (kR H) ts xs)(up:∀ b ys,H b=some (.tup ys)->H' b=some (.tup ys))(hs:H' s=some (.lst (ts.map V.ref++[.ref t])))(it:kR H' t x):rL H' s (xs++[x]) :=
 ⟨ts++[t],by rw[hs,yk];rfl,cD (Paired.mapP pr fun _ _ z=>z.mono up) (.cons it .nil)⟩
theorem qI {xs:List (aB×Nat)}{x:aB×Nat}(h:∀ y∈xs,fj y)(hx:fj x):∀ y∈xs++[x],fj y:=fun y hy=>by
 rcases yL.mp hy with z | z
 ·exact h y z
 ·rw[yu.mp z];exact hx
theorem i7 (fs:List aB):∀ k:Nat,(aB.namesL (List.replicate k fs).flatten).length=k*(aB.namesL fs).length
 | 0=>by rw[List.replicate_zero,List.flatten_nil,aB.namesL,Nat.zero_mul];rfl
 | k+1=>by rw[yP,y1,jP,yb,i7 fs k,Nat.succ_mul,Nat.add_comm]
theorem ja {α β:Type}{F:α->β->Prop}{l:List α}{m:List β}(p:Paired F l m):∀ k:Nat,Paired F (List.replicate k l).flatten (List.replicate k m).flatten
 | 0=>.nil
 | k+1=>by rw[yP,yP,y1,y1];exact cD p (ja p k)
theorem iD {α β:Type}(f:α->β)(l:List α):∀ k:Nat,(List.replicate k (l.map f)).flatten=((List.replicate k l).flatten).map f
 | 0=>rfl
 | k+1=>by rw[yP,yP,y1,y1,yk,iD f l k]
theorem nC:∀ {xs:List (aB×Nat)},(∀ x∈xs,x.2=1)->kh xs=20*xs.length
 | [],_=>rfl
 | x::xs,h=>by
  rw[kh,nC fun y hy=>h y (yc _ hy),yy];unfold sQ;rw[ym (h x ya)];omega
theorem jQ:∀ {xs:List (aB×Nat)},(∀ x∈xs,fj x)->(∀ x∈xs,x.2=1)->(aB.namesL (xs.map (·.1))).length<=xs.length
 | [],_,_=>by rw[List.map_nil,aB.namesL];exact x8 _
 | x::xs,ok,h=>by
  have ih:=jQ (fun y hy=>ok y (yc _ hy)) fun y hy=>h y (yc _ hy);rw[yD,aB.namesL,yb,yy];rcases (ok x ya).2.2 (h x ya) with ⟨g,z⟩ | ⟨w,z⟩
  ·rw[z,aB.names];simp only[List.length_nil];omega
  ·rw[z,aB.names];simp only[yF];omega
theorem va {xs:List (aB×Nat)}{k d:Nat}(ok:∀ x∈xs,fj x)(hd:2<=d)(hk:k=1\/(k<=20/\∀ x∈xs,x.2=1)):sQ (.row (List.replicate k (xs.map (·.1))).flatten,d)<=kh xs:=by
 unfold sQ;rw[yf (show ¬ d=1 by omega)]
 show (aB.row _).names.length<=_
 rw[aB.names,i7];rcases hk with rfl | ⟨hk,h1⟩
 ·rw[Nat.one_mul];exact iS xs ok
 ·rw[nC h1]
  exact Nat.mul_le_mul hk (jQ ok h1)
theorem jN {α:Type}(l:List α)(k:Nat):(List.replicate k l).flatten.length=k*l.length:=by
 rw[List.length_flatten,List.map_replicate,List.sum_replicate_nat]
abbrev mi:=Addr×Addr×(aB×Nat)
def tY (H:Hp)(u:mi):Prop:=H u.1=some (.tup [.ref u.2.1,.int u.2.2.2])/\bA u.2.2.2 H u.2.1 u.2.2.1
theorem tY.mono {H H':Hp}{u:mi}(h:tY H u)(s:∀ b ys,H b=some (.tup ys)->H' b=some (.tup ys)):tY H' u:=⟨s _ _ h.1,h.2.mono s⟩
theorem rZ {H:Hp}{ts:List Addr}{xs:List (aB×Nat)}(h:Paired (kR H) ts xs):∃ us:List mi,ts=us.map (·.1)/\xs=us.map (·.2.2)/\∀ u∈us,tY H u:=by
 induction h with
 | nil=>exact⟨[],rfl,rfl,fun u hu=>nomatch hu⟩
 | cons a _ ih =>
  obtain⟨us,rfl,rfl,h⟩:=ih;obtain⟨p,e1,e2⟩:=a;exact⟨(_,p,_)::us,rfl,rfl,fun u hu=>(yh.mp hu).elim (fun e=>by rw[e];exact⟨e1,e2⟩) (h u)⟩
theorem jn {H:Hp}:∀ {us:List mi},(∀ u∈us,tY H u)->Paired (kR H) (us.map (·.1)) (us.map (·.2.2))
 | [],_=>.nil
 | u::us,h=>.cons ⟨_,(h u ya).1,(h u ya).2⟩ (jn fun v hv=>h v (yc _ hv))
theorem oJ {H:Hp}{M:Nat}:∀ {us:List mi},(∀ u∈us,tY H u)->(∀ u∈us,u.2.2.2<=M)->Paired (bA M H) (us.map (·.2.1)) (us.map (·.2.2.1))
 | [],_,_=>.nil
 | u::us,h,k=>.cons ((h u ya).2.le (k u ya)) (oJ (fun v hv=>h v (yc _ hv)) fun v hv=>k v (yc _ hv))
theorem pd {K:PySem.W.Frag}{te:TE}{Qf:Hp->Prop}{lr q:Addr}{α:Type}(g:α->V){rs:List α}{rest:L2.St}{H:Hp}(hq:H q=none)(h1:H lr=some (.lst (rs.map g)))(hlen:rs.length<=1000)
  (ht:∀ (r:α)(HK:Hp)(Q':VK),r∈rs->aG H HK->(∀ H5 b,aG HK H5->Q' (.bl b) H5)->te (some (g r)::rest) HK Q') (k:∀ (HK:Hp)(bs:List Bool),aG H HK->HK q=some (.lst (bs.map V.bl))->Qf HK) :
  oD (tZ K lr) (gh 0) (vg pX te q) { nx:=fun _ H'=>Qf H',rt:=fun _ _=>False } (none::rest) (bE H q (.lst [])):=by
 refine dC (K:=K) (a:=lr) (xs:=rs.map g) (fun i σ HK=>∃ (v:Option V)(bs:List Bool),σ=v::rest/\aG H HK/\HK q=some (.lst (bs.map V.bl))/\bs.length=i) ⟨none,[],rfl,ag hq,af,rfl⟩ (fun i σ HK _ ⟨_,_,_,s2,_⟩=>bC.of (s2 _ _ h1)) ?_ ?_
 ·rintro i y σ HK hi ⟨v,bs,rfl,t1,hq2,bl⟩
  obtain⟨r,hr0,rfl⟩:=dk hi;have hil:i<rs.length:=(List.getElem?_eq_some_iff.mp hr0).1;refine c5 (ht r HK _ (yH hr0) t1 fun H5 b s5=>⟨_,s5 _ _ hq2,by rw[x4];exact bZ (by omega),_,bs++[b],rfl,cE (t1.trans s5) hq,?_,by rw[yb,bl];rfl⟩);rw[af,yk];rfl
 ·rintro σ HK ⟨v,bs,rfl,t1,hq2,_⟩
  exact k HK bs t1 hq2
theorem jR {w:Str}(h:dD w=true):1<=w.length/\w.length<=12:=by
 unfold dD at h;rw[yG,yG]at h;exact yI h.1.2
theorem uE {w:Str}(h:dD w=true):jd w:=by
 unfold dD at h;rw[yG]at h;refine io fun c hc=>?_;have:=yz.mp h.2 c hc;unfold bI at this;have:=yI this;omega
theorem sj {d:Int}(h0:0<=d)(h:d<26):∃ c,bI c=true/\sW (Str.cps "abcdefghijklmnopqrstuvwxyz").toList d=some c:=by
 have e:(Str.cps "abcdefghijklmnopqrstuvwxyz").toList=(List.range 26).map (·+97):=by decide +kernel
 obtain⟨n,rfl⟩:=ze h0;refine⟨n+97,by unfold bI;exact x5 (by omega),?_⟩;rw[e];refine aN (j:=n) ?_;rw[List.getElem?_map,List.getElem?_range (by omega)];rfl
theorem pE {w:Str}{c:Nat}(a:w.cps.toList.all bI=true)(h:bI c=true):(w++⟨#[c]⟩:Str).cps.toList.all bI=true:=by
 have e:(w++⟨#[c]⟩:Str).cps.toList=w.cps.toList++[c]:=cO w ⟨#[c]⟩;rw[e,List.all_append,a];simp[h]
theorem vK {w:Str}(a:w.cps.toList.all bI=true)(l:w.length<=12)(h:w∉(("" : Str)::kindsL)):dD w=true:=by
 have h0:w≠"":=fun e=>h (by rw[e];exact ya);have h1:w∉kindsL:=fun e=>h (yc _ e);unfold dD;rw[x6 h1,a,x5 (show 1<=w.length/\w.length<=12 from ⟨?_,l⟩)]
 ·rfl
 ·by_cases z:w.length=0
  ·refine absurd ?_ h0
   have e:w.cps = #[]:=Array.eq_empty_of_size_eq_zero z
   cases w with
   | mk cps=>exact zc Str.mk e
  ·omega
inductive o1 (vs:List V) (H:Hp) (Q:VK) (E_:XK):Prop
 | mk (c:Int) (h_0:vs=[.int c]) (h_1:∀ (w:Str)(H':Hp),dD w=true->aG H H'->Q (.str w) H'):o1 vs H Q E_
end Wz
namespace L2
open PySem PySem.Spec PyProof.Rows
def iq (x:Str)(lo hi:Option Int):Str:=⟨((x.cps.toList.drop (HT.sIx x.length 0 lo)).take (HT.sIx x.length x.length hi-HT.sIx x.length 0 lo)).toArray⟩
theorem lW (lo hi:Option Int)(n:Nat):Builtin.Str.strSliceIndices lo hi 1 n=(List.range (HT.sIx n n hi-HT.sIx n 0 lo)).map (HT.sIx n 0 lo+·):=by
 have c:∀ i:Int,max 0 (min (if i<0 then i+(n:Int) else i) (n:Int))=(((if i<0 then (i+(n:Int)).toNat else min i.toNat n):Nat):Int):=fun i=>by
  by_cases h:i<0
  ·rw[ym h,ym h];omega
  ·rw[yf h,yf h];omega
 have e:Builtin.Str.strSliceIndices lo hi 1 n=sliceRange ((HT.sIx n 0 lo:Nat):Int) ((HT.sIx n n hi:Nat):Int) 1:=by
  unfold Builtin.Str.strSliceIndices
  cases lo with
  | none =>
   cases hi with
   | none=>simp[HT.sIx]
   | some i=>simp only[HT.sIx,show (1:Int)>0 by decide,zu,c];rfl
  | some j =>
   cases hi with
   | none=>simp only[HT.sIx,show (1:Int)>0 by decide,zu,c]
   | some i=>simp only[HT.sIx,show (1:Int)>0 by decide,zu,c]
 rw[e,sliceRange_one]
theorem uS (n:Nat)(hi:Option Int):HT.sIx n n hi<=n:=HT.sIx_le n n (x8 _) hi
inductive uR (x:V) (lo:Option Int) (hi:Option Int) (H:Hp) (Q:VK):Prop
 | mk (z:Str) (h_0:x=.str z) (h_1:z.length<=sizeLine) (h_2:Q (.str (iq z lo hi)) H):uR x lo hi H Q
theorem qk (z:Str)(lo hi:Option Int):(iq z lo hi).length<=z.length:=by
 show (((z.cps.toList.drop _).take _).toArray).size<=z.cps.size
 rw[yg,yM,yn,yO];omega
theorem b8 {X:Cx}:wx X uR:=by
 intro pins s σ H x v vl vu lo hi sl Q I rx hs pl pu h;obtain⟨z,rfl,hz,q⟩:=h;obtain⟨t,rfl⟩:=rx;refine⟨"str",_,F.slot_str_getitem.lookup,typeIs_str _ _ _,?_⟩
 obtain⟨l,el,el2⟩:∃ l:Option (Int×Tok),vl=partValue l/\l.map (·.1)=lo:=by
  cases pl with
  | none=>exact⟨none,rfl,rfl⟩
  | int i t=>exact⟨some (i,t),rfl,rfl⟩
 obtain⟨u,eu,eu2⟩:∃ u:Option (Int×Tok),vu=partValue u/\u.map (·.1)=hi:=by
  cases pu with
  | none=>exact⟨none,rfl,rfl⟩
  | int i t=>exact⟨some (i,t),rfl,rfl⟩
 subst el eu el2 eu2;refine wpAny_getItem_str_slice (l:=l) (u:=u) (st:=none) hs rfl ?_;have e1:slicePicked z l u none=(List.range (HT.sIx z.length z.length (u.map (·.1))-HT.sIx z.length 0 (l.map (·.1)))).map (HT.sIx z.length 0 (l.map (·.1))+·):=lW _ _ _
 have e2:(slicePicked z l u none).filterMap (z.cps[·]?)=(z.cps.toList.drop (HT.sIx z.length 0 (l.map (·.1)))).take (HT.sIx z.length z.length (u.map (·.1))-HT.sIx z.length 0 (l.map (·.1))):=by rw[e1,pick_run]
 have e3:(⟨((slicePicked z l u none).filterMap (z.cps[·]?)).toArray⟩:Str)=iq z (l.map (·.1)) (u.map (·.1)):=by rw[e2];rfl
 unfold sliceMade;rw[e3];split
 ·rename_i c
  have c2:=(yG _ _).mp c
  have c3:(slicePicked z l u none).length=z.length:=by simpa using c2.2
  rw[e1,x4,List.length_range]at c3;have hh:=uS z.length (u.map (·.1))
  have ez:iq z (l.map (·.1)) (u.map (·.1))=z:=by
   unfold iq;rw[show HT.sIx z.length 0 (l.map (·.1))=0 by by_cases q:z.length=0<;>(first | omega | (have:=HT.sIx_le z.length 0 (yT _) (l.map (·.1));omega)),List.drop_zero,show HT.sIx z.length z.length (u.map (·.1))-0=z.length by omega];rw[List.take_of_length_le (by rw[yO];exact x8 _)]
  rw[ez]at q;exact⟨.str z,H,I,⟨t,rfl⟩,q⟩
 ·exact⟨by have:=qk z (l.map (·.1)) (u.map (·.1));omega,.str _,H,I.tok _,⟨_,rfl⟩,q⟩
theorem dS {X:Cx}:gq X (binaryOp .Mult) (fun x y H Q=>∃ (z:Str)(n:Nat),x=.str z/\y=.int n/\z.length<=1000/\n<=1000/\Q (.str (Txt.mul z n)) H):=by
 intro pins s σ H x y v u Q I rx ry h;obtain⟨z,n,rfl,rfl,h1,h2,q⟩:=h;obtain⟨t,rfl⟩:=rx;obtain⟨t',rfl⟩:=ry;have hm:z.length*n<=1000*1000:=Nat.mul_le_mul h1 h2;refine SB.mul ⟨by rw[x6 (by omega),x6 (by omega)];rfl,fun h _=>?_,fun _ _=>?_⟩ fun t k=>⟨.str _,H,I.tok _,⟨_,rfl⟩,q⟩
 ·have hn:(0:Int)<(n:Int):=by omega
  have:(1000:Int)<=(2 ^ 63-1)/(n:Int):=(Int.le_ediv_iff_mul_le hn).mpr (by omega);omega
 ·unfold Builtin.Str.tooLong
  rw[zF,decide_eq_false_iff_not];have sl:sizeLine=16777216:=yK;omega
def uq (p:Params)(q:(Str×Addr)×Tok):DictEntry:=⟨PyData.keyHash p q.1.1,.str q.1.1 q.2,.ref q.1.2⟩
def hObj (p:Params)(xs:List (Str×Addr))(ts:List Tok)(n:Nat):Obj:={ cls:=.type "dict",data:=.dict ((xs.zip ts).map (uq p)).toArray n }
structure GR (K:PySem.W.Frag)(p:Params)(a:Addr)(xs:List (Str×Addr)):Prop where
 nd:(xs.map (·.1)).Nodup
 ns:(a == sysModules)=false
 at':∃ ts n,ts.length=xs.length/\K.lookup a=some (hObj p xs ts n)
def ve (q:(Str×Addr)×Tok):kS×Value:=(.inr q.1.1,.ref q.1.2)
theorem mB (P:Program)(w:World):∀ l:List ((Str×Addr)×Tok),Pairs (fY P w) (l.map (uq w.params)) (l.map ve)
 | []=>.nil
 | q::l=>.cons (dO P w q.1.1 q.2) rfl (mB P w l)
theorem oN:∀ (xs:List (Str×Addr))(ts:List Tok),ts.length=xs.length->((xs.zip ts).map ve).map (·.1)=(xs.map (·.1)).map Sum.inr
 | [],_,_=>rfl
 | x::xs,[],h=>by cases h
 | x::xs,t::ts,h=>by
  rw[List.zip_cons_cons,yD,yD,oN xs ts (by simpa using h)];rfl
theorem nM:∀ (xs:List (Str×Addr))(ts:List Tok)(z:Str),ts.length=xs.length->valueAt ((xs.zip ts).map ve) (Sum.inr z)=(xs.lookup z).map Value.ref
 | [],_,_,_=>rfl
 | x::xs,[],_,h=>by cases h
 | x::xs,t::ts,z,h=>by
  have ih:=nM xs ts z (by simpa using h);unfold valueAt at *;rw[List.zip_cons_cons,yD,yo,List.find?_cons]
  by_cases e:z=x.1
  ·have e1:(z == x.1)=true:=by rw[e];simp
   have e2:decide ((ve (x,t)).1=Sum.inr z)=true:=x5 (by rw[e];rfl);rw[e1,e2];rfl
  ·have e1:(z == x.1)=false:=by simpa using e
   have e2:decide ((ve (x,t)).1=Sum.inr z)=false:=x6 (fun q=>e (Sum.inr.inj q).symm);rw[e1,e2];exact ih
theorem oM {K:PySem.W.Frag}{P:Program}{w:World}{a:Addr}{xs:List (Str×Addr)}{h:Heap}(g:GR K w.params a xs)(k:K.In h):∃ ts:List Tok,ts.length=xs.length/\h.DictOf (fY P w) a ((xs.zip ts).map ve):=by
 obtain⟨ts,n,hl,e⟩:=g.at';refine⟨ts,hl,_,_,_,k _ _ e,⟨rfl,rfl,rfl⟩,rfl,fun en hen=>?_,?_,?_⟩
 ·have hen:en∈(xs.zip ts).map (uq w.params):=by simpa using hen
  obtain⟨q,_,rfl⟩:=yA.mp hen;exact⟨.inr q.1.1,dO P w q.1.1 q.2,rfl⟩
 ·have:=mB P w (xs.zip ts)
  simpa using this
 ·rw[oN xs ts hl]
  exact List.Pairwise.map _ (fun x y ne e=>ne (Sum.inr.inj e)) g.nd
def sJ (xs:List (Str×Addr))(ty:TE):TE:=fun σ H Q=>ty σ H fun y H1=>∃ z,y=.str z/\Q (.bl (!(xs.lookup z).isSome)) H1
def xo (xs:List (Str×Addr))(ty:TE):TE:=fun σ H Q=>ty σ H fun y H1=>∃ z b,y=.str z/\xs.lookup z=some b/\Q (.ref b) H1
theorem pO {X:Cx}{a:Addr}{xs:List (Str×Addr)}{i o:Expr}{ty:TE}(g:GR X.K X.w.params a xs)(hi:PE X i ty)(ho:PE X o (tC (.ref a))):PC X .NotIn i o (sJ xs ty):=by
 intro pins s σ H Q I h;refine bK (hi pins s σ H _ I h) fun iv s1 ⟨y,H1,I1,ry,z,e1,q1⟩=>bK (ho pins s1 σ H1 (fun v H'=>v=.ref a/\H'=H1) I1 ⟨rfl,rfl⟩) fun u s2 ⟨x,H2,I2,rx,ex,eh⟩=>?_;subst ex eh e1;obtain rfl:u=Value.ref a:=rx;obtain⟨t,rfl⟩:=ry;obtain⟨ts,hl,dd⟩:=oM (P:=X.prog) g (show X.K.In s2.heap from fun a o e=>I2.bk a o (I2.mod.kin a o e));refine wpAny_notIn_of (dO X.prog X.w z t) g.ns dd.mapOf ?_;rw[nM xs ts z hl,Option.isSome_map];exact⟨.bl _,H2,I2.tok _,rfl,q1⟩
theorem uN {X:Cx}{a:Addr}{xs:List (Str×Addr)}{i o:Expr}{ty:TE}{pos:Pos}(g:GR X.K X.w.params a xs)(ho:PE X o (tC (.ref a)))(hi:PE X i ty)(hs:vo i):PE X (.Subscript o i pos) (xo xs ty):=by
 intro pins s σ H Q I h;refine sI PySem.F.slot_dict_getitem.lookup hs (bK (ho pins s σ H (fun v H'=>v=.ref a/\H'=H) I ⟨rfl,rfl⟩) fun u s1 ⟨x,H1,I1,rx,ex,eh⟩=>?_);subst ex eh;obtain rfl:u=Value.ref a:=rx;refine bK (hi pins s1 σ H1 _ I1 h) fun iv s2 ⟨y,H2,I2,ry,z,b,e1,e2,q2⟩=>?_;subst e1;obtain⟨t,rfl⟩:=ry;obtain⟨ts,hl,dd⟩:=oM (P:=X.prog) g (show X.K.In s2.heap from fun a o e=>I2.bk a o (I2.mod.kin a o e));exact⟨dd.typeIs,wpAny_getItem_of (dO X.prog X.w z t) dd.mapOf (by rw[nM xs ts z hl,e2];rfl) ⟨.ref b,H2,I2.tok _,rfl,q2⟩⟩
theorem qO {P:Program}{w:World}{K:PySem.W.Frag}{mg:Str->Option Value}{base:Heap}{N:List Str}{qual:Str}{sc:Scope}{f c':Addr}{y:Str}{cy:Addr}{A:Around}{outer:List Env}{s0:Shared}{H0:Hp}{E:XK}:eD (ij P w) (kD (ij P w) P w K mg base N qual sc f c' y cy A outer s0 H0 E) E:=by
 intro pins σ H s e s' I hc;obtain⟨ea,C,od,H',B,rfl,fl,un,hok,os,bare,hsB,trB,hE⟩:=hc
 let X:Cx:=kD (ij P w) P w K mg base N qual sc f c' y cy A outer s0 H0 E
 show wpAny _ _ (leaving _ _) _ _ _
 have hstk:(X.A.frames:Option (List Env))=some (X.env::outer):=I.ok.frames
 have frS:dM X.stack=X.env.locals::dM outer:=by unfold dM;rfl
 refine jM hstk rfl fl fun h2 fl2 ups=>?_;have ltl:∀ b o,s0.heap.get? b=some o->b≠X.env.locals:=fun b o e=>yp (yi (yd e) I.ok.above);have noEx:∀ b,b∉X.ex:=fun b z=>absurd (show b∈([]:List Addr) from z) (by simp)
 have h0B:∀ b o,s0.heap.get? b=some o->b∉dM outer->∃ o',B.get? b=some o':=fun b o e hf=>by
  obtain⟨o',e'⟩:=I.base.there b o e (noEx b);refine hsB b o' e' ?_;rw[frS];intro z;rcases yh.mp z with z | z
  ·exact ltl b o e z
  ·exact hf z
 have unS:Un (dM outer) [] H0 H' s0.heap s'.heap:=by
  have u1:Un (dM outer) [] H0 H s0.heap s.heap:=I.base;refine⟨fun b o e n hf hx=>?_,fun b o e n hf hx=>?_,fun b o e n hx=>?_,fun b o e hx=>?_,fun b xs q=>un.tups b xs (u1.tups b xs q),fun b o u q=>un.frzs b o u (u1.frzs b o u q),fun b ps q=>?_⟩
  ·refine un.keep b o (u1.keep b o e n hf hx) (u1.free b o e n hx) ?_ hx
   rw[frS];intro z;rcases yh.mp z with z | z
   ·exact ltl b o e z
   ·exact hf z
  ·obtain⟨sl,e1⟩:=u1.slot b o e n hf hx
   obtain⟨sl2,e2⟩:=un.slot b _ e1 (u1.free b o e n hx) (by rw[frS];exact yc _ hf) hx;exact⟨sl2,e2⟩
  ·obtain⟨o',e'⟩:=u1.there b o e hx
   exact un.free b o' e' (u1.free b o e n hx) hx
  ·obtain⟨o',e'⟩:=u1.there b o e hx
   exact un.there b o' e' hx
  ·obtain⟨m1,e1⟩:=u1.tbls b ps q
   obtain⟨m2,e2⟩:=un.tbls b _ e1;exact⟨m1++m2,by rw[e2,Array.append_assoc]⟩
 have slot2:∀ b o,b∈dM outer->s0.heap.get? b=some o->H0 b=none->∃ sl,h2.get? b=some { o with slots:=sl }:=fun b o hf e n=>by
  obtain⟨sl,e1⟩:=unS.slot b o e n hf (by simp);obtain⟨_,o2,ho2,hnf⟩:=I.ok.funs.mem hf
  have e2:o2=o:=by
   have:s0.heap.get? b=some o2:=ho2;rw[e]at this;exact (yE this).symm
  subst e2;obtain⟨sl2,e3⟩:=ups b _ e1 hnf;exact⟨sl2,e3⟩
 refine⟨ea,C,od,H',B,rfl,fl2,?_,ll hok fl.1 fl2.1 trB,os.trans I.os,bare,h0B,trB,hE⟩;refine o5 (h1:=s'.heap) unS fl.1 fl2.1 h0B (fun b o hf e n=>slot2 b o hf e n) fun b o hf e=>?_;obtain⟨sl,q⟩:=slot2 b o hf e (I.ok.frf b hf);exact⟨_,q⟩
section
variable {X:Cx}{CX:ku}{k:Nat}{E:XK}{x y:Str}{p pos:Pos}{e e1 e2:Expr}{es:List Expr}{te t1 t2:TE}{t:TA}
theorem mX {iy:Nat}{fw c0 P cy:Addr}{fdw:FuncData}{psw:List Str}{sp:Addr->Addr->V->Sp}{params:Arguments}{body:Expr}{scope:Scope}{lpos:Pos}{qual:Str}
  (W:∀ (b':Heap)(f c' cy:Addr)(vy:V)(pm ct:Value),Mod X.K X.mg b'->ii X.mg b'->kv b' qual params body scope y vy f c' cy pm ct->bc X.prog X.w X.K X.mg b' CX k fw fdw psw (sp f c' vy))
  (hr:cz k X.A) (hg:Gl X x) (hm:X.mg x=some (.ref fw)) (hk:PySem.W.keepIn X.K (.ref fw)=true) (hb:fk X.K fdw psw []) (hx:eD CX X E)
  (h1:PE X e1 t1) (h2:PE X e2 t2) (hc:X.env.code=.ref c0) (C:gG X.K c0 P) (B:ii X.mg X.base) (hq:X.env.qual++"<lambda>" = qual) (hdf:defaultsOf params X.env=([],[])) (hcl:closureFor scope X.env=pure [(y,cy)]) (hcy:X.env.cells.lookup y=some cy)
  (hfn:X.fn y=true) (hN:X.N[iy]? = some y) (hkd:X.env.scope.names.lookup y=some .cell)
  (hdb:(x == ("__debug__" : Str))=false:=by decide) (he:starEach [e1,e2,.Lambda params body scope lpos] X.env=(false,eval e1 X.env)::starEach [e2,.Lambda params body scope lpos] X.env:=by rfl)
  (he2:starEach [e2,.Lambda params body scope lpos] X.env=(false,eval e2 X.env)::starEach [.Lambda params body scope lpos] X.env:=by rfl) (he3:starEach [.Lambda params body scope lpos] X.env=[(false,eval (.Lambda params body scope lpos) X.env)]:=by rfl)
  (hpl:(backTo pos (starEach [e2,.Lambda params body scope lpos] X.env)).any (·.1)=false:=by rfl) :
  PE X (.Call (.Name x p) [e1,e2,.Lambda params body scope lpos] [] pos) (fun σ H Q=>t1 σ H fun x1 H1=>t2 σ H1 fun x2 H2=>TabI H2 P lpos qual/\∃ vy,σ[iy]? = some (some vy) /\
   ∀ (f c':Addr)(H3:Hp),fA H3 c' qual->TabI H3 P lpos qual->(∀ b o,H2 b=some o->b≠P->H3 b=some o)->sp f c' vy [x1,x2,.ref f] H3 Q E):=by
 intro pins s σ H Q I h;refine zd (eI I hg hm ?_ hdb);refine PySem.W.callWith_K (h₀:=X.base) I.ok.mod.kin hk (Q:=EP X pins σ Q) ?_ he hpl;rw[he,he2,he3]
 show wpAny _ _ (spliced [(false,eval e1 X.env),(false,eval e2 X.env),(false,eval (.Lambda params body scope lpos) X.env)]) _ _ s
 refine zC (bK (h1 pins s σ H _ I h) fun u1 s1 ⟨x1,H1,I1,r1,q1⟩=>?_);refine zC (bK (h2 pins s1 σ H1 _ I1 q1) fun u2 s2 ⟨x2,H2,I2,r2,hT,vy,hσ,q2⟩=>?_);refine zC (qB I2 hc C B hq hT hdf hcl hcy fun f c' pm ct H3 s3 I3 hfo hsz hfH hcf hT3 hk3 hkk=>?_);refine Calls.spliced_nil ⟨I3.kIn,?_⟩;have q3:=q2 f c' H3 hcf hT3 hk3;obtain⟨m,hn,hl⟩:=I3.loc;obtain⟨uy,ry,ly⟩:=hl iy y vy hN hσ (.inr (.inl hkd))
 have cl:s3.heap.IsCell cy (some uy):=by
  rcases ly with ⟨z,_⟩ | ⟨_,c,e,ce⟩
  ·have z:X.env.scope.names.lookup y=some .local:=z
   rw[hkd]at z;cases z
  ·rw[hcy]at e;cases e;exact ce
 obtain⟨oc,hoc,hdc⟩:=cl;have e0:=qA (y:=y) (cy:=cy) I3 hfH ⟨_,hfo⟩ (yi I2.lt hsz) hcy hfn;have F:=W _ f c' cy vy pm ct e0.mod (let ⟨bm,ob,b1,b2,b3,b4⟩:=B;⟨bm,ob,b1,b2,eE (I3.bk _ _ b3) (.inl ⟨_,b3⟩),b4⟩) ⟨eE hfo (.inr (.inl rfl)),uy,ry,oc,eE hoc (.inr (.inr rfl)),hdc⟩;have r3:aR ([x1,x2,.ref f]++[]) ([u1,u2,.ref f]++[]):=aR.append (show aR [x1,x2,.ref f] [u1,u2,.ref f] from .cons r1 (.cons r2 (.cons rfl .nil))) .nil
 have hl3:([u1,u2,.ref f]++[]:List Value).length=psw.length:=by rw[<-r3.length];exact F.len _ _ _ _ q3
 refine wpAny_call (zw (F.run X.A X.stack s3 H3 ⟨[u1,u2,.ref f],[]⟩ ([u1,u2,.ref f]++[]) ([x1,x2,.ref f]++[]) Q E hr e0 (hb s3 [u1,u2,.ref f] I3.kIn hl3) r3 q3) fun r s' hq=>?_)
 cases r with
 | error e=>exact hx pins σ H3 s3 e s' I3 hq
 | ok fl =>
  cases fl with
  | ret u=>exact I3.after hq
  | next=>exact False.elim hq
  | brk=>exact False.elim hq
  | cont=>exact False.elim hq
end
end L2
namespace Wz
open PySem L2
def jJ (c:Nat):Bool:=decide (c=32\/c=40\/c=41)
def bL (l:List Nat):List Nat:=l.takeWhile fun c=>!jJ c
def toS (l:List Nat):Str:=⟨l.toArray⟩
theorem cI (l:List Nat):aK (toS l)=l:=by unfold aK toS;simp
theorem c6 (l:List Nat):(toS l).length=l.length:=by rw[bH,cI]
theorem nJ (z:Str):toS (aK z)=z:=by cases z with | mk a=>unfold toS aK;simp
theorem u9 (l:List Nat):(bL l).length<=l.length:=by unfold bL;exact (List.takeWhile_sublist _).length_le
open Classical in
noncomputable def rdNum (z:Str):Option Int:=if h:∃ ds,Num z ds then some (numV h.choose) else none
theorem sr {z:Str}{ds es:List Nat}(a:Num z ds)(b:Num z es):ds=es:=by
 have e:=a.eq.symm.trans b.eq
 have inj:∀ {x y:List Nat},x.map (·+48)=y.map (·+48)->x=y:=fun {x}=>by
  induction x with
  | nil=>intro y h;cases y with | nil=>rfl | cons _ _=>cases h
  | cons a x ih =>
   intro y h
   cases y with
   | nil=>cases h
   | cons b y =>
    rw[yD,yD]at h;injection h with h1 h2;rw[ih h2,show a=b by omega]
 exact inj e
theorem qY {z:Str}{ds:List Nat}(h:Num z ds):rdNum z=some (numV ds:Int):=by
 unfold rdNum;rw[dif_pos ⟨ds,h⟩];have:=sr (Exists.choose_spec (⟨ds,h⟩:∃ ds,Num z ds)) h;rw[this]
theorem tm {z:Str}(h:∀ ds,¬ Num z ds):rdNum z=none:=by
 unfold rdNum;rw[dif_neg (fun ⟨ds,q⟩=>h ds q)]
noncomputable def numAt (l:List Nat):Option (Int×List Nat):=(rdNum (toS (bL l))).map fun n=>(n,l.drop (bL l).length)
def bf {α:Type}(rd:List Nat->Option (α×List Nat)):Nat->List Nat->Option (List α×List Nat)
 | 0,_=>none
 | n+1,l=>if l.head? = some 32 then (rd (l.drop 1)).bind fun p=>(bf rd n p.2).map fun q=>(p.1::q.1,q.2) else if l.head? = some 41 then some ([],l.drop 1) else none
def dL (w:Str)(fs:List aB):Option aB:=if w="row" then (if 1<=fs.length/\fs.length<=60 then some (.row fs) else none) else match fs with
 | [f]=>some (.back f)
 | _=>none
def bQ (w:Str)(gs:List Int):Option aB :=
 if w="pair" then (match gs with
  | [a,b]=>some (.pl (.pair a b))
  | _=>none)
 else if w="quad" then (match gs with
  | [a,b,c,d]=>if [a,b,c,d].Nodup then some (.pl (.quad a b c d)) else none
  | _=>none)
 else if 2<=gs.length/\gs.length<=60 then (if w="line" then some (.pl (.line gs)) else if w="star" then some (.pl (.star gs)) else if w="all" then some (.pl (.all gs)) else none) else none
noncomputable def figM:Nat->List Nat->Option (aB×List Nat)
 | 0,_=>none
 | d+1,l =>
  if l.head? = some 40 then
   (if toS (bL (l.drop 1))="row"\/toS (bL (l.drop 1))="back" then (bf (figM d) (((l.drop 1).drop (bL (l.drop 1)).length).length+1) ((l.drop 1).drop (bL (l.drop 1)).length)).bind fun q=>(dL (toS (bL (l.drop 1))) q.1).map fun f=>(f,q.2)
   else (bf numAt (((l.drop 1).drop (bL (l.drop 1)).length).length+1) ((l.drop 1).drop (bL (l.drop 1)).length)).bind fun q=>(bQ (toS (bL (l.drop 1))) q.1).map fun f=>(f,q.2))
  else if dD (toS (bL l))=true then some (.name (toS (bL l)),l.drop (bL l).length) else none
noncomputable def brM (d:Nat) (l:List Nat):Option (aB×List Nat) :=
 if toS (bL l)="row"\/toS (bL l)="back" then (bf (figM d) ((l.drop (bL l).length).length+1) (l.drop (bL l).length)).bind fun q=>(dL (toS (bL l)) q.1).map fun f=>(f,q.2)
 else (bf numAt ((l.drop (bL l).length).length+1) (l.drop (bL l).length)).bind fun q=>(bQ (toS (bL l)) q.1).map fun f=>(f,q.2)
theorem k8 (d:Nat)(l:List Nat)(h:l.head? = some 40):figM (d+1) l=brM d (l.drop 1):=by rw[figM,ym h];rfl
theorem k9 (d:Nat)(l:List Nat)(h:l.head?≠some 40):figM (d+1) l=if dD (toS (bL l))=true then some (.name (toS (bL l)),l.drop (bL l).length) else none:=by rw[figM,yf h]
def ud {α:Type}(rd:List Nat->Option (α×List Nat)):Prop:=∀ l a r,rd l=some (a,r)->∃ k,r=l.drop k
theorem oX {α:Type}{rd:List Nat->Option (α×List Nat)}(h:ud rd){l:List Nat}{a:α}{r:List Nat}(e:rd l=some (a,r)):r.length<=l.length:=by
 obtain⟨k,rfl⟩:=h l a r e;rw[yn];omega
theorem lV:ud numAt:=fun l a r h=>by
 unfold numAt at h;obtain⟨n,_,e⟩:=yU.mp h;injection e with _ e;exact⟨_,e.symm⟩
theorem iN {α:Type}{rd:List Nat->Option (α×List Nat)}(h:ud rd):∀ n,ud (bf rd n)
 | 0=>fun l a r e=>by cases e
 | n+1=>fun l a r e=>by
  rw[bf]at e;split at e
  ·obtain⟨p,e1,e2⟩:=y3.mp e
   obtain⟨q,e3,e4⟩:=yU.mp e2;injection e4 with _ e4;obtain⟨k,hk⟩:=h _ p.1 p.2 e1;obtain⟨k2,hk2⟩:=iN h n _ q.1 q.2 e3;exact⟨1+(k+k2),by rw[<-e4,hk2,hk,yV,yV]⟩
  ·split at e
   ·injection e with e
    injection e with _ e;exact⟨1,e.symm⟩
   ·cases e
theorem jq:∀ d,ud (figM d)
 | 0=>fun l a r e=>by rw[figM]at e;cases e
 | d+1=>fun l a r e=>by
  by_cases h:l.head? = some 40
  ·rw[k8 d l h]at e
   unfold brM at e;split at e
   ·obtain⟨p,e1,e2⟩:=y3.mp e
    obtain⟨q,e3,e4⟩:=yU.mp e2;injection e4 with _ e4;obtain⟨k,hk⟩:=iN (jq d) _ _ p.1 p.2 e1;exact⟨1+((bL (l.drop 1)).length+k),by rw[<-e4,hk,yV,yV]⟩
   ·obtain⟨p,e1,e2⟩:=y3.mp e
    obtain⟨q,e3,e4⟩:=yU.mp e2;injection e4 with _ e4;obtain⟨k,hk⟩:=iN lV _ _ p.1 p.2 e1;exact⟨1+((bL (l.drop 1)).length+k),by rw[<-e4,hk,yV,yV]⟩
  ·rw[k9 d l h]at e
   split at e
   ·injection e with e
    injection e with _ e;exact⟨_,e.symm⟩
   ·cases e
theorem uT (c:Nat):(!(Builtin.Str.occurrences (Str.ofString " ()") ⟨#[c]⟩ 0 (Str.ofString " ()").length 1).isEmpty)=jJ c:=by
 rw[StrLaws.found_one]
 have e:(Str.ofString " ()").cps.toList=[32,40,41]:=by decide +kernel
 rw[e];unfold jJ;rw[zy];simp only[yh,List.not_mem_nil,or_false]
theorem rR (z:Str){a b:Nat}(h:b<=z.length):iq z (some (a:Int)) (some (b:Int))=toS (((aK z).drop a).take (b-a)):=by
 unfold iq toS aK;rw[HT.sIx_nat,HT.sIx_nat,zg h]
 by_cases q:a<=z.length
 ·rw[zg q]
 ·have hz:z.cps.toList.length=z.length:=by rw[yO];rfl
  rw[show b-min a z.length=0 by omega,show b-a=0 by omega,List.take_zero,List.take_zero]
theorem k6 (z:Str)(a:Nat):iq z (some (a:Int)) (some ((a:Int)+1))=toS (((aK z).drop a).take 1):=by
 unfold iq toS aK
 have hz:z.cps.toList.length=z.length:=by rw[yO];rfl
 rw[show ((a:Int)+1)=((a+1:Nat):Int) by omega,HT.sIx_nat,HT.sIx_nat]
 by_cases q:a+1<=z.length
 ·rw[zg q,zg (by omega),show a+1-a=1 by omega]
 ·rw[Nat.min_eq_right (show z.length<=a+1 by omega)]
  by_cases q2:a<=z.length
  ·rw[zg q2,show z.length-a=0 by omega,List.take_zero,List.drop_eq_nil_of_le (by omega)];rfl
  ·rw[Nat.min_eq_right (by omega),Nat.sub_self,List.take_zero,List.drop_eq_nil_of_le (by omega)];rfl
theorem lf (l:List Nat)(c:Nat):decide (V.str (toS (l.take 1))=V.str ⟨#[c]⟩)=decide (l.head? = some c):=by
 rw[zy]
 cases l with
 | nil=>exact⟨(fun h=>by have h:=V.str.inj h;unfold toS at h;injection h with h;cases h),(fun h=>by cases h)⟩
 | cons x l =>
  constructor
  ·intro h
   have h:=V.str.inj h;unfold toS at h;injection h with h;have h:=zc Array.toList h;simp at h;rw[h];rfl
  ·intro h
   have h:x=c:=yE h;rw[h];rfl
end Wz
set_option maxRecDepth 1000000
namespace Wz
open PySem L2
def GK (H H':Hp):Prop:=∀ b o,H b=some o->(∀ ps,o≠.tbl ps)->H' b=some o
theorem cC {H H':Hp}(s:aG H H'):GK H H':=fun b o e _=>s b o e
theorem GK.refl {H:Hp}:GK H H:=fun _ _ e _=>e
theorem GK.trans {H H1 H2:Hp}(a:GK H H1)(b:GK H1 H2):GK H H2:=fun x o e n=>b x o (a x o e n) n
theorem GK.lst {H H':Hp}(k:GK H H'){b:Addr}{xs:List V}(e:H b=some (.lst xs)):H' b=some (.lst xs):=k b _ e fun _ z=>nomatch z
theorem ul {H H':Hp}{l:Addr}{o:HO}(k:GK H H')(h:H l=none):GK H (bE H' l o):=fun b u e n=>by rw[aL (bT e h)];exact k b u e n
theorem qt {P:Addr}{H H':Hp}{pos:Pos}{qual:Str}(t:TabI H P pos qual)(k:∀ b o,H b=some o->b≠P->H' b=some o):GK H H':=fun b o e n=>by
 obtain⟨ps,q⟩:=t.tbl
 exact k b o e fun z=>by rw[z,q]at e;injection e with e;exact n ps e.symm
def KT (K:PySem.W.Frag)(q:Addr)(vs:List V):Prop:=∃ (o:Obj)(its:Array Value)(n:Nat),K.lookup q=some o/\o.cls=.type "tuple"/\o.data=.seq its n/\its.size<=sizeLine/\aR vs its.toList
theorem KT.sq {K:PySem.W.Frag}{q:Addr}{vs:List V}(h:KT K q vs)(H:Hp):bw K H q vs:=.inr h
structure qb where
 (q1 q2 q3 q4 q5 q6 q7:Addr)
def szL (q:qb):List (Str×Addr):=[("pair",q.q1),("line",q.q2),("star",q.q3),("all",q.q4),("quad",q.q5),("row",q.q6),("back",q.q7)]
structure vj (K:PySem.W.Frag)(mg:Str->Option Value)(w:World)(cF kd cs:Addr)(q:qb):Prop where
 eF:kT K cF
 mF:mg "NoFigure" = some (.ref cF)
 ff:PySem.W.exmOne K (.ref cF) (.ref cF)=some true
 md:∃ u,mg "MOST_DIGITS" = some u/\be (.int 12) u
 dg:∃ u,mg "DIGITS" = some u/\be (.str "0123456789") u
 dp:∃ u,mg "DEEPEST" = some u/\be (.int 8) u
 ml:∃ u,mg "LONGEST_NAME" = some u/\be (.int 12) u
 mt:∃ u,mg "LETTERS" = some u/\be (.str "abcdefghijklmnopqrstuvwxyz") u
 mkd:mg "KINDS" = some (.ref kd)
 kd:KT K kd (kindsL.map V.str)
 ms:mg "SIZES" = some (.ref cs)
 sz:GR K w.params cs (szL q)
 t1:KT K q.q1 [.int 2,.int 2]
 t2:KT K q.q2 [.int 2,.int 60]
 t3:KT K q.q3 [.int 2,.int 60]
 t4:KT K q.q4 [.int 2,.int 60]
 t5:KT K q.q5 [.int 4,.int 4]
 t6:KT K q.q6 [.int 1,.int 60]
 t7:KT K q.q7 [.int 1,.int 1]
inductive gC (vs:List V) (H:Hp) (Q:VK) (E_:XK):Prop
 | mk (z:Str) (a:Nat) (h_0:vs=[.str z,.int a]) (h_1:z.length<=1000000) (h_2:a<=z.length) (h_3:∀ t,H t=none->Q (.ref t) (bE H t (.tup [.str (toS (bL ((aK z).drop a))),.int ((a+(bL ((aK z).drop a)).length:Nat):Int)]))):gC vs H Q E_
inductive rh (P0:Addr) (lp:Pos) (ql:Str) (cF:Addr) {α:Type} (J:Hp->Prop) (R:List Nat->Option (α×List Nat)) (At:Hp->V->α->Prop) (vs:List V) (H:Hp) (Q:VK) (E:XK):Prop
 | mk (z:Str) (a:Nat) (h_0:vs=[.str z,.int a]) (h_1:jd z) (h_2:z.length<=1000000) (h_3:a<=z.length) (h_4:J H) (h_5:TabI H P0 lp ql)
  (h_6:∀ x r,R ((aK z).drop a)=some (x,r)->∀ (t:Addr)(v:V)(H':Hp),GK H H'->TabI H' P0 lp ql->H' t=some (.tup [v,.int ((z.length-r.length:Nat):Int)])->At H' v x->Q (.ref t) H')
  (h_7:R ((aK z).drop a)=none->∀ H',GK H H'->TabI H' P0 lp ql->E (.ref cF) none H'):rh P0 lp ql cF J R At vs H Q E
inductive ni (P0:Addr) (lp:Pos) (ql:Str) (cF fl:Addr) {α:Type} (J:Hp->Prop) (R:List Nat->Option (α×List Nat)) (At:Hp->V->α->Prop) (vs:List V) (H:Hp) (Q:VK) (E:XK):Prop
 | mk (z:Str) (a:Nat) (h_0:vs=[.str z,.int a,.ref fl]) (h_1:jd z) (h_2:z.length<=1000000) (h_3:a<=z.length) (h_4:J H) (h_5:TabI H P0 lp ql)
  (h_6:∀ xs r,bf R (((aK z).drop a).length+1) ((aK z).drop a)=some (xs,r)->∀ (t q:Addr)(vs':List V)(H':Hp),GK H H'->TabI H' P0 lp ql->H' t=some (.tup [.ref q,.int ((z.length-r.length:Nat):Int)])->H' q=some (.tup vs')->Paired (At H') vs' xs->Q (.ref t) H')
  (h_7:bf R (((aK z).drop a).length+1) ((aK z).drop a)=none->∀ H',GK H H'->TabI H' P0 lp ql->E (.ref cF) none H'):ni P0 lp ql cF fl J R At vs H Q E
inductive kc (cF:Addr) (d:Nat) (vs:List V) (H:Hp) (Q:VK) (E:XK):Prop
 | figs (w:Str) (q:Addr) (ps:List Addr) (fs:List aB) (h_0:vs=[.str w,.ref q]) (h_1:w="row"\/w="back") (h_2:H q=some (.tup (ps.map V.ref))) (h_3:Paired (bA d H) ps fs) (h_4:fs.length<=1000000) (h_5:∀ f,dL w fs=some f->∀ (p:Addr)(H':Hp),aG H H'->bA (d+1) H' p f->Q (.ref p) H') (h_6:dL w fs=none->∀ H',aG H H'->E (.ref cF) none H'):kc cF d vs H Q E
 | nums (w:Str) (q:Addr) (gs:List Int) (h_0:vs=[.str w,.ref q]) (h_1:¬ (w="row"\/w="back")) (h_2:H q=some (.tup (gs.map V.int))) (h_4:gs.length<=1000000) (h_w:w.length<=1000000) (h_5:∀ f,bQ w gs=some f->∀ (p:Addr)(H':Hp),aG H H'->bA (d+1) H' p f->Q (.ref p) H') (h_6:bQ w gs=none->∀ H',aG H H'->E (.ref cF) none H'):kc cF d vs H Q E
inductive fM (P0:Addr) (lp:Pos) (ql:Str) (cF:Addr) (d e:Nat) (R:List Nat->Option (aB×List Nat)) (vs:List V) (H:Hp) (Q:VK) (E:XK):Prop
 | mk (z:Str) (a:Nat) (h_0:vs=[.str z,.int a,.int e]) (h_1:jd z) (h_2:z.length<=1000000) (h_3:a<=z.length) (h_5:TabI H P0 lp ql)
  (h_6:∀ f r,R ((aK z).drop a)=some (f,r)->∀ (t p:Addr)(H':Hp),GK H H'->TabI H' P0 lp ql->H' t=some (.tup [.ref p,.int ((z.length-r.length:Nat):Int)])->bA d H' p f->Q (.ref t) H')
  (h_7:R ((aK z).drop a)=none->∀ H',GK H H'->TabI H' P0 lp ql->E (.ref cF) none H'):fM P0 lp ql cF d e R vs H Q E
inductive o0 (P0:Addr) (lp:Pos) (ql:Str) (cF:Addr) (vs:List V) (H:Hp) (Q:VK) (E:XK):Prop
 | mk (z:Str) (h_0:vs=[.str z]) (h_1:jd z) (h_2:z.length<=1000000) (h_5:TabI H P0 lp ql) (h_6:∀ f,figM 8 (aK z)=some (f,[])->∀ (p:Addr)(H':Hp),GK H H'->TabI H' P0 lp ql->bA 8 H' p f->Q (.ref p) H')
  (h_7:(∀ f,figM 8 (aK z)≠some (f,[]))->∀ H',GK H H'->TabI H' P0 lp ql->E (.ref cF) none H'):o0 P0 lp ql cF vs H Q E
inductive hV (vs:List V) (H:Hp) (Q:VK) (E_:XK):Prop
 | mk (z:Str) (h_0:vs=[.str z]) (h_1:jd z) (h_2:z.length<=1000000) (h_3:∀ H',aG H H'->Q (.bl (dD z)) H'):hV vs H Q E_
theorem sO {l:List Nat}{n c:Nat}(h:bL l=l.take n++bL (l.drop n))(hc:l[n]? = some c)(hs:jJ c=false):bL l=l.take (n+1)++bL (l.drop (n+1)):=by
 have hn:=(List.getElem?_eq_some_iff.mp hc).1
 have e:l.drop n=c::l.drop (n+1):=by
  rw[List.drop_eq_getElem_cons hn]
  congr 1
  exact (List.getElem?_eq_some_iff.mp hc).2
 rw[h,e,zr,hc,zn,y7]
 congr 1
 unfold bL;rw[List.takeWhile_cons,hs];rfl
theorem sP {l:List Nat}{n c:Nat}(h:bL l=l.take n++bL (l.drop n))(hc:l[n]? = some c)(hs:jJ c=true):bL l=l.take n:=by
 have hn:=(List.getElem?_eq_some_iff.mp hc).1
 have e:l.drop n=c::l.drop (n+1):=by
  rw[List.drop_eq_getElem_cons hn]
  congr 1
  exact (List.getElem?_eq_some_iff.mp hc).2
 have e2:bL (l.drop n)=[]:=by
  rw[e];unfold bL;rw[List.takeWhile_cons,hs];rfl
 rw[h,e2,zp]
theorem u8 {l:List Nat}{n:Nat}(h:bL l=l.take n++bL (l.drop n))(hn:l.length<=n):bL l=l.take n:=by
 rw[List.drop_eq_nil_of_le hn]at h;rw[h]
 show l.take n++[]=l.take n
 rw[zp]
theorem kW {z:Str}(h:jd z):∀ c∈aK z,c<128:=fun c hc=>by
 unfold jd at h;rw[<-Array.all_toList]at h;exact yI (yz.mp h c hc)
theorem qc {z:Str}(h:jd z)(a:Nat):jd (toS (bL ((aK z).drop a))):=io fun c hc=>by
 have hc:c∈aK (toS (bL ((aK z).drop a))):=hc;rw[cI]at hc;exact kW h c (List.mem_of_mem_drop ((List.takeWhile_sublist _).subset hc))
theorem oC {z:Str}{a:Nat}(h:a<=z.length):a+(bL ((aK z).drop a)).length=z.length-(((aK z).drop a).drop (bL ((aK z).drop a)).length).length/\a+(bL ((aK z).drop a)).length<=z.length:=by
 have h1:=u9 ((aK z).drop a);rw[yn,<-bH]at h1;rw[yn,yn,<-bH];omega
theorem iE {a:Nat}(h:a<=1000001):((a:Int)).natAbs<10 ^ 100:=by
 have e:((a:Int)).natAbs=a:=by omega
 rw[e];exact Nat.lt_of_le_of_lt h (by decide +kernel)
def GL (H H':Hp):Prop:=∀ b o,H b=some o->(∀ ps,o≠.tbl ps)->(∀ xs,o≠.lst xs)->H' b=some o
theorem oK {H H':Hp}(k:GK H H'):GL H H':=fun b o e n _=>k b o e n
theorem uo {H:Hp}{l:Addr}{o:HO}{xs:List V}(h:H l=some (.lst xs)):GL H (bE H l o):=fun b u e n n2=>by
 rw[aL (fun z=>by rw[z,h]at e;exact n2 _ (yE e).symm)];exact e
theorem GL.tup {H H':Hp}(k:GL H H'){b:Addr}{xs:List V}(e:H b=some (.tup xs)):H' b=some (.tup xs):=k b _ e (fun _ z=>nomatch z) fun _ z=>nomatch z
theorem GL.fg {H H':Hp}(k:GL H H'){n:Nat}{p:Addr}{f:aB}(h:bA n H p f):bA n H' p f:=h.mono fun _ _ z=>k.tup z
theorem GL.code {H H':Hp}(k:GL H H'){c':Addr}{q:Str}(h:fA H c' q):fA H' c' q:=by
 obtain⟨oc,vs,t,e,r⟩:=h;exact⟨oc,vs,t,k _ _ e (fun _ z=>nomatch z) (fun _ z=>nomatch z),r⟩
theorem pp {α:Type}{l r:List α}{e k:Nat}(h:r=(l.drop e).drop k):l.drop (l.length-r.length)=r:=by
 rw[yV]at h;subst h;rw[yn]
 by_cases q:e+k<=l.length
 ·rw[show l.length-(l.length-(e+k))=e+k by omega]
 ·rw[show l.length-(l.length-(e+k))=l.length by omega,List.drop_length,List.drop_eq_nil_of_le (by omega)]
theorem qM {α:Type}{rd:List Nat->Option (α×List Nat)}{n:Nat}{l r:List Nat}{x:α}(h:l.head? = some 32)(e:rd (l.drop 1)=some (x,r)):bf rd (n+1) l=(bf rd n r).map fun q=>(x::q.1,q.2):=by
 rw[bf,ym h,e];rfl
theorem qN {α:Type}{rd:List Nat->Option (α×List Nat)}{n:Nat}{l:List Nat}(h:l.head? = some 32)(e:rd (l.drop 1)=none):bf rd (n+1) l=none:=by
 rw[bf,ym h,e];rfl
theorem pN {α:Type}{rd:List Nat->Option (α×List Nat)}{n:Nat}{l:List Nat}(h:l.head? = some 41):bf rd (n+1) l=some ([],l.drop 1):=by
 rw[bf,yf (by rw[h];decide),ym h]
theorem pM {α:Type}{rd:List Nat->Option (α×List Nat)}{n:Nat}{l:List Nat}(h:l.head?≠some 32)(h2:l.head?≠some 41):bf rd (n+1) l=none:=by
 rw[bf,yf h,yf h2]
theorem ri:(Str.ofString " ")=⟨#[32]⟩:=by decide +kernel
theorem rj:(Str.ofString ")")=⟨#[41]⟩:=by decide +kernel
theorem sH:(Str.ofString "(")=⟨#[40]⟩:=by decide +kernel
theorem lh {z:Str}{e c:Nat}(h:((aK z).drop e).head? = some c):e<z.length:=by
 rw[List.head?_drop]at h;have:=(List.getElem?_eq_some_iff.mp h).1;rw[<-bH]at this;exact this
inductive oZ (vs:List V) (H:Hp) (Q:VK) (E:XK):Prop
 | mk (z:Str) (h_0:vs=[.str z]) (h_1:jd z) (h_2:z.length<=1000000) (h_3:∀ ds H',Num z ds->aG H H'->Q (.int (numV ds)) H') (h_4:(∀ ds,¬ Num z ds)->∀ H',aG H H'->Q .non H'):oZ vs H Q E
end Wz
set_option maxRecDepth 1000000
set_option maxHeartbeats 8000000
namespace Wz
open PySem PySem.Spec PyProof.Rows L2 PySem.SetTable
theorem ks:isSubtype (.type "tuple") (.type "set")=pure false:=by rw[isSubtype_type];kernel_rfl
theorem f8:isSubtype (.type "tuple") (.type "frozenset")=pure false:=by rw[isSubtype_type];kernel_rfl
section
variable {P:Program}{w:World}{A:Around}{E:Value->Shared->Prop}{s:Shared}
theorem re {l:Addr}{its:Array Value}{ns:List Int}{Q:Value->Shared->Prop}(hh:A.handled=none)(hl:s.heap.IsTuple l its)(hi:IntsAre its.toList ns)(hb:its.size+1<scanBound)
  (h:∀ (h':Heap)(tk:Nat),h'.SetOf (intKind P w) s.heap.objs.size (fun k'=>(firstMet (fun i=>ns.getD i 0) its.size).any (· == k')) (firstMet (fun i=>ns.getD i 0) its.size).length->(∀ b o,b<s.heap.objs.size->s.heap.get? b=some o->h'.get? b=some o)->Q (.ref s.heap.objs.size) { s with heap:=h',toks:=tk }) :
  wpAny (model P w) A (call (.type "set") [.ref l]) Q E s:=by
 obtain⟨c,tl,mro⟩:=zA.mro;have made:=zA.made;have sub:=zA.sub;have nt:=zA.notType;have cc:=zA.canCreate;have tc:=F.typeCall_set_1 (.ref l);refine wpAny_call (codeAny_of_tree ?_)
 show wpAny _ _ (callAny (.type "set") _) _ _ _
 refine yj ⟨Code.quiet_builtin _ (by decide +kernel),codeAny_builtin F.entry_type_call ?_⟩;rw[Around.under_plain (weight_type_call_type "set" [.ref l] []) rfl]
 repeat (any_goals (first | assumption | wp_step))
 refine zw (code_set_new_1 (.ref l) (E:=E) (Q₁:=fun obj s₁=>∃ led:Bool,obj=.ref s.heap.objs.size/\s₁={ s with heap:=s.heap.push (ng #[] 0 (.fresh 0 0 led)) }) fun led=>⟨led,rfl,rfl⟩) fun r s₁ hr=>?_
 cases r with
 | error e=>exact hr
 | ok fl =>
  cases fl with
  | ret obj =>
   obtain⟨led,rfl,rfl⟩:=hr;have hS:(s.heap.push (ng #[] 0 (.fresh 0 0 led))).get? s.heap.objs.size=some (ng #[] 0 (.fresh 0 0 led)):=Heap.get?_push_size _ rfl;have hT:Shared.TypeIs { s with heap:=s.heap.push (ng #[] 0 (.fresh 0 0 led)) } (.ref s.heap.objs.size) "set":=⟨_,hS,rfl⟩;have li:=zA.init.lookup;have bi:=zA.init.bind (.ref s.heap.objs.size)
   repeat (any_goals (first | assumption | wp_step))
   refine zw (codeAny_call_builtin (R:=wants (fun r s₂=>r=.none/\∃ h' tk,s₂={ s with heap:=h',toks:=tk }/\h'.SetOf (intKind P w) s.heap.objs.size (fun k'=>(firstMet (fun i=>ns.getD i 0) its.size).any (· == k')) (firstMet (fun i=>ns.getD i 0) its.size).length/\(∀ b o,b<s.heap.objs.size->s.heap.get? b=some o->h'.get? b=some o)) E) zA.init.plain F.entry_set_init (check_set_init_1 hT ?_)) fun r₂ s₂ hr₂=>?_
   ·obtain⟨⟨oc,od,odt,osl⟩,ho,hc,nl,hd⟩:=hl
    have hc:oc=.type "tuple":=hc;have hd:odt=.seq its nl:=hd;subst hc;subst hd;have ho':(s.heap.push (ng #[] 0 (.fresh 0 0 led))).get? l=some _:=Heap.get?_push_of_some _ ho;have s1:=ks;have s2:=f8
    have ne:(Value.type "tuple" == Value.type "dict")=false:=by decide
    have hl1:(s.heap.push (ng #[] 0 (.fresh 0 0 led))).IsTuple l its:=⟨_,ho',rfl,nl,rfl⟩;unfold Builtin.«set.__init__» noKeywords Builtin.Frozenset.updateFrom;generalize hPI:pyIter=PI
    wp_walk
    subst hPI;refine wpAny_pyIter_tuple hl1 (x9 (wpAny_runValue ?_));have lt:l<s.heap.objs.size:=yd ho
    have h3:A.in1.in1.in1.handled=none:=by simp[hh]
    have neI:l≠(s.heap.push (ng #[] 0 (.fresh 0 0 led))).objs.size:=by rw[Heap.size_push];exact yp (Nat.lt_succ_of_lt lt)
    have Sf:s.heap.objs.size∉[(s.heap.push (ng #[] 0 (.fresh 0 0 led))).objs.size,l]:=by
     rw[Heap.size_push];intro z;rcases yh.mp z with z | z
     ·exact absurd z (yp (Nat.lt_succ_self _))
     ·exact absurd (yu.mp z) (Nat.ne_of_gt lt)
    have W:=(Walks.tuple (prog:=P) (w:=w) h3 _ l neI its).toS;refine codeAny_set_update_loopS W s.heap.objs.size Sf (fun i=>ns.getD i 0) (fun i v hv=>IntsAre.int_at hi i v (by rw[Array.getElem?_toList];exact hv)) hb (its.size-0) 0 _ (by omega) (yT _) ⟨⟨_,Heap.get?_push_size _ rfl,rfl,rfl⟩,hl1.push _⟩ ?g0 ?fin
    case g0=>exact SetOf_congr ((setObjOf_fresh (knd:=intKind P w) led).setOf (Heap.get?_push_of_some _ hS) (by unfold scanBound;omega)) (fun _=>rfl) rfl
    case fin =>
     rintro⟨h',g',d',tk',os'⟩ hm hS';have eg:g'=s.gens:=hm.gens;have ed:d'=s.drawn:=hm.drawn;have eo:os'=s.os:=hm.os;subst eg;subst ed;subst eo;refine yj (yj ⟨rfl,h',tk',rfl,hS',fun b o hb e=>hm.heap b o (fun z=>?_) (Heap.get?_push_of_some _ (Heap.get?_push_of_some _ e))⟩);rw[Heap.size_push]at z;rcases yh.mp z with z | z
     ·exact absurd z (yp hb)
     ·exact absurd (yu.mp z) (yp (Nat.lt_succ_of_lt hb))
   ·cases r₂ with
    | error e=>exact hr₂
    | ok g =>
     cases g with
     | ret r =>
      obtain⟨rfl,h',tk,rfl,hg,hk⟩:=hr₂
      repeat (any_goals (first | assumption | wp_step))
      exact h _ _ hg hk
     | _=>exact hr₂.elim
  | _=>exact hr.elim
end
section
variable {X:Cx}
theorem kC (hc:X.calm=true):ec X (.type "set") (fun xs H Q=>∃ (p:Addr)(ns:List Int),xs=[.ref p]/\bw X.K H p (ns.map V.int)/\ns.length<=1000/\∀ l S (n:Nat),H l=none->n<=ns.length->(n=ns.length↔ns.Nodup)->Q (.ref l) (bE H l (.set S n))):=by
 intro pins s σ H xs us Q I r h;obtain⟨p,ns,rfl,hq,hz,q⟩:=h;obtain⟨u,rfl,rx⟩:=fi r;cases rx;obtain⟨its,rv,pl,_⟩:=I.tuple hq;have hl:=rv.length;rw[x4]at hl;refine re (I.ok.hd hc) pl (ns:=ns) (by simpa using gQ rv) (by rw[yg,<-hl];exact Nat.lt_of_le_of_lt (Nat.succ_le_succ hz) (by decide)) fun h' tk hS hk=>?_;rw[show (firstMet (fun i=>ns.getD i 0) its.toArray.size)=ns.foldl step_dedup [] by unfold firstMet;rw[yg,<-hl,nL]]at hS;obtain⟨d1,d2⟩:=ir ns [] List.nodup_nil;exact⟨.ref s.heap.objs.size,_,I.laid (t':=tk) (o:=.set _ (ns.foldl step_dedup []).length) (fun b u e=>hk b u (yd e) e) (x8 _) (show cr X.prog X.w _ _ _ (.set _ (ns.foldl step_dedup []).length) from hS),rfl,q _ _ _ (I.hok.fresh (x8 _)) (by simpa using d1) (by simpa using d2)⟩
end
end Wz
set_option maxRecDepth 1000000
set_option maxHeartbeats 8000000
namespace Wz
open PySem L2
theorem vV (q:qb):(szL q).lookup ("pair" : Str)=some q.q1:=rfl
theorem vW (q:qb):(szL q).lookup ("line" : Str)=some q.q2:=rfl
theorem vX (q:qb):(szL q).lookup ("star" : Str)=some q.q3:=rfl
theorem vY (q:qb):(szL q).lookup ("all" : Str)=some q.q4:=rfl
theorem vZ (q:qb):(szL q).lookup ("quad" : Str)=some q.q5:=rfl
theorem v0 (q:qb):(szL q).lookup ("row" : Str)=some q.q6:=rfl
theorem v1 (q:qb):(szL q).lookup ("back" : Str)=some q.q7:=rfl
theorem v2 {q:qb}{w:Str}(h1:w≠"pair")(h2:w≠"line")(h3:w≠"star")(h4:w≠"all")(h5:w≠"quad")(h6:w≠"row")(h7:w≠"back"):(szL q).lookup w=none:=by
 unfold szL;rw[yo,y0.mpr h1,yo,y0.mpr h2,yo,y0.mpr h3,yo,y0.mpr h4,yo,y0.mpr h5,yo,y0.mpr h6,yo,y0.mpr h7];rfl
end Wz
namespace L2
open PySem
def dN (st:Stmt):Expr:=match (cQ st).getD 1 (Stmt.Pass ⟨0,0,0,0⟩) with
 | Stmt.If _ (Stmt.Assign _ (Expr.Call _ [_,_,l] _ _) _::_) _ _=>l
 | _=>Expr.Constant .none 0 ⟨0,0,0,0⟩
end L2
namespace Wz
open PySem L2
def wD (d:Nat)(H:Hp)(v:V)(f:aB):Prop:=∃ p,v=.ref p/\bA d H p f
def vh (_:Hp)(v:V)(x:Int):Prop:=v=.int x
inductive ow (P0:Addr) (lp:Pos) (ql:Str) (cF:Addr) (d:Nat) (fl c1:Addr) (vy:V) (vs:List V) (H:Hp) (Q:VK) (E:XK):Prop
 | mk (h:vy=.int ((d+1:Nat):Int)) (h2:ni P0 lp ql cF fl (fun H=>fA H c1 ql) (figM d) (wD d) vs H Q E):ow P0 lp ql cF d fl c1 vy vs H Q E
def tp (P0:Addr)(lp:Pos)(ql:Str)(cF:Addr):Nat->Sp
 | 0=>fun _ _ _ _=>False
 | d+1=>fM P0 lp ql cF (d+1) (d+1) (brM d)
theorem jb {d:Nat}{H:Hp}:∀ {vs:List V}{fs:List aB},Paired (wD d H) vs fs->∃ ps:List Addr,vs=ps.map V.ref/\Paired (bA d H) ps fs
 | _,_,.nil=>⟨[],rfl,.nil⟩
 | _,_,.cons h t=>by
  obtain⟨ps,rfl,p⟩:=jb t;obtain⟨q,rfl,hq⟩:=h;exact⟨q::ps,rfl,.cons hq p⟩
theorem gV {H:Hp}:∀ {vs:List V}{gs:List Int},Paired (vh H) vs gs->vs=gs.map V.int
 | _,_,.nil=>rfl
 | _,_,.cons h t=>by
  rw[gV t,show _=V.int _ from h];rfl
theorem iL {α:Type}{rd:List Nat->Option (α×List Nat)}(h:ud rd):∀ (n:Nat)(l:List Nat)(xs:List α)(r:List Nat),bf rd n l=some (xs,r)->xs.length<=l.length
 | 0,l,xs,r,e=>by cases e
 | n+1,l,xs,r,e=>by
  rw[bf]at e;split at e
  ·rename_i hd
   obtain⟨p,e1,e2⟩:=y3.mp e;obtain⟨q,e3,e4⟩:=yU.mp e2;injection e4 with e5 e6;have h1:=iL h n _ q.1 q.2 e3;have h2:=oX h (show rd (l.drop 1)=some (p.1,p.2) from e1)
   have h3:0<l.length:=by cases l with | nil=>cases hd | cons _ _=>exact Nat.succ_pos _
   rw[yn]at h2;rw[<-e5,yy];omega
  ·split at e
   ·injection e with e
    injection e with e _;rw[<-e];exact yT _
   ·cases e
def jT (g:Int):List Nat:=aK (gS g)
mutual
def aB.txt:aB->List Nat
 | .pl f=>40::(aK f.word++((f.gs.flatMap fun g=>32::jT g)++[41]))
 | .row fs=>40::(aK "row"++(aB.txtL fs++[41]))
 | .back f=>40::(aK "back"++(32::f.txt++[41]))
 | .name w=>aK w
def aB.txtL:List aB->List Nat
 | []=>[]
 | f::fs=>32::f.txt++aB.txtL fs
end
theorem hZ:∀ fs:List aB,aB.txtL fs=fs.flatMap fun f=>32::f.txt
 | []=>by rw[aB.txtL];rfl
 | f::fs=>by rw[aB.txtL,hZ fs];rfl
def aB.Good:Nat->aB->Prop
 | 0,_=>False
 | _+1,.pl f=>f.Ok/\∀ g∈f.gs,mh g
 | _+1,.name w=>dD w=true
 | n+1,.back f=>aB.Good n f
 | n+1,.row fs=>1<=fs.length/\fs.length<=60/\∀ f∈fs,aB.Good n f
theorem uF {w:Str}(h:dD w=true):∀ c∈aK w,bI c=true:=by
 unfold dD at h;rw[yG]at h;exact fun c hc=>yz.mp h.2 c hc
theorem pZ (f:cN):(∀ c∈aK f.word,bI c=true):=by
 have k:∀ s:Str,s∈kindsL->∀ c∈aK s,bI c=true:=by
  have:kindsL.all (fun s=>(aK s).all bI)=true:=by decide +kernel
  intro s hs c hc;exact yz.mp (yz.mp this s hs) c hc
 cases f<;>exact k _ (by unfold kindsL cN.word;simp)
theorem oW:(∀ c∈aK "row",bI c=true)/\(∀ c∈aK "back",bI c=true):=by
 have:(aK "row").all bI=true/\(aK "back").all bI=true:=by decide +kernel
 exact⟨fun c hc=>yz.mp this.1 c hc,fun c hc=>yz.mp this.2 c hc⟩
theorem aB.Good.up:∀ {n:Nat}{f:aB},aB.Good n f->aB.Good (n+1) f
 | 0,_,h=>h.elim
 | n+1,.pl f,h=>h
 | n+1,.name w,h=>h
 | n+1,.back f,h=>aB.Good.up (n:=n) (f:=f) h
 | n+1,.row fs,h=>⟨h.1,h.2.1,fun f hf=>aB.Good.up (n:=n) (f:=f) (h.2.2 f hf)⟩
theorem aB.Good.le {n m:Nat}{f:aB}(h:aB.Good n f)(hl:n<=m):aB.Good m f:=by
 induction hl with
 | refl=>exact h
 | step _ ih=>exact ih.up
def tI (x:aB×Nat):Nat:=if x.2=1 then 16030 else x.1.txt.length+1
def tS:List (aB×Nat)->Nat
 | []=>0
 | x::xs=>tI x+tS xs
theorem kf:∀ a b:List (aB×Nat),tS (a++b)=tS a+tS b
 | [],b=>by rw[List.nil_append,tS];omega
 | x::a,b=>by rw[List.cons_append,tS,tS,kf a b];omega
theorem mR:∀ gs:List Int,(∀ g∈gs,mh g)->(gs.flatMap fun g=>32::jT g).length<=13*gs.length
 | [],_=>x8 _
 | g::gs,h=>by
  have ih:=mR gs fun x hx=>h x (yc _ hx);have h2:=(iF (h g ya)).2;have h3:(jT g).length=(aK (gS g)).length:=rfl;rw[List.flatMap_cons,yb,yy,yy];omega
theorem qV (f:cN):(aK f.word).length<=4:=by
 have k:kindsL.all (fun s=>decide ((aK s).length<=4))=true:=by decide +kernel
 cases f<;>exact yI (yz.mp k _ (by unfold kindsL cN.word;simp))
theorem jL {x:aB×Nat}(h:fj x)(e:x.2=1)(g:aB.Good x.2 x.1):x.1.txt.length<=790:=by
 rw[e]at g;rcases h.2.2 e with ⟨f,z⟩ | ⟨w,z⟩
 ·rw[z]at g ⊢
  obtain⟨ok,gs⟩:f.Ok/\∀ g∈f.gs,mh g:=g;have h1:=mR f.gs gs;have h2:=qV f;have h3:=ok.2.1;rw[aB.txt,yy,yb,yb,yF];omega
 ·rw[z]at g ⊢
  have h1:=jR (show dD w=true from g);rw[aB.txt,<-bH];omega
theorem ro {x:aB×Nat}(h:fj x)(g:aB.Good x.2 x.1):x.1.txt.length+1<=tI x:=by
 unfold tI;split
 ·rename_i e
  have:=jL h e g;omega
 ·exact x8 _
theorem nB:∀ fs:List aB,(aB.txtL fs).length=(fs.map fun f=>f.txt.length+1).sum
 | []=>by rw[aB.txtL];rfl
 | f::fs=>by rw[aB.txtL,yb,yy,nB fs,yD,List.sum_cons]
theorem o3 (f:aB->Nat)(fs:List aB):∀ k:Nat,(((List.replicate k fs).flatten).map f).sum=k*(fs.map f).sum
 | 0=>by rw[List.replicate_zero,List.flatten_nil,Nat.zero_mul];rfl
 | k+1=>by rw[yP,y1,yk,List.sum_append,o3 f fs k,Nat.succ_mul,Nat.add_comm]
theorem rz:∀ {xs:List (aB×Nat)},(∀ x∈xs,fj x)->(∀ x∈xs,aB.Good x.2 x.1)->((xs.map (·.1)).map fun f=>f.txt.length+1).sum<=tS xs
 | [],_,_=>x8 _
 | x::xs,h,g=>by
  have ih:=rz (fun y hy=>h y (yc _ hy)) fun y hy=>g y (yc _ hy);have:=ro (h x ya) (g x ya);rw[yD,yD,List.sum_cons,tS];omega
theorem o4:∀ {xs:List (aB×Nat)},(∀ x∈xs,x.2=1)->tS xs=16030*xs.length
 | [],_=>rfl
 | x::xs,h=>by
  rw[tS,o4 fun y hy=>h y (yc _ hy),yy];unfold tI;rw[ym (h x ya)];omega
theorem mV:∀ {xs:List (aB×Nat)},(∀ x∈xs,fj x)->(∀ x∈xs,aB.Good x.2 x.1)->(∀ x∈xs,x.2=1)->((xs.map (·.1)).map fun f=>f.txt.length+1).sum<=800*xs.length
 | [],_,_,_=>x8 _
 | x::xs,h,g,e=>by
  have ih:=mV (fun y hy=>h y (yc _ hy)) (fun y hy=>g y (yc _ hy)) fun y hy=>e y (yc _ hy);have:=jL (h x ya) (e x ya) (g x ya);rw[yD,yD,List.sum_cons,yy];omega
theorem lS (fs:List aB):(aB.row fs).txt.length=(fs.map fun f=>f.txt.length+1).sum+5:=by
 have e:(aK "row").length=3:=by decide +kernel
 rw[aB.txt,yy,yb,yb,nB,e,yF];omega
theorem mo (f:aB):(aB.back f).txt.length=f.txt.length+7:=by
 have e:(aK "back").length=4:=by decide +kernel
 rw[aB.txt,yy,yb,yb,yy,e,yF];omega
theorem uY {xs:List (aB×Nat)}{k:Nat}(ok:∀ x∈xs,fj x)(g:∀ x∈xs,aB.Good x.2 x.1)(hk:k=1\/(k<=20/\∀ x∈xs,x.2=1)):(aB.row (List.replicate k (xs.map (·.1))).flatten).txt.length+1<=tS xs+6:=by
 rw[lS,o3];rcases hk with rfl | ⟨hk,h1⟩
 ·have:=rz ok g
  rw[Nat.one_mul];omega
 ·have h2:=mV ok g h1
  rw[o4 h1];have:=Nat.mul_le_mul hk h2;omega
theorem jG {xs:List (aB×Nat)}{x:aB×Nat}(h:∀ y∈xs,aB.Good y.2 y.1)(hx:aB.Good x.2 x.1):∀ y∈xs++[x],aB.Good y.2 y.1:=fun y hy=>by
 rcases yL.mp hy with z | z
 ·exact h y z
 ·rw[yu.mp z];exact hx
theorem pw {fs:List aB}{M:Nat}(h:∀ f∈fs,aB.Good M f)(k:Nat)(h1:1<=k*fs.length)(h2:k*fs.length<=60):aB.Good (M+1) (.row (List.replicate k fs).flatten):=by
 refine⟨by rw[jN];exact h1,by rw[jN];exact h2,fun f hf=>?_⟩;obtain⟨l,hl,hf⟩:=List.mem_flatten.mp hf;rw[(List.mem_replicate.mp hl).2]at hf;exact h f hf
inductive lZ (vs:List V) (H:Hp) (Q:VK) (E_:XK):Prop
 | mk (d c:Int) (h_0:vs=[.int d,.int c]) (h_1:0<=d) (h_2:∀ (p:Addr)(f:cN)(H':Hp),H p=none->aG H H'->gK H' p f->f.Ok->(∀ g∈f.gs,mh g)->Q (.ref p) H'):lZ vs H Q E_
inductive jw (vs:List V) (H:Hp) (Q:VK) (E_:XK):Prop
 | mk (s nm:Addr) (d:Int) (ws:List Str) (xs:List (aB×Nat)) (h_0:vs=[.ref s,.int d,.ref nm]) (h_1:0<=d) (h_2:rL H s xs) (h_3:H nm=some (.lst (ws.map V.str))) (h_4:∀ w∈ws,dD w=true) (h_5:ws.length<=100) (h_6:∀ x∈xs,fj x) (h_7:xs.length<=20) (h_n:∀ x∈xs,aB.Good x.2 x.1)
  (h_8:∀ (ys:List (aB×Nat))(H':Hp),rL H' s ys->(∀ x∈ys,fj x)->ys.length<=xs.length+1->kh ys<=kh xs+20->(∀ x∈ys,aB.Good x.2 x.1)->tS ys<=tS xs+16030->(∀ a o,H a=some o->a≠s->H' a=some o)->Q .non H'):jw vs H Q E_
inductive jr (vs:List V) (H:Hp) (Q:VK) (E_:XK):Prop
 | mk (l nm:Addr) (c:Int) (ds:List Int) (ws:List Str) (h_0:vs=[.ref l,.int c,.ref nm]) (h_1:H l=some (.lst (ds.map V.int))) (h_2:∀ d∈ds,0<=d) (h_3:ds.length<=9) (h_4:H nm=some (.lst (ws.map V.str))) (h_5:∀ w∈ws,dD w=true) (h_6:ws.length<=100)
  (h_7:∀ (p:Addr)(f:aB)(H':Hp),aG H H'->bA 8 H' p f->f.names.length<=200->aB.Good 8 f->f.txt.length<=150000->Q (.ref p) H'):jr vs H Q E_
inductive iP (n:Nat) (vs:List V) (H:Hp) (Q:VK) (E_:XK):Prop
 | mk (p:Addr) (f:aB) (h_0:vs=[.ref p]) (h_1:bA n H p f) (h_2:aB.Good n f) (h_3:f.txt.length<=200000) (h_4:∀ H',aG H H'->Q (.str (toS f.txt)) H'):iP n vs H Q E_
theorem jD:aK (Str.ofString " ")=[32]:=by decide +kernel
theorem me {x y:Str}(h:aK x=aK y):x=y:=by rw[<-nJ x,h,nJ]
theorem nN {g:Int}(h:mh g):g.natAbs<10 ^ 100:=by
 have h1:=h.1;have h2:=h.2;exact yi (show g.natAbs<10 ^ 12 by omega) (by decide +kernel)
theorem nc {fs:List aB}{f:aB}(h:f∈fs):f.txt.length<=(aB.row fs).txt.length:=by
 rw[lS]
 have:∀ l:List aB,f∈l->f.txt.length<=(l.map fun f=>f.txt.length+1).sum:=fun l=>by
  induction l with
  | nil=>intro z;cases z
  | cons x l ih =>
   intro z;rw[yD,List.sum_cons];rcases yh.mp z with rfl | z
   ·omega
   ·have:=ih z;omega
 have:=this _ h;omega
theorem rP (f:aB):(Str.ofString "(back "++toS f.txt++Str.ofString ")" : Str)=toS (aB.back f).txt:=by
 refine me ?_
 have e1:aK (Str.ofString "(back ")=40::(aK "back"++[32]):=by decide +kernel
 have e2:aK (Str.ofString ")")=[41]:=by decide +kernel
 rw[cO,cO,cI,cI,e1,e2,aB.txt];simp
theorem q8 {fs:List aB}(h:1<=fs.length):(Str.ofString "(row "++Txt.join (Str.ofString " ") (fs.map fun f=>toS f.txt)++Str.ofString ")" : Str)=toS (aB.row fs).txt:=by
 cases fs with
 | nil=>exact absurd h (by decide)
 | cons f fs =>
  refine me ?_
  have e1:aK (Str.ofString "(row ")=40::(aK "row"++[32]):=by decide +kernel
  have e2:aK (Str.ofString ")")=[41]:=by decide +kernel
  have e3:((fs.map fun f=>toS f.txt).map fun q=>aK (Str.ofString " ")++aK q).flatten=fs.flatMap fun f=>32::f.txt:=by
   rw[y6,jD]
   show (fs.map fun f=>32::aK (toS f.txt)).flatten=_
   have e:(fun f:aB=>32::aK (toS f.txt))=fun f:aB=>32::f.txt:=funext fun f=>by rw[cI]
   rw[e];rfl
  rw[cO,cO,yD,oO,e3,cI,cI,e1,e2,aB.txt,aB.txtL,hZ];simp
theorem sZ {f:cN}(h:1<=f.gs.length):(Str.ofString "("++f.word++Str.ofString " "++Txt.join (Str.ofString " ") (f.gs.map gS)++Str.ofString ")" : Str)=toS (aB.pl f).txt:=by
 refine me ?_
 have e1:aK (Str.ofString "(")=[40]:=by decide +kernel
 have e2:aK (Str.ofString ")")=[41]:=by decide +kernel
 rw[cO,cO,cO,cO,e1,e2,cI,aB.txt,jD]
 cases e:f.gs with
 | nil=>rw[e]at h;exact absurd h (by decide)
 | cons g gs =>
  have e3:((gs.map gS).map fun q=>aK (Str.ofString " ")++aK q).flatten=gs.flatMap fun g=>32::jT g:=by
   rw[y6,jD];rfl
  rw[yD,oO,e3]
  show _=40::(aK f.word++(((32::jT g)++gs.flatMap fun g=>32::jT g)++[41]))
  simp[jT]
inductive l9 (P0:Addr) (lp:Pos) (ql:Str) (vs:List V) (H:Hp) (Q:VK) (E_:XK):Prop
 | mk (z:Str) (h_0:vs=[.str z]) (h_1:jd z) (h_2:z.length<=1000000) (h_5:TabI H P0 lp ql) (h_6:∀ f,figM 8 (aK z)=some (f,[])->∀ (p:Addr)(H':Hp),GK H H'->TabI H' P0 lp ql->bA 8 H' p f->Q (.ref p) H')
  (h_7:(∀ f,figM 8 (aK z)≠some (f,[]))->∀ H',GK H H'->TabI H' P0 lp ql->Q (.str "NoFigure") H'):l9 P0 lp ql vs H Q E_
theorem ut:dD "hey" = true:=by decide +kernel
theorem kX:∀ {n:Nat}{f:aB},aB.Good n f->∀ c∈f.txt,c<128
 | 0,_,h=>h.elim
 | n+1,.name w,h=>fun c hc=>by
  rw[aB.txt]at hc;have:=uF (show dD w=true from h) c hc;unfold bI at this;have:=yI this;omega
 | n+1,.pl f,h=>fun c hc=>by
  rw[aB.txt]at hc;rcases yh.mp hc with rfl | hc
  ·decide
  rcases yL.mp hc with hc | hc
  ·have:=pZ f c hc
   unfold bI at this;have:=yI this;omega
  rcases yL.mp hc with hc | hc
  ·obtain⟨g,hg,hc⟩:=List.mem_flatMap.mp hc
   rcases yh.mp hc with rfl | hc
   ·decide
   ·have:=(iF (h.2 g hg)).1 c hc
    omega
  ·rw[yu.mp hc];decide
 | n+1,.back f,h=>fun c hc=>by
  rw[aB.txt]at hc;have ih:=kX (n:=n) (f:=f) h;rcases yh.mp hc with rfl | hc
  ·decide
  rcases yL.mp hc with hc | hc
  ·have:=oW.2 c hc
   unfold bI at this;have:=yI this;omega
  rcases yL.mp hc with hc | hc
  ·rcases yh.mp hc with rfl | hc
   ·decide
   ·exact ih c hc
  ·rw[yu.mp hc];decide
 | n+1,.row fs,h=>fun c hc=>by
  rw[aB.txt,hZ]at hc;rcases yh.mp hc with rfl | hc
  ·decide
  rcases yL.mp hc with hc | hc
  ·have:=oW.1 c hc
   unfold bI at this;have:=yI this;omega
  rcases yL.mp hc with hc | hc
  ·obtain⟨g,hg,hc⟩:=List.mem_flatMap.mp hc
   rcases yh.mp hc with rfl | hc
   ·decide
   ·exact kX (n:=n) (h.2.2 g hg) c hc
  ·rw[yu.mp hc];decide
theorem rO {n:Nat}{f:aB}(h:aB.Good n f):jd (toS f.txt):=io fun c hc=>kX h c (by have hc:c∈aK (toS f.txt):=hc;rwa [cI]at hc)
theorem GK.seq {K:PySem.W.Frag}{H H':Hp}{a:Addr}{xs:List V}(g:GK H H')(h:bC K H a xs):bC K H' a xs:=by
 rcases h with (h | ⟨o,h⟩) | h
 ·exact .inl (.inl (g _ _ h fun _ z=>nomatch z))
 ·exact .inl (.inr ⟨o,g _ _ h fun _ z=>nomatch z⟩)
 ·exact .inr h
end Wz
namespace L2
open PySem
theorem pq {P:Program}{w:World}{K:PySem.W.Frag}{mg:Str->Option Value}{base:Heap}{CX:ku}{k:Nat}{f:Addr}{fd:FuncData}{ps:List Str}{sp sp':Sp}(m:∀ vs H Q E,sp' vs H Q E->sp vs H Q E)(F:bc P w K mg base CX k f fd ps sp):bc P w K mg base CX k f fd ps sp' :=
 ⟨fun vs H Q E h=>F.len vs H Q E (m vs H Q E h),fun A outer s H args us vs Q E hr e0 hb r h=>F.run A outer s H args us vs Q E hr e0 hb r (m vs H Q E h)⟩
end L2
namespace Wz
open PySem L2
theorem iG (ds:List Nat)(e:Nat):numV (ds++[e])=numV ds*10+e:=mP ds e
theorem mQ {ds:List Nat}(h:ds≠[])(hz:ds.head?≠some 0):0<numV ds:=by
 have key:∀ (l:List Nat)(a:Nat),0<a->0<l.foldl (fun a e=>a*10+e) a:=fun l=>by
  induction l with
  | nil=>exact fun a h=>h
  | cons x l ih=>exact fun a h=>ih (a*10+x) (by omega)
 cases ds with
 | nil=>exact absurd rfl h
 | cons x l =>
  have hx:x≠0:=fun e=>hz (by rw[e];rfl);exact key l (0*10+x) (by omega)
theorem iB {α:Type}{l:List α}(h:l≠[]):∃ i x,l=i++[x]:=⟨l.dropLast,l.getLast h,(List.dropLast_concat_getLast h).symm⟩
theorem vw:∀ (n:Nat)(ds es:List Nat),ds.length<=n->ds≠[]->es≠[]->(ds.head? = some 0->ds=[0])->(es.head? = some 0->es=[0])->(∀ e∈ds,e<10)->(∀ e∈es,e<10)->numV ds=numV es->ds=es:=by
 intro n
 induction n with
 | zero=>intro ds es hl hn;cases ds with | nil=>exact absurd rfl hn | cons _ _=>simp at hl
 | succ n ih =>
  intro ds es hl hn hm z1 z2 b1 b2 e;obtain⟨i,x,rfl⟩:=iB hn;obtain⟨j,y,rfl⟩:=iB hm;rw[iG,iG]at e;have hx:=b1 x (by simp);have hy:=b2 y (by simp)
  have exy:x=y:=by omega
  have eij:numV i=numV j:=by omega
  subst exy
  by_cases hi:i=[]
  ·subst hi
   by_cases hj:j=[]
   ·subst hj;rfl
   ·have:0<numV j:=mQ hj (fun q=>by
     have q2:(j++[x]).head? = some 0:=by cases j with | nil=>exact absurd rfl hj | cons a l=>exact q
     have:=z2 q2
     cases j with
     | nil=>exact hj rfl
     | cons a l=>simp at this)
    have e0:numV []=0:=rfl;omega
  ·by_cases hj:j=[]
   ·subst hj
    have:0<numV i:=mQ hi (fun q=>by
     have q2:(i++[x]).head? = some 0:=by cases i with | nil=>exact absurd rfl hi | cons a l=>exact q
     have:=z1 q2
     cases i with
     | nil=>exact hi rfl
     | cons a l=>simp at this)
    have e0:numV []=0:=rfl;omega
   ·have h1:i.head?≠some 0:=fun q=>by
     have q2:(i++[x]).head? = some 0:=by cases i with | nil=>exact absurd rfl hi | cons a l=>exact q
     have:=z1 q2
     cases i with
     | nil=>exact hi rfl
     | cons a l=>simp at this
    have h2:j.head?≠some 0:=fun q=>by
     have q2:(j++[x]).head? = some 0:=by cases j with | nil=>exact absurd rfl hj | cons a l=>exact q
     have:=z2 q2
     cases j with
     | nil=>exact hj rfl
     | cons a l=>simp at this
    rw[yb,yF]at hl;rw[ih i j (by omega) hi hj (fun q=>absurd q h1) (fun q=>absurd q h2) (fun e he=>b1 e (by simp[he])) (fun e he=>b2 e (by simp[he])) eij]
theorem sm:∀ (ds:List Nat),(∀ e∈ds,e<10)->numV ds<10 ^ ds.length:=by
 have key:∀ n (ds:List Nat),ds.length=n->(∀ e∈ds,e<10)->numV ds<10 ^ n:=by
  intro n
  induction n with
  | zero=>intro ds h _;rw[List.eq_nil_of_length_eq_zero h];decide
  | succ n ih =>
   intro ds h b;obtain⟨i,x,rfl⟩:=iB (l:=ds) (fun z=>by rw[z]at h;cases h);rw[iG];have h1:=ih i (by simpa using h) (fun e he=>b e (by simp[he]));have h2:=b x (by simp);rw[Nat.pow_succ];omega
 exact fun ds=>key _ ds rfl
theorem qH {z:Str}{ds:List Nat}(N:Num z ds):mh (numV ds)/\gS (numV ds)=z:=by
 have g:mh (numV ds):=by
  refine⟨by omega,?_⟩;have h1:=sm ds N.dg;have h2:10 ^ ds.length<=10 ^ 12:=Nat.pow_le_pow_right (by decide) N.ln;have:numV ds<10 ^ 12:=yi h1 h2;omega
 refine⟨g,?_⟩;obtain⟨es,M,e⟩:=mO g
 have ev:numV es=numV ds:=by omega
 have ed:es=ds:=vw es.length es ds (x8 _) M.ne N.ne M.nz N.nz M.dg N.dg ev;subst ed;refine me ?_;unfold aK;rw[M.eq,N.eq]
theorem oB (l:List Nat):l=bL l++l.drop (bL l).length:=by
 unfold bL
 induction l with
 | nil=>rfl
 | cons c l ih =>
  rw[List.takeWhile_cons]
  cases e : !jJ c with
  | false=>rfl
  | true =>
   simp only[zu,List.cons_append,yy,List.drop_succ_cons];rw[<-ih]
theorem vT {z:Str}{n:Int}(h:rdNum z=some n):mh n/\gS n=z:=by
 unfold rdNum at h;split at h
 ·rename_i q
  injection h with h;rw[<-h];exact qH q.choose_spec
 ·cases h
theorem pK {l r:List Nat}{n:Int}(h:numAt l=some (n,r)):mh n/\l=jT n++r:=by
 unfold numAt at h;obtain⟨m,e1,e2⟩:=yU.mp h;injection e2 with e3 e4;subst e3;obtain⟨g,e⟩:=vT e1;refine⟨g,?_⟩
 have:jT m=bL l:=by unfold jT;rw[e,cI]
 rw[this,<-e4];exact oB l
theorem iw {l:List Nat}{c:Nat}(h:l.head? = some c):l=c::l.drop 1:=by
 cases l with
 | nil=>cases h
 | cons x l=>rw[yE h];rfl
theorem fE {α:Type}{rd:List Nat->Option (α×List Nat)}{tx:α->List Nat}{G:α->Prop}(h:∀ l x r,rd l=some (x,r)->G x/\l=tx x++r):∀ (n:Nat)(l:List Nat)(xs:List α)(r:List Nat),bf rd n l=some (xs,r)->(∀ x∈xs,G x)/\l=(xs.flatMap fun x=>32::tx x)++41::r
 | 0,l,xs,r,e=>by cases e
 | n+1,l,xs,r,e=>by
  rw[bf]at e;split at e
  ·rename_i hd
   obtain⟨p,e1,e2⟩:=y3.mp e;obtain⟨q,e3,e4⟩:=yU.mp e2;injection e4 with e5 e6;obtain⟨g1,t1⟩:=h _ p.1 p.2 e1;obtain⟨g2,t2⟩:=fE h n _ q.1 q.2 e3;subst e5 e6;refine⟨fun x hx=>?_,?_⟩
   ·rcases yh.mp hx with rfl | hx
    ·exact g1
    ·exact g2 x hx
   ·rw[iw hd,t1,t2]
    simp
  ·split at e
   ·rename_i hd
    injection e with e;injection e with e5 e6;subst e5 e6;exact⟨(fun x hx=>nomatch hx),iw hd⟩
   ·cases e
theorem mM {w:Str}{gs:List Int}{f:aB}(h:bQ w gs=some f)(g:∀ x∈gs,mh x):∃ p:cN,f=.pl p/\p.word=w/\p.gs=gs/\p.Ok:=by
 unfold bQ at h;split at h
 ·rename_i hw
  split at h
  ·injection h with h
   exact⟨_,h.symm,hw.symm,rfl,⟨by show 2<=2;decide,by show 2<=60;decide,fun _ _ _ _ z=>by cases z⟩⟩
  ·cases h
 ·split at h
  ·rename_i hw
   split at h
   ·split at h
    ·rename_i nd
     injection h with h;exact⟨_,h.symm,hw.symm,rfl,⟨by show 2<=4;decide,by show 4<=60;decide,fun _ _ _ _ z=>by cases z;exact nd⟩⟩
    ·cases h
   ·cases h
  ·split at h
   ·rename_i hl
    split at h
    ·rename_i hw
     injection h with h;exact⟨_,h.symm,hw.symm,rfl,⟨hl.1,hl.2,fun _ _ _ _ z=>by cases z⟩⟩
    ·split at h
     ·rename_i hw
      injection h with h;exact⟨_,h.symm,hw.symm,rfl,⟨hl.1,hl.2,fun _ _ _ _ z=>by cases z⟩⟩
     ·split at h
      ·rename_i hw
       injection h with h;exact⟨_,h.symm,hw.symm,rfl,⟨hl.1,hl.2,fun _ _ _ _ z=>by cases z⟩⟩
      ·cases h
   ·cases h
theorem j6:∀ (d:Nat)(l:List Nat)(f:aB)(r:List Nat),figM d l=some (f,r)->aB.Good d f/\l=f.txt++r
 | 0,l,f,r,h=>by rw[figM]at h;cases h
 | d+1,l,f,r,h=>by
  by_cases hd:l.head? = some 40
  ·rw[k8 d l hd]at h
   unfold brM at h;have hl:=iw hd;have wc:=oB (l.drop 1);split at h
   ·rename_i hw
    obtain⟨p,e1,e2⟩:=y3.mp h;obtain⟨q,e3,e4⟩:=yU.mp e2;injection e4 with e5 e6;subst e5 e6;obtain⟨g,t⟩:=fE (G:=aB.Good d) (tx:=aB.txt) (fun l x r e=>j6 d l x r e) _ _ p.1 p.2 e1;have ew:bL (l.drop 1)=aK (toS (bL (l.drop 1))):=(cI _).symm;unfold dL at e3;split at e3
    ·rename_i hr
     split at e3
     ·rename_i hc
      injection e3 with e3;subst e3;refine⟨⟨hc.1,hc.2,g⟩,?_⟩;rw[aB.txt,hZ]
      conv=>lhs;rw[hl,wc,t,ew,hr]
      simp
     ·cases e3
    ·rename_i hr
     have hb:=hw.resolve_left hr;split at e3
     ·rename_i f0 hp
      injection e3 with e3;subst e3;rw[hp]at g t;refine⟨g f0 ya,?_⟩;rw[aB.txt]
      conv=>lhs;rw[hl,wc,t,ew,hb]
      simp
     ·cases e3
   ·rename_i hw
    obtain⟨p,e1,e2⟩:=y3.mp h;obtain⟨q,e3,e4⟩:=yU.mp e2;injection e4 with e5 e6;subst e5 e6;obtain⟨g,t⟩:=fE (G:=mh) (tx:=jT) (fun l x r e=>pK e) _ _ p.1 p.2 e1;obtain⟨pf,rfl,ew,eg,ok⟩:=mM e3 g;refine⟨⟨ok,by rw[eg];exact g⟩,?_⟩
    have ew2:bL (l.drop 1)=aK pf.word:=by rw[ew,cI]
    rw[aB.txt,eg]
    conv=>lhs;rw[hl,wc,t,ew2]
    simp
  ·rw[k9 d l hd]at h
   split at h
   ·rename_i nm
    injection h with h;injection h with e5 e6;subst e5 e6;refine⟨nm,?_⟩;rw[aB.txt,cI];exact oB l
   ·cases h
end Wz
namespace L2
open PySem PySem.Spec PyProof.Rows
def o9 (lo:Int)(d:Nat)(n:Nat):It:=⟨fun i _=>i<n,fun i H x H'=>H'=H/\x=.int (lo+(i:Nat)*(d:Int)),fun i _=>n<=i⟩
theorem nA {P:Program}{w:World}{K:PySem.W.Frag}{tg:Expr}(it:Addr)(lo:Int)(d n:Nat):pc P w K tg (o9 lo d n) [it] it (fun i h=>IsRangeIter h it (lo+(i:Nat)*(d:Int)) ((n:Int)-(i:Nat)) d) where
 mem:=by simp
 obj:=fun i h st b hb=>by
  have e:b=it:=by simpa using hb
  subst e
  exact⟨_,st,fun v z=>by
   have z':Data.fields _=Data.cell v:=z
   cases z'⟩
 keep:=fun i h h' st k=>k it (by simp) _ st
 item:=by
  intro X hP hw hK hc i pins s σ H E I hf st hg;subst hP hw hK;obtain⟨f0,f1,f2,f3,f4,f5⟩:=hf it (by simp);have W:=Walks.range (prog:=X.prog) (w:=X.w) (I.ok.hd hc) it lo d n;refine W.item i s _ _ hg st fun v h' tk hv st' kk=>?_;obtain⟨t,rfl⟩:=hv;have I1:aF X pins σ H { s with heap:=h',toks:=tk }:=I.turned (fun b o hb e=>kk b o (by simpa using hb) e) f0 f1 f3 f4 f5;exact⟨_,rfl,mz (s:={ s with heap:=h',toks:=tk }) (n:="range_iterator") st' rfl rfl (by decide) ⟨.int (lo+(i:Nat)*(d:Int)),H,I1,⟨t,rfl⟩,⟨rfl,rfl⟩,st',fun b hb=>(hf b hb).1⟩⟩
 done:=by
  intro X hP hw hK hc i pins s σ H E I hf st hg;subst hP hw hK;obtain⟨f0,f1,f2,f3,f4,f5⟩:=hf it (by simp);exact wpAny_pyNext_range_end (I.ok.hd hc) st (by have:n<=i:=hg;omega) fun h' eb=>⟨rfl,I.turned (t':=s.toks) (fun b o hb e=>eb b o hb e) f0 f1 f3 f4 f5⟩
 self:=fun _ _ _ _ _ st h=>wpAny_pyIter_rangeiter st h
section
variable {X:Cx}{tg:Expr}
def vC (d:Nat)(ta:TA):TI:=fun σ H R=>ta σ H fun vs H1=>∃ i j:Int,vs=[.int i,.int j,.int d]/\(-(2 ^ 40)<=i/\i<2 ^ 40/\-(2 ^ 40)<=j/\j<2 ^ 40)/\R (o9 i d (Builtin.Range.rangeSize i j d).toNat) H1
theorem dY (a b:Int){d:Nat}(hd:d=3\/d=4):Builtin.Range.rangeSize a b d=if a<b then (b-a-1)/d+1 else 0:=by
 unfold Builtin.Range.rangeSize;rw[ym (by rcases hd with rfl | rfl<;>decide)]
theorem sF {a b:Int}{d:Nat}(hd:d=3\/d=4)(h1 : -(2 ^ 40)<=a)(h2:a<2 ^ 40)(h3 : -(2 ^ 40)<=b)(h4:b<2 ^ 40):Builtin.Range.small a b d=true:=by
 unfold Builtin.Range.small;rw[dY _ _ hd];rcases hd with rfl | rfl
 ·simp only[Builtin.Range.rangeFitsLong,yG,Bool.or_eq_true,decide_eq_true_eq,beq_iff_eq,show (((3:Nat):Int))>0 by decide,zu]
  split<;>omega
 ·simp only[Builtin.Range.rangeFitsLong,yG,Bool.or_eq_true,decide_eq_true_eq,beq_iff_eq,show (((4:Nat):Int))>0 by decide,zu]
  split<;>omega
theorem pR {pins:List (Addr×Obj)}{σ:St}{H:Hp}{s:Shared}{R:It->Hp->Prop}{E:Value->Shared->Prop}{lo hi:Int}{t u v:Tok}{tk:Nat}{d:Nat}(hd:d=3\/d=4)(I:aF X pins σ H s)(h1 : -(2 ^ 40)<=lo)(h2:lo<2 ^ 40)(h3 : -(2 ^ 40)<=hi)(h4:hi<2 ^ 40)
  (q:R (o9 lo d (Builtin.Range.rangeSize lo hi d).toNat) H):wpAny (model X.prog X.w) X.A (pyIter (.ref s.heap.objs.size)) (wJ X pins σ tg R) E { s with heap:=s.heap.push { cls:=.type "range",data:=.fields #[.int lo t,.int hi u,.int d v] },toks:=tk }:=by
 refine wpAny_pyIter_range (IsRange.new ..) (sF hd h1 h2 h3 h4) ?_;have I1:aF X pins σ H { s with heap:=s.heap.push { cls:=.type "range",data:=.fields #[.int lo t,.int hi u,.int d v] },toks:=tk }:=I.kept fun b o e=>Heap.get?_push_of_some _ e
 refine⟨(s.heap.push { cls:=.type "range",data:=.fields #[.int lo t,.int hi u,.int d v] }).objs.size,[(s.heap.push { cls:=.type "range",data:=.fields #[.int lo t,.int hi u,.int d v] }).objs.size],_,_,H,rfl,
  I1.kept (t':=tk) fun b o e=>Heap.get?_push_of_some _ e,nA _ lo d (Builtin.Range.rangeSize lo hi d).toNat,?_,fun b hb=>?_,q⟩
 ·have e1:lo+((0:Nat):Int)*(d:Int)=lo:=by simp
  have e2:(((Builtin.Range.rangeSize lo hi d).toNat:Nat):Int)-((0:Nat):Int)=Builtin.Range.rangeSize lo hi d:=by rw[dY _ _ hd];rcases hd with rfl | rfl<;>(split<;>omega)
  show IsRangeIter _ _ (lo+((0:Nat):Int)*(d:Int)) ((((Builtin.Range.rangeSize lo hi d).toNat:Nat):Int)-((0:Nat):Int)) d
  rw[e1,e2];exact Heap.get?_push_size _ rfl
 ·have e:b=(s.heap.push { cls:=.type "range",data:=.fields #[.int lo t,.int hi u,.int d v] }).objs.size:=by simpa using hb
  subst e;exact I1.fpOk (x8 _) (I1.hok.fresh (x8 _))
theorem kM {a b c:Expr}{ta:TA}{p pos:Pos}{d:Nat}(hd:d=3\/d=4)(hg:Gl X "range")(hm:X.mg "range" = none)(ha:PA X [a,b,c] ta)(hs:starEach [a,b,c] X.env=[(false,eval a X.env),(false,eval b X.env),(false,eval c X.env)]:=by rfl)(hs2:starEach [b,c] X.env=[(false,eval b X.env),(false,eval c X.env)]:=by rfl) :
  PI X tg (.Call (.Name "range" p) [a,b,c] [] pos) (vC d ta):=by
 intro pins s σ H R I h;refine Call_ (iz I hg hm boot_range (PyProof.Rows.callWith_type1 (bK (ha pos pins s σ H _ I h) fun us s1 ⟨vs,H1,I1,r1,q1⟩=>?_) (by rw[hs,hs2]) (by rw[hs2];rfl)));obtain⟨i,j,e,⟨q1,q2,q3,q4⟩,q⟩:=q1;subst e
 cases r1 with
 | cons r rr =>
  cases rr with
  | cons r' rr =>
   cases rr with
   | cons r'' rr =>
    cases rr;obtain⟨t,rfl⟩:=r;obtain⟨t',rfl⟩:=r';obtain⟨t'',rfl⟩:=r'';exact call_range_3 (by rcases hd with rfl | rfl<;>decide) (pR hd I1 q1 q2 q3 q4 q)
end
theorem jF {lo:Int}{d n:Nat}{g:TG}{tb:TS}{D:gH}{σ:St}{H:Hp}(Pv:Nat->St->Hp->Prop)(h0:Pv 0 σ H)
  (hs:∀ i σ H,i<n->Pv i σ H->g (.int (lo+(i:Nat)*(d:Int))) σ H fun σ2 H2=>tb { D with nx:=Pv (i+1),ct:=Pv (i+1),bk:=D.nx } σ2 H2) (hd:∀ σ H,Pv n σ H->D.nx σ H) :
  ∃ W:Nat->Nat->St->Hp->Prop,(∃ m,W 0 m σ H)/\∀ i m σ H,W i m σ H ->
   ((o9 lo d n).stop i H/\D.nx σ H)\/((o9 lo d n).go i H/\∃ N:St->Hp->Prop,(∀ σ' H',N σ' H'->∃ m',m'<m/\W (i+1) m' σ' H')/\∀ x H',(o9 lo d n).yld i H x H'->g x σ H' fun σ2 H2=>tb { D with nx:=N,ct:=N,bk:=D.nx } σ2 H2):=by
 refine⟨fun i m σ H=>m=n-i/\i<=n/\Pv i σ H,⟨n,by simp,yT _,h0⟩,?_⟩;rintro i m σ H ⟨rfl,hi,p⟩
 by_cases hlt:i<n
 ·refine .inr ⟨hlt,Pv (i+1),fun σ' H' p'=>⟨n-(i+1),by omega,rfl,hlt,p'⟩,fun x H' y=>?_⟩
  obtain⟨e,y⟩:=y;subst e y;exact hs i σ _ hlt p
 ·have e:i=n:=by omega
  subst e;exact .inl ⟨x8 _,hd σ H p⟩
end L2
set_option maxHeartbeats 8000000
namespace Wz
open PySem L2
def oq (z:Str):Option Int:=if 1<=z.length/\z.length<=12/\(∀ c∈aK z,gi c=true)/\¬ ((aK z).head? = some 48/\aK z≠[48]) then some (numV ((aK z).map (· - 48))) else none
theorem sD (z:Str):rdNum z=oq z:=by
 unfold oq
 by_cases h:∃ ds,Num z ds
 ·have h2:1<=z.length/\z.length<=12/\(∀ c∈aK z,gi c=true)/\¬ ((aK z).head? = some 48/\aK z≠[48]):=(eK z).mp h
  rw[ym h2];obtain⟨ds,N⟩:=h;rw[qY N]
  have e:(aK z).map (· - 48)=ds:=by
   unfold aK;rw[N.eq,y6]
   have:((· - 48) ∘ (·+48):Nat->Nat)=id:=funext fun x=>by show x+48-48=x;omega
   rw[this,List.map_id]
  rw[e]
 ·have h2:¬ (1<=z.length/\z.length<=12/\(∀ c∈aK z,gi c=true)/\¬ ((aK z).head? = some 48/\aK z≠[48])):=fun q=>h ((eK z).mpr q)
  rw[yf h2,tm (fun ds q=>h ⟨ds,q⟩)]
def nZ (l:List Nat):Option (Int×List Nat):=(oq (toS (bL l))).map fun n=>(n,l.drop (bL l).length)
theorem n9:numAt=nZ:=funext fun l=>by unfold numAt nZ;rw[sD]
def mx:Nat->List Nat->Option (aB×List Nat)
 | 0,_=>none
 | d+1,l =>
  if l.head? = some 40 then
   (if toS (bL (l.drop 1))="row"\/toS (bL (l.drop 1))="back" then (bf (mx d) (((l.drop 1).drop (bL (l.drop 1)).length).length+1) ((l.drop 1).drop (bL (l.drop 1)).length)).bind fun q=>(dL (toS (bL (l.drop 1))) q.1).map fun f=>(f,q.2)
   else (bf nZ (((l.drop 1).drop (bL (l.drop 1)).length).length+1) ((l.drop 1).drop (bL (l.drop 1)).length)).bind fun q=>(bQ (toS (bL (l.drop 1))) q.1).map fun f=>(f,q.2))
  else if dD (toS (bL l))=true then some (.name (toS (bL l)),l.drop (bL l).length) else none
theorem my:∀ d,figM d=mx d
 | 0=>funext fun l=>by rw[figM,mx]
 | d+1=>funext fun l=>by rw[figM,mx,my d,n9]
def qw (z:Str):Bool:=match mx 8 (aK z) with
 | some (_,[])=>false
 | _=>true
theorem qf {z:Str}(h:qw z=true):∀ f,figM 8 (aK z)≠some (f,[]):=fun f e=>by
 unfold qw at h;rw[my 8]at e;rw[e]at h;cases h
def jB:List Str:=[""," ","(",")","()","(pair)","(pair 1)","(pair 1 2 3)","(pair 1 2","pair 1 2)","pair 1 2"]
def kZ:List Str:=["(pair 1  2)","( pair 1 2)","(pair 1 2 )"," (pair 1 2)","(pair 1 2) ","(pair 01 2)"]
def mq:List Str:=["(pair -1 2)","(pair +1 2)","(pair 1 2.0)","(pair 1000000000000 2)","(pair 1,2)","(pair a b)"]
def nG:List Str:=["(line 1)","(star 1)","(all 1)","(quad 1 2 3)","(quad 1 2 3 4 5)","(quad 1 2 3 1)","(row)"]
def pe:List Str:=["(back)","(back hey hey)","(row 1 2)","(back 1)","(line hey hey)","(name hey)","(hey)"]
def qd:List Str:=["row","name","pair","hey hey","Hey","hey1","hey_","abcdefghijklm","hey)","(hey","hey\n"]
def rQ:List Str:=["(pair 1 2)\n","(pair 1 2)(pair 3 4)","(pair 1 2) (pair 3 4)","((pair 1 2))","(row (pair 1 2)hey)"]
def ue:List Str:=["(row hey(pair 1 2))","(row hey  hey)","(PAIR 1 2)","(pair\n1 2)","(pair 1 2))"]
def vv:List Str:=["(back(back hey))","(pair 1 2(","(row hey(","(row hey (row hey(","(pair 1 2 ","(row hey "]
def qe:List Str:=((((((((jB++kZ)++mq)++nG)++pe)++qd)++rQ)++ue)++vv)
def nH:List Str:=qe++[Str.ofString "(line"++Txt.mul (Str.ofString " 1 2") ((30:Nat):Int)++Str.ofString " 3)",Str.ofString "(row"++Txt.mul (Str.ofString " hey") ((61:Nat):Int)++Str.ofString ")",Txt.mul (Str.ofString "(back ") ((8:Nat):Int)++Str.ofString "hey"++Txt.mul (Str.ofString ")") ((8:Nat):Int),Txt.mul (Str.ofString "(back ") ((7:Nat):Int)++Str.ofString "(row hey)"++Txt.mul (Str.ofString ")") ((7:Nat):Int),Txt.mul (Str.ofString "(row ") ((40:Nat):Int)++Str.ofString "hey"++Txt.mul (Str.ofString ")") ((40:Nat):Int)]
theorem qg:nH.all (fun z=>qw z&&z.cps.all (· < 128)&&decide (z.length<=1000))=true:=by decide +kernel
theorem uf {z:Str}(h:z∈nH):(∀ f,figM 8 (aK z)≠some (f,[]))/\jd z/\z.length<=1000:=by
 have:=yz.mp qg z h;rw[yG,yG]at this;exact⟨qf this.1.1,this.1.2,yI this.2⟩
theorem cX {x y:Str}(h1:jd x)(h2:jd y):jd (x++y):=io fun c hc=>by
 have hc:c∈aK (x++y):=hc;rw[cO]at hc;rcases yL.mp hc with z | z
 ·exact kW h1 c z
 ·exact kW h2 c z
theorem rN {z:Str}(h:jd z)(lo hi:Option Int):jd (iq z lo hi):=io fun c hc=>by
 have hc:c∈aK (iq z lo hi):=hc;have hc:c∈aK (toS (((aK z).drop (HT.sIx z.length 0 lo)).take (HT.sIx z.length z.length hi-HT.sIx z.length 0 lo))):=hc;rw[cI]at hc;exact kW h c (List.mem_of_mem_drop (List.mem_of_mem_take hc))
theorem bN (x y:Str):(x++y).length=x.length+y.length:=strLen_append x y
inductive sG (K:PySem.W.Frag) (vs:List V) (H:Hp) (Q:VK) (E_:XK):Prop
 | mk (q:Addr) (lo hi:Int) (gs:List Int) (h_0:vs=[.ref q,.int lo,.int hi]) (h_1:H q=some (.tup (gs.map V.int))) (h_2:lo<=gs.length) (h_3:(gs.length:Int)<=hi) (h_4:∀ g∈gs,mh g) (h_5:gs.length<=100) (h_6:∀ H',aG H H'->Q (.bl true) H'):sG K vs H Q E_
inductive pT (n:Nat) (vs:List V) (H:Hp) (Q:VK) (E_:XK):Prop
 | mk (p:Addr) (f:aB) (d:Nat) (h_0:vs=[.ref p,.int d]) (h_1:bA n H p f) (h_2:aB.Good n f) (h_3:d+n<=9) (h_4:∀ H',aG H H'->Q (.bl true) H'):pT n vs H Q E_
inductive oY (vs:List V) (H:Hp) (Q:VK) (E_:XK):Prop
 | mk (h_0:vs=[]) (h_1:∀ (l:Addr)(H':Hp),aG H H'->H' l=some (.lst (nH.map V.str))->Q (.ref l) H'):oY vs H Q E_
inductive ju (vs:List V) (H:Hp) (Q:VK) (E_:XK):Prop
 | mk (z:Str) (c:Int) (h_0:vs=[.str z,.int c]) (h_1:jd z) (h_2:1<=z.length) (h_3:z.length<=150000) (h_4:∀ z',jd z'->z'.length<=150001->Q (.str z') H):ju vs H Q E_
inductive js (vs:List V) (H:Hp) (Q:VK) (E_:XK):Prop
 | mk (w:Str) (h_0:vs=[.str w]) (h_1:dD w=true) (h_2:∀ H',aG H H'->Q (.bl true) H'):js vs H Q E_
end Wz
namespace L2
open PySem PySem.Spec PyProof.Rows
theorem sB {X:Cx}(i:Nat){x:Str}{es:List Expr}{ta:TA}{p1 p2 p3:Pos}{rest:List Stmt}{u:TS}(hN:X.N.Nodup)(h1:QA X es ta)(hr:sU X rest u)(hi:X.N[i]? = some x:=by rfl)(hx:qa X.env.scope x:=by first | exact Or.inl rfl | exact Or.inr rfl)
  (hf:X.fn x=true\/X.env.scope.names.lookup x=some .local:=by first | exact .inl rfl | exact .inr rfl | assumption) :
  sU X (.Assign [.Name x p1] (.List es p2) p3::rest) (sM (rm (uU ta) (gh i)) u) :=
 ⟨ae (aZ i hN (d6 h1.h) hi hx oy hf) hr.h⟩
theorem dX {X:Cx}(i:Nat){x:Str}{es:List Expr}{ta:TA}{p1 p2 p3 p4 p5:Pos}{rest:List Stmt}{u:TS}(hN:X.N.Nodup)(h1:QA X es ta)(hv:PE X (.Name x p4) (nv i))(hr:sU X rest u)(hi:X.N[i]? = some x:=by rfl)(hx:qa X.env.scope x:=by first | exact Or.inl rfl | exact Or.inr rfl)
  (hf:X.fn x=true\/X.env.scope.names.lookup x=some .local:=by first | exact .inl rfl | exact .inr rfl | assumption) :
  sU X (.Assign [.Name x p1] (.BinOp (.Name x p4) .Add (.List es p2) p5) p3::rest) (sM (rm (wf sC (nv i) (uU ta)) (gh i)) u) :=
 ⟨ae (aZ i hN (ai uH hv (d6 h1.h)) hi hx rfl hf) hr.h⟩
theorem j5 {X:Cx}{st:Stmt}{t u:TS}{rest:List Stmt}(h:PS X st t)(hr:sU X rest u):sU X (st::rest) (sM t u):=⟨ae h hr.h⟩
theorem sA {X:Cx}{st:Stmt}{t:TS}(h:PS X st t):sU X [st] t:=⟨ah h⟩
end L2
namespace Wz
open PySem L2
theorem de {H G:Hp}{l a:Addr}{xs ys:List Str}{Q':VK}(s:aG H G)(hG:G l=some (.lst (xs.map V.str)))(ha:G a=none)(hl:xs.length+ys.length<=1000)(k:∀ (p:Addr)(G':Hp),H p=none->aG H G'->G' p=some (.lst ((xs++ys).map V.str))->Q' (.ref p) G'):sC (.ref l) (.ref a) (bE G a (.lst (ys.map V.str))) Q':=by
 have s1:=ag (o:=.lst (ys.map V.str)) ha;refine⟨l,a,_,_,rfl,rfl,s1 _ _ hG,af,by rw[x4,x4,yK];omega,fun p hp=>k p _ ?_ ((s.trans s1).trans (ag hp)) (by rw[af,yk])⟩
 cases e:H p with
 | none=>rfl
 | some o =>
  have:=(s.trans s1) _ _ e;rw[hp]at this;cases this
theorem fT {H G:Hp}{l:Addr}{xs:List Str}{y:Str}{Q':VK}(s:aG H G)(n:H l=none)(m:G l=some (.lst (xs.map V.str)))(hl:xs.length<=1000)(k:∀ (G':Hp),aG H G'->G' l=some (.lst ((xs++[y]).map V.str))->Q' .non G'):lR (.ref l) [.str y] G Q' :=
 ⟨l,_,_,rfl,rfl,m,by rw[x4,yK];omega,k _ (cE s n) (by rw[af,yk];rfl)⟩
theorem ph {a b c d e:Str}:((((qe++[a])++[b])++[c])++[d])++[e]=qe++[a,b,c,d,e]:=by
 rw[y7,y7,y7,y7];rfl
theorem fU (z:Str)(lo hi:Option Int):(iq z lo hi).length<=HT.sIx z.length z.length hi-HT.sIx z.length 0 lo:=by
 rw[bH,show aK (iq z lo hi)=_ from cI _,yM];exact Nat.min_le_left _ _
theorem sN {n:Nat}{f:aB}(h:aB.Good n f):1<=f.txt.length:=by
 cases n with
 | zero=>cases f<;>exact absurd h (by intro z;cases z)
 | succ n =>
  cases f with
  | name w =>
   have:=jR h;rw[aB.txt,<-bH];omega
  | pl p=>rw[aB.txt];exact Nat.le_add_left 1 _
  | row fs=>rw[aB.txt];exact Nat.le_add_left 1 _
  | back f=>rw[aB.txt];exact Nat.le_add_left 1 _
end Wz
namespace L2
open PySem PySem.Spec PyProof.Rows
inductive qW (K:PySem.W.Frag) (x y:V) (H:Hp) (Q:VK):Prop
 | str (i j:Str) (h_0:x=.str i) (h_1:y=.str j) (h_2:Q (.bl (!decide (V.str i=V.str j))) H):qW K x y H Q
 | tup (a:Addr) (xs:List V) (j:Str) (h_0:x=.ref a) (h_1:y=.str j) (h_2:bw K H a xs) (h_3:Q (.bl true) H):qW K x y H Q
theorem lK {X:Cx}(n:Nat)(hu:X.A.units+n<cLine):gq X (compareOp .NotEq) (qW X.K):=by
 intro pins s σ H x y v u Q I rx ry h
 cases h with
 | str i j e1 e2 q =>
  subst e1 e2;exact i9 pins s σ H _ _ v u Q I rx ry ⟨rfl,q⟩
 | tup a xs j e1 e2 q k =>
  subst e1 e2;cases rx;obtain⟨t,rfl⟩:=ry;obtain⟨_,_,p,_⟩:=I.tuple q;exact SeqAt.RcNeAt.tuple_str j t p (by omega) _ _ _ _ ⟨.bl true,H,I,rfl,k⟩
end L2
namespace Wz
open PySem L2
theorem rB {z:Str}{l:List Nat}(h:aK z=l):toS l=z:=by
 subst h;cases z;unfold toS aK;simp
end Wz
namespace Wk46
open PySem L2 Wz
def ig (i:Nat):Stmt:=PySem.Challenge.pw_lastwaltz_k46_texts_that_are_no_figures.main.body.getD i (.Pass ⟨0,0,0,0⟩)
structure Txt (mg:Str->Option Value):Prop where
 len:mg "len" = none
 range:mg "range" = none
 isinstance:mg "isinstance" = none
 tuple:mg "tuple" = none
 list:mg "list" = none
 int:mg "int" = none
 bool:mg "bool" = none
 all:mg "all" = none
 any:mg "any" = none
 sorted:mg "sorted" = none
 reversed:mg "reversed" = none
 bset:mg "set" = none
 bmin:mg "min" = none
 bmax:mg "max" = none
 dict:mg "dict" = none
 zip:mg "zip" = none
 enumerate:mg "enumerate" = none
 sum:mg "sum" = none
 str:mg "str" = none
section
variable {P:Program}{w:World}{K:PySem.W.Frag}{mg:Str->Option Value}{base:Heap}{c:HX}{co cq ck f P0 P1 cB cT kd cL cF cs:Addr}{qz:qb}{lp:Pos}{ql:Str}{fd:FuncData}
abbrev eV:Stmt:=ig 7
abbrev kJ:List Str:=["word"]
theorem ou:aH kJ ["word"] (aj eV):=ie
abbrev cU:Stmt:=ig 13
abbrev gj:List Str:=["word"]
theorem j8:aH gj ["word"] (aj cU):=ie
abbrev gD:Stmt:=ig 14
abbrev pJ:List Str:=["text","at","end"]
theorem gB:aH pJ ["text","at"] (aj gD):=ie
abbrev e7:Stmt:=ig 15
abbrev mJ:List Str:=["text","at","word","end","number"]
theorem dw:aH mJ ["text","at"] (aj e7):=ie
abbrev fS:Stmt:=ig 16
abbrev nY:List Str:=["text","at","read_part","parts","part"]
theorem d4:aH nY ["text","at","read_part"] (aj fS):=ie
abbrev eU:Stmt:=ig 17
abbrev mD:List Str:=["word","parts","fewest","most"]
theorem eS:aH mD ["word","parts"] (aj eU):=ie
abbrev aE:Stmt:=ig 18
abbrev lA:List Str:=["text","at","deep","word","parts"]
abbrev am:Str:=(("bracket_at" : Str)++".<locals>.")++"<lambda>"
abbrev ax:Pos:=wZ (dN aE)
theorem bM:aH lA ["text","at","deep"] (aj aE):=ie
abbrev eT:Stmt:=ig 19
abbrev mC:List Str:=["text","at","deep","word","end"]
theorem eR:aH mC ["text","at","deep"] (aj eT):=ie
abbrev dH:Stmt:=ig 20
abbrev km:List Str:=["text","figure","end"]
theorem dF:aH km ["text"] (aj dH):=ie
abbrev dG:Stmt:=ig 22
abbrev kl:List Str:=["_law_script","_law_k"]
theorem j7:aH kl ["_law_script","_law_k"] (aj dG):=ie
abbrev eZ:Stmt:=ig 23
abbrev mI:List Str:=["_law_found"]
theorem lU:aH mI ["_law_found"] (aj eZ):=ie
abbrev fQ:Stmt:=ig 24
abbrev nV:List Str:=["_law_cell"]
theorem nh:aH nV ["_law_cell"] (aj fQ):=ie
abbrev eW:Stmt:=ig 25
abbrev mE:List Str:=["_law_cell","_law_many","_law_base","_law_left","_law_row","_law_count","_law_k","_law_now"]
theorem a7:aH mE ["_law_cell","_law_many","_law_base"] (aj eW):=ie
abbrev eX:Stmt:=ig 26
abbrev mG:List Str:=["_law_k","_law_cell","_law_left","_law_turn","_law_number"]
theorem dq:aH mG ["_law_k","_law_cell"] (aj eX):=ie
abbrev fR:Stmt:=ig 27
abbrev nX:List Str:=["_law_cell","_law_letters","_law_word_here","_law_drawn"]
theorem db:aH nX ["_law_cell"] (aj fR):=ie
abbrev dy:Stmt:=ig 28
abbrev i6:List Str:=["_law_drawn","_law_many","_law_step"]
theorem dv:aH i6 ["_law_drawn"] (aj dy):=ie
abbrev cS:Stmt:=ig 29
abbrev fD:List Str:=["_law_drawn","_law_cell","_law_kind","_law_ranks_here","_law_first","_law_step","_law_guests"]
theorem cu:aH fD ["_law_drawn","_law_cell"] (aj cS):=ie
abbrev eY:Stmt:=ig 30
abbrev mH:List Str:=["_law_figure_here"]
theorem lT:aH mH ["_law_figure_here"] (aj eY):=ie
abbrev bP:Stmt:=ig 31
abbrev cY:List Str:=["_law_shelf","_law_drawn","_law_names","_law_kind","_law_many","_law_parts","_law_deep","_law_part","_law_often"]
theorem a8:aH cY ["_law_shelf","_law_drawn","_law_names"] (aj bP):=ie
abbrev cZ:Stmt:=ig 32
abbrev gR:List Str:=["_law_draws_here","_law_cell","_law_names","_law_shelf","_law_drawn"]
theorem d8:aH gR ["_law_draws_here","_law_cell","_law_names"] (aj cZ):=ie
abbrev bu:Stmt:=ig 33
abbrev cR:List Str:=["_law_figure_here","_law_kind","_law_guests"]
theorem bU:aH cR ["_law_figure_here"] (aj bu):=ie
abbrev fO:Stmt:=ig 34
abbrev nU:List Str:=["_law_text","_law_found"]
theorem dZ:aH nU ["_law_text"] (aj fO):=ie
abbrev bW:Stmt:=ig 35
abbrev dQ:List Str:=["_law_found","_law_least","_law_most"]
theorem gA:aH dQ ["_law_found","_law_least","_law_most"] (aj bW):=ie
abbrev cw:Stmt:=ig 36
abbrev fe:List Str:=["_law_word_here"]
theorem iM:aH fe ["_law_word_here"] (aj cw):=ie
abbrev bV:Stmt:=ig 37
abbrev dP:List Str:=["_law_figure_here","_law_deep","_law_kind"]
theorem dE:aH dP ["_law_figure_here","_law_deep"] (aj bV):=ie
abbrev cW:Stmt:=ig 38
abbrev jh:List Str:=["_law_bad"]
theorem aM:aH jh [] (aj cW):=ie
abbrev d9:Stmt:=ig 39
abbrev lB:List Str:=["_law_text","_law_cell","_law_place","_law_signs","_law_sign","_law_turned"]
theorem cG:aH lB ["_law_text","_law_cell"] (aj d9):=ie
abbrev ox:Stmt:=ig 40
abbrev vJ:List Str:=["_law_script","_law_cell","_law_bad","_law_first","_law_k","_law_draws_here","_law_figure_here","_law_text","_law_found"]
theorem d7:aH vJ ["_law_script"] (aj ox):=ie
variable (T:Txt mg)(UO:vj K mg w cF kd cs qz)
include T UO
theorem jU (F:ee K "is_name" "is_name" eV f fd) : bc P w K mg base gE 1 f fd ["word"] hV:=by
 refine F.ok ou (fun vs H Q E h=>?_) (fun cdv A outer s H vs Q E hr h=>?_)
 ·obtain⟨z,rfl,_⟩:=h
  rfl
 ·obtain⟨z,rfl,asc,len,k⟩:=h
  have hu:=qu hr;have sl:sizeLine=16777216:=yK
  have zl:z.length<=sizeLine:=by omega
  have hz:z.length=z.cps.toList.length:=by rw[yO];rfl
  refine⟨_,ae (aJ (PW.pt (gX (ao dA (pv 0) (gW (v:=.ref kd) (by rfl) UO.mkd rfl) rfl) (gz (cH (et dR dR (aa) (aC bS (by rfl) T.len yr (cx (pv 0))) (fG (by rfl) UO.ml)))))) (ah (ap (fF))) (aq)) (
   ah (ap (aC (dz rfl) (by rfl) T.all zf (cx (b9 (so:=aj eV) (N:=kJ) (N':=["sign"]) (src:=[none]) rfl rfl oF rfl (oi (pv 0)) (fun cl C s2 H2 ex=>⟨fJ 0 (show (["sign"]:List Str).Nodup by decide +kernel),ci,f6 iJ (pv 0) (fG (by rfl) UO.mt) rfl⟩)))))),?_⟩
  obtain⟨o,its,n,k1,k2,k3,k4,k5⟩:=UO.kd;refine⟨_,rfl,kd,kindsL.map V.str,rfl,.inr (.inr ⟨o,its,n,k1,k2,k3,k4,k5⟩),rfl,kE _,_,rfl,?_⟩;unfold dD at k;rw[show (if false=true then !nE (V.str z) (kindsL.map V.str) else nE (V.str z) (kindsL.map V.str))=decide (z∈kindsL) from gO z kindsL]
  by_cases c1:z∈kindsL
  ·rw[x5 c1]at k ⊢
   exact aI (k H (aG.refl _))
  rw[x6 c1]at k ⊢;refine au ⟨_,rfl,z,rfl,zl,_,_,rfl,rfl,_,rfl,?_⟩
  by_cases h1:1<=z.length
  ·rw[x5 (show (1:Int)<=(z.length:Int) by omega)]
   refine aI ⟨_,_,rfl,rfl,_,rfl,?_⟩
   by_cases h2:z.length<=12
   ·rw[x5 (show (z.length:Int)<=12 by omega)]
    rw[x5 (show 1<=z.length/\z.length<=12 from ⟨h1,h2⟩)]at k;refine au ⟨_,rfl,z,rfl,asc,fun q hq=>?_⟩;refine iR (f:=bI) hq (by omega) (fun c HK Q' sK kk=>?_) (fun H1 s1 hq1=>?_)
    ·refine⟨_,rfl,_,_,rfl,rfl,?_⟩
     rw[qD];exact kk HK (aG.refl _)
    refine⟨q,_,rfl,bC.of hq1,?_⟩;rw[show (z.cps.toList.map bI).all id=z.cps.toList.all bI by rw[List.all_map];rfl];exact k H1 s1
   ·rw[x6 (show ¬ (z.length:Int)<=12 by omega)]
    rw[x6 (show ¬ (1<=z.length/\z.length<=12) from fun q=>h2 q.2)]at k;exact aI (k H (aG.refl _))
  ·rw[x6 (show ¬ (1:Int)<=(z.length:Int) by omega)]
   rw[x6 (show ¬ (1<=z.length/\z.length<=12) from fun q=>h1 q.1)]at k;exact au ⟨_,rfl,aI (k H (aG.refl _))⟩
theorem jY (F:ee K "read_number" "read_number" cU f fd) : bc P w K mg base gE 1 f fd ["word"] oZ:=by
 refine F.ok j8 (fun vs H Q E h=>?_) (fun cdv A outer s H vs Q E hr h=>?_)
 ·obtain⟨z,rfl,_⟩:=h
  rfl
 ·obtain⟨z,rfl,asc,len,k1,k2⟩:=h
  have hu:=qu hr
  refine⟨_,ae (aJ (PW.pt (gX (cH (et dR dR (aa) (aC bS (by rfl) T.len yr (cx (pv 0))) (fG (by rfl) UO.md))) (gz (cH (eO (aC (dz rfl) (by rfl) T.all zf (cx (b9 (so:=aj cU) (N:=gj) (N':=["sign"]) (src:=[none]) rfl rfl oF rfl (oi (pv 0)) (fun cl C s2 H2 ex=>⟨fJ 0 (show (["sign"]:List Str).Nodup by decide +kernel),ci,f6 iJ (pv 0) (fG (by rfl) UO.dg) rfl⟩))))))))) (ah (ap (oh))) (aq)) (
   ae (aJ (PW.pt (fL (ao bz (ba lu (pv 0) (aa) (fun _ _=>rfl)) (ak) (aD _)) (eP (ao i9 (pv 0) (ak) (aD _))))) (ah (ap (oh))) (aq)) (
   ah (ap (bO pj (by rfl) T.int PyProof.Rows.boot_int (cx (pv 0)))))),?_⟩
  have sl:sizeLine=16777216:=yK
  have zl:z.length<=sizeLine:=by omega
  have hz:z.length=z.cps.toList.length:=by rw[yO];rfl
  have zz:(Str.ofString "0").cps.toList=[48]:=by decide +kernel
  refine⟨_,rfl,z,rfl,zl,_,_,rfl,rfl,_,rfl,?_⟩
  by_cases h1:1<=z.length
  ·rw[x5 (show (1:Int)<=(z.length:Int) by omega)]
   refine aI ⟨_,_,rfl,rfl,_,rfl,?_⟩
   by_cases h2:z.length<=12
   ·rw[x5 (show (z.length:Int)<=12 by omega)]
    refine au ⟨_,rfl,z,rfl,asc,fun q hq=>?_⟩;refine iR (f:=gi) hq (by omega) (fun c HK Q' sK kk=>?_) (fun H1 s1 hq1=>?_)
    ·refine⟨_,rfl,_,_,rfl,rfl,?_⟩
     rw[uh];exact kk HK (aG.refl _)
    refine⟨q,_,rfl,bC.of hq1,_,rfl,?_⟩
    by_cases h3:∀ c∈z.cps.toList,gi c=true
    ·rw[show (z.cps.toList.map gi).all id=true from yz.mpr fun b hb=>by obtain⟨c,hc,rfl⟩:=yA.mp hb;exact h3 c hc]
     obtain⟨c,l,hcl⟩:∃ c l,z.cps.toList=c::l:=by
      cases e:z.cps.toList with
      | nil=>rw[hz,e]at h1;exact absurd h1 (by decide)
      | cons c l=>exact⟨c,l,rfl⟩
     refine au ⟨_,rfl,z,_,c,rfl,rfl,zl,by rw[hcl];exact aN (j:=0) rfl,rfl,_,rfl,?_⟩;rw[rk,zz]
     show if decide ([c]=[48])=true then _ else _
     have fin:¬ (z.cps.toList.head? = some 48/\z.cps.toList≠[48])->∃ ds,Num z ds:=fun h4=>(eK z).mpr ⟨h1,h2,h3,h4⟩
     by_cases h4:c=48
     ·rw[x5 (by rw[h4])]
      refine aI ⟨_,rfl,rfl,_,rfl,?_⟩;rw[rk,zz]
      by_cases h5:z.cps.toList=[48]
      ·rw[x5 h5]
       obtain⟨ds,N⟩:=fin fun q=>q.2 h5;exact au ⟨_,rfl,z,ds,rfl,N,k1 ds H1 N s1⟩
      ·rw[x6 h5]
       exact aI (k2 (fun ds N=>((eK z).mp ⟨ds,N⟩).2.2.2 ⟨by rw[hcl,h4];rfl,h5⟩) H1 s1)
     ·rw[x6 (fun q=>h4 (List.cons.inj q).1)]
      obtain⟨ds,N⟩:=fin fun q=>h4 (by have:=q.1;rw[hcl]at this;exact yE this);exact au (au ⟨_,rfl,z,ds,rfl,N,k1 ds H1 N s1⟩)
    ·rw[show (z.cps.toList.map gi).all id=false from Bool.eq_false_iff.mpr fun q=>h3 fun c hc=>yz.mp q _ (yZ hc)]
     exact aI (k2 (fun ds N=>h3 ((eK z).mp ⟨ds,N⟩).2.2.1) H1 s1)
   ·rw[x6 (show ¬ (z.length:Int)<=12 by omega)]
    exact aI (k2 (fun ds N=>h2 ((eK z).mp ⟨ds,N⟩).2.1) H (aG.refl _))
  ·rw[x6 (show ¬ (1:Int)<=(z.length:Int) by omega)]
   exact au ⟨_,rfl,aI (k2 (fun ds N=>h1 ((eK z).mp ⟨ds,N⟩).1) H (aG.refl _))⟩
theorem jZ (F:ee K "word_at" "word_at" gD f fd) : bc P w K mg base gE 1 f fd ["text","at"] gC:=by
 refine F.ok gB (fun vs H Q E h=>?_) (fun cdv A outer s H vs Q E hr h=>?_)
 ·obtain⟨z,a,rfl,_⟩:=h
  rfl
 ·obtain⟨z,a,rfl,zl,al,k⟩:=h
  have sl:sizeLine=16777216:=yK
  have two:(2:Nat)<=sizeLine:=by decide
  have zl2:z.length<=sizeLine:=by omega
  refine⟨_,ae (aZ 2 gB.nd (pv 1)) (
   ae (mY zh (PW.pt (fL (ao kL (pv 2) (aC bS (by rfl) T.len yr (cx (pv 0))) (aD _)) (eP (ao lL (ba lu (pv 0) (pv 2) (fun _ _=>rfl)) (ak) rfl)))) (ah (uQ (i:=2) gB.nd rfl (Or.inl rfl) (aa) uu))) (
   ah (ap (bo (dI (aX b8 (pv 0) (aQ (pv 1)) (aQ (pv 2))) (pv 2)))))),?_⟩
  have hz:(aK z).length=z.length:=(bH z).symm
  have fin:∀ e:Nat,a<=e->e<=z.length->bL ((aK z).drop a)=((aK z).drop a).take (e-a)->∀ (v:Option V),wg (wk (fh (xJ uR (nv 0) (rq (nv 1)) (rq (nv 2))) (fh (nv 2) kt))) { nx:=fun x H'=>Q V.non H',rt:=Q } [some (.str z),some (.int a),some (.int e)] H:=fun e h1 h2 h3 _=>by
   refine⟨_,rfl,_,rfl,_,rfl,_,rfl,_,rfl,z,rfl,zl2,_,rfl,two,fun t ht=>?_⟩;have:=k t ht;rw[h3,yM,yn,hz,zg (by omega),show a+(e-a)=e by omega]at this;rw[rR z h2];exact this
  refine⟨_,rfl,?_⟩;refine⟨fun m σ H'=>∃ e:Nat,σ=[some (.str z),some (.int a),some (.int e)]/\H'=H/\a<=e/\e<=z.length/\m=z.length-e/\bL ((aK z).drop a)=((aK z).drop a).take (e-a)++bL (((aK z).drop a).drop (e-a)),⟨_,a,rfl,rfl,x8 _,al,rfl,by rw[Nat.sub_self];rfl⟩,?_⟩;rintro m σ H' ⟨e,rfl,rfl,h1,h2,rfl,h3⟩;refine⟨_,rfl,_,rfl,z,rfl,zl2,_,_,rfl,rfl,_,rfl,?_⟩
  by_cases lt:e<z.length
  ·rw[x5 (show (e:Int)<(z.length:Int) by omega)]
   have hc:(aK z)[e]? = some (aK z)[e]:=List.getElem?_eq_getElem (by omega)
   have hc2:((aK z).drop a)[e-a]? = some (aK z)[e]:=by rw[List.getElem?_drop,show a+(e-a)=e by omega];exact hc
   refine aI ⟨_,rfl,_,rfl,z,e,(aK z)[e],rfl,rfl,zl2,aN (j:=e) hc,_,_,rfl,rfl,_,rfl,?_⟩;rw[uT]
   cases hs:jJ (aK z)[e] with
   | true=>exact au (fin e h1 h2 (sP h3 hc2 hs) none)
   | false =>
    refine aI ⟨fun σ' H'=>∃ m',m'<z.length-e/\_,fun _ _ q=>q,_,rfl,_,_,rfl,rfl,z.length-(e+1),by omega,e+1,rfl,rfl,by omega,by omega,rfl,?_⟩;rw[show e+1-a=e-a+1 by omega];exact sO h3 hc2 hs
  ·rw[x6 (show ¬ (e:Int)<(z.length:Int) by omega)]
   exact au (au (fin e h1 h2 (u8 h3 (by rw[yn];omega)) none))
theorem lJ (F:ee K "number_at" "number_at" e7 f fd)(Cword_at:aA P w K mg base "word_at" 1 ["text","at"] gC)(Cread_number:aA P w K mg base "read_number" 1 ["word"] oZ) : bc P w K mg base (ij P w) 2 f fd ["text","at"] (rh P0 lp ql cF (fun _=>True) numAt vh):=by
 refine F.okX dw (fun vs H Q E h=>?_) (fun cdv A outer s H vs Q E hr h=>?_)
 ·obtain⟨z,a,rfl,_⟩:=h
  rfl
 ·obtain⟨z,a,rfl,asc,zl,al,_,tI,k1,k2⟩:=h
  have two:(2:Nat)<=sizeLine:=by decide
  refine⟨_,ae (fK (aW Cword_at hr.m rfl (dI (pv 0) (pv 1))) (fI rfl (bh (fJ 2 dw.nd) (bh (fJ 3 dw.nd) dU)))) (
   ae (aZ 4 dw.nd (aW Cread_number hr.m rfl (cx (pv 2)))) (
   ae (aJ (qU (uJ (pv 4))) (ah (da UO.eF c8 rfl hr.hd rfl UO.mF (jo (dW ak (dW (lN (pv 1)) lQ))))) (aq)) (
   ah (ap (bo (dI (pv 4) (pv 3))))))),?_⟩
  refine⟨_,rfl,_,rfl,z,a,rfl,zl,al,fun t ht=>?_⟩;have s1:=ag (o:=.tup [.str (toS (bL ((aK z).drop a))),.int ((a+(bL ((aK z).drop a)).length:Nat):Int)]) ht;have wp:=oC al;have ea:numAt ((aK z).drop a)=(rdNum (toS (bL ((aK z).drop a)))).map fun n=>(n,((aK z).drop a).drop (bL ((aK z).drop a)).length):=rfl;refine⟨t,_,rfl,bw.of af,rfl,_,_,rfl,_,_,rfl,rfl,?_⟩;refine⟨_,rfl,_,rfl,qc asc a,by rw[c6];omega,fun ds H2 N s2=>?_,fun no H2 s2=>?_⟩
  ·rw[qY N]at ea
   refine⟨_,rfl,_,rfl,au ⟨_,rfl,_,rfl,two,fun t2 ht2=>?_⟩⟩;have s12:=(s1.trans s2).trans (ag (o:=.tup [.int (numV ds),.int ((a+(bL ((aK z).drop a)).length:Nat):Int)]) ht2);exact k1 _ _ ea t2 (.int (numV ds)) _ (cC s12) (tI.same s12) (by rw[af,wp.1]) rfl
  ·rw[tm no]at ea
   exact⟨_,rfl,_,rfl,aI ⟨_,rfl,by decide,_,rfl,a,rfl,iE (by omega),fun y hy=>⟨y,rfl,hy,fun x=>k2 ea H2 (cC (s1.trans s2)) (tI.same (s1.trans s2))⟩⟩⟩
theorem i8 (F:ee K "parts_at" "parts_at" fS f fd){α:Type}{J:Hp->Prop}{R:List Nat->Option (α×List Nat)}{At:Hp->V->α->Prop}{fl:Addr}{fdl:FuncData}{ol:Obj}{lv:Nat}{pa pb:Str}(hJ:∀ H H',J H->GL H H'->J H')(hAt:∀ H H' v x,At H v x->GL H H'->At H' v x)(shr:ud R)(LA:bc P w K mg base (ij P w) lv fl fdl [pa,pb] (rh P0 lp ql cF J R At))(lob:base.get? fl=some ol)(lod:ol.data=.func fdl)(lbi:∀ (s:Shared)(us:List Value),us.length=([pa,pb]:List Str).length->BindsTo s fdl ⟨us,[]⟩ (([pa,pb]:List Str).zip us)):bc P w K mg base (ij P w) (lv+1) f fd ["text","at","read_part"] (ni P0 lp ql cF fl J R At):=by
 refine F.okX d4 (fun vs H Q E h=>?_) (fun cdv A outer s H vs Q E hr h=>?_)
 ·obtain⟨z,a,rfl,_⟩:=h
  rfl
 ·obtain⟨z,a,rfl,asc,zl,al,j0,tI,k1,k2⟩:=h
  have two:(2:Nat)<=sizeLine:=by decide
  have sl:sizeLine=16777216:=yK
  have zl2:z.length<=sizeLine:=by omega
  refine⟨_,ae (aZ 3 d4.nd (d6 bn)) (
   ae (mY PassesOwn.leaving (ao bz (aX b8 (pv 0) (aQ (pv 1)) (aQ (ai aV (pv 1) (aa)))) (ak) (aD _)) (ae (fK (qQ (i:=2) LA (hr.mono (by omega)) rfl (Or.inl rfl) lob lod lbi fZ (dI (pv 0) (ai aV (pv 1) (aa)))) (fI rfl (bh (fJ 4 d4.nd) (bh (fJ 1 d4.nd) dU)))) (
   ah (cg (ek yx yB yC bD (pv 3) (cx (pv 4))))))) (
   ae (aJ (ao i9 (aX b8 (pv 0) (aQ (pv 1)) (aQ (ai aV (pv 1) (aa)))) (ak) (aD _)) (ah (da UO.eF c8 rfl hr.hd rfl UO.mF (jo (dW ak (dW (lN (pv 1)) lQ))))) (aq)) (
   ah (ap (bo (dI (bO cA (by rfl) T.tuple yQ (cx (pv 3))) (ai aV (pv 1) (aa)))))))),?_⟩
  have hz:(aK z).length=z.length:=(bH z).symm;refine⟨yT _,fun lq hlq=>?_⟩;have s1:=ag (o:=.lst []) hlq;refine⟨fun m σ H'=>∃ (e:Nat)(vs:List V)(xs:List α)(fu:Nat)(v4:Option V),σ=[some (.str z),some (.int e),some (.ref fl),some (.ref lq),v4]/\GK H H'/\TabI H' P0 lp ql/\J H'/\H' lq=some (.lst vs)/\Paired (At H') vs xs/\e<=z.length/\m=z.length-e/\z.length-e<fu/\vs.length<=e/\bf R (((aK z).drop a).length+1) ((aK z).drop a)=(bf R fu ((aK z).drop e)).map fun q=>(xs++q.1,q.2),⟨_,a,[],[],((aK z).drop a).length+1,none,rfl,cC s1,tI.same s1,hJ _ _ j0 (oK (cC s1)),af,.nil,al,rfl,by rw[yn,hz];omega,yT _,by show _=Option.map (fun q=>q) _;rw[Option.map_id']⟩,?_⟩;rintro m σ H2 ⟨e,vs,xs,fu,v4,rfl,g2,t2,j2,h2,pr,el,rfl,fl2,vl,pm⟩;refine⟨_,rfl,_,rfl,_,rfl,_,rfl,_,_,rfl,rfl,_,rfl,z,rfl,zl2,rfl,_,rfl,?_⟩;rw[k6,ri,lf];obtain⟨fu,rfl⟩:∃ n,fu=n+1:=⟨fu-1,by omega⟩
  by_cases hd:((aK z).drop e).head? = some 32
  ·rw[x5 hd]
   have elt:=lh hd;refine aI ⟨fun σ' H'=>∃ m',m'<z.length-e/\_,fun _ _ q=>q,?_⟩;refine⟨rfl,_,rfl,_,rfl,_,_,rfl,rfl,z,e+1,by rw[zE];rfl,asc,zl,by omega,j2,t2,fun x r hr t v H5 g5 t5 ht av=>?_,fun hr H5 g5 t5=>?_⟩
   ·rw[<-yV]at hr
    refine⟨t,_,rfl,bw.of ht,rfl,_,_,rfl,_,_,rfl,rfl,?_⟩;have h5:=g5.lst h2;refine⟨_,rfl,.inl ⟨rfl,_,bC.of h5⟩,_,rfl,lq,_,_,rfl,rfl,h5,by omega,?_⟩;have g6:=uo (o:=.lst (vs++[v])) h5;obtain⟨k,hk⟩:=shr _ _ _ hr
    have rl:r.length<=z.length-(e+1):=by
     rw[hk,yV,yV,yn,hz];omega
    refine⟨z.length-(z.length-r.length),by omega,z.length-r.length,vs++[v],xs++[x],fu,_,rfl,ul (g2.trans g5) hlq,Wz.TabI.put t5 h5,hJ _ _ (hJ _ _ j2 (oK g5)) g6,af,cD (Paired.mapP pr fun _ _ q=>hAt _ _ _ _ (hAt _ _ _ _ q (oK g5)) g6) (.cons (hAt _ _ _ _ av g6) .nil),by omega,rfl,by omega,by rw[yb,yF];omega,?_⟩;rw[pm,qM hd hr,Option.map_map,show (aK z).drop (z.length-r.length)=r by rw[<-hz];rw[yV]at hk;exact pp hk]
    congr 1
    funext q
    show (xs++(x::q.1),q.2)=((xs++[x])++q.1,q.2)
    rw[y7];rfl
   ·rw[<-yV]at hr
    refine k2 (by rw[pm,qN hd hr];rfl) H5 (g2.trans g5) t5
  ·rw[x6 hd]
   refine au ⟨_,rfl,_,rfl,_,rfl,_,rfl,_,_,rfl,rfl,_,rfl,z,rfl,zl2,rfl,_,rfl,?_⟩;rw[k6,rj,lf]
   by_cases hd2:((aK z).drop e).head? = some 41
   ·rw[x5 hd2]
    have elt:=lh hd2;refine au ⟨_,rfl,lq,_,rfl,.inl ⟨bC.of h2,fun q hq=>⟨_,rfl,_,_,rfl,rfl,two,fun t ht=>?_⟩⟩⟩;have w1:=ag (o:=.tup vs) hq;have w2:=ag (o:=.tup [.ref q,.int ((e:Int)+1)]) ht;have w12:=cC (w1.trans w2);refine k1 xs (((aK z).drop e).drop 1) (by rw[pm,pN hd2];show some (xs++[],_)=_;rw[zp]) t q vs _ (g2.trans w12) (t2.same (w1.trans w2)) (by rw[af,yn,yn,hz,show (z.length-(z.length-e-1):Nat)=e+1 by omega,zE];rfl) (w2 _ _ af) (Paired.mapP pr fun _ _ y=>hAt _ _ _ _ y (oK w12))
   ·rw[x6 hd2]
    exact aI ⟨_,rfl,by decide,_,rfl,e,rfl,iE (by omega),fun y hy=>⟨y,rfl,hy,fun x=>k2 (by rw[pm,pM hd hd2];rfl) H2 g2 t2⟩⟩
theorem lC (F:ee K "figure_of" "figure_of" eU f fd){dd:Nat}:bc P w K mg base (ij P w) 1 f fd ["word","parts"] (kc cF dd):=by
 refine F.okX eS (fun vs H Q E h=>?_) (fun cdv A outer s H vs Q E hr h=>?_)
 ·rcases h with ⟨w,q,ps,fs,rfl,_⟩ | ⟨w,q,gs,rfl,_⟩<;>rfl
 ·have two:(2:Nat)<=sizeLine:=by decide
  have sl:sizeLine=16777216:=yK
  refine⟨_,ae (aJ (qU (pO UO.sz (pv 0) (gW (v:=.ref cs) (by rfl) UO.ms rfl))) (ah (da UO.eF c8 rfl hr.hd rfl UO.mF (ak))) (aq)) (
   ae (fK (uN UO.sz (gW (v:=.ref cs) (by rfl) UO.ms rfl) (pv 0) (fun _ _=>rfl)) (fI rfl (bh (fJ 2 eS.nd) (bh (fJ 3 eS.nd) dU)))) (
   ae (aJ (cH (et dR dR (pv 2) (aC aS (by rfl) T.len yr (cx (pv 1))) (pv 3))) (ah (da UO.eF c8 rfl hr.hd rfl UO.mF (jo (dW ak (dW (uM (pv 0)) lQ))))) (aq)) (
   ae (aJ (PW.pt (fL (ao bz (pv 0) (ak) (aD _)) (eP (ao kL (aC kA (by rfl) T.len yr (cx (bO (kC rfl) (by rfl) T.bset PyProof.Rows.boot_set (cx (pv 1))))) (aa) (aD _))))) (ah (da UO.eF c8 rfl hr.hd rfl UO.mF (ak))) (aq)) (
   ae (aJ (ao bz (pv 0) (ak) (aD _)) (ah (ap (bo (mW (ak) (ba bB (pv 1) (aa) (fun _ _=>rfl)) (ba bB (pv 1) (aa) (fun _ _=>rfl)))))) (aq)) (
   ae (aJ (ao bz (pv 0) (ak) (aD _)) (ah (ap (bo (dI (ak) (ba bB (pv 1) (aa) (fun _ _=>rfl)))))) (aq)) (
   ah (ap (bo (dI (pv 0) (pv 1)))))))))),?_⟩
  rcases h with ⟨w,q,ps,fs,rfl,hw,hq,pr,fl,k1,k2⟩ | ⟨w,q,gs,rfl,hw,hq,gl,wl,k1,k2⟩
  ·have pl:=zj pr
   rcases hw with rfl | rfl
   ·refine⟨_,rfl,_,rfl,_,rfl,?_⟩
    rw[v0];refine au ⟨_,rfl,_,qz.q6,rfl,v0 qz,?_⟩;refine⟨qz.q6,_,rfl,UO.t6.sq H,rfl,_,_,rfl,_,_,rfl,rfl,?_⟩;refine⟨_,rfl,_,rfl,q,_,rfl,.inr (bw.of hq),_,_,rfl,rfl,_,rfl,?_⟩;rw[x4,pl]
    by_cases c:1<=fs.length/\fs.length<=60
    ·rw[x5 (show (1:Int)<=((fs.length:Nat):Int) by omega)]
     refine aI ⟨_,rfl,_,_,rfl,rfl,_,rfl,?_⟩;rw[x5 (show ((fs.length:Nat):Int)<=60 by omega)];refine au ⟨_,rfl,rfl,_,rfl,?_⟩;rw[show decide (V.str (Str.ofString "row")=V.str (Str.ofString "quad"))=false by decide +kernel];refine au (au ⟨_,rfl,rfl,_,rfl,?_⟩);rw[show decide (V.str (Str.ofString "row")=V.str (Str.ofString "pair"))=false by decide +kernel];refine au ⟨_,rfl,rfl,_,rfl,?_⟩;rw[show decide (V.str (Str.ofString "row")=V.str (Str.ofString "back"))=false by decide +kernel];refine au ⟨_,rfl,_,rfl,two,fun p hp=>k1 (.row fs) (by unfold dL;rw[ym rfl,ym c]) p _ (ag hp) ⟨q,ps,af,ag hp _ _ hq,by omega,Paired.mapP pr fun _ _ z=>z.mono fun _ _ y=>ag hp _ _ y⟩⟩
    ·have nn:dL "row" fs=none:=by
      unfold dL;rw[ym rfl,yf c]
     by_cases c1:1<=fs.length
     ·rw[x5 (show (1:Int)<=((fs.length:Nat):Int) by omega)]
      refine aI ⟨_,rfl,_,_,rfl,rfl,_,rfl,?_⟩;rw[x6 (show ¬ ((fs.length:Nat):Int)<=60 by omega)];exact aI ⟨_,rfl,by decide,_,rfl,_,rfl,by decide,fun y hy=>⟨y,rfl,hy,fun x=>k2 nn H (aG.refl _)⟩⟩
     ·rw[x6 (show ¬ (1:Int)<=((fs.length:Nat):Int) by omega)]
      exact au ⟨_,rfl,aI ⟨_,rfl,by decide,_,rfl,_,rfl,by decide,fun y hy=>⟨y,rfl,hy,fun x=>k2 nn H (aG.refl _)⟩⟩⟩
   ·refine⟨_,rfl,_,rfl,_,rfl,?_⟩
    rw[v1];refine au ⟨_,rfl,_,qz.q7,rfl,v1 qz,?_⟩;refine⟨qz.q7,_,rfl,UO.t7.sq H,rfl,_,_,rfl,_,_,rfl,rfl,?_⟩;refine⟨_,rfl,_,rfl,q,_,rfl,.inr (bw.of hq),_,_,rfl,rfl,_,rfl,?_⟩;rw[x4,pl]
    by_cases c:1<=fs.length/\fs.length<=1
    ·rw[x5 (show (1:Int)<=((fs.length:Nat):Int) by omega)]
     refine aI ⟨_,rfl,_,_,rfl,rfl,_,rfl,?_⟩;rw[x5 (show ((fs.length:Nat):Int)<=1 by omega)];refine au ⟨_,rfl,rfl,_,rfl,?_⟩;rw[show decide (V.str (Str.ofString "back")=V.str (Str.ofString "quad"))=false by decide +kernel];refine au (au ⟨_,rfl,rfl,_,rfl,?_⟩);rw[show decide (V.str (Str.ofString "back")=V.str (Str.ofString "pair"))=false by decide +kernel];refine au ⟨_,rfl,rfl,_,rfl,?_⟩;rw[show decide (V.str (Str.ofString "back")=V.str (Str.ofString "back"))=true by decide +kernel];obtain⟨f,rfl⟩:=List.length_eq_one_iff.mp (show fs.length=1 by omega);obtain⟨p0,rfl⟩:=List.length_eq_one_iff.mp (show ps.length=1 by omega)
     obtain⟨hf,_⟩:bA dd H p0 f/\True:=by cases pr with | cons hf _=>exact⟨hf,trivial⟩
     exact aI ⟨_,rfl,q,_,0,_,rfl,rfl,bw.of hq,aN (j:=0) rfl,two,fun p hp=>k1 (.back f) (by unfold dL;rw[yf (by decide +kernel)]) p _ (ag hp) ⟨p0,af,hf.mono fun _ _ y=>ag hp _ _ y⟩⟩
    ·have nn:dL "back" fs=none:=by
      unfold dL;rw[yf (by decide +kernel)]
      match fs,c with
      | [],_=>rfl
      | [f],c=>exact absurd ⟨x8 _,x8 _⟩ c
      | _::_::_,_=>rfl
     by_cases c1:1<=fs.length
     ·rw[x5 (show (1:Int)<=((fs.length:Nat):Int) by omega)]
      refine aI ⟨_,rfl,_,_,rfl,rfl,_,rfl,?_⟩;rw[x6 (show ¬ ((fs.length:Nat):Int)<=1 by omega)];exact aI ⟨_,rfl,by decide,_,rfl,_,rfl,by decide,fun y hy=>⟨y,rfl,hy,fun x=>k2 nn H (aG.refl _)⟩⟩
     ·rw[x6 (show ¬ (1:Int)<=((fs.length:Nat):Int) by omega)]
      exact au ⟨_,rfl,aI ⟨_,rfl,by decide,_,rfl,_,rfl,by decide,fun y hy=>⟨y,rfl,hy,fun x=>k2 nn H (aG.refl _)⟩⟩⟩
  ·by_cases w1:w="pair"
   ·subst w1
    refine⟨_,rfl,_,rfl,_,rfl,?_⟩;rw[vV];refine au ⟨_,rfl,_,qz.q1,rfl,vV qz,?_⟩;refine⟨qz.q1,_,rfl,UO.t1.sq H,rfl,_,_,rfl,_,_,rfl,rfl,?_⟩;refine⟨_,rfl,_,rfl,q,_,rfl,.inr (bw.of hq),_,_,rfl,rfl,_,rfl,?_⟩;rw[x4]
    by_cases c:2<=gs.length/\gs.length<=2
    ·rw[x5 (show (2:Int)<=((gs.length:Nat):Int) by omega)]
     refine aI ⟨_,rfl,_,_,rfl,rfl,_,rfl,?_⟩;rw[x5 (show ((gs.length:Nat):Int)<=2 by omega)];refine au ⟨_,rfl,rfl,_,rfl,?_⟩;rw[show decide (V.str (Str.ofString "pair")=V.str (Str.ofString "quad"))=false by decide +kernel];refine au (au ⟨_,rfl,rfl,_,rfl,?_⟩);rw[show decide (V.str (Str.ofString "pair")=V.str (Str.ofString "pair"))=true by decide +kernel]
     match gs,c,hq,k1 with
     | [a,b],_,hq,k1=>exact aI ⟨_,rfl,q,_,0,_,rfl,rfl,bw.of hq,aN (j:=0) rfl,_,rfl,q,_,1,_,rfl,rfl,bw.of hq,rfl,by show (3:Nat)<=sizeLine;decide,fun p hp=>k1 (.pl (.pair a b)) (by unfold bQ;rw[ym rfl]) p _ (ag hp) ⟨af,⟨by show 2<=2;decide,by show 2<=60;decide,fun _ _ _ _ z=>by cases z⟩⟩⟩
    ·have nn:bQ "pair" gs=none:=by
      unfold bQ;rw[ym rfl]
      match gs,c with
      | [],_=>rfl
      | [_],_=>rfl
      | [a,b],c=>exact absurd ⟨x8 _,x8 _⟩ c
      | _::_::_::_,_=>rfl
     by_cases c1:2<=gs.length
     ·rw[x5 (show (2:Int)<=((gs.length:Nat):Int) by omega)]
      refine aI ⟨_,rfl,_,_,rfl,rfl,_,rfl,?_⟩;rw[x6 (show ¬ ((gs.length:Nat):Int)<=2 by omega)];exact aI ⟨_,rfl,by decide,_,rfl,_,rfl,by decide,fun y hy=>⟨y,rfl,hy,fun x=>k2 nn H (aG.refl _)⟩⟩
     ·rw[x6 (show ¬ (2:Int)<=((gs.length:Nat):Int) by omega)]
      exact au ⟨_,rfl,aI ⟨_,rfl,by decide,_,rfl,_,rfl,by decide,fun y hy=>⟨y,rfl,hy,fun x=>k2 nn H (aG.refl _)⟩⟩⟩
   by_cases w2:w="line"
   ·subst w2
    refine⟨_,rfl,_,rfl,_,rfl,?_⟩;rw[vW];refine au ⟨_,rfl,_,qz.q2,rfl,vW qz,?_⟩;refine⟨qz.q2,_,rfl,UO.t2.sq H,rfl,_,_,rfl,_,_,rfl,rfl,?_⟩;refine⟨_,rfl,_,rfl,q,_,rfl,.inr (bw.of hq),_,_,rfl,rfl,_,rfl,?_⟩;rw[x4]
    by_cases c:2<=gs.length/\gs.length<=60
    ·rw[x5 (show (2:Int)<=((gs.length:Nat):Int) by omega)]
     refine aI ⟨_,rfl,_,_,rfl,rfl,_,rfl,?_⟩;rw[x5 (show ((gs.length:Nat):Int)<=60 by omega)];refine au ⟨_,rfl,rfl,_,rfl,?_⟩;rw[show decide (V.str (Str.ofString "line")=V.str (Str.ofString "quad"))=false by decide +kernel];refine au (au ⟨_,rfl,rfl,_,rfl,?_⟩);rw[show decide (V.str (Str.ofString "line")=V.str (Str.ofString "pair"))=false by decide +kernel];refine au ⟨_,rfl,rfl,_,rfl,?_⟩;rw[show decide (V.str (Str.ofString "line")=V.str (Str.ofString "back"))=false by decide +kernel];refine au ⟨_,rfl,_,rfl,two,fun p hp=>k1 (.pl (.line gs)) (by unfold bQ;rw[yf (by decide +kernel),yf (by decide +kernel),ym c,ym rfl]) p _ (ag hp) ⟨⟨q,af,ag hp _ _ hq⟩,⟨c.1,c.2,fun _ _ _ _ z=>by cases z⟩⟩⟩
    ·have nn:bQ "line" gs=none:=by
      unfold bQ;rw[yf (by decide +kernel),yf (by decide +kernel),yf c]
     by_cases c1:2<=gs.length
     ·rw[x5 (show (2:Int)<=((gs.length:Nat):Int) by omega)]
      refine aI ⟨_,rfl,_,_,rfl,rfl,_,rfl,?_⟩;rw[x6 (show ¬ ((gs.length:Nat):Int)<=60 by omega)];exact aI ⟨_,rfl,by decide,_,rfl,_,rfl,by decide,fun y hy=>⟨y,rfl,hy,fun x=>k2 nn H (aG.refl _)⟩⟩
     ·rw[x6 (show ¬ (2:Int)<=((gs.length:Nat):Int) by omega)]
      exact au ⟨_,rfl,aI ⟨_,rfl,by decide,_,rfl,_,rfl,by decide,fun y hy=>⟨y,rfl,hy,fun x=>k2 nn H (aG.refl _)⟩⟩⟩
   by_cases w3:w="star"
   ·subst w3
    refine⟨_,rfl,_,rfl,_,rfl,?_⟩;rw[vX];refine au ⟨_,rfl,_,qz.q3,rfl,vX qz,?_⟩;refine⟨qz.q3,_,rfl,UO.t3.sq H,rfl,_,_,rfl,_,_,rfl,rfl,?_⟩;refine⟨_,rfl,_,rfl,q,_,rfl,.inr (bw.of hq),_,_,rfl,rfl,_,rfl,?_⟩;rw[x4]
    by_cases c:2<=gs.length/\gs.length<=60
    ·rw[x5 (show (2:Int)<=((gs.length:Nat):Int) by omega)]
     refine aI ⟨_,rfl,_,_,rfl,rfl,_,rfl,?_⟩;rw[x5 (show ((gs.length:Nat):Int)<=60 by omega)];refine au ⟨_,rfl,rfl,_,rfl,?_⟩;rw[show decide (V.str (Str.ofString "star")=V.str (Str.ofString "quad"))=false by decide +kernel];refine au (au ⟨_,rfl,rfl,_,rfl,?_⟩);rw[show decide (V.str (Str.ofString "star")=V.str (Str.ofString "pair"))=false by decide +kernel];refine au ⟨_,rfl,rfl,_,rfl,?_⟩;rw[show decide (V.str (Str.ofString "star")=V.str (Str.ofString "back"))=false by decide +kernel];refine au ⟨_,rfl,_,rfl,two,fun p hp=>k1 (.pl (.star gs)) (by unfold bQ;rw[yf (by decide +kernel),yf (by decide +kernel),ym c,yf (show ¬ ("star" : Str)="line" by decide +kernel),ym rfl]) p _ (ag hp) ⟨⟨q,af,ag hp _ _ hq⟩,⟨c.1,c.2,fun _ _ _ _ z=>by cases z⟩⟩⟩
    ·have nn:bQ "star" gs=none:=by
      unfold bQ;rw[yf (by decide +kernel),yf (by decide +kernel),yf c]
     by_cases c1:2<=gs.length
     ·rw[x5 (show (2:Int)<=((gs.length:Nat):Int) by omega)]
      refine aI ⟨_,rfl,_,_,rfl,rfl,_,rfl,?_⟩;rw[x6 (show ¬ ((gs.length:Nat):Int)<=60 by omega)];exact aI ⟨_,rfl,by decide,_,rfl,_,rfl,by decide,fun y hy=>⟨y,rfl,hy,fun x=>k2 nn H (aG.refl _)⟩⟩
     ·rw[x6 (show ¬ (2:Int)<=((gs.length:Nat):Int) by omega)]
      exact au ⟨_,rfl,aI ⟨_,rfl,by decide,_,rfl,_,rfl,by decide,fun y hy=>⟨y,rfl,hy,fun x=>k2 nn H (aG.refl _)⟩⟩⟩
   by_cases w4:w="all"
   ·subst w4
    refine⟨_,rfl,_,rfl,_,rfl,?_⟩;rw[vY];refine au ⟨_,rfl,_,qz.q4,rfl,vY qz,?_⟩;refine⟨qz.q4,_,rfl,UO.t4.sq H,rfl,_,_,rfl,_,_,rfl,rfl,?_⟩;refine⟨_,rfl,_,rfl,q,_,rfl,.inr (bw.of hq),_,_,rfl,rfl,_,rfl,?_⟩;rw[x4]
    by_cases c:2<=gs.length/\gs.length<=60
    ·rw[x5 (show (2:Int)<=((gs.length:Nat):Int) by omega)]
     refine aI ⟨_,rfl,_,_,rfl,rfl,_,rfl,?_⟩;rw[x5 (show ((gs.length:Nat):Int)<=60 by omega)];refine au ⟨_,rfl,rfl,_,rfl,?_⟩;rw[show decide (V.str (Str.ofString "all")=V.str (Str.ofString "quad"))=false by decide +kernel];refine au (au ⟨_,rfl,rfl,_,rfl,?_⟩);rw[show decide (V.str (Str.ofString "all")=V.str (Str.ofString "pair"))=false by decide +kernel];refine au ⟨_,rfl,rfl,_,rfl,?_⟩;rw[show decide (V.str (Str.ofString "all")=V.str (Str.ofString "back"))=false by decide +kernel];refine au ⟨_,rfl,_,rfl,two,fun p hp=>k1 (.pl (.all gs)) (by unfold bQ;rw[yf (by decide +kernel),yf (by decide +kernel),ym c,yf (show ¬ ("all" : Str)="line" by decide +kernel),yf (show ¬ ("all" : Str)="star" by decide +kernel),ym rfl]) p _ (ag hp) ⟨⟨q,af,ag hp _ _ hq⟩,⟨c.1,c.2,fun _ _ _ _ z=>by cases z⟩⟩⟩
    ·have nn:bQ "all" gs=none:=by
      unfold bQ;rw[yf (by decide +kernel),yf (by decide +kernel),yf c]
     by_cases c1:2<=gs.length
     ·rw[x5 (show (2:Int)<=((gs.length:Nat):Int) by omega)]
      refine aI ⟨_,rfl,_,_,rfl,rfl,_,rfl,?_⟩;rw[x6 (show ¬ ((gs.length:Nat):Int)<=60 by omega)];exact aI ⟨_,rfl,by decide,_,rfl,_,rfl,by decide,fun y hy=>⟨y,rfl,hy,fun x=>k2 nn H (aG.refl _)⟩⟩
     ·rw[x6 (show ¬ (2:Int)<=((gs.length:Nat):Int) by omega)]
      exact au ⟨_,rfl,aI ⟨_,rfl,by decide,_,rfl,_,rfl,by decide,fun y hy=>⟨y,rfl,hy,fun x=>k2 nn H (aG.refl _)⟩⟩⟩
   by_cases w5:w="quad"
   ·subst w5
    refine⟨_,rfl,_,rfl,_,rfl,?_⟩;rw[vZ];refine au ⟨_,rfl,_,qz.q5,rfl,vZ qz,?_⟩;refine⟨qz.q5,_,rfl,UO.t5.sq H,rfl,_,_,rfl,_,_,rfl,rfl,?_⟩;refine⟨_,rfl,_,rfl,q,_,rfl,.inr (bw.of hq),_,_,rfl,rfl,_,rfl,?_⟩;rw[x4]
    by_cases c:4<=gs.length/\gs.length<=4
    ·rw[x5 (show (4:Int)<=((gs.length:Nat):Int) by omega)]
     refine aI ⟨_,rfl,_,_,rfl,rfl,_,rfl,?_⟩;rw[x5 (show ((gs.length:Nat):Int)<=4 by omega)];refine au ⟨_,rfl,rfl,_,rfl,?_⟩;rw[show decide (V.str (Str.ofString "quad")=V.str (Str.ofString "quad"))=true by decide +kernel]
     match gs,c,hq,k1,k2 with
     | [a,b,d,e],_,hq,k1,k2 =>
      refine aI ⟨_,rfl,q,[a,b,d,e],rfl,bw.of hq,by show 4<=1000;decide,fun l S n hl nle niff=>⟨l,S,n,rfl,af,_,_,rfl,rfl,_,rfl,?_⟩⟩;have s1:=ag (o:=.set S n) hl;have nle:n<=4:=nle;have niff:n=4↔[a,b,d,e].Nodup:=niff
      by_cases nd:[a,b,d,e].Nodup
      ·rw[niff.mpr nd]
       rw[niff.mpr nd]at s1;refine au ⟨_,rfl,rfl,_,rfl,?_⟩;rw[show decide (V.str (Str.ofString "quad")=V.str (Str.ofString "pair"))=false by decide +kernel];refine au ⟨_,rfl,rfl,_,rfl,?_⟩;rw[show decide (V.str (Str.ofString "quad")=V.str (Str.ofString "back"))=false by decide +kernel];exact au ⟨_,rfl,_,rfl,two,fun p hp=>k1 (.pl (.quad a b d e)) (by unfold bQ;rw[yf (by decide +kernel),ym rfl];show (if _ then _ else _)=_;rw[ym nd]) p _ (s1.trans (ag hp)) ⟨⟨q,af,(s1.trans (ag hp)) _ _ hq⟩,⟨by show 2<=4;decide,by show 4<=60;decide,fun _ _ _ _ z=>by cases z;exact nd⟩⟩⟩
      ·rw[x5 (show (n:Int)<4 by have h9:¬ n=4:=fun z=>nd (niff.mp z);omega)]
       exact aI (k2 (by unfold bQ;rw[yf (by decide +kernel),ym rfl];show (if _ then _ else _)=_;rw[yf nd]) _ s1)
    ·have nn:bQ "quad" gs=none:=by
      unfold bQ;rw[yf (by decide +kernel),ym rfl]
      match gs,c with
      | [],_=>rfl
      | [_],_=>rfl
      | [_,_],_=>rfl
      | [_,_,_],_=>rfl
      | [a,b,d,e],c=>exact absurd ⟨x8 _,x8 _⟩ c
      | _::_::_::_::_::_,_=>rfl
     by_cases c1:4<=gs.length
     ·rw[x5 (show (4:Int)<=((gs.length:Nat):Int) by omega)]
      refine aI ⟨_,rfl,_,_,rfl,rfl,_,rfl,?_⟩;rw[x6 (show ¬ ((gs.length:Nat):Int)<=4 by omega)];exact aI ⟨_,rfl,by decide,_,rfl,_,rfl,by decide,fun y hy=>⟨y,rfl,hy,fun x=>k2 nn H (aG.refl _)⟩⟩
     ·rw[x6 (show ¬ (4:Int)<=((gs.length:Nat):Int) by omega)]
      exact au ⟨_,rfl,aI ⟨_,rfl,by decide,_,rfl,_,rfl,by decide,fun y hy=>⟨y,rfl,hy,fun x=>k2 nn H (aG.refl _)⟩⟩⟩
   refine⟨_,rfl,_,rfl,_,rfl,?_⟩;rw[v2 w1 w2 w3 w4 w5 (fun z=>hw (.inl z)) (fun z=>hw (.inr z))];refine aI (k2 ?_ H (aG.refl _));unfold bQ;rw[yf w1,yf w5];split<;>first | rfl | (rw[yf w2,yf w3,yf w4])
theorem gU {fl c1 cy:Addr}{pm ct:Value}{d lv:Nat}(Cfigure_at:bR P w K mg base "figure_at" lv ["text","at","deep"] (fM P0 ax am cF d d (figM d)))(Lm:kv base am (r9 (dN aE)) (se (dN aE)) (qy (dN aE)) "deep" (.int ((d+1:Nat):Int)) fl c1 cy pm ct) :
  bc P w K mg base (ij P w) (lv+1) fl (PySem.W.kla_fn "<lambda>" am (r9 (dN aE)) (se (dN aE)) (qy (dN aE)) [("deep",cy)] pm (.ref c1) ct) ["source","place"] (rh P0 ax am cF (fun H=>fA H c1 am) (figM d) (wD d)):=by
 refine uA (ps:=["source","place"]) (y:="deep") ⟨rfl,rfl,rfl,by decide +kernel,by decide +kernel,by decide +kernel,fun x hx=>?_,rfl⟩ Lm (fun vs H Q E h=>?_) (fun vs H Q E h=>?_) (fun A outer s H vs Q E hr h=>?_)
 ·have hm:=y9 hx
  exact (show ∀ p∈(qy (dN aE)).names,p.2=NameKind.free->p.1="deep" by decide +kernel) _ hm rfl
 ·obtain⟨z,a,rfl,_⟩:=h
  rfl
 ·obtain⟨z,a,rfl,_,_,_,hc,_⟩:=h
  exact hc
 ·obtain⟨z,a,rfl,asc,zl,al,hc,tI,k1,k2⟩:=h
  refine⟨_,j4 Cfigure_at (hr.mono (by omega)) rfl qO (mW (pv 0) (pv 1) (ai lM (pv 2) aa)),?_⟩;refine⟨_,rfl,_,rfl,_,rfl,_,_,rfl,rfl,z,a,by rw[show (((d+1:Nat):Int)-1)=((d:Nat):Int) by omega];rfl,asc,zl,al,tI,fun f r hr t p H' g t' ht hf=>k1 f r hr t (.ref p) H' g t' ht ⟨p,rfl,hf⟩,k2⟩
theorem kn (F:ee K "bracket_at" "bracket_at" aE f fd){c0 fw fN:Addr}{fdw:FuncData}{d lv:Nat}(hco:fd.code=.ref c0)(CK:gG K c0 P0)(BK:ii mg base)(hmw:mg "parts_at" = some (.ref fw))(hkw:PySem.W.keepIn K (.ref fw)=true)(hbw:fk K fdw ["text","at","read_part"] [])(WS:∀ (b:Heap)(fl c1 cy:Addr)(vy:V)(pm ct:Value),Mod K mg b->ii mg b->kv b am (r9 (dN aE)) (se (dN aE)) (qy (dN aE)) "deep" vy fl c1 cy pm ct->bc P w K mg b (ij P w) (lv+2) fw fdw ["text","at","read_part"] (ow P0 ax am cF d fl c1 vy))(hmN:mg "number_at" = some (.ref fN))(Cparts_at:bR P w K mg base "parts_at" 3 ["text","at","read_part"] (ni P0 ax am cF fN (fun _=>True) numAt vh))(Cword_at:aA P w K mg base "word_at" 1 ["text","at"] gC)(Cfigure_of:bR P w K mg base "figure_of" 1 ["word","parts"] (kc cF d))(hlv:5<=lv):bc P w K mg base (ij P w) (lv+3) f fd ["text","at","deep"] (fM P0 ax am cF (d+1) (d+1) (brM d)):=by
 refine F.okXC bM hco (fun vs H Q E h=>?_) (fun A outer s H vs Q E hr h=>?_)
 ·obtain⟨z,a,rfl,_⟩:=h
  rfl
 ·obtain⟨z,a,rfl,asc,zl,al,tI,k1,k2⟩:=h
  have two:(2:Nat)<=sizeLine:=by decide
  refine⟨_,ae (fK (aW Cword_at (hr.mono (by omega)) rfl (dI (pv 0) (pv 1))) (fI rfl (bh (fJ 3 bM.nd) (bh (fJ 1 bM.nd) dU)))) (
   ae (aJ (ao dA (pv 3) (bo (dI (ak) (ak))) rfl) (ah (fK (mX (iy:=2) (y:="deep") WS (hr.mono (by omega)) rfl hmw hkw hbw fZ (pv 0) (pv 1) rfl CK BK rfl rfl rfl rfl rfl rfl rfl) (fI rfl (bh (fJ 4 bM.nd) (bh (fJ 1 bM.nd) dU))))) (ah (fK (j4 Cparts_at (hr.mono (by omega)) rfl fZ (mW (pv 0) (pv 1) (gW (v:=.ref fN) (by rfl) hmN rfl))) (fI rfl (bh (fJ 4 bM.nd) (bh (fJ 1 bM.nd) dU)))))) (
   ah (ap (bo (dI (j4 Cfigure_of (hr.mono (by omega)) rfl fZ (dI (pv 3) (pv 4))) (pv 1)))))),?_⟩
  refine⟨_,rfl,_,rfl,z,a,rfl,zl,al,fun t ht=>?_⟩;have wp:=oC al;have ea:brM d ((aK z).drop a)=brM d ((aK z).drop a):=rfl;have dl:((aK z).drop a).drop (bL ((aK z).drop a)).length=(aK z).drop (a+(bL ((aK z).drop a)).length):=yV
  conv at ea=>rhs;unfold brM;rw[dl]
  have s1:=ag (o:=.tup [.str (toS (bL ((aK z).drop a))),.int ((a+(bL ((aK z).drop a)).length:Nat):Int)]) ht;refine⟨t,_,rfl,bw.of af,rfl,_,_,rfl,_,_,rfl,rfl,?_⟩
  have wlen:(toS (bL ((aK z).drop a))).length<=1000000:=by rw[c6];omega
  generalize toS (bL ((aK z).drop a))=w at ea s1 wlen ⊢;generalize a+(bL ((aK z).drop a)).length=b at ea s1 wp ⊢;have bl:=wp.2;generalize bE H t (.tup [.str w,.int ((b:Nat):Int)])=H1 at s1 ⊢;refine⟨_,rfl,two,fun t2 ht2=>⟨t2,_,rfl,.inr (.inl (Rd.of af)),rfl,rfl,_,rfl,?_⟩⟩;have s2:=s1.trans (ag (o:=.tup [.str "row",.str "back"]) ht2);have tI2:=tI.same s2;rw[show (if false=true then !nE (V.str w) [V.str "row",V.str "back"] else nE (V.str w) [V.str "row",V.str "back"])=decide (w∈[("row" : Str),"back"]) from gO w ["row","back"]];generalize bE H1 t2 (.tup [.str "row",.str "back"])=H2 at s2 tI2 ⊢;have hz:(aK z).length=z.length:=(bH z).symm
  by_cases hw:w="row"\/w="back"
  ·rw[ym hw]at ea
   rw[x5 (show w∈[("row" : Str),"back"] by rcases hw with rfl | rfl<;>simp)];refine aI ⟨_,rfl,_,rfl,tI2,_,rfl,fun fl c1 H3 cf tI3 bt=>⟨rfl,z,b,rfl,asc,zl,bl,cf,tI3,fun fs r hp t3 q vs' H4 g4 t4 ht3 hq pr=>?_,fun hn H4 g4 t4=>?_⟩⟩
   ·have g24:=(cC s2).trans ((qt tI2 bt).trans g4)
    refine⟨t3,_,rfl,bw.of ht3,rfl,_,_,rfl,_,_,rfl,rfl,?_⟩;obtain⟨ps,rfl,pf⟩:=jb pr;have fl2:=iL (jq d) _ _ _ _ hp;rw[yn,hz]at fl2;rw[hp]at ea;refine⟨_,rfl,_,rfl,.figs w q ps fs rfl hw hq pf (by omega) (fun f hf p H5 s5 hF=>⟨_,rfl,two,fun t5 ht5=>?_⟩) (fun hn H5 s5=>k2 (by rw[ea];show (dL w fs).map _=none;rw[hn];rfl) H5 (g24.trans (cC s5)) (t4.same s5))⟩;have s6:=s5.trans (ag (o:=.tup [.ref p,.int ((z.length-r.length:Nat):Int)]) ht5);exact k1 f r (by rw[ea];show (dL w fs).map _=_;rw[hf];rfl) t5 p _ (g24.trans (cC s6)) (t4.same s6) af (hF.mono fun _ _ y=>ag ht5 _ _ y)
   ·exact k2 (by rw[ea,hn];rfl) H4 ((cC s2).trans ((qt tI2 bt).trans g4)) t4
  ·rw[yf hw]at ea
   rw[x6 (show ¬ w∈[("row" : Str),"back"] by simpa using hw)];refine au ⟨_,rfl,_,rfl,z,b,rfl,asc,zl,bl,trivial,tI2,fun gs r hp t3 q vs' H4 g4 t4 ht3 hq pr=>?_,fun hn H4 g4 t4=>?_⟩
   ·have g24:=(cC s2).trans g4
    refine⟨t3,_,rfl,bw.of ht3,rfl,_,_,rfl,_,_,rfl,rfl,?_⟩;have e9:=gV pr;subst e9;have fl2:=iL lV _ _ _ _ hp;rw[yn,hz]at fl2;rw[hp]at ea;refine⟨_,rfl,_,rfl,.nums w q gs rfl hw hq (by omega) wlen (fun f hf p H5 s5 hF=>⟨_,rfl,two,fun t5 ht5=>?_⟩) (fun hn H5 s5=>k2 (by rw[ea];show (bQ w gs).map _=none;rw[hn];rfl) H5 (g24.trans (cC s5)) (t4.same s5))⟩;have s6:=s5.trans (ag (o:=.tup [.ref p,.int ((z.length-r.length:Nat):Int)]) ht5);exact k1 f r (by rw[ea];show (bQ w gs).map _=_;rw[hf];rfl) t5 p _ (g24.trans (cC s6)) (t4.same s6) af (hF.mono fun _ _ y=>ag ht5 _ _ y)
   ·exact k2 (by rw[ea,hn];rfl) H4 ((cC s2).trans g4) t4
theorem gT (F:ee K "figure_at" "figure_at" eT f fd){d lv:Nat}(Cbracket_at:bR P w K mg base "bracket_at" (lv+3) ["text","at","deep"] (tp P0 lp ql cF d))(Cword_at:aA P w K mg base "word_at" 1 ["text","at"] gC)(Cis_name:aA P w K mg base "is_name" 1 ["word"] hV):bc P w K mg base (ij P w) (lv+4) f fd ["text","at","deep"] (fM P0 lp ql cF d d (figM d)):=by
 refine F.okX eR (fun vs H Q E h=>?_) (fun cdv A outer s H vs Q E hr h=>?_)
 ·obtain⟨z,a,rfl,_⟩:=h
  rfl
 ·obtain⟨z,a,rfl,asc,zl,al,tI,k1,k2⟩:=h
  have two:(2:Nat)<=sizeLine:=by decide
  have sl:sizeLine=16777216:=yK
  have zl2:z.length<=sizeLine:=by omega
  refine⟨_,ae (aJ (ao bz (pv 2) (aa) (aD _)) (ah (da UO.eF c8 rfl hr.hd rfl UO.mF (ak))) (aq)) (
   ae (aJ (ao bz (aX b8 (pv 0) (aQ (pv 1)) (aQ (ai aV (pv 1) (aa)))) (ak) (aD _)) (ah (ap (j4 Cbracket_at (hr.mono (by omega)) rfl fZ (mW (pv 0) (ai aV (pv 1) (aa)) (pv 2))))) (aq)) (
   ae (fK (aW Cword_at (hr.mono (by omega)) rfl (dI (pv 0) (pv 1))) (fI rfl (bh (fJ 3 eR.nd) (bh (fJ 4 eR.nd) dU)))) (
   ae (aJ (cH (eO (aW Cis_name (hr.mono (by omega)) rfl (cx (pv 3))))) (ah (da UO.eF c8 rfl hr.hd rfl UO.mF (jo (dW ak (dW (lN (pv 1)) lQ))))) (aq)) (
   ah (ap (bo (dI (bo (dI (ak) (pv 3))) (pv 4)))))))),?_⟩
  refine⟨_,rfl,rfl,_,rfl,?_⟩
  cases d with
  | zero=>exact aI (k2 (by rw[figM]) H GK.refl tI)
  | succ d =>
   rw[x6 (show ¬ V.int (((d+1:Nat)):Int)=V.int 0 from fun z=>by have:=V.int.inj z;omega)];refine au ⟨_,rfl,_,rfl,_,rfl,_,rfl,_,_,rfl,rfl,_,rfl,z,rfl,zl2,rfl,_,rfl,?_⟩;rw[k6,sH,lf]
   by_cases hd:((aK z).drop a).head? = some 40
   ·rw[x5 hd]
    have alt:=lh hd;rw[k8 d _ hd,yV]at k1 k2;exact aI ⟨_,rfl,_,rfl,_,_,rfl,rfl,_,rfl,z,a+1,by rw[zE];rfl,asc,zl,by omega,tI,k1,k2⟩
   ·rw[x6 hd]
    rw[k9 d _ hd]at k1 k2;refine au ⟨_,rfl,_,rfl,z,a,rfl,zl,al,fun t ht=>?_⟩;have wp:=oC al;have s1:=ag (o:=.tup [.str (toS (bL ((aK z).drop a))),.int ((a+(bL ((aK z).drop a)).length:Nat):Int)]) ht;refine⟨t,_,rfl,bw.of af,rfl,_,_,rfl,_,_,rfl,rfl,?_⟩
    have wlen:(toS (bL ((aK z).drop a))).length<=1000000:=by rw[c6];omega
    refine⟨_,rfl,_,rfl,qc asc a,wlen,fun H2 s2=>⟨_,rfl,?_⟩⟩;have s12:=s1.trans s2
    cases nm:dD (toS (bL ((aK z).drop a))) with
    | false =>
     rw[nm]at k2;exact aI ⟨_,rfl,by decide,_,rfl,a,rfl,iE (by omega),fun y hy=>⟨y,rfl,hy,fun x=>k2 rfl H2 (cC s12) (tI.same s12)⟩⟩
    | true =>
     rw[nm]at k1;refine au ⟨_,rfl,two,fun p hp=>⟨_,rfl,two,fun t2 ht2=>?_⟩⟩;have s3:=s12.trans ((ag (o:=.tup [.str "name",.str (toS (bL ((aK z).drop a)))]) hp).trans (ag (o:=.tup [.ref p,.int ((a+(bL ((aK z).drop a)).length:Nat):Int)]) ht2));exact k1 _ _ rfl t2 p _ (cC s3) (tI.same s3) (by rw[af,wp.1]) ⟨ag ht2 _ _ af,by have:=jR nm;omega⟩
theorem jX (F:ee K "read_figure" "read_figure" dH f fd)(Cfigure_at:bR P w K mg base "figure_at" 37 ["text","at","deep"] (fM P0 ax am cF 8 8 (figM 8))) : bc P w K mg base (ij P w) 38 f fd ["text"] (o0 P0 ax am cF):=by
 refine F.okX dF (fun vs H Q E h=>?_) (fun cdv A outer s H vs Q E hr h=>?_)
 ·obtain⟨z,rfl,_⟩:=h
  rfl
 ·obtain⟨z,rfl,asc,zl,tI,k1,k2⟩:=h
  have sl:sizeLine=16777216:=yK
  have zl2:z.length<=sizeLine:=by omega
  refine⟨_,ae (fK (j4 Cfigure_at hr.m rfl fZ (mW (pv 0) (aa) (fG (by rfl) UO.dp))) (fI rfl (bh (fJ 1 dF.nd) (bh (fJ 2 dF.nd) dU)))) (
   ae (aJ (ao i9 (pv 2) (aC bS (by rfl) T.len yr (cx (pv 0))) (aD _)) (ah (da UO.eF c8 rfl hr.hd rfl UO.mF (ak))) (aq)) (
   ah (ap (pv 1)))),?_⟩
  refine⟨_,rfl,z,0,rfl,asc,zl,yT _,tI,fun f r hr t p H' g t' ht hf=>?_,fun hn H' g t'=>k2 (fun f q=>by rw[List.drop_zero]at hn;rw[hn]at q;cases q) H' g t'⟩;rw[List.drop_zero]at hr;refine⟨t,_,rfl,bw.of ht,rfl,_,_,rfl,_,_,rfl,rfl,?_⟩;refine⟨_,rfl,_,rfl,z,rfl,zl2,rfl,_,rfl,?_⟩
  by_cases r0:r=[]
  ·subst r0
   rw[x5 (show V.int ((z.length-([]:List Nat).length:Nat):Int)=V.int (z.length:Int) from rfl)];exact au ⟨_,rfl,k1 f hr p H' g t' hf⟩
  ·have rl:=oX (jq 8) hr
   have rp:0<r.length:=List.length_pos_iff.mpr r0;rw[<-bH]at rl;rw[x6 (show ¬ V.int ((z.length-r.length:Nat):Int)=V.int (z.length:Int) from fun q=>by have:=V.int.inj q;omega)];exact aI (k2 (fun f2 q=>r0 (by rw[hr]at q;injection q with q;injection q with _ q)) H' g t')
theorem jV (F:ee K "_law_cell_at" "_law_cell_at" dG f fd) : bc P w K mg base gE 1 f fd ["_law_script","_law_k"] (lY K):=by
 refine F.ok j7 (fun vs H Q E h=>?_) (fun cdv A outer s H vs Q E hr h=>?_)
 ·obtain⟨a,ns,k,rfl,_⟩:=h
  rfl
 ·obtain⟨a,ns,i,rfl,hS,hi,k⟩:=h
  refine⟨_,ae (aJ (ao kL (pv 1) (aC aS (by rfl) T.len yr (aO (pv 0) bn)) (aD _)) (ah (ap (ba dj (pv 0) (pv 1) (fun _ _=>rfl)))) aq) (ah (ap aa)),?_⟩;refine⟨_,rfl,_,rfl,a,_,rfl,.inl hS,_,_,rfl,rfl,_,rfl,?_⟩;unfold gu at k;rw[x4]
  by_cases hc:i<(ns.length:Int)
  ·rw[ym hc]at k
   rw[x5 hc];refine aI ⟨_,rfl,_,rfl,a,_,_,_,rfl,rfl,hS,?_,k⟩;have e:i=((i.toNat:Nat):Int):=(Int.toNat_of_nonneg hi).symm
   have hl:i.toNat<ns.length:=by omega
   rw[e];refine aN ?_;rw[List.getElem?_map,List.getD_eq_getElem?_getD,zF,List.getElem?_eq_getElem hl];rfl
  ·rw[yf hc]at k
   rw[x6 hc];exact au k
theorem lI (F:ee K "_law_whole" "_law_whole" eZ f fd) : bc P w K mg base gE 1 f fd ["_law_found"] jv:=by
 refine F.ok lU (fun vs H Q E h=>?_) (fun cdv A outer s H vs Q E hr h=>?_)
 ·obtain⟨i,rfl,_⟩:=h
  rfl
 ·obtain⟨i,rfl,k⟩:=h
  refine⟨_,ah (ap (og (aC dB (by rfl) T.isinstance yW (aO (pv 0) (aO (eN (v:=.ty "int") (by rfl) T.int PyProof.Rows.boot_int rfl) bn))) (lO (uO (aC dB (by rfl) T.isinstance yW (aO (pv 0) (aO (eN (v:=.ty "bool") (by rfl) T.bool PyProof.Rows.boot_bool rfl) bn))))))),?_⟩;refine⟨_,rfl,_,_,_,true,rfl,ef.int i,rfl,_,rfl,aI ?_⟩;exact⟨_,rfl,_,_,_,false,rfl,ef.int i,rfl,_,rfl,k⟩
theorem mT (F:ee K "_law_size" "_law_size" fQ f fd) : bc P w K mg base gE 1 f fd ["_law_cell"] iQ:=by
 refine F.ok nh (fun vs H Q E h=>?_) (fun cdv A outer s H vs Q E hr h=>?_)
 ·obtain⟨c,rfl,_⟩:=h
  rfl
 ·obtain⟨c,rfl,k⟩:=h
  refine⟨_,ae (aJ (ao kL (pv 0) aa (aD _)) (ah (ap (vP uZ (pv 0)))) aq) (ah (ap (pv 0))),?_⟩;refine⟨_,rfl,_,_,rfl,rfl,_,rfl,?_⟩;unfold cV at k
  by_cases hc:c<0
  ·rw[ym hc]at k
   rw[x5 hc];exact aI ⟨_,rfl,_,rfl,k⟩
  ·rw[yf hc]at k
   rw[x6 hc];exact au ⟨_,rfl,k⟩
theorem lD (F:ee K "_law_draws" "_law_draws" eW f fd)(bq:aA P w K mg base "_law_size" 1 ["_law_cell"] iQ) : bc P w K mg base gE 2 f fd ["_law_cell","_law_many","_law_base"] gZ:=by
 refine F.ok a7 (fun vs H Q E h=>?_) (fun cdv A outer s H vs Q E hr h=>?_)
 ·obtain⟨c,m,b,rfl,_⟩:=h
  rfl
 ·obtain⟨c,m,b,rfl,⟨m0,m1⟩,⟨b0,b1⟩,k⟩:=h
  refine⟨_,ae (di (i:=3) a7.nd rfl (Or.inl rfl) (aW bq hr rfl (aO (pv 0) bn)))
   (ae (di (i:=4) a7.nd rfl (Or.inl rfl) (d6 bn))
   (ae (aJ (ao vN (pv 3) (ai qL aa aa) (aD _))
    (ae (di (i:=3) a7.nd rfl (Or.inl rfl) (ai lM (pv 3) (ai qL aa aa)))
    (ae (di (i:=5) a7.nd rfl (Or.inl rfl) (ai aT (pv 3) (ai aV (pv 1) aa)))
    (ae (di (i:=3) a7.nd rfl (Or.inl rfl) (ai bv (pv 3) (ai aV (pv 1) aa)))
    (ae (gy zh rfl (f7 rfl T.range (aO (pv 5) bn)) (lP (i:=6) a7.nd rfl (Or.inl rfl))
     (ae (cg (ek yx yB yC bD (pv 4) (aO (ai aT (pv 3) (pv 2)) bn)))
     (ah (di (i:=3) a7.nd rfl (Or.inl rfl) (ai bv (pv 3) (pv 2))))))
    (ah (ap (pv 4)))))))
    aq)
   (ae (di (i:=7) a7.nd rfl (Or.inl rfl) (ai aV (ai aT (pv 3) aa) aa))
   (ae (gy zh rfl (f7 rfl T.range (aO (ai aT (pv 3) (ai aV (pv 1) aa)) bn)) (lP (i:=6) a7.nd rfl (Or.inl rfl))
     (ae (di (i:=7) a7.nd rfl (Or.inl rfl) (ai aT (ai iK (pv 7) aa) aa))
     (ah (cg (ek yx yB yC bD (pv 4) (aO (ai aT (ai bv (ai aT (ai iK (pv 7) aa) aa) aa) (pv 2)) bn))))))
   (ah (ap (pv 4))))))),?_⟩
  refine⟨_,rfl,_,rfl,by show 0<=sizeLine;exact yT _,fun l hl=>?_⟩
  have big:(10:Int) ^ (18:Int).toNat=1000000000000000000:=by decide
  have room:∀ ds:List Int,(ds.length:Int)<=1000->(ds.map V.int).length<sizeLine:=fun ds h=>by rw[x4];exact bZ (by omega)
  have app:∀ (ds:List Int)(z:Int),bE (bE H l (.lst (ds.map V.int))) l (.lst (ds.map V.int++[V.int z]))=bE H l (.lst ((ds++[z]).map V.int)):=fun ds z=>by rw[mf,yk];rfl
  have inb:∀ (ds:List Int)(z:Int),(∀ d∈ds,0<=d/\d<b)->∀ d∈ds++[z%b],0<=d/\d<b:=fun ds z h d hd=>by
   rcases yL.mp hd with hd | hd
   ·exact h d hd
   ·rw[yu.mp hd];exact⟨yX _ (by omega),yJ _ b0⟩
  refine⟨_,rfl,_,_,rfl,rfl,⟨by decide,by decide,by decide⟩,_,_,rfl,rfl,_,rfl,?_⟩;refine wX (fun _=>?_) (fun _=>?_)
  ·refine⟨_,rfl,_,_,rfl,rfl,⟨by decide,by decide,by decide⟩,_,_,rfl,rfl,?_⟩
   refine⟨_,rfl,_,rfl,_,_,rfl,rfl,_,_,rfl,rfl,by show (0:Int)<m+1;omega,?_⟩;refine⟨_,rfl,_,rfl,_,_,rfl,rfl,_,_,rfl,rfl,⟨by show (0:Int)<m+1;omega,by show m+1<1073741824;omega⟩,?_⟩;have cb:=yJ (cV c-(10:Int) ^ (18:Int).toNat) (show 0<m+1 by omega);have cn:=yX (cV c-(10:Int) ^ (18:Int).toNat) (show m+1≠0 by omega)
   refine⟨_,rfl,_,rfl,by omega,by omega,fV (n:=((cV c-(10:Int) ^ (18:Int).toNat)%(m+1)).toNat) (fun i σ H2=>∃ (z:Int)(v:Option V)(ds:List Int),σ=[some (.int c),some (.int m),some (.int b),some (.int z),some (.ref l),some (.int ((cV c-(10:Int) ^ (18:Int).toNat)%(m+1))),v,none]/\H2=bE H l (.lst (ds.map V.int))/\ds.length=i/\∀ d∈ds,0<=d/\d<b)
    ⟨_,none,[],rfl,rfl,rfl,fun _ z=>nomatch z⟩ ?_ ?_⟩
   ·rintro i σ H2 hi ⟨z,v,ds,rfl,rfl,hlen,hds⟩
    refine⟨_,rfl,.inl ⟨rfl,_,bC.of af⟩,_,rfl,_,rfl,_,_,rfl,rfl,b0,l,_,_,rfl,rfl,af,room ds (by omega),?_⟩;refine⟨_,rfl,_,rfl,_,_,rfl,rfl,⟨b0,b1⟩,?_⟩;exact⟨_,_,ds++[z%b],rfl,app ds _,by rw[yb,hlen];rfl,inb ds z hds⟩
   ·rintro σ H2 ⟨z,v,ds,rfl,rfl,hlen,hds⟩
    exact⟨_,rfl,k l ds hl hds (by omega)⟩
  ·refine⟨_,rfl,_,_,rfl,rfl,by show (0:Int)<2147483629;decide,_,_,rfl,rfl,?_⟩
   have cb:=yJ (cV c) (show 0<m+1 by omega);have cn:=yX (cV c) (show m+1≠0 by omega);refine⟨_,rfl,_,rfl,_,_,rfl,rfl,_,_,rfl,rfl,by show (0:Int)<m+1;omega,?_⟩
   refine⟨_,rfl,by omega,by omega,fV (n:=(cV c%(m+1)).toNat) (fun i σ H2=>∃ (z:Int)(v:Option V)(ds:List Int),σ=[some (.int c),some (.int m),some (.int b),some (.int (cV c)),some (.ref l),none,v,some (.int z)]/\H2=bE H l (.lst (ds.map V.int))/\ds.length=i/\∀ d∈ds,0<=d/\d<b)
    ⟨_,none,[],rfl,rfl,rfl,fun _ z=>nomatch z⟩ ?_ ?_⟩
   ·rintro i σ H2 hi ⟨z,v,ds,rfl,rfl,hlen,hds⟩
    refine⟨_,rfl,_,_,rfl,rfl,.inr ⟨by decide,by decide⟩,_,_,rfl,rfl,by show (0:Int)<2147483647;decide,?_⟩;refine⟨_,rfl,.inl ⟨rfl,_,bC.of af⟩,_,rfl,_,_,rfl,rfl,.inr ⟨by decide,by decide⟩,_,_,rfl,rfl,by show (0:Int)<998244353;decide,_,_,rfl,rfl,⟨by decide,by decide⟩,_,rfl,_,_,rfl,rfl,b0,l,_,_,rfl,rfl,af,room ds (by omega),?_⟩;exact⟨_,_,ds++[_],rfl,app ds _,by rw[yb,hlen];rfl,inb ds _ hds⟩
   ·rintro σ H2 ⟨z,v,ds,rfl,rfl,hlen,hds⟩
    exact⟨_,rfl,k l ds hl hds (by omega)⟩
theorem lE (F:ee K "_law_guest" "_law_guest" eX f fd)(bq:aA P w K mg base "_law_size" 1 ["_law_cell"] iQ) : bc P w K mg base gE 2 f fd ["_law_k","_law_cell"] g8:=by
 refine F.ok dq (fun vs H Q E h=>?_) (fun cdv A outer s H vs Q E hr h=>?_)
 ·obtain⟨k,c,rfl,_⟩:=h
  rfl
 ·obtain⟨i,c,rfl,⟨i0,i1⟩,k⟩:=h
  refine⟨_,ae (di (i:=2) dq.nd rfl (Or.inl rfl) (aW bq hr rfl (aO (pv 1) bn)))
   (ae (di (i:=3) dq.nd rfl (Or.inl rfl) (ai aV aa (ai aT (ai iK (pv 2) aa) aa)))
   (ae (di (i:=4) dq.nd rfl (Or.inl rfl) (ai aT (ai aV (ai iK (pv 0) (pv 3)) (ai qJ (pv 2) aa)) aa))
   (ae (aJ (ao bz (ai aT (pv 2) aa) aa (aD _)) (ah (ap (ai aV (pv 4) aa))) aq)
   (ah (ap (pv 4)))))),?_⟩
  refine⟨_,rfl,_,rfl,?_⟩;refine⟨_,rfl,_,_,rfl,rfl,.inr ⟨by decide,by decide⟩,_,_,rfl,rfl,by show (0:Int)<2147483646;decide,_,_,rfl,rfl,?_⟩;refine⟨_,rfl,_,rfl,_,_,rfl,rfl,.inl ⟨by show (-(2 ^ 64):Int)<i;omega,by show i<(2 ^ 64:Int);omega⟩,_,rfl,_,_,rfl,rfl,⟨by decide,by decide⟩,_,_,rfl,rfl,_,_,rfl,rfl,by show (0:Int)<2147483647;decide,?_⟩;refine⟨_,rfl,_,_,rfl,rfl,by show (0:Int)<5;decide,rfl,_,rfl,?_⟩;unfold fW at k;dsimp only at k
  by_cases hc:cV c%5=4
  ·rw[ym hc]at k
   rw[x5 (show V.int (cV c%5)=V.int 4 by rw[hc])];exact aI ⟨_,rfl,_,_,rfl,rfl,k⟩
  ·rw[yf hc]at k
   rw[x6 (show ¬ V.int (cV c%5)=V.int 4 from fun z=>hc (by injection z))];exact au ⟨_,rfl,k⟩
theorem mU (F:ee K "_law_word" "_law_word" fR f fd)(cJ:aA P w K mg base "_law_draws" 2 ["_law_cell","_law_many","_law_base"] gZ) : bc P w K mg base gE 3 f fd ["_law_cell"] o1:=by
 refine F.ok db (fun vs H Q E h=>?_) (fun cdv A outer s H vs Q E hr h=>?_)
 ·obtain⟨c,rfl,_⟩:=h
  rfl
 ·obtain⟨c,rfl,k⟩:=h
  have sl:sizeLine=16777216:=yK
  refine⟨_,ae (aZ 1 db.nd (ak)) (
   ae (aZ 2 db.nd (ak)) (
   ae (gy zh rfl (dm (aW cJ hr.m rfl (mW (pv 0) (aa) (aa)))) (fJ 3 db.nd) (ah (aZ 2 db.nd (ai ay (pv 2) (ba lu (pv 1) (pv 3) (fun _ _=>rfl)))))) (
   ae (aJ (ao dA (pv 2) (d6 (b7 (b7 (b7 (b7 (b7 (b7 (b7 (b7 (b7 (bn))))))))))) rfl) (ah (ap (ak))) (aq)) (
   ah (ap (pv 2)))))),?_⟩
  refine⟨_,rfl,c,12,26,rfl,⟨by decide,by decide⟩,⟨by decide,by decide⟩,fun l ds hl hd hn=>⟨l,rfl,⟨_,bC.of af⟩,?_⟩⟩;have s1:=ag (o:=.lst (ds.map V.int)) hl
  refine dC (K:=K) (a:=l) (xs:=ds.map V.int) (fun i σ HK=>∃ (v:Option V)(w:Str),σ=[some (.int c),some (.str "abcdefghijklmnopqrstuvwxyz"),some (.str w),v]/\aG (bE H l (.lst (ds.map V.int))) HK/\w.cps.toList.all bI=true/\w.length=i)
   ⟨none,_,rfl,aG.refl _,by decide +kernel,by decide +kernel⟩ (fun i σ HK _ ⟨_,_,_,s2,_⟩=>bC.of (s2 _ _ af)) ?_ ?_
  ·rintro i y σ HK hi ⟨v,w,rfl,s2,aw,lw⟩
   obtain⟨d,hd1,rfl⟩:=dk hi;have hil:=(List.getElem?_eq_some_iff.mp hd1).1;obtain⟨d0,d1⟩:=hd d (yH hd1);obtain⟨c2,hc,e⟩:=sj d0 d1;refine⟨_,rfl,_,rfl,_,rfl,_,d,c2,rfl,rfl,by rw[sl];decide +kernel,e,w,_,rfl,rfl,?_,?_⟩
   ·show w.length+1<=sizeLine
    omega
   exact⟨_,_,rfl,s2,pE aw hc,by rw[qC,lw]⟩
  rintro σ HK ⟨v,w,rfl,s2,aw,lw⟩;rw[x4]at lw;refine⟨_,rfl,by rw[sl];decide,fun l2 hl2=>⟨l2,_,rfl,.inl (bC.of af),rfl,rfl,_,rfl,?_⟩⟩;have s3:=(s1.trans s2).trans (ag (o:=.lst (["","pair","line","star","all","quad","row","back","name"].map fun x=>V.str (Str.ofString x))) hl2);refine ei (fun _=>?_) (fun c9=>?_)
  ·exact k _ _ (by decide +kernel) s3
  ·have c9:nE (V.str w) ((("" : Str)::kindsL).map V.str)=false:=c9
   rw[gO]at c9;exact⟨_,rfl,k w _ (vK aw (by omega) (of_decide_eq_false c9)) s3⟩
theorem lG (F:ee K "_law_ranks" "_law_ranks" dy f fd) : bc P w K mg base gE 1 f fd ["_law_drawn"] jt:=by
 refine F.ok dv (fun vs H Q E h=>?_) (fun cdv A outer s H vs Q E hr h=>?_)
 ·obtain⟨d,rfl,_⟩:=h
  rfl
 ·obtain⟨d,rfl,d0,k⟩:=h
  refine⟨_,ae (aZ 1 dv.nd (ai aV (aa) (ai aT (pv 0) (aa)))) (
   ae (aJ (ao qK (ai aT (ai bv (pv 0) (aa)) (aa)) (aa) (aD _)) (ah (aZ 1 dv.nd (ai aV (aa) (ai aT (ai bv (pv 0) (aa)) (aa))))) (aq)) (
   ae (aZ 2 dv.nd (ai aT (ai bv (pv 0) (aa)) (aa))) (
   ah (ap (b9 (so:=aj dy) (N:=i6) (N':=["_law_k","_law_drawn","_law_step"]) (src:=[none,some 0,some 2]) rfl rfl oF rfl (f7 (by rfl) T.range (cx (pv 1))) (fun cl C s2 H2 ex=>⟨fJ 0 (show (["_law_k","_law_drawn","_law_step"]:List Str).Nodup by decide +kernel),ci,ai aT (ai aV (ai bv (pv 1) (aa)) (ai iK (pv 2) (pv 0))) (aa)⟩)))))),?_⟩
  have em:∀ z m:Int,0<m->0<=z%m/\z%m<m:=fun z m h=>⟨yX _ (by omega),yJ _ h⟩;refine⟨_,rfl,_,_,rfl,rfl,by show (0:Int)<6;decide,_,_,rfl,rfl,?_⟩;refine⟨_,rfl,_,_,rfl,rfl,⟨by decide,by decide⟩,_,_,rfl,rfl,by show (0:Int)<61;decide,_,_,rfl,rfl,_,rfl,?_⟩;have a1:=em d 6 (by decide)
  apply j9 (fun σ HH=>HH=H/\∃ m:Nat,σ=[some (.int d),some (.int (m:Int)),none]/\2<=m/\m<=60)
  ·intro rest
   by_cases c1:d/6%61>54
   ·rw[x5 c1]
    have a2:=em (d/366) 53 (by decide);refine aI ⟨_,rfl,_,_,rfl,rfl,⟨by decide,by decide⟩,_,_,rfl,rfl,by show (0:Int)<53;decide,_,_,rfl,rfl,?_⟩;exact rest _ _ ⟨rfl,(8+d/366%53).toNat,by rw[Int.toNat_of_nonneg (by omega)];rfl,by omega,by omega⟩
   ·rw[x6 c1]
    exact au (rest _ _ ⟨rfl,(2+d%6).toNat,by rw[Int.toNat_of_nonneg (by omega)];rfl,by omega,by omega⟩)
  rintro σ HH ⟨rfl,m,rfl,m0,m1⟩;have a3:=em (d/366) 6 (by decide);refine⟨_,rfl,_,_,rfl,rfl,⟨by decide,by decide⟩,_,_,rfl,rfl,by show (0:Int)<6;decide,?_⟩;refine⟨_,rfl,(m:Int),rfl,by omega,by omega,fun l hl=>?_⟩
  refine fV (n:=m) (fun i σ H2=>∃ (v:Option V)(xs:List Int),σ=[v,some (.int d),some (.int (d/366%6))]/\xs.length=i/\(∀ r∈xs,0<=r/\r<12)/\H2=bE HH l (.lst (xs.map V.int)))
   ⟨none,[],rfl,rfl,(fun _ z=>nomatch z),rfl⟩ ?_ ?_
  ·rintro i σ H2 hi ⟨v,xs,rfl,hx,hr2,rfl⟩
   refine c5 ⟨_,rfl,_,_,rfl,rfl,⟨by decide,by decide⟩,_,rfl,_,rfl,_,_,rfl,rfl,.inl ⟨by omega,by omega⟩,_,_,rfl,rfl,_,_,rfl,rfl,by show (0:Int)<12;decide,_,af,by rw[x4];exact bZ (by omega),?_⟩;refine⟨_,xs++[(d/2196+d/366%6*(0+(i:Int)))%12],rfl,by rw[yb,hx];rfl,fun r hr3=>?_,?_⟩
   ·rcases yL.mp hr3 with z | z
    ·exact hr2 r z
    ·rw[yu.mp z];exact em _ 12 (by decide)
   ·rw[mf,yk]
    rfl
  rintro σ H2 ⟨v,xs,rfl,hx,hr2,rfl⟩;exact k l xs hl (by omega) (by omega) hr2
theorem lF (F:ee K "_law_plain" "_law_plain" cS f fd)(ft:aA P w K mg base "_law_ranks" 1 ["_law_drawn"] jt)(bp:aA P w K mg base "_law_guest" 2 ["_law_k","_law_cell"] g8) : bc P w K mg base gE 3 f fd ["_law_drawn","_law_cell"] lZ:=by
 refine F.ok cu (fun vs H Q E h=>?_) (fun cdv A outer s H vs Q E hr h=>?_)
 ·obtain⟨d,c,rfl,_⟩:=h
  rfl
 ·obtain⟨d,c,rfl,d0,k⟩:=h
  have two:(2:Nat)<=sizeLine:=by decide
  have three:(3:Nat)<=sizeLine:=by decide
  have em:∀ z m:Int,0<m->0<=z%m/\z%m<m:=fun z m h=>⟨yX _ (by omega),yJ _ h⟩
  refine⟨_,ae (aZ 2 cu.nd (ai aT (pv 0) (aa))) (
   ae (aZ 3 cu.nd (aW ft hr.m rfl (cx (ai bv (pv 0) (aa))))) (
   ae (aJ (ao bz (pv 2) (aa) (aD _)) (ah (ap (bo (mW (ak) (aW bp hr.m rfl (dI (ba dj (pv 3) (aa) (fun _ _=>rfl)) (pv 1))) (aW bp hr.m rfl (dI (ba dj (pv 3) (aa) (fun _ _=>rfl)) (pv 1))))))) (aq)) (
   ae (aJ (ao bz (pv 2) (aa) (aD _)) (ae (aZ 4 cu.nd (ai aT (ai bv (pv 0) (aa)) (aa))) (
   ae (aZ 5 cu.nd (ai aV (aa) (ai aT (ai bv (pv 0) (aa)) (aa)))) (
   ah (ap (bo (dI (ak) (bO cA (by rfl) T.tuple yQ (cx (b9 (so:=aj cS) (N:=fD) (N':=["_law_k","_law_cell","_law_first","_law_step"]) (src:=[none,some 1,some 4,some 5]) rfl rfl oF rfl (f7 (by rfl) T.range (cx (aa))) (fun cl C s2 H2 ex=>⟨fJ 0 (show (["_law_k","_law_cell","_law_first","_law_step"]:List Str).Nodup by decide +kernel),ci,aW bp hr.m rfl (dI (ai aT (ai aV (pv 2) (ai iK (pv 3) (pv 0))) (aa)) (pv 1))⟩)))))))))) (aq)) (
   ae (aZ 6 cu.nd (bO cA (by rfl) T.tuple yQ (cx (b9 (so:=aj cS) (N:=fD) (N':=["_law_rank","_law_cell"]) (src:=[none,some 1]) rfl rfl oF rfl (dm (pv 3)) (fun cl C s2 H2 ex=>⟨fJ 0 (show (["_law_rank","_law_cell"]:List Str).Nodup by decide +kernel),ci,aW bp hr.m rfl (dI (pv 0) (pv 1))⟩))))) (
   ah (ap (bo (dI (ba dj (d6 (mW (ak) (ak) (ak))) (ai lM (pv 2) (aa)) (fun _ _=>rfl)) (pv 6))))))))),?_⟩
  refine⟨_,rfl,_,_,rfl,rfl,by show (0:Int)<5;decide,?_⟩;refine⟨_,rfl,_,_,rfl,rfl,⟨by decide,by decide⟩,d/5,rfl,by omega,fun lr rs hlr r0 r1 rb=>?_⟩;have s1:=ag (o:=.lst (rs.map V.int)) hlr;have h1:bE H lr (.lst (rs.map V.int)) lr=some (.lst (rs.map V.int)):=af;generalize bE H lr (.lst (rs.map V.int))=H1 at s1 h1 ⊢;refine⟨_,rfl,rfl,_,rfl,?_⟩
  by_cases c0:d%5=0
  ·rw[x5 (zc V.int c0)]
   obtain⟨x,y,rt,rfl⟩:∃ x y rt,rs=x::y::rt:=by
    match rs,r0 with
    | x::y::rt,_=>exact⟨x,y,rt,rfl⟩
   have bx:=rb x (by simp);have bY:=rb y (by simp);refine aI ⟨_,rfl,lr,_,0,_,rfl,rfl,bC.of h1,aN (j:=0) rfl,_,rfl,x,c,rfl,⟨bx.1,by omega⟩,_,rfl,lr,_,1,_,rfl,rfl,bC.of h1,aN (j:=1) rfl,_,rfl,y,c,rfl,⟨bY.1,by omega⟩,three,fun t ht=>?_⟩;exact k t (.pair _ _) _ (s1.free ht) (s1.trans (ag ht)) af ⟨by show (2:Nat)<=2;decide,by show (2:Nat)<=60;decide,fun _ _ _ _ z=>by cases z⟩ (fun g hg=>(yh.mp hg).elim (fun e=>by rw[e];exact fX _ _) fun hg=>by rw[yu.mp hg];exact fX _ _)
  rw[x6 (fun z=>c0 (V.int.inj z))];refine au ⟨_,rfl,rfl,_,rfl,?_⟩
  by_cases c4:d%5=4
  ·rw[x5 (zc V.int c4)]
   have a1:=em (d/5) 12 (by decide);have a2:=em (d/60) 3 (by decide);refine aI ⟨_,rfl,_,_,rfl,rfl,⟨by decide,by decide⟩,_,_,rfl,rfl,by show (0:Int)<12;decide,?_⟩;refine⟨_,rfl,_,_,rfl,rfl,⟨by decide,by decide⟩,_,_,rfl,rfl,by show (0:Int)<3;decide,_,_,rfl,rfl,?_⟩;refine⟨4,rfl,by decide,by decide,fun l hl=>?_⟩
   refine fV (n:=4) (fun i σ H2=>∃ (v:Option V),σ=[v,some (.int c),some (.int (d/5%12)),some (.int (1+d/60%3))]/\H2=bE H1 l (.lst (((List.range i).map fun j:Nat=>fW ((d/5%12+(1+d/60%3)*(0+(j:Int)))%12) c).map V.int)))
    ⟨none,rfl,rfl⟩ ?_ ?_
   ·rintro i σ H2 hi ⟨v,rfl,rfl⟩
    have a3:=em (d/5%12+(1+d/60%3)*(0+(i:Int))) 12 (by decide);refine c5 ⟨_,rfl,_,rfl,_,rfl,_,_,rfl,rfl,.inl ⟨by omega,by omega⟩,_,_,rfl,rfl,_,_,rfl,rfl,by show (0:Int)<12;decide,_,rfl,_,c,rfl,⟨a3.1,by omega⟩,_,af,by rw[x4,x4,List.length_range];exact bZ (by omega),?_⟩;refine⟨_,rfl,?_⟩;rw[mf,List.range_succ,yk,yk];rfl
   rintro σ H2 ⟨v,rfl,rfl⟩;have s2:=ag (o:=.lst (((List.range 4).map fun j:Nat=>fW ((d/5%12+(1+d/60%3)*(0+(j:Int)))%12) c).map V.int)) hl;refine⟨l,_,rfl,.inl ⟨bC.of af,fun q hq=>?_⟩⟩;have s3:=ag (o:=.tup (((List.range 4).map fun j:Nat=>fW ((d/5%12+(1+d/60%3)*(0+(j:Int)))%12) c).map V.int)) hq;refine⟨two,fun p hp=>?_⟩;have s4:=ag (o:=.tup [.str "quad",.ref q]) hp
   have nd:∀ i j:Int,0<=i->i<4->0<=j->j<4->i≠j->fW ((d/5%12+(1+d/60%3)*(0+i))%12) c≠fW ((d/5%12+(1+d/60%3)*(0+j))%12) c:=fun i j i0 i1 j0 j1 n e=>by
    have bi:=em (d/5%12+(1+d/60%3)*(0+i)) 12 (by decide);have bj:=em (d/5%12+(1+d/60%3)*(0+j)) 12 (by decide);have:=rX (by omega) (by omega) e;obtain⟨st,est⟩:∃ st,st=d/60%3:=⟨_,rfl⟩;rw[<-est]at this a2
    have:st=0\/st=1\/st=2:=by omega
    rcases this with rfl | rfl | rfl<;>omega
   have s12:=s1.trans s2;refine k p (.quad _ _ _ _) _ (s12.free (s3.free hp)) (s12.trans (s3.trans s4)) ⟨q,af,s4 _ _ af⟩ ⟨by show (2:Nat)<=4;decide,by show (4:Nat)<=60;decide,fun a b c' d' z=>?_⟩ (fun g hg=>by have hg:g∈(List.range 4).map (fun j:Nat=>fW ((d/5%12+(1+d/60%3)*(0+(j:Int)))%12) c):=hg;obtain⟨j,_,rfl⟩:=yA.mp hg;exact fX _ _);cases z;simp only[zD,yh,List.not_mem_nil,or_false,not_or,List.nodup_nil,and_true,not_false_eq_true];exact⟨⟨nd 0 1 (by decide) (by decide) (by decide) (by decide) (by decide),nd 0 2 (by decide) (by decide) (by decide) (by decide) (by decide),nd 0 3 (by decide) (by decide) (by decide) (by decide) (by decide)⟩,⟨nd 1 2 (by decide) (by decide) (by decide) (by decide) (by decide),nd 1 3 (by decide) (by decide) (by decide) (by decide) (by decide)⟩,nd 2 3 (by decide) (by decide) (by decide) (by decide) (by decide)⟩
  rw[x6 (fun z=>c4 (V.int.inj z))];refine au ⟨_,rfl,lr,rfl,⟨_,bC.of h1⟩,fun l hl=>?_⟩
  refine dC (K:=K) (a:=lr) (xs:=rs.map V.int) (fun i σ H2=>∃ (v:Option V),σ=[v,some (.int c)]/\aG H1 H2/\H2 l=some (.lst (((rs.take i).map fun r=>fW r c).map V.int)))
   ⟨none,rfl,ag hl,af⟩ (fun i σ H2 _ ⟨_,_,s2,_⟩=>bC.of (s2 _ _ h1)) ?_ ?_
  ·rintro i y σ H2 hi ⟨v,rfl,s2,hl2⟩
   obtain⟨r,hr3,rfl⟩:=dk hi;have br:=rb r (yH hr3);refine c5 ⟨_,rfl,_,rfl,r,c,rfl,⟨br.1,by omega⟩,_,hl2,by rw[x4,x4,yM];exact bZ (by omega),?_⟩;refine⟨_,rfl,cE s2 hl,?_⟩;rw[af,zr,hr3,zn,yk,yk];rfl
  rintro σ H2 ⟨v,rfl,s2,hl2⟩;rw[x4,zx]at hl2;refine⟨l,_,rfl,.inl ⟨bC.of hl2,fun q hq=>?_⟩⟩;have s3:=ag (o:=.tup ((rs.map fun r=>fW r c).map V.int)) hq;have hq3:bE H2 q (.tup ((rs.map fun r=>fW r c).map V.int)) q=some (.tup ((rs.map fun r=>fW r c).map V.int)):=af;have s13:=s1.trans (s2.trans s3);generalize bE H2 q (.tup ((rs.map fun r=>fW r c).map V.int))=H3 at s13 hq3 ⊢;refine⟨three,fun lw hlw=>?_⟩;have s4:=ag (o:=.lst [.str "line",.str "star",.str "all"]) hlw;have a5:=em d 5 (by decide)
  have fin:∀ (f:cN),f.isP=false->f.gs=rs.map (fun r=>fW r c)->(∀ a b c d,f≠.quad a b c d)->∀ p,bE H3 lw (.lst [.str "line",.str "star",.str "all"]) p=none->Q (.ref p) (bE (bE H3 lw (.lst [.str "line",.str "star",.str "all"])) p (.tup [.str f.word,.ref q])):=fun f fp fg fq p hp=>by
   have s5:=ag (o:=.tup [.str f.word,.ref q]) hp;refine k p f _ (s13.free (s4.free hp)) (s13.trans (s4.trans s5)) (gK.of fp af (s5 _ _ (s4 _ _ (by rw[fg];exact hq3)))) ⟨?_,?_,fun a b c d z=>absurd z (fq a b c d)⟩ (fun g hg=>by rw[fg]at hg;obtain⟨r,_,rfl⟩:=yA.mp hg;exact fX _ _)
   ·rw[fg,x4];exact r0
   ·rw[fg,x4];exact r1
  obtain⟨z,ez⟩:∃ z,z=d%5:=⟨_,rfl⟩;rw[<-ez]at a5 c0 c4
  have c3:z=1\/z=2\/z=3:=by omega
  refine⟨_,rfl,_,_,rfl,rfl,?_⟩;rw[<-ez];rcases c3 with rfl | rfl | rfl
  ·exact⟨lw,_,_,_,rfl,rfl,bC.of af,aN (j:=0) rfl,_,rfl,two,fun p hp=>fin (.line (rs.map fun r=>fW r c)) rfl rfl (fun _ _ _ _ z=>by cases z) p hp⟩
  ·exact⟨lw,_,_,_,rfl,rfl,bC.of af,aN (j:=1) rfl,_,rfl,two,fun p hp=>fin (.star (rs.map fun r=>fW r c)) rfl rfl (fun _ _ _ _ z=>by cases z) p hp⟩
  ·exact⟨lw,_,_,_,rfl,rfl,bC.of af,aN (j:=2) rfl,_,rfl,two,fun p hp=>fin (.all (rs.map fun r=>fW r c)) rfl rfl (fun _ _ _ _ z=>by cases z) p hp⟩
theorem lH (F:ee K "_law_small" "_law_small" eY f fd) : bc P w K mg base gE 1 f fd ["_law_figure_here"] hW:=by
 refine F.ok lT (fun vs H Q E h=>?_) (fun cdv A outer s H vs Q E hr h=>?_)
 ·obtain⟨p,n,f,rfl,_⟩:=h
  rfl
 ·obtain⟨p,n,f,rfl,hf,pn,k⟩:=h
  have two:(2:Nat)<=sizeLine:=by decide
  cases n with
  | zero=>exact hf.elim
  | succ n =>
  refine⟨_,ah (ap ((vO (f6 dA (ba bB (pv 0) (aa) (fun _ _=>rfl)) (bo (dI (ak) (ak))) rfl) (lO (f6 kL (aC aS (by rfl) T.len yr (cx (ba bB (pv 0) (aa) (fun _ _=>rfl)))) (aa) (aD _)))))),?_⟩;obtain⟨xs,hp⟩:=hf.hd;refine⟨_,rfl,p,_,0,_,rfl,rfl,bw.of hp,aN (j:=0) rfl,two,fun t ht=>⟨t,_,rfl,.inr (.inl (Rd.of af)),rfl,rfl,_,rfl,?_⟩⟩;have s1:=ag (o:=.tup [.str "pair",.str "name"]) ht;rcases pn with ⟨g,rfl⟩ | ⟨w,rfl⟩
  ·cases g with
   | pair a b=>exact aI (k _ _ s1)
   | quad a b c d =>
    obtain⟨q,e1,e2⟩:=hf.1;exact ei (fun _=>k _ _ s1) (fun _=>⟨_,rfl,p,_,1,_,rfl,rfl,bw.of (s1 _ _ e1),rfl,q,_,rfl,.inr (bw.of (s1 _ _ e2)),_,_,rfl,rfl,k _ _ s1⟩)
   | line g =>
    obtain⟨q,e1,e2⟩:=hf.1;exact ei (fun _=>k _ _ s1) (fun _=>⟨_,rfl,p,_,1,_,rfl,rfl,bw.of (s1 _ _ e1),rfl,q,_,rfl,.inr (bw.of (s1 _ _ e2)),_,_,rfl,rfl,k _ _ s1⟩)
   | star g =>
    obtain⟨q,e1,e2⟩:=hf.1;exact ei (fun _=>k _ _ s1) (fun _=>⟨_,rfl,p,_,1,_,rfl,rfl,bw.of (s1 _ _ e1),rfl,q,_,rfl,.inr (bw.of (s1 _ _ e2)),_,_,rfl,rfl,k _ _ s1⟩)
   | all g =>
    obtain⟨q,e1,e2⟩:=hf.1;exact ei (fun _=>k _ _ s1) (fun _=>⟨_,rfl,p,_,1,_,rfl,rfl,bw.of (s1 _ _ e1),rfl,q,_,rfl,.inr (bw.of (s1 _ _ e2)),_,_,rfl,rfl,k _ _ s1⟩)
  ·exact aI (k _ _ s1)
theorem jW (F:ee K "_law_wrapped" "_law_wrapped" bP f fd)(fv:aA P w K mg base "_law_small" 1 ["_law_figure_here"] hW) : bc P w K mg base gE 4 f fd ["_law_shelf","_law_drawn","_law_names"] jw:=by
 refine F.ok a8 (fun vs H Q E h=>?_) (fun cdv A outer s H vs Q E hr h=>?_)
 ·obtain⟨s,nm,d,ws,xs,rfl,_⟩:=h
  rfl
 ·obtain⟨s,nm,d,ws,xs,rfl,d0,sh,hn,wl,wn,ok,xl,okn,k⟩:=h
  have two:(2:Nat)<=sizeLine:=by decide
  have sl:sizeLine=16777216:=yK
  refine⟨_,ae (aZ 3 a8.nd (ai aT (pv 1) (aa))) (
   ae (aJ (PW.pt (fL (ao bz (pv 3) (aa) (aD _)) (eP (mZ (pv 2) (fun _=>rfl))))) (ae (cg (ek yx yB yC bD (pv 0) (cx (bo (dI (bo (dI (ak) (ba dj (pv 2) (ai aT (ai bv (pv 1) (aa)) (aC aS (by rfl) T.len yr (cx (pv 2)))) (fun _ _=>rfl)))) (aa)))))) (
   ah (oV))) (aq)) (
   ae (aZ 4 a8.nd (ai aV (aa) (ai aT (ai bv (pv 1) (aa)) (aa)))) (
   ae (aJ (ao bz (pv 3) (aa) (aD _)) (ah (aZ 4 a8.nd (aa))) (aq)) (
   ae (aZ 5 a8.nd (aX sE (pv 0) (aQ (ai lM (aC aS (by rfl) T.len yr (cx (pv 0))) (aC (kB rfl) (by rfl) T.bmin PyProof.Rows.boot_min (dI (pv 4) (aC aS (by rfl) T.len yr (cx (pv 0))))))) ca)) (
   ae (aZ 6 a8.nd (ai aV (aa) (sx rfl (by rfl) T.bmax (cx (b9 (so:=aj bP) (N:=cY) (N':=["_law_part"]) (src:=[none]) rfl rfl oF rfl (dm (pv 5)) (fun cl C s2 H2 ex=>⟨fJ 0 (show (["_law_part"]:List Str).Nodup by decide +kernel),ci,ba (jk K) (pv 0) (aa) (fun _ _=>rfl)⟩)))))) (
   ae (aJ (ao qK (pv 6) (aa) (aD _)) (ah (oV)) (aq)) (
   ae (gy zh rfl (dm (pv 5)) (fJ 7 a8.nd) (ah (cg (uL yx PySem.F.slot_list_pop PySem.F.type_list_pop uC (pv 0))))) (
   ah (aJ (ao bz (pv 3) (aa) (aD _)) (ah (cg (ek yx yB yC bD (pv 0) (cx (bo (dI (bo (dI (ak) (ba bB (ba dj (pv 5) (aa) (fun _ _=>rfl)) (aa) (fun _ _=>rfl)))) (pv 6))))))) (ae (aZ 8 a8.nd (aa)) (
   ae (aJ (PW.pt (fL (ao bz (pv 6) (aa) (aD _)) (fL (ao bz (ai aT (ai bv (pv 1) (aa)) (aa)) (aa) (aD _)) (eP (eO (aC (dz rfl) (by rfl) T.all zf (cx (b9 (so:=aj bP) (N:=cY) (N':=["_law_part"]) (src:=[none]) rfl rfl oF rfl (dm (pv 5)) (fun cl C s2 H2 ex=>⟨fJ 0 (show (["_law_part"]:List Str).Nodup by decide +kernel),ci,aW fv hr.m rfl (cx (ba (jk K) (pv 0) (aa) (fun _ _=>rfl)))⟩))))))))) (ah (aZ 8 a8.nd (ai aV (aa) (ai aT (ai bv (pv 1) (aa)) (aa))))) (aq)) (
   ah (cg (ek yx yB yC bD (pv 0) (cx (bo (dI (bo (dI (ak) (bO cA (by rfl) T.tuple yQ (cx (ai uI (b9 (so:=aj bP) (N:=cY) (N':=["_law_part"]) (src:=[none]) rfl rfl oF rfl (dm (pv 5)) (fun cl C s2 H2 ex=>⟨fJ 0 (show (["_law_part"]:List Str).Nodup by decide +kernel),ci,ba (jk K) (pv 0) (aa) (fun _ _=>rfl)⟩)) (pv 8)))))) (pv 6)))))))))))))))))),?_⟩
  obtain⟨ts,h1,pr⟩:=sh;obtain⟨us,rfl,rfl,hU⟩:=rZ pr;rw[y6]at h1;have h1:H s=some (.lst (us.map fun u=>V.ref u.1)):=h1;rw[x4]at xl;refine⟨_,rfl,_,_,rfl,rfl,by show (0:Int)<4;decide,?_⟩;refine⟨_,rfl,rfl,_,rfl,?_⟩
  apply j9 (fun σ HH=>H=HH/\σ=[some (.ref s),some (.int d),some (.ref nm),some (.int (d%4)),none,none,none,none,none])
  ·intro rest
   refine ei (fun _=>?_) (fun _=>au (rest _ _ ⟨rfl,rfl⟩));refine⟨_,rfl,!(ws.map V.str).isEmpty,.inl ⟨_,bC.of hn,rfl⟩,?_⟩;refine ei (fun ne=>?_) (fun _=>rest _ _ ⟨rfl,rfl⟩)
   have wpos:0<ws.length:=by cases ws with | nil=>cases ne | cons _ _=>exact Nat.succ_pos _
   have i0:0<=d/4%(ws.length:Int):=yX _ (by omega);have i1:d/4%(ws.length:Int)<ws.length:=yJ _ (by omega);obtain⟨j,hj⟩:=ze i0
   have hjl:j<ws.length:=by omega
   have hwj:=List.getElem?_eq_getElem hjl;refine⟨_,rfl,.inl ⟨rfl,_,bC.of h1⟩,_,rfl,_,rfl,_,_,rfl,rfl,⟨by decide,by decide⟩,_,rfl,nm,_,rfl,.inl (bC.of hn),_,_,rfl,rfl,by show (0:Int)<_;rw[x4];omega,nm,_,j,.str ws[j],rfl,by rw[x4,hj],bC.of hn,aN (j:=j) (by rw[List.getElem?_map,hwj];rfl),two,fun p hp=>⟨two,fun t ht=>?_⟩⟩;have s1:=ag (o:=.tup [.str "name",.str ws[j]]) hp;have s2:=s1.trans (ag (o:=.tup [.ref p,.int 1]) ht);refine⟨s,_,_,rfl,rfl,s2 _ _ h1,by rw[x4];omega,?_⟩
   have ts':t≠s:=fun z=>by rw[z,s1 _ _ h1]at ht;cases ht
   have kp:=(jK (s:=s) s2).trans (jm (o:=.lst ((us.map fun u=>V.ref u.1)++[.ref t])));have up:=kp.tup h1
   have hp2:bE (bE (bE H p (.tup [.str "name",.str ws[j]])) t (.tup [.ref p,.int 1])) s (.lst ((us.map fun u=>V.ref u.1)++[.ref t])) p=some (.tup [.str "name",.str ws[j]]):=by
    rw[aL (fun z=>by rw[z,h1]at hp;cases hp)];exact ag ht _ _ af
   refine k (us.map (·.2.2)++[(.name ws[j],1)]) _ (rf (jn hU) up (by rw[af,y6];rfl) ⟨p,by rw[aL ts',af];rfl,show bA 1 _ p (.name ws[j]) from ⟨hp2,by have:=jR (wl _ (List.getElem_mem hjl));omega⟩⟩) (qI ok ⟨x8 _,by show 1<=7;decide,fun _=>.inr ⟨_,rfl⟩⟩) (by rw[yb,yF];exact x8 _) (by rw[h8];exact x8 _) (jG okn (show aB.Good 1 (.name ws[j]) from wl _ (List.getElem_mem hjl))) (by rw[kf];exact x8 _) kp
  rintro σ HH ⟨rfl,rfl⟩;have n0:∀ x:Int,0<=x%3/\x%3<3:=fun x=>⟨yX _ (by decide),yJ _ (by decide)⟩;refine⟨_,rfl,_,_,rfl,rfl,⟨by decide,by decide⟩,_,_,rfl,rfl,by show (0:Int)<3;decide,_,_,rfl,rfl,?_⟩;refine⟨_,rfl,rfl,_,rfl,?_⟩
  apply j9 (fun σ HH=>∃ mn:Int,H=HH/\σ=[some (.ref s),some (.int d),some (.ref nm),some (.int (d%4)),some (.int mn),none,none,none,none]/\1<=mn/\mn<=3)
  ·intro rest
   have:=n0 (d/4);refine ei ?tt fun c=>rest _ _ ⟨1+d/4%3,rfl,rfl,by omega,by omega⟩;exact fun _=>rest [some (.ref s),some (.int d),some (.ref nm),some (.int (d%4)),some (.int 1),none,none,none,none] H ⟨1,rfl,rfl,by decide,by decide⟩
  rintro σ HH ⟨mn,rfl,rfl,mn1,mn3⟩;refine⟨_,rfl,_,rfl,s,_,rfl,.inl (bC.of h1),_,rfl,_,rfl,s,_,rfl,.inl (bC.of h1),_,_,rfl,_,_,rfl,rfl,_,rfl,s,_,rfl,bC.of h1,fun q hq=>?_⟩
  obtain⟨j,ej,jl,jl3⟩:∃ j:Nat,(((us.map fun u=>V.ref u.1).length:Int)-(if ((us.map fun u=>V.ref u.1).length:Int)<mn then ((us.map fun u=>V.ref u.1).length:Int) else mn))=(j:Int)/\j<=us.length/\us.length<=j+3:=by
   rw[x4];split
   ·exact⟨0,by omega,yT _,by omega⟩
   ·exact⟨us.length-mn.toNat,by omega,by omega,by omega⟩
  rw[ej,qm,<-List.map_drop]
  have hqs:q≠s:=fun z=>by rw[z,h1]at hq;cases hq
  have s1:=ag (o:=.lst ((us.drop j).map fun u=>V.ref u.1)) hq;have hq1:bE H q (.lst ((us.drop j).map fun u=>V.ref u.1)) q=some (.lst ((us.drop j).map fun u=>V.ref u.1)):=af;generalize bE H q (.lst ((us.drop j).map fun u=>V.ref u.1))=H1 at s1 hq1 ⊢
  have dl:(us.drop j).length<=3:=by rw[yn];omega
  have du:∀ u∈us.drop j,u∈us:=fun u hu=>List.mem_of_mem_drop hu;refine⟨_,rfl,q,rfl,⟨_,bC.of hq1⟩,fun c hc=>?_⟩;refine iC (fun u:mi=>V.ref u.1) (rs:=us.drop j) (f:=fun u=>.int u.2.2.2) hc hq1 (by omega) (fun u HK Q' hu sK kk=>⟨_,rfl,u.1,_,1,_,rfl,rfl,bw.of (sK _ _ (s1 _ _ (hU u (du u hu)).1)),rfl,kk HK (aG.refl _)⟩) (fun H2 s2 hc2=>?_);have s12:=s1.trans s2;have back:∀ H',aG H H'->Q .non H':=fun H' s=>k _ H' ⟨us.map (·.1),by rw[y6];exact s _ _ h1,jn fun u hu=>(hU u hu).mono fun _ _ z=>s _ _ z⟩ ok (Nat.le_succ _) (Nat.le_add_right _ _) okn (Nat.le_add_right _ _) (jK s);refine⟨c,(us.drop j).map (fun u=>(u.2.2.2:Int)),rfl,bC.of (by rw[hc2,y6];rfl),fun _=>?_,fun M hM hle=>?_⟩
  ·exact⟨_,_,rfl,rfl,_,rfl,_,_,rfl,rfl,_,rfl,aI (back _ s12)⟩
  refine⟨_,_,rfl,rfl,_,rfl,_,_,rfl,rfl,_,rfl,ei (fun _=>back _ s12) (fun c7=>?_)⟩;obtain⟨u0,hu0,rfl⟩:=yA.mp hM;generalize eM:u0.2.2.2=M at *
  have M7:M<=6:=by have:=of_decide_eq_false c7;omega
  have hle:∀ u∈us.drop j,u.2.2.2<=M:=fun u hu=>by have:=hle _ (yZ (f:=fun u:mi=>(u.2.2.2:Int)) hu);omega
  have okU:∀ u∈us,fj u.2.2:=fun u hu=>ok _ (yZ (f:=fun u:mi=>u.2.2) hu)
  have M1:1<=M:=by have:=(okU u0 (du _ hu0)).1;omega
  have hs2:=s12 _ _ h1;have hq2:=s2 _ _ hq1;refine⟨_,rfl,q,rfl,⟨_,bC.of hq2⟩,?_⟩
  refine dC (K:=K) (a:=q) (xs:=(us.drop j).map fun u=>V.ref u.1) (fun i σ HK=>∃ v:Option V,σ=[some (.ref s),some (.int d),some (.ref nm),some (.int (d%4)),some (.int mn),some (.ref q),some (.int (1+M)),v,none]/\p9 s H2 HK/\HK s=some (.lst ((us.take (us.length-i)).map fun u=>V.ref u.1)))
   ⟨none,rfl,jK (aG.refl _),by rw[Nat.sub_zero,zx];exact hs2⟩ (fun i σ HK _ ⟨_,_,kp,_⟩=>bC.of (kp _ _ hq2 hqs)) ?_ ?_
  ·rintro i y σ HK hi ⟨v,rfl,kp,hs⟩
   have hil:=(List.getElem?_eq_some_iff.mp hi).1;rw[x4,yn]at hil
   have hlt:us.length-i-1<us.length:=by omega
   refine⟨_,rfl,.inl ⟨rfl,_,bC.of hs⟩,s,_,V.ref us[us.length-i-1].1,rfl,rfl,hs,?_,_,rfl,kp.trans jm,?_⟩
   ·rw[x4,yM,zg (by omega),List.getElem?_map,List.getElem?_take_of_lt (by omega),List.getElem?_eq_getElem hlt];rfl
   ·rw[af,<-List.map_dropLast,List.dropLast_eq_take,List.take_take,yM]
    congr 4
    omega
  rintro σ H3 ⟨v,rfl,kp,hs3⟩;rw[x4,yn,show us.length-(us.length-j)=j by omega]at hs3;have hq3:=kp _ _ hq2 hqs;have kp:p9 s H H3:=(jK s12).trans kp;have up3:=kp.tup h1;have hU3:∀ u∈us,tY H3 u:=fun u hu=>(hU u hu).mono up3;have tU:∀ u∈us.take j,u∈us:=fun u hu=>List.mem_of_mem_take hu
  have wt:kh (us.map (·.2.2))=kh ((us.take j).map (·.2.2))+kh ((us.drop j).map (·.2.2)):=by rw[<-h8,<-yk,List.take_append_drop]
  have tw:tS (us.map (·.2.2))=tS ((us.take j).map (·.2.2))+tS ((us.drop j).map (·.2.2)):=by rw[<-kf,<-yk,List.take_append_drop]
  have tlen:(us.take j).length<=us.length:=by rw[yM];omega
  clear hq2 hs2 hc2 back
  have fin:∀ (f:aB)(H4:Hp)(p t:Addr),aG H3 H4->H4 t=some (.tup [.ref p,.int (1+M)])->bA (M+1) H4 p f->sQ (f,M+1)<=kh ((us.drop j).map (·.2.2))->aB.Good (M+1) f->f.txt.length+1<=tS ((us.drop j).map (·.2.2))+10->Q .non (bE H4 s (.lst (((us.take j).map fun u=>V.ref u.1)++[.ref t]))):=fun f H4 p t s4 ht hf hw hwn hwt=>by
   have hs4:=s4 _ _ hs3
   have ts':t≠s:=fun z=>by rw[z,hs4]at ht;cases ht
   have kp4:p9 s H3 (bE H4 s (.lst (((us.take j).map fun u=>V.ref u.1)++[.ref t]))):=(jK s4).trans jm;have up4:=(jm (s:=s) (H:=H4) (o:=.lst (((us.take j).map fun u=>V.ref u.1)++[.ref t]))).tup hs4;refine k ((us.take j).map (·.2.2)++[(f,M+1)]) _ (rf (jn fun u hu=>hU3 u (tU u hu)) (kp4.tup hs3) (by rw[af,y6];rfl) ⟨p,up4 _ _ (by rw[ht,show (1+(M:Int))=((M+1:Nat):Int) by omega]),hf.mono up4⟩) (qI (fun x hx=>?_) ⟨by show 1<=M+1;omega,by show M+1<=7;omega,fun z=>by have z:M+1=1:=z;omega⟩) (by rw[yb,yF,x4,x4];omega) (by rw[h8,wt];show _+(sQ (f,M+1)+0)<=_;omega) (jG (fun x hx=>?_) hwn) (by rw[kf,tw];show _+(tI (f,M+1)+0)<=_;unfold tI;rw[yf (show ¬ (M+1=1) by omega)];show _+(f.txt.length+1+0)<=_;omega) (kp.trans kp4)
   ·obtain⟨u,hu,rfl⟩:=yA.mp hx
    exact okU u (tU u hu)
   ·obtain⟨u,hu,rfl⟩:=yA.mp hx
    exact okn _ (yZ (f:=fun u:mi=>u.2.2) (tU u hu))
  refine⟨_,rfl,rfl,_,rfl,?_⟩;refine ei (fun _=>?_) (fun _=>?_)
  ·cases ed:us.drop j with
   | nil=>rw[ed]at hu0;cases hu0
   | cons u ur =>
    have um:u∈us.drop j:=by rw[ed];exact ya
    have hU:=hU3 u (du u um);rw[ed]at hq3;refine⟨_,rfl,.inl ⟨rfl,_,bC.of hs3⟩,_,rfl,q,_,0,_,rfl,rfl,bC.of hq3,aN (j:=0) rfl,u.1,_,0,_,rfl,rfl,bw.of hU.1,aN (j:=0) rfl,two,fun p hp=>⟨_,rfl,two,fun t ht=>?_⟩⟩;have s4:=(ag (o:=.tup [.str "back",.ref u.2.1]) hp).trans (ag (o:=.tup [.ref p,.int (1+M)]) ht);refine⟨s,_,_,rfl,rfl,s4 _ _ hs3,by rw[x4];omega,fin (.back u.2.2.1) _ p t s4 af ⟨u.2.1,ag ht _ _ af,(hU.2.le (hle u um)).mono fun _ _ z=>s4 _ _ z⟩ ?_ (show aB.Good (M+1) (.back u.2.2.1) from (okn _ (yZ (f:=fun u:mi=>u.2.2) (du u um))).le (hle u um)) (by rw[mo,ed,yD,tS];have:=ro (okU u (du u um)) (okn _ (yZ (f:=fun u:mi=>u.2.2) (du u um)));omega)⟩;have:=(okU u (du u um)).few;rw[ed,yD,kh];unfold sQ at *;rw[yf (show ¬ (M+1=1) by omega)]
    show (aB.back _).names.length<=_
    rw[aB.names];omega
  ·have nt:∀ x:Int,0<=x%20/\x%20<20:=fun x=>⟨yX _ (by decide),yJ _ (by decide)⟩
   refine⟨_,rfl,rfl,_,rfl,?_⟩
   apply j9 (fun σ HH=>∃ n:Nat,aG H3 HH/\σ=[some (.ref s),some (.int d),some (.ref nm),some (.int (d%4)),some (.int mn),some (.ref q),some (.int (1+M)),v,some (.int n)]/\(1<=n/\(n=1\/(n<=20/\∀ x∈(us.drop j).map (·.2.2),x.2=1))))
   ·intro rest
    refine ei ?tw1 fun _=>au (rest _ _ ⟨1,aG.refl _,rfl,x8 _,.inl rfl⟩);intro c2
    have M1':M=1:=by have:=V.int.inj (yI c2);omega
    have one:∀ x∈(us.drop j).map (·.2.2),x.2=1:=fun x hx=>by
     obtain⟨u,hu,rfl⟩:=yA.mp hx;have:=hle u hu;have:=(okU u (du u hu)).1;omega
    refine⟨_,rfl,_,_,rfl,rfl,⟨by decide,by decide⟩,_,_,rfl,rfl,by show (0:Int)<5;decide,rfl,_,rfl,?_⟩;refine ei ?tw2 fun _=>au (rest _ _ ⟨1,aG.refl _,rfl,x8 _,.inl rfl⟩);intro _;refine⟨_,rfl,q,rfl,⟨_,bC.of hq3⟩,fun c hc=>?_⟩;refine pd (fun u:mi=>V.ref u.1) (rs:=us.drop j) hc hq3 (by omega) (fun u HK Q' hu sK kk=>?_) (fun H4 bs s4 hc4=>?_)
    ·have hU:=(hU3 u (du u hu)).mono fun _ _ z=>sK _ _ z
     exact⟨_,rfl,u.1,_,0,_,rfl,rfl,bw.of hU.1,aN (j:=0) rfl,u.2.1,_,_,rfl,hU.2,(okU u (du u hu)).2.2 (one _ (yZ (f:=fun u:mi=>u.2.2) hu)),fun H5 b s5=>kk H5 b s5⟩
    refine⟨c,bs,rfl,bC.of hc4,_,rfl,ei ?tw3 fun _=>rest _ _ ⟨1,s4,rfl,x8 _,.inl rfl⟩⟩;intro _;refine⟨_,rfl,_,_,rfl,rfl,⟨by decide,by decide⟩,_,_,rfl,rfl,by show (0:Int)<20;decide,_,_,rfl,rfl,?_⟩;have:=nt (d/60);obtain⟨n,en⟩:=ze this.1;rw[en];exact rest [some (.ref s),some (.int d),some (.ref nm),some (.int (d%4)),some (.int mn),some (.ref q),some (.int (1+M)),v,some (.int (1+n))] H4 ⟨1+n,s4,by rw[zE];rfl,by omega,.inr ⟨by omega,one⟩⟩
   rintro σ H4 ⟨n,s4,rfl,p1,hn⟩;have hq4:=s4 _ _ hq3;refine⟨_,rfl,.inl ⟨rfl,_,bC.of (s4 _ _ hs3)⟩,_,rfl,q,rfl,⟨_,bC.of hq4⟩,fun c hc=>?_⟩;refine iC (fun u:mi=>V.ref u.1) (rs:=us.drop j) (f:=fun u=>.ref u.2.1) hc hq4 (by omega) (fun u HK Q' hu sK kk=>⟨_,rfl,u.1,_,0,_,rfl,rfl,bw.of (sK _ _ (s4 _ _ (hU3 u (du u hu)).1)),aN (j:=0) rfl,kk HK (aG.refl _)⟩) (fun H5 s5 hc5=>?_)
   have n20:n<=20:=by rcases hn with z | z<;>omega
   have fl:(us.drop j).length*n<=3*20:=Nat.mul_le_mul dl n20;refine⟨_,rfl,c,n,_,rfl,rfl,hc5,by omega,by omega,by rw[x4,zF];omega,fun l hl=>?_⟩;rw[zF,iD (fun u:mi=>V.ref u.2.1)];refine⟨l,_,rfl,.inl ⟨bC.of af,fun t2 ht2=>⟨two,fun p hp=>⟨_,rfl,two,fun t ht=>?_⟩⟩⟩⟩;have s6:=(s4.trans s5).trans (((ag hl).trans (ag ht2)).trans ((ag hp).trans (ag (o:=.tup [.ref p,.int (1+M)]) ht)));refine⟨s,_,_,rfl,rfl,s6 _ _ hs3,by rw[x4];omega,fin (.row (List.replicate n ((us.drop j).map (·.2.2.1))).flatten) _ p t s6 af ⟨t2,(List.replicate n ((us.drop j).map (·.2.1))).flatten,ag ht _ _ af,((ag hp).trans (ag ht)) _ _ (by rw[af,iD,y6];rfl),by rw[jN,x4,Nat.mul_comm];omega,ja (oJ (fun u hu=>(hU3 u (du u hu)).mono fun _ _ z=>s6 _ _ z) hle) n⟩ ?_ (pw (fun f hf=>?_) n ?_ ?_) ?_⟩
   ·have:=va (k:=n) (d:=M+1) (fun x hx=>?_) (by omega) hn
    ·rw[y6]at this;exact this
    obtain⟨u,hu,rfl⟩:=yA.mp hx;exact okU u (du u hu)
   ·obtain⟨u,hu,rfl⟩:=yA.mp hf
    exact (okn _ (yZ (f:=fun u:mi=>u.2.2) (du u hu))).le (hle u hu)
   ·rw[x4]
    have p2:0<(us.drop j).length:=List.length_pos_of_mem hu0;exact Nat.mul_le_mul p1 p2
   ·rw[x4,Nat.mul_comm]
    omega
   ·have:=uY (k:=n) (fun x hx=>?_) (fun x hx=>?_) hn
    ·rw[y6]at this
     have this:(aB.row (List.replicate n ((us.drop j).map fun u=>u.2.2.1)).flatten).txt.length+1<=tS ((us.drop j).map (·.2.2))+6:=this
     show (aB.row (List.replicate n ((us.drop j).map fun u=>u.2.2.1)).flatten).txt.length+1<=_
     omega
    ·obtain⟨u,hu,rfl⟩:=yA.mp hx
     exact okU u (du u hu)
    ·obtain⟨u,hu,rfl⟩:=yA.mp hx
     exact okn _ (yZ (f:=fun u:mi=>u.2.2) (du u hu))
theorem ko (F:ee K "_law_figure" "_law_figure" cZ f fd)(fm:aA P w K mg base "_law_plain" 3 ["_law_drawn","_law_cell"] lZ)(d5:aA P w K mg base "_law_wrapped" 4 ["_law_shelf","_law_drawn","_law_names"] jw)(bp:aA P w K mg base "_law_guest" 2 ["_law_k","_law_cell"] g8) : bc P w K mg base gE 5 f fd ["_law_draws_here","_law_cell","_law_names"] jr:=by
 refine F.ok d8 (fun vs H Q E h=>?_) (fun cdv A outer s H vs Q E hr h=>?_)
 ·obtain⟨l,nm,c,ds,ws,rfl,_⟩:=h
  rfl
 ·obtain⟨l,nm,c,ds,ws,rfl,hl,d0,dl,hn,wl,wn,k⟩:=h
  have two:(2:Nat)<=sizeLine:=by decide
  have sl:sizeLine=16777216:=yK
  refine⟨_,ae (aZ 3 d8.nd (d6 bn)) (
   ae (gy zh rfl (dm (pv 0)) (fJ 4 d8.nd) (ah (aJ (ao bz (ai aT (pv 4) (aa)) (aa) (aD _)) (ah (cg (ek yx yB yC bD (pv 3) (cx (bo (dI (aW fm hr.m rfl (dI (ai bv (pv 4) (aa)) (pv 1))) (aa))))))) (ah (cg (aW d5 hr.m rfl (mW (pv 3) (ai bv (pv 4) (aa)) (pv 2)))))))) (
   ae (aJ (cH (mZ (pv 3) (fun _=>rfl))) (ah (ap (bo (dI (ak) (bo (dI (aW bp hr.m rfl (dI (aa) (pv 1))) (aW bp hr.m rfl (dI (aa) (pv 1))))))))) (aq)) (
   ae (aJ (ao bz (aC aS (by rfl) T.len yr (cx (pv 3))) (aa) (aD _)) (ah (ap (ba bB (ba dj (pv 3) (aa) (fun _ _=>rfl)) (aa) (fun _ _=>rfl)))) (aq)) (
   ah (ap (bo (dI (ak) (bO cA (by rfl) T.tuple yQ (cx (b9 (so:=aj cZ) (N:=gR) (N':=["_law_part"]) (src:=[none]) rfl rfl oF rfl (dm (pv 3)) (fun cl C s2 H2 ex=>⟨fJ 0 (show (["_law_part"]:List Str).Nodup by decide +kernel),ci,ba (jk K) (pv 0) (aa) (fun _ _=>rfl)⟩))))))))))),?_⟩
  refine⟨yT _,fun s hs=>⟨_,rfl,l,rfl,⟨_,bC.of (ag hs _ _ hl)⟩,?_⟩⟩
  refine dC (K:=K) (a:=l) (xs:=ds.map V.int) (fun i σ HK=>∃ (v:Option V)(xs:List (aB×Nat)),σ=[some (.ref l),some (.int c),some (.ref nm),some (.ref s),v]/\aG H HK/\rL HK s xs/\(∀ x∈xs,fj x)/\xs.length<=i/\kh xs<=20*i/\(∀ x∈xs,aB.Good x.2 x.1)/\tS xs<=16030*i)
   ⟨none,[],rfl,ag hs,⟨[],af,.nil⟩,(fun x hx=>nomatch hx),x8 _,x8 _,(fun x hx=>nomatch hx),x8 _⟩ (fun i σ HK _ ⟨_,_,_,s2,_⟩=>bC.of (s2 _ _ hl)) ?_ ?_
  ·rintro i y σ HK hi ⟨v,xs,rfl,s2,sh,ok,xl,xw,okn,xt⟩
   obtain⟨d,hd,rfl⟩:=dk hi;have hil:=(List.getElem?_eq_some_iff.mp hd).1;have dd:=d0 d (yH hd);obtain⟨ts,h1,pr⟩:=id sh;have tl:=zj pr;refine⟨_,rfl,_,_,rfl,rfl,by show (0:Int)<2;decide,rfl,_,rfl,?_⟩;refine ei (fun _=>?_) (fun _=>?_)
   ·refine⟨_,rfl,.inl ⟨rfl,_,bC.of h1⟩,_,rfl,_,_,rfl,rfl,⟨by decide,by decide⟩,_,rfl,_,c,rfl,by omega,fun p f H1 hp s3 fa fo fg=>⟨two,fun t ht=>?_⟩⟩
    have h2:=ag (o:=.tup [.ref p,.int 1]) ht _ _ (s3 _ _ h1);refine⟨s,_,_,rfl,rfl,h2,by rw[x4];omega,?_⟩
    have up:∀ b ys,H1 b=some (.tup ys)->bE (bE H1 t (.tup [.ref p,.int 1])) s (.lst (ts.map V.ref++[.ref t])) b=some (.tup ys):=fun b ys e=>by
     rw[aL (fun z=>by rw[z,s3 _ _ h1]at e;cases e)];exact ag ht _ _ e
    have ts':t≠s:=fun z=>by rw[z,s3 _ _ h1]at ht;cases ht
    refine⟨_,xs++[(.pl f,1)],rfl,cE ((s2.trans s3).trans (ag ht)) hs,⟨ts++[t],by rw[af,yk];rfl,cD (Paired.mapP pr fun _ _ z=>z.mono fun b ys e=>up b ys (s3 _ _ e)) (.cons ⟨p,by rw[aL ts',af];rfl,bA.mono (n:=1) up (show bA 1 H1 p (.pl f) from ⟨fa,fo⟩)⟩ .nil)⟩,fun x hx=>?_,by rw[yb,yF];omega,by rw[h8];show kh xs+(20+0)<=_;omega,jG okn (show aB.Good 1 (.pl f) from ⟨fo,fg⟩),by rw[kf];show tS xs+(16030+0)<=_;omega⟩;rcases yL.mp hx with z | z
    ·exact ok x z
    ·rw[yu.mp z];exact⟨x8 _,by show 1<=7;decide,fun _=>.inl ⟨f,rfl⟩⟩
   ·refine⟨_,rfl,_,rfl,_,_,rfl,rfl,⟨by decide,by decide⟩,_,rfl,s,nm,_,ws,xs,rfl,by omega,sh,s2 _ _ hn,wl,wn,ok,by omega,okn,fun ys H' sh' ok' yl yw okn' yt kp=>?_⟩
    exact⟨_,ys,rfl,fun a o e=>kp a o (s2 _ _ e) (bT e hs),sh',ok',by omega,by omega,okn',by omega⟩
  rintro σ HK ⟨v,xs,rfl,s2,sh,ok,xl,xw,okn,xt⟩;obtain⟨ts,h1,pr⟩:=sh;have tl:=zj pr;rw[x4]at xl xw xt;have nw:=iS xs ok
  cases pr with
  | nil =>
   have lg:∀ g∈(cN.line [fW 0 c,fW 1 c]).gs,mh g:=fun g hg=>by
    rcases yh.mp hg with rfl | hg
    ·exact fX _ _
    ·rw[yu.mp hg];exact fX _ _
   have lok:(cN.line [fW 0 c,fW 1 c]).Ok:=⟨by show (2:Nat)<=2;decide,by show (2:Nat)<=60;decide,fun _ _ _ _ z=>by cases z⟩;refine⟨_,rfl,false,.inl ⟨_,bC.of h1,rfl⟩,?_⟩;refine aI ⟨_,rfl,0,c,rfl,⟨by decide,by decide⟩,_,rfl,1,c,rfl,⟨by decide,by decide⟩,two,fun q hq=>⟨two,fun p hp=>?_⟩⟩;refine k p (.pl (.line [fW 0 c,fW 1 c])) _ (s2.trans ((ag hq).trans (ag hp))) (bA.le (n:=1) ⟨⟨q,af,ag hp _ _ af⟩,⟨by show (2:Nat)<=2;decide,by show (2:Nat)<=60;decide,fun _ _ _ _ z=>by cases z⟩⟩ (by decide)) (by rw[aB.names];exact yT _) (show aB.Good 8 (.pl (.line [fW 0 c,fW 1 c])) from ⟨lok,lg⟩) (yR (jL (x:=(.pl (.line [fW 0 c,fW 1 c]),1)) ⟨x8 _,by show 1<=7;decide,fun _=>.inl ⟨_,rfl⟩⟩ rfl (show aB.Good 1 (.pl (.line [fW 0 c,fW 1 c])) from ⟨lok,lg⟩)) (by decide))
  | cons a pr2 =>
   rename_i t x ts2 xs2
   refine⟨_,rfl,true,.inl ⟨_,bC.of h1,rfl⟩,?_⟩;refine au ⟨_,rfl,s,_,rfl,.inl (bC.of h1),rfl,_,rfl,?_⟩;refine ei (fun _=>?_) (fun _=>?_)
   ·obtain⟨p,e1,e2⟩:=a
    have o:=ok x ya;have:=o.2.1;have f1:=o.few;rw[kh]at xw;exact⟨_,rfl,s,_,0,_,rfl,rfl,bC.of h1,aN (j:=0) rfl,t,_,0,_,rfl,rfl,bw.of e1,aN (j:=0) rfl,k p x.1 HK s2 (e2.le (by omega)) (by omega) ((okn x ya).le (by omega)) (by have:=ro (ok x ya) (okn x ya);rw[tS]at xt;omega)⟩
   ·obtain⟨ps,p1,p2⟩:=qx (.cons a pr2) ok
    have pl:=zj p1;have pl2:=zj p2;refine⟨_,rfl,s,rfl,⟨_,bC.of h1⟩,fun q hq=>?_⟩
    refine dC (K:=K) (a:=s) (xs:=(t::ts2).map V.ref) (fun i σ H2=>∃ v:Option V,σ=[v]/\aG HK H2/\H2 q=some (.lst ((ps.take i).map V.ref)))
     ⟨none,rfl,ag hq,af⟩ (fun i σ H2 _ ⟨_,_,s3,_⟩=>bC.of (s3 _ _ h1)) ?_ ?_
    ·rintro i y σ H2 hi ⟨v,rfl,s3,hq2⟩
     obtain⟨u,hu,rfl⟩:=dk hi;obtain⟨p,hp,n,e⟩:=eL p1 hu;refine c5 ⟨_,rfl,u,_,0,_,rfl,rfl,bw.of (s3 _ _ e),aN (j:=0) rfl,_,hq2,by rw[x4,yM];omega,_,rfl,cE s3 hq,?_⟩;rw[af,zr,hp,zn,yk];rfl
    rintro σ H2 ⟨v,rfl,s3,hq2⟩;rw[x4,pl,zx]at hq2;refine⟨q,_,rfl,.inl ⟨bC.of hq2,fun t2 ht2=>⟨two,fun p hp=>?_⟩⟩⟩;have s4:=s3.trans ((ag (o:=.tup (ps.map V.ref)) ht2).trans (ag (o:=.tup [.str "row",.ref t2]) hp));refine k p (.row ((x::xs2).map (·.1))) _ (s2.trans s4) (bA.le (n:=8) ⟨t2,ps,af,ag hp _ _ af,?_,Paired.mapP p2 fun _ _ z=>z.mono fun _ _ e=>s4 _ _ e⟩ (by decide)) (by rw[aB.names];omega) (show aB.Good 8 (.row ((x::xs2).map (·.1))) from ⟨by rw[x4];exact Nat.succ_pos _,by rw[x4];omega,fun f hf=>by obtain⟨y,hy,rfl⟩:=yA.mp hf;exact (okn y hy).le (ok y hy).2.1⟩) (by rw[lS];have:=rz ok okn;omega);rw[x4];omega
theorem gv (F:ee K "_law_figure_text" "_law_figure_text" bu f fd){n:Nat}(hn:n<=9)(a6:aA P w K mg base "_law_figure_text" (n+1) ["_law_figure_here"] (iP n)):bc P w K mg base gE (n+1+1) f fd ["_law_figure_here"] (iP (n+1)):=by
 refine F.ok bU (fun vs H Q E h=>?_) (fun cdv A outer s H vs Q E hr h=>?_)
 ·obtain⟨p,f,rfl,_⟩:=h
  rfl
 ·obtain⟨p,f,rfl,hf,g,tl,k⟩:=h
  have sl:sizeLine=16777216:=yK
  refine⟨_,ae (aZ 1 bU.nd (ba bB (pv 0) (aa) (fun _ _=>rfl))) (
   ae (aJ (ao bz (pv 1) (ak) (aD _)) (ah (ap (ba bB (pv 0) (aa) (fun _ _=>rfl)))) (aq)) (
   ae (aJ (ao bz (pv 1) (ak) (aD _)) (ah (ap (ai ay (ai ay (ak) (aW a6 (hr.mono (by omega)) rfl (cx (ba bB (pv 0) (aa) (fun _ _=>rfl))))) (ak)))) (aq)) (
   ae (aJ (ao bz (pv 1) (ak) (aD _)) (ah (ap (ai ay (ai ay (ak) (oU K (ak) (b9 (so:=aj bu) (N:=cR) (N':=["_law_part"]) (src:=[none]) rfl rfl oF rfl (oj (ba bB (pv 0) (aa) (fun _ _=>rfl))) (fun cl C s2 H2 ex=>⟨fJ 0 (show (["_law_part"]:List Str).Nodup by decide +kernel),ci,aW a6 (hr.mono (by omega)) rfl (cx (pv 0))⟩)))) (ak)))) (aq)) (
   ae (aZ 2 bU.nd (bO gL (by rfl) T.list PyProof.Rows.boot_list (cx (aX rg (pv 0) (aQ (aa)) ca)))) (
   ae (aJ (ao i9 (pv 1) (ak) (aD _)) (ah (aZ 2 bU.nd (bO gL (by rfl) T.list PyProof.Rows.boot_list (cx (ba bB (pv 0) (aa) (fun _ _=>rfl)))))) (aq)) (
   ah (ap (ai ay (ai ay (ai ay (ai ay (ak) (pv 1)) (ak)) (oU K (ak) (b9 (so:=aj bu) (N:=cR) (N':=["_law_guest_here"]) (src:=[none]) rfl rfl oF rfl (dm (pv 2)) (fun cl C s2 H2 ex=>⟨fJ 0 (show (["_law_guest_here"]:List Str).Nodup by decide +kernel),ci,bO qh (by rfl) T.str PyProof.Rows.boot_str (cx (pv 0))⟩)))) (ak))))))))),?_⟩
  obtain⟨xs,hp⟩:=hf.hd;refine⟨_,rfl,p,_,0,_,rfl,rfl,bw.of hp,aN (j:=0) rfl,?_⟩;refine⟨_,rfl,rfl,_,rfl,?_⟩
  have b1:(Str.ofString " ").length=1:=by decide +kernel
  have b2:(Str.ofString ")").length=1:=by decide +kernel
  have b3:(Str.ofString "(").length=1:=by decide +kernel
  have b4:(Str.ofString "(back ").length=6:=by decide +kernel
  have b5:(Str.ofString "(row ").length=5:=by decide +kernel
  have la:∀ x y:Str,(x++y).length=x.length+y.length:=strLen_append
  cases f with
  | name w =>
   rw[tD];refine aI ⟨_,rfl,p,_,1,_,rfl,rfl,bw.of hf.1,rfl,?_⟩;have:=k H (aG.refl _);rw[aB.txt,nJ]at this;exact this
  | back f =>
   rw[tz];refine au ⟨_,rfl,rfl,_,rfl,?_⟩;rw[tv];obtain⟨q,e1,e2⟩:=hf;have bt:=mo f;refine aI ⟨_,rfl,p,_,1,_,rfl,rfl,bw.of e1,rfl,q,f,rfl,e2,g,by omega,fun H1 s1=>⟨_,_,rfl,rfl,by rw[c6];omega,_,_,rfl,rfl,by rw[la,c6];omega,?_⟩⟩;rw[rP];exact k H1 s1
  | row fs =>
   rw[tH];refine au ⟨_,rfl,rfl,_,rfl,?_⟩;rw[tG];refine au ⟨_,rfl,rfl,_,rfl,?_⟩;rw[tK];obtain⟨t,as,e1,e2,fl,pr⟩:=hf;have al:=zj pr;have fl60:=g.2.1;refine aI ⟨rfl,_,rfl,p,_,1,_,rfl,rfl,bw.of e1,rfl,t,rfl,⟨_,bw.of e2⟩,fun q hq=>?_⟩
   refine lc (K:=K) (a:=t) (xs:=as.map V.ref) (fun i σ HK=>∃ v:Option V,σ=[v]/\aG H HK/\HK q=some (.lst (((fs.take i).map fun f=>toS f.txt).map V.str)))
    ⟨none,rfl,ag hq,af⟩ (fun i σ HK _ ⟨_,_,s2,_⟩=>bw.of (s2 _ _ e2)) ?_ ?_
   ·rintro i y σ HK hi ⟨v,rfl,s2,hq2⟩
    obtain⟨a,ha,rfl⟩:=dk hi;obtain⟨u,hu,hA⟩:=eL pr ha;have um:=yH hu;have:=nc um;refine c5 ⟨_,rfl,a,u,rfl,hA.mono (fun _ _ z=>s2 _ _ z),g.2.2 u um,by omega,fun H5 s5=>⟨_,s5 _ _ hq2,by rw[x4,x4,yM];exact bZ (by omega),_,rfl,cE (s2.trans s5) hq,?_⟩⟩;rw[af,zr,hu,zn,yk,yk];rfl
   rintro σ HK ⟨v,rfl,s2,hq2⟩;rw[x4,al,zx]at hq2
   have jl:(Txt.join (Str.ofString " ") (fs.map fun f=>toS f.txt)).length<=200000:=by
    have:=zc Str.length (q8 g.1);rw[c6,la,la]at this;omega
   refine⟨_,q,fs.map fun f=>toS f.txt,rfl,rfl,bC.of hq2,oP (B:=200000) (fun y hy=>?_) ?_,_,_,rfl,rfl,by omega,_,_,rfl,rfl,by rw[la];omega,?_⟩
   ·obtain⟨u,hu,rfl⟩:=yA.mp hy
    have:=nc hu;rw[c6];omega
   ·rw[x4,b1]
    omega
   rw[q8 g.1];exact k HK s2
  | pl f =>
   obtain⟨hA,ok⟩:=hf;have gs:=g.2;have ok1:=ok.1;have ok2:=ok.2.1;rw[tF];refine au ⟨_,rfl,rfl,_,rfl,?_⟩;rw[tE];refine au ⟨_,rfl,rfl,_,rfl,?_⟩;rw[wo];refine au ⟨_,rfl,_,rfl,p,_,rfl,bw.of hp,?_,fun t1 ht1=>?_⟩
   ·intro z
    have z1:=z.1;rw[show (1:Int)=((1:Nat):Int) from rfl,HT.sIx_nat,yy]at z1;omega
   rw[sX,List.drop_succ_cons,List.drop_zero];have s1:=ag (o:=.tup xs) ht1;refine⟨t1,_,rfl,.inr (bw.of af),fun l1 hl1=>?_⟩;have s2:=s1.trans (ag (o:=.lst xs) hl1);refine⟨_,rfl,rfl,_,rfl,?_⟩
   apply j9 (fun σ HH=>∃ lg:Addr,σ=[some (.ref p),some (.str f.word),some (.ref lg)]/\aG H HH/\HH lg=some (.lst (f.gs.map V.int)))
   ·intro rest
    by_cases cp:f.isP=true
    ·obtain⟨a,b,rfl⟩:∃ a b,f=.pair a b:=by
      cases f with
      | pair a b=>exact⟨a,b,rfl⟩
      | _=>cases cp
     have hp2:H p=some (.tup [.str "pair",.int a,.int b]):=hA
     have ex:xs=[.int a,.int b]:=by
      have:=hp.symm.trans hp2;injection this with this;injection this with this;injection this
     subst ex;rw[show decide (V.str (aB.pl (.pair a b)).word=V.str (Str.ofString "pair"))=true from x5 rfl];exact au (rest _ _ ⟨l1,rfl,s2,af⟩)
    ·have cp:f.isP=false:=by cases e:f.isP with | true=>exact absurd e cp | false=>rfl
     obtain⟨q,e1,e2⟩:=hA.gr cp
     have wn:decide (V.str (aB.pl f).word=V.str (Str.ofString "pair"))=false:=by
      cases f with
      | pair a b=>cases cp
      | line g=>show decide (V.str (Str.ofString "line")=V.str (Str.ofString "pair"))=false;decide +kernel
      | star g=>show decide (V.str (Str.ofString "star")=V.str (Str.ofString "pair"))=false;decide +kernel
      | all g=>show decide (V.str (Str.ofString "all")=V.str (Str.ofString "pair"))=false;decide +kernel
      | quad a b c d=>show decide (V.str (Str.ofString "quad")=V.str (Str.ofString "pair"))=false;decide +kernel
     rw[wn];exact aI ⟨_,rfl,p,_,1,_,rfl,rfl,bw.of (s2 _ _ e1),rfl,q,_,rfl,.inr (bw.of (s2 _ _ e2)),fun l2 hl2=>vz (rest _ _ ⟨l2,rfl,s2.trans (ag hl2),af⟩)⟩
   rintro σ H3 ⟨lg,rfl,s3,hlg⟩
   have wl:f.word.length<=4:=by rw[bH];exact qV f
   refine⟨_,rfl,_,_,rfl,rfl,by omega,_,_,rfl,rfl,by rw[la];omega,rfl,_,rfl,lg,rfl,⟨_,bC.of hlg⟩,fun c hc=>?_⟩;refine iC (fun x:Int=>V.int x) (rs:=f.gs) (f:=fun x=>.str (gS x)) hc hlg (by omega) (fun x HK Q' hx sK kk=>⟨_,rfl,.inr ⟨x,rfl,nN (gs x hx),kk HK (aG.refl _)⟩⟩) (fun H4 s4 hc4=>?_)
   have jl:(Txt.join (Str.ofString " ") (f.gs.map gS)).length<=200000:=by
    have:=zc Str.length (sZ (f:=f) (by omega));rw[c6,la,la,la,la]at this;omega
   refine⟨_,c,f.gs.map gS,rfl,rfl,bC.of (by rw[hc4,y6];rfl),oP (B:=100) (fun y hy=>?_) ?_,_,_,rfl,rfl,by rw[la,la];omega,_,_,rfl,rfl,by rw[la,la,la];omega,?_⟩
   ·obtain⟨x,hx,rfl⟩:=yA.mp hy
    have:=(iF (gs x hx)).2;rw[bH];omega
   ·rw[x4,b1]
    omega
   rw[sZ (by omega)];exact k _ (s3.trans s4)
theorem mS (F:ee K "_law_read" "_law_read" fO f fd)(Cread_figure:bR P w K mg base "read_figure" 38 ["text"] (o0 P0 ax am cF)) : bc P w K mg base gE 39 f fd ["_law_text"] (l9 P0 ax am):=by
 refine F.ok dZ (fun vs H Q E h=>?_) (fun cdv A outer s H vs Q E hr h=>?_)
 ·obtain⟨z,rfl,_⟩:=h
  rfl
 ·obtain⟨z,rfl,asc,zl,tI,k1,k2⟩:=h
  refine⟨_,ae (aZ 1 dZ.nd (oh)) (
   ae (xb (i:=1) Cread_figure hr.m rfl (cx (pv 0)) rfl rfl dZ.nd rfl (Or.inl rfl) (sy rfl UO.mF (fun ea oe=>ah (aZ 1 dZ.nd (ak))) uP)) (
   ah (ap (pv 1)))),?_⟩
  refine⟨_,rfl,z,rfl,asc,zl,tI,fun f hf p H' g t hF=>?_,fun hn H' g t=>?_⟩
  ·exact⟨_,rfl,k1 f hf p H' g t hF⟩
  ·exact⟨_,UO.ff,aI ⟨_,rfl,k2 hn H' g t⟩⟩
theorem gx (F:ee K "_law_guests_good" "_law_guests_good" bW f fd)(fz:aA P w K mg base "_law_whole" 1 ["_law_found"] jv) : bc P w K mg base gE 2 f fd ["_law_found","_law_least","_law_most"] (sG K):=by
 refine F.ok gA (fun vs H Q E h=>?_) (fun cdv A outer s H vs Q E hr h=>?_)
 ·obtain⟨q,lo,hi,gs,rfl,_⟩:=h
  rfl
 ·obtain⟨q,lo,hi,gs,rfl,hq,h1,h2,gd,gl,k⟩:=h
  refine⟨_,ae (aJ (PW.pt (gX (cH (eO (aC dB (by rfl) T.isinstance yW (aO (pv 0) (aO (eN (v:=.ty "tuple") (by rfl) T.tuple yQ rfl) bn))))) (gz (cH (et dR dR (pv 1) (aC aS (by rfl) T.len yr (cx (pv 0))) (pv 2)))))) (ah (ap (fF))) (aq)) (
   ah (ap (aC (dz rfl) (by rfl) T.all zf (cx (b9 (so:=aj bW) (N:=dQ) (N':=["_law_one"]) (src:=[none]) rfl rfl oF rfl (oj (pv 0)) (fun cl C s2 H2 ex=>⟨fJ 0 (show (["_law_one"]:List Str).Nodup by decide +kernel),ci,(og (aW fz hr.m rfl (cx (pv 0))) (lO (qR dR dR (aa) (pv 0) (aa))))⟩)))))),?_⟩
  refine⟨_,rfl,_,_,_,true,rfl,ef.tup hq,rfl,_,rfl,au ⟨_,rfl,_,rfl,q,_,rfl,.inr (bw.of hq),_,_,rfl,rfl,_,rfl,?_⟩⟩;rw[x4,x5 h1];refine aI ⟨_,rfl,_,_,rfl,rfl,_,rfl,?_⟩;rw[x5 h2];refine au ⟨_,rfl,q,rfl,⟨_,bw.of hq⟩,fun c hc=>?_⟩
  refine lc (K:=K) (a:=q) (xs:=gs.map V.int) (fun i σ HK=>∃ v:Option V,σ=[v]/\aG H HK/\HK c=some (.lst ((List.replicate i true).map V.bl)))
   ⟨none,rfl,ag hc,af⟩ (fun i σ HK _ ⟨_,_,s2,_⟩=>bw.of (s2 _ _ hq)) ?_ ?_
  ·rintro i y σ HK hi ⟨v,rfl,s2,hc2⟩
   obtain⟨a,ha,rfl⟩:=dk hi;have hil:=(List.getElem?_eq_some_iff.mp ha).1;have ga:=gd a (yH ha);have g1:=ga.1;have g2:=ga.2;refine c5 ⟨_,rfl,a,rfl,_,rfl,aI ⟨_,rfl,_,_,rfl,rfl,_,rfl,?_⟩⟩;rw[x5 g1];refine aI ⟨_,_,rfl,rfl,?_⟩;rw[x5 (show a<=999999999999 by omega)];refine⟨_,hc2,by rw[x4,List.length_replicate];exact bZ (by omega),_,rfl,cE s2 hc,?_⟩;rw[af,List.replicate_succ',yk];rfl
  rintro σ HK ⟨v,rfl,s2,hc2⟩;refine⟨c,_,rfl,bC.of hc2,?_⟩;rw[show ∀ n,(List.replicate n true).all id=true from fun n=>yz.mpr fun x hx=>by rw[(List.mem_replicate.mp hx).2];rfl];exact k HK s2
theorem iI (F:ee K "_law_good_name" "_law_good_name" cw f fd) : bc P w K mg base gE 1 f fd ["_law_word_here"] js:=by
 refine F.ok iM (fun vs H Q E h=>?_) (fun cdv A outer s H vs Q E hr h=>?_)
 ·obtain⟨w,rfl,_⟩:=h
  rfl
 ·obtain⟨w,rfl,nm,k⟩:=h
  have sl:sizeLine=16777216:=yK;have nl:=jR nm
  refine⟨_,ae (aJ (PW.pt (gX (cH (eO (aC dB (by rfl) T.isinstance yW (aO (pv 0) (aO (eN (v:=.ty "str") (by rfl) T.str PyProof.Rows.boot_str rfl) bn))))) (gz (cH (et dR dR (aa) (aC bS (by rfl) T.len yr (cx (pv 0))) (aa)))))) (ah (ap (fF))) (aq)) (
   ae (aJ (ao dA (pv 0) (d6 (b7 (b7 (b7 (b7 (b7 (b7 (b7 (b7 (bn)))))))))) rfl) (ah (ap (fF))) (aq)) (
   ah (ap (aC (dz rfl) (by rfl) T.all zf (cx (b9 (so:=aj cw) (N:=fe) (N':=["_law_sign"]) (src:=[none]) rfl rfl oF rfl (oi (pv 0)) (fun cl C s2 H2 ex=>⟨fJ 0 (show (["_law_sign"]:List Str).Nodup by decide +kernel),ci,f6 iJ (pv 0) (ak) rfl⟩))))))),?_⟩
  refine⟨_,rfl,_,_,_,true,rfl,ef.str _,rfl,_,rfl,au ⟨_,rfl,w,rfl,by omega,_,_,rfl,rfl,_,rfl,?_⟩⟩;rw[x5 (show (1:Int)<=(w.length:Int) by omega)];refine aI ⟨_,_,rfl,rfl,_,rfl,?_⟩;rw[x5 (show (w.length:Int)<=12 by omega)];refine au ⟨_,rfl,by rw[sl];decide,fun l1 h1=>⟨l1,kindsL.map V.str,rfl,.inl (bC.of af),rfl,kE _,_,rfl,?_⟩⟩;have t1:=ag (o:=.lst (kindsL.map V.str)) h1;have nm2:=nm;unfold dD at nm2;rw[yG,yG]at nm2
  have nk:w∉kindsL:=by
   have:=nm2.1.1;intro z;rw[x5 z]at this;cases this
  rw[show (if false=true then !nE (V.str w) (kindsL.map V.str) else nE (V.str w) (kindsL.map V.str))=decide (w∈kindsL) from gO w kindsL,x6 nk];refine au ⟨_,rfl,w,rfl,uE nm,fun q hq=>?_⟩;refine iR (f:=bI) hq (by have:=bH w;unfold aK at this;omega) (fun c HK Q' sK kk=>?_) (fun H1 s1 hq1=>?_)
  ·refine⟨_,rfl,_,_,rfl,rfl,?_⟩
   rw[qD];exact kk HK (aG.refl _)
  refine⟨q,_,rfl,bC.of hq1,?_⟩;rw[show (w.cps.toList.map bI).all id=w.cps.toList.all bI by rw[List.all_map];rfl,nm2.2];exact k H1 (t1.trans s1)
theorem gw (F:ee K "_law_good_figure" "_law_good_figure" bV f fd)(bF:aA P w K mg base "_law_guests_good" 2 ["_law_found","_law_least","_law_most"] (sG K))(dh:aA P w K mg base "_law_good_name" 1 ["_law_word_here"] js){n:Nat}(hn:n<=9)(bg:aA P w K mg base "_law_good_figure" (n+2) ["_law_figure_here","_law_deep"] (pT n)):bc P w K mg base gE (n+2+1) f fd ["_law_figure_here","_law_deep"] (pT (n+1)):=by
 refine F.ok dE (fun vs H Q E h=>?_) (fun cdv A outer s H vs Q E hr h=>?_)
 ·obtain⟨p,f,d,rfl,_⟩:=h
  rfl
 ·obtain⟨p,f,d,rfl,hf,g,dn,k⟩:=h
  refine⟨_,ae (aJ (PW.pt (gX (ao qK (pv 1) (aa) (aD _)) (gX (cH (eO (aC dB (by rfl) T.isinstance yW (aO (pv 0) (aO (eN (v:=.ty "tuple") (by rfl) T.tuple yQ rfl) bn))))) (gz (ao kL (aC aS (by rfl) T.len yr (cx (pv 0))) (aa) (aD _)))))) (ah (ap (fF))) (aq)) (
   ae (aZ 2 dE.nd (ba bB (pv 0) (aa) (fun _ _=>rfl))) (
   ae (aJ (ao bz (pv 2) (ak) (aD _)) (ah (ap (aW bF (hr.mono (by omega)) rfl (mW (aX rg (pv 0) (aQ (aa)) ca) (aa) (aa))))) (aq)) (
   ae (aJ (ao i9 (aC aS (by rfl) T.len yr (cx (pv 0))) (aa) (aD _)) (ah (ap (fF))) (aq)) (
   ae (aJ (ao bz (pv 2) (ak) (aD _)) (ah (ap (aW dh (hr.mono (by omega)) rfl (cx (ba bB (pv 0) (aa) (fun _ _=>rfl)))))) (aq)) (
   ae (aJ (ao bz (pv 2) (ak) (aD _)) (ah (ap (aW bg (hr.mono (by omega)) rfl (dI (ba bB (pv 0) (aa) (fun _ _=>rfl)) (ai aV (pv 1) (aa)))))) (aq)) (
   ae (aJ (ao bz (pv 2) (ak) (aD _)) (ah (ap ((og (aW bF (hr.mono (by omega)) rfl (mW (ba bB (pv 0) (aa) (fun _ _=>rfl)) (aa) (aa))) (lO (f6 bz (aC kA (by rfl) T.len yr (cx (bO (kC rfl) (by rfl) T.bset PyProof.Rows.boot_set (cx (ba bB (pv 0) (aa) (fun _ _=>rfl)))))) (aa) (aD _))))))) (aq)) (
   ae (aJ (ao dA (pv 2) (d6 (mW (ak) (ak) (ak))) rfl) (ah (ap (aW bF (hr.mono (by omega)) rfl (mW (ba bB (pv 0) (aa) (fun _ _=>rfl)) (aa) (aa))))) (aq)) (
   ae (aJ (PW.pt (gX (ao i9 (pv 2) (ak) (aD _)) (gX (cH (eO (aC dB (by rfl) T.isinstance yW (aO (ba bB (pv 0) (aa) (fun _ _=>rfl)) (aO (eN (v:=.ty "tuple") (by rfl) T.tuple yQ rfl) bn))))) (gz (cH (et dR dR (aa) (aC aS (by rfl) T.len yr (cx (ba bB (pv 0) (aa) (fun _ _=>rfl)))) (aa))))))) (ah (ap (fF))) (aq)) (
   ah (ap (aC (dz rfl) (by rfl) T.all zf (cx (b9 (so:=aj bV) (N:=dP) (N':=["_law_part","_law_deep"]) (src:=[none,some 1]) rfl rfl oF rfl (oj (ba bB (pv 0) (aa) (fun _ _=>rfl))) (fun cl C s2 H2 ex=>⟨fJ 0 (show (["_law_part","_law_deep"]:List Str).Nodup by decide +kernel),ci,aW bg (hr.mono (by omega)) rfl (dI (pv 0) (ai aV (pv 1) (aa)))⟩)))))))))))))),?_⟩
  obtain⟨xs,hp⟩:=hf.hd;refine⟨_,rfl,_,_,rfl,rfl,_,rfl,?_⟩;rw[x6 (show ¬ ((8:Int)<(d:Int)) by omega)];refine au ⟨_,rfl,_,_,_,true,rfl,ef.tup hp,rfl,_,rfl,au ⟨_,rfl,p,_,rfl,.inr (bw.of hp),_,_,rfl,rfl,_,rfl,?_⟩⟩
  have two:(2:Nat)<=sizeLine:=by decide
  cases f with
  | name w =>
   have e1:=hf.1
   have ex:xs=[.str w]:=by
    have:=hp.symm.trans e1;injection this with this;injection this with this;injection this
   subst ex;refine au ⟨_,rfl,p,_,0,_,rfl,rfl,bw.of hp,aN (j:=0) rfl,?_⟩;refine⟨_,rfl,rfl,_,rfl,?_⟩;rw[show decide (V.str (aB.name w).word=V.str (Str.ofString "pair"))=false by show decide (V.str (Str.ofString "name")=V.str (Str.ofString "pair"))=false;decide +kernel];refine au ⟨_,rfl,p,_,rfl,.inr (bw.of hp),rfl,_,rfl,au ⟨_,rfl,rfl,_,rfl,?_⟩⟩;rw[tD];exact aI ⟨_,rfl,p,_,1,_,rfl,rfl,bw.of hp,rfl,w,rfl,g,k⟩
  | back f =>
   obtain⟨q,e1,e2⟩:=hf
   have ex:xs=[.ref q]:=by
    have:=hp.symm.trans e1;injection this with this;injection this with this;injection this
   subst ex;refine au ⟨_,rfl,p,_,0,_,rfl,rfl,bw.of hp,aN (j:=0) rfl,?_⟩;refine⟨_,rfl,rfl,_,rfl,?_⟩;rw[show decide (V.str (aB.back f).word=V.str (Str.ofString "pair"))=false by show decide (V.str (Str.ofString "back")=V.str (Str.ofString "pair"))=false;decide +kernel];refine au ⟨_,rfl,p,_,rfl,.inr (bw.of hp),rfl,_,rfl,au ⟨_,rfl,rfl,_,rfl,?_⟩⟩;rw[tz];refine au ⟨_,rfl,rfl,_,rfl,?_⟩;rw[tv];exact aI ⟨_,rfl,p,_,1,_,rfl,rfl,bw.of hp,rfl,_,rfl,_,_,rfl,rfl,q,f,d+1,by rw[zE];rfl,e2,g,by omega,k⟩
  | row fs =>
   obtain⟨t,as,e1,e2,fl,pr⟩:=hf
   have ex:xs=[.ref t]:=by
    have:=hp.symm.trans e1;injection this with this;injection this with this;injection this
   subst ex;have al:=zj pr;have f1:=g.1;have f2:=g.2.1;refine au ⟨_,rfl,p,_,0,_,rfl,rfl,bw.of hp,aN (j:=0) rfl,?_⟩;refine⟨_,rfl,rfl,_,rfl,?_⟩;rw[show decide (V.str (aB.row fs).word=V.str (Str.ofString "pair"))=false by show decide (V.str (Str.ofString "row")=V.str (Str.ofString "pair"))=false;decide +kernel];refine au ⟨_,rfl,p,_,rfl,.inr (bw.of hp),rfl,_,rfl,au ⟨_,rfl,rfl,_,rfl,?_⟩⟩;rw[tH];refine au ⟨_,rfl,rfl,_,rfl,?_⟩;rw[tG];refine au ⟨_,rfl,rfl,_,rfl,?_⟩;rw[show decide (V.str (aB.row fs).word=V.str (Str.ofString "quad"))=false by show decide (V.str (Str.ofString "row")=V.str (Str.ofString "quad"))=false;decide +kernel];refine au ⟨_,rfl,by show (3:Nat)<=sizeLine;decide,fun l1 hl1=>⟨l1,_,rfl,.inl (bC.of af),rfl,rfl,_,rfl,au ?_⟩⟩;have s1:=ag (o:=.lst [.str "line",.str "star",.str "all"]) hl1;have hp1:=s1 _ _ hp;have e21:=s1 _ _ e2;generalize bE H l1 (.lst [.str "line",.str "star",.str "all"])=H1 at s1 hp1 e21 ⊢;refine⟨_,rfl,rfl,_,rfl,?_⟩;rw[tK];refine au ⟨_,rfl,p,_,1,_,rfl,rfl,bw.of hp1,rfl,_,_,_,true,rfl,ef.tup e21,rfl,_,rfl,au ⟨_,rfl,p,_,1,_,rfl,rfl,bw.of hp1,rfl,t,_,rfl,.inr (bw.of e21),_,_,rfl,rfl,_,rfl,?_⟩⟩;rw[x4,al,x5 (show (1:Int)<=((fs.length:Nat):Int) by omega)];refine aI ⟨_,_,rfl,rfl,_,rfl,?_⟩;rw[x5 (show ((fs.length:Nat):Int)<=60 by omega)];refine au ⟨_,rfl,p,_,1,_,rfl,rfl,bw.of hp1,rfl,t,rfl,⟨_,bw.of e21⟩,fun c hc=>?_⟩
   refine lc (K:=K) (a:=t) (xs:=as.map V.ref) (fun i σ HK=>∃ v:Option V,σ=[v,some (.int d)]/\aG H1 HK/\HK c=some (.lst ((List.replicate i true).map V.bl)))
    ⟨none,rfl,ag hc,af⟩ (fun i σ HK _ ⟨_,_,s2,_⟩=>bw.of (s2 _ _ e21)) ?_ ?_
   ·rintro i y σ HK hi ⟨v,rfl,s2,hc2⟩
    obtain⟨b,hb,rfl⟩:=dk hi;obtain⟨u,hu,hA⟩:=eL pr hb;have um:=yH hu;have hil:=(List.getElem?_eq_some_iff.mp hu).1;refine c5 ⟨_,rfl,_,rfl,_,_,rfl,rfl,b,u,d+1,by rw[zE];rfl,hA.mono (fun _ _ z=>s2 _ _ (s1 _ _ z)),g.2.2 u um,by omega,fun H5 s5=>⟨_,s5 _ _ hc2,by rw[x4,List.length_replicate];exact bZ (by omega),_,rfl,cE (s2.trans s5) hc,?_⟩⟩;rw[af,List.replicate_succ',yk];rfl
   rintro σ HK ⟨v,rfl,s2,hc2⟩;refine⟨c,_,rfl,bC.of hc2,?_⟩;rw[show ∀ n,(List.replicate n true).all id=true from fun n=>yz.mpr fun x hx=>by rw[(List.mem_replicate.mp hx).2];rfl];exact k HK (s1.trans s2)
  | pl f =>
   obtain⟨hA,ok⟩:=hf;have gs:=g.2;have ok1:=ok.1;have ok2:=ok.2.1
   by_cases cp:f.isP=true
   ·obtain⟨a,b,rfl⟩:∃ a b,f=.pair a b:=by
     cases f with
     | pair a b=>exact⟨a,b,rfl⟩
     | _=>cases cp
    have hp:H p=some (.tup [.str "pair",.int a,.int b]):=hA
    have ex:xs=[.int a,.int b]:=by
     have:=(show H p=some (.tup (.str (aB.pl (.pair a b)).word::xs)) from ‹_›).symm.trans hp;injection this with this;injection this with this;injection this
    subst ex;refine au ⟨_,rfl,p,_,0,_,rfl,rfl,bw.of hp,aN (j:=0) rfl,?_⟩;refine⟨_,rfl,rfl,_,rfl,?_⟩;rw[show decide (V.str (aB.pl (.pair a b)).word=V.str (Str.ofString "pair"))=true from x5 rfl];refine aI ⟨_,rfl,_,rfl,p,_,rfl,bw.of hp,?_,fun t1 ht1=>?_⟩
    ·intro z
     have z1:=z.1;rw[show (1:Int)=((1:Nat):Int) from rfl,HT.sIx_nat,yy]at z1;omega
    rw[sX,List.drop_succ_cons,List.drop_zero];exact⟨t1,2,2,[a,b],rfl,af,by show (2:Int)<=2;decide,by show (2:Int)<=2;decide,gs,by show 2<=100;decide,fun H2 s2=>k H2 ((ag ht1).trans s2)⟩
   ·have cp:f.isP=false:=by cases e:f.isP with | true=>exact absurd e cp | false=>rfl
    obtain⟨q,e1,e2⟩:=hA.gr cp
    have ex:xs=[.ref q]:=by
     have:=hp.symm.trans e1;injection this with this;injection this with this;injection this
    subst ex;refine au ⟨_,rfl,p,_,0,_,rfl,rfl,bw.of hp,aN (j:=0) rfl,?_⟩;refine⟨_,rfl,rfl,_,rfl,?_⟩
    have wn:decide (V.str (aB.pl f).word=V.str (Str.ofString "pair"))=false:=by
     cases f with
     | pair a b=>cases cp
     | line g=>show decide (V.str (Str.ofString "line")=V.str (Str.ofString "pair"))=false;decide +kernel
     | star g=>show decide (V.str (Str.ofString "star")=V.str (Str.ofString "pair"))=false;decide +kernel
     | all g=>show decide (V.str (Str.ofString "all")=V.str (Str.ofString "pair"))=false;decide +kernel
     | quad a b c d=>show decide (V.str (Str.ofString "quad")=V.str (Str.ofString "pair"))=false;decide +kernel
    rw[wn];refine au ⟨_,rfl,p,_,rfl,.inr (bw.of hp),rfl,_,rfl,au ⟨_,rfl,rfl,_,rfl,?_⟩⟩;rw[tF];refine au ⟨_,rfl,rfl,_,rfl,?_⟩;rw[tE];refine au ⟨_,rfl,rfl,_,rfl,?_⟩
    by_cases cq:∃ a b c d,f=.quad a b c d
    ·obtain⟨a,b,c,e,rfl⟩:=cq
     rw[show decide (V.str (aB.pl (.quad a b c e)).word=V.str (Str.ofString "quad"))=true from x5 rfl];have nd:=ok.2.2 a b c e rfl;refine aI ⟨_,rfl,p,_,1,_,rfl,rfl,bw.of hp,rfl,q,4,4,[a,b,c,e],rfl,e2,by show (4:Int)<=4;decide,by show (4:Int)<=4;decide,gs,by show 4<=100;decide,fun H2 s2=>⟨_,rfl,aI ⟨_,rfl,p,_,1,_,rfl,rfl,bw.of (s2 _ _ hp),rfl,q,[a,b,c,e],rfl,bw.of (s2 _ _ e2),by show 4<=1000;decide,fun l S n hl nle niff=>⟨l,S,n,rfl,af,rfl,?_⟩⟩⟩⟩;have niff:n=4↔[a,b,c,e].Nodup:=niff;rw[niff.mpr nd];exact k _ (s2.trans (ag hl))
    ·have wq:decide (V.str (aB.pl f).word=V.str (Str.ofString "quad"))=false:=by
      cases f with
      | pair a b=>cases cp
      | line g=>show decide (V.str (Str.ofString "line")=V.str (Str.ofString "quad"))=false;decide +kernel
      | star g=>show decide (V.str (Str.ofString "star")=V.str (Str.ofString "quad"))=false;decide +kernel
      | all g=>show decide (V.str (Str.ofString "all")=V.str (Str.ofString "quad"))=false;decide +kernel
      | quad a b c d=>exact absurd ⟨a,b,c,d,rfl⟩ cq
     rw[wq];refine au ⟨_,rfl,by show (3:Nat)<=sizeLine;decide,fun l1 hl1=>⟨l1,_,rfl,.inl (bC.of af),rfl,rfl,_,rfl,?_⟩⟩;have s1:=ag (o:=.lst [.str "line",.str "star",.str "all"]) hl1
     have wi:(if false=true then !nE (V.str (aB.pl f).word) [V.str "line",V.str "star",V.str "all"] else nE (V.str (aB.pl f).word) [V.str "line",V.str "star",V.str "all"])=true:=by
      cases f with
      | pair a b=>cases cp
      | line g=>show nE (V.str (Str.ofString "line")) [V.str "line",V.str "star",V.str "all"]=true;decide +kernel
      | star g=>show nE (V.str (Str.ofString "star")) [V.str "line",V.str "star",V.str "all"]=true;decide +kernel
      | all g=>show nE (V.str (Str.ofString "all")) [V.str "line",V.str "star",V.str "all"]=true;decide +kernel
      | quad a b c d=>exact absurd ⟨a,b,c,d,rfl⟩ cq
     rw[wi];exact aI ⟨_,rfl,p,_,1,_,rfl,rfl,bw.of (s1 _ _ hp),rfl,q,2,60,f.gs,rfl,s1 _ _ e2,by omega,by omega,gs,by omega,fun H2 s2=>k H2 (s1.trans s2)⟩
theorem iH (F:ee K "_law_bad_texts" "_law_bad_texts" cW f fd) : bc P w K mg base gE 1 f fd [] oY:=by
 refine F.ok aM (fun vs H Q E h=>?_) (fun cdv A outer s H vs Q E hr h=>?_)
 ·obtain⟨rfl,_⟩:=h
  rfl
 ·obtain⟨rfl,k⟩:=h
  have sl:sizeLine=16777216:=yK
  refine⟨_,by with_reducible exact sU.h (by with_unfolding_all exact sB 0 aM.nd (ar (ar (ar (ar (ar (ar (ar (ar (ar (ar (ar (eQ)))))))))))) (
   dX 0 aM.nd (ar (ar (ar (ar (ar (ar (eQ))))))) (pv 0) (
   dX 0 aM.nd (ar (ar (ar (ar (ar (ar (eQ))))))) (pv 0) (
   dX 0 aM.nd (ar (ar (ar (ar (ar (ar (ar (eQ)))))))) (pv 0) (
   dX 0 aM.nd (ar (ar (ar (ar (ar (ar (ar (eQ)))))))) (pv 0) (
   dX 0 aM.nd (ar (ar (ar (ar (ar (ar (ar (ar (ar (ar (ar (eQ)))))))))))) (pv 0) (
   dX 0 aM.nd (ar (ar (ar (ar (ar (eQ)))))) (pv 0) (
   dX 0 aM.nd (ar (ar (ar (ar (ar (eQ)))))) (pv 0) (
   dX 0 aM.nd (ar (ar (ar (ar (ar (ar (eQ))))))) (pv 0) (
   j5 (cg (ek yx yB yC bD (pv 0) (cx (ai ay (ai ay (ak) (ai dS (ak) (aa))) (ak))))) (
   j5 (cg (ek yx yB yC bD (pv 0) (cx (ai ay (ai ay (ak) (ai dS (ak) (aa))) (ak))))) (
   j5 (cg (ek yx yB yC bD (pv 0) (cx (ai ay (ai ay (ai dS (ak) (aa)) (ak)) (ai dS (ak) (aa)))))) (
   j5 (cg (ek yx yB yC bD (pv 0) (cx (ai ay (ai ay (ai dS (ak) (aa)) (ak)) (ai dS (ak) (aa)))))) (
   j5 (cg (ek yx yB yC bD (pv 0) (cx (ai ay (ai ay (ai dS (ak) (aa)) (ak)) (ai dS (ak) (aa)))))) (
   sA (ap (pv 0))))))))))))))))),?_⟩
  refine⟨by rw[sl];decide,fun l0 h0=>?_⟩;have s0:=ag (o:=.lst (jB.map V.str)) h0;have m0:bE H l0 (.lst (jB.map V.str)) l0=_:=af;refine⟨_,rfl,by rw[sl];decide,fun a b=>de (xs:=jB) (ys:=kZ) s0 m0 b (by decide) fun l1 G1 n1 s1 m1=>?_⟩;refine⟨_,rfl,by rw[sl];decide,fun a b=>de (xs:=(jB++kZ)) (ys:=mq) s1 m1 b (by decide) fun l2 G2 n2 s2 m2=>?_⟩;refine⟨_,rfl,by rw[sl];decide,fun a b=>de (xs:=((jB++kZ)++mq)) (ys:=nG) s2 m2 b (by decide) fun l3 G3 n3 s3 m3=>?_⟩;refine⟨_,rfl,by rw[sl];decide,fun a b=>de (xs:=(((jB++kZ)++mq)++nG)) (ys:=pe) s3 m3 b (by decide) fun l4 G4 n4 s4 m4=>?_⟩;refine⟨_,rfl,by rw[sl];decide,fun a b=>de (xs:=((((jB++kZ)++mq)++nG)++pe)) (ys:=qd) s4 m4 b (by decide) fun l5 G5 n5 s5 m5=>?_⟩;refine⟨_,rfl,by rw[sl];decide,fun a b=>de (xs:=(((((jB++kZ)++mq)++nG)++pe)++qd)) (ys:=rQ) s5 m5 b (by decide) fun l6 G6 n6 s6 m6=>?_⟩;refine⟨_,rfl,by rw[sl];decide,fun a b=>de (xs:=((((((jB++kZ)++mq)++nG)++pe)++qd)++rQ)) (ys:=ue) s6 m6 b (by decide) fun l7 G7 n7 s7 m7=>?_⟩;refine⟨_,rfl,by rw[sl];decide,fun a b=>de (xs:=(((((((jB++kZ)++mq)++nG)++pe)++qd)++rQ)++ue)) (ys:=vv) s7 m7 b (by decide) fun l8 G8 n8 s8 m8=>?_⟩;have m8:G8 l8=some (.lst (qe.map V.str)):=m8;have ty:∀ {G:Hp}{xs:List Str},G l8=some (.lst (xs.map V.str))->wC K "list" (.ref l8) G:=fun h=>.inl ⟨rfl,_,bC.of h⟩
  have la:qe.length=64:=by decide
  refine⟨_,rfl,ty m8,_,30,rfl,rfl,by decide +kernel,by decide,_,_,rfl,rfl,by rw[sl];decide +kernel,_,_,rfl,rfl,by rw[sl];decide +kernel,fT s8 n8 m8 (by omega) fun G9 s9 m9=>?_⟩;refine⟨_,rfl,ty m9,_,61,rfl,rfl,by decide +kernel,by decide,_,_,rfl,rfl,by rw[sl];decide +kernel,_,_,rfl,rfl,by rw[sl];decide +kernel,fT s9 n8 m9 (by rw[yb];show _+1<=_;omega) fun Ga sa ma=>?_⟩;refine⟨_,rfl,ty ma,_,8,rfl,rfl,by decide +kernel,by decide,_,_,rfl,rfl,by rw[sl];decide +kernel,_,8,rfl,rfl,by decide +kernel,by decide,_,_,rfl,rfl,by rw[sl];decide +kernel,fT sa n8 ma (by rw[yb,yb];show _+1+1<=_;omega) fun Gb sb mb=>?_⟩;refine⟨_,rfl,ty mb,_,7,rfl,rfl,by decide +kernel,by decide,_,_,rfl,rfl,by rw[sl];decide +kernel,_,7,rfl,rfl,by decide +kernel,by decide,_,_,rfl,rfl,by rw[sl];decide +kernel,fT sb n8 mb (by rw[yb,yb,yb];show _+1+1+1<=_;omega) fun Gc sc mc=>?_⟩;refine⟨_,rfl,ty mc,_,40,rfl,rfl,by decide +kernel,by decide,_,_,rfl,rfl,by rw[sl];decide +kernel,_,40,rfl,rfl,by decide +kernel,by decide,_,_,rfl,rfl,by rw[sl];decide +kernel,fT sc n8 mc (by rw[yb,yb,yb,yb];show _+1+1+1+1<=_;omega) fun Gd sd md=>?_⟩;refine⟨_,rfl,k l8 Gd sd ?_⟩;rw[md,ph];rfl
theorem kq (F:ee K "_law_spoilt" "_law_spoilt" d9 f fd) : bc P w K mg base gE 1 f fd ["_law_text","_law_cell"] ju:=by
 refine F.ok cG (fun vs H Q E h=>?_) (fun cdv A outer s H vs Q E hr h=>?_)
 ·obtain⟨z,c,rfl,_⟩:=h
  rfl
 ·obtain⟨z,c,rfl,asc,z1,z2,k⟩:=h
  have sl:sizeLine=16777216:=yK
  have zl:z.length<=sizeLine:=by omega
  have ac:=fun lo hi=>rN asc lo hi
  refine⟨_,ae (aZ 2 cG.nd (ai aT (ai bv (pv 1) (aa)) (aC bS (by rfl) T.len yr (cx (pv 0))))) (
   ae (aZ 3 cG.nd (ak)) (
   ae (aZ 4 cG.nd (ba lu (pv 3) (ai aT (ai bv (pv 1) (aa)) (aC bS (by rfl) T.len yr (cx (pv 3)))) (fun _ _=>rfl))) (
   ae (aJ (ao bz (ai aT (pv 1) (aa)) (aa) (aD _)) (ah (ap (ai ay (aX b8 (pv 0) ca (aQ (pv 2))) (aX b8 (pv 0) (aQ (ai aV (pv 2) (aa))) ca)))) (aq)) (
   ae (aJ (ao bz (ai aT (pv 1) (aa)) (aa) (aD _)) (ah (ap (ai ay (ai ay (aX b8 (pv 0) ca (aQ (pv 2))) (pv 4)) (aX b8 (pv 0) (aQ (pv 2)) ca)))) (aq)) (
   ae (aJ (ao bz (ai aT (pv 1) (aa)) (aa) (aD _)) (ah (ap (ai ay (ai ay (aX b8 (pv 0) ca (aQ (pv 2))) (pv 4)) (aX b8 (pv 0) (aQ (ai aV (pv 2) (aa))) ca)))) (aq)) (
   ae (aJ (ao bz (ai aT (pv 1) (aa)) (aa) (aD _)) (ah (ap (ai ay (ai ay (aX b8 (pv 0) ca (aQ (pv 2))) (aX b8 (pv 0) (aQ (pv 2)) (aQ (ai aV (pv 2) (aa))))) (aX b8 (pv 0) (aQ (pv 2)) ca)))) (aq)) (
   ae (aJ (ao bz (ai aT (pv 1) (aa)) (aa) (aD _)) (ae (aZ 5 cG.nd (ai ay (aX b8 (pv 0) (aQ (ai aV (pv 2) (aa))) (aQ (ai aV (pv 2) (aa)))) (aX b8 (pv 0) (aQ (pv 2)) (aQ (ai aV (pv 2) (aa)))))) (
   ah (ap (ai ay (ai ay (aX b8 (pv 0) ca (aQ (pv 2))) (pv 5)) (aX b8 (pv 0) (aQ (ai aV (pv 2) (aa))) ca))))) (aq)) (
   ah (ap (aX b8 (pv 0) ca (aQ (pv 2)))))))))))),?_⟩
  refine⟨_,rfl,_,_,rfl,rfl,⟨by decide,by decide⟩,_,rfl,z,rfl,zl,_,_,rfl,rfl,by show (0:Int)<(z.length:Int);omega,?_⟩;obtain⟨pl,hpl⟩:∃ pl,pl=c/6%(z.length:Int):=⟨_,rfl⟩;rw[<-hpl];obtain⟨jp,hjp⟩:=ze (show 0<=pl by rw[hpl];exact yX _ (by omega))
  have jl:jp<z.length:=by
   have:=yJ (c/6) (show (0:Int)<(z.length:Int) by omega);rw[<-hpl,hjp]at this;omega
  have e1:pl+1=((jp+1:Nat):Int):=by omega
  have e2:pl+2=((jp+2:Nat):Int):=by omega
  have h1:=fU z none (some pl);have h2:=fU z (some (pl+1)) none;have h3:=fU z (some pl) none;have h4:=fU z (some pl) (some (pl+1));have h5:=fU z (some (pl+1)) (some (pl+2));have h6:=fU z (some (pl+2)) none;rw[hjp,HT.sIx_nat,HT.sIx_none,<-hjp]at h1 h3;rw[e1,HT.sIx_nat,HT.sIx_none,<-e1]at h2;rw[e1,hjp,HT.sIx_nat,HT.sIx_nat,<-hjp,<-e1]at h4;rw[e1,e2,HT.sIx_nat,HT.sIx_nat,<-e1,<-e2]at h5;rw[e2,HT.sIx_nat,HT.sIx_none,<-e2]at h6
  have sg:(Str.ofString " ()0123456789abcnorwkpil-
").length=26:=by decide +kernel
  have sga:(Str.ofString " ()0123456789abcnorwkpil-
").cps.toList.length=26:=by decide +kernel
  have i0:0<=c/7%(26:Int):=yX _ (by decide);have i1:c/7%(26:Int)<26:=yJ _ (by decide);obtain⟨j,hj⟩:=ze i0
  have hjl:j<(Str.ofString " ()0123456789abcnorwkpil-
").cps.toList.length:=by omega
  have sc:=yz.mp (show (Str.ofString " ()0123456789abcnorwkpil-
").cps.toList.all (fun c=>decide (c<128))=true by decide +kernel) _ (List.getElem_mem hjl)
  refine⟨_,rfl,_,rfl,_,_,rfl,rfl,⟨by decide,by decide⟩,_,rfl,_,rfl,by rw[sl];decide +kernel,_,_,rfl,rfl,by rw[sg];decide,_,j,(Str.ofString " ()0123456789abcnorwkpil-
").cps.toList[j],rfl,by rw[sg];exact zc V.int hj,by rw[sl];decide +kernel,aN (j:=j) (List.getElem?_eq_getElem hjl),?_⟩
  generalize (Str.ofString " ()0123456789abcnorwkpil-
").cps.toList[j]=s0 at sc
  have s1:(⟨#[s0]⟩:Str).length=1:=rfl
  have sa:jd ⟨#[s0]⟩:=io fun x hx=>by
   have hx:x∈[s0]:=hx;rw[yu.mp hx];exact yI sc
  have p6:(0:Int)<6:=by decide
  refine⟨_,rfl,_,_,rfl,rfl,p6,rfl,_,rfl,ei (fun _=>?_) (fun _=>?_)⟩
  ·exact⟨_,rfl,_,rfl,_,rfl,z,rfl,zl,_,rfl,_,rfl,_,_,rfl,rfl,_,rfl,z,rfl,zl,_,_,rfl,rfl,by omega,k _ (cX (ac _ _) (ac _ _)) (by rw[bN];omega)⟩
  refine⟨_,rfl,_,_,rfl,rfl,p6,rfl,_,rfl,ei (fun _=>?_) (fun _=>?_)⟩
  ·exact⟨_,rfl,_,rfl,_,rfl,z,rfl,zl,_,rfl,_,_,rfl,rfl,by omega,_,rfl,_,rfl,_,rfl,z,rfl,zl,_,_,rfl,rfl,by rw[bN];omega,k _ (cX (cX (ac _ _) sa) (ac _ _)) (by rw[bN,bN];omega)⟩
  refine⟨_,rfl,_,_,rfl,rfl,p6,rfl,_,rfl,ei (fun _=>?_) (fun _=>?_)⟩
  ·exact⟨_,rfl,_,rfl,_,rfl,z,rfl,zl,_,rfl,_,_,rfl,rfl,by omega,_,rfl,_,rfl,_,_,rfl,rfl,_,rfl,z,rfl,zl,_,_,rfl,rfl,by rw[bN];omega,k _ (cX (cX (ac _ _) sa) (ac _ _)) (by rw[bN,bN];omega)⟩
  refine⟨_,rfl,_,_,rfl,rfl,p6,rfl,_,rfl,ei (fun _=>?_) (fun _=>?_)⟩
  ·exact⟨_,rfl,_,rfl,_,rfl,z,rfl,zl,_,rfl,_,rfl,_,rfl,_,rfl,_,_,rfl,rfl,_,rfl,z,rfl,zl,_,_,rfl,rfl,by omega,_,rfl,_,rfl,_,rfl,z,rfl,zl,_,_,rfl,rfl,by rw[bN];omega,k _ (cX (cX (ac _ _) (ac _ _)) (ac _ _)) (by rw[bN,bN];omega)⟩
  refine⟨_,rfl,_,_,rfl,rfl,p6,rfl,_,rfl,ei (fun _=>?_) (fun _=>?_)⟩
  ·refine⟨_,rfl,_,rfl,_,_,rfl,rfl,_,rfl,_,rfl,_,_,rfl,rfl,_,rfl,z,rfl,zl,_,rfl,_,rfl,_,rfl,_,rfl,_,_,rfl,rfl,_,rfl,z,rfl,zl,_,_,rfl,rfl,by omega,?_⟩
   exact⟨_,rfl,_,rfl,_,rfl,z,rfl,zl,_,rfl,_,_,rfl,rfl,by rw[bN];omega,_,rfl,_,rfl,_,_,rfl,rfl,_,rfl,z,rfl,zl,_,_,rfl,rfl,by rw[bN,bN];omega,k _ (cX (cX (ac _ _) (cX (ac _ _) (ac _ _))) (ac _ _)) (by rw[bN,bN,bN];omega)⟩
  ·exact⟨_,rfl,_,rfl,_,rfl,z,rfl,zl,k _ (ac _ _) (by omega)⟩
theorem uG (F:ee K "law" "law" ox f fd)(bX:aA P w K mg base "_law_cell_at" 1 ["_law_script","_law_k"] (lY K))(bq:aA P w K mg base "_law_size" 1 ["_law_cell"] iQ)(gn:aA P w K mg base "_law_word" 3 ["_law_cell"] o1)(cJ:aA P w K mg base "_law_draws" 2 ["_law_cell","_law_many","_law_base"] gZ)(ey:aA P w K mg base "_law_figure" 5 ["_law_draws_here","_law_cell","_law_names"] jr)(a6:aA P w K mg base "_law_figure_text" 10 ["_law_figure_here"] (iP 9))(eA:aA P w K mg base "_law_read" 39 ["_law_text"] (l9 P0 ax am))(df:aA P w K mg base "_law_bad_texts" 1 [] oY)(eB:aA P w K mg base "_law_spoilt" 1 ["_law_text","_law_cell"] ju)(bg:aA P w K mg base "_law_good_figure" 10 ["_law_figure_here","_law_deep"] (pT 8)) : bc P w K mg base gE 41 f fd ["_law_script"] (ke K P0):=by
 refine F.ok d7 (fun vs H Q E h=>?_) (fun cdv A outer s H vs Q E hr h=>?_)
 ·obtain⟨a,ns,rfl,_⟩:=h
  rfl
 ·obtain⟨a,ns,rfl,hS,hlen,hP,k⟩:=h
  have hu:=qu hr
  have two:(2:Nat)<=sizeLine:=by decide
  have sl:sizeLine=16777216:=yK;have tI:TabI H P0 ax am:=.inl hP
  refine⟨_,ae (aZ 1 d7.nd (aW bX (hr.mono (by omega)) rfl (dI (pv 0) (aa)))) (
   ae (aZ 2 d7.nd (uK df (hr.mono (by omega)) rfl)) (
   ae (aZ 3 d7.nd (ai aT (aW bq (hr.mono (by omega)) rfl (cx (aW bX (hr.mono (by omega)) rfl (dI (pv 0) (aa))))) (aa))) (
   ae (gy zh rfl (kM (d:=4) (.inr rfl) (by rfl) T.range (mW (pv 3) (aC aS (by rfl) T.len yr (cx (pv 2))) (aa))) (fJ 4 d7.nd) (ah (aJ (ao (lK 1 (wU hr (by decide))) (aW eA (hr.mono (by omega)) rfl (cx (ba dj (pv 2) (pv 4) (fun _ _=>rfl)))) (ak) (aD _)) (ah (ap (fF))) (aq)))) (
   ae (gy zh rfl (kM (d:=3) (.inl rfl) (by rfl) T.range (mW (aa) (aC (kB rfl) (by rfl) T.bmin PyProof.Rows.boot_min (dI (aC aS (by rfl) T.len yr (cx (pv 0))) (aa))) (aa))) (fJ 4 d7.nd) (ae (aZ 5 d7.nd (aW cJ (hr.mono (by omega)) rfl (mW (aW bX (hr.mono (by omega)) rfl (dI (pv 0) (ai aV (pv 4) (aa)))) (aa) (aa)))) (
   ae (aZ 6 d7.nd (aW ey (hr.mono (by omega)) rfl (mW (pv 5) (pv 1) (d6 (dI (aW gn (hr.mono (by omega)) rfl (cx (aW bq (hr.mono (by omega)) rfl (cx (ba dj (pv 0) (pv 4) (fun _ _=>rfl)))))) (ak)))))) (
   ae (aZ 7 d7.nd (aW eB (hr.mono (by omega)) rfl (dI (aW a6 (hr.mono (by omega)) rfl (cx (pv 6))) (aW bq (hr.mono (by omega)) rfl (cx (aW bX (hr.mono (by omega)) rfl (dI (pv 0) (ai aV (pv 4) (aa))))))))) (
   ae (aZ 8 d7.nd (aW eA (hr.mono (by omega)) rfl (cx (pv 7)))) (
   ae (aJ (PW.pt (fL (ao (lK 1 (wU hr (by decide))) (pv 8) (ak) (aD _)) (eP (cH (eO (aC dB (by rfl) T.isinstance yW (aO (pv 8) (aO (eN (v:=.ty "tuple") (by rfl) T.tuple yQ rfl) bn)))))))) (ah (ap (fF))) (aq)) (
   ah (aJ (PW.pt (fL (ao (lK 1 (wU hr (by decide))) (pv 8) (ak) (aD _)) (eP (PW.pt (gX (cH (eO (aW bg (hr.mono (by omega)) rfl (dI (pv 8) (aa))))) (gz (ao i9 (aW a6 (hr.mono (by omega)) rfl (cx (pv 8))) (pv 7) (aD _)))))))) (ah (ap (fF))) (aq))))))))) (
   ah (ap (fF))))))),?_⟩
  refine⟨_,rfl,a,ns,1,rfl,hS,by decide,?_⟩;refine⟨rfl,fun lb H0 s0 hb=>?_⟩;refine⟨_,rfl,a,ns,0,rfl,(cC s0).seq hS,by decide,_,rfl,_,_,rfl,rfl,by decide,?_⟩;have f0:0<=cV (gu ns 0)%4:=yX _ (by decide);have f4:cV (gu ns 0)%4<4:=yJ _ (by decide);generalize cV (gu ns 0)%4=fst at f0 f4 ⊢
  have lb69:nH.length=69:=by decide +kernel
  refine⟨_,rfl,_,rfl,lb,_,rfl,.inl (bC.of hb),_,_,rfl,?_,?_⟩
  ·rw[x4,lb69];refine⟨by omega,by omega,by decide,by decide⟩
  generalize er:(Builtin.Range.rangeSize fst _ ((4:Nat):Int)).toNat=n;rw[dY _ _ (.inr rfl),x4,lb69]at er
  have nb:∀ i,i<n->fst+4*(i:Nat)<69:=by
   split at er
   ·intro i hi;omega
   ·intro i hi;omega
  refine jF (fun i σ HK=>∃ (v4:Option V),σ=[some (.ref a),some (.int (gu ns 1)),some (.ref lb),some (.int fst),v4,none,none,none,none]/\GK H HK/\TabI HK P0 ax am/\HK lb=some (.lst (nH.map V.str)))
   ⟨none,rfl,cC s0,tI.same s0,hb⟩ ?_ ?_
  ·rintro i σ H1 hi ⟨v4,rfl,g1,t1,b1⟩
   have ki:=nb i hi;obtain⟨j,hj⟩:∃ j:Nat,fst+(i:Nat)*((4:Nat):Int)=(j:Int):=⟨(fst+(i:Nat)*4).toNat,by omega⟩
   have jl:j<nH.length:=by rw[lb69];omega
   obtain⟨bd,asc,le⟩:=uf (List.getElem_mem jl);refine⟨_,rfl,_,rfl,lb,_,_,.str nH[j],rfl,rfl,bC.of b1,by rw[hj];exact aN (j:=j) (by rw[List.getElem?_map,List.getElem?_eq_getElem jl];rfl),_,rfl,asc,by omega,t1,fun f hf=>absurd hf (bd f),fun _ H2 g2 t2=>.str _ _ rfl rfl ⟨_,rfl,?_⟩⟩;rw[x5 rfl];exact au ⟨_,rfl,g1.trans g2,t2,g2.lst b1⟩
  rintro σ H1 ⟨v4,rfl,g1,t1,b1⟩;refine⟨_,rfl,a,_,rfl,.inl (g1.seq hS),_,_,rfl,_,_,rfl,?_,?_⟩
  ·rw[x4];split<;>refine⟨by decide,by decide,by omega,by omega⟩
  generalize er2:(Builtin.Range.rangeSize 2 _ ((3:Nat):Int)).toNat=m;rw[dY _ _ (.inl rfl),x4]at er2
  have nb2:∀ i,i<m->2+3*i<ns.length/\2+3*i<36:=by
   split at er2
   ·split at er2<;>(intro i hi;omega)
   ·intro i hi;omega
  refine jF (fun i σ HK=>∃ (v4 v5 v6 v7 v8:Option V),σ=[some (.ref a),some (.int (gu ns 1)),some (.ref lb),some (.int fst),v4,v5,v6,v7,v8]/\GK H HK/\TabI HK P0 ax am)
   ⟨v4,none,none,none,none,rfl,g1,t1⟩ ?_ ?_
  ·rintro i σ H1 hi ⟨v4,v5,v6,v7,v8,rfl,g1,t1⟩
   have ki:=(nb2 i hi).1;have ki2:=(nb2 i hi).2
   have hk:(2:Int)+(i:Nat)*((3:Nat):Int)=((2+3*i:Nat):Int):=by omega
   rw[hk];refine⟨_,rfl,_,rfl,_,_,rfl,rfl,a,ns,_,rfl,g1.seq hS,by omega,_,9,219600,rfl,⟨by decide,by decide⟩,⟨by decide,by decide⟩,fun l1 ds hl1 dps dln=>?_⟩;have q1:=ag (o:=.lst (ds.map V.int)) hl1;have g2:=g1.trans (cC q1);refine⟨_,rfl,_,rfl,_,rfl,_,rfl,a,_,_,.int ns[2+3*i],rfl,rfl,g2.seq hS,aN (j:=2+3*i) (by rw[List.getElem?_map,List.getElem?_eq_getElem ki];rfl),_,rfl,_,rfl,fun w H2 nm s2=>?_⟩;refine⟨two,fun l2 hl2=>?_⟩;have q2:=ag (o:=.lst [.str w,.str "hey"]) hl2;refine⟨l1,l2,_,ds,[w,("hey" : Str)],rfl,q2 _ _ (s2 _ _ af),fun d hd=>(dps d hd).1,by omega,af,fun z hz=>?_,by show 2<=100;decide,fun p f H5 s5 hf _ g tl=>?_⟩
   ·simp only[yh,List.not_mem_nil,or_false]at hz
    rcases hz with rfl | rfl
    ·exact nm
    ·exact ut
   have s15:=q1.trans (s2.trans (q2.trans s5));have g5:=g1.trans (cC s15);have t5:=t1.same s15;refine⟨_,rfl,p,f,rfl,hf.up,g.up,by omega,fun H6 s6=>?_⟩;have g6:=g5.trans (cC s6);have t6:=t5.same s6;refine⟨_,rfl,_,rfl,_,_,rfl,rfl,a,ns,_,rfl,g6.seq hS,by omega,_,rfl,_,_,rfl,rO g,by rw[c6];exact sN g,by rw[c6];exact tl,fun z az zl=>?_⟩;refine⟨_,rfl,z,rfl,az,by omega,t6,fun f2 hf2 p2 H7 g7 t7 hF=>?_,fun no H7 g7 t7=>?_⟩
   ·obtain⟨gd,tx⟩:=j6 8 _ _ _ hf2
    rw[zp]at tx
    have zt:z.length=f2.txt.length:=by rw[bH,tx]
    obtain⟨ys,hp⟩:=hF.hd;refine⟨_,rfl,.tup p2 _ _ rfl rfl (bw.of hp) ⟨_,rfl,aI ⟨_,rfl,_,_,_,true,rfl,ef.tup hp,rfl,_,rfl,au ?_⟩⟩⟩;refine⟨_,rfl,.tup p2 _ _ rfl rfl (bw.of hp) ⟨_,rfl,aI ⟨_,rfl,p2,f2,1,rfl,hF,gd,by decide,fun H8 s8=>?_⟩⟩⟩;have hF8:bA 8 H8 p2 f2:=hF.mono fun _ _ z=>s8 _ _ z;refine⟨_,rfl,au ⟨_,rfl,p2,f2,rfl,hF8.up,gd.up,by omega,fun H9 s9=>⟨_,rfl,rfl,_,rfl,?_⟩⟩⟩;have ez:toS f2.txt=z:=rB tx;rw[ez,x5 rfl];exact au ⟨_,_,_,_,_,rfl,(g6.trans g7).trans (cC (s8.trans s9)),(t7.same s8).same s9⟩
   ·refine⟨_,rfl,.str _ _ rfl rfl ⟨_,rfl,?_⟩⟩
    rw[x5 rfl];refine au ⟨_,rfl,.str _ _ rfl rfl ⟨_,rfl,?_⟩⟩;rw[x5 rfl];exact au ⟨_,_,_,_,_,rfl,g6.trans g7,t7⟩
  rintro σ H2 ⟨w4,w5,w6,w7,w8,rfl,g2,t2⟩;exact k _
end
theorem all_mk2 {l:PySem.W.OpenLaw}{w:World}{K:PySem.W.Frag}{h:Heap}{mg:Str->Option Value}{fa:Addr}{cF kd cs q1 q2 q3 q4 q5 q6 q7 t1 t2 t3 t4 t5 u1 u2 u3 u4 u5 u6 u7 n1:Addr}(X:K.In h)(G:h.Ns mainGlobals mg)(hfa:mg "law" = some (.ref fa)){c0 P0:Addr}(CK:gG K c0 P0)(htab:PySem.W.tabIn K "bracket_at" = some (c0,P0))(n_cF:PySem.W.nsIn K mainGlobals "NoFigure" = some (some (.ref cF)))(n_md:PySem.W.nsIn K mainGlobals "MOST_DIGITS" = some (some (.int 12 t1)))(n_dg:PySem.W.nsIn K mainGlobals "DIGITS" = some (some (.str "0123456789" t2)))(n_dp:PySem.W.nsIn K mainGlobals "DEEPEST" = some (some (.int 8 t3)))(n_ml:PySem.W.nsIn K mainGlobals "LONGEST_NAME" = some (some (.int 12 t4)))(n_mt:PySem.W.nsIn K mainGlobals "LETTERS" = some (some (.str "abcdefghijklmnopqrstuvwxyz" t5)))(n_kd:PySem.W.nsIn K mainGlobals "KINDS" = some (some (.ref kd)))(kdo:Wz.KT K kd (Wz.kindsL.map L2.V.str))(n_cs:PySem.W.nsIn K mainGlobals "SIZES" = some (some (.ref cs)))(szo:K.lookup cs=some (L2.hObj w.params (Wz.szL ⟨q1,q2,q3,q4,q5,q6,q7⟩) [u1,u2,u3,u4,u5,u6,u7] n1))(szs:(cs == sysModules)=false)(sz1:Wz.KT K q1 [.int 2,.int 2])(sz2:Wz.KT K q2 [.int 2,.int 60])(sz3:Wz.KT K q3 [.int 2,.int 60])(sz4:Wz.KT K q4 [.int 2,.int 60])(sz5:Wz.KT K q5 [.int 4,.int 4])(sz6:Wz.KT K q6 [.int 1,.int 60])(sz7:Wz.KT K q7 [.int 1,.int 1])(e_cF:kT K cF)(x_ff:PySem.W.exmOne K (.ref cF) (.ref cF)=some true)(gb:aY K "_law_cell_at" dG)(jy:aY K "_law_size" fQ)(iU:aY K "_law_draws" eW)(jz:aY K "_law_word" fR)(iX:aY K "_law_ranks" dy)(iV:aY K "_law_guest" eX)(iW:aY K "_law_plain" cS)(iY:aY K "_law_small" eY)(gc:aY K "_law_wrapped" bP)(gI:aY K "_law_figure" cZ)(cK:aY K "_law_figure_text" bu)(il:aY K "word_at" gD)(iT:aY K "figure_of" eU)(jA:aY K "parts_at" fS)(gg:aY K "read_number" cU)(i2:aY K "number_at" e7)(eC:aY K "bracket_at" aE)(ik:aY K "is_name" eV)(fB:aY K "figure_at" eT)(gf:aY K "read_figure" dH)(jx:aY K "_law_read" fO)(e8:aY K "_law_bad_texts" cW)(gJ:aY K "_law_spoilt" d9)(iZ:aY K "_law_whole" eZ)(dJ:aY K "_law_guests_good" bW)(fb:aY K "_law_good_name" cw)(cM:aY K "_law_good_figure" bV)(sR:aY K "law" ox)(tO:PySem.W.nsIn K mainGlobals "len" = some none)(o6:PySem.W.nsIn K mainGlobals "range" = some none)(ic:PySem.W.nsIn K mainGlobals "isinstance" = some none)(o7:PySem.W.nsIn K mainGlobals "tuple" = some none)(rG:PySem.W.nsIn K mainGlobals "list" = some none)(tN:PySem.W.nsIn K mainGlobals "int" = some none)(rE:PySem.W.nsIn K mainGlobals "bool" = some none)(tL:PySem.W.nsIn K mainGlobals "all" = some none)(tM:PySem.W.nsIn K mainGlobals "any" = some none)(nD:PySem.W.nsIn K mainGlobals "sorted" = some none)(kg:PySem.W.nsIn K mainGlobals "reversed" = some none)(tR:PySem.W.nsIn K mainGlobals "set" = some none)(tQ:PySem.W.nsIn K mainGlobals "min" = some none)(tP:PySem.W.nsIn K mainGlobals "max" = some none)(rF:PySem.W.nsIn K mainGlobals "dict" = some none)(tW:PySem.W.nsIn K mainGlobals "zip" = some none)(jc:PySem.W.nsIn K mainGlobals "enumerate" = some none)(tV:PySem.W.nsIn K mainGlobals "sum" = some none)(tT:PySem.W.nsIn K mainGlobals "str" = some none) :
  ∃ fd:FuncData,(∀ (s:Shared)(v:Value),BindsTo s fd ⟨[v],[]⟩ [("_law_script",v)])/\∀ base:Heap,K.In base->base.Ns mainGlobals mg->ii mg base->bc l.prog w K mg base gE 41 fa fd ["_law_script"] (ke K P0):=by
 have T:Txt mg:=⟨yq X G tO,yq X G o6,yq X G ic,yq X G o7,yq X G rG,yq X G tN,yq X G rE,yq X G tL,yq X G tM,yq X G nD,yq X G kg,yq X G tR,yq X G tQ,yq X G tP,yq X G rF,yq X G tW,yq X G jc,yq X G tV,yq X G tT⟩;have UO:vj K mg w cF kd cs ⟨q1,q2,q3,q4,q5,q6,q7⟩:=⟨e_cF,yY X G n_cF,x_ff,⟨_,yY X G n_md,⟨_,rfl⟩⟩,⟨_,yY X G n_dg,⟨_,rfl⟩⟩,⟨_,yY X G n_dp,⟨_,rfl⟩⟩,⟨_,yY X G n_ml,⟨_,rfl⟩⟩,⟨_,yY X G n_mt,⟨_,rfl⟩⟩,yY X G n_kd,kdo,yY X G n_cs,⟨by show ((["pair","line","star","all","quad","row","back"]:List Str)).Nodup;decide +kernel,szs,[u1,u2,u3,u4,u5,u6,u7],n1,rfl,szo⟩,sz1,sz2,sz3,sz4,sz5,sz6,sz7⟩;obtain⟨f_parts_at,i4,a_parts_at,G_parts_at⟩:=jA;obtain⟨f_number_at,k7,a_number_at,G_number_at⟩:=i2;obtain⟨f_law,uj,a_law,G_law⟩:=sR;have e:=hfa.symm.trans (yY X G a_law);cases e;refine⟨uj,?_,fun base KB _ BK=>?_⟩
 ·obtain⟨_,_,_,_,_,_,_,_,_,rfl,_,_⟩:=G_law.ex
  exact fun s v=>.of_eq rfl
 ·have bX:aA l.prog w K mg base "_law_cell_at" 1 ["_law_script","_law_k"] (lY K):=jg X G gb fun _ _ h=>jV T UO h
  have bq:aA l.prog w K mg base "_law_size" 1 ["_law_cell"] iQ:=jg X G jy fun _ _ h=>mT T UO h;have cJ:aA l.prog w K mg base "_law_draws" 2 ["_law_cell","_law_many","_law_base"] gZ:=jg X G iU fun _ _ h=>lD T UO h bq;have gn:aA l.prog w K mg base "_law_word" 3 ["_law_cell"] o1:=jg X G jz fun _ _ h=>mU T UO h cJ;have ft:aA l.prog w K mg base "_law_ranks" 1 ["_law_drawn"] jt:=jg X G iX fun _ _ h=>lG T UO h;have bp:aA l.prog w K mg base "_law_guest" 2 ["_law_k","_law_cell"] g8:=jg X G iV fun _ _ h=>lE T UO h bq;have fm:aA l.prog w K mg base "_law_plain" 3 ["_law_drawn","_law_cell"] lZ:=jg X G iW fun _ _ h=>lF T UO h ft bp;have fv:aA l.prog w K mg base "_law_small" 1 ["_law_figure_here"] hW:=jg X G iY fun _ _ h=>lH T UO h;have d5:aA l.prog w K mg base "_law_wrapped" 4 ["_law_shelf","_law_drawn","_law_names"] jw:=jg X G gc fun _ _ h=>jW T UO h fv;have ey:aA l.prog w K mg base "_law_figure" 5 ["_law_draws_here","_law_cell","_law_names"] jr:=jg X G gI fun _ _ h=>ko T UO h fm d5 bp
  have R_law_figure_text:∀ n:Nat,n<=9->aA l.prog w K mg base "_law_figure_text" (n+1) ["_law_figure_here"] (iP n):=by
   intro n
   induction n with
   | zero=>exact fun _=>jg X G cK fun _ _ _=>jj (by intro _ _ _ _ h;cases h;exact (show False from ‹bA 0 _ _ _›))
   | succ n ih=>exact fun hn=>jg X G cK fun _ _ h=>gv T UO h (by omega) (ih (by omega))
  have a6:aA l.prog w K mg base "_law_figure_text" 10 ["_law_figure_here"] (iP 9):=R_law_figure_text 9 (x8 _)
  have RB:∀ d:Nat,d<=8->∀ b:Heap,K.In b->ii mg b->bR l.prog w K mg b "figure_at" (4*d+5) ["text","at","deep"] (fM P0 ax am cF d d (figM d)):=by
   intro d
   induction d with
   | zero =>
    intro _ b kb bb;have Cword_at:aA l.prog w K mg b "word_at" 1 ["text","at"] gC:=jg X G il fun _ _ h=>jZ T UO h;have Cis_name:aA l.prog w K mg b "is_name" 1 ["word"] hV:=jg X G ik fun _ _ h=>jU T UO h;exact vI X G fB fun _ _ h=>gT T UO h (lv:=1) (vI X G eC fun _ _ _=>jj fun _ _ _ _ h=>h) Cword_at Cis_name
   | succ d ih =>
    intro hd b kb bb;have Cword_at:aA l.prog w K mg b "word_at" 1 ["text","at"] gC:=jg X G il fun _ _ h=>jZ T UO h;have Cis_name:aA l.prog w K mg b "is_name" 1 ["word"] hV:=jg X G ik fun _ _ h=>jU T UO h;have Cread_number:aA l.prog w K mg b "read_number" 1 ["word"] oZ:=jg X G gg fun _ _ h=>jY T UO h;have Cfigure_of:bR l.prog w K mg b "figure_of" 1 ["word","parts"] (kc cF d):=vI X G iT fun _ _ h=>lC T UO h;have LN:bc l.prog w K mg b (ij l.prog w) 2 f_number_at k7 ["text","at"] (rh P0 ax am cF (fun _=>True) numAt vh):=lJ T UO G_number_at Cword_at Cread_number
    have Cparts_at:bR l.prog w K mg b "parts_at" 3 ["text","at","read_part"] (ni P0 ax am cF f_number_at (fun _=>True) numAt vh):=by
     obtain⟨_,_,_,_,_,_,_,_,_,rfl,lk,_⟩:=id G_number_at.ex;exact⟨f_parts_at,i4,i8 T UO G_parts_at (fun _ _ j _=>j) (fun _ _ _ _ a _=>a) lV LN (kb _ _ lk) rfl (fun s us hl=>match us,hl with | [_,_],_=>.of_eq rfl),yY X G a_parts_at,G_parts_at.kp,G_parts_at.binds (ps:=["text","at","read_part"]) (by intro _ _ _ _ _ _;(repeat refine vE fun _=>?_);exact vD rfl)⟩
    have WS:∀ (b2:Heap)(fl c1 cy:Addr)(vy:V)(pm ct:Value),Mod K mg b2->ii mg b2->kv b2 am (r9 (dN aE)) (se (dN aE)) (qy (dN aE)) "deep" vy fl c1 cy pm ct->bc l.prog w K mg b2 (ij l.prog w) (4*d+5+2) f_parts_at i4 ["text","at","read_part"] (ow P0 ax am cF d fl c1 vy):=by
     intro b2 fl c1 cy vy pm ct md2 bl2 lm
     by_cases hv:vy=.int ((d+1:Nat):Int)
     ·subst hv
      refine pq (fun _ _ _ _ h=>by cases h;assumption) (i8 T UO G_parts_at (fun _ _ j g=>g.code j) (fun _ _ _ _ a g=>?_) (jq d) (gU T UO (ih (by omega) b2 md2.kin bl2) lm) lm.ob rfl (fun s us hl=>match us,hl with | [_,_],_=>.of_eq rfl));obtain⟨p,e,hp⟩:=a;exact⟨p,e,g.fg hp⟩
     ·exact jj (fun _ _ _ _ h=>by cases h;exact hv (by assumption))
    have Cbracket_at:bR l.prog w K mg b "bracket_at" (4*d+5+3) ["text","at","deep"] (tp P0 ax am cF (d+1)):=by
     obtain⟨f9,fd9,a9,g9⟩:=eC;exact⟨f9,fd9,kn T UO g9 (rA htab a9 g9) CK bb (yY X G a_parts_at) G_parts_at.kp (G_parts_at.binds (ps:=["text","at","read_part"]) (by intro _ _ _ _ _ _;(repeat refine vE fun _=>?_);exact vD rfl)) WS (yY X G a_number_at) Cparts_at Cword_at Cfigure_of (by omega),yY X G a9,g9.kp,g9.binds (ps:=["text","at","deep"]) (by intro _ _ _ _ _ _;(repeat refine vE fun _=>?_);exact vD rfl)⟩
    exact vI X G fB fun _ _ h=>gT T UO h (lv:=4*d+5) Cbracket_at Cword_at Cis_name
  have Cfigure_at:bR l.prog w K mg base "figure_at" 37 ["text","at","deep"] (fM P0 ax am cF 8 8 (figM 8)):=RB 8 (x8 _) base KB BK;have Cread_figure:bR l.prog w K mg base "read_figure" 38 ["text"] (o0 P0 ax am cF):=vI X G gf fun _ _ h=>jX T UO h Cfigure_at;have eA:aA l.prog w K mg base "_law_read" 39 ["_law_text"] (l9 P0 ax am):=jg X G jx fun _ _ h=>mS T UO h Cread_figure;have df:aA l.prog w K mg base "_law_bad_texts" 1 [] oY:=jg X G e8 fun _ _ h=>iH T UO h;have eB:aA l.prog w K mg base "_law_spoilt" 1 ["_law_text","_law_cell"] ju:=jg X G gJ fun _ _ h=>kq T UO h;have fz:aA l.prog w K mg base "_law_whole" 1 ["_law_found"] jv:=jg X G iZ fun _ _ h=>lI T UO h;have bF:aA l.prog w K mg base "_law_guests_good" 2 ["_law_found","_law_least","_law_most"] (sG K):=jg X G dJ fun _ _ h=>gx T UO h fz;have dh:aA l.prog w K mg base "_law_good_name" 1 ["_law_word_here"] js:=jg X G fb fun _ _ h=>iI T UO h
  have R_law_good_figure:∀ n:Nat,n<=9->aA l.prog w K mg base "_law_good_figure" (n+2) ["_law_figure_here","_law_deep"] (pT n):=by
   intro n
   induction n with
   | zero=>exact fun _=>jg X G cM fun _ _ _=>jj (by intro _ _ _ _ h;cases h;exact (show False from ‹bA 0 _ _ _›))
   | succ n ih=>exact fun hn=>jg X G cM fun _ _ h=>gw T UO h bF dh (by omega) (ih (by omega))
  have bg:aA l.prog w K mg base "_law_good_figure" 10 ["_law_figure_here","_law_deep"] (pT 8):=R_law_good_figure 8 (by decide);exact uG T UO G_law bX bq gn cJ ey a6 eA df eB bg
theorem walk {l:PySem.W.OpenLaw}{q:Program}{loose:List Str}{XP:(Str->Option Value)->Heap->Prop}{YP:World->Heap->Prop}{d:DefRec}{K:Params->PySem.W.Frag}{c0 P0:Addr}(hn:l.most=some 63)(hdf:d.params.defaults=[])
  (hY:∀ (w:World)(h:Heap),YP w h->(K w.params).In h)
  (hTY:∀ (w:World)(h:Heap),YP w h->h.get? P0=some (PySem.W.tabObj #[])) (hch:∀ w:World,PySem.W.codeHdIn (K w.params) c0 P0=true) (htab:∀ w:World,PySem.W.tabIn (K w.params) "bracket_at" = some (c0,P0)) (hnt:∀ w:World,PySem.W.noTabs (K w.params)=true)
  (F:∀ (w:World)(mg:Str->Option Value)(fa:Addr)(h:Heap),(K w.params).In h->h.Ns mainGlobals mg->mg d.name=some (.ref fa)->gG (K w.params) c0 P0->PySem.W.tabIn (K w.params) "bracket_at" = some (c0,P0) ->
   ∃ fd:FuncData,(∀ (s:Shared)(u:Value),BindsTo s fd ⟨[u],[]⟩ [("_law_script",u)])/\∀ base:Heap,(K w.params).In base->base.Ns mainGlobals mg->ii mg base->bc l.prog w (K w.params) mg base gE 41 fa fd ["_law_script"] (ke (K w.params) P0)) :
  PySem.W.WalkO q loose XP YP l.row.toRowW d [] (fun f vs=>PySem.call f vs) :=
 L2.walk_ofT (n:=63) (k:=41) (x:="_law_script") (nm:="bracket_at") (CX:=fun _=>gE) (sp:=fun w=>ke (K w.params) P0) hn (by decide) hdf ⟨rfl,by decide,by decide⟩ hY hTY hch htab hnt F (fun _ _ a ns hl hT hS=>⟨a,ns,rfl,hS,hl,hT,fun _=>rfl⟩) fun _ _ _ _ _ z=>z
end Wk46
namespace PySem.W.Fast
def tw194653349750680781:=0
def tw14566608039938920328:=0
def tw5219171940873412502:=0
def tw17964554925527549766:=0
def tw8395670120173327211:=0
def tw1326836054524018267:=0
def tw3584260123951124827:=0
def tw6959537728824159908:=0
def tw17494004789424726117:=0
def tw17662510196348562220:=0
def tw17096590286732705752:=0
def tw13525529984552116322:=0
def tw10215488030202354179:=0
def tw2247509958252339693:=0
def tw16867698960382356360:=0
def tw8182457894029032247:=0
def tw13673135928018265961:=0
def tw13970777364308998166:=0
def tw829480934824738803:=0
def tw142431398000153656:=0
def tw12390413538397598138:=0
def tw3710220259409842028:=0
def tw11100834758002872140:=0
def tw2250041562579819777:=0
def tw8670406203533534780:=0
def tw361243036935059143:=0
def tw12441019974886919261:=0
def tw18026110569300041575:=0
def tw2046469414018350646:=0
def tw18391552245563859536:=0
def tw17902465189468072115:=0
def tw11926195134047320031:=0
def tw9436570904926017781:=0
def tw17828667845457036816:=0
def tw17021493370288803561:=0
def tw5332666717430642285:=0
def tw18256581321029156882:=0
def tw4278248736637028830:=0
def tw10080505105653095037:=0
def tw10988576553886763322:=0
def tw10516841382354878639:=0
def tw15696928129165087115:=0
def tw14907068464424740262:=0
def tw11840202756010074041:=0
def tw14006382607060658591:=0
def tw2373327497189853669:=0
def tw12847212117350975928:=0
def tw7400508297182522845:=0
def tw16564307053655026047:=0
def tw13466413065113303173:=0
def tw1998174893511881216:=0
def tw5021712897207839009:=0
def tw12741854864287470181:=0
def tw13344410897157879381:=0
def tw3003818524180477291:=0
def tw818791189713902412:=0
def tw13776349269018933033:=0
def tw14317991870531147350:=0
def tw5347796415831924421:=0
def tw3419670515093569993:=0
def tw9143589286310045437:=0
def tw7128894873876815185:=0
def tw5389754510276239263:=0
def tw15404220183944696658:=0
def tw10542220800792535917:=0
def tw744265172506798536:=0
def tw363160158079665696:=0
def tw11901855858460797099:=0
def tw3698964167496785489:=0
def tw10474571060226112418:=0
def tw4098773439902119972:=0
def tw16268803052581903818:=0
def tw5118343439293774308:=0
def tw11592677182549066430:=0
def tw5752384266190905852:=0
def tw15027613533209973088:=0
def tw13483758401586849488:=0
def tw482526688579721377:=0
def tw16934003220734088211:=0
def tw3314553155051683878:=0
def tw6414230780914816806:=0
def tw12284074931631667979:=0
def tw1908211769003258684:=0
def tw5365323394690537960:=0
def tw10384361579041221238:=0
def tw17681197450767218908:=0
def tw6225349565561891468:=0
def tw176062804910351210:=0
def tw18314791285978297142:=0
def tw5416481079564156514:=0
def tw4557154608609781528:=0
def tw14475886594055263050:=0
def tw17382963973108038923:=0
def tw3097205086663175815:=0
def tw7423519355011600710:=0
def tw10725810326978439447:=0
def tw12787140745337391169:=0
def tw12078992406464846374:=0
def tw6154908481183514101:=0
def tw2443480608333002904:=0
def tw5500077256830818871:=0
def tw11379251576583383575:=0
def tw18374188648132807758:=0
def tw15164183429503875747:=0
def tw3080104109200554833:=0
def tw2281705935529126094:=0
def tw15451893361875410759:=0
def tw3747267405725606785:=0
def tw12686923398564169958:=0
def tw9933831628094854779:=0
def tw16226088593906087075:=0
def tw8939286616889650476:=0
def tw15256006377595129840:=0
def tw807996658100130494:=0
def tw3170767967168925808:=0
def tw11176702052050252842:=0
def tw1062637546306485119:=0
def tw12753705888564742704:=0
def tw1778392924697334978:=0
def tw11838743453329609691:=0
def tw13055179971712348737:=0
def tw10556496398500162954:=0
def tw3323782325724983194:=0
def tw9850218567371069834:=0
end PySem.W.Fast
open PySem PySem.W PyProof.Rows
set_option maxRecDepth 100000 in
set_option maxHeartbeats 0 in
theorem PySem.Challenge.cw_lastwaltz_k46_texts_that_are_no_figures_holds : PySem.Challenge.rw_lastwaltz_k46_texts_that_are_no_figures.Holds := by
 w_on;o_law;k_head;(case hw=>w_witness2)
 k_fill
 refine Wk46.walk (l:=PySem.Challenge.rw_lastwaltz_k46_texts_that_are_no_figures) (c0:=92) (P0:=88) rfl rfl (fun w h Y=>PySem.W.km_in_of Y) (fun w h Y=>PySem.W.km_tabs_of Y _ (ya)) (fun w=>by kernel_rfl) (fun w=>by kernel_rfl) (fun w=>by kernel_rfl) ?F
 case F =>
  intro w mg fa h KX G hmg CK htab;refine' Wk46.all_mk2 KX G hmg CK htab ?n_cF ?n_md ?n_dg ?n_dp ?n_ml ?n_mt ?n_kd ?kdo ?n_cs ?szo ?szs ?sz1 ?sz2 ?sz3 ?sz4 ?sz5 ?sz6 ?sz7 ?e_cF ?x_ff ?gb ?jy ?iU ?jz ?iX ?iV ?iW ?iY ?gc ?gI ?cK ?il ?iT ?jA ?gg ?i2 ?eC ?ik ?fB ?gf ?jx ?e8 ?gJ ?iZ ?dJ ?fb ?cM ?sR ?tO ?o6 ?ic ?o7 ?rG ?tN ?rE ?tL ?tM ?nD ?kg ?tR ?tQ ?tP ?rF ?tW ?jc ?tV ?tT
  (case n_cF=>k_is)
  (case n_md=>k_is)
  (case n_dg=>k_is)
  (case n_dp=>k_is)
  (case n_ml=>k_is)
  (case n_mt=>k_is)
  (case n_kd=>k_is)
  (case kdo=>exact⟨_,_,_,rfl,rfl,rfl,by decide,.cons ⟨_,rfl⟩ (.cons ⟨_,rfl⟩ (.cons ⟨_,rfl⟩ (.cons ⟨_,rfl⟩ (.cons ⟨_,rfl⟩ (.cons ⟨_,rfl⟩ (.cons ⟨_,rfl⟩ (.cons ⟨_,rfl⟩ .nil)))))))⟩)
  (case n_cs=>k_is)
  (case szo=>exact rfl)
  (case szs=>kernel_rfl)
  (case sz1=>exact⟨_,_,_,rfl,rfl,rfl,by decide,.cons ⟨_,rfl⟩ (.cons ⟨_,rfl⟩ .nil)⟩)
  (case sz2=>exact⟨_,_,_,rfl,rfl,rfl,by decide,.cons ⟨_,rfl⟩ (.cons ⟨_,rfl⟩ .nil)⟩)
  (case sz3=>exact⟨_,_,_,rfl,rfl,rfl,by decide,.cons ⟨_,rfl⟩ (.cons ⟨_,rfl⟩ .nil)⟩)
  (case sz4=>exact⟨_,_,_,rfl,rfl,rfl,by decide,.cons ⟨_,rfl⟩ (.cons ⟨_,rfl⟩ .nil)⟩)
  (case sz5=>exact⟨_,_,_,rfl,rfl,rfl,by decide,.cons ⟨_,rfl⟩ (.cons ⟨_,rfl⟩ .nil)⟩)
  (case sz6=>exact⟨_,_,_,rfl,rfl,rfl,by decide,.cons ⟨_,rfl⟩ (.cons ⟨_,rfl⟩ .nil)⟩)
  (case sz7=>exact⟨_,_,_,rfl,rfl,rfl,by decide,.cons ⟨_,rfl⟩ (.cons ⟨_,rfl⟩ .nil)⟩)
  (case e_cF=>kernel_rfl)
  (case x_ff=>kernel_rfl)
  all_goals first | (refine' Wz.fact_mk ?a ?l ?c ?k;(case a=>k_is);(case l=>k_is);(case c=>k_is);(case k=>k_is)) | (refine' Wz.mfact_mk ?a ?i ?l ?c ?k;(case a=>k_is);(case i=>k_is);(case l=>k_is);(case c=>k_is);(case k=>k_is)) | k_is
