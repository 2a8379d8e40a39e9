import PyProof.Rows.All
import Wide.All
import OpenK.AllK
import Wide.FinOn
import Lean
import PyProof.EqAt
import PyProof.EqKinds
import PyProof.TupleCall
import PyProof.NeData
import PyProof.DictItems
import PyProof.JoinWalk
import PyProof.CallStr
import OpenK.KOwn
import KE.KTryMore
import PyProof.EnumMake
import KE.KLam
import KE.KNestM
import KE.KEqDict
import PyProof.Conv_int
import PyProof.StrWalks
import PyProof.StrCalls2
import PyProof.StrLawsIn
import PyProof.SliceStr2
import PyProof.StrBlock2
import PySem.Challenge.RW_lastwaltz_k45_written_and_read
set_option Elab.async false
set_option linter.all false
set_option maxRecDepth 100000
set_option maxHeartbeats 4000000
theorem xk:type_of% @List.length_map:=@List.length_map
theorem xm:type_of% @Nat.le_refl:=@Nat.le_refl
theorem xn:type_of% @decide_eq_false:=@decide_eq_false
theorem xo:type_of% @decide_eq_true:=@decide_eq_true
theorem xp:type_of% @List.mem_cons_self:=@List.mem_cons_self
theorem xq:type_of% @List.mem_cons_of_mem:=@List.mem_cons_of_mem
theorem xr:type_of% @PySem.wpAny_bind:=@PySem.wpAny_bind
theorem xu:type_of% @Bool.false_ne_true:=@Bool.false_ne_true
theorem xv:type_of% @List.length_append:=@List.length_append
theorem xx:type_of% @if_neg:=@if_neg
theorem xy:type_of% @List.size_toArray:=@List.size_toArray
theorem xz:type_of% @PySem.Heap.lt_size:=@PySem.Heap.lt_size
theorem xA:type_of% @if_pos:=@if_pos
theorem xB:type_of% @List.mem_cons:=@List.mem_cons
theorem xC:type_of% @List.map_append:=@List.map_append
theorem xD:type_of% @Nat.lt_of_lt_of_le:=@Nat.lt_of_lt_of_le
theorem xE:type_of% @Option.some.inj:=@Option.some.inj
theorem xF:type_of% @List.length_cons:=@List.length_cons
theorem xG:type_of% @List.mem_singleton:=@List.mem_singleton
theorem xH:type_of% @PySem.wpAny_pure:=@PySem.wpAny_pure
theorem xI:type_of% @List.length_drop:=@List.length_drop
theorem xJ:type_of% @List.lookup_cons:=@List.lookup_cons
theorem xK:type_of% @Nat.ne_of_lt:=@Nat.ne_of_lt
theorem xL:type_of% @PySem.W.mg_none_of:=@PySem.W.mg_none_of
theorem xM:type_of% @List.map_cons:=@List.map_cons
theorem xN:type_of% @PySem.Paired.length:=@PySem.Paired.length
theorem xO:type_of% @List.mem_of_getElem?:=@List.mem_of_getElem?
theorem xP:type_of% @List.mem_map:=@List.mem_map
theorem xQ:type_of% @List.replicate_succ:=@List.replicate_succ
theorem xR:type_of% @List.length_singleton:=@List.length_singleton
theorem xS:type_of% @List.length_take:=@List.length_take
theorem xT:type_of% @List.all_eq_true:=@List.all_eq_true
theorem xU:type_of% @List.mem_append:=@List.mem_append
theorem xV:type_of% @List.mem_append_right:=@List.mem_append_right
theorem xW:type_of% @Array.length_toList:=@Array.length_toList
theorem xX:type_of% @Nat.zero_le:=@Nat.zero_le
theorem xY:type_of% @PySem.sizeLine_eq:=@PySem.sizeLine_eq
theorem xZ:type_of% @Nat.le_trans:=@Nat.le_trans
theorem x0:type_of% @of_decide_eq_true:=@of_decide_eq_true
theorem x3:type_of% @List.drop_drop:=@List.drop_drop
theorem x5:type_of% @PySem.W.mg_of:=@PySem.W.mg_of
theorem x6:type_of% @List.mem_map_of_mem:=@List.mem_map_of_mem
theorem x8:type_of% @List.flatten_cons:=@List.flatten_cons
theorem x9:type_of% @PySem.F.plainAttrs_list:=@PySem.F.plainAttrs_list
theorem ya:type_of% @PySem.boot_len:=@PySem.boot_len
theorem yb:type_of% @Int.emod_lt_of_pos:=@Int.emod_lt_of_pos
theorem yc:type_of% @Bool.and_eq_true:=@Bool.and_eq_true
theorem yd:type_of% @beq_eq_false_iff_ne:=@beq_eq_false_iff_ne
theorem ye:type_of% @PySem.F.slot_list_append:=@PySem.F.slot_list_append
theorem yf:type_of% @PySem.F.type_list_append:=@PySem.F.type_list_append
theorem yg:type_of% @PySem.W.kia_one:=@PySem.W.kia_one
theorem yh:type_of% @PySem.PassesOwn.never:=@PySem.PassesOwn.never
theorem yi:type_of% @Option.toList_some:=@Option.toList_some
theorem yj:type_of% @PySem.wpAny_mono:=@PySem.wpAny_mono
theorem yk:type_of% @PySem.wpAny_truthy_bool:=@PySem.wpAny_truthy_bool
theorem ym:type_of% @List.take_add_one:=@List.take_add_one
theorem yn:type_of% @congrArg:=@congrArg
theorem yo:type_of% @PySem.mem_of_lookup:=@PySem.mem_of_lookup
theorem yp:type_of% @Int.emod_nonneg:=@Int.emod_nonneg
theorem yq:type_of% @List.take_length:=@List.take_length
theorem yr:type_of% @List.map_map:=@List.map_map
theorem yu:type_of% @PyProof.Rows.boot_tuple:=@PyProof.Rows.boot_tuple
theorem yx:type_of% @Nat.min_eq_left:=@Nat.min_eq_left
theorem yy:type_of% @PySem.wpAny_Call_Name_kw:=@PySem.wpAny_Call_Name_kw
theorem yz:type_of% @PySem.wpAny_newObj_type:=@PySem.wpAny_newObj_type
theorem yA:type_of% @List.mem_range:=@List.mem_range
theorem yB:type_of% @Ne.symm:=@Ne.symm
theorem yC:type_of% @List.drop_zero:=@List.drop_zero
theorem yD:type_of% @PySem.F.plain_max_loop:=@PySem.F.plain_max_loop
theorem yE:type_of% @List.take_of_length_le:=@List.take_of_length_le
theorem yF:type_of% @Option.map_eq_some_iff:=@Option.map_eq_some_iff
theorem yG:type_of% @PySem.wpAny_passesOwn:=@PySem.wpAny_passesOwn
theorem yH:type_of% @List.append_nil:=@List.append_nil
theorem yI:type_of% @List.length_replicate:=@List.length_replicate
theorem yJ:type_of% @PyProof.Rows.boot_str:=@PyProof.Rows.boot_str
theorem yK:type_of% @Nat.lt_irrefl:=@Nat.lt_irrefl
theorem yL:type_of% @PySem.codeAny_mono:=@PySem.codeAny_mono
theorem yM:type_of% @decide_eq_decide:=@decide_eq_decide
theorem yN:type_of% @PySem.F.called_set:=@PySem.F.called_set
theorem yO:type_of% @PySem.wpAny_execs_nil:=@PySem.wpAny_execs_nil
theorem yP:type_of% @PySem.Calls.spliced_cons:=@PySem.Calls.spliced_cons
theorem yQ:type_of% @List.nodup_cons:=@List.nodup_cons
theorem yR:type_of% @Int.toNat_natCast:=@Int.toNat_natCast
theorem yS:type_of% @List.append_assoc:=@List.append_assoc
theorem yT:type_of% @List.flatMap_cons:=@List.flatMap_cons
theorem yU:type_of% @if_true:=@if_true
theorem yV:type_of% @List.take_zero:=@List.take_zero
theorem yW:type_of% @PySem.wpAny_field:=@PySem.wpAny_field
namespace L2
open PySem PySem.Spec PyProof.Rows
abbrev kC:=Sum Int Str
def nM:kC->Value->Bool
 | .inl k,v=>Value.isInt k v
 | .inr x,v=>Value.isStrOf x v
def v8 (w:World):kC->Int
 | .inl k=>hashInt k
 | .inr x=>hashStr w x
theorem bo:∀ {k:kC}{v:Value},nM k v=true->(∃ i t,k=Sum.inl i/\v=Value.int i t)\/(∃ x t,k=Sum.inr x/\v=Value.str x t)
 | .inl i,v,h=>by
  obtain⟨t,e⟩:=Value.isInt_shape (k:=i) (v:=v) h;exact .inl ⟨i,t,rfl,e⟩
 | .inr x,v,h=>by
  obtain⟨t,e⟩:=Value.isStrOf_shape (x:=x) (v:=v) h;exact .inr ⟨x,t,rfl,e⟩
theorem oD (x:Str)(t:Tok):nM (.inr x) (.str x t)=true:=by simp[nM,Value.isStrOf]
theorem sV (a b:Int):decide ((Sum.inl a:kC)=Sum.inl b)=(a == b):=by
 by_cases e:a=b
 ·subst e;simp
 ·have h:¬ (Sum.inl a:kC)=Sum.inl b:=fun q=>e (Sum.inl.inj q)
  rw[xn h];exact (yd.mpr e).symm
theorem sY (a b:Str):decide ((Sum.inr a:kC)=Sum.inr b)=decide (a=b):=by
 by_cases e:a=b
 ·subst e;simp
 ·have h:¬ (Sum.inr a:kC)=Sum.inr b:=fun q=>e (Sum.inr.inj q)
  rw[xn h,xn e]
theorem sW (a:Int)(b:Str):decide ((Sum.inl a:kC)=Sum.inr b)=false:=xn (fun q=>nomatch q)
theorem sX (a:Str)(b:Int):decide ((Sum.inr a:kC)=Sum.inl b)=false:=xn (fun q=>nomatch q)
def e7 (prog:Program)(w:World):PySem.KeyKind prog w kC where
 is:=nM
 hash:=v8 w
 inj:=fun v a b ha hb=>by
  rcases bo ha with ⟨i,t,rfl,rfl⟩ | ⟨x,t,rfl,rfl⟩
  ·rcases bo hb with ⟨j,u,rfl,e⟩ | ⟨y,u,rfl,e⟩
   ·injection e with e1 _;rw[e1]
   ·exact nomatch e
  ·rcases bo hb with ⟨j,u,rfl,e⟩ | ⟨y,u,rfl,e⟩
   ·exact nomatch e
   ·injection e with e1 _;rw[e1]
 byValue:=fun k v h=>by
  rcases bo h with ⟨i,t,rfl,rfl⟩ | ⟨x,t,rfl,rfl⟩<;>rfl
 pyHash:=fun hv h=>by
  rcases bo hv with ⟨i,t,rfl,rfl⟩ | ⟨x,t,rfl,rfl⟩
  ·exact wpAny_pyHash_int h
  ·exact wpAny_pyHash_str h
 eqBool:=fun hu hv h=>by
  rcases bo hu with ⟨i,t,rfl,rfl⟩ | ⟨x,t,rfl,rfl⟩
  ·rcases bo hv with ⟨j,u,rfl,rfl⟩ | ⟨y,u,rfl,rfl⟩
   ·rw[sV]at h;exact wpAny_eqBool_int h
   ·rw[sW]at h;exact SeqAt.EqAt.int_str i t y u _ _ _ _ h
  ·rcases bo hv with ⟨j,u,rfl,rfl⟩ | ⟨y,u,rfl,rfl⟩
   ·rw[sX]at h;exact SeqAt.EqAt.str_int x t j u _ _ _ _ h
   ·rw[sY]at h;exact wpAny_eqBool_str h
 «strs»:=fun k x t v h=>by
  rcases bo h with ⟨i,u,rfl,e⟩ | ⟨y,u,rfl,e⟩
  ·exact nomatch e
  ·injection e with e1 _
   subst e1;cases v<;>rfl
theorem dn (prog:Program)(w:World)(x:Str)(t:Tok):(e7 prog w).is (.inr x) (.str x t)=true:=oD x t
inductive V where
 | non | bl (b:Bool) | int (i:Int) | str (x:Str) | byt (b:Array UInt8) | flt (b:UInt64) | ref (a:Addr) | ty (n:String)
 deriving DecidableEq
def aQ:V->Value->Prop
 | .non,u=>u=Value.none
 | .bl b,u=>u=Value.bool b
 | .int i,u=>∃ t,u=Value.int i t
 | .str x,u=>∃ t,u=Value.str x t
 | .byt b,u=>∃ t,u=Value.bytes b t
 | .flt b,u=>∃ t,u=Value.float b t
 | .ref a,u=>u=Value.ref a
 | .ty n,u=>u=Value.type n
abbrev aH:List V->List Value->Prop:=Paired aQ
theorem aH.length {xs:List V}{us:List Value}(r:aH xs us):xs.length=us.length:=xN r
theorem aH.get:∀ {xs:List V}{us:List Value}{i:Nat}{x:V},aH xs us->xs[i]? = some x->∃ u,us[i]? = some u/\aQ x u
 | _,_,_,_,.nil,e=>by simp at e
 | _,_,0,_,.cons r _,e=>by simp at e;subst e;exact⟨_,rfl,r⟩
 | _,_,i+1,x,.cons _ t,e=>by
  obtain⟨u,h1,h2⟩:=aH.get (i:=i) (x:=x) t (by simpa using e);exact⟨u,by simpa using h1,h2⟩
theorem aH.append:∀ {xs ys:List V}{us ws:List Value},aH xs us->aH ys ws->aH (xs++ys) (us++ws)
 | _,_,_,_,.nil,s=>s
 | _,_,_,_,.cons r t,s=>.cons r (aH.append t s)
theorem aH.take:∀ {xs:List V}{us:List Value}(n:Nat),aH xs us->aH (xs.take n) (us.take n)
 | _,_,0,_=>.nil
 | _,_,_+1,.nil=>.nil
 | _,_,n+1,.cons r t=>.cons r (aH.take n t)
theorem aH.drop:∀ {xs:List V}{us:List Value}(n:Nat),aH xs us->aH (xs.drop n) (us.drop n)
 | _,_,0,r=>r
 | _,_,_+1,.nil=>.nil
 | _,_,n+1,.cons _ t=>aH.drop n t
def sI:Option V->Option Value->Prop
 | some v,some u=>aQ v u
 | none,none=>True
 | _,_=>False
def KV {κ:Type}:List (κ×V)->List (κ×Value)->Prop:=Paired fun (p:κ×V)(q:κ×Value)=>p.1=q.1/\aQ p.2 q.2
def kV:kC->V
 | .inl i=>.int i
 | .inr x=>.str x
inductive HO where
 | lst (xs:List V)
 | tup (xs:List V)
 | dK (kvs:List (kC×V)) | dT (kvs:List (List kC×V))
 | set (S:Int->Bool) (n:Nat)
 | ins (C dx:Addr) (fs:List (Str×V))
 | own (x:Addr)
 | xd (fs:List (Str×V))
 | met (f x:Addr)
 | rng (lo hi:Int)
 | frz (o:Obj) (u:HO)
 | tbl (ps:Array Value)
 | ext (φ:Heap->Prop)
abbrev Hp:=Addr->Option HO
def aY (H:Hp)(a:Addr)(o:HO):Hp:=fun b=>if b=a then some o else H b
theorem aa {H:Hp}{a:Addr}{o:HO}:aY H a o a=some o:=by unfold aY;rw[xA rfl]
theorem aE {H:Hp}{a b:Addr}{o:HO}(h:b≠a):aY H a o b=H b:=by unfold aY;rw[xx h]
theorem lN {H:Hp}{a:Addr}{o u:HO}:aY (aY H a o) a u=aY H a u:=by
 funext b;unfold aY;split<;>rfl
theorem pO {H:Hp}{a b:Addr}{o u:HO}(h:H a=some o)(h':H b=some u)(d:o≠u):a≠b:=by
 intro e;subst e;rw[h]at h';exact d (xE h')
theorem bH {H:Hp}{a b:Addr}{o:HO}(h:H a=some o)(h':H b=none):a≠b:=by
 intro e;subst e;rw[h]at h';cases h'
def fI (h:Heap)(a:Addr)(items:Array Value):Prop:=∃ o,h.get? a=some o/\o.cls=.type "tuple"/\∃ n,(o.data,o.dict)=(Data.seq items n,(none:Option Addr))
theorem fI.old {h:Heap}{a:Addr}{items:Array Value}(x:fI h a items):IsTup h a items:=let ⟨o,e,c,n,d⟩:=x;⟨o,e,c,n,(Prod.mk.inj d).1⟩
theorem fI.new (h:Heap)(items:Array Value):fI (h.push { cls:=.type "tuple",data:=.seq items }) h.objs.size items:=⟨_,Heap.get?_push_size _ rfl,rfl,_,rfl⟩
section
variable (P:Program)(w:World)
def bR (H:Hp)(h:Heap)(a:Addr):HO->Prop
 | .lst xs=>xs.length<=sizeLine/\∃ (its:List Value)(n:Nat),aH xs its/\h.get? a=some { cls:=.type "list",data:=.seq its.toArray n }
 | .tup xs=>xs.length<=sizeLine/\∃ its:List Value,aH xs its/\fI h a its.toArray
 | .dK kvs=>kvs.length<=sizeLine/\(a == sysModules)=false/\∃ vs,KV kvs vs/\h.DictOf (e7 P w) a vs
 | .dT kvs=>kvs.length<=sizeLine/\(a == sysModules)=false/\∃ xs:List (List kC×Addr×Value),
   Paired (fun (p:List kC×V)(q:List kC×Addr×Value)=>p.1=q.1/\H q.2.1=some (.tup (p.1.map kV))/\aQ p.2 q.2.2) kvs xs /\
   ∃ o es ep,h.get? a=some o/\o.ExactDict/\o.data=.dict es ep/\es.toList=xs.map (entryOfKey (tupleKind (e7 P w)))/\(xs.map (·.1)).Nodup
 | .set S n=>h.SetOf (intKind P w) a S n
 | .ins C dx fs=>H dx=some (.own a)/\fs.length<=1000/\dx≠a/\h.get? a=some (PySem.W.instObj C dx) /\
   ∃ mA,h.Ns1 dx mA/\(∀ f,sI (fs.lookup f) (mA f))/\PySem.Within mA (fs.map (·.1))
 | .own _=>∃ o,h.get? a=some o
 | .xd fs=>∃ mA,h.Ns1 a mA/\∀ f,sI (fs.lookup f) (mA f)
 | .rng lo hi=>∃ t u v,h.get? a=some { cls:=.type "range",data:=.fields #[.int lo t,.int hi u,.int 1 v] }
 | .frz o u=>h.get? a=some o/\bR H h a u
 | .tbl ps=>h.get? a=some { cls:=.none,data:=.fields ps }
 | .met f x=>h.get? a=some (PySem.W.methodObj (.ref f) (.ref x))
 | .ext φ=>φ h/\(∃ o,h.get? a=some o)/\∀ h1 h2:Heap,φ h1->(∀ o,h1.get? a=some o->h2.get? a=some o)->φ h2
def fT (H:Hp)(h:Heap):Prop:=∀ a o,H a=some o->bR P w H h a o
end
section
variable {P:Program}{w:World}{H H':Hp}{h h':Heap}{a:Addr}{o:HO}
theorem bR.lt (x:bR P w H h a o):a<h.objs.size:=by
 cases o with
 | lst xs=>obtain⟨_,_,_,_,e⟩:=x;exact xz e
 | tup xs=>obtain⟨_,_,_,p⟩:=x;exact p.old.lt
 | dK kvs=>obtain⟨_,_,_,_,o,_,_,e,_⟩:=x;exact xz e
 | dT kvs=>obtain⟨_,_,_,_,o,_,_,e,_⟩:=x;exact xz e
 | set S n=>obtain⟨o,_,_,_,e,_⟩:=x;exact xz e
 | ins C dx fs=>obtain⟨_,_,_,e,_⟩:=x;exact xz e
 | own y=>obtain⟨_,e⟩:=x;exact xz e
 | xd fs=>obtain⟨_,⟨_,_,_,e,_⟩,_⟩:=x;exact xz e
 | rng lo hi=>obtain⟨_,_,_,e⟩:=x;exact xz e
 | frz ob u=>obtain⟨e,_⟩:=x;exact xz e
 | tbl ps=>exact xz (show h.get? a=some _ from x)
 | met f y=>exact xz (show h.get? a=some _ from x)
 | ext φ=>obtain⟨_,⟨_,e⟩,_⟩:=x;exact xz e
theorem Paired.mapP {α β:Type}{F G:α->β->Prop}:∀ {l₁:List α}{l₂:List β},Paired F l₁ l₂->(∀ a b,F a b->G a b)->Paired G l₁ l₂
 | _,_,.nil,_=>.nil
 | _,_,.cons r t,f=>.cons (f _ _ r) (Paired.mapP t f)
theorem bR.stay (x:bR P w H h a o)(k:∀ b u,(b=a\/H b=some (.own a))->h.get? b=some u->h'.get? b=some u)
  (ho:∀ b,H b=some (.own a)->H' b=some (.own a)) (ht:∀ b xs,H b=some (.tup xs)->H' b=some (.tup xs)):bR P w H' h' a o:=by
 induction o with
 | lst xs=>obtain⟨z,its,n,r,e⟩:=x;exact⟨z,its,n,r,k _ _ (.inl rfl) e⟩
 | tup xs=>obtain⟨z,its,r,ob,e,c⟩:=x;exact⟨z,its,r,ob,k _ _ (.inl rfl) e,c⟩
 | dK kvs=>obtain⟨z,y,vs,r,ob,es,ep,e,c⟩:=x;exact⟨z,y,vs,r,ob,es,ep,k _ _ (.inl rfl) e,c⟩
 | dT kvs =>
  obtain⟨z,y,xs,r,ob,es,ep,e,c⟩:=x;exact⟨z,y,xs,Paired.mapP r fun p q z=>⟨z.1,ht _ _ z.2.1,z.2.2⟩,ob,es,ep,k _ _ (.inl rfl) e,c⟩
 | set S n=>obtain⟨ob,es,ep,t,e,c⟩:=x;exact⟨ob,es,ep,t,k _ _ (.inl rfl) e,c⟩
 | ins C dx fs =>
  obtain⟨d,z,ne,e,mA,⟨od,es,ep,e2,c⟩,r⟩:=x;exact⟨ho _ d,z,ne,k _ _ (.inl rfl) e,mA,⟨od,es,ep,k _ _ (.inr d) e2,c⟩,r⟩
 | own y=>obtain⟨ob,e⟩:=x;exact⟨ob,k _ _ (.inl rfl) e⟩
 | xd fs=>obtain⟨mA,⟨od,es,ep,e,c⟩,r⟩:=x;exact⟨mA,⟨od,es,ep,k _ _ (.inl rfl) e,c⟩,r⟩
 | rng lo hi=>obtain⟨t,u,v,e⟩:=x;exact⟨t,u,v,k _ _ (.inl rfl) e⟩
 | frz ob u ih=>obtain⟨e,q⟩:=x;exact⟨k _ _ (.inl rfl) e,ih q⟩
 | tbl ps =>
  have e:h.get? a=some { cls:=.none,data:=.fields ps }:=x
  show h'.get? a=some { cls:=.none,data:=.fields ps }
  exact k a _ (.inl rfl) e
 | met f y =>
  have e:h.get? a=some (PySem.W.methodObj (.ref f) (.ref y)):=x
  show h'.get? a=some (PySem.W.methodObj (.ref f) (.ref y))
  exact k a _ (.inl rfl) e
 | ext φ=>obtain⟨p,⟨o,e⟩,st⟩:=x;exact⟨st _ _ p fun o q=>k _ _ (.inl rfl) q,⟨o,k _ _ (.inl rfl) e⟩,st⟩
theorem fT.lt (x:fT P w H h)(e:H a=some o):a<h.objs.size:=(x a o e).lt
theorem fT.fresh (x:fT P w H h)(e:h.objs.size<=a):H a=none:=by
 cases q:H a with
 | none=>rfl
 | some u=>exact absurd (xD (x.lt q) e) (yK _)
theorem fT.kept (x:fT P w H h)(k:∀ b u,h.get? b=some u->h'.get? b=some u):fT P w H h':=fun a o e =>
 (x a o e).stay (fun b u _ q=>k b u q) (fun _ q=>q) fun _ _ q=>q
theorem fT.laid (x:fT P w H h)(k:∀ b u,h.get? b=some u->h'.get? b=some u)(hp:h.objs.size<=a)(new:bR P w (aY H a o) h' a o):fT P w (aY H a o) h':=fun b u e=>by
 have hn:=x.fresh hp
 by_cases hb:b=a
 ·subst hb;rw[aa]at e;cases e;exact new
 ·rw[aE hb]at e
  exact (x b u e).stay (fun c v _ q=>k c v q) (fun c q=>by rw[aE (bH q hn)];exact q) fun c xs q=>by rw[aE (bH q hn)];exact q
end
def Rd (H:Hp)(a:Addr)(u:HO):Prop:=H a=some u\/∃ o,H a=some (.frz o u)
theorem Rd.of {H:Hp}{a:Addr}{u:HO}(h:H a=some u):Rd H a u:=.inl h
theorem Rd.ok {P:Program}{w:World}{H:Hp}{h:Heap}{a:Addr}{u:HO}(r:Rd H a u)(x:fT P w H h):bR P w H h a u:=by
 rcases r with r | ⟨o,r⟩
 ·exact x a u r
 ·obtain⟨_,q⟩:=x a _ r
  exact q
def vz:Option HO->Prop
 | some (.lst _)=>True
 | some (.dK _)=>True
 | some (.dT _)=>True
 | some (.set _ _)=>True
 | some (.ins _ _ _)=>True
 | some (.ext _)=>True
 | _=>False
section
variable {P:Program}{w:World}{H:Hp}{h h':Heap}{x e:Addr}{o':HO}
theorem fT.write (ok:fT P w H h)(mu:vz (H x))(he:e=x\/H e=some (.own x))(k:∀ b u,b≠e->h.get? b=some u->h'.get? b=some u)(heo:∃ u,h'.get? e=some u)
  (new:bR P w (aY H x o') h' x o'):fT P w (aY H x o') h':=fun b u q=>by
 have nown:∀ c y,H c=some (.own y)->c≠x:=fun c y r z=>by subst z;rw[r]at mu;exact mu
 have ntup:∀ c xs,H c=some (.tup xs)->c≠x:=fun c xs r z=>by subst z;rw[r]at mu;exact mu
 by_cases hb:b=x
 ·subst hb;rw[aa]at q;cases q;exact new
 ·rw[aE hb]at q
  by_cases hbe:b=e
  ·have q':H b=some (.own x):=by
    rcases he with z | z
    ·exact absurd (hbe.trans z) hb
    ·rw[hbe];exact z
   rw[q]at q';cases q';obtain⟨v,hv⟩:=heo;exact⟨v,by rw[hbe];exact hv⟩
  ·refine (ok b u q).stay (fun c v hc r=>k c v ?_ r) (fun c r=>by rw[aE (nown c b r)];exact r) fun c xs r=>by rw[aE (ntup c xs r)];exact r
   rcases hc with rfl | hc
   ·exact hbe
   ·rintro rfl
    rcases he with z | z
    ·exact nown c b hc z
    ·rw[hc]at z;cases z;exact hb rfl
end
structure Un (fs ex:List Addr)(H H':Hp)(h h':Heap):Prop where
 keep:∀ b o,h.get? b=some o->H b=none->b∉fs->b∉ex->h'.get? b=some o
 slot:∀ b o,h.get? b=some o->H b=none->b∈fs->b∉ex->∃ sl,h'.get? b=some { o with slots:=sl }
 free:∀ b o,h.get? b=some o->H b=none->b∉ex->H' b=none
 there:∀ b o,h.get? b=some o->b∉ex->∃ o',h'.get? b=some o'
 tups:∀ b xs,H b=some (.tup xs)->H' b=some (.tup xs)
 frzs:∀ b o u,H b=some (.frz o u)->H' b=some (.frz o u)
 tbls:∀ b ps,H b=some (.tbl ps)->∃ more,H' b=some (.tbl (ps++more))
section
variable {fs fs' ex ex':List Addr}{H H1 H2:Hp}{h h1 h2 h':Heap}{a x e:Addr}{o:HO}
theorem Un.any (u:Un fs ex H H1 h h1){b:Addr}{ob:Obj}(q:h.get? b=some ob)(n:H b=none)(hx:b∉ex):∃ sl,h1.get? b=some { ob with slots:=sl }:=by
 by_cases hb:b∈fs
 ·exact u.slot b ob q n hb hx
 ·exact⟨ob.slots,u.keep b ob q n hb hx⟩
theorem Un.kept (k:∀ b u,h.get? b=some u->h'.get? b=some u):Un fs ex H H h h' :=
 ⟨fun b ob q _ _ _=>k b ob q,fun b ob q _ _ _=>⟨ob.slots,k b ob q⟩,fun _ _ _ n _=>n,fun b ob q _=>⟨ob,k b ob q⟩,fun _ _ q=>q,fun _ _ _ q=>q,fun _ ps q=>⟨#[],by rw[q];simp⟩⟩
theorem Un.refl:Un fs ex H H h h:=Un.kept fun _ _ q=>q
theorem Un.laid (k:∀ b u,h.get? b=some u->h'.get? b=some u)(hp:h.objs.size<=a)(hn:H a=none):Un fs ex H (aY H a o) h h' where
 keep:=fun b u q _ _ _=>k b u q
 slot:=fun b u q _ _ _=>⟨u.slots,k b u q⟩
 free:=fun b u q n _=>by rw[aE (xK (xD (xz q) hp))];exact n
 there:=fun b u q _=>⟨u,k b u q⟩
 tups:=fun b xs q=>by rw[aE (bH q hn)];exact q
 frzs:=fun b u xs q=>by rw[aE (bH q hn)];exact q
 tbls:=fun b ps q=>⟨#[],by rw[aE (bH q hn),q];simp⟩
theorem Un.write (mu:vz (H x))(he:e=x\/H e=some (.own x))(k:∀ b u,b≠e->h.get? b=some u->h'.get? b=some u)(heo:∃ u,h'.get? e=some u):Un fs ex H (aY H x o) h h':=by
 have hx:∀ b,H b=none->b≠x:=fun b n z=>by subst z;rw[n]at mu;exact mu
 have hb:∀ b,H b=none->b≠e:=fun b n z=>by
  subst z;rcases he with r | r
  ·exact hx b n r
  ·rw[n]at r;cases r
 have hm:∀ b u,H b=some u->¬ vz (some u)->b≠x:=fun b u q nm z=>by subst z;rw[q]at mu;exact nm mu
 refine⟨fun b u q n _ _=>k b u (hb b n) q,fun b u q n _ _=>⟨u.slots,k b u (hb b n) q⟩,fun b u q n _=>by rw[aE (hx b n)];exact n,fun b u q _=>?_,
  fun b xs q=>by rw[aE (hm b _ q fun z=>z)];exact q,fun b u xs q=>by rw[aE (hm b _ q fun z=>z)];exact q,fun b ps q=>⟨#[],by rw[aE (hm b _ q fun z=>z),q];simp⟩⟩
 by_cases hbe:b=e
 ·subst hbe;exact heo
 ·exact⟨u,k b u hbe q⟩
end
def vH (h:Heap)(H:Hp):List Addr:=(List.range h.objs.size).filter fun a=>(H a).isSome
def kP (h:Heap)(H:Hp):Heap:=PySem.W.hideAll h (vH h H)
theorem oA (h:Heap)(H:Hp):(kP h H).objs.size=h.objs.size:=PySem.W.hideAll_size _ _
theorem jh {h:Heap}{H:Hp}{b:Addr}{o:Obj}(e:h.get? b=some o)(n:H b=none):(kP h H).get? b=some o :=
 PySem.W.hideAll_get _ e fun hm=>by
  have q:(H b).isSome=true:=(List.mem_filter.mp hm).2;rw[n]at q;simp at q
theorem rD {h:Heap}{H:Hp}{b:Addr}{o:Obj}(e:(kP h H).get? b=some o):h.get? b=some o/\H b=none:=by
 have e':h.get? b=some o:=PySem.W.of_hideAll (vH h H) e;refine⟨e',?_⟩
 cases q:H b with
 | none=>rfl
 | some x =>
  have hm:b∈vH h H:=List.mem_filter.mpr ⟨yA.mpr (xz e'),by simp[q]⟩;have z:(kP h H).get? b=none:=PySem.W.hideAll_none (vH h H) hm;rw[z]at e;cases e
structure Mod (K:PySem.W.Frag)(mg:Str->Option Value)(base:Heap):Prop where
 kin:K.In base
 glob:base.Ns mainGlobals mg
 blt:∃ mb,base.Ns builtinsNs mb/\∀ x:Str,x≠"__name__"->mb x=bootBuiltins x
 nolimit:base.NoLimit
structure Cx where
 prog:Program
 w:World
 K:PySem.W.Frag
 mg:Str->Option Value
 base:Heap
 A:Around
 N:List Str
 s₀:Shared
 H₀:Hp
 env:Env
 outer:List Env
 stack:List Env
 ex:List Addr
 fn:Str->Bool
 calm:Bool
 pn:List (Addr×Obj)
 xe:Value->Shared->Prop
def dj (l:List Env):List Addr:=l.filterMap (·.frame)
abbrev Cx.fs (X:Cx):List Addr:=dj X.outer
def uD (sc:Scope)(x:Str):Prop:=sc.names.lookup x=some .local\/sc.names.lookup x=some .cell\/sc.names.lookup x=some .free
def qP (sc:Scope)(x:Str):Prop:=sc.names.lookup x=some .local\/sc.names.lookup x=some .cell
def vM (env:Env)(h:Heap)(m:Str->Option Value)(x:Str)(u:Value):Prop :=
 (env.kindOf x=some .local/\m x=some u)\/((env.kindOf x=some .cell\/env.kindOf x=some .free)/\∃ c,env.cells.lookup x=some c/\h.IsCell c (some u))
structure Cx.Ok (X:Cx):Prop where
 mod:Mod X.K X.mg X.base
 kind:X.env.scope.kind=.function
 glob:X.env.globals=mainGlobals
 blt:X.env.builtins=builtinsNs
 above:X.s₀.heap.objs.size<=X.env.locals
 inj:∀ x y c,X.env.cells.lookup x=some c->X.env.cells.lookup y=some c->x=y
 has:∀ x,(X.env.kindOf x=some .cell\/X.env.kindOf x=some .free)->∃ c,X.env.cells.lookup x=some c
 cab:∀ x c,X.fn x=true->X.env.cells.lookup x=some c->X.s₀.heap.objs.size<=c
 hd:X.calm=true->X.A.handled=none
 frames:X.A.frames=some X.stack
 stk:X.stack=X.outer\/(X.stack=X.env::X.outer/\X.env.frame=some X.env.locals)
 exf:∀ b∈X.ex,b≠X.env.locals/\∀ x c,X.env.cells.lookup x=some c->c≠b
 bs:∀ b o,X.base.get? b=some o->X.s₀.heap.get? b=some o/\X.H₀ b=none
 bsz:X.base.objs.size<=X.s₀.heap.objs.size
 noex:∀ b o,X.base.get? b=some o->b∉X.ex
 exfs:∀ b∈X.ex,b∉X.fs
 funs:X.s₀.heap.FunFrames X.base X.outer
 frf:∀ b∈X.fs,X.H₀ b=none
structure ay (X:Cx)(pins:List (Addr×Obj))(σ:List (Option V))(H:Hp)(s:Shared):Prop where
 ok:X.Ok
 os:s.os=X.s₀.os
 bare:AllBare s.gens
 base:Un X.fs X.ex X.H₀ H X.s₀.heap s.heap
 loc:∃ m,s.heap.Ns X.env.locals m/\∀ (i:Nat)(x:Str)(v:V),X.N[i]? = some x->σ[i]? = some (some v)->uD X.env.scope x->∃ u,aQ v u/\vM X.env s.heap m x u
 cell:∀ x c,X.env.cells.lookup x=some c->∃ v,s.heap.IsCell c v
 free:H X.env.locals=none
 freeC:∀ x c,X.env.cells.lookup x=some c->H c=none
 pin:∀ p∈X.pn++pins,s.heap.get? p.1=some p.2/\H p.1=none/\p.1≠X.env.locals/\p.1∉X.fs/\∀ v,p.2.data≠.cell v
 hok:fT X.prog X.w H s.heap
 len:σ.length=X.N.length
section
variable {X:Cx}{pins:List (Addr×Obj)}{σ:List (Option V)}{H H':Hp}{s:Shared}{h':Heap}
theorem Cx.Ok.nofr (ok:X.Ok){b:Addr}{o:Obj}(e:X.base.get? b=some o):b∉X.fs:=fun hb=>by
 have:=(ok.funs.mem hb).1;rw[e]at this;cases this
theorem ay.bs (I:ay X pins σ H s):∀ b o,X.base.get? b=some o->s.heap.get? b=some o/\H b=none:=fun b o e =>
 ⟨I.base.keep b o (I.ok.bs b o e).1 (I.ok.bs b o e).2 (I.ok.nofr e) (I.ok.noex b o e),I.base.free b o (I.ok.bs b o e).1 (I.ok.bs b o e).2 (I.ok.noex b o e)⟩
theorem ay.bk (I:ay X pins σ H s):∀ b o,X.base.get? b=some o->s.heap.get? b=some o:=fun b o e=>(I.bs b o e).1
theorem ay.mod (I:ay X pins σ H s):Mod X.K X.mg X.base:=I.ok.mod
theorem ay.kIn (I:ay X pins σ H s):X.K.In s.heap:=I.ok.mod.kin.keeps I.bk
theorem ay.lt (I:ay X pins σ H s):X.env.locals<s.heap.objs.size:=let ⟨_,hn,_⟩:=I.loc;hn.lt
theorem ay.sz (I:ay X pins σ H s):X.s₀.heap.objs.size<=s.heap.objs.size:=xZ I.ok.above (Nat.le_of_lt I.lt)
theorem ay.nofs (I:ay X pins σ H s){a:Addr}(h:s.heap.objs.size<=a):a∉X.fs:=fun hb=>by
 obtain⟨_,o,ho,_⟩:=I.ok.funs.mem hb;exact absurd (xD (xz ho) (xZ I.sz h)) (yK _)
theorem ay.cne (I:ay X pins σ H s):∀ x c,X.env.cells.lookup x=some c->c≠X.env.locals:=fun x c e z=>by
 obtain⟨v,o,ho,hd⟩:=I.cell x c e;obtain⟨m,⟨o',es,ep,ho',hd',_⟩,_⟩:=I.loc;rw[z,ho']at ho;cases ho;rw[hd']at hd;cases hd
theorem ay.funs (I:ay X pins σ H s):s.heap.FunFrames X.base X.outer:=by
 have all:∀ (l:List Env),(∀ b∈dj l,b∈X.fs)->X.s₀.heap.FunFrames X.base l->s.heap.FunFrames X.base l:=by
  intro l
  induction l with
  | nil=>intro _ _;trivial
  | cons env r ih =>
   intro hs hl;obtain⟨hk,⟨L,o,hf,hn,ho,hd⟩,hr⟩:=hl;have hL:L∈X.fs:=hs L (by unfold dj;rw[List.filterMap_cons,hf];exact xp);obtain⟨sl,e⟩:=I.base.slot L o ho (I.ok.frf L hL) hL fun z=>I.ok.exfs L z hL;exact⟨hk,⟨L,_,hf,hn,e,hd⟩,ih (fun b hb=>hs b (by unfold dj;rw[List.filterMap_cons,hf];exact xq _ hb)) hr⟩
 exact all X.outer (fun _ hb=>hb) I.ok.funs
theorem ay.stack (I:ay X pins σ H s):s.heap.FunFrames X.base X.stack:=by
 rcases I.ok.stk with e | ⟨e,hf⟩
 ·rw[e];exact I.funs
 ·rw[e]
  obtain⟨m,hn,_⟩:=I.loc;refine .cons (by rw[I.ok.kind];decide) hf hn ?_ I.funs;exact Heap.get?_none_of_le (xZ I.ok.bsz I.ok.above)
theorem ay.stkSub (I:ay X pins σ H s):∀ b∈dj X.stack,b∈X.env.locals::X.fs:=fun b hb=>by
 rcases I.ok.stk with e | ⟨e,hf⟩
 ·rw[e]at hb;exact xq _ hb
 ·rw[e]at hb
  unfold dj at hb;rw[List.filterMap_cons,hf]at hb;exact hb
theorem ay.stkFree (I:ay X pins σ H s):∀ b∈dj X.stack,H b=none:=fun b hb=>by
 rcases xB.mp (I.stkSub b hb) with e | hb
 ·rw[e];exact I.free
 ·obtain⟨_,o,ho,_⟩:=I.ok.funs.mem hb
  exact I.base.free b o ho (I.ok.frf b hb) fun z=>I.ok.exfs b z hb
theorem ay.step {g':Array GenState}{t':Nat}{d':Drawn}{ch:List Addr}(I:ay X pins σ H s)
  (hch:∀ b∈ch,(b∈X.ex\/X.s₀.heap.objs.size<=b)/\b≠X.env.locals/\(∀ x c,X.env.cells.lookup x=some c->c≠b)/\∀ p∈X.pn++pins,p.1≠b)
  (keep:∀ b o,b≠X.env.locals->b∉X.fs->b∉ch->s.heap.get? b=some o->H b=none->h'.get? b=some o)
  (slot:∀ b o,b≠X.env.locals->b∈X.fs->b∉ch->s.heap.get? b=some o->H b=none->∃ sl,h'.get? b=some { o with slots:=sl }) (free:∀ b o,b∉ch->s.heap.get? b=some o->H b=none->H' b=none)
  (there:∀ b o,b∉ch->s.heap.get? b=some o->∃ o',h'.get? b=some o')
  (tups:∀ b xs,H b=some (.tup xs)->H' b=some (.tup xs)) (frzs:∀ b o u,H b=some (.frz o u)->H' b=some (.frz o u)) (tbls:∀ b ps,H b=some (.tbl ps)->∃ more,H' b=some (.tbl (ps++more)))
  (ns:∀ m,s.heap.Ns X.env.locals m->h'.Ns X.env.locals m) (hok:fT X.prog X.w H' h') (hg:AllBare g') :
  ay X pins σ H' { s with heap:=h',gens:=g',drawn:=d',toks:=t' }:=by
 have neL:∀ b o,X.s₀.heap.get? b=some o->b≠X.env.locals:=fun b o e=>xK (xD (xz e) I.ok.above)
 have neC:∀ b o,X.s₀.heap.get? b=some o->b∉X.ex->b∉ch:=fun b o e hx hb=>by
  rcases (hch b hb).1 with z | z
  ·exact hx z
  ·exact absurd (xD (xz e) z) (yK _)
 have cellK:∀ x c,X.env.cells.lookup x=some c->∀ v,s.heap.IsCell c v->h'.IsCell c v:=fun x c e v ⟨o,ho,hd⟩=>by
  have nch:c∉ch:=fun z=>(hch c z).2.2.1 x c e rfl
  by_cases hc:c∈X.fs
  ·obtain⟨sl,q⟩:=slot c o (I.cne x c e) hc nch ho (I.freeC x c e)
   exact⟨_,q,hd⟩
  ·exact⟨o,keep c o (I.cne x c e) hc nch ho (I.freeC x c e),hd⟩
 refine⟨I.ok,I.os,hg,⟨fun b o e n hb hx=>?_,fun b o e n hb hx=>?_,fun b o e n hx=>?_,fun b o e hx=>?_,fun b xs e=>tups b xs (I.base.tups b xs e),fun b o xs e=>frzs b o xs (I.base.frzs b o xs e),fun b ps e=>?_⟩,?_,fun x c e=>?_,?_,fun x c e=>?_,fun p hp=>?_,hok,I.len⟩
 ·exact keep b o (neL b o e) hb (neC b o e hx) (I.base.keep b o e n hb hx) (I.base.free b o e n hx)
 ·obtain⟨sl,e1⟩:=I.base.slot b o e n hb hx
  obtain⟨sl',e2⟩:=slot b _ (neL b o e) hb (neC b o e hx) e1 (I.base.free b o e n hx);exact⟨sl',e2⟩
 ·obtain⟨o',e1⟩:=I.base.there b o e hx
  exact free b o' (neC b o e hx) e1 (I.base.free b o e n hx)
 ·obtain⟨o',e1⟩:=I.base.there b o e hx
  exact there b o' (neC b o e hx) e1
 ·obtain⟨m1,e1⟩:=I.base.tbls b ps e
  obtain⟨m2,e2⟩:=tbls b _ e1;exact⟨m1++m2,by rw[e2,Array.append_assoc]⟩
 ·obtain⟨m,hn,hl⟩:=I.loc
  refine⟨m,ns m hn,fun i x v e1 e2 e3=>?_⟩;obtain⟨u,r,l⟩:=hl i x v e1 e2 e3;refine⟨u,r,?_⟩;rcases l with l | ⟨k,c,e,z⟩
  ·exact .inl l
  ·exact .inr ⟨k,c,e,cellK x c e _ z⟩
 ·obtain⟨v,z⟩:=I.cell x c e
  exact⟨v,cellK x c e v z⟩
 ·obtain⟨m,⟨o,_,_,ho,_⟩,_⟩:=I.loc
  exact free _ o (fun z=>(hch _ z).2.1 rfl) ho I.free
 ·obtain⟨v,o,ho,hd⟩:=I.cell x c e
  exact free c o (fun z=>(hch c z).2.2.1 x c e rfl) ho (I.freeC x c e)
 ·obtain⟨e,n,ne,nf,d⟩:=I.pin p hp
  have nch:p.1∉ch:=fun z=>(hch p.1 z).2.2.2 p hp rfl;exact⟨keep p.1 p.2 ne nf nch e n,free p.1 p.2 nch e n,ne,nf,d⟩
theorem ay.un {t':Nat}(I:ay X pins σ H s)(u:Un X.fs [] H H' s.heap h')(hok:fT X.prog X.w H' h'):ay X pins σ H' { s with heap:=h',toks:=t' }:=by
 obtain⟨m,⟨o,es,ep,ho,r⟩,_⟩:=id I.loc;obtain⟨sl,hL⟩:=u.any ho I.free (by simp)
 exact I.step (g':=s.gens) (d':=s.drawn) (ch:=[]) (fun _ z=>nomatch z) (fun b o _ hb _ e n=>u.keep b o e n hb (by simp)) (fun b o _ hb _ e n=>u.slot b o e n hb (by simp)) (fun b o _ e n=>u.free b o e n (by simp)) (fun b o _ e=>u.there b o e (by simp)) u.tups u.frzs u.tbls (fun m' hm=>by
  obtain⟨o',es',ep',ho',r'⟩:=hm;rw[ho]at ho';cases ho'
  exact⟨_,es',ep',hL,r'⟩) hok I.bare
theorem ay.call {g':Array GenState}{t':Nat}{d':Drawn}{ch:List Addr}(I:ay X pins σ H s)(u:Un (dj X.stack) ch H H' s.heap h')(hok:fT X.prog X.w H' h')(hg:AllBare g')
  (hch:∀ b∈ch,(b∈X.ex\/X.s₀.heap.objs.size<=b)/\b≠X.env.locals/\(∀ x c,X.env.cells.lookup x=some c->c≠b)/\∀ p∈X.pn++pins,p.1≠b) :
  ay X pins σ H' { s with heap:=h',gens:=g',drawn:=d',toks:=t' }:=by
 obtain⟨m,⟨o,es,ep,ho,r⟩,_⟩:=id I.loc;obtain⟨sl,hL⟩:=u.any ho I.free fun z=>(hch _ z).2.1 rfl
 exact I.step (ch:=ch) hch (fun b o hL hb hc e n=>u.keep b o e n (fun z=>(xB.mp (I.stkSub b z)).elim hL hb) hc) (fun b o _ _ hc e n=>u.any e n hc) (fun b o hc e n=>u.free b o e n hc) (fun b o hc e=>u.there b o e hc) u.tups u.frzs u.tbls (fun m' hm=>by
  obtain⟨o',es',ep',ho',r'⟩:=hm;rw[ho]at ho';cases ho'
  exact⟨_,es',ep',hL,r'⟩) hok hg
theorem ay.turned {t':Nat}{it:Addr}(I:ay X pins σ H s)(k:∀ b o,b≠it->s.heap.get? b=some o->h'.get? b=some o)(hn:H it=none)(hL:it≠X.env.locals)
  (h1:it∈X.ex\/X.s₀.heap.objs.size<=it) (h2:∀ x c,X.env.cells.lookup x=some c->c≠it) (h3:∀ p∈X.pn++pins,p.1≠it):ay X pins σ H { s with heap:=h',toks:=t' }:=by
 have nit:∀ b u,H b=some u->b≠it:=fun b u e z=>by rw[z,hn]at e;cases e
 refine I.step (g':=s.gens) (d':=s.drawn) (ch:=[it]) (fun b hb=>?_) (fun b o _ _ hc e _=>k b o (fun z=>hc (by simp[z])) e) (fun b o _ _ hc e _=>⟨o.slots,k b o (fun z=>hc (by simp[z])) e⟩) (fun _ _ _ _ n=>n)
  (fun b o hc e=>⟨o,k b o (fun z=>hc (by simp[z])) e⟩) (fun _ _ e=>e) (fun _ _ _ e=>e) (fun b ps e=>⟨#[],by rw[e];simp⟩) (fun m hm=>?_) (fun b u e=>?_) I.bare
 ·have e:b=it:=by simpa using hb
  subst e;exact⟨h1,hL,h2,h3⟩
 ·obtain⟨o,es,ep,ho,r⟩:=hm
  exact⟨o,es,ep,k _ o (yB hL) ho,r⟩
 ·refine (I.hok b u e).stay (fun c v hc q=>k c v ?_ q) (fun _ q=>q) fun _ _ q=>q
  rcases hc with z | z
  ·rw[z];exact nit b u e
  ·exact nit c _ z
theorem ay.tok (I:ay X pins σ H s)(t:Nat):ay X pins σ H { s with toks:=t }:=I.un (h':=s.heap) (t':=t) Un.refl I.hok
theorem ay.kept {t':Nat}(I:ay X pins σ H s)(k:∀ b u,s.heap.get? b=some u->h'.get? b=some u):ay X pins σ H { s with heap:=h',toks:=t' }:=I.un (Un.kept k) (I.hok.kept k)
theorem ay.laid {a:Addr}{o:HO}{t':Nat}(I:ay X pins σ H s)(k:∀ b u,s.heap.get? b=some u->h'.get? b=some u)(hp:s.heap.objs.size<=a)(new:bR X.prog X.w (aY H a o) h' a o) :
  ay X pins σ (aY H a o) { s with heap:=h',toks:=t' }:=I.un (Un.laid k hp (I.hok.fresh hp)) (I.hok.laid k hp new)
theorem ay.write {x e:Addr}{o:HO}{t':Nat}(I:ay X pins σ H s)(mu:vz (H x))(he:e=x\/H e=some (.own x))(k:∀ b u,b≠e->s.heap.get? b=some u->h'.get? b=some u)(heo:∃ u,h'.get? e=some u)
  (new:bR X.prog X.w (aY H x o) h' x o):ay X pins σ (aY H x o) { s with heap:=h',toks:=t' }:=I.un (Un.write mu he k heo) (I.hok.write mu he k heo new)
theorem ay.pins_of {pins':List (Addr×Obj)}(I:ay X pins σ H s)(h:∀ p∈pins',s.heap.get? p.1=some p.2/\H p.1=none/\p.1≠X.env.locals/\p.1∉X.fs/\∀ v,p.2.data≠.cell v):ay X pins' σ H s :=
 ⟨I.ok,I.os,I.bare,I.base,I.loc,I.cell,I.free,I.freeC,fun p hp=>(xU.mp hp).elim (fun z=>I.pin p (List.mem_append_left _ z)) (h p),I.hok,I.len⟩
theorem l7 {N:List Str}(hN:N.Nodup){i j:Nat}{x:Str}(a:N[i]? = some x)(b:N[j]? = some x):i=j:=by
 obtain⟨h1,e1⟩:=List.getElem?_eq_some_iff.mp a;obtain⟨h2,e2⟩:=List.getElem?_eq_some_iff.mp b;exact (List.getElem_inj hN).mp (e1.trans e2.symm)
theorem oY {M:Model}{A:Around}{E:Value->Shared->Prop}{i:Nat}{x:Str}{v:V}{u:Value}{Q:Unit->Shared->Prop}(I:ay X pins σ H s)(hN:X.N.Nodup)(hi:X.N[i]? = some x)(hx:qP X.env.scope x)(r:aQ v u)
  (h:∀ s',ay X pins (σ.set i (some v)) H s'->(∃ a,Heap.SameBut a s.heap s'.heap/\(a=X.env.locals\/X.env.cells.lookup x=some a))->Q () s') (hf:X.fn x=true\/X.env.scope.names.lookup x=some .local:=by first | exact .inl rfl | exact .inr rfl | assumption):wpAny M A (storeName X.env x u) Q E s:=by
 obtain⟨m,hn,hl⟩:=id I.loc
 have hcls:(X.env.scope.kind == .class||(X.env.scope.kind == .module&&X.env.locals != X.env.globals))=false:=by rw[I.ok.kind];rfl
 have hiσ:i<σ.length:=by rw[I.len];exact (List.getElem?_eq_some_iff.mp hi).1
 have cne:=I.cne
 have tracked:∀ {a:Addr}{h':Heap},(∃ o,s.heap.get? a=some o/\H a=none)->Heap.SameBut a s.heap h'->fT X.prog X.w H h':=fun {a h'} ha hs b ob e=>by
  obtain⟨_,_,hfree⟩:=ha;refine (I.hok b ob e).stay (fun c w' hc q=>(hs.2 c ?_).trans q) (fun _ q=>q) fun _ _ q=>q;rintro rfl;rcases hc with rfl | hc
  ·rw[hfree]at e;cases e
  ·rw[hfree]at hc;cases hc
 rcases hx with hk | hk
 ·refine wpAny_storeName_local hk hn (fun h' hn' hs=>?_) hcls
  obtain⟨oL,_,_,hoL,_⟩:=id hn;refine h _ ⟨I.ok,I.os,I.bare,⟨fun b o e n hb hx=>?_,fun b o e n hb hx=>?_,I.base.free,fun b o e hx=>?_,I.base.tups,I.base.frzs,I.base.tbls⟩,⟨_,hn',fun j y v' e1 e2 e3=>?_⟩,fun y c e=>?_,I.free,I.freeC,fun p hp=>?_,tracked ⟨oL,hoL,I.free⟩ hs,by simpa using I.len⟩ ⟨_,hs,.inl rfl⟩
  ·exact (hs.2 b (xK (xD (xz e) I.ok.above))).trans (I.base.keep b o e n hb hx)
  ·obtain⟨sl,e1⟩:=I.base.slot b o e n hb hx
   exact⟨sl,(hs.2 b (xK (xD (xz e) I.ok.above))).trans e1⟩
  ·obtain⟨o',e1⟩:=I.base.there b o e hx
   exact⟨o',(hs.2 b (xK (xD (xz e) I.ok.above))).trans e1⟩
  ·by_cases hj:j=i
   ·subst hj
    rw[hi]at e1;cases e1;rw[List.getElem?_set_self hiσ]at e2;cases e2;exact⟨u,r,.inl ⟨hk,by simp⟩⟩
   ·rw[List.getElem?_set_ne (yB hj)]at e2
    obtain⟨u',r',q⟩:=hl j y v' e1 e2 e3;refine⟨u',r',?_⟩;rcases q with ⟨k,e⟩ | ⟨k,c,e,z⟩
    ·refine .inl ⟨k,?_⟩
     have:y≠x:=fun e=>hj (l7 hN e1 (e▸hi));simp[this,e]
    ·exact .inr ⟨k,c,e,z.sameBut hs (cne y c e)⟩
  ·obtain⟨w',z⟩:=I.cell y c e
   exact⟨w',z.sameBut hs (cne y c e)⟩
  ·obtain⟨e,n,ne,nf,d⟩:=I.pin p hp
   exact⟨(hs.2 p.1 ne).trans e,n,ne,nf,d⟩
 ·have hfn:X.fn x=true:=by
   rcases hf with z | z
   ·exact z
   ·rw[z]at hk;cases hk
  obtain⟨c,hc⟩:=I.ok.has x (.inl hk);obtain⟨w',z⟩:=I.cell x c hc;refine wpAny_storeName_cell I.ok.kind hk hc z (fun h' hc' hs=>?_);obtain⟨oc,hoc,hocd⟩:=id z;refine h { s with heap:=h' } ⟨I.ok,I.os,I.bare,⟨fun b o e n hb hx=>?_,fun b o e n hb hx=>?_,I.base.free,fun b o e hx=>?_,I.base.tups,I.base.frzs,I.base.tbls⟩,⟨m,hn.sameBut hs (yB (cne x c hc)),fun j y v' e1 e2 e3=>?_⟩,fun y c' e=>?_,I.free,I.freeC,fun p hp=>?_,tracked ⟨oc,hoc,I.freeC x c hc⟩ hs,by simpa using I.len⟩ ⟨c,hs,.inr hc⟩
  ·exact (hs.2 b (xK (xD (xz e) (I.ok.cab x c hfn hc)))).trans (I.base.keep b o e n hb hx)
  ·obtain⟨sl,e1⟩:=I.base.slot b o e n hb hx
   exact⟨sl,(hs.2 b (xK (xD (xz e) (I.ok.cab x c hfn hc)))).trans e1⟩
  ·obtain⟨o',e1⟩:=I.base.there b o e hx
   exact⟨o',(hs.2 b (xK (xD (xz e) (I.ok.cab x c hfn hc)))).trans e1⟩
  ·by_cases hj:j=i
   ·subst hj
    rw[hi]at e1;cases e1;rw[List.getElem?_set_self hiσ]at e2;cases e2;exact⟨u,r,.inr ⟨.inl hk,c,hc,hc'⟩⟩
   ·rw[List.getElem?_set_ne (yB hj)]at e2
    obtain⟨u',r',q⟩:=hl j y v' e1 e2 e3;refine⟨u',r',?_⟩;rcases q with q | ⟨k,c',e,z'⟩
    ·exact .inl q
    ·refine .inr ⟨k,c',e,z'.sameBut hs ?_⟩
     rintro rfl;exact hj (l7 hN e1 (I.ok.inj _ _ _ e hc▸hi))
  ·by_cases hcc:c'=c
   ·subst hcc;exact⟨_,hc'⟩
   ·obtain⟨w2,z2⟩:=I.cell y c' e
    exact⟨w2,z2.sameBut hs hcc⟩
  ·obtain⟨e,n,ne,nf,d⟩:=I.pin p hp
   refine⟨(hs.2 p.1 ?_).trans e,n,ne,nf,d⟩;intro q;rw[q,hoc]at e;have q':oc=p.2:=xE e;exact d w' (by rw[<-q'];exact hocd)
theorem gE {M:Model}{A:Around}{E:Value->Shared->Prop}{i:Nat}{x:Str}{v:V}{u:Value}{Q:Unit->Shared->Prop}(I:ay X pins σ H s)(hN:X.N.Nodup)(hi:X.N[i]? = some x)(hx:qP X.env.scope x)(r:aQ v u)
  (h:∀ s',ay X pins (σ.set i (some v)) H s'->Q () s') (hf:X.fn x=true\/X.env.scope.names.lookup x=some .local:=by first | exact .inl rfl | exact .inr rfl | assumption):wpAny M A (storeName X.env x u) Q E s :=
 oY I hN hi hx r (fun s' I' _=>h s' I') hf
theorem ay.call' {s':Shared}{ch:List Addr}(I:ay X pins σ H s)(ho:s'.os=s.os)(u:Un (dj X.stack) ch H H' s.heap s'.heap)(hok:fT X.prog X.w H' s'.heap)(hg:AllBare s'.gens)
  (hch:∀ b∈ch,(b∈X.ex\/X.s₀.heap.objs.size<=b)/\b≠X.env.locals/\(∀ x c,X.env.cells.lookup x=some c->c≠b)/\∀ p∈X.pn++pins,p.1≠b):ay X pins σ H' s':=by
 obtain⟨h',g',d',t',o'⟩:=s';have e:o'=s.os:=ho;subst e;exact I.call (g':=g') (t':=t') (d':=d') u hok hg hch
end
abbrev XK:=Value->Option Addr->Hp->Prop
abbrev St:=List (Option V)
abbrev VK:=V->Hp->Prop
abbrev TE:=St->Hp->VK->Prop
abbrev TT:=St->Hp->(Bool->Hp->Prop)->Prop
abbrev TA:=St->Hp->(List V->Hp->Prop)->Prop
structure fW where
 nx:St->Hp->Prop
 rt:VK
 bk:St->Hp->Prop:=fun _ _=>False
 ct:St->Hp->Prop:=fun _ _=>False
abbrev TS:=fW->St->Hp->Prop
def EP (X:Cx)(pins:List (Addr×Obj))(σ:St)(Q:VK)(u:Value)(s':Shared):Prop:=∃ v H',ay X pins σ H' s'/\aQ v u/\Q v H'
def TP (X:Cx)(pins:List (Addr×Obj))(σ:St)(Q:Bool->Hp->Prop)(b:Bool)(s':Shared):Prop:=∃ H',ay X pins σ H' s'/\Q b H'
def AP (X:Cx)(pins:List (Addr×Obj))(σ:St)(Q:List V->Hp->Prop)(us:List Value)(s':Shared):Prop:=∃ vs H',ay X pins σ H' s'/\aH vs us/\Q vs H'
def SP (X:Cx)(pins:List (Addr×Obj))(D:fW)(f:Flow)(s':Shared):Prop :=
 match f with
 | .next=>∃ σ' H',ay X pins σ' H' s'/\D.nx σ' H'
 | .brk=>∃ σ' H',ay X pins σ' H' s'/\D.bk σ' H'
 | .cont=>∃ σ' H',ay X pins σ' H' s'/\D.ct σ' H'
 | .ret u=>∃ v σ' H',ay X pins σ' H' s'/\aQ v u/\D.rt v H'
def PE (X:Cx)(e:Expr)(t:TE):Prop :=
 ∀ (pins:List (Addr×Obj))(s:Shared)(σ:St)(H:Hp)(Q:VK),ay X pins σ H s->t σ H Q->wpAny (model X.prog X.w) X.A (eval e X.env) (EP X pins σ Q) X.xe s
def PT (X:Cx)(e:Expr)(t:TT):Prop :=
 ∀ (pins:List (Addr×Obj))(s:Shared)(σ:St)(H:Hp)(Q:Bool->Hp->Prop),ay X pins σ H s->t σ H Q->wpAny (model X.prog X.w) X.A (isTrue e X.env (eval e X.env)) (TP X pins σ Q) X.xe s
def PW (X:Cx)(e:Expr)(t:TT):Prop :=
 ∀ (whole:Sem Value)(pins:List (Addr×Obj))(s:Shared)(σ:St)(H:Hp)(Q:Bool->Hp->Prop),ay X pins σ H s->t σ H Q->wpAny (model X.prog X.w) X.A (isTrue e X.env whole) (TP X pins σ Q) X.xe s
theorem PW.pt {X:Cx}{e:Expr}{t:TT}(h:PW X e t):PT X e t:=h _
def PA (X:Cx)(es:List Expr)(t:TA):Prop :=
 ∀ (pos:Pos)(pins:List (Addr×Obj))(s:Shared)(σ:St)(H:Hp)(Q:List V->Hp->Prop),ay X pins σ H s->t σ H Q->wpAny (model X.prog X.w) X.A (spliced (backTo pos (starEach es X.env))) (AP X pins σ Q) X.xe s
def PS (X:Cx)(st:Stmt)(t:TS):Prop :=
 ∀ (pins:List (Addr×Obj))(s:Shared)(σ:St)(H:Hp)(D:fW),ay X pins σ H s->t D σ H->wpAny (model X.prog X.w) X.A (exec st X.env) (SP X pins D) X.xe s
def mO (X:Cx)(st:List Stmt)(t:TS):Prop :=
 ∀ (pins:List (Addr×Obj))(s:Shared)(σ:St)(H:Hp)(D:fW),ay X pins σ H s->t D σ H->wpAny (model X.prog X.w) X.A (execs st X.env) (SP X pins D) X.xe s
theorem bv {α:Type}{t:Sem α}{Q Q':α->Shared->Prop}{M:Model}{A:Around}{E:Value->Shared->Prop}{s:Shared}(h:wpAny M A t Q E s)(hQ:∀ a s,Q a s->Q' a s):wpAny M A t Q' E s:=yj h hQ fun _ _ x=>x
section
variable {X:Cx}
inductive TV (i:Nat) (σ:St) (H:Hp) (Q:VK):Prop
 | mk (v:V) (e:σ[i]? = some (some v)) (h:Q v H):TV i σ H Q
def o1 (i:Nat):TE:=fun σ H Q=>TV i σ H Q
def tC (v:V):TE:=fun _ H Q=>Q v H
theorem p6 {i:Nat}{x:Str}{pos:Pos}(hN:X.N[i]? = some x)(hv:uD X.env.scope x)(hd:(x == ("__debug__" : Str))=false:=by decide)(hcd:(x == ("__classdict__" : Str))=false:=by decide):PE X (.Name x pos) (o1 i):=by
 intro pins s σ H Q I h;obtain⟨v,e,h⟩:=h;obtain⟨m,hn,hl⟩:=I.loc;obtain⟨u,r,l⟩:=hl i x v hN e hv;have fin:EP X pins σ Q u s:=⟨v,H,I,r,h⟩;rcases l with ⟨hk,hm⟩ | ⟨hk,c,hc,hcell⟩
 ·exact wpAny_Name (wpAny_loadName_local I.ok.kind hk hn hm fin) hd
 ·rcases hk with hk | hk
  ·exact wpAny_Name (wpAny_loadName_cell I.ok.kind hk hc hcell fin) hd
  ·exact wpAny_Name (wpAny_loadName_free I.ok.kind hk hc hcell fin hcd) hd
theorem af {i j pos}:PE X (.Constant (.int i) j pos) (tC (.int i)):=fun _ _ _ H _ I h=>wpAny_Constant_int ⟨.int i,H,I.tok _,⟨_,rfl⟩,h⟩
theorem kr {b j pos}:PE X (.Constant (.bool b) j pos) (tC (.bl b)):=fun _ _ _ H _ I h=>Constant_bool ⟨.bl b,H,I,rfl,h⟩
theorem nh {j pos}:PE X (.Constant .none j pos) (tC .non):=fun _ _ _ H _ I h=>Constant_none ⟨.non,H,I,rfl,h⟩
theorem ai {x j pos}:PE X (.Constant (.str x) j pos) (tC (.str x)):=fun _ _ _ H _ I h=>Calls.Constant_str ⟨.str x,H,I.tok _,⟨_,rfl⟩,h⟩
def Gl (X:Cx)(x:Str):Prop:=X.env.kindOf x=some .globalImplicit
theorem eZ {E:Value->Shared->Prop}{pins:List (Addr×Obj)}{s:Shared}{σ:St}{H:Hp}{x:Str}{u:Value}{pos:Pos}{Q:Value->Shared->Prop}(I:ay X pins σ H s)(hg:Gl X x)(hm:X.mg x=some u)(h:Q u s)
  (hd:(x == ("__debug__" : Str))=false:=by decide):wpAny (model X.prog X.w) X.A (eval (.Name x pos) X.env) Q E s :=
 Calls.Name_function_global I.ok.kind hg (Calls.loadGlobal_global (by rw[I.ok.glob];exact I.mod.glob.keeps I.bk) hm h) hd
theorem gZ {E:Value->Shared->Prop}{pins:List (Addr×Obj)}{s:Shared}{σ:St}{H:Hp}{x:Str}{u:Value}{pos:Pos}{Q:Value->Shared->Prop}(I:ay X pins σ H s)(hg:Gl X x)(hm:X.mg x=none)(hv:bootBuiltins x=some u)(h:Q u s)
  (hn:x≠"__name__":=by decide) (hd:(x == ("__debug__" : Str))=false:=by decide):wpAny (model X.prog X.w) X.A (eval (.Name x pos) X.env) Q E s:=by
 obtain⟨mb,h1,h2⟩:=I.mod.blt;exact Calls.Name_function_global I.ok.kind hg (Calls.loadGlobal_builtin (by rw[I.ok.glob];exact I.mod.glob.keeps I.bk) hm (by rw[I.ok.blt];exact h1.keeps I.bk) ((h2 x hn).trans hv) h) hd
theorem gv {x:Str}{v:V}{u:Value}{pos:Pos}(hg:Gl X x)(hm:X.mg x=some u)(r:aQ v u)(hd:(x == ("__debug__" : Str))=false:=by decide):PE X (.Name x pos) (tC v) :=
 fun _ _ _ H _ I h=>eZ I hg hm ⟨v,H,I,r,h⟩ hd
theorem rF {x:Str}{v:V}{u:Value}{pos:Pos}(hg:Gl X x)(hm:X.mg x=none)(hv:bootBuiltins x=some u)(r:aQ v u)(hn:x≠"__name__":=by decide)(hd:(x == ("__debug__" : Str))=false:=by decide):PE X (.Name x pos) (tC v) :=
 fun _ _ _ H _ I h=>gZ I hg hm hv ⟨v,H,I,r,h⟩ hn hd
variable {a b:Expr}{ta tb:TE}{pos:Pos}
def PC (X:Cx)(op:CmpOp)(a b:Expr)(t:TE):Prop :=
 ∀ (pins:List (Addr×Obj))(s:Shared)(σ:St)(H:Hp)(Q:VK),ay X pins σ H s->t σ H Q ->
  wpAny (model X.prog X.w) X.A (eval a X.env) (fun v s₁=>wpAny (model X.prog X.w) X.A (eval b X.env) (fun u s₂=>wpAny (model X.prog X.w) X.A (compareOp op v u) (EP X pins σ Q) X.xe s₂) X.xe s₁) X.xe s
theorem pP (b:Expr){op:CmpOp}(h:op≠.In)(h2:op≠.NotIn):behindInMarks op b=false:=by
 have e1:(op == CmpOp.In)=false:=by cases op<;>first | rfl | exact absurd rfl h
 have e2:(op == CmpOp.NotIn)=false:=by cases op<;>first | rfl | exact absurd rfl h2
 cases b<;>simp[behindInMarks,e1,e2]
def wx (ta:TE):TE:=fun σ H Q=>ta σ H fun x H1=>Q (.bl (decide (x=.non))) H1
theorem aQ.none_iff {x:V}{v:Value}(r:aQ x v):(v == Value.none)=decide (x=.non):=by
 cases x with
 | non=>cases r;rfl
 | bl _=>cases r;rfl
 | int _=>obtain⟨t,rfl⟩:=r;rfl
 | str _=>obtain⟨t,rfl⟩:=r;rfl
 | byt _=>obtain⟨t,rfl⟩:=r;rfl
 | flt _=>obtain⟨t,rfl⟩:=r;rfl
 | ref _=>cases r;rfl
 | ty _=>cases r;rfl
theorem tD {j pos'}(ha:PE X a ta):PC X .Is a (.Constant .none j pos') (wx ta):=by
 intro pins s σ H Q I h;refine bv (ha pins s σ H _ I h) fun v s1 ⟨x,H1,I1,r1,q1⟩=>?_;exact Constant_none (is_none_gen ⟨.bl _,H1,I1,by rw[r1.none_iff];rfl,q1⟩)
inductive vQ (Q:Bool->Hp->Prop) (x:V) (H:Hp):Prop
 | mk (c:Bool) (e:x=.bl c) (h:Q c H):vQ Q x H
def tB (t:TE):TT:=fun σ H Q=>t σ H fun x H1=>vQ Q x H1
theorem qb {op:CmpOp}{t:TE}(h:PC X op a b t)(h1:behindInMarks op b=false:=by first | exact pP _ (by decide) (by decide) | rfl):PT X (.Compare a [op] [b] pos) (tB t):=by
 intro pins s σ H Q I hw;refine wpAny_isTrue_Compare1 (bv (h pins s σ H _ I hw) fun v s1 h1=>bv h1 fun u s2 h2=>bv h2 fun c s3 ⟨x,H1,I1,r1,q1⟩=>?_) h1;obtain⟨d,rfl,q⟩:=q1;cases r1;exact yk ⟨H1,I1,q⟩
theorem lC {e:Expr}{t:TE}(h:PE X e t)(he:∀ whole,isTrue e X.env whole=(do let v <-whole;standAt e.pos;holding [v] (truthy v)):=by intro _;rfl):PT X e (tB t):=by
 intro pins s σ H Q I hw;refine isTrue_plain (bv (h pins s σ H _ I hw) fun v s1 ⟨x,H1,I1,r1,q1⟩=>?_) (he _);obtain⟨d,rfl,q⟩:=q1;cases r1;exact yk ⟨H1,I1,q⟩
variable {tA tB':TT}{rest:List Expr}
def wk (t u:TT):TT:=fun σ H Q=>t σ H fun c H1=>if c=true then u σ H1 Q else Q false H1
def xa (t u:TT):TT:=fun σ H Q=>t σ H fun c H1=>if c=true then Q true H1 else u σ H1 Q
def wz (t:TT):TT:=fun σ H Q=>t σ H fun c H1=>Q (!c) H1
theorem gw (ha:PT X a tA):PW X (.BoolOp .And [a] pos) tA:=by
 intro wh pins s σ H Q I h;refine isTrue_and (bv (ha pins s σ H Q I h) fun c s1 e=>?_)
 cases c with
 | true=>exact isTrue_and_nil e
 | false=>exact e
theorem ii (ha:PT X a tA):PW X (.BoolOp .Or [a] pos) tA:=by
 intro wh pins s σ H Q I h;refine isTrue_or (bv (ha pins s σ H Q I h) fun c s1 e=>?_)
 cases c with
 | false=>exact isTrue_or_nil e
 | true=>exact e
theorem ig (ha:PT X a tA)(hb:PW X (.BoolOp .And (b::rest) pos) tB'):PW X (.BoolOp .And (a::b::rest) pos) (wk tA tB'):=by
 intro wh pins s σ H Q I h;refine isTrue_and (bv (ha pins s σ H _ I h) fun c s1 ⟨H1,I1,q1⟩=>?_)
 cases c with
 | true=>exact hb wh pins s1 σ H1 Q I1 q1
 | false=>exact⟨H1,I1,q1⟩
theorem kt (ha:PT X a tA)(hb:PW X (.BoolOp .Or (b::rest) pos) tB'):PW X (.BoolOp .Or (a::b::rest) pos) (xa tA tB'):=by
 intro wh pins s σ H Q I h;refine isTrue_or (bv (ha pins s σ H _ I h) fun c s1 ⟨H1,I1,q1⟩=>?_)
 cases c with
 | true=>exact⟨H1,I1,q1⟩
 | false=>exact hb wh pins s1 σ H1 Q I1 q1
theorem fO (ha:PT X a tA):PT X (.UnaryOp .Not a pos) (wz tA):=by
 intro pins s σ H Q I h;exact isTrue_not (ha pins s σ H (fun c H1=>Q (!c) H1) I h)
def wA (ta tb:TE):TE:=fun σ H Q=>ta σ H fun x H1=>∃ c,x=.bl c/\if c=true then Q (.bl true) H1 else tb σ H1 Q
theorem tH {op}{t:TE}(h:PE X a t):PE X (.BoolOp op [a] pos) t:=fun pins s σ H Q I hw=>BoolOp_one (h pins s σ H Q I hw)
theorem uV (ha:PE X a ta)(hb:PE X (.BoolOp .Or (b::rest) pos) tb):PE X (.BoolOp .Or (a::b::rest) pos) (wA ta tb):=by
 intro pins s σ H Q I h;refine BoolOp_or (bv (ha pins s σ H _ I h) fun v s1 ⟨x,H1,I1,r1,q1⟩=>?_);obtain⟨c,rfl,q1⟩:=q1;cases r1;refine yk ?_
 cases c with
 | false=>exact hb pins s1 σ H1 Q I1 q1
 | true=>exact⟨.bl true,H1,I1,rfl,q1⟩
end
def bd (K:PySem.W.Frag)(H:Hp)(a:Addr)(xs:List V):Prop :=
 Rd H a (.lst xs) \/
  ∃ (o:Obj)(its:Array Value)(n:Nat),K.lookup a=some o/\o.cls=.type "list"/\o.dict=none/\o.data=.seq its n/\its.size<=sizeLine/\aH xs its.toList
def aW (K:PySem.W.Frag)(H:Hp)(a:Addr)(xs:List V):Prop :=
 Rd H a (.tup xs) \/
  ∃ (o:Obj)(its:Array Value)(n:Nat),K.lookup a=some o/\o.cls=.type "tuple"/\o.data=.seq its n/\its.size<=sizeLine/\aH xs its.toList
def vT:Value->Option V
 | .none=>some .non
 | .bool b=>some (.bl b)
 | .int i _=>some (.int i)
 | .str x _=>some (.str x)
 | .bytes b _=>some (.byt b)
 | .float b _=>some (.flt b)
 | .ref a=>some (.ref a)
 | .type n=>some (.ty n)
 | _=>none
theorem aQ.abs {x:V}{u:Value}(r:aQ x u):vT u=some x:=by
 cases x with
 | non=>cases r;rfl
 | bl _=>cases r;rfl
 | int _=>obtain⟨t,rfl⟩:=r;rfl
 | str _=>obtain⟨t,rfl⟩:=r;rfl
 | byt _=>obtain⟨t,rfl⟩:=r;rfl
 | flt _=>obtain⟨t,rfl⟩:=r;rfl
 | ref _=>cases r;rfl
 | ty _=>cases r;rfl
theorem aQ.inj {x y:V}{u:Value}(r:aQ x u)(q:aQ y u):x=y:=xE (r.abs.symm.trans q.abs)
theorem aH.inj:∀ {xs ys:List V}{us:List Value},aH xs us->aH ys us->xs=ys
 | _,_,_,.nil,.nil=>rfl
 | _,_,_,.cons r t,.cons r' t'=>by rw[r.inj r',aH.inj t t']
section
variable {X:Cx}{pins:List (Addr×Obj)}{σ:St}{H:Hp}{s:Shared}{a:Addr}{xs ys:List V}
theorem bd.of {K:PySem.W.Frag}(h:H a=some (.lst xs)):bd K H a xs:=.inl (.inl h)
theorem aW.of {K:PySem.W.Frag}(h:H a=some (.tup xs)):aW K H a xs:=.inl (.inl h)
theorem ay.list (I:ay X pins σ H s)(h:bd X.K H a xs):∃ its:List Value,aH xs its/\PlainL s.heap a its.toArray/\xs.length<=sizeLine:=by
 rcases h with h | ⟨o,its,n,hk,hc,hd,hs,hz,r⟩
 ·obtain⟨z,its,n,r,e⟩:=h.ok I.hok
  exact⟨its,r,⟨_,n,e,rfl,rfl,rfl⟩,z⟩
 ·refine⟨its.toList,r,⟨o,n,I.kIn a o hk,hc,hd,by simpa using hs⟩,?_⟩
  have e:=r.length;simp only[xW]at e;omega
theorem ay.tuple (I:ay X pins σ H s)(h:aW X.K H a xs):∃ its:List Value,aH xs its/\IsTup s.heap a its.toArray/\xs.length<=sizeLine:=by
 rcases h with h | ⟨o,its,n,hk,hc,hs,hz,r⟩
 ·obtain⟨z,its,r,p⟩:=h.ok I.hok
  exact⟨its,r,p.old,z⟩
 ·refine⟨its.toList,r,⟨o,I.kIn a o hk,hc,n,by simpa using hs⟩,?_⟩
  have e:=r.length;simp only[xW]at e;omega
theorem ay.list_inj (I:ay X pins σ H s)(h:bd X.K H a xs)(h':bd X.K H a ys):xs=ys:=by
 obtain⟨its,r,⟨o,n,e,_,_,d⟩,_⟩:=I.list h;obtain⟨its',r',⟨o',n',e',_,_,d'⟩,_⟩:=I.list h';rw[e]at e';cases e';rw[d]at d';injection d' with d1 _
 have:its=its':=by simpa using yn Array.toList d1
 subst this;exact r.inj r'
theorem ay.tuple_inj (I:ay X pins σ H s)(h:aW X.K H a xs)(h':aW X.K H a ys):xs=ys:=by
 obtain⟨its,r,⟨o,e,_,n,d⟩,_⟩:=I.tuple h;obtain⟨its',r',⟨o',e',_,n',d'⟩,_⟩:=I.tuple h';rw[e]at e';cases e';rw[d]at d';injection d' with d1 _
 have:its=its':=by simpa using yn Array.toList d1
 subst this;exact r.inj r'
end
abbrev Cx.wish (X:Cx)(E:Value->Shared->Prop):Cx:={ X with xe:=E }
abbrev Cx.nox (X:Cx):Cx:=X.wish fun _ _=>False
theorem Cx.Ok.wish {X:Cx}(ok:X.Ok)(E:Value->Shared->Prop):(X.wish E).Ok :=
 ⟨ok.mod,ok.kind,ok.glob,ok.blt,ok.above,ok.inj,ok.has,ok.cab,ok.hd,ok.frames,ok.stk,ok.exf,ok.bs,ok.bsz,ok.noex,ok.exfs,ok.funs,ok.frf⟩
theorem Cx.Ok.unwish {X:Cx}{E:Value->Shared->Prop}(ok:(X.wish E).Ok):X.Ok :=
 ⟨ok.mod,ok.kind,ok.glob,ok.blt,ok.above,ok.inj,ok.has,ok.cab,ok.hd,ok.frames,ok.stk,ok.exf,ok.bs,ok.bsz,ok.noex,ok.exfs,ok.funs,ok.frf⟩
section
variable {X:Cx}{pins:List (Addr×Obj)}{σ:St}{H:Hp}{s:Shared}{E:Value->Shared->Prop}
theorem ay.wish (I:ay X pins σ H s)(E:Value->Shared->Prop):ay (X.wish E) pins σ H s:=⟨I.ok.wish E,I.os,I.bare,I.base,I.loc,I.cell,I.free,I.freeC,I.pin,I.hok,I.len⟩
theorem ay.unwish (I:ay (X.wish E) pins σ H s):ay X pins σ H s:=⟨I.ok.unwish,I.os,I.bare,I.base,I.loc,I.cell,I.free,I.freeC,I.pin,I.hok,I.len⟩
theorem SP.unwish {D:fW}{f:Flow}{s':Shared}(h:SP (X.wish E) pins D f s'):SP X pins D f s':=by
 cases f with
 | next=>obtain⟨σ',H',I,q⟩:=h;exact⟨σ',H',I.unwish,q⟩
 | brk=>obtain⟨σ',H',I,q⟩:=h;exact⟨σ',H',I.unwish,q⟩
 | cont=>obtain⟨σ',H',I,q⟩:=h;exact⟨σ',H',I.unwish,q⟩
 | ret u=>obtain⟨v,σ',H',I,r,q⟩:=h;exact⟨v,σ',H',I.unwish,r,q⟩
theorem mO.nox {st:List Stmt}{t:TS}(h:mO X.nox st t):mO X st t:=fun pins s σ H D I hw =>
 yj (h pins s σ H D (I.wish _) hw) (fun _ _ q=>q.unwish) fun _ _ z=>False.elim z
end
section
variable {X:Cx}{st:Stmt}{rest:List Stmt}{t u:TS}{e:Expr}{te:TE}{pos:Pos}
def vn:TS:=fun D σ H=>D.nx σ H
def wB (t u:TS):TS:=fun D σ H=>t { D with nx:=u D } σ H
theorem aq:mO X [] vn:=fun _ _ σ H _ I h=>yO ⟨σ,H,I,h⟩
theorem ac (h1:PS X st t)(h2:mO X rest u):mO X (st::rest) (wB t u):=by
 intro pins s σ H D I h;refine wpAny_execs_cons (bv (h1 pins s σ H { D with nx:=u D } I h) fun f s1 q=>?_)
 cases f with
 | next =>
  obtain⟨σ',H',I',q⟩:=q;exact h2 pins s1 σ' H' D I' q
 | ret v=>exact q
 | brk=>exact q
 | cont=>exact q
theorem ag (h1:PS X st t):mO X [st] t:=by
 intro pins s σ H D I h;refine wpAny_execs_cons (bv (h1 pins s σ H D I h) fun f s1 q=>?_)
 cases f with
 | next=>exact yO q
 | ret v=>exact q
 | brk=>exact q
 | cont=>exact q
theorem ay.quiet {pins:List (Addr×Obj)}{σ:St}{H:Hp}{s:Shared}(I:ay X pins σ H s):interactive X.env=false:=by simp[interactive,I.ok.kind]
def vk (te:TE):TS:=fun D σ H=>te σ H fun _ H1=>D.nx σ H1
theorem cX (he:PE X e te)(hs:swapsWith e none pos.line X.env=pure false:=by rfl):PS X (.Expr e pos) (vk te):=by
 intro pins s σ H D I h;exact wpAny_Expr_any (bv (he pins s σ H _ I h) fun v s1 ⟨x,H1,I1,r1,q1⟩=>⟨σ,H1,I1,q1⟩) I.quiet hs
def vo (te:TE):TS:=fun D σ H=>te σ H D.rt
theorem ax (he:PE X e te):PS X (.Return (some e) pos) (vo te):=by
 intro pins s σ H D I h;exact wpAny_Return_some (bv (he pins s σ H _ I h) fun v s1 ⟨x,H1,I1,r1,q1⟩=>⟨x,σ,H1,I1,r1,q1⟩)
def vp:TS:=fun D _ H=>D.rt .non H
theorem nQ:PS X (.Return none pos) vp:=fun _ _ σ H _ I h=>wpAny_Return_none ⟨.non,σ,H,I,rfl,h⟩
def ww (c:TT)(t u:TS):TS:=fun D σ H=>c σ H fun b H1=>if b=true then t D σ H1 else u D σ H1
theorem aJ {c:Expr}{a b:List Stmt}{tc:TT}(hc:PT X c tc)(ha:mO X a t)(hb:mO X b u):PS X (.If c a b pos) (ww tc t u):=by
 intro pins s σ H D I h;refine wpAny_If (bv (hc pins s σ H _ I h) fun d s1 ⟨H1,I1,q1⟩=>?_)
 cases d with
 | true=>exact ha pins s1 σ H1 D I1 q1
 | false=>exact hb pins s1 σ H1 D I1 q1
end
abbrev TG:=V->St->Hp->(St->Hp->Prop)->Prop
abbrev qS:=List V->St->Hp->(St->Hp->Prop)->Prop
def PG (X:Cx)(target:Expr)(t:TG):Prop :=
 ∀ (pins:List (Addr×Obj))(s:Shared)(σ:St)(H:Hp)(v:V)(u:Value)(Q:St->Hp->Prop),ay X pins σ H s->aQ v u->t v σ H Q ->
  wpAny (model X.prog X.w) X.A (assign target X.env u) (fun _ s'=>∃ σ' H',ay X pins σ' H' s'/\Q σ' H') X.xe s
def vA (X:Cx)(ts:List Expr)(t:qS):Prop :=
 ∀ (pins:List (Addr×Obj))(s:Shared)(σ:St)(H:Hp)(vs:List V)(us:List Value)(Q:St->Hp->Prop),ay X pins σ H s->aH vs us->t vs σ H Q ->
  wpAny (model X.prog X.w) X.A (assignInOrder ((assignEach ts X.env).map (·.2)) us) (fun _ s'=>∃ σ' H',ay X pins σ' H' s'/\Q σ' H') X.xe s
abbrev vE:=V->V->Hp->VK->Prop
def wG (X:Cx)(op:Operator)(t:vE):Prop :=
 ∀ (pins:List (Addr×Obj))(s:Shared)(σ:St)(H:Hp)(x y:V)(v u:Value)(Q:VK),ay X pins σ H s->aQ x v->aQ y u->t x y H Q ->
  wpAny (model X.prog X.w) X.A (inplaceOp op v u) (EP X pins σ Q) X.xe s
section
variable {X:Cx}{pos:Pos}
def iE (i:Nat):TG:=fun v σ H Q=>Q (σ.set i (some v)) H
theorem lx {i:Nat}{x:Str}(hN:X.N.Nodup)(hi:X.N[i]? = some x)(hx:qP X.env.scope x)(hf:X.fn x=true\/X.env.scope.names.lookup x=some .local:=by first | exact .inl rfl | exact .inr rfl | assumption):PG X (.Name x pos) (iE i):=by
 intro pins s σ H v u Q I r h;exact wpAny_assign_Name (gE I hN hi hx r (fun s' I'=>⟨_,H,I',h⟩) hf)
def vX:qS:=fun vs σ H Q=>vs=[]/\Q σ H
inductive GC (t:TG) (u:qS) (vs:List V) (σ:St) (H:Hp) (Q:St->Hp->Prop):Prop
 | mk (v:V) (r:List V) (e:vs=v::r) (h:t v σ H fun σ' H'=>u r σ' H' Q):GC t u vs σ H Q
def uF (t:TG)(u:qS):qS:=fun vs σ H Q=>GC t u vs σ H Q
theorem dq:vA X [] vX:=by
 intro pins s σ H vs us Q I r h;obtain⟨e,h⟩:=h;subst e;cases r;exact assignInOrder_nil ⟨σ,H,I,h⟩
theorem ba {e:Expr}{es:List Expr}{t:TG}{u:qS}(h1:PG X e t)(h2:vA X es u)
  (hs:(assignEach (e::es) X.env).map (·.2)=assign e X.env::(assignEach es X.env).map (·.2):=by rfl):vA X (e::es) (uF t u):=by
 intro pins s σ H vs us Q I r h;obtain⟨v,vr,e1,h⟩:=h;subst e1
 cases r with
 | cons r rr =>
  rw[hs];refine assignInOrder_cons (bv (h1 pins s σ H _ _ _ I r h) fun _ s1 ⟨σ1,H1,I1,q1⟩=>?_);exact h2 pins s1 σ1 H1 _ _ Q I1 rr q1
inductive GT (K:PySem.W.Frag) (n:Nat) (t:qS) (v:V) (σ:St) (H:Hp) (Q:St->Hp->Prop):Prop
 | mk (a:Addr) (xs:List V) (e:v=.ref a) (q:aW K H a xs) (l:xs.length=n) (h:t xs σ H Q):GT K n t v σ H Q
def vY (K:PySem.W.Frag)(n:Nat)(t:qS):TG:=fun v σ H Q=>GT K n t v σ H Q
theorem eO {es:List Expr}{k:Nat}{t:qS}{n:Nat}(hc:X.calm=true)(h:vA X es t)
  (hn:(assignEach es X.env).length=n:=by rfl) (hst:(assignEach es X.env).findIdx? (·.1)=none:=by rfl):PG X (.Tuple es k pos) (vY X.K n t):=by
 intro pins s σ H v u Q I r hw;obtain⟨a,xs,e1,hq,hl,hw⟩:=hw;subst e1;cases r;obtain⟨its,rv,ht,hz⟩:=I.tuple hq;refine assign_Tuple_tuple (I.ok.hd hc) ht (by simp[hn,<-hl,rv.length]) hst fun h' hx=>?_;have I1:ay X pins σ H { s with heap:=h' }:=I.kept (t':=s.toks) fun b o e=>hx b o (xK (xz e)) e;exact h pins _ σ H xs _ Q I1 (by simpa using rv) hw
def tV (te:TE)(g:TG):TS:=fun D σ H=>te σ H fun x H1=>g x σ H1 D.nx
theorem eP {tg e:Expr}{te:TE}{g:TG}(he:PE X e te)(hg:PG X tg g)(hs:swapsWithSole [tg] e pos.line X.env=pure false:=by rfl)(hw:swappedStores [tg] e X.env=pure none:=by rfl)
  (h1:(assignEach [tg] X.env).map (·.2)=[assign tg X.env]:=by rfl):PS X (.Assign [tg] e pos) (tV te g):=by
 intro pins s σ H D I h;refine wpAny_Assign_stores (bv (he pins s σ H _ I h) fun v s1 ⟨x,H1,I1,r1,q1⟩=>?_) hs hw;rw[h1];exact bv (hg pins s1 σ H1 x v _ I1 r1 q1) fun _ s2 q=>q
theorem cU {i:Nat}{x:Str}{e:Expr}{te:TE}{pos':Pos}(hN:X.N.Nodup)(hi:X.N[i]? = some x)(hx:qP X.env.scope x)(he:PE X e te)(hs:swapsWith e (some (.Name x pos')) pos.line X.env=pure false:=by rfl)(hf:X.fn x=true\/X.env.scope.names.lookup x=some .local:=by first | exact .inl rfl | exact .inr rfl | assumption) :
  PS X (.Assign [.Name x pos'] e pos) (tV te (iE i)):=by
 intro pins s σ H D I h;refine wpAny_Assign_Name (bv (he pins s σ H _ I h) fun v s1 ⟨y,H1,I1,r1,q1⟩=>?_) hs;exact gE I1 hN hi hx r1 (fun s2 I2=>⟨_,H1,I2,q1⟩) hf
def wm (i:Nat)(te:TE)(ti:vE):TS:=fun D σ H=>∃ x,σ[i]? = some (some x)/\te σ H fun y H1=>ti x y H1 fun z H2=>D.nx (σ.set i (some z)) H2
theorem tM {i:Nat}{x:Str}{e:Expr}{te:TE}{op:Operator}{ti:vE}{pos':Pos}(hN:X.N.Nodup)(hi:X.N[i]? = some x)(hx:qP X.env.scope x)(he:PE X e te)(ho:wG X op ti)(hf:X.fn x=true\/X.env.scope.names.lookup x=some .local:=by first | exact .inl rfl | exact .inr rfl | assumption) :
  PS X (.AugAssign (.Name x pos') op e pos) (wm i te ti):=by
 intro pins s σ H D I h;obtain⟨v,e1,h⟩:=h;obtain⟨m,hn,hl⟩:=I.loc
 have vis:uD X.env.scope x:=by rcases hx with k | k;exact .inl k;exact .inr (.inl k)
 obtain⟨u,r,l⟩:=hl i x v hi e1 vis;refine wpAny_AugAssign_Name ?_
 have go:wpAny (model X.prog X.w) X.A (eval e X.env) (fun w s₂=>wpAny (model X.prog X.w) X.A (inplaceOp op u w) (fun r s₃=>wpAny (model X.prog X.w) X.A (storeName X.env x r) (fun _=>SP X pins D .next) X.xe s₃) X.xe s₂) X.xe s:=by
  refine bv (he pins s σ H _ I h) fun w s1 ⟨y,H1,I1,r1,q1⟩=>?_;refine bv (ho pins s1 σ H1 v y u w _ I1 r r1 q1) fun z s2 ⟨zv,H2,I2,r2,q2⟩=>?_;exact gE I2 hN hi hx r2 (fun s3 I3=>⟨_,H2,I3,q2⟩) hf
 rcases l with ⟨hk,hm⟩ | ⟨hk,c,hc,hcell⟩
 ·exact wpAny_loadName_local I.ok.kind hk hn hm go
 ·rcases hk with hk | hk
  ·exact wpAny_loadName_cell I.ok.kind hk hc hcell go
  ·rcases hx with k | k
   ·have:X.env.scope.names.lookup x=some .free:=hk
    rw[k]at this;cases this
   ·have:X.env.scope.names.lookup x=some .free:=hk
    rw[k]at this;cases this
def wW (f:Int->Int->Int):vE:=fun x y H Q=>∃ i j,x=.int i/\y=.int j/\Q (.int (f i j)) H
theorem sU:wG X .Add (wW fun i j=>i+j):=by
 intro pins s σ H x y v u Q I r1 r2 h;obtain⟨i,j,e1,e2,q⟩:=h;subst e1;subst e2;obtain⟨t,rfl⟩:=r1;obtain⟨t',rfl⟩:=r2;exact iadd_int ⟨.int _,H,I.tok _,⟨_,rfl⟩,q⟩
end
section
variable {X:Cx}{pos:Pos}
def tY (c:TT)(tb:TS):TS:=fun D σ H=>∃ W:Nat->St->Hp->Prop,(∃ m,W m σ H)/\∀ m σ H,W m σ H ->
 c σ H fun b H1=>if b=true then ∃ N:St->Hp->Prop,(∀ σ' H',N σ' H'->∃ m',m'<m/\W m' σ' H')/\tb { D with nx:=N,ct:=N,bk:=D.nx } σ H1 else D.nx σ H1
theorem mv {c:Expr}{body:List Stmt}{tc:TT}{tb:TS}(hp:PassesOwn (model X.prog X.w) X.A X.env X.xe)(hc:PT X c tc)(hb:mO X body tb):PS X (.While c body [] pos) (tY tc tb):=by
 intro pins s σ H D I h;obtain⟨W,⟨m0,w0⟩,turn⟩:=h;refine wpAny_While (codeAny_whileLoop (fun n s'=>∃ σ' H',ay X pins σ' H' s'/\W n σ' H') ?_ m0 ⟨σ,H,I,w0⟩);rintro n s1 ⟨σ1,H1,I1,w1⟩;refine yG hp (bv (hc pins s1 σ1 H1 _ I1 (turn n σ1 H1 w1)) fun b s2 ⟨H2,I2,q2⟩=>?_)
 cases b with
 | true =>
  obtain⟨N,hN,q2⟩:=q2;rw[xA rfl];refine yG hp (bv (hb pins s2 σ1 H2 _ I2 q2) fun f s3 q3=>?_)
  cases f with
  | next =>
   obtain⟨σ3,H3,I3,n3⟩:=q3;obtain⟨m',hm,w3⟩:=hN σ3 H3 n3;exact⟨m',hm,σ3,H3,I3,w3⟩
  | cont =>
   obtain⟨σ3,H3,I3,n3⟩:=q3;obtain⟨m',hm,w3⟩:=hN σ3 H3 n3;exact⟨m',hm,σ3,H3,I3,w3⟩
  | brk=>exact q3
  | ret v=>exact q3
 | false =>
  rw[xx xu];exact yO ⟨σ1,H2,I2,q2⟩
end
structure It where
 go:Nat->Hp->Prop
 yld:Nat->Hp->V->Hp->Prop
 stop:Nat->Hp->Prop
def kA (X:Cx)(pins:List (Addr×Obj))(H:Hp)(b:Addr):Prop :=
 H b=none/\b≠X.env.locals/\b∉X.fs/\(b∈X.ex\/X.s₀.heap.objs.size<=b)/\(∀ x c,X.env.cells.lookup x=some c->c≠b)/\∀ p∈X.pn++pins,p.1≠b
theorem ay.fpOk {X:Cx}{pins:List (Addr×Obj)}{σ:St}{H H':Hp}{s:Shared}{b:Addr}(I:ay X pins σ H s)(hb:s.heap.objs.size<=b)(hn:H' b=none):kA X pins H' b:=by
 refine⟨hn,Nat.ne_of_gt (xD I.lt hb),I.nofs hb,.inr (xZ I.sz hb),fun x c e z=>?_,fun p hp z=>?_⟩
 ·obtain⟨v,q⟩:=I.cell x c e
  exact absurd (xD q.lt (by rw[z];exact hb)) (yK _)
 ·exact absurd (xD (xz (I.pin p hp).1) (by rw[z];exact hb)) (yK _)
structure oi (P:Program)(w:World)(K:PySem.W.Frag)(tg:Expr)(J:It)(fp:List Addr)(it:Addr)(tn:Nat->Heap->Prop):Prop where
 mem:it∈fp
 obj:∀ i h,tn i h->∀ b∈fp,∃ o,h.get? b=some o/\∀ v,o.data≠.cell v
 keep:∀ i h h',tn i h->(∀ b∈fp,∀ o,h.get? b=some o->h'.get? b=some o)->tn i h'
 item:∀ (X:Cx),X.prog=P->X.w=w->X.K=K->X.calm=true->∀ (i:Nat)(pins:List (Addr×Obj))(s:Shared)(σ:St)(H:Hp)(E:Value->Shared->Prop),ay X pins σ H s->(∀ b∈fp,kA X pins H b)->tn i s.heap->J.go i H ->
  wpAny (model P w) X.A (pyNext (.ref it)) (fun r s1=>∃ u,r=some u /\
   wpAny (model P w) X.A (letOwnedTupleGo tg (.ref it) u) (fun _ s2=>∃ x H',ay X pins σ H' s2/\aQ x u/\J.yld i H x H'/\tn (i+1) s2.heap/\∀ b∈fp,H' b=none) E s1) E s
 done:∀ (X:Cx),X.prog=P->X.w=w->X.K=K->X.calm=true->∀ (i:Nat)(pins:List (Addr×Obj))(s:Shared)(σ:St)(H:Hp)(E:Value->Shared->Prop),ay X pins σ H s->(∀ b∈fp,kA X pins H b)->tn i s.heap->J.stop i H ->
  wpAny (model P w) X.A (pyNext (.ref it)) (fun r s1=>r=none/\ay X pins σ H s1) E s
 self:∀ (A:Around)(i:Nat)(s:Shared)(Q:Value->Shared->Prop)(E:Value->Shared->Prop),tn i s.heap->Q (.ref it) s->wpAny (model P w) A (pyIter (.ref it)) Q E s
abbrev TI:=St->Hp->(It->Hp->Prop)->Prop
def vO (X:Cx)(pins:List (Addr×Obj))(σ:St)(tg:Expr)(R:It->Hp->Prop)(itv:Value)(s2:Shared):Prop :=
 ∃ (it:Addr)(fp:List Addr)(tn:Nat->Heap->Prop)(J:It)(H':Hp),itv=.ref it/\ay X pins σ H' s2/\oi X.prog X.w X.K tg J fp it tn/\tn 0 s2.heap/\(∀ b∈fp,kA X pins H' b)/\R J H'
def PI (X:Cx)(tg iter:Expr)(wi:TI):Prop :=
 ∀ (pins:List (Addr×Obj))(s:Shared)(σ:St)(H:Hp)(R:It->Hp->Prop),ay X pins σ H s->wi σ H R ->
  wpAny (model X.prog X.w) X.A (eval iter X.env) (fun v s1=>wpAny (model X.prog X.w) X.A (pyIter v) (vO X pins σ tg R) X.xe s1) X.xe s
theorem lU {M:Model}{A:Around}{E:Value->Shared->Prop}{s:Shared}{tg:Expr}{it:Addr}{u:Value}{o:Obj}{n:String}{vs:Array Value}{Q:Unit->Shared->Prop}(ho:s.heap.get? it=some o)(hc:o.cls=.type n)(hd:o.data=.fields vs)
  (hn:["enumerate","zip","dict_itemiterator","dict_reverseitemiterator","odict_iterator","itertools.zip_longest","itertools.pairwise"].contains n=false) (hQ:Q () s):wpAny M A (letOwnedTupleGo tg (.ref it) u) Q E s:=by
 unfold letOwnedTupleGo
 cases tg<;>first
  | exact xH hQ
  | (cases u<;>first
    | exact xH hQ
    | (refine xr (wpAny_load ho ?_)
       rw[hc,hd]
       show wpAny M A (if (["enumerate","zip","dict_itemiterator","dict_reverseitemiterator","odict_iterator","itertools.zip_longest","itertools.pairwise"].contains n&&vs[0]? == some (rawInt _))=true then _ else _) Q E s
       rw[xx (by intro h;rw[hn,Bool.false_and]at h;cases h)]
       exact xH hQ))
def sF (K:PySem.W.Frag)(a:Addr):It :=
 ⟨fun i H=>∃ xs x,bd K H a xs/\xs[i]? = some x,fun i H x H'=>H'=H/\∀ xs,bd K H a xs->xs[i]? = some x,fun i H=>∃ xs,bd K H a xs/\xs.length<=i⟩
def uw (K:PySem.W.Frag)(a:Addr):It :=
 ⟨fun i H=>∃ xs x,aW K H a xs/\xs[i]? = some x,fun i H x H'=>H'=H/\∀ xs,aW K H a xs->xs[i]? = some x,fun i H=>∃ xs,aW K H a xs/\xs.length<=i⟩
def uh (lo:Int)(n:Nat):It:=⟨fun i _=>i<n,fun i H x H'=>H'=H/\x=.int (lo+i),fun i _=>n<=i⟩
theorem o4 {P:Program}{w:World}{K:PySem.W.Frag}{tg:Expr}(a it:Addr):oi P w K tg (sF K a) [it] it (fun i h=>h.IsListIter it a i) where
 mem:=by simp
 obj:=fun i h st b hb=>by
  have e:b=it:=by simpa using hb
  subst e;obtain⟨o,e,c,d⟩:=st;exact⟨o,e,fun v z=>by rw[d]at z;cases z⟩
 keep:=fun i h h' st k=>st.at fun o e=>k it (by simp) o e
 item:=by
  intro X hP hw hK hc i pins s σ H E I hf st hg;subst hP hw hK;obtain⟨xs,x,hq,hx⟩:=hg;obtain⟨its,rv,p,hz⟩:=I.list hq;obtain⟨u,hu,ru⟩:=rv.get hx;obtain⟨f0,f1,f2,f3,f4,f5⟩:=hf it (by simp);refine wpAny_pyNext_list_item st p.isList (x:=u) (by simpa using hu) fun h' st' sb=>?_;have I1:ay X pins σ H { s with heap:=h' }:=I.turned (t':=s.toks) (fun b o hb e=>(sb.2 b hb).trans e) f0 f1 f3 f4 f5;obtain⟨o,e,c,d⟩:=id st';exact⟨u,rfl,lU (s:={ s with heap:=h' }) e c d (by decide) ⟨x,H,I1,ru,⟨rfl,fun ys hy=>by rw[I.list_inj hy hq];exact hx⟩,st',fun b hb=>(hf b hb).1⟩⟩
 done:=by
  intro X hP hw hK hc i pins s σ H E I hf st hg;subst hP hw hK;obtain⟨xs,hq,hx⟩:=hg;obtain⟨its,rv,p,hz⟩:=I.list hq;obtain⟨f0,f1,f2,f3,f4,f5⟩:=hf it (by simp);have hl:=rv.length;exact wpAny_pyNext_list_end (I.ok.hd hc) st p.isList (by simp;omega) fun h' eb=>⟨rfl,I.turned (t':=s.toks) (fun b o hb e=>eb b o hb e) f0 f1 f3 f4 f5⟩
 self:=fun _ _ _ _ _ st h=>wpAny_pyIter_listiter st h
theorem ny {P:Program}{w:World}{K:PySem.W.Frag}{tg:Expr}(a it:Addr):oi P w K tg (uw K a) [it] it (fun i h=>h.IsTupleIter it a i) where
 mem:=by simp
 obj:=fun i h st b hb=>by
  have e:b=it:=by simpa using hb
  subst e;obtain⟨o,e,c,d⟩:=st;exact⟨o,e,fun v z=>by rw[d]at z;cases z⟩
 keep:=fun i h h' st k=>st.at fun o e=>k it (by simp) o e
 item:=by
  intro X hP hw hK hc i pins s σ H E I hf st hg;subst hP hw hK;obtain⟨xs,x,hq,hx⟩:=hg;obtain⟨its,rv,p,hz⟩:=I.tuple hq;obtain⟨u,hu,ru⟩:=rv.get hx;obtain⟨f0,f1,f2,f3,f4,f5⟩:=hf it (by simp);refine wpAny_pyNext_tuple_item st (show s.heap.IsTuple a its.toArray from p) (x:=u) (by simpa using hu) fun h' st' sb=>?_;have I1:ay X pins σ H { s with heap:=h' }:=I.turned (t':=s.toks) (fun b o hb e=>(sb.2 b hb).trans e) f0 f1 f3 f4 f5;obtain⟨o,e,c,d⟩:=id st';exact⟨u,rfl,lU (s:={ s with heap:=h' }) e c d (by decide) ⟨x,H,I1,ru,⟨rfl,fun ys hy=>by rw[I.tuple_inj hy hq];exact hx⟩,st',fun b hb=>(hf b hb).1⟩⟩
 done:=by
  intro X hP hw hK hc i pins s σ H E I hf st hg;subst hP hw hK;obtain⟨xs,hq,hx⟩:=hg;obtain⟨its,rv,p,hz⟩:=I.tuple hq;obtain⟨f0,f1,f2,f3,f4,f5⟩:=hf it (by simp);have hl:=rv.length;exact wpAny_pyNext_tuple_end (I.ok.hd hc) st (show s.heap.IsTuple a its.toArray from p) (by simp;omega) fun h' eb=>⟨rfl,I.turned (t':=s.toks) (fun b o hb e=>eb b o hb e) f0 f1 f3 f4 f5⟩
 self:=fun _ _ _ _ _ st h=>wpAny_pyIter_tupleiter st h
theorem nv {P:Program}{w:World}{K:PySem.W.Frag}{tg:Expr}(it:Addr)(lo:Int)(n:Nat):oi P w K tg (uh lo n) [it] it (fun i h=>IsRangeIter h it (lo+(i:Nat)*1) ((n:Int)-(i:Nat)) 1) where
 mem:=by simp
 obj:=fun i h st b hb=>by
  have e:b=it:=by simpa using hb
  subst e
  exact⟨_,st,fun v z=>by
   have z':Data.fields _=Data.cell v:=z
   cases z'⟩
 keep:=fun i h h' st k=>k it (by simp) _ st
 item:=by
  intro X hP hw hK hc i pins s σ H E I hf st hg;subst hP hw hK;obtain⟨f0,f1,f2,f3,f4,f5⟩:=hf it (by simp);have W:=Walks.range (prog:=X.prog) (w:=X.w) (I.ok.hd hc) it lo 1 n;refine W.item i s _ _ hg st fun v h' tk hv st' kk=>?_;obtain⟨t,rfl⟩:=hv;have I1:ay X pins σ H { s with heap:=h',toks:=tk }:=I.turned (fun b o hb e=>kk b o (by simpa using hb) e) f0 f1 f3 f4 f5;refine⟨_,rfl,lU (s:={ s with heap:=h',toks:=tk }) (n:="range_iterator") st' rfl rfl (by decide) ⟨.int (lo+i),H,I1,⟨t,?_⟩,⟨rfl,rfl⟩,st',fun b hb=>(hf b hb).1⟩⟩;rw[Int.mul_one]
 done:=by
  intro X hP hw hK hc i pins s σ H E I hf st hg;subst hP hw hK;obtain⟨f0,f1,f2,f3,f4,f5⟩:=hf it (by simp);exact wpAny_pyNext_range_end (I.ok.hd hc) st (by have:n<=i:=hg;omega) fun h' eb=>⟨rfl,I.turned (t':=s.toks) (fun b o hb e=>eb b o hb e) f0 f1 f3 f4 f5⟩
 self:=fun _ _ _ _ _ st h=>wpAny_pyIter_rangeiter st h
section
variable {X:Cx}{tg:Expr}
inductive wD (K:PySem.W.Frag) (R:It->Hp->Prop) (x:V) (H:Hp):Prop
 | mk (a:Addr) (e:x=.ref a) (q:∃ xs,bd K H a xs) (h:R (sF K a) H):wD K R x H
def uH (K:PySem.W.Frag)(tl:TE):TI:=fun σ H R=>tl σ H fun x H1=>wD K R x H1
def v0 (K:PySem.W.Frag)(tl:TE):TI:=fun σ H R=>tl σ H fun x H1=>∃ a,x=.ref a/\(∃ xs,aW K H1 a xs)/\R (uw K a) H1
theorem cK {l:Expr}{tl:TE}(hl:PE X l tl):PI X tg l (uH X.K tl):=by
 intro pins s σ H R I h;refine bv (hl pins s σ H _ I h) fun v s1 ⟨x,H1,I1,r1,q1⟩=>?_;obtain⟨a,e,⟨xs,hq⟩,q⟩:=q1;subst e;cases r1;obtain⟨its,rv,p,hz⟩:=I1.list hq;refine wpAny_pyIter_list p.isList ?_;refine⟨s1.heap.objs.size,[s1.heap.objs.size],_,_,H1,rfl,I1.kept (t':=s1.toks) fun b o e=>Heap.get?_push_of_some _ e,o4 a _,⟨_,Heap.get?_push_size _ rfl,rfl,rfl⟩,fun b hb=>?_,q⟩
 have e:b=s1.heap.objs.size:=by simpa using hb
 subst e;exact I1.fpOk (xm _) (I1.hok.fresh (xm _))
theorem lz {l:Expr}{tl:TE}(hl:PE X l tl):PI X tg l (v0 X.K tl):=by
 intro pins s σ H R I h;refine bv (hl pins s σ H _ I h) fun v s1 ⟨x,H1,I1,r1,q1⟩=>?_;obtain⟨a,e,⟨xs,hq⟩,q⟩:=q1;subst e;cases r1;obtain⟨its,rv,p,hz⟩:=I1.tuple hq;refine wpAny_pyIter_tuple (show s1.heap.IsTuple a its.toArray from p) ?_;refine⟨s1.heap.objs.size,[s1.heap.objs.size],_,_,H1,rfl,I1.kept (t':=s1.toks) fun b o e=>Heap.get?_push_of_some _ e,ny a _,⟨_,Heap.get?_push_size _ rfl,rfl,rfl⟩,fun b hb=>?_,q⟩
 have e:b=s1.heap.objs.size:=by simpa using hb
 subst e;exact I1.fpOk (xm _) (I1.hok.fresh (xm _))
theorem qd {pins:List (Addr×Obj)}{σ:St}{H:Hp}{s:Shared}{R:It->Hp->Prop}{E:Value->Shared->Prop}{lo hi:Int}{t u v:Tok}{tk:Nat}(I:ay X pins σ H s)(h1 : -(2 ^ 62)<=lo)(h2:lo<2 ^ 62)(h3 : -(2 ^ 62)<=hi)(h4:hi<2 ^ 62)
  (q:R (uh lo (hi-lo).toNat) H):wpAny (model X.prog X.w) X.A (pyIter (.ref s.heap.objs.size)) (vO X pins σ tg R) E { s with heap:=s.heap.push { cls:=.type "range",data:=.fields #[.int lo t,.int hi u,.int 1 v] },toks:=tk }:=by
 refine wpAny_pyIter_range (IsRange.new ..) (small_one h1 h2 h3 h4) ?_;have I1:ay X pins σ H { s with heap:=s.heap.push { cls:=.type "range",data:=.fields #[.int lo t,.int hi u,.int 1 v] },toks:=tk }:=I.kept fun b o e=>Heap.get?_push_of_some _ e
 refine⟨(s.heap.push { cls:=.type "range",data:=.fields #[.int lo t,.int hi u,.int 1 v] }).objs.size,[(s.heap.push { cls:=.type "range",data:=.fields #[.int lo t,.int hi u,.int 1 v] }).objs.size],_,_,H,rfl,
  I1.kept (t':=tk) fun b o e=>Heap.get?_push_of_some _ e,nv _ lo (hi-lo).toNat,?_,fun b hb=>?_,q⟩
 ·have e1:lo+((0:Nat):Int)*1=lo:=by simp
  have e2:(((hi-lo).toNat:Nat):Int)-((0:Nat):Int)=Builtin.Range.rangeSize lo hi 1:=by rw[rangeSize_one];split<;>omega
  show IsRangeIter _ _ (lo+((0:Nat):Int)*1) ((((hi-lo).toNat:Nat):Int)-((0:Nat):Int)) 1
  rw[e1,e2];exact Heap.get?_push_size _ rfl
 ·have e:b=(s.heap.push { cls:=.type "range",data:=.fields #[.int lo t,.int hi u,.int 1 v] }).objs.size:=by simpa using hb
  subst e;exact I1.fpOk (xm _) (I1.hok.fresh (xm _))
def uI (ta:TA):TI:=fun σ H R=>ta σ H fun vs H1=>∃ j:Int,vs=[.int j]/\-(2 ^ 62)<=j/\j<2 ^ 62/\R (uh 0 j.toNat) H1
theorem cG {a:Expr}{ta:TA}{p pos:Pos}(hg:Gl X "range")(hm:X.mg "range" = none)(ha:PA X [a] ta)(hs:starEach [a] X.env=[(false,eval a X.env)]:=by rfl):PI X tg (.Call (.Name "range" p) [a] [] pos) (uI ta):=by
 intro pins s σ H R I h;refine Call_ (gZ I hg hm boot_range (PyProof.Rows.callWith_type1 (bv (ha pos pins s σ H _ I h) fun us s1 ⟨vs,H1,I1,r1,q1⟩=>?_) hs rfl));obtain⟨j,e,q1,q2,q⟩:=q1;subst e
 cases r1 with
 | cons r rr =>
  cases rr;obtain⟨t,rfl⟩:=r;exact call_range_1 (qd I1 (by omega) (by omega) q1 q2 (by simpa using q))
def wu (wi:TI)(g:TG)(tb:TS):TS:=fun D σ H=>wi σ H fun J H1=>∃ W:Nat->Nat->St->Hp->Prop,(∃ m,W 0 m σ H1)/\∀ i m σ H,W i m σ H ->
 (J.stop i H/\D.nx σ H)\/(J.go i H/\∃ N:St->Hp->Prop,(∀ σ' H',N σ' H'->∃ m',m'<m/\W (i+1) m' σ' H')/\∀ x H',J.yld i H x H'->g x σ H' fun σ2 H2=>tb { D with nx:=N,ct:=N,bk:=D.nx } σ2 H2)
def jE (fp:List Addr)(h:Heap):List (Addr×Obj):=fp.filterMap fun b=>(h.get? b).map fun o=>(b,o)
theorem dY {fp:List Addr}{h:Heap}{b:Addr}{o:Obj}(hb:b∈fp)(e:h.get? b=some o):(b,o)∈jE fp h:=List.mem_filterMap.mpr ⟨b,hb,by rw[e];rfl⟩
theorem oN {fp:List Addr}{h:Heap}{p:Addr×Obj}(hp:p∈jE fp h):p.1∈fp/\h.get? p.1=some p.2:=by
 obtain⟨b,hb,e⟩:=List.mem_filterMap.mp hp
 cases q:h.get? b with
 | none=>rw[q]at e;cases e
 | some o =>
  rw[q]at e;have e':(b,o)=p:=xE e;subst e';exact⟨hb,q⟩
theorem ay.pinned {pins:List (Addr×Obj)}{σ:St}{H:Hp}{s:Shared}{fp:List Addr}(I:ay X pins σ H s)(hf:∀ b∈fp,kA X pins H b)(ho:∀ b∈fp,∃ o,s.heap.get? b=some o/\∀ v,o.data≠.cell v):ay X (pins++jE fp s.heap) σ H s :=
 I.pins_of fun p hp=>(xU.mp hp).elim (fun z=>I.pin p (xV _ z)) fun z=>by
  obtain⟨hb,e⟩:=oN z;obtain⟨f0,f1,f2,_⟩:=hf p.1 hb;obtain⟨o,e',d⟩:=ho p.1 hb;rw[e]at e';cases e';exact⟨e,f0,f1,f2,d⟩
theorem ay.unpinned {pins pl:List (Addr×Obj)}{σ:St}{H:Hp}{s:Shared}(I:ay X (pins++pl) σ H s):ay X pins σ H s:=I.pins_of fun p hp=>I.pin p (xV _ (List.mem_append_left _ hp))
theorem dC {iter:Expr}{body:List Stmt}{wi:TI}{g:TG}{tb:TS}{pos:Pos}(hp:PassesOwn (model X.prog X.w) X.A X.env X.xe)(hc:X.calm=true)(hi:PI X tg iter wi)(hg:PG X tg g)(hb:mO X body tb)
  (hs:∀ x,foldedSetIterable iter X.env x=pure x:=by intro _;rfl):PS X (.For tg iter body [] pos) (wu wi g tb):=by
 intro pins s σ H D I h;refine wpAny_For (bv (hi pins s σ H _ I h) fun v s1 h1=>bv h1 fun itv s2 h2=>?_) hs;obtain⟨it,fp,tn,J,H2,e,I2,T,st2,f2,W,⟨m0,w0⟩,turn⟩:=h2;subst e;have stat:∀ {H':Hp},(∀ b∈fp,H' b=none)->∀ b∈fp,kA X pins H' b:=fun hn b hb=>⟨hn b hb,(f2 b hb).2⟩;refine codeAny_forLoop_any (fun n s'=>∃ i σ' H',ay X pins σ' H' s'/\tn i s'.heap/\(∀ b∈fp,H' b=none)/\W i n σ' H') ?_ m0 ⟨0,σ,H2,I2,st2,fun b hb=>(f2 b hb).1,w0⟩;rintro n s3 ⟨i,σ3,H3,I3,st3,fr3,w3⟩;rcases turn i n σ3 H3 w3 with ⟨stop,qn⟩ | ⟨go,N,hN,step⟩
 ·refine yG hp (bv (T.done X rfl rfl rfl hc i pins s3 σ3 H3 X.xe I3 (stat fr3) st3 stop) fun r s4 ⟨hr,I4⟩=>?_)
  subst hr;exact yO ⟨σ3,H3,I4,qn⟩
 ·refine yG hp (bv (T.item X rfl rfl rfl hc i pins s3 σ3 H3 X.xe I3 (stat fr3) st3 go) fun r s4 ⟨u,hr,h4⟩=>?_)
  subst hr;refine yG hp (bv h4 fun _ s5 ⟨x,H5,I5,r5,y5,st5,fr5⟩=>?_);have I5':=I5.pinned (stat fr5) (T.obj _ _ st5);refine yG hp (bv (hg _ s5 σ3 H5 x u _ I5' r5 (step x H5 y5)) fun _ s6 ⟨σ6,H6,I6,q6⟩=>?_);refine yG hp (bv (hb _ s6 σ6 H6 _ I6 q6) fun f s7 q7=>?_)
  have again:∀ {σ7:St}{H7:Hp},ay X (pins++jE fp s5.heap) σ7 H7 s7->N σ7 H7->∃ m,m<n/\∃ i σ' H',ay X pins σ' H' s7/\tn i s7.heap/\(∀ b∈fp,H' b=none)/\W i m σ' H':=fun {σ7 H7} I7 n7=>by
   obtain⟨m',hm,w7⟩:=hN σ7 H7 n7;refine⟨m',hm,i+1,σ7,H7,I7.unpinned,T.keep _ _ _ st5 fun b hb o e=>(I7.pin (b,o) (xV _ (xV _ (dY hb e)))).1,fun b hb=>?_,w7⟩;obtain⟨o,e,d⟩:=T.obj _ _ st5 b hb;exact (I7.pin (b,o) (xV _ (xV _ (dY hb e)))).2.1
  cases f with
  | next=>obtain⟨σ7,H7,I7,n7⟩:=q7;exact again I7 n7
  | cont=>obtain⟨σ7,H7,I7,n7⟩:=q7;exact again I7 n7
  | brk=>obtain⟨σ7,H7,I7,q7⟩:=q7;exact⟨σ7,H7,I7.unpinned,q7⟩
  | ret v=>obtain⟨x7,σ7,H7,I7,r7,q7⟩:=q7;exact⟨x7,σ7,H7,I7.unpinned,r7,q7⟩
end
theorem cO {K:PySem.W.Frag}{a:Addr}{xs:List V}{g:TG}{tb:TS}{D:fW}{σ:St}{H:Hp}(Pv:Nat->St->Hp->Prop)(h0:Pv 0 σ H)(hl:∀ i σ H,i<=xs.length->Pv i σ H->bd K H a xs)
  (hs:∀ i x σ H,xs[i]? = some x->Pv i σ H->g x σ H fun σ2 H2=>tb { D with nx:=Pv (i+1),ct:=Pv (i+1),bk:=D.nx } σ2 H2) (hd:∀ σ H,Pv xs.length σ H->D.nx σ H) :
  ∃ W:Nat->Nat->St->Hp->Prop,(∃ m,W 0 m σ H)/\∀ i m σ H,W i m σ H ->
   ((sF K a).stop i H/\D.nx σ H)\/((sF K a).go i H/\∃ N:St->Hp->Prop,(∀ σ' H',N σ' H'->∃ m',m'<m/\W (i+1) m' σ' H')/\∀ x H',(sF K a).yld i H x H'->g x σ H' fun σ2 H2=>tb { D with nx:=N,ct:=N,bk:=D.nx } σ2 H2):=by
 refine⟨fun i m σ H=>m=xs.length-i/\i<=xs.length/\Pv i σ H,⟨xs.length,by simp,xX _,h0⟩,?_⟩;rintro i m σ H ⟨rfl,hi,p⟩;have q:=hl i σ H hi p
 by_cases hlt:i<xs.length
 ·refine .inr ⟨⟨xs,xs[i],q,by simp[hlt]⟩,Pv (i+1),fun σ' H' p'=>⟨xs.length-(i+1),by omega,rfl,hlt,p'⟩,fun x H' y=>?_⟩
  obtain⟨e,y⟩:=y;subst e;exact hs i x σ _ (y xs q) p
 ·have e:i=xs.length:=by omega
  subst e;exact .inl ⟨⟨xs,q,xm _⟩,hd σ H p⟩
theorem iU {K:PySem.W.Frag}{a:Addr}{xs:List V}{g:TG}{tb:TS}{D:fW}{σ:St}{H:Hp}(Pv:Nat->St->Hp->Prop)(h0:Pv 0 σ H)(hl:∀ i σ H,i<=xs.length->Pv i σ H->aW K H a xs)
  (hs:∀ i x σ H,xs[i]? = some x->Pv i σ H->g x σ H fun σ2 H2=>tb { D with nx:=Pv (i+1),ct:=Pv (i+1),bk:=D.nx } σ2 H2) (hd:∀ σ H,Pv xs.length σ H->D.nx σ H) :
  ∃ W:Nat->Nat->St->Hp->Prop,(∃ m,W 0 m σ H)/\∀ i m σ H,W i m σ H ->
   ((uw K a).stop i H/\D.nx σ H)\/((uw K a).go i H/\∃ N:St->Hp->Prop,(∀ σ' H',N σ' H'->∃ m',m'<m/\W (i+1) m' σ' H')/\∀ x H',(uw K a).yld i H x H'->g x σ H' fun σ2 H2=>tb { D with nx:=N,ct:=N,bk:=D.nx } σ2 H2):=by
 refine⟨fun i m σ H=>m=xs.length-i/\i<=xs.length/\Pv i σ H,⟨xs.length,by simp,xX _,h0⟩,?_⟩;rintro i m σ H ⟨rfl,hi,p⟩;have q:=hl i σ H hi p
 by_cases hlt:i<xs.length
 ·refine .inr ⟨⟨xs,xs[i],q,by simp[hlt]⟩,Pv (i+1),fun σ' H' p'=>⟨xs.length-(i+1),by omega,rfl,hlt,p'⟩,fun x H' y=>?_⟩
  obtain⟨e,y⟩:=y;subst e;exact hs i x σ _ (y xs q) p
 ·have e:i=xs.length:=by omega
  subst e;exact .inl ⟨⟨xs,q,xm _⟩,hd σ H p⟩
theorem cC {lo:Int}{n:Nat}{g:TG}{tb:TS}{D:fW}{σ:St}{H:Hp}(Pv:Nat->St->Hp->Prop)(h0:Pv 0 σ H)
  (hs:∀ i σ H,i<n->Pv i σ H->g (.int (lo+i)) σ H fun σ2 H2=>tb { D with nx:=Pv (i+1),ct:=Pv (i+1),bk:=D.nx } σ2 H2) (hd:∀ σ H,Pv n σ H->D.nx σ H) :
  ∃ W:Nat->Nat->St->Hp->Prop,(∃ m,W 0 m σ H)/\∀ i m σ H,W i m σ H ->
   ((uh lo n).stop i H/\D.nx σ H)\/((uh lo n).go i H/\∃ N:St->Hp->Prop,(∀ σ' H',N σ' H'->∃ m',m'<m/\W (i+1) m' σ' H')/\∀ x H',(uh lo n).yld i H x H'->g x σ H' fun σ2 H2=>tb { D with nx:=N,ct:=N,bk:=D.nx } σ2 H2):=by
 refine⟨fun i m σ H=>m=n-i/\i<=n/\Pv i σ H,⟨n,by simp,xX _,h0⟩,?_⟩;rintro i m σ H ⟨rfl,hi,p⟩
 by_cases hlt:i<n
 ·refine .inr ⟨hlt,Pv (i+1),fun σ' H' p'=>⟨n-(i+1),by omega,rfl,hlt,p'⟩,fun x H' y=>?_⟩
  obtain⟨e,y⟩:=y;subst e y;exact hs i σ _ hlt p
 ·have e:i=n:=by omega
  subst e;exact .inl ⟨xm _,hd σ H p⟩
abbrev R2:=V->V->Hp->VK->Prop
def fJ (X:Cx)(f:Value->Value->Sem Value)(r:R2):Prop :=
 ∀ (pins:List (Addr×Obj))(s:Shared)(σ:St)(H:Hp)(x y:V)(v u:Value)(Q:VK),ay X pins σ H s->aQ x v->aQ y u->r x y H Q ->
  wpAny (model X.prog X.w) X.A (f v u) (EP X pins σ Q) X.xe s
def vS (X:Cx)(f:Value->Sem Value)(r:V->Hp->VK->Prop):Prop :=
 ∀ (pins:List (Addr×Obj))(s:Shared)(σ:St)(H:Hp)(x:V)(v:Value)(Q:VK),ay X pins σ H s->aQ x v->r x H Q ->
  wpAny (model X.prog X.w) X.A (f v) (EP X pins σ Q) X.xe s
def dG (X:Cx)(f:Value)(r:List V->Hp->VK->Prop):Prop :=
 ∀ (pins:List (Addr×Obj))(s:Shared)(σ:St)(H:Hp)(xs:List V)(us:List Value)(Q:VK),ay X pins σ H s->aH xs us->r xs H Q ->
  wpAny (model X.prog X.w) X.A (call f us) (EP X pins σ Q) X.xe s
def vR (X:Cx)(r:V->Hp->(Bool->Hp->Prop)->Prop):Prop :=
 ∀ (pins:List (Addr×Obj))(s:Shared)(σ:St)(H:Hp)(x:V)(v:Value)(Q:Bool->Hp->Prop),ay X pins σ H s->aQ x v->r x H Q ->
  wpAny (model X.prog X.w) X.A (truthy v) (TP X pins σ Q) X.xe s
def vG (r:R2)(ta tb:TE):TE:=fun σ H Q=>ta σ H fun x H1=>tb σ H1 fun y H2=>r x y H2 Q
def xb (r:V->Hp->VK->Prop)(ta:TE):TE:=fun σ H Q=>ta σ H fun x H1=>r x H1 Q
inductive RI (C:Int->Int->Prop) (g:Int->Int->V) (x y:V) (H:Hp) (Q:VK):Prop
 | mk (i j:Int) (e1:x=.int i) (e2:y=.int j) (c:C i j) (h:Q (g i j) H):RI C g x y H Q
def rI (C:Int->Int->Prop)(g:Int->Int->V):R2:=fun x y H Q=>RI C g x y H Q
inductive wJ (g:Int->Int->V) (x y:V) (H:Hp) (Q:VK):Prop
 | mk (i j:Int) (e1:x=.int i) (e2:y=.int j) (h:Q (g i j) H):wJ g x y H Q
def r6 (g:Int->Int->V):R2:=fun x y H Q=>wJ g x y H Q
def rU (g:Int->V):V->Hp->VK->Prop:=fun x H Q=>∃ i,x=.int i/\Q (g i) H
section
variable {X:Cx}{a b c:Expr}{ta tb tc:TE}{pos:Pos}
theorem sM (ha:PE X a ta)(hb:PE X b tb){pins:List (Addr×Obj)}{s:Shared}{σ:St}{H:Hp}{R:V->V->Hp->Prop}(I:ay X pins σ H s)
  (h:ta σ H fun x H1=>tb σ H1 fun y H2=>R x y H2) {Q:Value->Shared->Prop} {f:Value->Value->Sem Value}
  (hf:∀ v u s2 x y H2,ay X pins σ H2 s2->aQ x v->aQ y u->R x y H2->wpAny (model X.prog X.w) X.A (f v u) Q X.xe s2) :
  wpAny (model X.prog X.w) X.A (eval a X.env) (fun v s₁=>wpAny (model X.prog X.w) X.A (eval b X.env) (fun u s₂=>wpAny (model X.prog X.w) X.A (f v u) Q X.xe s₂) X.xe s₁) X.xe s:=by
 refine bv (ha pins s σ H _ I h) fun v s1 ⟨x,H1,I1,r1,q1⟩=>?_;refine bv (hb pins s1 σ H1 _ I1 q1) fun u s2 ⟨y,H2,I2,r2,q2⟩=>?_;exact hf v u s2 x y H2 I2 r1 r2 q2
theorem am {op:Operator}{r:R2}(ho:fJ X (binaryOp op) r)(ha:PE X a ta)(hb:PE X b tb):PE X (.BinOp a op b pos) (vG r ta tb):=by
 intro pins s σ H Q I h;exact wpAny_BinOp (sM ha hb I h fun v u s2 x y H2 I2 rx ry q=>ho pins s2 σ H2 x y v u Q I2 rx ry q)
theorem uW {op:UnaryOp}{r:V->Hp->VK->Prop}(ho:vS X (unaryOp op) r)(ha:PE X a ta):PE X (.UnaryOp op a pos) (xb r ta):=by
 intro pins s σ H Q I h;exact UnaryOp_ (bv (ha pins s σ H _ I h) fun v s1 ⟨x,H1,I1,r1,q1⟩=>ho pins s1 σ H1 x v Q I1 r1 q1)
theorem uR {f:Value->Value->Sem Value}{C:Int->Int->Prop}{g:Int->Int->Int}
  (rule:∀ (i j:Int)(t u:Tok)(s:Shared)(Q:Value->Shared->Prop)(E:Value->Shared->Prop),C i j->Q (.int (g i j) s.toks) { s with toks:=s.toks+1 }->wpAny (model X.prog X.w) X.A (f (.int i t) (.int j u)) Q E s) :
  fJ X f (rI C fun i j=>.int (g i j)):=by
 intro pins s σ H x y v u Q I rx ry h;obtain⟨i,j,rfl,rfl,hc,q⟩:=h;obtain⟨t,rfl⟩:=rx;obtain⟨t',rfl⟩:=ry;exact rule i j t t' s _ _ hc ⟨.int (g i j),H,I.tok _,⟨_,rfl⟩,q⟩
theorem uS {f:Value->Value->Sem Value}{g:Int->Int->Int}
  (rule:∀ (i j:Int)(t u:Tok)(s:Shared)(Q:Value->Shared->Prop)(E:Value->Shared->Prop),Q (.int (g i j) s.toks) { s with toks:=s.toks+1 }->wpAny (model X.prog X.w) X.A (f (.int i t) (.int j u)) Q E s) :
  fJ X f (r6 fun i j=>.int (g i j)):=by
 intro pins s σ H x y v u Q I rx ry h;obtain⟨i,j,rfl,rfl,q⟩:=h;obtain⟨t,rfl⟩:=rx;obtain⟨t',rfl⟩:=ry;exact rule i j t t' s _ _ ⟨.int (g i j),H,I.tok _,⟨_,rfl⟩,q⟩
theorem rE {f:Value->Value->Sem Value}{g:Int->Int->Bool}
  (rule:∀ (i j:Int)(t u:Tok)(s:Shared)(Q:Value->Shared->Prop)(E:Value->Shared->Prop),Q (.bool (g i j)) s->wpAny (model X.prog X.w) X.A (f (.int i t) (.int j u)) Q E s) :
  fJ X f (r6 fun i j=>.bl (g i j)):=by
 intro pins s σ H x y v u Q I rx ry h;obtain⟨i,j,rfl,rfl,q⟩:=h;obtain⟨t,rfl⟩:=rx;obtain⟨t',rfl⟩:=ry;exact rule i j t t' s _ _ ⟨.bl (g i j),H,I,rfl,q⟩
def vJ (i j:Int):Prop:=0<j/\j<1073741824
def vK (i j:Int):Prop:=0<=j/\j<=1000000/\i.natAbs<2 ^ 64
def sD (i j:Int):Prop:=(-(2 ^ 64)<i/\i<2 ^ 64)\/(-(2 ^ 64)<j/\j<2 ^ 64)
theorem sD.ok {i j:Int}(h:sD i j):IntMulOk i j:=by
 rcases h with ⟨h1,h2⟩ | ⟨h1,h2⟩
 ·exact .of_left (intBits_le_64 h1 h2)
 ·exact .of_right (intBits_le_64 h1 h2)
theorem bg:fJ X (binaryOp .Add) (r6 fun i j=>.int (i+j)):=uS fun _ _ _ _ _ _ _ q=>add_int q
theorem lh:fJ X (binaryOp .Sub) (r6 fun i j=>.int (i-j)):=uS fun _ _ _ _ _ _ _ q=>sub_int q
theorem h8:fJ X (binaryOp .Mult) (rI sD fun i j=>.int (i*j)):=uR fun _ _ _ _ _ _ _ hc q=>mul_int q hc.ok
theorem bw:fJ X (binaryOp .FloorDiv) (rI vJ fun i j=>.int (i/j)):=uR fun i j _ _ _ _ _ hc q=>by
 have h1:(0:Int)<j:=hc.1;have h2:j<1073741824:=hc.2;exact floordiv_int (by omega) (by rw[Int.fdiv_eq_ediv_of_nonneg i (by omega)];exact q) (.inl (PyProof.noPylong_small (by omega)))
theorem a8:fJ X (binaryOp .Mod) (rI (fun _ j=>0<j) fun i j=>.int (i%j)):=uR fun i j _ _ _ _ _ hc q=>by
 have h1:(0:Int)<j:=hc;exact mod_int' (by omega) (by rw[Int.fmod_eq_emod_of_nonneg i (by omega)];exact q)
theorem pX:fJ X (binaryOp .Pow) (rI vK fun i j=>.int (i ^ j.toNat)):=uR fun _ _ _ _ _ _ _ hc q=>pow_int_small hc.1 hc.2.1 hc.2.2 q
theorem xc {f:Value->Sem Value}{g:Int->Int}
  (rule:∀ (i:Int)(t:Tok)(s:Shared)(Q:Value->Shared->Prop)(E:Value->Shared->Prop),Q (.int (g i) s.toks) { s with toks:=s.toks+1 }->wpAny (model X.prog X.w) X.A (f (.int i t)) Q E s) :
  vS X f (rU fun i=>.int (g i)):=by
 intro pins s σ H x v Q I rx h;obtain⟨i,rfl,q⟩:=h;obtain⟨t,rfl⟩:=rx;exact rule i t s _ _ ⟨.int (g i),H,I.tok _,⟨_,rfl⟩,q⟩
theorem ud:vS X (unaryOp .USub) (rU fun i=>.int (-i)):=xc fun _ _ _ _ _ q=>neg_int q
end
def va:V->V->Bool
 | .non,.non=>true | .non,.int _=>true | .int _,.non=>true | .non,.bl _=>true | .bl _,.non=>true | .non,.str _=>true | .str _,.non=>true
 | .int _,.int _=>true | .bl _,.bl _=>true | .str _,.str _=>true | .byt _,.byt _=>true
 | .int _,.str _=>true | .str _,.int _=>true | .bl _,.str _=>true | .str _,.bl _=>true
 | _,_=>false
def wZ:R2:=fun x y H Q=>va x y=true/\Q (.bl (decide (x=y))) H
def wP:R2:=fun x y H Q=>va x y=true/\Q (.bl (!decide (x=y))) H
theorem nG {i j:Int}:decide (V.int i=V.int j)=(i == j):=by
 rw[Bool.eq_iff_iff];simp
theorem pz {i j:Bool}:decide (V.bl i=V.bl j)=(i == j):=by
 rw[Bool.eq_iff_iff];simp
theorem nH {i j:Str}:decide (V.str i=V.str j)=(i == j):=by
 rw[Bool.eq_iff_iff];simp
theorem nF {i j:Array UInt8}:decide (V.byt i=V.byt j)=(i.toList == j.toList):=by
 rw[Bool.eq_iff_iff];cases i;cases j;simp
section
variable {X:Cx}{a b c:Expr}{ta tb tc:TE}{pos:Pos}
theorem aM {pins:List (Addr×Obj)}{σ:St}{H:Hp}{s:Shared}{Q:VK}{k k':Bool}(I:ay X pins σ H s)(q:Q (.bl k) H)(e:k=k'):EP X pins σ Q (.bool k') s:=by
 subst e;exact⟨.bl k,H,I,rfl,q⟩
theorem bC:fJ X (compareOp .Eq) wZ:=by
 intro pins s σ H x y v u Q I rx ry h;obtain⟨hs,q⟩:=h
 cases x with
 | non =>
  cases rx
  cases y with
  | non=>cases ry;exact PySem.EqNone.eq_none_none (aM I q (by simp))
  | bl j=>cases ry;exact PySem.EqNone.eq_none_bool (aM I q (by simp))
  | int j=>obtain⟨t',rfl⟩:=ry;exact PySem.EqNone.eq_none_int (aM I q (by simp))
  | str j=>obtain⟨t',rfl⟩:=ry;exact PySem.EqNone.eq_none_str (aM I q (by simp))
  | _=>exact absurd (show false=true from hs) xu
 | bl i =>
  cases rx
  cases y with
  | non=>cases ry;exact PySem.EqNone.eq_bool_none (aM I q (by simp))
  | bl j=>cases ry;exact eq_bool (aM I q pz)
  | str j=>obtain⟨t',rfl⟩:=ry;exact PySem.EqMixed.eq_bool_str (aM I q (by simp))
  | _=>exact absurd (show false=true from hs) xu
 | int i =>
  obtain⟨t,rfl⟩:=rx
  cases y with
  | non=>cases ry;exact PySem.EqNone.eq_int_none (aM I q (by simp))
  | int j=>obtain⟨t',rfl⟩:=ry;exact eq_int (aM I q nG)
  | str j=>obtain⟨t',rfl⟩:=ry;exact PySem.EqMixed.eq_int_str (aM I q (by simp))
  | _=>exact absurd (show false=true from hs) xu
 | str i =>
  obtain⟨t,rfl⟩:=rx
  cases y with
  | non=>cases ry;exact PySem.EqNone.eq_str_none (aM I q (by simp))
  | bl j=>cases ry;exact PySem.EqMixed.eq_str_bool (aM I q (by simp))
  | int j=>obtain⟨t',rfl⟩:=ry;exact PySem.EqMixed.eq_str_int (aM I q (by simp))
  | str j=>obtain⟨t',rfl⟩:=ry;exact eq_str (aM I q nH)
  | _=>exact absurd (show false=true from hs) xu
 | byt i =>
  obtain⟨t,rfl⟩:=rx
  cases y with
  | byt j=>obtain⟨t',rfl⟩:=ry;exact PySem.W.eq_bytes (aM I q nF)
  | _=>exact absurd (show false=true from hs) xu
 | _=>cases y<;>exact absurd (show false=true from hs) xu
theorem iI:fJ X (compareOp .NotEq) wP:=by
 intro pins s σ H x y v u Q I rx ry h;obtain⟨hs,q⟩:=h
 cases x with
 | non =>
  cases rx
  cases y with
  | non=>cases ry;exact PySem.EqNone.ne_none_none (aM I q (by simp))
  | bl j=>cases ry;exact PySem.EqNone.ne_none_bool (aM I q (by simp))
  | int j=>obtain⟨t',rfl⟩:=ry;exact PySem.EqNone.ne_none_int (aM I q (by simp))
  | str j=>obtain⟨t',rfl⟩:=ry;exact PySem.EqNone.ne_none_str (aM I q (by simp))
  | _=>exact absurd (show false=true from hs) xu
 | bl i =>
  cases rx
  cases y with
  | non=>cases ry;exact PySem.EqNone.ne_bool_none (aM I q (by simp))
  | bl j=>cases ry;exact ne_bool (aM I q (yn not pz))
  | str j=>obtain⟨t',rfl⟩:=ry;exact PySem.EqMixed.ne_bool_str (aM I q (by simp))
  | _=>exact absurd (show false=true from hs) xu
 | int i =>
  obtain⟨t,rfl⟩:=rx
  cases y with
  | non=>cases ry;exact PySem.EqNone.ne_int_none (aM I q (by simp))
  | int j=>obtain⟨t',rfl⟩:=ry;exact ne_int (aM I q (yn not nG))
  | str j=>obtain⟨t',rfl⟩:=ry;exact PySem.EqMixed.ne_int_str (aM I q (by simp))
  | _=>exact absurd (show false=true from hs) xu
 | str i =>
  obtain⟨t,rfl⟩:=rx
  cases y with
  | non=>cases ry;exact PySem.EqNone.ne_str_none (aM I q (by simp))
  | bl j=>cases ry;exact PySem.EqMixed.ne_str_bool (aM I q (by simp))
  | int j=>obtain⟨t',rfl⟩:=ry;exact PySem.EqMixed.ne_str_int (aM I q (by simp))
  | str j=>obtain⟨t',rfl⟩:=ry;exact ne_str (aM I q (yn not nH))
  | _=>exact absurd (show false=true from hs) xu
 | byt i =>
  obtain⟨t,rfl⟩:=rx
  cases y with
  | byt j=>obtain⟨t',rfl⟩:=ry;exact PySem.W.ne_bytes (aM I q (yn not nF))
  | _=>exact absurd (show false=true from hs) xu
 | _=>cases y<;>exact absurd (show false=true from hs) xu
theorem mm:fJ X (compareOp .Lt) (r6 fun i j=>.bl (decide (i<j))):=rE fun _ _ _ _ _ _ _ q=>lt_int q
theorem ko:fJ X (compareOp .LtE) (r6 fun i j=>.bl (decide (i<=j))):=rE fun _ _ _ _ _ _ _ q=>le_int q
theorem rY:fJ X (compareOp .Gt) (r6 fun i j=>.bl (decide (j<i))):=rE fun _ _ _ _ _ _ _ q=>gt_int q
theorem uT:fJ X (compareOp .GtE) (r6 fun i j=>.bl (decide (j<=i))):=rE fun _ _ _ _ _ _ _ q=>ge_int q
theorem kn:fJ X (compareOp .In) (fun x y H Q=>∃ i j,x=.str i/\y=.str j/\Q (.bl (!(Builtin.Str.occurrences j i 0 j.length 1).isEmpty)) H):=by
 intro pins s σ H x y v u Q I rx ry h;obtain⟨i,j,rfl,rfl,q⟩:=h;obtain⟨t,rfl⟩:=rx;obtain⟨t',rfl⟩:=ry;exact in_str (aM I q rfl)
theorem lf:fJ X (compareOp .NotIn) (fun x y H Q=>∃ i j,x=.str i/\y=.str j/\Q (.bl (!(!(Builtin.Str.occurrences j i 0 j.length 1).isEmpty))) H):=by
 intro pins s σ H x y v u Q I rx ry h;obtain⟨i,j,rfl,rfl,q⟩:=h;obtain⟨t,rfl⟩:=rx;obtain⟨t',rfl⟩:=ry;exact notIn_str (aM I q rfl)
theorem aA (b:Expr){op:CmpOp}(h:op≠.In:=by decide)(h2:op≠.NotIn:=by decide):behindInMarks op b=false:=by
 have e1:(op == CmpOp.In)=false:=by cases op<;>first | rfl | exact absurd rfl h
 have e2:(op == CmpOp.NotIn)=false:=by cases op<;>first | rfl | exact absurd rfl h2
 cases b<;>simp[behindInMarks,e1,e2]
theorem gp {op:CmpOp}{r:R2}(ho:fJ X (compareOp op) r)(ha:PE X a ta)(hb:PE X b tb)(hm:behindInMarks op b=false):PE X (.Compare a [op] [b] pos) (vG r ta tb):=by
 intro pins s σ H Q I h;exact wpAny_Compare1 (sM ha hb I h fun v u s2 x y H2 I2 rx ry q=>ho pins s2 σ H2 x y v u Q I2 rx ry q) hm
def sf (t:TE):TT:=fun σ H Q=>t σ H fun x H'=>vQ Q x H'
theorem ap {op:CmpOp}{r:R2}(ho:fJ X (compareOp op) r)(ha:PE X a ta)(hb:PE X b tb)(hm:behindInMarks op b=false):PT X (.Compare a [op] [b] pos) (sf (vG r ta tb)):=by
 intro pins s σ H Q I h
 refine wpAny_isTrue_Compare1 (bv (ha pins s σ H _ I h) fun v s1 ⟨x,H1,I1,r1,q1⟩=>bv (hb pins s1 σ H1 _ I1 q1) fun u s2 ⟨y,H2,I2,r2,q2⟩ =>
  bv (ho pins s2 σ H2 x y v u _ I2 r1 r2 q2) fun c s3 ⟨z,H3,I3,r3,k,e,q3⟩=>?_) hm
 subst e;cases r3;exact yk ⟨H3,I3,q3⟩
def tW (r r':R2)(ta tb tc:TE):TE:=fun σ H Q=>ta σ H fun x H1=>tb σ H1 fun y H2=>r x y H2 fun z H3=>∃ k,z=.bl k /\
 (if k=true then tc σ H3 fun w' H4=>r' y w' H4 Q else Q (.bl false) H3)
theorem jF {op op':CmpOp}{r r':R2}(ho:fJ X (compareOp op) r)(ho':fJ X (compareOp op') r')(ha:PE X a ta)(hb:PE X b tb)(hc:PE X c tc)
  (hm:lastMarks [op,op'] [b,c]=false:=by with_unfolding_all rfl):PT X (.Compare a [op,op'] [b,c] pos) (sf (tW r r' ta tb tc)):=by
 intro pins s σ H Q I h
 refine isTrue_chain (bv (ha pins s σ H _ I h) fun v s1 ⟨x,H1,I1,r1,q1⟩=>test_link (bv (hb pins s1 σ H1 _ I1 q1) fun u s2 ⟨y,H2,I2,r2,q2⟩ =>
  bv (ho pins s2 σ H2 x y v u _ I2 r1 r2 q2) fun d s3 ⟨z,H3,I3,r3,k,e,q3⟩=>?_)) hm
 subst e;cases r3;refine yk ?_
 cases k with
 | false =>
  obtain⟨k',e',q'⟩:=q3;cases e';exact ite_ff ⟨H3,I3,q'⟩
 | true =>
  refine ite_tt (test_last (bv (hc pins s3 σ H3 _ I3 q3) fun w' s4 ⟨z',H4,I4,r4,q4⟩=>bv (ho' pins s4 σ H4 y z' u w' _ I4 r2 r4 q4) fun d' s5 ⟨z2,H5,I5,r5,k2,e2,q5⟩=>?_));subst e2;cases r5;exact yk ⟨H5,I5,q5⟩
def uC (K:PySem.W.Frag)(x:V)(H:Hp)(k:Bool):Prop :=
 match x with
 | .non=>k=false
 | .bl b=>k=b
 | .int i=>k=(i != 0)
 | .str y=>y.length<=sizeLine/\k=((y.length:Int) != 0)
 | .byt y=>y.size<=sizeLine/\k=((y.size:Int) != 0)
 | .ref p=>(∃ xs,bd K H p xs/\k = !xs.isEmpty)\/(∃ xs,aW K H p xs/\k = !xs.isEmpty)\/∃ kvs,H p=some (.dK kvs)/\k = !kvs.isEmpty
 | _=>False
theorem mX {κ:Type}{kvs:List (κ×V)}{vs:List (κ×Value)}(r:KV kvs vs):(!vs.isEmpty) = !kvs.isEmpty:=by
 cases r<;>rfl
theorem jj {xs:List V}{its:List Value}(r:aH xs its):(!its.toArray.isEmpty) = !xs.isEmpty:=by
 cases r<;>simp
theorem g8:(sizeLine:Nat)<2 ^ 63:=by rw[xY];decide
theorem tZ:vR X (fun x H Q=>∃ k,uC X.K x H k/\Q k H):=by
 intro pins s σ H x v Q I rx h;obtain⟨k,e,q⟩:=h;have hl:=g8;have hs:sizeLine=16777216:=xY
 cases x with
 | non =>
  cases rx;have e':k=false:=e;subst e';exact truthy_none ⟨H,I,q⟩
 | bl b =>
  cases rx;have e':k=b:=e;subst e';exact yk ⟨H,I,q⟩
 | int i =>
  obtain⟨t,rfl⟩:=rx;have e':k=(i != 0):=e;subst e';exact PySem.P.truthy_int ⟨H,I,q⟩
 | str y =>
  obtain⟨t,rfl⟩:=rx;obtain⟨hy,e'⟩:y.length<=sizeLine/\k=((y.length:Int) != 0):=e;subst e';exact PySem.P.truthy_str (by omega) ⟨H,I.tok _,q⟩
 | byt y =>
  obtain⟨t,rfl⟩:=rx;obtain⟨hy,e'⟩:y.size<=sizeLine/\k=((y.size:Int) != 0):=e;subst e';exact PySem.W.truthy_bytes (by omega) ⟨H,I.tok _,q⟩
 | ref p =>
  cases rx;have e':(∃ xs,bd X.K H p xs/\k = !xs.isEmpty)\/(∃ xs,aW X.K H p xs/\k = !xs.isEmpty)\/∃ kvs,H p=some (.dK kvs)/\k = !kvs.isEmpty:=e;rcases e' with ⟨xs,hx,e'⟩ | ⟨xs,hx,e'⟩ | ⟨kvs,hx,e'⟩
  ·subst e'
   obtain⟨its,r,pl,hz⟩:=I.list hx;have hlen:=r.length;exact wpAny_truthy_list pl.isList (by simp only[xy];omega) ⟨H,I.tok _,by rw[jj r];exact q⟩
  ·subst e'
   obtain⟨its,r,pl,hz⟩:=I.tuple hx;have hlen:=r.length;exact truthy_tuple pl (by simp only[xy];omega) ⟨H,I.tok _,by rw[jj r];exact q⟩
  ·subst e'
   obtain⟨hz,hS,vs,r,m⟩:kvs.length<=sizeLine/\(p == sysModules)=false/\∃ vs,KV kvs vs/\s.heap.DictOf (e7 X.prog X.w) p vs:=I.hok p _ hx;have hlen:kvs.length=vs.length:=xN r;exact wpAny_truthy_dict hS m (by omega) ⟨H,I.tok _,by rw[mX r];exact q⟩
 | _=>exact (show False from e).elim
theorem mw (ha:PE X a ta)(he:∀ whole,isTrue a X.env whole=(do let v <-whole;standAt a.pos;holding [v] (truthy v))) :
  PT X a (fun σ H Q=>ta σ H fun x H'=>∃ k,uC X.K x H' k/\Q k H'):=by
 intro pins s σ H Q I h;exact isTrue_plain (bv (ha pins s σ H _ I h) fun v s1 ⟨x,H1,I1,r1,q1⟩=>tZ pins s1 σ H1 x v Q I1 r1 q1) (he _)
theorem aX:fJ X (binaryOp .Add) (fun x y H Q=>∃ i j,x=.str i/\y=.str j/\i.length+j.length<=sizeLine/\Q (.str (i++j)) H):=by
 intro pins s σ H x y v u Q I rx ry h;obtain⟨i,j,rfl,rfl,hz,q⟩:=h;obtain⟨t,rfl⟩:=rx;obtain⟨t',rfl⟩:=ry;exact add_str (fun t' tk=>⟨.str (i++j),H,I.tok _,⟨_,rfl⟩,q⟩) hz
theorem eA {x:V}{us:List Value}(r:aH [x] us):∃ u,us=[u]/\aQ x u:=by
 cases r with
 | cons r1 r2=>cases r2;exact⟨_,rfl,r1⟩
theorem vt {x y:V}{us:List Value}(r:aH [x,y] us):∃ u w',us=[u,w']/\aQ x u/\aQ y w':=by
 cases r with
 | cons r1 r2 =>
  cases r2 with
  | cons r3 r4=>cases r4;exact⟨_,_,rfl,r1,r3⟩
theorem ka (hc:X.calm=true):dG X (.builtin "min") (fun xs H Q=>∃ i j,xs=[.int i,.int j]/\Q (.int (if j<i then j else i)) H):=by
 intro pins s σ H xs us Q I r h;obtain⟨i,j,rfl,q⟩:=h;obtain⟨u,w',rfl,⟨t,rfl⟩,⟨t',rfl⟩⟩:=vt r;refine min_two_ints (I.ok.hd hc) fun h' tk k=>⟨_,H,I.kept k,?_,q⟩
 by_cases hj:j<i
 ·rw[xA hj,xA hj];exact⟨_,rfl⟩
 ·rw[xx hj,xx hj];exact⟨_,rfl⟩
end
structure sG (h:Heap)(x dx C:Addr)(mA:Str->Option Value):Prop where
 obj:h.get? x=some (PySem.W.instObj C dx)
 ns:h.Ns1 dx mA
 ne:dx≠x
theorem oI {h:Heap}{dx:Addr}{mA:Str->Option Value}(n:h.Ns1 dx mA):∃ od,h.get? dx=some od/\∀ name,PySem.W.lookIn name od=some (mA name):=by
 obtain⟨o,es,ep,ho,hd,hk,_,hm⟩:=n;refine⟨o,ho,fun name=>?_⟩;have e:=hm name;unfold nsFind findBy at e;rw[<-Array.find?_toList]at e;unfold PySem.W.lookIn;rw[hd];dsimp only;split
 ·rename_i y q
  rw[q]at e;exact yn some e
 ·rename_i q
  rw[q]at e
  have a:es.toList.any (·.refKey)=false:=by
   rw[List.any_eq_false];intro y hy;obtain⟨z,t,hkey⟩:=hk y (Array.mem_toList_iff.mp hy);simp[DictEntry.refKey,hkey]
  have a':¬ es.toList.any (·.refKey)=true:=by rw[a];exact xu
  rw[xx a'];exact yn some e
theorem sG.look {h:Heap}{x dx C:Addr}{mA:Str->Option Value}(I:sG h x dx C mA):∃ od,PySem.W.InstAt h x (PySem.W.instObj C dx) C (some od)/\∀ name,PySem.W.lookIn name od=some (mA name) :=
 let ⟨od,ho,hl⟩:=oI I.ns
 ⟨od,⟨I.obj,rfl,rfl,ho⟩,hl⟩
section
variable {P:Program}{w:World}{H H':Hp}{h h':Heap}{a C dx:Addr}{fs fs':List (Str×V)}
theorem rh (hok:fT P w H h)(e:H a=some (.ins C dx fs)):∃ mA,sG h a dx C mA/\(∀ f,sI (fs.lookup f) (mA f))/\PySem.Within mA (fs.map (·.1))/\fs.length<=1000/\H dx=some (.own a):=by
 obtain⟨d,z,ne,ob,mA,n,r,q⟩:=(show bR P w H h a (.ins C dx fs) from hok a _ e);exact⟨mA,⟨ob,n,ne⟩,r,q,z,d⟩
end
structure vL (K:PySem.W.Frag)(C:Addr):Prop where
 pg:PySem.W.plainGet K C Str.empty=true
 hd:PySem.W.hasDictIn K C=true
 po:PySem.W.plainOver K C=true
 sa:PySem.W.findIn K (.ref C) "__setattr__" = some (some (.builtin "object.__setattr__"))
theorem vL.get {K:PySem.W.Frag}{C:Addr}(c:vL K C)(f:Str):PySem.W.plainGet K C f=true:=c.pg
section
variable {X:Cx}{pins:List (Addr×Obj)}{σ:St}{H:Hp}{s:Shared}{A:Around}{E:Value->Shared->Prop}{Q:Value->Shared->Prop}{c:Value}{b:Bool}
inductive fY (K:PySem.W.Frag) (H:Hp):V->Value->Prop where
 | non:fY K H .non (.type "NoneType")
 | bl (x:Bool):fY K H (.bl x) (.type "bool")
 | int (i:Int):fY K H (.int i) (.type "int")
 | str (x:Str):fY K H (.str x) (.type "str")
 | flt (x:UInt64):fY K H (.flt x) (.type "float")
 | lst {a:Addr} {xs:List V} (e:H a=some (.lst xs)):fY K H (.ref a) (.type "list")
 | frz {a:Addr} {o:Obj} {xs:List V} (e:H a=some (.frz o (.lst xs))):fY K H (.ref a) (.type "list")
 | tup {a:Addr} {xs:List V} (e:H a=some (.tup xs)):fY K H (.ref a) (.type "tuple")
 | dK {a:Addr} {kvs:List (kC×V)} (e:H a=some (.dK kvs)):fY K H (.ref a) (.type "dict")
 | dT {a:Addr} {kvs:List (List kC×V)} (e:H a=some (.dT kvs)):fY K H (.ref a) (.type "dict")
 | ins {a C dx:Addr} {fs:List (Str×V)} (e:H a=some (.ins C dx fs)) (cl:vL K C) (ha:PySem.W.findIn K (.ref C) "__class__" = some (some (.builtin "object.__class__")))
   (hn:PySem.W.specialIn K (.builtin "object.__class__") "__get__" = some (some (.builtin "getset_descriptor.__get__"))) (htk:PySem.W.takesIn K (.builtin "object.__class__")=some true)
   (hm:PySem.W.mroIn K C (.type "object")=some true):fY K H (.ref a) (.ref C)
theorem oC {x:V}{u t:Value}(I:ay X pins σ H s)(rx:aQ x u)(ty:fY X.K H x t)(e:PySem.W.kitOne X.K t c=some b)(h:∀ tk,Q (.bool b) { s with toks:=tk }) :
  wpAny (model X.prog X.w) A (call (.builtin "isinstance") [u,c]) Q E s:=by
 cases ty with
 | non=>cases (show u=Value.none from rx);exact yg PySem.W.kitx_none I.kIn True.intro e (fun z=>nomatch z) h
 | bl y=>cases (show u=Value.bool y from rx);exact yg PySem.W.kitx_bool I.kIn True.intro e (fun z=>nomatch z) h
 | int i=>obtain⟨t,q⟩:=(show ∃ t,u=Value.int i t from rx);cases q;exact yg PySem.W.kitx_int I.kIn True.intro e (fun z=>nomatch z) h
 | str y=>obtain⟨t,q⟩:=(show ∃ t,u=Value.str y t from rx);cases q;exact yg PySem.W.kitx_str I.kIn True.intro e (fun z=>nomatch z) h
 | flt y=>obtain⟨t,q⟩:=(show ∃ t,u=Value.float y t from rx);cases q;exact yg PySem.W.kitx_float I.kIn True.intro e (fun z=>nomatch z) h
 | @lst a xs ea =>
  cases (show u=Value.ref a from rx);obtain⟨_,_,n,_,h1⟩:=(show bR X.prog X.w H s.heap a (.lst xs) from I.hok a _ ea);exact yg PySem.W.kitx_list I.kIn ⟨_,h1,rfl⟩ e (fun z=>nomatch z) h
 | @frz a ob xs ea =>
  cases (show u=Value.ref a from rx);obtain⟨_,_,_,n,_,h1⟩:=(show bR X.prog X.w H s.heap a (.frz ob (.lst xs)) from I.hok a _ ea);exact yg PySem.W.kitx_list I.kIn ⟨_,h1,rfl⟩ e (fun z=>nomatch z) h
 | @tup a xs ea =>
  cases (show u=Value.ref a from rx);obtain⟨_,_,_,p⟩:=(show bR X.prog X.w H s.heap a (.tup xs) from I.hok a _ ea);obtain⟨o,h1,h2,_⟩:=p;exact yg PySem.W.kitx_tuple I.kIn ⟨o,h1,h2⟩ e (fun z=>nomatch z) h
 | @dK a kvs ea =>
  cases (show u=Value.ref a from rx);obtain⟨_,_,vs,_,p⟩:=(show bR X.prog X.w H s.heap a (.dK kvs) from I.hok a _ ea);obtain⟨o,es,ep,h1,h2,_⟩:=p;exact yg PySem.W.kitx_dict I.kIn ⟨o,h1,h2.1⟩ e (fun z=>nomatch z) h
 | @dT a kvs ea =>
  cases (show u=Value.ref a from rx);obtain⟨_,_,xs,_,o,es,ep,h1,h2,_⟩:=(show bR X.prog X.w H s.heap a (.dT kvs) from I.hok a _ ea);exact yg PySem.W.kitx_dict I.kIn ⟨o,h1,h2.1⟩ e (fun z=>nomatch z) h
 | @ins a C dx fs ea cl ha hn htk hm =>
  cases (show u=Value.ref a from rx);obtain⟨mA,O,_⟩:=rh I.hok ea;obtain⟨od,J,_⟩:=O.look;exact yg (PySem.W.kitx_own (cl.get _) cl.hd ha hn htk hm) I.kIn J e (fun z=>nomatch z) h
end
structure b8 (k:Nat)(A:Around):Prop where
 hd:A.handled=none
 dp:A.depth+3*k+5<recursionLimit
 un:A.units+16*k+200<cLine
theorem b8.mono {j k:Nat}{A:Around}(r:b8 k A)(h:j<=k):b8 j A:=⟨r.hd,by have:=r.dp;omega,by have:=r.un;omega⟩
theorem b8.deeper {k:Nat}{A:Around}(r:b8 (k+1) A)(env:Env):b8 k (A.deeper env) :=
 ⟨r.hd,by have:=r.dp;show A.depth+1+3*k+5<_;omega,by have:=r.un;show A.units+3+16*k+200<_;omega⟩
theorem b8.depth {k:Nat}{A:Around}(r:b8 k A):A.depth<recursionLimit:=by have:=r.dp;omega
theorem b8.units {k:Nat}{A:Around}(r:b8 k A):A.units+64<cLine:=by have:=r.un;omega
def nu:TA:=fun _ H Q=>Q [] H
def eV (ta:TE)(tr:TA):TA:=fun σ H Q=>ta σ H fun x H1=>tr σ H1 fun xs H2=>Q (x::xs) H2
section
variable {X:Cx}{e:Expr}{es:List Expr}{te:TE}{t:TA}{pos:Pos}
theorem bW:PA X [] nu:=fun _ _ _ _ H Q I h=>Calls.spliced_nil ⟨[],H,I,.nil,h⟩
theorem bp (ha:PE X e te)(hr:PA X es t)(hs:starEach (e::es) X.env=(false,eval e X.env)::starEach es X.env:=by rfl):PA X (e::es) (eV te t):=by
 intro pos pins s σ H Q I h;rw[hs]
 show wpAny _ _ (spliced ((false,eval e X.env)::backTo pos (starEach es X.env))) _ _ s
 refine yP (bv (ha pins s σ H _ I h) fun u s1 ⟨x,H1,I1,r1,q1⟩=>?_);exact bv (hr pos pins s1 σ H1 _ I1 q1) fun us s2 ⟨xs,H2,I2,r2,q2⟩=>⟨x::xs,H2,I2,.cons r1 r2,q2⟩
def vq (t:TA):TE:=fun σ H Q=>t σ H fun xs H1=>xs.length<=sizeLine/\∀ p,H1 p=none->Q (.ref p) (aY H1 p (.tup xs))
def wy (t:TA):TE:=fun σ H Q=>t σ H fun xs H1=>xs.length<=sizeLine/\∀ p,H1 p=none->Q (.ref p) (aY H1 p (.lst xs))
theorem aK {x1}(h:PA X es t):PE X (.Tuple es x1 pos) (vq t):=by
 intro pins s σ H Q I hq;refine wpAny_Tuple_spliced (bv (h pos pins s σ H _ I hq) fun us s1 ⟨xs,H1,I1,r,z,q⟩=>⟨by rw[<-r.length];exact z,?_⟩);have hf:H1 s1.heap.objs.size=none:=I1.hok.fresh (xm _);refine⟨.ref s1.heap.objs.size,aY H1 s1.heap.objs.size (.tup xs),I1.laid (t':=s1.toks) (fun b u e=>Heap.get?_push_of_some _ e) (xm _) ?_,rfl,q _ hf⟩;exact⟨z,us,r,⟨_,Heap.get?_push_size _ rfl,rfl,_,rfl⟩⟩
theorem dB (h:PA X es t):PE X (.List es pos) (wy t):=by
 intro pins s σ H Q I hq;refine wpAny_List_spliced (bv (h pos pins s σ H _ I hq) fun us s1 ⟨xs,H1,I1,r,z,q⟩=>⟨by rw[<-r.length];exact z,?_⟩);have hf:H1 s1.heap.objs.size=none:=I1.hok.fresh (xm _);refine⟨.ref s1.heap.objs.size,aY H1 s1.heap.objs.size (.lst xs),I1.laid (t':=s1.toks) (fun b u e=>Heap.get?_push_of_some _ e) (xm _) ?_,rfl,q _ hf⟩;exact⟨z,us,0,r,Heap.get?_push_size _ rfl⟩
end
abbrev Sp:=List V->Hp->VK->XK->Prop
abbrev j4:=List Env->Hp->Shared->XK->Value->Shared->Prop
structure og (P:Program)(w:World)(K:PySem.W.Frag)(mg:Str->Option Value)(base:Heap)(A:Around)(outer:List Env)(s:Shared)(H:Hp):Prop where
 frames:A.frames=some outer
 mod:Mod K mg base
 bs:∀ b o,base.get? b=some o->s.heap.get? b=some o/\H b=none
 bsz:base.objs.size<=s.heap.objs.size
 funs:s.heap.FunFrames base outer
 frf:∀ b∈dj outer,H b=none
 hok:fT P w H s.heap
 bare:AllBare s.gens
def CE (outer:List Env)(P:Program)(w:World)(H:Hp)(s:Shared)(Q:VK)(u:Value)(s':Shared):Prop :=
 ∃ v H',s'.os=s.os/\AllBare s'.gens/\Un (dj outer) [] H H' s.heap s'.heap/\fT P w H' s'.heap/\aQ v u/\Q v H'
def CR (CX:j4)(outer:List Env)(P:Program)(w:World)(H:Hp)(s:Shared)(Q:VK)(E:XK)(r:Result)(s':Shared):Prop :=
 match r with
 | .ok (.ret u)=>CE outer P w H s Q u s'
 | .ok _=>False
 | .error e=>CX outer H s E e s'
structure a7 (P:Program)(w:World)(K:PySem.W.Frag)(mg:Str->Option Value)(base:Heap)(CX:j4)(k:Nat)(f:Addr)(fd:FuncData)(ps:List Str)(sp:Sp):Prop where
 len:∀ vs H Q E,sp vs H Q E->vs.length=ps.length
 run:∀ (A:Around)(outer:List Env)(s:Shared)(H:Hp)(args:Args)(us:List Value)(vs:List V)(Q:VK)(E:XK),b8 k A->og P w K mg base A outer s H->BindsTo s fd args (ps.zip us)->aH vs us->sp vs H Q E ->
  codeAny (model P w) A (.call (.ref f) args) (CR CX outer P w H s Q E) s
section
variable {X:Cx}{pins:List (Addr×Obj)}{σ:St}{H:Hp}{s s':Shared}
theorem ay.env0 (I:ay X pins σ H s):og X.prog X.w X.K X.mg X.base X.A X.stack s H :=
 ⟨I.ok.frames,I.ok.mod,I.bs,xZ I.ok.bsz I.sz,I.stack,I.stkFree,I.hok,I.bare⟩
theorem ay.after {Q:VK}{u:Value}(I:ay X pins σ H s)(h:CE X.stack X.prog X.w H s Q u s'):EP X pins σ Q u s':=by
 obtain⟨v,H',os,bare,un,hok,r,q⟩:=h;obtain⟨hh,g,d,t,os'⟩:=s';obtain rfl:os'=s.os:=os;exact⟨v,H',I.call (h':=hh) (g':=g) (d':=d) (t':=t) (ch:=[]) un hok bare (fun b z=>absurd z (by simp)),r,q⟩
end
def qw (sp:Sp)(dvs:List V)(E:XK)(t:TA):TE:=fun σ H Q=>t σ H fun vs H1=>sp (vs++dvs) H1 Q E
def fi (K:PySem.W.Frag)(fd:FuncData)(ps:List Str)(ds:List Value):Prop :=
 ∀ (s:Shared)(us:List Value),K.In s.heap->(us++ds).length=ps.length->BindsTo s fd ⟨us,[]⟩ (ps.zip (us++ds))
theorem fi.all {K:PySem.W.Frag}{fd:FuncData}{ps:List Str}(h:∀ us:List Value,us.length=ps.length->bindArgs fd ⟨us,[]⟩=pure (ps.zip us)):fi K fd ps []:=fun s us _ hl=>by
 rw[yH]at hl ⊢;exact .of_eq (h us hl)
def eI (CX:j4)(X:Cx)(E:XK):Prop:=∀ (pins:List (Addr×Obj))(σ:St)(H:Hp)(s:Shared)(e:Value)(s':Shared),ay X pins σ H s->CX X.stack H s E e s'->X.xe e s'
section
variable {X:Cx}{CX:j4}{k:Nat}{f C:Addr}{fd:FuncData}{ps:List Str}{sp:Sp}{dvs:List V}{ds:List Value}{E:XK}{x m:Str}{p pos apos:Pos}{e o:Expr}{es:List Expr}{ta:TE}{t:TA}
theorem tP {pins:List (Addr×Obj)}{σ:St}{H:Hp}{s:Shared}{Q:VK}{us:List Value}{vs:List V}(F:a7 X.prog X.w X.K X.mg X.base CX k f fd ps sp)(hr:b8 k X.A)(hb:fi X.K fd ps ds)(hd:aH dvs ds)(hx:eI CX X E)
  (I:ay X pins σ H s) (r:aH vs us) (h:sp (vs++dvs) H Q E):wpAny (model X.prog X.w) X.A (call (.ref f) us) (EP X pins σ Q) X.xe s:=by
 have r2:aH (vs++dvs) (us++ds):=r.append hd
 have hl:(us++ds).length=ps.length:=by rw[<-r2.length];exact F.len _ _ _ _ h
 refine wpAny_call (yL (F.run X.A X.stack s H ⟨us,[]⟩ (us++ds) (vs++dvs) Q E hr I.env0 (hb s us I.kIn hl) r2 h) fun r s' hq=>?_)
 cases r with
 | error e=>exact hx pins σ H s e s' I hq
 | ok fl =>
  cases fl with
  | ret u=>exact I.after hq
  | next=>exact False.elim hq
  | brk=>exact False.elim hq
  | cont=>exact False.elim hq
theorem nO (F:a7 X.prog X.w X.K X.mg X.base CX k f fd ps sp)(hr:b8 k X.A)(hg:Gl X x)(hm:X.mg x=some (.ref f))(hk:PySem.W.keepIn X.K (.ref f)=true)(hb:fi X.K fd ps ds)(hd:aH dvs ds)(hx:eI CX X E)
  (ha:PA X (e::es) t) (hdb:(x == ("__debug__" : Str))=false:=by decide) (he:starEach (e::es) X.env=(false,eval e X.env)::starEach es X.env:=by rfl) (hpl:(backTo pos (starEach es X.env)).any (·.1)=false:=by rfl) :
  PE X (.Call (.Name x p) (e::es) [] pos) (qw sp dvs E t):=by
 intro pins s σ H Q I h;refine yy (eZ I hg hm ?_ hdb);refine PySem.W.callWith_K (h₀:=X.base) I.ok.mod.kin hk (bv (ha pos pins s σ H _ I h) fun us s1 ⟨vs,H1,I1,r,q⟩=>⟨I1.kIn,?_⟩) he hpl;exact tP F hr hb hd hx I1 r q
end
structure aF (N P:List Str)(sc:Scope):Prop where
 kind:sc.kind=.function
 co:sc.isCoroutine=false
 gen:sc.isGenerator=false
 nd:N.Nodup
 pre:N.take P.length=P
 par:∀ x∈P,sc.names.lookup x=some .local\/sc.names.lookup x=some .cell
 nofree:∀ y∈sc.names,y.2≠.free
theorem j9 {kindOf:Str->Option NameKind}{x:Str}:∀ {binds:List (Str×Value)}{m:Str->Option Value},(∀ v,(x,v)∉binds)->bindL kindOf binds m x=m x
 | [],_,_=>rfl
 | (n,v)::r,m,h=>by
  unfold bindL;rw[j9 fun w hw=>h w (xq _ hw)];split
  ·have:x≠n:=by rintro rfl;exact h v xp
   simp[this]
  ·rfl
theorem j7 {kindOf:Str->Option NameKind}{x:Str}:∀ {binds:List (Str×Value)}{m:Str->Option Value},(∀ v,(x,v)∉binds)->bindC kindOf binds m x=m x
 | [],_,_=>rfl
 | (n,v)::r,m,h=>by
  unfold bindC;rw[j7 fun w hw=>h w (xq _ hw)];split
  ·rfl
  ·have:x≠n:=by rintro rfl;exact h v xp
   simp[this]
theorem j8 {kindOf:Str->Option NameKind}{x:Str}{v:Value}:∀ {P:List Str}{vs:List Value}{i:Nat}{m:Str->Option Value},P.Nodup->P[i]? = some x->vs[i]? = some v->kindOf x=some .local ->
  bindL kindOf (P.zip vs) m x=some v
 | [],_,_,_,_,h,_,_=>by simp at h
 | _::_,[],_,_,_,_,h,_=>by simp at h
 | p::P,w::vs,0,m,nd,h1,h2,hk=>by
  simp at h1 h2;subst h1;subst h2
  show bindL kindOf ((p,w)::P.zip vs) m p=_
  unfold bindL;rw[j9 fun v hv=>(yQ.mp nd).1 (List.of_mem_zip hv).1,xA hk];simp
 | p::P,w::vs,i+1,m,nd,h1,h2,hk=>by
  show bindL kindOf ((p,w)::P.zip vs) m x=_
  unfold bindL;exact j8 (i:=i) (yQ.mp nd).2 (by simpa using h1) (by simpa using h2) hk
theorem j6 {kindOf:Str->Option NameKind}{x:Str}{v:Value}:∀ {P:List Str}{vs:List Value}{i:Nat}{m:Str->Option Value},P.Nodup->P[i]? = some x->vs[i]? = some v->kindOf x≠some .local ->
  bindC kindOf (P.zip vs) m x=some v
 | [],_,_,_,_,h,_,_=>by simp at h
 | _::_,[],_,_,_,_,h,_=>by simp at h
 | p::P,w::vs,0,m,nd,h1,h2,hk=>by
  simp at h1 h2;subst h1;subst h2
  show bindC kindOf ((p,w)::P.zip vs) m p=_
  unfold bindC;rw[j7 fun v hv=>(yQ.mp nd).1 (List.of_mem_zip hv).1,xx hk];simp
 | p::P,w::vs,i+1,m,nd,h1,h2,hk=>by
  show bindC kindOf ((p,w)::P.zip vs) m x=_
  unfold bindC;exact j6 (i:=i) (yQ.mp nd).2 (by simpa using h1) (by simpa using h2) hk
def fE (N:List Str)(vs:List V):St:=vs.map some++List.replicate (N.length-vs.length) none
def iO (CX:j4)(P:Program)(w:World)(K:PySem.W.Frag)(mg:Str->Option Value)(base:Heap)(N:List Str)(qual:Str)(scope:Scope)(f:Addr)(cd:Value)(A:Around)(outer:List Env)(s:Shared)(H:Hp)(E:XK):Cx where
 prog:=P
 w:=w
 K:=K
 mg:=mg
 base:=base
 A:=A.deeper (envOfC qual scope s.heap.objs.size f cd)
 N:=N
 s₀:=s
 H₀:=H
 env:=envOfC qual scope s.heap.objs.size f cd
 outer:=outer
 stack:=envOfC qual scope s.heap.objs.size f cd::outer
 ex:=[]
 calm:=true
 fn:=fun _=>true
 pn:=[]
 xe:=fun e s'=>wpAny (model P w) (A.deeper (envOfC qual scope s.heap.objs.size f cd)) (leaving (envOfC qual scope s.heap.objs.size f cd) e) (fun _ s''=>CX outer H s E e s'') (fun e' s''=>CX outer H s E e' s'') s'
theorem lS {sc:Scope}{n:Nat}{x:Str}(h:sc.names.lookup x=some .cell):∃ c,(cellsFrom n sc.names []).lookup x=some c:=by
 have q:=PySem.W.cellsFrom_some sc.names n [] (.inl h);exact Option.isSome_iff_exists.mp q
theorem oB {CX:j4}{P:Program}{w:World}{K:PySem.W.Frag}{mg:Str->Option Value}{base:Heap}{N ps:List Str}{qual:Str}{scope:Scope}{f:Addr}{cd:Value}{A:Around}{outer:List Env}{s s1:Shared}{H:Hp}{E:XK}{us:List Value}{vs:List V}
  (S:aF N ps scope) (hd:A.handled=none) (e0:og P w K mg base A outer s H) (hl:vs.length=ps.length) (r:aH vs us)
  (x:InCallC s s.heap.objs.size (bindL (envOfC qual scope s.heap.objs.size f cd).kindOf (ps.zip us) fun _=>none) (cellsFrom (s.heap.objs.size+1) scope.names []) (bindC (envOfC qual scope s.heap.objs.size f cd).kindOf (ps.zip us) fun _=>none) s1) :
  ay (iO CX P w K mg base N qual scope f cd A outer s H E) [] (fE N vs) H s1:=by
 have hpl:ps.length<=N.length:=by have:=yn List.length S.pre;rw[xS]at this;omega
 obtain⟨h1,tk,rfl,hk⟩:=x.done;have noA:∀ b:Addr,b∉(iO CX P w K mg base N qual scope f cd A outer s H E).ex:=fun b z=>absurd (show b∈([]:List Addr) from z) (by simp)
 refine⟨⟨e0.mod,S.kind,rfl,rfl,xm _,fun y z c h1 h2=>?_,fun y hy=>?_,fun y c _ h=>?_,fun _=>hd,Around.frames_deeper e0.frames,.inr ⟨rfl,rfl⟩,fun b z=>absurd z (noA b),e0.bs,e0.bsz,fun b _ _=>noA b,fun b z=>absurd z (noA b),e0.funs,e0.frf⟩,
  rfl,e0.bare,Un.kept hk,⟨_,x.toInCall.ns,fun i y v h1 h2 h3=>?_⟩,fun y c h=>⟨_,x.cell y c h⟩,e0.hok.fresh (xm _),fun y c h=>?_,fun p hp=>absurd (show p∈([]:List (Addr×Obj)) from hp) (by simp),e0.hok.kept hk,?_⟩
 ·exact name_of_addr x.apart (yo h1) (yo h2)
 ·have hy:scope.names.lookup y=some .cell\/scope.names.lookup y=some .free:=hy
  rcases hy with hy | hy
  ·exact lS hy
  ·exact absurd rfl (S.nofree _ (yo hy))
 ·exact Nat.le_of_lt (x.above y c (yo h))
 ·have hi:i<vs.length:=by
   unfold fE at h2
   by_cases hi:i<vs.length
   ·exact hi
   ·rw[List.getElem?_append_right (by simpa using hi)]at h2
    rw[List.getElem?_replicate]at h2;split at h2<;>cases h2
  have ha:vs[i]? = some v:=by
   unfold fE at h2;rw[List.getElem?_append_left (by simpa using hi),List.getElem?_map]at h2
   cases e:vs[i]? with
   | none=>rw[e]at h2;cases h2
   | some a=>rw[e]at h2;cases h2;rfl
  obtain⟨u,hu,rv⟩:=r.get ha
  have hp:ps[i]? = some y:=by
   rw[<-S.pre,List.getElem?_take_of_lt (by omega)];exact h1
  have ndP:ps.Nodup:=by rw[<-S.pre];exact S.nd.sublist (List.take_sublist _ _)
  refine⟨u,rv,?_⟩;rcases S.par y (xO hp) with k | k
  ·exact .inl ⟨k,j8 ndP hp hu k⟩
  ·obtain⟨c,e⟩:=lS (n:=s.heap.objs.size+1) k
   refine .inr ⟨.inl k,c,e,?_⟩;have q:=x.cell y c e;rw[j6 ndP hp hu (by show scope.names.lookup y≠_;rw[k];decide)]at q;exact q
 ·exact e0.hok.fresh (Nat.le_of_lt (x.above y c (yo h)))
 ·unfold fE
  show _=N.length
  rw[xv,xk,yI];omega
theorem pF {CX:j4}{P:Program}{w:World}{K:PySem.W.Frag}{mg:Str->Option Value}{base:Heap}{k:Nat}{f:Addr}{name qual:Str}{params:Arguments}{body:List Stmt}{scope:Scope}{dV kV doc pm cdv ct oc:Value}{an od:Option Addr}
  {osl:Array (Option Value)} {N ps:List Str} {sp:Sp} (lk:K.lookup f=some ⟨oc,od,.func (PySem.W.fnOf name qual params body scope dV kV doc pm an cdv ct),osl⟩) (hcd:PySem.W.codeIn K cdv qual=true) (S:aF N ps scope)
  (len:∀ vs H Q E,sp vs H Q E->vs.length=ps.length)
  (hbody:∀ (A:Around)(outer:List Env)(s:Shared)(H:Hp)(vs:List V)(Q:VK)(E:XK),b8 k (A.deeper (envOfC qual scope s.heap.objs.size f cdv))->sp vs H Q E ->
   ∃ t,mO (iO CX P w K mg base N qual scope f cdv A outer s H E) body t/\t { nx:=fun _ H'=>Q .non H',rt:=Q } (fE N vs) H) :
  a7 P w K mg base CX (k+1) f (PySem.W.fnOf name qual params body scope dV kV doc pm an cdv ct) ps sp:=by
 refine⟨len,fun A outer s H args us vs Q E hr e0 hb r hsp=>?_⟩;have hl:=len _ _ _ _ hsp;have KX:K.In s.heap:=e0.mod.kin.keeps fun b o e=>(e0.bs b o e).1;have lim:s.heap.NoLimit:=e0.mod.nolimit.keeps fun b o e=>(e0.bs b o e).1
 have hkind:∀ y∈ps.zip us,scope.names.lookup y.1=some .local\/(scope.names.lookup y.1=some .cell/\((cellsFrom (s.heap.objs.size+1) scope.names []).lookup y.1).isSome=true):=fun ⟨n,v⟩ hy=>by
  rcases S.par n (List.of_mem_zip hy).1 with q | q
  ·exact .inl q
  ·exact .inr ⟨q,PySem.W.cellsFrom_some _ _ _ (.inl q)⟩
 refine codeAny_call_function hr.depth (KX _ _ lk) rfl S.co S.gen rfl (PySem.W.codeRec_of KX hcd) (hb _ _ _ _ ?_);refine wpAny_newFunctionEnv_cells S.kind hkind fun env he s1 x=>?_;subst he;refine⟨lim.keeps x.toInCall.keep,codeAny_func ?_⟩;obtain⟨t,ht,hq⟩:=hbody A outer s H vs Q E (hr.deeper _) hsp;have I:ay (iO CX P w K mg base N qual scope f cdv A outer s H E) [] (fE N vs) H s1:=oB S hr.hd e0 hl r x;refine yj (ht [] s1 (fE N vs) H _ I hq) (fun fl s' hs=>?_) fun e s' hs=>hs
 have fin:∀ {σ':St}{H':Hp}{v:V}{u:Value},ay (iO CX P w K mg base N qual scope f cdv A outer s H E) [] σ' H' s'->aQ v u->Q v H'->CE outer P w H s Q u s' :=
  fun {σ' H' v u} J rv q=>⟨v,H',J.os,J.bare,J.base,J.hok,rv,q⟩
 cases fl with
 | ret u =>
  obtain⟨v,σ',H',J,rv,q⟩:=hs;exact fin J rv q
 | next =>
  obtain⟨σ',H',J,q⟩:=hs;exact fin (v:=V.non) (u:=Value.none) J rfl q
 | brk =>
  obtain⟨_,_,_,q⟩:=hs;exact False.elim q
 | cont =>
  obtain⟨_,_,_,q⟩:=hs;exact False.elim q
section
variable {X:Cx}{x:Str}{p pos:Pos}{e:Expr}{es:List Expr}{t:TA}{id T:String}{r:List V->Hp->VK->Prop}
def wR (r:List V->Hp->VK->Prop)(t:TA):TE:=fun σ H Q=>t σ H fun vs H1=>r vs H1 Q
theorem aR (hc:dG X (.builtin id) r)(hg:Gl X x)(hm:X.mg x=none)(hv:bootBuiltins x=some (.builtin id))(ha:PA X (e::es) t)(hn:x≠"__name__":=by decide)(hdb:(x == ("__debug__" : Str))=false:=by decide)
  (he:starEach (e::es) X.env=(false,eval e X.env)::starEach es X.env:=by rfl) (hpl:(backTo pos (starEach es X.env)).any (·.1)=false:=by rfl):PE X (.Call (.Name x p) (e::es) [] pos) (wR r t):=by
 intro pins s σ H Q I h;refine yy (gZ I hg hm hv ?_ hn hdb);exact PyProof.Rows.callWith_builtin1 (bv (ha pos pins s σ H _ I h) fun us s1 ⟨vs,H1,I1,r1,q1⟩=>hc pins s1 σ H1 vs us Q I1 r1 q1) he hpl
theorem a6 (hc:dG X (.type T) r)(hg:Gl X x)(hm:X.mg x=none)(hv:bootBuiltins x=some (.type T))(ha:PA X (e::es) t)(hn:x≠"__name__":=by decide)(hdb:(x == ("__debug__" : Str))=false:=by decide)
  (he:starEach (e::es) X.env=(false,eval e X.env)::starEach es X.env:=by rfl) (hpl:(backTo pos (starEach es X.env)).any (·.1)=false:=by rfl):PE X (.Call (.Name x p) (e::es) [] pos) (wR r t):=by
 intro pins s σ H Q I h;refine yy (gZ I hg hm hv ?_ hn hdb);exact PyProof.Rows.callWith_type1 (bv (ha pos pins s σ H _ I h) fun us s1 ⟨vs,H1,I1,r1,q1⟩=>hc pins s1 σ H1 vs us Q I1 r1 q1) he hpl
end
end L2
namespace HT
open PySem PyProof.Rows
section
variable {prog:Program}{w:World}{A:Around}{E:Value->Shared->Prop}{s:Shared}
def sIx (n d:Nat):Option Int->Nat
 | none=>d
 | some v=>if v<0 then (v+(n:Int)).toNat else min v.toNat n
theorem sIx_none (n d:Nat):sIx n d none=d:=rfl
theorem sIx_nat (n d k:Nat):sIx n d (some (k:Int))=min k n:=by
 show (if (k:Int)<0 then ((k:Int)+(n:Int)).toNat else min (k:Int).toNat n)=min k n
 rw[xx (by omega),yR]
theorem sIx_le (n d:Nat)(hd:d<=n)(o:Option Int):sIx n d o<=n:=by
 cases o with
 | none=>exact hd
 | some v =>
  show (if v<0 then (v+(n:Int)).toNat else min v.toNat n)<=n
  by_cases hv:v<0
  ·rw[xA hv];omega
  ·rw[xx hv];exact Nat.min_le_right _ _
theorem nD (v:Int)(n d:Nat):(if v<0 then max (v+(n:Int)) 0 else min v (n:Int))=((sIx n d (some v):Nat):Int):=by
 show (if v<0 then max (v+(n:Int)) 0 else min v (n:Int))=(((if v<0 then (v+(n:Int)).toNat else min v.toNat n):Nat):Int)
 by_cases hv:v<0
 ·simp only[xA hv];omega
 ·simp only[xx hv];omega
theorem mQ (lo hi:Option Int)(n:Nat):Builtin.Slice.sliceAdjust lo hi 1 (n:Int)=(((sIx n 0 lo:Nat):Int),((sIx n n hi:Nat):Int)):=by
 have h1:¬ ((1:Int)<0):=by omega
 unfold Builtin.Slice.sliceAdjust;simp only[h1,if_false];refine Prod.ext ?_ ?_
 ·cases lo with
  | none=>rfl
  | some v=>exact nD v n 0
 ·cases hi with
  | none=>rfl
  | some v=>exact nD v n n
theorem ni (i j:Nat):Builtin.Slice.slicePlaces (i:Int) (j:Int) 1=j-i:=by
 unfold Builtin.Slice.slicePlaces
 have h1:(1:Int)>0:=by omega
 simp only[h1,yU,Int.ediv_one];split<;>omega
theorem jL {v:Value}{o:Option Int}{Q:Option Int->Shared->Prop}(p:IsPart v o)(h:Q o s):wpAny (model prog w) A (Builtin.Slice.slicePartIndex v) Q E s:=by
 cases p with
 | none=>exact slicePart_none h
 | int i t=>exact slicePart_int h
theorem ik {sl:Addr}{vl vu:Value}{lo hi:Option Int}{n:Nat}{Q:Int×Int×Nat->Shared->Prop}(hs:s.heap.IsSliceOf sl vl vu .none)(pl:IsPart vl lo)(pu:IsPart vu hi)
  (h:Q (((sIx n 0 lo:Nat):Int),1,sIx n n hi-sIx n 0 lo) s):wpAny (model prog w) A (Builtin.Slice.sliceApplied (.ref sl) (pure (n:Int))) Q E s:=by
 obtain⟨os,hos,hcs,hds⟩:=id hs;unfold Builtin.Slice.sliceApplied Builtin.Slice.sliceFields;refine xr (xr (yW hos hds (x:=vl) rfl (xr (yW hos hds (x:=vu) rfl (xr (yW hos hds (x:=.none) rfl (xH ?_)))))));refine xr (slicePart_none ?_)
 show wpAny _ _ (if ((1:Int) == 0)=true then _ else _) _ _ s
 rw[xx (by decide)];refine xr (jL pl (xr (jL pu (xr (xH ?_)))))
 show wpAny _ _ (match Builtin.Slice.sliceAdjust lo hi 1 (n:Int) with | (lo,hi)=>pure (lo,(1:Int),Builtin.Slice.slicePlaces lo hi 1)) _ _ s
 rw[mQ lo hi n]
 show wpAny _ _ (pure (((sIx n 0 lo:Nat):Int),(1:Int),Builtin.Slice.slicePlaces ((sIx n 0 lo:Nat):Int) ((sIx n n hi:Nat):Int) 1)) _ _ s
 rw[ni];exact xH h
theorem qa (xs:Array Value)(i k:Nat):((List.range k).filterMap fun (m:Nat)=>xs[((i:Int)+(m:Int)*1).toNat]?).toArray=((xs.toList.drop i).take k).toArray:=by
 have e:(fun (m:Nat)=>xs[((i:Int)+(m:Int)*1).toNat]?)=fun m=>xs[i+m]?:=by
  funext m
  have:((i:Int)+(m:Int)*1).toNat=i+m:=by omega
  rw[this]
 rw[e];have:=pick_run xs i k;rw[List.filterMap_map]at this;have e2:((fun x=>xs[x]?) ∘ fun x=>i+x)=fun m=>xs[i+m]?:=rfl;rw[e2]at this;rw[this]
theorem getItem_tuple_cut {t sl:Addr}{items:Array Value}{vl vu:Value}{lo hi:Option Int}{Q:Value->Shared->Prop}(ht:IsTup s.heap t items)(hs:s.heap.IsSliceOf sl vl vu .none)(pl:IsPart vl lo)(pu:IsPart vu hi)
  (hw:¬ (sIx items.size 0 lo=0/\sIx items.size items.size hi=items.size))
  (h:Q (.ref s.heap.objs.size) { s with heap:=s.heap.push { cls:=.type "tuple",data:=.seq ((items.toList.drop (sIx items.size 0 lo)).take (sIx items.size items.size hi-sIx items.size 0 lo)).toArray } })
  (hsz:items.size<=sizeLine):wpAny (model prog w) A (getItem (.ref t) (.ref sl)) Q E s:=by
 have htake:sizeOk (.seq ((items.toList.drop (sIx items.size 0 lo)).take (sIx items.size items.size hi-sIx items.size 0 lo)).toArray):=by
  show ((items.toList.drop (sIx items.size 0 lo)).take (sIx items.size items.size hi-sIx items.size 0 lo)).toArray.size<=sizeLine
  rw[xy,xS,xI,xW];omega
 have hj:sIx items.size items.size hi<=items.size:=sIx_le _ _ (xm _) hi;obtain⟨os,hos,hcs,hds⟩:=id hs;have hTs:s.TypeIs (.ref sl) "slice":=⟨os,hos,hcs⟩;unfold getItem
 try with_reducible refine wpAny_holding ?_
 first | refine xr (xH ?_) | skip
 refine xr (wpAny_sequenceKey ht.typeIs (by decide) ?_)
 refine xr (wpAny_callSpecial?_slot (name:=Str.ofString "__getitem__") ht.typeIs PyProof.Rows.slot_tuple_getitem
  (wpAny_call_entry PyProof.Rows.slot_tuple_getitem ht.typeIs entry_tuple_getitem ?_ (args_tuple_getitem _ _)))
 show wpAny _ _ (Builtin.Tuple.tupleItemsOf (.ref t) >>= _) _ _ s
 refine xr (tupleItemsOf_ ht ?_);refine xr (wpAny_typeOf hTs ?_);rw[xA (by decide)];refine xr (ik hs pl pu ?_)
 have hno:¬ ((((sIx items.size 0 lo:Nat):Int) == 0&&(1:Int) == 1&&(sIx items.size items.size hi-sIx items.size 0 lo) == items.size)=true):=by
  intro q;rw[yc,yc]at q;have q1:((sIx items.size 0 lo:Nat):Int)=0:=eq_of_beq q.1.1;have q2:sIx items.size items.size hi-sIx items.size 0 lo=items.size:=eq_of_beq q.2;exact hw ⟨by omega,by omega⟩
 show wpAny _ _ (if (((sIx items.size 0 lo:Nat):Int) == 0&&(1:Int) == 1&&(sIx items.size items.size hi-sIx items.size 0 lo) == items.size)=true then _ else _) _ _ s
 rw[xx hno,qa]
 first
  | exact xr (m:=Builtin.Tuple.tupleExact _) (yz (xH ⟨_,rfl,xH h⟩) htake)
  | exact xr (m:=Builtin.Tuple.tupleExact _) (yz (xr (xH (xH ⟨_,rfl,xH h⟩))) htake)
  | exact xr (xr (m:=Builtin.Tuple.tupleExact _) (yz (xH (xH ⟨_,rfl,xH h⟩)) htake))
  | exact xr (xr (m:=Builtin.Tuple.tupleExact _) (yz (xH ⟨_,rfl,xH h⟩) htake))
end
end HT
namespace L2
open PySem PySem.Spec PyProof.Rows
abbrev TO:=St->Hp->(Option Int->Hp->Prop)->Prop
def PO (X:Cx)(e:Option Expr)(t:TO):Prop :=
 ∀ (pins:List (Addr×Obj))(s:Shared)(σ:St)(H:Hp)(Q:Option Int->Hp->Prop),ay X pins σ H s->t σ H Q ->
  wpAny (model X.prog X.w) X.A (evalPart e X.env) (fun u s'=>∃ o H',ay X pins σ H' s'/\IsPart u o/\Q o H') X.xe s
def rN:TO:=fun _ H Q=>Q none H
def qy (t:TE):TO:=fun σ H Q=>t σ H fun x H1=>∃ i,x=.int i/\Q (some i) H1
section
variable {X:Cx}{e:Expr}{te:TE}{lo hi:Option Expr}{tl th:TO}{pos p2:Pos}
theorem lB:PO X none rN:=by
 intro pins s σ H Q I h;rw[evalPart_none];exact xH ⟨none,H,I,.none,h⟩
theorem cw (h:PE X e te):PO X (some e) (qy te):=by
 intro pins s σ H Q I hw;rw[evalPart_some];refine bv (h pins s σ H _ I hw) fun u s1 ⟨x,H1,I1,r1,q1⟩=>?_;obtain⟨i,rfl,q⟩:=q1;obtain⟨t,rfl⟩:=r1;exact⟨some i,H1,I1,.int i t,q⟩
def vC (X:Cx)(r:V->Option Int->Option Int->Hp->VK->Prop):Prop :=
 ∀ (pins:List (Addr×Obj))(s:Shared)(σ:St)(H:Hp)(x:V)(v vl vu:Value)(lo hi:Option Int)(sl:Addr)(Q:VK),ay X pins σ H s->aQ x v->s.heap.IsSliceOf sl vl vu .none->IsPart vl lo->IsPart vu hi->r x lo hi H Q ->
  ∃ T id,typeLookup (.type T) "__getitem__" = pure (some (.builtin id))/\s.TypeIs v T/\wpAny (model X.prog X.w) X.A (getItem v (.ref sl)) (EP X pins σ Q) X.xe s
def wS (r:V->Option Int->Option Int->Hp->VK->Prop)(te:TE)(tl th:TO):TE:=fun σ H Q=>te σ H fun x H1=>tl σ H1 fun l H2=>th σ H2 fun u H3=>r x l u H3 Q
theorem da {r:V->Option Int->Option Int->Hp->VK->Prop}(hr:vC X r)(he:PE X e te)(hl:PO X lo tl)(hu:PO X hi th):PE X (.Subscript e (.Slice lo hi none p2) pos) (wS r te tl th):=by
 intro pins s σ H Q I h;refine Subscript_ (bv (he pins s σ H _ I h) fun v s1 ⟨x,H1,I1,r1,q1⟩=>?_);refine wpAny_Slice (bv (hl pins s1 σ H1 _ I1 q1) fun vl s2 ⟨l,H2,I2,pl,q2⟩=>bv (hu pins s2 σ H2 _ I2 q2) fun vu s3 ⟨u,H3,I3,pu,q3⟩=>?_);rw[evalPart_none];refine xH ?_;have I4:ay X pins σ H3 { s3 with heap:=s3.heap.push { cls:=.type "slice",data:=.fields #[vl,vu,.none] } }:=I3.kept (t':=s3.toks) fun b ob q=>Heap.get?_push_of_some _ q;obtain⟨T,id,hT,ht,hg⟩:=hr pins { s3 with heap:=s3.heap.push { cls:=.type "slice",data:=.fields #[vl,vu,.none] } } σ H3 x v vl vu l u s3.heap.objs.size Q I4 r1 (Heap.IsSliceOf.new ..) pl pu q3
 show wpAny (model X.prog X.w) X.A (subscriptTail e (.Slice lo hi none p2) v (.ref s3.heap.objs.size)) (EP X pins σ Q) X.xe { s3 with heap:=s3.heap.push { cls:=.type "slice",data:=.fields #[vl,vu,.none] } }
 exact tail_any (ops:=[.ref s3.heap.objs.size,v]) ht hT hg (by with_unfolding_all rfl)
def gT (xs:List V)(lo hi:Option Int):List V:=(xs.drop (HT.sIx xs.length 0 lo)).take (HT.sIx xs.length xs.length hi-HT.sIx xs.length 0 lo)
theorem iA (xs:List V)(lo hi:Option Int):(gT xs lo hi).length<=xs.length:=by
 unfold gT;rw[xS,xI];omega
def wj (K:PySem.W.Frag):V->Option Int->Option Int->Hp->VK->Prop:=fun x lo hi H Q=>∃ a xs,x=.ref a/\aW K H a xs /\
 ¬ (HT.sIx xs.length 0 lo=0/\HT.sIx xs.length xs.length hi=xs.length)/\∀ p,H p=none->Q (.ref p) (aY H p (.tup (gT xs lo hi)))
theorem tT:vC X (wj X.K):=by
 intro pins s σ H x v vl vu lo hi sl Q I rx hs pl pu h;obtain⟨a,xs,rfl,hx,hw,q⟩:=h;cases rx;obtain⟨its,r,ht,hz⟩:=I.tuple hx
 have hlen:its.toArray.size=xs.length:=by rw[xy];exact r.length.symm
 refine⟨"tuple",_,PyProof.Rows.slot_tuple_getitem.lookup,ht.typeIs,?_⟩;refine HT.getItem_tuple_cut ht hs pl pu (by rw[hlen];exact hw) ?_ (by rw[hlen];exact hz);rw[hlen];refine⟨.ref s.heap.objs.size,_,I.laid (t':=s.toks) (o:=.tup (gT xs lo hi)) (fun b ob q=>Heap.get?_push_of_some _ q) (xm _) ?_,rfl,q _ (I.hok.fresh (xm _))⟩;exact⟨xZ (iA xs lo hi) hz,_,(r.drop (HT.sIx xs.length 0 lo)).take (HT.sIx xs.length xs.length hi-HT.sIx xs.length 0 lo),fI.new _ _⟩
end
def uo (n:Nat)(i:Int):Option Nat:=if 0<=i then (if i<n then some i.toNat else none) else if -(n:Int)<=i then some (i+n).toNat else none
def rW {α:Type}(xs:List α)(i:Int):Option α:=(uo xs.length i).bind fun j=>xs[j]?
theorem rj {n:Nat}{i:Int}{j:Nat}(h:uo n i=some j):seqIndex? i n=some j/\j<n/\-(n:Int)<=i/\i<n:=by
 unfold uo at h
 by_cases h0:0<=i
 ·rw[xA h0]at h
  by_cases h1:i<n
  ·rw[xA h1]at h
   have e:i.toNat=j:=xE h;exact⟨by rw[seqIndex_of h0 h1,e],by omega,by omega,h1⟩
  ·rw[xx h1]at h;cases h
 ·rw[xx h0]at h
  by_cases h1 : -(n:Int)<=i
  ·rw[xA h1]at h
   have e:(i+n).toNat=j:=xE h;exact⟨by rw[seqIndex_neg (by omega) h1,e],by omega,h1,by omega⟩
  ·rw[xx h1]at h;cases h
theorem kH {α:Type}{xs:List α}{i:Int}{v:α}(h:rW xs i=some v):∃ j,seqIndex? i xs.length=some j/\xs[j]? = some v/\j<xs.length/\-(xs.length:Int)<=i/\i<xs.length:=by
 unfold rW at h
 cases e:uo xs.length i with
 | none=>rw[e]at h;cases h
 | some j =>
  rw[e]at h;obtain⟨h1,h2,h3,h4⟩:=rj e;exact⟨j,h1,h,h2,h3,h4⟩
theorem aC {α:Type}{xs:List α}{j:Nat}{v:α}(h:xs[j]? = some v):rW xs (j:Int)=some v:=by
 have hj:j<xs.length:=(List.getElem?_eq_some_iff.mp h).1
 have e:uo xs.length (j:Int)=some j:=by
  unfold uo;rw[xA (by omega),xA (by omega)];simp
 unfold rW;rw[e];exact h
def qQ (b:Expr):Prop:=∀ o i,subscripted b false o i=operate [o,i] (getItem o i)
def ux (X:Cx)(r:R2):Prop :=
 ∀ (value slice:Expr)(pins:List (Addr×Obj))(s:Shared)(σ:St)(H:Hp)(x y:V)(v u:Value)(Q:VK),ay X pins σ H s->aQ x v->aQ y u->r x y H Q ->
  subscripted slice false v u=operate [v,u] (getItem v u)->wpAny (model X.prog X.w) X.A (subscriptTail value slice v u) (EP X pins σ Q) X.xe s
def vN (X:Cx)(id:String)(r:V->List V->Hp->VK->Prop):Prop :=
 ∀ (pins:List (Addr×Obj))(s:Shared)(σ:St)(H:Hp)(x:V)(xs:List V)(v:Value)(us:List Value)(Q:VK),ay X pins σ H s->aQ x v->aH xs us->r x xs H Q ->
  wpAny (model X.prog X.w) X.A (call (.builtin id) (v::us)) (EP X pins σ Q) X.xe s
section
variable {X:Cx}{a b:Expr}{ta tb:TE}{pos:Pos}
theorem aO {r:R2}(hr:ux X r)(ha:PE X a ta)(hb:PE X b tb)(hs:qQ b):PE X (.Subscript a b pos) (vG r ta tb):=by
 intro pins s σ H Q I h;exact Subscript_ (sM ha hb I h fun v u s2 x y H2 I2 rx ry q=>hr a b pins s2 σ H2 x y v u Q I2 rx ry q (hs _ _))
inductive wK (K:PySem.W.Frag) (x y:V) (H:Hp) (Q:VK):Prop
 | mk (p:Addr) (xs:List V) (i:Int) (v:V) (e1:x=.ref p) (e2:y=.int i) (q:bd K H p xs) (a:rW xs i=some v) (h:Q v H):wK K x y H Q
def wd (K:PySem.W.Frag):R2:=fun x y H Q=>wK K x y H Q
inductive wL (K:PySem.W.Frag) (x y:V) (H:Hp) (Q:VK):Prop
 | mk (p:Addr) (xs:List V) (i:Int) (v:V) (e1:x=.ref p) (e2:y=.int i) (q:aW K H p xs) (a:rW xs i=some v) (h:Q v H):wL K x y H Q
def uY (K:PySem.W.Frag):R2:=fun x y H Q=>wL K x y H Q
def we:R2:=fun x y H Q=>∃ z i c,x=.str z/\y=.int i/\z.length<=sizeLine/\rW z.cps.toList i=some c/\Q (.str ⟨#[c]⟩) H
theorem dm:ux X (wd X.K):=by
 intro value slice pins s σ H x y v u Q I rx ry h hs;obtain⟨p,xs,i,z,rfl,rfl,hq,he,q⟩:=h;cases rx;obtain⟨t,rfl⟩:=ry;obtain⟨its,r,pl,hz⟩:=I.list hq;obtain⟨j,h1,h2,h3,h4,h5⟩:=kH he;obtain⟨w,ew,rw'⟩:=r.get h2;have hl:=r.length;have hn:=g8;have fin:EP X pins σ Q w s:=⟨z,H,I,rw',q⟩
 by_cases h0:0<=i
 ·have hj:i.toNat=j:=by
   rw[seqIndex_of h0 h5]at h1;exact xE h1
  exact item_listR pl.isList h0 (by omega) (by rw[hj];simpa using ew) fin hs
 ·have hj:(i+(its.toArray.size:Int)).toNat=j:=by
   rw[seqIndex_neg (by omega) h4]at h1;rw[xy,<-hl];exact xE h1
  exact subscriptTail_builtinR (x:=w) pl.isList.typeIs slot_list_getitem.lookup
   (wpAny_getItem_list_neg (Q:=fun r s'=>r=w/\EP X pins σ Q r s') pl.isList (by omega) (by rw[xy]<;>omega) (by omega) (by rw[hj];simpa using ew) ⟨rfl,fin⟩) hs
theorem aV:ux X (uY X.K):=by
 intro value slice pins s σ H x y v u Q I rx ry h hs;obtain⟨p,xs,i,z,rfl,rfl,hq,he,q⟩:=h;cases rx;obtain⟨t,rfl⟩:=ry;obtain⟨its,r,pl,hz⟩:=I.tuple hq;obtain⟨j,h1,h2,h3,h4,h5⟩:=kH he;obtain⟨w,ew,rw'⟩:=r.get h2;have hl:=r.length;have hn:=g8;have fin:EP X pins σ Q w s:=⟨z,H,I,rw',q⟩
 exact subscriptTail_builtinR (x:=w) pl.typeIs slot_tuple_getitem.lookup
  (getItem_tuple (j:=j) (Q:=fun r s'=>r=w/\EP X pins σ Q r s') pl (by omega) (by omega) (by rw[xy,<-hl];exact h1) (by simpa using ew) ⟨rfl,fin⟩) hs
theorem mY:ux X we:=by
 intro value slice pins s σ H x y v u Q I rx ry h hs;obtain⟨z,i,c,rfl,rfl,hz,he,q⟩:=h;obtain⟨t,rfl⟩:=rx;obtain⟨t',rfl⟩:=ry;obtain⟨j,h1,h2,h3,h4,h5⟩:=kH he
 have hl:z.cps.toList.length=z.length:=by simp[Str.length]
 rw[hl]at h1 h4 h5;have hn:=g8
 exact tail_any (typeIs_str s z t) slot_str_getitem.lookup (getItem_str (c:=c) (by
  have e1:decide (i < -(2 ^ 63:Int))=false:=xn (by omega);have e2:decide (i>=2 ^ 63)=false:=xn (by omega)
  rw[e1,e2,Bool.or_false]) (by rw[h1];simpa using h2) ⟨.str ⟨#[c]⟩,H,I.tok _,⟨_,rfl⟩,q⟩) hs
theorem lI (lo hi:Option Int)(n:Nat):(sliceBounds lo hi none n).1=((HT.sIx n 0 lo:Nat):Int)/\(sliceBounds lo hi none n).2.1=((HT.sIx n n hi:Nat):Int)/\(sliceBounds lo hi none n).2.2=1:=by
 refine⟨?_,?_,rfl⟩
 ·cases lo with
  | none=>simp[sliceBounds,HT.sIx]
  | some i =>
   simp only[sliceBounds,HT.sIx,Option.getD_none,show (1:Int)>0 by decide,yU]
   by_cases h:i<0
   ·simp only[h,yU]<;>omega
   ·simp only[h,if_false]<;>omega
 ·cases hi with
  | none=>simp[sliceBounds,HT.sIx]
  | some i =>
   simp only[sliceBounds,HT.sIx,Option.getD_none,show (1:Int)>0 by decide,yU]
   by_cases h:i<0
   ·simp only[h,yU]<;>omega
   ·simp only[h,if_false]<;>omega
theorem jZ (its:List Value)(lo hi:Option Int):slicePick its.toArray lo hi none=((its.drop (HT.sIx its.length 0 lo)).take (HT.sIx its.length its.length hi-HT.sIx its.length 0 lo)).toArray:=by
 obtain⟨h1,h2,h3⟩:=lI lo hi its.toArray.size;unfold slicePick;rw[h1,h2,h3];simp only[sliceRange_one,pick_run,xy]<;>rfl
inductive u8 (K:PySem.W.Frag) (x:V) (lo:Option Int) (hi:Option Int) (H:Hp) (Q:VK):Prop
 | mk (a:Addr) (xs:List V) (h_0:x=.ref a) (h_1:bd K H a xs) (h_2:∀ p,H p=none->Q (.ref p) (aY H p (.lst (gT xs lo hi)))):u8 K x lo hi H Q
theorem nV:vC X (u8 X.K):=by
 intro pins s σ H x v vl vu lo hi sl Q I rx hs pl pu h;obtain⟨a,xs,rfl,hx,q⟩:=h;cases rx;obtain⟨its,r,ht,hz⟩:=I.list hx;have hlen:=r.length;refine⟨"list",_,slot_list_getitem.lookup,ht.isList.typeIs,?_⟩;refine wpAny_getItem_list_slice ht.isList hs pl pu .none (by simp) ?_ (by rw[xy]<;>omega);rw[jZ,<-hlen];refine⟨.ref s.heap.objs.size,_,I.laid (t':=s.toks) (o:=.lst (gT xs lo hi)) (fun b ob q=>Heap.get?_push_of_some _ q) (xm _) ?_,rfl,q _ (I.hok.fresh (xm _))⟩;exact⟨xZ (iA xs lo hi) hz,_,0,(r.drop (HT.sIx xs.length 0 lo)).take (HT.sIx xs.length xs.length hi-HT.sIx xs.length 0 lo),Heap.get?_push_size _ rfl⟩
def fA:V->Bool
 | .non=>true
 | .bl _=>true
 | .int _=>true
 | .str _=>true
 | _=>false
def mS:V->V->Bool
 | .non,.non=>true
 | .bl a,.bl b=>a == b
 | .bl a,.int b=>(if a then 1 else 0) == b
 | .int a,.bl b=>a == (if b then 1 else 0)
 | .int a,.int b=>a == b
 | .str a,.str b=>a == b
 | _,_=>false
theorem pC {A:Around}{s:Shared}{y x:V}{u v:Value}(ry:aQ y u)(rx:aQ x v)(fy:fA y=true)(fx:fA x=true):SeqAt.EqAt A s u v (mS y x):=by
 cases y with
 | non =>
  cases ry
  cases x with
  | non=>cases rx;exact SeqAt.EqAt.same _
  | bl b=>cases rx;exact SeqAt.EqAt.none_bool b
  | int b=>obtain⟨t,rfl⟩:=rx;exact SeqAt.EqAt.none_int b t
  | str b=>obtain⟨t,rfl⟩:=rx;exact SeqAt.EqAt.none_str b t
  | _=>exact absurd (show false=true from fx) xu
 | bl a =>
  cases ry
  cases x with
  | non=>cases rx;exact SeqAt.EqAt.bool_none a
  | bl b=>cases rx;exact SeqAt.EqAt.bool_bool a b
  | int b=>obtain⟨t,rfl⟩:=rx;exact SeqAt.EqAt.bool_int a b t
  | str b=>obtain⟨t,rfl⟩:=rx;exact SeqAt.EqAt.bool_str a b t
  | _=>exact absurd (show false=true from fx) xu
 | int a =>
  obtain⟨t',rfl⟩:=ry
  cases x with
  | non=>cases rx;exact SeqAt.EqAt.int_none a t'
  | bl b=>cases rx;exact SeqAt.EqAt.int_bool a t' b
  | int b=>obtain⟨t,rfl⟩:=rx;exact SeqAt.EqAt.int_int a t' b t
  | str b=>obtain⟨t,rfl⟩:=rx;exact SeqAt.EqAt.int_str a t' b t
  | _=>exact absurd (show false=true from fx) xu
 | str a =>
  obtain⟨t',rfl⟩:=ry
  cases x with
  | non=>cases rx;exact SeqAt.EqAt.str_none a t'
  | bl b=>cases rx;exact SeqAt.EqAt.str_bool a t' b
  | int b=>obtain⟨t,rfl⟩:=rx;exact SeqAt.EqAt.str_int a t' b t
  | str b=>obtain⟨t,rfl⟩:=rx;exact SeqAt.EqAt.str_str a t' b t
  | _=>exact absurd (show false=true from fx) xu
 | _=>exact absurd (show false=true from fy) xu
def qY (x:V)(u:Value):Bool:=match u with
 | .none=>mS .non x
 | .bool b=>mS (.bl b) x
 | .int i _=>mS (.int i) x
 | .str z _=>mS (.str z) x
 | _=>false
theorem pD {x y:V}{u:Value}(r:aQ y u)(f:fA y=true):qY x u=mS y x:=by
 cases y with
 | non=>cases r;rfl
 | bl b=>cases r;rfl
 | int i=>obtain⟨t,rfl⟩:=r;rfl
 | str z=>obtain⟨t,rfl⟩:=r;rfl
 | _=>exact absurd (show false=true from f) xu
theorem kE {x:V}:∀ {xs:List V}{us:List Value},aH xs us->xs.all fA=true->us.any (qY x)=xs.any fun y=>mS y x
 | _,_,.nil,_=>rfl
 | y::xs,u::us,.cons r t,f=>by
  rw[List.all_cons,yc]at f;rw[List.any_cons,List.any_cons,pD r f.1,kE t f.2]
theorem jp {A:Around}{s:Shared}{x:V}{v:Value}(rx:aQ x v)(fx:fA x=true):∀ {xs:List V}{us:List Value},aH xs us->xs.all fA=true->∀ u∈us,SeqAt.EqAt A s u v (qY x u)
 | _,_,.nil,_=>fun u hu=>by cases hu
 | y::xs,u::us,.cons r t,f=>fun u' hu=>by
  rw[List.all_cons,yc]at f;rcases xB.mp hu with rfl | hu
  ·rw[pD r f.1];exact pC r rx f.1 fx
  ·exact jp rx fx t f.2 u' hu
def rg (x:V)(xs:List V):Bool:=xs.any fun y=>mS y x
inductive wO (K:PySem.W.Frag) (neg:Bool) (x:V) (y:V) (H:Hp) (Q:VK):Prop
 | mk (p:Addr) (xs:List V) (h_0:y=.ref p) (h_1:(bd K H p xs\/aW K H p xs)) (h_2:fA x=true) (h_3:xs.all fA=true) (h_4:Q (.bl (if neg then !rg x xs else rg x xs)) H):wO K neg x y H Q
theorem fb:fJ X (compareOp .In) (wO X.K false):=by
 intro pins s σ H x y v u Q I rx ry h;obtain⟨p,xs,rfl,hq,fx,fs,q⟩:=h;cases ry;rcases hq with hq | hq
 ·obtain⟨its,r,pl,hz⟩:=I.list hq
  refine SeqAt.in_listAt (qY x) pl.isList (fun w hw=>jp rx fx r fs w (by simpa using hw)) ⟨.bl _,H,I,rfl,?_⟩;rw[show its.toArray.any (qY x)=its.any (qY x) by simp,kE r fs];exact q
 ·obtain⟨its,r,pl,hz⟩:=I.tuple hq
  refine SeqAt.in_tupleAt (qY x) pl (fun w hw=>jp rx fx r fs w (by simpa using hw)) ⟨.bl _,H,I,rfl,?_⟩;rw[show its.toArray.any (qY x)=its.any (qY x) by simp,kE r fs];exact q
theorem bh:dG X (.builtin "len") (fun xs H Q=>∃ p ys,xs=[.ref p]/\(bd X.K H p ys\/aW X.K H p ys)/\Q (.int ys.length) H):=by
 intro pins s σ H xs us Q I r h;obtain⟨p,ys,rfl,hq,q⟩:=h;obtain⟨u,rfl,rx⟩:=eA r;cases rx;have hn:=g8;rcases hq with hq | hq
 ·obtain⟨its,r',pl,hz⟩:=I.list hq
  have hlen:=r'.length;exact Calls.call_len_list pl.isList (by simp only[xy]<;>omega) ⟨.int ys.length,H,I.tok _,⟨s.toks+1,by rw[xy,hlen]⟩,q⟩
 ·obtain⟨its,r',pl,hz⟩:=I.tuple hq
  have hlen:=r'.length;exact len_tuple pl (by simp only[xy]<;>omega) ⟨.int ys.length,H,I.tok _,⟨s.toks+1,by rw[xy,hlen]⟩,q⟩
theorem cW:dG X (.builtin "len") (fun xs H Q=>∃ z,xs=[.str z]/\z.length<=sizeLine/\Q (.int z.length) H):=by
 intro pins s σ H xs us Q I r h;obtain⟨z,rfl,hz,q⟩:=h;obtain⟨u,rfl,t,rfl⟩:=eA r;have hn:=g8;exact len_str (by omega) ⟨.int z.length,H,I.tok _,⟨_,rfl⟩,q⟩
theorem f7:dG X (.type "list") (fun xs H Q=>∃ p ys,xs=[.ref p]/\(bd X.K H p ys\/aW X.K H p ys)/\∀ l,H l=none->Q (.ref l) (aY H l (.lst ys))):=by
 intro pins s σ H xs us Q I r h;obtain⟨p,ys,rfl,hq,q⟩:=h;obtain⟨u,rfl,rx⟩:=eA r;cases rx
 have fin:∀ (its:List Value),aH ys its->ys.length<=sizeLine->∀ (h':Heap)(c':Nat),(∀ b o',s.heap.get? b=some o'->h'.get? b=some o') ->
   h'.get? s.heap.objs.size=some { cls:=.type "list",dict:=none,data:=.seq its.toArray c',slots:=#[] }->EP X pins σ Q (.ref s.heap.objs.size) { s with heap:=h' }:=fun its r' hz h' c' kp e =>
  ⟨.ref s.heap.objs.size,_,I.laid (t':=s.toks) kp (xm _) (show bR X.prog X.w _ h' _ (.lst ys) from ⟨hz,its,c',r',e⟩),rfl,q _ (I.hok.fresh (xm _))⟩
 rcases hq with hq | hq
 ·obtain⟨its,r',pl,hz⟩:=I.list hq
  have hlen:=r'.length;obtain⟨o,ho,hc,n,hd⟩:=pl.isList;exact call_list_seq p (.inl rfl) ho hc hd (fun h' c' kp e=>fin its r' hz h' c' kp e) (by simp only[xy]<;>omega)
 ·obtain⟨its,r',pl,hz⟩:=I.tuple hq
  have hlen:=r'.length;obtain⟨o,ho,hc,n,hd⟩:=pl;exact call_list_seq p (.inr rfl) ho hc hd (fun h' c' kp e=>fin its r' hz h' c' kp e) (by simp only[xy]<;>omega)
theorem bJ:dG X (.type "tuple") (fun xs H Q=>∃ p ys,xs=[.ref p]/\((bd X.K H p ys/\∀ l,H l=none->Q (.ref l) (aY H l (.tup ys)))\/(aW X.K H p ys/\Q (.ref p) H))):=by
 intro pins s σ H xs us Q I r h;obtain⟨p,ys,rfl,h⟩:=h;obtain⟨u,rfl,rx⟩:=eA r;cases rx;rcases h with ⟨hq,q⟩ | ⟨hq,q⟩
 ·obtain⟨its,r',pl,hz⟩:=I.list hq
  have hlen:=r'.length;refine call_tuple_list pl.isList (fun h' kp=>?_) (by simp only[xy]<;>omega);have I1:ay X pins σ H { s with heap:=h' }:=I.kept (t':=s.toks) kp
  have I2:ay X pins σ (aY H h'.objs.size (.tup ys)) { s with heap:=h'.push { cls:=.type "tuple",data:=.seq its.toArray } } :=
   I1.laid (t':=s.toks) (fun b o e=>Heap.get?_push_of_some _ e) (xm _) (show bR X.prog X.w _ _ _ (.tup ys) from ⟨hz,its,r',fI.new _ _⟩)
  exact⟨.ref h'.objs.size,_,I2,rfl,q _ (I1.hok.fresh (xm _))⟩
 ·obtain⟨its,r',pl,hz⟩:=I.tuple hq
  exact call_tuple_same pl ⟨.ref p,H,I,rfl,q⟩
def wC (K:PySem.W.Frag)(T:String)(x:V)(H:Hp):Prop:=match x with
 | .str _=>T="str"
 | .int _=>T="int"
 | .ref p=>(T="list"/\∃ xs,bd K H p xs)\/(T="tuple"/\∃ o,K.lookup p=some o/\o.cls=.type "tuple"/\o.dict=none) \/
   (T="dict"/\((∃ kvs,H p=some (.dK kvs))\/∃ kvs,H p=some (.dT kvs)))\/(T="set"/\∃ S n,H p=some (.set S n))
 | _=>False
theorem qD {pins:List (Addr×Obj)}{σ:St}{H:Hp}{s:Shared}{T:String}{x:V}{v:Value}(I:ay X pins σ H s)(r:aQ x v)(ty:wC X.K T x H) :
  s.TypeIs v T/\∀ a,v=.ref a->∃ ob,s.heap.get? a=some ob/\ob.dict=none:=by
 cases x with
 | str z =>
  obtain⟨t,rfl⟩:=r;cases (show T="str" from ty);exact⟨typeIs_str s z t,fun _ e=>nomatch e⟩
 | int i =>
  obtain⟨t,rfl⟩:=r;cases (show T="int" from ty);exact⟨typeIs_int s i t,fun _ e=>nomatch e⟩
 | ref p =>
  cases r;rcases ty with ⟨rfl,xs,hq⟩ | ⟨rfl,o,hk,hc,hd⟩ | ⟨rfl,hk⟩ | ⟨rfl,S,n,hk⟩
  ·obtain⟨its,_,pl,_⟩:=I.list hq
   refine⟨pl.isList.typeIs,fun a e=>?_⟩;cases e;obtain⟨o,n,e,c,hd,_⟩:=pl;exact⟨o,e,hd⟩
  ·refine⟨⟨o,I.kIn p o hk,hc⟩,fun a e=>?_⟩
   cases e;exact⟨o,I.kIn _ o hk,hd⟩
  ·have z:∃ o,s.heap.get? p=some o/\o.ExactDict:=by
    rcases hk with ⟨kvs,hk⟩ | ⟨kvs,hk⟩
    ·obtain⟨_,_,_,_,o,_,_,e,ex,_⟩:=I.hok p _ hk
     exact⟨o,e,ex⟩
    ·obtain⟨_,_,_,_,o,_,_,e,ex,_⟩:=I.hok p _ hk
     exact⟨o,e,ex⟩
   obtain⟨o,e,ex⟩:=z;refine⟨⟨o,e,ex.1⟩,fun a e2=>?_⟩;cases e2;exact⟨o,e,ex.2.1⟩
  ·obtain⟨o,_,_,_,e,ex,_⟩:=I.hok p _ hk
   refine⟨⟨o,e,ex.1⟩,fun a e2=>?_⟩;cases e2;exact⟨o,e,ex.2.1⟩
 | _=>exact False.elim ty
def wo (K:PySem.W.Frag)(T:String)(r:V->List V->Hp->VK->Prop)(to:TE):TE:=fun σ H Q=>to σ H fun x H1=>wC K T x H1/\r x [] H1 Q
def wQ (K:PySem.W.Frag)(T:String)(r:V->List V->Hp->VK->Prop)(to:TE)(t:TA):TE:=fun σ H Q=>to σ H fun x H1=>wC K T x H1/\t σ H1 fun xs H2=>r x xs H2 Q
variable {o e:Expr}{es:List Expr}{to:TE}{t:TA}{name:Str}{apos cpos:Pos}{T id:String}{r:V->List V->Hp->VK->Prop}
theorem tE (pa:PlainAttrs T)(slot:Slot T name id)(hty:typeOf (.builtin id)=pure (.type "method_descriptor"))(hm:vN X id r)(ho:PE X o to)
  (hbase:attributeBase o name X.env (eval o X.env)=eval o X.env:=by rfl) (hline:(apos.endLine == cpos.line)=true:=by rfl):PE X (.Call (.Attribute o name apos) [] [] cpos) (wo X.K T r to):=by
 intro pins s σ H Q I h;refine wpAny_Call_method0_late hbase hline (bv (ho pins s σ H _ I h) fun v s1 ⟨x,H1,I1,r1,ty,q1⟩=>?_);obtain⟨h1,h2⟩:=qD I1 r1 ty;exact⟨T,id,pa,slot,hty,h1,h2,Calls.callWith_builtin rfl (PySem.evalArgs_none (hm pins s1 σ H1 x [] v [] Q I1 r1 .nil q1))⟩
theorem iM (pa:PlainAttrs T)(slot:Slot T name id)(hty:typeOf (.builtin id)=pure (.type "method_descriptor"))(hm:vN X id r)(ho:PE X o to)(ha:PA X (e::es) t)
  (hbase:attributeBase o name X.env (eval o X.env)=eval o X.env:=by rfl)
  (hfew:((backTo cpos (starEach (e::es) X.env)).all (fun x=>!x.1)&&(backToKw cpos (keywordEach [] X.env)).all (fun x=>x.1.isSome)
   && decide ((e::es).length+([]:List Keyword).length+(if ([]:List Keyword).isEmpty then 0 else 1)<30))=true:=by rfl)
  (hline:(apos.endLine == cpos.line)=true:=by rfl) (hs:starEach (e::es) X.env=(false,eval e X.env)::starEach es X.env:=by rfl) (hplain:(backTo cpos (starEach es X.env)).any (·.1)=false:=by rfl) :
  PE X (.Call (.Attribute o name apos) (e::es) [] cpos) (wQ X.K T r to t):=by
 intro pins s σ H Q I h;refine wpAny_Call_method_late hbase hfew hline rfl (bv (ho pins s σ H _ I h) fun v s1 ⟨x,H1,I1,r1,ty,q1⟩=>?_);obtain⟨h1,h2⟩:=qD I1 r1 ty;refine⟨T,id,pa,slot,hty,h1,h2,?_⟩;have hA:=ha cpos pins s1 σ H1 _ I1 q1;rw[hs]at hA ⊢;refine Calls.callWith_builtin (by show (false||(backTo cpos (starEach es X.env)).any (·.1))=false;rw[hplain]<;>rfl) (Calls.evalArgs_plain ?_);exact bv hA fun us s2 ⟨vs,H2,I2,r2,q2⟩=>hm pins s2 σ H2 x vs v us Q I2 r1 r2 q2
end
def wE (X:Cx)(id:String)(r:V->List V->Hp->VK->Prop):Prop :=
 ∀ (pins:List (Addr×Obj))(s:Shared)(σ:St)(H:Hp)(x:V)(xs:List V)(v:Value)(us:List Value)(Q:VK),ay X pins σ H s->aQ x v->aH xs us->r x xs H Q ->
  wpAny (model X.prog X.w) X.A (call (.builtin id) (v::us)) (EP X pins σ Q) X.xe s
theorem aH.one:∀ {x:V}{us:List Value},aH [x] us->∃ u,us=[u]/\aQ x u
 | _,_,.cons r .nil=>⟨_,rfl,r⟩
theorem aH.zero:∀ {us:List Value},aH [] us->us=[]
 | _,.nil=>rfl
theorem aH.dropLast {xs:List V}{us:List Value}(h:aH xs us):aH xs.dropLast us.dropLast:=by
 induction h with
 | nil=>exact .nil
 | cons r t ih =>
  cases t with
  | nil=>exact .nil
  | cons q t'=>exact .cons r ih
theorem aH.rep {xs:List V}{us:List Value}(h:aH xs us):∀ k:Nat,aH (List.replicate k xs).flatten (List.replicate k us).flatten
 | 0=>.nil
 | k+1=>by
  rw[xQ,xQ,x8,x8];exact aH.append h (aH.rep h k)
theorem mT {α:Type}(l:List α):l.eraseIdx (l.length-1)=l.dropLast:=by
 induction l with
 | nil=>rfl
 | cons a r ih =>
  cases r with
  | nil=>rfl
  | cons b r =>
   have e:(a::b::r).length-1=((b::r).length-1)+1:=by
    have h1:(a::b::r).length=r.length+2:=rfl;have h2:(b::r).length=r.length+1:=rfl;omega
   rw[e,List.eraseIdx_cons_succ,ih]
   all_goals rfl
theorem kf (its:List Value):∀ (k:Nat)(acc:List Value),
  List.foldl (fun x1 x2=>x1++x2) acc.toArray (List.replicate k its.toArray)=(acc++(List.replicate k its).flatten).toArray
 | 0,acc=>by simp
 | k+1,acc=>by
  have e:acc.toArray++its.toArray=(acc++its).toArray:=by simp
  have e2:(acc++its)++(List.replicate k its).flatten=acc++(List.replicate (k+1) its).flatten:=by
   rw[xQ,x8,yS]
  rw[<-e2,<-kf its k (acc++its),<-e,xQ,List.foldl_cons]
section
variable {X:Cx}{pins:List (Addr×Obj)}{σ:St}{H:Hp}{s:Shared}{l b:Addr}{xs ys zs:List V}
theorem ay.lset {its its':List Value}{n:Nat}{f:Array Value->Array Value}{t':Nat}(I:ay X pins σ H s)(hH:H l=some (.lst xs))
  (e:s.heap.get? l=some { cls:=.type "list",data:=.seq its.toArray n }) (hf:f its.toArray=its'.toArray) (hv:aH ys its') (hz:ys.length<=sizeLine) :
  ay X pins σ (aY H l (.lst ys)) { s with heap:=s.heap.update l (Obj.mapSeq f),toks:=t' }:=by
 have q:=PySem.IsL.update e f;rw[hf]at q;refine I.write (x:=l) (e:=l) (by rw[hH];exact trivial) (.inl rfl) (fun b' u hb hu=>(Heap.get?_update_other s.heap (Obj.mapSeq f) (yB hb)).trans hu) ⟨_,q⟩ ?_;exact⟨hz,its',_,hv,q⟩
theorem ay.lnew {its:List Value}{t':Nat}(I:ay X pins σ H s)(hv:aH ys its)(hz:ys.length<=sizeLine) :
  ay X pins σ (aY H s.heap.objs.size (.lst ys)) { s with heap:=s.heap.push { cls:=.type "list",data:=.seq its.toArray },toks:=t' } :=
 I.laid (fun _ _ q=>Heap.get?_push_of_some _ q) (xm _) ⟨hz,its,0,hv,Heap.get?_push_size _ rfl⟩
theorem ay.fresh (I:ay X pins σ H s):H s.heap.objs.size=none:=I.hok.fresh (xm _)
theorem ay.lstM (I:ay X pins σ H s)(hH:H l=some (.lst xs)):xs.length<=sizeLine/\∃ (its:List Value)(n:Nat),aH xs its/\xs.length=its.length/\s.heap.get? l=some { cls:=.type "list",data:=.seq its.toArray n }:=by
 obtain⟨z,its,n,r,e⟩:=I.hok l _ hH;exact⟨z,its,n,r,r.length,e⟩
theorem pQ {n:Nat}(h:n<=sizeLine):Builtin.List.listTooLong n=false:=by
 unfold Builtin.List.listTooLong;exact xn (by omega)
end
section
variable {X:Cx}
inductive nR (x:V) (vs:List V) (H:Hp) (Q:VK):Prop
 | mk (l:Addr) (xs:List V) (y:V) (h_0:x=.ref l) (h_1:vs=[y]) (h_2:H l=some (.lst xs)) (h_3:xs.length<sizeLine) (h_4:Q .non (aY H l (.lst (xs++[y])))):nR x vs H Q
theorem cD:wE X "list.append" nR:=by
 intro pins s σ H x vs v us Q I rx rv h;obtain⟨l,xs,y,rfl,rfl,hH,hz,q⟩:=h;cases rx;obtain⟨u,rfl,ru⟩:=rv.one;obtain⟨z,its,n,r,hl,e⟩:=I.lstM hH;refine call_meets F.slot_list_append ⟨_,e,rfl⟩ F.entry_list_append (F.args_list_append_2 _ _) (PySem.list_append l its.toArray n u (by rw[xy];omega)) ⟨e,?_⟩;refine⟨.non,_,I.lset (its':=its++[u]) hH e (by simp) (r.append (.cons ru .nil)) ?_,rfl,q⟩;rw[xv,xR];omega
inductive uZ (x:V) (vs:List V) (H:Hp) (Q:VK):Prop
 | mk (l:Addr) (xs:List V) (y:V) (h_0:x=.ref l) (h_1:vs=[]) (h_2:H l=some (.lst xs)) (h_3:xs[xs.length-1]? = some y) (h_4:Q y (aY H l (.lst xs.dropLast))):uZ x vs H Q
theorem tm:wE X "list.pop" uZ:=by
 intro pins s σ H x vs v us Q I rx rv h;obtain⟨l,xs,y,rfl,rfl,hH,hy,q⟩:=h;cases rx;have hus:=rv.zero;subst hus;obtain⟨z,its,n,r,hl,e⟩:=I.lstM hH;obtain⟨u,hu,ru⟩:=r.get hy
 have hy':its.toArray[its.toArray.size-1]? = some u:=by
  show its.toArray[its.length-1]? = some u
  rw[<-Array.getElem?_toList,<-hl];exact hu
 refine call_meets F.slot_list_pop ⟨_,e,rfl⟩ F.entry_list_pop (F.args_list_pop_1 _) (MeetsSeq.list_pop_last l its.toArray n u hy' (by rw[xy];omega)) ⟨e,?_⟩;refine⟨y,_,I.lset (its':=its.dropLast) hH e ?_ r.dropLast ?_,ru,q⟩
 ·show its.toArray.eraseIdxIfInBounds (its.toArray.size-1)=its.dropLast.toArray
  rw[xy,List.eraseIdxIfInBounds_toArray,mT]
 ·rw[List.length_dropLast]
  omega
inductive uX (x:V) (y:V) (H:Hp) (Q:VK):Prop
 | mk (l b:Addr) (xs zs:List V) (h_0:x=.ref l) (h_1:y=.ref b) (h_2:H l=some (.lst xs)) (h_3:H b=some (.lst zs)) (h_4:xs.length+zs.length<=sizeLine) (h_5:∀ p,H p=none->Q (.ref p) (aY H p (.lst (xs++zs)))):uX x y H Q
theorem m9:fJ X (binaryOp .Add) uX:=by
 intro pins s σ H x y v u Q I rx ry h;obtain⟨l,b,xs,zs,rfl,rfl,hH,hB,hz,q⟩:=h;cases rx;cases ry;obtain⟨z,its,n,r,hl,e⟩:=I.lstM hH;obtain⟨z2,its2,n2,r2,hl2,e2⟩:=I.lstM hB;refine PySem.P.add_list e e2 ?_ (by rw[xy,xy];omega)
 have ea:its.toArray++its2.toArray=(its++its2).toArray:=by simp
 rw[ea];exact⟨.ref _,_,I.lnew (t':=s.toks) (r.append r2) (by rw[xv];omega),rfl,q _ I.fresh⟩
def wg:R2:=fun x y H Q=>∃ l k xs,x=.ref l/\y=.int k/\H l=some (.lst xs)/\-(2 ^ 63)<=k/\k<2 ^ 63/\xs.length*k.toNat<=sizeLine /\
 ∀ p,H p=none->Q (.ref p) (aY H p (.lst (List.replicate k.toNat xs).flatten))
theorem ro {α:Type}(xs:List α)(k:Nat):(List.replicate k xs).flatten.length=k*xs.length:=by
 induction k with
 | zero=>simp
 | succ k ih=>rw[xQ,x8,xv,ih,Nat.succ_mul,Nat.add_comm]
theorem tz:fJ X (binaryOp .Mult) wg:=by
 intro pins s σ H x y v u Q I rx ry h;obtain⟨l,k,xs,rfl,rfl,hH,h1,h2,hz,q⟩:=h;cases rx;obtain⟨t,rfl⟩:=ry;obtain⟨z,its,n,r,hl,e⟩:=I.lstM hH
 have hlen:its.toArray.size*k.toNat<=sizeLine:=by rw[xy,<-hl];exact hz
 have hcap:¬ its.toArray.size*k.toNat>(2 ^ 63-1)/8:=by
  have:(sizeLine:Nat)<=(2 ^ 63-1)/8:=by decide
  omega
 have hfit:¬ (!Builtin.List.listFitsIndex k)=true:=by
  rw[fitsIndex_both h1 h2];exact xu
 have hlong:¬ Builtin.List.listTooLong (its.toArray.size*k.toNat)=true:=by
  rw[pQ hlen];exact xu
 have hnew:List.foldl (fun x1 x2=>x1++x2) #[] (List.replicate (if its.toArray.isEmpty=true then 0 else k.toNat) its.toArray)=(List.replicate k.toNat its).flatten.toArray:=by
  have f0:∀ m:Nat,List.foldl (fun x1 x2=>x1++x2) #[] (List.replicate m its.toArray)=(List.replicate m its).flatten.toArray:=fun m=>by
   have:=kf its m [];rw[List.nil_append]at this;exact this
  rw[f0]
  cases its with
  | nil=>simp
  | cons a r'=>rw[xx (by simp)]
 refine wpAny_binaryOp_repeat_ref (T:="list") (U:="int") (by decide) ⟨_,e,rfl⟩ (fun s'=>typeIs_int s' k t) noFill_list_mul F.fills_int_mul F.slot_int_rmul repeat_list F.slot_int_index.lookup
  (call_meets F.slot_int_rmul (typeIs_int s k t) F.entry_int_rmul (F.args_int_rmul_2 _ _) (int___rmul___int_list k t l its.toArray n)
   ⟨e,rfl,⟨_,e,rfl⟩,call_meets F.slot_list_mul ⟨_,e,rfl⟩ F.entry_list_mul (F.args_list_mul_2 _ _) (AutoListH.list___mul___list_int_3 l its.toArray n k t hfit hcap hlong) ⟨e,?_⟩⟩)
 rw[hnew];exact⟨.ref _,_,I.lnew (t':=s.toks) (r.rep k.toNat) (by rw[ro,Nat.mul_comm];exact hz),rfl,q _ I.fresh⟩
end
def uA (i:Expr):Prop:=∀ ov iv,subscripted i false ov iv=operate [ov,iv] (getItem ov iv)
theorem rL {prog:Program}{w:World}{A:Around}{E:Value->Shared->Prop}{s:Shared}{env:Env}{value slice:Expr}{pos:Pos}{T id:String}{Q:Value->Shared->Prop}
  (hl:typeLookup (.type T) "__getitem__" = pure (some (.builtin id))) (hs:uA slice)
  (h:wpAny (model prog w) A (eval value env) (fun o s₁=>wpAny (model prog w) A (eval slice env) (fun i s₂=>s₂.TypeIs o T/\wpAny (model prog w) A (getItem o i) Q E s₂) E s₁) E s) :
  wpAny (model prog w) A (eval (.Subscript value slice pos) env) Q E s:=by
 refine Subscript_ (yj h (fun o s₁ h₁=>yj h₁ (fun i s₂ h₂=>?_) fun _ _ x=>x) fun _ _ x=>x);obtain⟨hT,h₂⟩:=h₂;unfold subscriptTail;refine xr ?_;rw[getitemInPython_of_ne hT.not_modules];refine xr (wpAny_specialOf hT hl ?_)
 have fin:wpAny (model prog w) A (subscripted slice false o i) (fun r s₃=>wpAny (model prog w) A (letTemporaryGo value o r >>= fun _=>pure r) Q E s₃) E s₂:=by
  rw[hs o i];exact wpAny_operating (yj h₂ (fun r s₃ h₃=>xr (wpAny_letTemporaryGo (xH h₃))) fun _ _ x=>x)
 first
  | exact xH (xr fin)
  | exact xr (xH (xr fin))
  | exact xr fin
end L2
namespace Att
open PySem PySem.W PySem.Calls PyProof.Rows
theorem iQ {P:Params}{h:Heap}:∀ (ns:List Int)(vs:List Value),WellAll P h vs (ns.map WData.int)->IntsAre vs ns:=by
 intro ns
 induction ns with
 | nil =>
  intro vs w;rw[List.map_nil]at w;cases w;exact .nil
 | cons n ns ih =>
  intro vs w;rw[xM]at w
  cases w with
  | cons a b =>
   cases a;exact .cons _ _ (ih _ b)
theorem oW {l:OpenLaw}{n:Nat}(hn:l.most=some n){P:Params}{h:Heap}{args:List WData}{vals:List Value}
  (hpre:l.row.toRowW.claim.pre args=true) (hwl:WellAll P h vals args) :
  ∃ a vs ns,vals=[Value.ref a]/\args=[WData.list (ns.map WData.int)]/\h.get? a=some { cls:=.type "list",data:=.seq vs.toArray }/\IntsAre vs ns/\ns.length<=n:=by
 have hsh:WShape.hasAll [] args [.list .int]=true:=(pre_splitW hpre).1;have hc:l.pre.holds [] { args:=args }=true:=(pre_splitW hpre).2;obtain⟨d,r,rfl,h1,h2⟩:=hasAllW_cons hsh;obtain rfl:=hasAllW_nil h2;obtain⟨xs,rfl,h3⟩:=hasW_list h1;obtain⟨ns,rfl⟩:=items_int h3
 have hlen:ns.length<=n:=by
  unfold OpenLaw.pre at hc
  have h4:(WTm.not (.lt (.lit (.int (n:Int))) (.len (.arg 0)))).holds [] { args:=[.list (ns.map .int)] }=true:=by
   have h4:=(holds_andW hc).1;rw[hn]at h4;exact h4
  have h5:=condW_of h4 (w_not (w_lt w_lit (w_len_list (w_arg rfl))));rw[xk]at h5;refine Nat.le_of_not_lt fun q=>?_
  have q':(n:Int)<((ns.length:Nat):Int):=by omega
  first
   | (rw[xo q']at h5;exact absurd h5 (by decide))
   | (simp at h5;omega)
 cases hwl with
 | cons w1 w2 =>
  cases w2
  cases w1 with
  | list ho hall=>exact⟨_,_,ns,rfl,rfl,ho,iQ ns _ hall,hlen⟩
theorem oS (l:OpenLaw)(args:List WData):l.row.toRowW.claim.post args (.bool true) args=true :=
 postW_of (r:=l.row.toRowW) (X:=(true == true))
  (show WShape.has [] (.bool true) .bool=true by first | rfl | decide | simp[WShape.has,WShape.arms,WShape.armsAll])
  (show (WTm.eq .res (.lit (.bool true))).value [] { args:=args,res:=some (.bool true),after:=args }=some (.bool (true == true)) from w_eq_bool (w_res rfl) w_lit) rfl
theorem attach_call {l:OpenLaw}{n:Nat}{q:Program}{loose:List Str}{XP:(Str->Option Value)->Heap->Prop}{YP:World->Heap->Prop}{d:DefRec}
  (hn:l.most=some n) (hdf:d.params.defaults=[])
  (call:∀ (w:World)(s₀ s₁:Shared)(mg mb:Str->Option Value)(fa:Addr)(o:Obj)(pm cd doc:Value)(a:Addr)(vs:List Value)(ns:List Int),
   Ground q loose [] XP w s₀ mg mb s₁.heap->YP w s₁.heap ->
   s₁.heap.get? fa=some o->o.data=.func (docDef d.name d.params d.body d.scope pm cd doc)->s₁.heap.CodeRec cd d.name->mg d.name=some (.ref fa) ->
   s₁.heap.get? a=some { cls:=.type "list",data:=.seq vs.toArray }->IntsAre vs ns->ns.length<=n->s₁.gens = #[] ->
   codeAny (model l.prog w) callerA (.call (.ref fa) ⟨[.ref a],[]⟩) (fun r s'=>r=.ok (.ret (.bool true))/\OldK s₁.heap s'.heap/\s'.os=s₁.os/\AllBare s'.gens) s₁) :
  WalkO q loose XP YP l.row.toRowW d [] (fun f vs=>PySem.call f vs):=by
 intro w s₀ s₁ mg mb G Y fa o pm cd doc dV kV ho hd hcd hD hmg hg args vals as hpre hlay hrd hwl hlo;obtain rfl:dV=.none:=Dflts.none hD hdf;obtain rfl:kV=.none:=Dflts.noKw hD;obtain⟨a,vs,ns,rfl,rfl,hobj,hints,hlen⟩:=oW hn hpre hwl;refine enter_call (yL (call w s₀ s₁ mg mb fa o pm cd doc a vs ns G Y ho (fd_plain hd) hcd hmg hobj hints hlen hg) fun r s' hq=>?_);obtain⟨rfl,h2,h3,h4⟩:=hq;exact⟨.inl ⟨.bool true,.bool true,[],rfl,fun _=>rfl,.bool true,oS l _,fun _=>⟨List.Pairwise.nil,fun _ hm=>(nomatch hm)⟩⟩,h2,h3,h4⟩
section
variable {prog:Program}{w:World}{A:Around}{E:Value->Shared->Prop}{s:Shared}{K:Frag}
def wb (h:Heap):Heap:={ h with objs:=#[] }
def wa (h:Heap)(L d:Addr):List (Addr×Obj):=(List.range h.objs.size).filterMap fun a=>if a=L\/a=d then none else (h.get? a).map fun o=>(a,o)
end
end Att
namespace L2
open PySem PySem.Spec PyProof.Rows
theorem kw:∀ {vs:List Value}{ns:List Int},IntsAre vs ns->aH (ns.map V.int) vs
 | _,_,.nil=>.nil
 | _,_,.cons n t h=>.cons ⟨t,rfl⟩ (kw h)
def dW (s:Stmt):Arguments:=match s with
 | .FunctionDef _ a _ _ _ _ _ _ _ _=>a
 | _=>{ posonlyargs:=[],args:=[],vararg:=none,kwonlyargs:=[],kw_defaults:=[],kwarg:=none,defaults:=[] }
def ci (s:Stmt):List Stmt:=match s with
 | .FunctionDef _ _ b _ _ _ _ _ _ _=>b
 | _=>[]
def ah (s:Stmt):Scope:=match s with
 | .FunctionDef _ _ _ _ _ _ sc _ _ _=>sc
 | _=>{ kind:=.function,names:=[],isGenerator:=false,isCoroutine:=false }
abbrev gI:j4:=fun _ _ _ _ _ _=>False
abbrev E0:XK:=fun _ _ _=>False
theorem uU {X:Cx}:eI gI X E0:=fun _ _ _ _ _ _ _ h=>h.elim
structure ek (K:PySem.W.Frag)(x qual:Str)(st:Stmt)(f:Addr)(fd:FuncData):Prop where
 ex:∃ (oc:Value)(od:Option Addr)(kV doc pm:Value)(an:Option Addr)(cdv ct:Value)(osl:Array (Option Value)),
  fd=PySem.W.fnOf x qual (dW st) (ci st) (ah st) .none kV doc pm an cdv ct/\K.lookup f=some ⟨oc,od,.func fd,osl⟩/\PySem.W.codeIn K cdv qual=true
 kp:PySem.W.keepIn K (.ref f)=true
section
variable {P:Program}{w:World}{K:PySem.W.Frag}{mg:Str->Option Value}{base:Heap}
theorem ek.ok {x qual:Str}{st:Stmt}{f:Addr}{fd:FuncData}{N ps:List Str}{k:Nat}{sp:Sp}(F:ek K x qual st f fd)(S:aF N ps (ah st))(len:∀ vs H Q E,sp vs H Q E->vs.length=ps.length)
  (hbody:∀ (cdv:Value)(A:Around)(outer:List Env)(s:Shared)(H:Hp)(vs:List V)(Q:VK)(E:XK),b8 k (A.deeper (envOfC qual (ah st) s.heap.objs.size f cdv))->sp vs H Q E ->
   ∃ t,mO (iO gI P w K mg base N qual (ah st) f cdv A outer s H E).nox (ci st) t/\t { nx:=fun _ H'=>Q .non H',rt:=Q } (fE N vs) H):a7 P w K mg base gI (k+1) f fd ps sp:=by
 obtain⟨oc,od,kV,doc,pm,an,cdv,ct,osl,rfl,lk,hcd⟩:=F.ex;refine pF lk hcd S len fun A outer s H vs Q E hr hsp=>?_;obtain⟨t,h,q⟩:=hbody cdv A outer s H vs Q E hr hsp;exact⟨t,h.nox,q⟩
theorem ek.binds {x qual:Str}{st:Stmt}{f:Addr}{fd:FuncData}{ps:List Str}(F:ek K x qual st f fd)
  (h:∀ (kV doc pm:Value)(an:Option Addr)(cdv ct:Value)(us:List Value),us.length=ps.length->bindArgs (PySem.W.fnOf x qual (dW st) (ci st) (ah st) .none kV doc pm an cdv ct) ⟨us,[]⟩=pure (ps.zip us)):fi K fd ps []:=by
 obtain⟨oc,od,kV,doc,pm,an,cdv,ct,osl,rfl,lk,hcd⟩:=F.ex;exact .all (h kV doc pm an cdv ct)
theorem sQ {x qual:Str}{st:Stmt}{f:Addr}{oc:Value}{od an:Option Addr}{osl:Array (Option Value)}{kV doc pm cdv ct:Value}(l:K.lookup f=some ⟨oc,od,.func (PySem.W.fnOf x qual (dW st) (ci st) (ah st) .none kV doc pm an cdv ct),osl⟩)
  (c:PySem.W.codeIn K cdv qual=true) (k:PySem.W.keepIn K (.ref f)=true):ek K x qual st f (PySem.W.fnOf x qual (dW st) (ci st) (ah st) .none kV doc pm an cdv ct):=⟨⟨oc,od,kV,doc,pm,an,cdv,ct,osl,rfl,l,c⟩,k⟩
end
theorem pH {A:Around}{k:Nat}(hr:b8 k A):A.units+1<cLine:=Nat.lt_of_le_of_lt (Nat.add_le_add_left (by decide:1<=64) _) hr.units
theorem bK {n:Nat}(h:n<=1000):n<sizeLine:=Nat.lt_of_le_of_lt h (by decide)
section
variable {X:Cx}
theorem pv (i:Nat){x:Str}{pos:Pos}(hN:X.N[i]? = some x:=by rfl)(hv:uD X.env.scope x:=by first | exact Or.inl rfl | exact Or.inr (Or.inl rfl) | exact Or.inr (Or.inr rfl))(hd:(x == ("__debug__" : Str))=false:=by decide)
  (hcd:(x == ("__classdict__" : Str))=false:=by decide):PE X (.Name x pos) (o1 i):=p6 hN hv hd hcd
end
theorem ar {A B:Prop}(h:B):if false=true then A else B:=by
 rw[xx xu];exact h
theorem aG {A B:Prop}(h:A):if true=true then A else B:=by
 rw[xA rfl];exact h
theorem v1 {c A B:Prop} [Decidable c] (h1:c->A)(h2:¬ c->B):if c then A else B:=by
 by_cases h:c
 ·rw[xA h]
  exact h1 h
 ·rw[xx h]
  exact h2 h
def aB (H H':Hp):Prop:=∀ b o,H b=some o->H' b=some o
theorem aB.refl (H:Hp):aB H H:=fun _ _ h=>h
theorem aB.trans {H H1 H2:Hp}(a:aB H H1)(b:aB H1 H2):aB H H2:=fun c o h=>b c o (a c o h)
theorem aB.free {H H':Hp}(e:aB H H'){l:Addr}(h:H' l=Option.none):H l=Option.none:=by
 cases q:H l with
 | none=>rfl
 | some o =>
  rw[e l o q]at h;cases h
end L2
set_option maxHeartbeats 4000000
namespace L2
open PySem PySem.Spec PyProof.Rows
structure o5 (so sc:Scope)(N N':List Str)(src:List (Option Nat)):Prop where
 kind:sc.kind=.function
 nocell:∀ y∈sc.names,y.2≠.cell
 loc:∀ y∈sc.names,y.2=.local->sc.names.lookup y.1=some .local
 fre:∀ y∈sc.names,y.2=.free->so.names.lookup y.1=some .cell\/so.names.lookup y.1=some .free
 nd:N'.Nodup
 len:src.length=N'.length
 cap:∀ p∈N'.zip src,(match p.2 with | none=>true | some j=>decide (N[j]? = some p.1/\sc.names.lookup p.1=some .free))=true
def gS (src:List (Option Nat))(σ:St):St:=src.map fun o=>o.bind fun j=>(σ[j]?).join
def je (X:Cx)(sc:Scope)(cl:List (Str×Addr))(C:Addr)(N':List Str)(s:Shared)(H:Hp)(ex:List Addr):Cx where
 prog:=X.prog
 w:=X.w
 K:=X.K
 mg:=X.mg
 base:=X.base
 A:=X.A
 N:=N'
 s₀:=s
 H₀:=H
 env:=compEnvC sc cl C X.env
 outer:=X.stack
 stack:=X.stack
 ex:=ex
 fn:=fun _=>false
 calm:=X.calm
 pn:=[]
 xe:=fun _ _=>False
theorem dS {env:Env}:∀ (names:List (Str×NameKind))(cs:List (Str×Addr)),(∀ y∈names,y.2=.free->∃ c,env.cells.lookup y.1=some c) ->
  (∀ x c,cs.lookup x=some c->env.cells.lookup x=some c) ->
  ∃ cl:List (Str×Addr),(forIn names cs fun x r=>if (x.2 == NameKind.free)=true then (do let a <-cellOf env x.1;pure (ForInStep.yield ((x.1,a)::r))) else pure (ForInStep.yield r):Sem (List (Str×Addr)))=pure cl /\
   (∀ x c,cl.lookup x=some c->env.cells.lookup x=some c)/\(∀ x,(∃ c,cs.lookup x=some c)->∃ c,cl.lookup x=some c)/\∀ y∈names,y.2=.free->∃ c,cl.lookup y.1=some c
 | [],cs,_,h2=>⟨cs,by rw[List.forIn_nil],h2,fun _ h=>h,fun _ h=>nomatch h⟩
 | (n,k)::r,cs,h1,h2=>by
  by_cases hk:k=.free
  ·subst hk
   obtain⟨c,hc⟩:=h1 (n,.free) xp rfl
   have h2':∀ x d,((n,c)::cs).lookup x=some d->env.cells.lookup x=some d:=fun x d e=>by
    rw[xJ]at e;split at e
    ·rename_i hx
     cases e
     have:x=n:=by simpa using hx
     rw[this];exact hc
    ·exact h2 x d e
   obtain⟨cl,e,q1,q2,q3⟩:=dS r ((n,c)::cs) (fun y hy=>h1 y (xq _ hy)) h2';have has:∃ d,((n,c)::cs).lookup n=some d:=⟨c,by simp⟩;refine⟨cl,?_,q1,fun x ⟨d,hd⟩=>q2 x ?_,fun y hy hf=>?_⟩
   ·rw[List.forIn_cons,<-e]
    simp[cellOf,hc]
   ·rw[xJ]
    split
    ·exact⟨_,rfl⟩
    ·exact⟨d,hd⟩
   ·rcases xB.mp hy with rfl | hy
    ·exact q2 _ has
    ·exact q3 y hy hf
  ·obtain⟨cl,e,q1,q2,q3⟩:=dS r cs (fun y hy=>h1 y (xq _ hy)) h2
   have hb:(k == NameKind.free)=false:=by simpa using hk
   refine⟨cl,?_,q1,q2,fun y hy hf=>?_⟩
   ·rw[List.forIn_cons,<-e]
    simp[hb]
   ·rcases xB.mp hy with rfl | hy
    ·exact absurd hf hk
    ·exact q3 y hy hf
theorem mR {sc:Scope}{env:Env}(h:∀ y∈sc.names,y.2=.free->∃ c,env.cells.lookup y.1=some c) :
  ∃ cl:List (Str×Addr),closureFor sc env=pure cl/\(∀ x c,cl.lookup x=some c->env.cells.lookup x=some c)/\∀ y∈sc.names,y.2=.free->∃ c,cl.lookup y.1=some c:=by
 obtain⟨cl,e,q1,_,q3⟩:=dS sc.names [] h (fun x c z=>by simp at z);refine⟨cl,?_,q1,q3⟩;unfold closureFor
 show (forIn sc.names [] _ >>= fun cs=>pure cs)=_
 refine Eq.trans (yn (fun t=>t >>= fun cs=>pure cs) (Eq.trans ?_ e)) (by simp)
 congr 1
theorem gy {env:Env}:∀ {names:List (Str×NameKind)}{x:Str},(∀ y∈names,y.2≠.cell) ->
  ((names.map fun (n,k)=>if (k == NameKind.free&&env.scope.kind == .function&&env.kindOf n == some .cell) then (n,NameKind.cell) else (n,k)).lookup x=some .cell \/
    (names.map fun (n,k)=>if (k == NameKind.free&&env.scope.kind == .function&&env.kindOf n == some .cell) then (n,NameKind.cell) else (n,k)).lookup x=some .free)->(x,NameKind.free)∈names
 | [],_,_,h=>by simp at h
 | (n,k)::r,x,hc,h=>by
  have ih:=@gy env r x (fun y hy=>hc y (xq _ hy));have h:List.lookup x ((if (k == NameKind.free&&env.scope.kind == .function&&env.kindOf n == some .cell)=true then (n,NameKind.cell) else (n,k))::_)=some .cell\/List.lookup x ((if (k == NameKind.free&&env.scope.kind == .function&&env.kindOf n == some .cell)=true then (n,NameKind.cell) else (n,k))::_)=some .free:=h
  by_cases hb:(k == NameKind.free&&env.scope.kind == .function&&env.kindOf n == some .cell)=true
  ·rw[xA hb]at h
   cases hx:x == n with
   | true =>
    have e:x=n:=by simpa using hx
    subst e
    have:k=NameKind.free:=by
     simp only[yc,beq_iff_eq]at hb;exact hb.1.1
    subst this;exact xp
   | false =>
    simp only[xJ,hx]at h;exact xq _ (ih h)
  ·rw[xx hb]at h
   cases hx:x == n with
   | true =>
    have e:x=n:=by simpa using hx
    subst e;have hk:=hc (x,k) xp;simp only[xJ,beq_self_eq_true,Option.some.injEq]at h;rcases h with h | h
    ·exact absurd h hk
    ·subst h;exact xp
   | false =>
    simp only[xJ,hx]at h;exact xq _ (ih h)
theorem fD {env:Env}:∀ {names:List (Str×NameKind)}{x:Str},names.lookup x=some .free ->
  ((names.map fun (n,k)=>if (k == NameKind.free&&env.scope.kind == .function&&env.kindOf n == some .cell) then (n,NameKind.cell) else (n,k)).lookup x=some .cell \/
    (names.map fun (n,k)=>if (k == NameKind.free&&env.scope.kind == .function&&env.kindOf n == some .cell) then (n,NameKind.cell) else (n,k)).lookup x=some .free)
 | [],_,h=>by simp at h
 | (n,k)::r,x,h=>by
  have ih:=@fD env r x
  show List.lookup x ((if (k == NameKind.free&&env.scope.kind == .function&&env.kindOf n == some .cell)=true then (n,NameKind.cell) else (n,k))::_)=some .cell\/List.lookup x ((if (k == NameKind.free&&env.scope.kind == .function&&env.kindOf n == some .cell)=true then (n,NameKind.cell) else (n,k))::_)=some .free
  cases hx:x == n with
  | true =>
   simp only[xJ,hx,Option.some.injEq]at h;subst h
   by_cases hb:(NameKind.free == NameKind.free&&env.scope.kind == .function&&env.kindOf n == some .cell)=true
   ·rw[xA hb];left;simp only[xJ,hx]
   ·rw[xx hb];right;simp only[xJ,hx]
  | false =>
   simp only[xJ,hx]at h
   by_cases hb:(k == NameKind.free&&env.scope.kind == .function&&env.kindOf n == some .cell)=true
   ·rw[xA hb];simp only[xJ,hx];exact ih h
   ·rw[xx hb];simp only[xJ,hx];exact ih h
theorem eJ {prog:Program}{w:World}{A:Around}{R:Result->Shared->Prop}{s:Shared}{elt target iter:Expr}{ifs:List Expr}{scope:Scope}{pos:Pos}{it acc:Value}{env:Env}(I:Nat->Shared->Prop)
  (turn:∀ n s,I n s->wpAny (model prog w) A (pyNext it) (fun r s₁=>match r with
   | none=>R (.ok .next) s₁
   | some v=>wpAny (model prog w) A (letOwnedTupleGo target it v) (fun _ s₁'=>wpAny (model prog w) A (assign target env v) (fun _ s₂ =>
     wpAny (model prog w) A (forIn ifs true fun c r=>if r=true then do let ok <-isTrue c env (eval c env);pure (ForInStep.yield ok) else pure (ForInStep.yield r)) (fun ok s₃ =>
      if ok=true then wpAny (model prog w) A (eval elt env) (fun x s₄ =>
       wpAny (model prog w) A (call (.builtin "list.append") [acc,x]) (fun _ s₅=>∃ m,m<n/\I m s₅) (fun _ _=>False) s₄) (fun _ _=>False) s₃
      else ∃ m,m<n/\I m s₃) (fun _ _=>False) s₂) (fun _ _=>False) s₁') (fun _ _=>False) s₁) (fun _ _=>False) s)
  (n:Nat) (h:I n s) :
  codeAny (model prog w) A (.compLoop (.ListComp elt [⟨target,iter,ifs,0⟩] scope pos) 0 it acc env) R s:=by
 refine codeAny_loop rfl I (fun n s hI=>?_) n h
 show wpAny _ A ((compTurn (.ListComp elt [⟨target,iter,ifs,0⟩] scope pos) 0 it acc env).onRaise (fun x=>do noteFrame x env;theTreesLotGoes x)) _ _ s
 refine wpAny_noted ?_;rw[compTurn_list];refine xr (wpAny_standAt (xr (yj (turn n s hI) (fun r s₁ h₁=>?_) fun _ _ h'=>h'.elim)))
 cases r with
 | none=>exact xH h₁
 | some v =>
  refine xr (yj h₁ (fun _ s₁' h₁'=>?_) fun _ _ h'=>h'.elim);refine xr (yj h₁' (fun _ s₂ h₂=>xr (yj h₂ (fun ok s₃ h₃=>?_) fun _ _ h'=>h'.elim)) fun _ _ h'=>h'.elim)
  cases ok with
  | false=>exact xH ⟨rfl,h₃⟩
  | true =>
   exact xr (xr (yj h₃ (fun x s₄ h₄=>xr (yj h₄ (fun _ s₅ h₅=>xH (xH ⟨rfl,h₅⟩)) fun _ _ h'=>h'.elim)) fun _ _ h'=>h'.elim))
def wH (X:Cx)(ifs:List Expr)(t:TT):Prop :=
 ∀ (pins:List (Addr×Obj))(s:Shared)(σ:St)(H:Hp)(Q:Bool->Hp->Prop),ay X pins σ H s->t σ H Q ->
  wpAny (model X.prog X.w) X.A (forIn ifs true fun c r=>if r=true then do let ok <-isTrue c X.env (eval c X.env);pure (ForInStep.yield ok) else pure (ForInStep.yield r)) (TP X pins σ Q) X.xe s
def o3:TT:=fun _ H Q=>Q true H
theorem bN {X:Cx}:wH X [] o3:=fun pins s σ H Q I h=>wpAny_tests_nil ⟨H,I,h⟩
def uq (tt:TT)(te:TE)(a:Addr):TS:=fun D σ H=>tt σ H fun b H1=>if b=true then te σ H1 fun y H2=>∃ ys,H2 a=some (.lst ys)/\ys.length<sizeLine/\D.nx σ (aY H2 a (.lst (ys++[y]))) else D.nx σ H1
def nC (J:It)(g:TG)(tb:TS)(D:fW)(σ:St)(H:Hp):Prop:=∃ W:Nat->Nat->St->Hp->Prop,(∃ m,W 0 m σ H)/\∀ i m σ H,W i m σ H ->
 (J.stop i H/\D.nx σ H)\/(J.go i H/\∃ N:St->Hp->Prop,(∀ σ' H',N σ' H'->∃ m',m'<m/\W (i+1) m' σ' H')/\∀ x H',J.yld i H x H'->g x σ H' fun σ2 H2=>tb { D with nx:=N,ct:=N,bk:=D.nx } σ2 H2)
def vj (wi:TI)(g:TG)(tt:TT)(te:TE)(src:List (Option Nat)):TE:=fun σ H Q=>wi σ H fun J H1=>∀ a,H1 a=none ->
 nC J g (uq tt te a) { nx:=fun _ H'=>Q (.ref a) H',rt:=fun _ _=>False } (gS src σ) (aY H1 a (.lst []))
theorem pI {X:Cx}{pins:List (Addr×Obj)}{σ:St}{H:Hp}{s:Shared}{sc so:Scope}{N':List Str}{src:List (Option Nat)}{cl:List (Str×Addr)}{fp:List Addr}{h':Heap}
  (I:ay X pins σ H s) (hso:X.env.scope=so) (S:o5 so sc X.N N' src) (q1:∀ x c,cl.lookup x=some c->X.env.cells.lookup x=some c) (q3:∀ y∈sc.names,y.2=.free->∃ c,cl.lookup y.1=some c)
  (hf:∀ b∈fp,kA X pins H b) (hlt:∀ b∈fp,b<s.heap.objs.size) (hns:h'.Ns s.heap.objs.size fun _=>none) (hk:∀ b o,s.heap.get? b=some o->h'.get? b=some o) (tk:Nat) :
  ay (je X sc cl s.heap.objs.size N' s H fp) [] (gS src σ) H { s with heap:=h',toks:=tk }:=by
 have hb:∀ b∈fp,b≠s.heap.objs.size/\∀ x c,cl.lookup x=some c->c≠b:=fun b z=>⟨xK (hlt b z),fun x c e=>(hf b z).2.2.2.2.1 x c (q1 x c e)⟩
 refine⟨⟨I.ok.mod,?_,I.ok.glob,I.ok.blt,xm _,fun x y c h1 h2=>I.ok.inj x y c (q1 _ _ h1) (q1 _ _ h2),fun x hx=>?_,fun x c hx _=>(by cases hx),I.ok.hd,I.ok.frames,.inl rfl,hb,I.bs,xZ I.ok.bsz I.sz,fun b o e z=>?_,fun b z hz=>?_,I.stack,I.stkFree⟩,
  rfl,I.bare,Un.kept hk,⟨_,hns,fun i x v h1 h2 h3=>?_⟩,fun x c e=>?_,I.hok.fresh (xm _),fun x c e=>I.freeC x c (q1 x c e),fun p hp=>absurd (show p∈([]:List (Addr×Obj)) from hp) (by simp),I.hok.kept hk,?_⟩
 ·show (relabel sc X.env).kind=_
  exact S.kind
 ·have hx':(x,NameKind.free)∈sc.names:=gy S.nocell hx
  exact q3 _ hx' rfl
 ·rcases (hf b z).2.2.2.1 with y | y
  ·exact I.ok.noex b o e y
  ·exact absurd (xD (xz e) (xZ I.ok.bsz y)) (yK _)
 ·rcases xB.mp (I.stkSub b hz) with y | y
  ·exact (hf b z).2.1 y
  ·exact (hf b z).2.2.1 y
 ·-- the captured names
  have h1':N'[i]? = some x:=h1;have h2':(gS src σ)[i]? = some (some v):=h2;unfold gS at h2';rw[List.getElem?_map]at h2'
  cases hs:src[i]? with
  | none=>rw[hs]at h2';cases h2'
  | some o =>
   rw[hs]at h2';have h2'':(o.bind fun j=>(σ[j]?).join)=some v:=xE h2'
   cases o with
   | none=>cases h2''
   | some j =>
    have hj:(σ[j]?).join=some v:=h2''
    have hσ:σ[j]? = some (some v):=by
     cases e:σ[j]? with
     | none=>rw[e]at hj;cases hj
     | some z=>rw[e]at hj;rw[show z=some v from hj]
    have hzip:(x,some j)∈N'.zip src:=by
     have:(N'.zip src)[i]? = some (x,some j):=by
      rw[List.getElem?_zip_eq_some];exact⟨h1',hs⟩
     exact xO this
    have hc:=x0 (S.cap _ hzip);obtain⟨hN,hfr⟩:X.N[j]? = some x/\sc.names.lookup x=some .free:=hc;have hmem:(x,NameKind.free)∈sc.names:=yo hfr;have hvis:=S.fre _ hmem rfl;rw[<-hso]at hvis;obtain⟨m,hn,hl⟩:=I.loc;obtain⟨u,ru,lk⟩:=hl j x v hN hσ (.inr hvis);refine⟨u,ru,.inr ⟨fD hfr,?_⟩⟩;obtain⟨c,hcl⟩:=q3 _ hmem rfl;refine⟨c,hcl,?_⟩;rcases lk with ⟨k,_⟩ | ⟨_,c',e',z⟩
    ·have k:X.env.scope.names.lookup x=some .local:=k
     rcases hvis with y | y<;>(rw[k]at y;cases y)
    ·have:=q1 x c hcl
     rw[e']at this;cases this;obtain⟨ob,e1,e2⟩:=z;exact⟨ob,hk _ _ e1,e2⟩
 ·obtain⟨v,ob,e1,e2⟩:=I.cell x c (q1 x c e)
  exact⟨v,ob,hk _ _ e1,e2⟩
 ·show (gS src σ).length=N'.length
  unfold gS;rw[xk];exact S.len
theorem lR {X:Cx}{pins:List (Addr×Obj)}{σ:St}{H:Hp}{s:Shared}{l:Addr}{xs:List V}{y:V}{u:Value}{E:Value->Shared->Prop}(I:ay X pins σ H s)(hH:H l=some (.lst xs))(hz:xs.length<sizeLine)(ru:aQ y u) :
  wpAny (model X.prog X.w) X.A (call (.builtin "list.append") [.ref l,u]) (fun _ s'=>ay X pins σ (aY H l (.lst (xs++[y]))) s') E s:=by
 obtain⟨z,its,n,r,hl,e⟩:=I.lstM hH;refine call_meets F.slot_list_append ⟨_,e,rfl⟩ F.entry_list_append (F.args_list_append_2 _ _) (PySem.list_append l its.toArray n u (by rw[xy];omega)) ⟨e,?_⟩;refine I.lset (its':=its++[u]) hH e (by simp) (r.append (.cons ru .nil)) ?_;rw[xv,xR];omega
theorem bM {X:Cx}{elt tg iter:Expr}{ifs:List Expr}{sc so:Scope}{pos:Pos}{N':List Str}{src:List (Option Nat)}{wi:TI}{g:TG}{tt:TT}{te:TE}{N:List Str}(hso:X.env.scope=so)(hXN:X.N=N)(S:o5 so sc N N' src)(hc:X.calm=true)(hi:PI X tg iter wi)
  (hb:∀ (cl:List (Str×Addr))(C:Addr)(s:Shared)(H:Hp)(ex:List Addr),PG (je X sc cl C N' s H ex) tg g/\wH (je X sc cl C N' s H ex) ifs tt/\PE (je X sc cl C N' s H ex) elt te)
  (hs:∀ x,foldedSetIterable iter X.env x=pure x:=by intro _;rfl):PE X (.ListComp elt [⟨tg,iter,ifs,0⟩] sc pos) (vj wi g tt te src):=by
 subst hXN;intro pins s σ H Q I h
 obtain⟨cl,hcl,q1,q3⟩:=mR (sc:=sc) (env:=X.env) fun y hy hf=>by
  have:=S.fre y hy hf;rw[<-hso]at this;exact I.ok.has y.1 this
 rw[eval_ListComp];refine wpAny_comprehension_free (use:=none) rfl hs hcl S.kind S.loc (bv (hi pins s σ H _ I h) fun v s1 h1=>bv h1 fun itv s2 h2=>?_);obtain⟨it,fp,tn,J,H2,e,I2,T,st2,f2,hR⟩:=h2;subst e;refine yz ?_
 have I3:ay X pins σ (aY H2 s2.heap.objs.size (.lst [])) { s2 with heap:=s2.heap.push { cls:=.type "list",dict:=none,data:=.seq ([]:List Value).toArray } } :=
  I2.laid (t':=s2.toks) (fun b u q=>Heap.get?_push_of_some _ q) (xm _) ⟨xX _,[],0,.nil,Heap.get?_push_size _ rfl⟩
 have hfr:=I2.hok.fresh (xm s2.heap.objs.size);obtain⟨W,⟨m0,w0⟩,turn⟩:=hR _ hfr
 have flt:∀ b∈fp,b<s2.heap.objs.size:=fun b hb=>by obtain⟨o,e,_⟩:=T.obj _ _ st2 b hb;exact xz e
 generalize hs3:({ s2 with heap:=s2.heap.push { cls:=.type "list",dict:=none,data:=.seq ([]:List Value).toArray } }:Shared)=s3 at I3 ⊢
 have e3:s3.heap=s2.heap.push { cls:=.type "list",dict:=none,data:=.seq ([]:List Value).toArray }:=by rw[<-hs3]
 have sz3:s3.heap.objs.size=s2.heap.objs.size+1:=by rw[e3,Heap.size_push]
 have hf3:∀ b∈fp,kA X pins (aY H2 s2.heap.objs.size (.lst [])) b:=fun b hb=>⟨by rw[aE (xK (flt b hb))];exact (f2 b hb).1,(f2 b hb).2⟩
 have flt3:∀ b∈fp,b<s3.heap.objs.size:=fun b hb=>by rw[sz3];exact Nat.lt_succ_of_lt (flt b hb)
 have st3:tn 0 s3.heap:=T.keep _ _ _ st2 fun b _ o e=>by rw[e3];exact Heap.get?_push_of_some _ e
 refine wpAny_newFunctionEnv S.nocell (by intro y hy;simp at hy) (fun h4 hns4 hsb4=>?_) S.kind;have kp4:∀ b o,s3.heap.get? b=some o->h4.get? b=some o:=fun b o e=>hsb4.extBut b o (xK (xz e)) (Heap.get?_push_of_some _ e);have I4:=pI (h':=h4) I3 hso S q1 q3 hf3 flt3 (by simpa using hns4) kp4 (s3.toks+([]:List (Str×Value)).length);have st4:tn 0 h4:=T.keep _ _ _ st3 fun b _ o e=>kp4 b o e;generalize hC:s3.heap.objs.size=C at I4 hns4 hsb4 ⊢;obtain⟨hg,ht,he⟩:=hb cl C s3 (aY H2 s2.heap.objs.size (.lst [])) fp
 let Y:Cx:=je X sc cl C N' s3 (aY H2 s2.heap.objs.size (.lst [])) fp
 have loop:∀ s5:Shared,s5={ s3 with heap:=h4,toks:=s3.toks+([]:List (Str×Value)).length }->codeAny (model X.prog X.w) X.A (.compLoop (.ListComp elt [⟨tg,iter,ifs,0⟩] sc pos) 0 (.ref it) (.ref s2.heap.objs.size) (compEnvC sc cl C X.env))
   (compPost (model X.prog X.w) X.A X.xe none (EP X pins σ Q) (.ref s2.heap.objs.size) C) s5:=by
  rintro s5 rfl
  have stat:∀ {H':Hp},(∀ b∈fp,H' b=none)->∀ b∈fp,kA Y [] H' b:=fun {H'} hn b hb=>by
   obtain⟨f0,f1,f2',f3,f4,f5⟩:=hf3 b hb;refine⟨hn b hb,?_,fun z=>?_,.inl hb,fun x c e=>f4 x c (q1 x c e),fun p hp=>absurd (show p∈([]:List (Addr×Obj)) from hp) (by simp)⟩
   ·show b≠C
    rw[<-hC];exact xK (flt3 b hb)
   ·have z:b∈dj X.stack:=z
    rcases xB.mp (I3.stkSub b z) with y | y
    ·exact f1 y
    ·exact f2' y
  refine eJ (fun n s'=>∃ i σ' H',ay Y [] σ' H' s'/\tn i s'.heap/\(∀ b∈fp,H' b=none)/\W i n σ' H') ?_ m0 ⟨0,_,_,I4,st4,fun b hb=>(hf3 b hb).1,w0⟩;rintro n s6 ⟨i,σ6,H6,I6,st6,fr6,w6⟩;rcases turn i n σ6 H6 w6 with ⟨stop,qn⟩ | ⟨go,Nx,hN,step⟩
  ·refine bv (T.done Y rfl rfl rfl hc i [] s6 σ6 H6 _ I6 (stat fr6) st6 stop) fun r s7 ⟨hr,I7⟩=>?_
   subst hr;obtain⟨m,hn,_⟩:=id I7.loc;refine⟨m,hn,fun h' hsb=>?_⟩
   have neC:∀ b o,s3.heap.get? b=some o->b≠C:=fun b o e=>by rw[<-hC];exact xK (xz e)
   have freeC:H6 C=none:=I7.free
   have un:Un (dj X.stack) fp (aY H2 s2.heap.objs.size (.lst [])) H6 s3.heap h' :=
    ⟨fun b o e n hb hx=>(hsb.2 b (neC b o e)).trans (I7.base.keep b o e n hb hx),fun b o e n hb hx=>by
      obtain⟨sl,q⟩:=I7.base.slot b o e n hb hx
      exact⟨sl,(hsb.2 b (neC b o e)).trans q⟩,I7.base.free,fun b o e hx=>by
      obtain⟨o',q⟩:=I7.base.there b o e hx
      exact⟨o',(hsb.2 b (neC b o e)).trans q⟩,I7.base.tups,I7.base.frzs,I7.base.tbls⟩
   have hok:fT X.prog X.w H6 h':=fun b ob e=>by
    refine (I7.hok b ob e).stay (fun c w' hc' q=>(hsb.2 c ?_).trans q) (fun _ q=>q) fun _ _ q=>q;rintro rfl;rcases hc' with z | z
    ·rw[<-z,freeC]at e;cases e
    ·rw[freeC]at z;cases z
   have J7:ay X pins σ H6 { s7 with heap:=h' }:=I3.call' (ch:=fp) (s':={ s7 with heap:=h' }) I7.os un hok I7.bare fun b hb=>⟨(hf3 b hb).2.2.2.1,(hf3 b hb).2.1,(hf3 b hb).2.2.2.2.1,(hf3 b hb).2.2.2.2.2⟩;exact⟨.ref s2.heap.objs.size,H6,J7,rfl,qn⟩
  ·refine bv (T.item Y rfl rfl rfl hc i [] s6 σ6 H6 _ I6 (stat fr6) st6 go) fun r s7 ⟨u,hr,h7⟩=>?_
   subst hr;refine bv h7 fun _ s8 ⟨x,H8,I8,r8,y8,st8,fr8⟩=>?_;have I8':=I8.pinned (stat fr8) (T.obj _ _ st8);refine bv (hg _ s8 σ6 H8 x u _ I8' r8 (step x H8 y8)) fun _ s9 ⟨σ9,H9,I9,q9⟩=>?_
   have again:∀ {s':Shared}{σ7:St}{H7:Hp},ay Y ([]++jE fp s8.heap) σ7 H7 s'->Nx σ7 H7->∃ m,m<n/\∃ i σ' H',ay Y [] σ' H' s'/\tn i s'.heap/\(∀ b∈fp,H' b=none)/\W i m σ' H':=fun {s' σ7 H7} I7 n7=>by
    obtain⟨m',hm,w7⟩:=hN σ7 H7 n7;refine⟨m',hm,i+1,σ7,H7,I7.unpinned,T.keep _ _ _ st8 fun b hb o e=>(I7.pin (b,o) (xV _ (xV _ (dY hb e)))).1,fun b hb=>?_,w7⟩;obtain⟨o,e,d⟩:=T.obj _ _ st8 b hb;exact (I7.pin (b,o) (xV _ (xV _ (dY hb e)))).2.1
   refine bv (ht _ s9 σ9 H9 _ I9 q9) fun ok s10 ⟨H10,I10,q10⟩=>?_
   cases ok with
   | false =>
    rw[xx xu]at q10 ⊢;exact again I10 q10
   | true =>
    rw[xA rfl]at q10 ⊢;refine bv (he _ s10 σ9 H10 _ I10 q10) fun y s11 ⟨yv,H11,I11,ry,ys,hys,hlen,q11⟩=>?_;exact bv (lR (X:=Y) I11 hys hlen ry) fun _ s12 I12=>again I12 q11
 exact codeAny_compStart_list (loop _ rfl) (T.self _ 0 _ _ _ st4 (loop _ rfl))
section
variable {X:Cx}
def uu (i j:Int):Prop:=0<j/\j<1152921504606846976
theorem pW:fJ X (binaryOp .FloorDiv) (rI uu fun i j=>.int (i/j)):=uR fun i j _ _ _ _ _ hc q=>by
 have h1:(0:Int)<j:=hc.1;have h2:j<1152921504606846976:=hc.2;refine floordiv_int (by omega) (by rw[Int.fdiv_eq_ediv_of_nonneg i (by omega)];exact q) (.inl (PyProof.noPylong_of_log2 ?_))
 have h0:j.natAbs≠0:=by omega
 have:j.natAbs.log2<60:=(Nat.log2_lt h0).mpr (by omega);omega
theorem pc:dG X (.builtin "isinstance") (fun xs H Q=>∃ x T t b,xs=[x,.ty T]/\fY X.K H x t/\PySem.W.kitOne X.K t (.type T)=some b/\Q (.bl b) H):=by
 intro pins s σ H xs us Q I r h;obtain⟨x,T,t,b,rfl,ty,e,q⟩:=h
 cases r with
 | cons rx r2 =>
  cases r2 with
  | cons rt r3 =>
   cases r3;cases rt;exact oC I rx ty e fun tk=>⟨.bl b,H,I.tok tk,rfl,q⟩
theorem mH {A:Around}{bs:List Bool}{its:List Value}(r:aH (bs.map V.bl) its) :
  TruthOf X.prog X.w A (fun i v=>its.toArray[i]? = some v) (fun i=>bs.getD i false):=by
 intro i v s Q E hv hq
 have hv':its[i]? = some v:=by simpa using hv
 have hi:i<its.length:=(List.getElem?_eq_some_iff.mp hv').1;have hl:=r.length;rw[xk]at hl;obtain⟨u,hu,ru⟩:=r.get (i:=i) (x:=V.bl (bs[i]'(by omega))) (by rw[List.getElem?_map,List.getElem?_eq_getElem (by omega)];rfl);rw[hv']at hu;cases hu;cases ru
 have e:bs.getD i false=bs[i]'(by omega):=by simp[List.getD,List.getElem?_eq_getElem (show i<bs.length by omega)]
 have hq':Q (bs.getD i false) s:=hq;rw[e]at hq';exact yk hq'
theorem oU (bs:List Bool):(List.range bs.length).all (fun i=>bs.getD i false)=bs.all id:=by
 have h:(List.range bs.length).map (fun i=>bs.getD i false)=bs:=by
  apply List.ext_getElem
  ·simp
  ·intro i h1 h2;simp[List.getD,List.getElem?_eq_getElem h2]
 have e:(List.range bs.length).all (fun i=>bs.getD i false)=((List.range bs.length).map (fun i=>bs.getD i false)).all id:=by rw[List.all_map];rfl
 rw[e,h]
theorem kj {pins:List (Addr×Obj)}{σ:St}{H:Hp}{s:Shared}{A:Around}{E:Value->Shared->Prop}{p:Addr}{xs:List V}{its:List Value}{R:Value->Shared->Prop}(I:ay X pins σ H s)(hA:A.handled=none)(pl:PlainL s.heap p its.toArray)
  (h:∀ (I':Addr)(St:Nat->Heap->Prop)(s2:Shared),s2.heap.objs.size=s.heap.objs.size+1->I'=s.heap.objs.size->Walks X.prog X.w A I' [I',p] [I'] its.length (fun i v=>its.toArray[i]? = some v) St->St 0 s2.heap->(∀ b o,s.heap.get? b=some o->s2.heap.get? b=some o)->(∀ h' tk,(∀ b o,b∉[I']->s2.heap.get? b=some o->h'.get? b=some o)->ay X pins σ H { s2 with heap:=h',toks:=tk })->R (.ref I') s2) :
  wpAny (model X.prog X.w) A (pyIter (.ref p)) R E s:=by
 refine wpAny_pyIter_list pl.isList ?_
 have hlt:p<s.heap.objs.size:=by obtain⟨o,n,e,_⟩:=pl;exact xz e
 have W:=Walks.list (prog:=X.prog) (w:=X.w) hA s.heap.objs.size p (xK hlt) its.toArray;rw[xy]at W;refine h _ _ _ (by rw[Heap.size_push]) rfl W ⟨⟨_,Heap.get?_push_size _ rfl,rfl,rfl⟩,pl.isList.at fun o e=>Heap.get?_push_of_some _ e⟩ (fun b o e=>Heap.get?_push_of_some _ e) fun h' tk kp=>?_;exact I.kept (t':=tk) fun b o e=>kp b o (by simpa using xK (xz e)) (Heap.get?_push_of_some _ e)
theorem gQ (hc:X.calm=true):dG X (.builtin "all") (fun xs H Q=>∃ (p:Addr)(bs:List Bool),xs=[.ref p]/\bd X.K H p (bs.map V.bl)/\Q (.bl (bs.all id)) H):=by
 intro pins s σ H xs us Q I r h;obtain⟨p,bs,rfl,hq,q⟩:=h;obtain⟨u,rfl,rx⟩:=eA r;cases rx;obtain⟨its,rv,pl,hz⟩:=I.list hq;have hl:=rv.length;rw[xk]at hl;refine call_all_walk (kj (xs:=bs.map V.bl) I (I.ok.hd hc) pl fun I' St s2 hs2 hI W st kp fin=>?_);refine⟨I',_,_,_,_,St,_,rfl,W,st,mH rv,fun h' tk k=>⟨.bl _,H,fin h' tk k,rfl,?_⟩⟩;rw[<-hl,oU];exact q
theorem gg:∀ {ns:List Int}{us:List Value},aH (ns.map V.int) us->IntsAre us ns
 | [],_,r=>by cases r;exact IntsAre.nil
 | n::ns,_,r=>by
  cases r with
  | cons r t=>obtain⟨tk,rfl⟩:=r;exact IntsAre.cons _ _ (gg t)
end
inductive Dt where
 | at (v:V)
 | sq (tup:Bool) (ds:List Dt)
def iC:V->Bool
 | .non=>true
 | .int _=>true
 | .str _=>true
 | _=>false
theorem jf {v:V}(h:iC v=true):fA v=true:=by cases v<;>first | rfl | cases h
theorem qZ {x y:V}(hx:iC x=true)(hy:iC y=true):mS x y=true↔x=y:=by
 cases x<;>cases y<;>first | (cases hx;done) | (cases hy;done) | simp[mS]
def iS (K:PySem.W.Frag)(H:Hp)(t:Bool)(a:Addr)(xs:List V):Prop:=if t=true then aW K H a xs else bd K H a xs
def RD (K:PySem.W.Frag)(H:Hp):Nat->V->Dt->Prop
 | 0,v,d=>iC v=true/\d=.at v
 | n+1,v,d=>(iC v=true/\d=.at v)\/∃ a t xs ds,v=.ref a/\d=.sq t ds/\iS K H t a xs/\Paired (RD K H n) xs ds
theorem RD.flat {K:PySem.W.Frag}{H:Hp}{v:V}(h:iC v=true):∀ n,RD K H n v (.at v)
 | 0=>⟨h,rfl⟩
 | _+1=>.inl ⟨h,rfl⟩
theorem RD.tup {K:PySem.W.Frag}{H:Hp}{a:Addr}{xs:List V}{ds:List Dt}{n:Nat}(h:aW K H a xs)(r:Paired (RD K H n) xs ds):RD K H (n+1) (.ref a) (.sq true ds) :=
 .inr ⟨a,true,xs,ds,rfl,rfl,by unfold iS;rw[xA rfl];exact h,r⟩
section
variable {X:Cx}{pins:List (Addr×Obj)}{σ:St}{H:Hp}{s:Shared}
theorem RD.inj (I:ay X pins σ H s):∀ {n m:Nat}{v:V}{d e:Dt},RD X.K H n v d->RD X.K H m v e->d=e:=by
 intro n
 induction n with
 | zero =>
  intro m v d e h1 h2;obtain⟨f,rfl⟩:=h1
  cases m with
  | zero=>exact h2.2.symm
  | succ m =>
   rcases h2 with h2 | ⟨a,t,xs,ds,rfl,_⟩
   ·exact h2.2.symm
   ·cases f
 | succ n ih =>
  intro m v d e h1 h2;rcases h1 with h1 | ⟨a,t,xs,ds,rfl,rfl,q,r⟩
  ·obtain⟨f,rfl⟩:=h1
   cases m with
   | zero=>exact h2.2.symm
   | succ m =>
    rcases h2 with h2 | ⟨a,t,xs,ds,rfl,_⟩
    ·exact h2.2.symm
    ·cases f
  ·cases m with
   | zero=>cases h2.1
   | succ m =>
    rcases h2 with h2 | ⟨a',t',xs',ds',ea,rfl,q',r'⟩
    ·cases h2.1
    ·cases ea
     have pr:∀ {l:List V}{l1 l2:List Dt},Paired (RD X.K H n) l l1->Paired (RD X.K H m) l l2->l1=l2:=by
      intro l
      induction l with
      | nil=>intro l1 l2 p1 p2;cases p1;cases p2;rfl
      | cons z l ihl =>
       intro l1 l2 p1 p2
       cases p1 with
       | cons r1 t1 =>
        cases p2 with
        | cons r2 t2=>rw[ih r1 r2,ihl t1 t2]
     cases t with
     | false =>
      have q:bd X.K H a xs:=by unfold iS at q;rwa [xx xu]at q
      cases t' with
      | false =>
       have q':bd X.K H a xs':=by unfold iS at q';rwa [xx xu]at q'
       have:=I.list_inj q q';subst this;rw[pr r r']
      | true =>
       have q':aW X.K H a xs':=by unfold iS at q';rwa [xA rfl]at q'
       obtain⟨_,_,p1,_⟩:=I.list q;obtain⟨_,_,p2,_⟩:=I.tuple q';exact absurd rfl (SeqAt.ne_of_list_tuple p1.isList p2)
     | true =>
      have q:aW X.K H a xs:=by unfold iS at q;rwa [xA rfl]at q
      cases t' with
      | false =>
       have q':bd X.K H a xs':=by unfold iS at q';rwa [xx xu]at q'
       obtain⟨_,_,p1,_⟩:=I.tuple q;obtain⟨_,_,p2,_⟩:=I.list q';exact absurd rfl (SeqAt.ne_of_list_tuple p2.isList p1)
      | true =>
       have q':aW X.K H a xs':=by unfold iS at q';rwa [xA rfl]at q'
       have:=I.tuple_inj q q';subst this;rw[pr r r']
theorem qe (I:ay X pins σ H s):∀ (n:Nat){A:Around}{l b:Addr}{d e:Dt},A.units+n<cLine->RD X.K H (n+1) (.ref l) d->RD X.K H (n+1) (.ref b) e ->
  (∀ {A:Around}{y x:V}{u v:Value}{d e:Dt},A.units+n<cLine+1->RD X.K H n y d->RD X.K H n x e->aQ y u->aQ x v->∃ k:Bool,(k=true↔d=e)/\SeqAt.EqAt A s u v k) ->
  ∃ k:Bool,(k=true↔d=e)/\SeqAt.RcAt A s (.ref l) (.ref b) k:=by
 intro n A l b d e hu h1 h2 ih;rcases h1 with h1 | ⟨a,t,xs,ds,ea,rfl,q,r⟩
 ·cases h1.1
 cases ea;rcases h2 with h2 | ⟨a',t',xs',ds',ea,rfl,q',r'⟩
 ·cases h2.1
 cases ea
 have pw:∀ {us us':List Value},aH xs us->aH xs' us'->∃ ks:Nat->Bool,(∀ j (h1:j<us.length) (h2:j<us'.length),SeqAt.EqAt A.in1 s us[j] us'[j] (ks j)) /\
   (∀ j d1 d2,ds[j]? = some d1->ds'[j]? = some d2->(ks j=true↔d1=d2)):=by
  intro us us' rv rv'
  have ex:∀ j:Nat,∃ k:Bool,(∀ (h1:j<us.length)(h2:j<us'.length),SeqAt.EqAt A.in1 s us[j] us'[j] k)/\(∀ d1 d2,ds[j]? = some d1->ds'[j]? = some d2->(k=true↔d1=d2)):=by
   intro j
   by_cases hj:j<us.length/\j<us'.length
   ·obtain⟨h1,h2⟩:=hj
    have l1:=rv.length;have l2:=rv'.length;have l3:=xN r;have l4:=xN r';have gx:xs[j]? = some xs[j]:=List.getElem?_eq_getElem (by omega);have gx':xs'[j]? = some xs'[j]:=List.getElem?_eq_getElem (by omega);obtain⟨u,eu,ru⟩:=rv.get gx;obtain⟨u',eu',ru'⟩:=rv'.get gx'
    have eu2:us[j]=u:=by rw[List.getElem?_eq_getElem h1]at eu;exact xE eu
    have eu2':us'[j]=u':=by rw[List.getElem?_eq_getElem h2]at eu';exact xE eu'
    have pget:∀ {m:Nat}{zs:List V}{es:List Dt}(j:Nat){z:V},Paired (RD X.K H m) zs es->zs[j]? = some z->∃ f,es[j]? = some f/\RD X.K H m z f:=by
     intro m zs
     induction zs with
     | nil=>intro es j z p hz;simp at hz
     | cons z0 zs ihz =>
      intro es j z p hz
      cases p with
      | cons p1 p2 =>
       cases j with
       | zero=>simp at hz;subst hz;exact⟨_,rfl,p1⟩
       | succ j=>obtain⟨f,e1,e2⟩:=ihz j p2 (by simpa using hz);exact⟨f,by simpa using e1,e2⟩
    obtain⟨f,ef,rf⟩:=pget j r gx;obtain⟨f',ef',rf'⟩:=pget j r' gx';obtain⟨k,hk,he⟩:=ih (A:=A.in1) (by show A.units+1+n<cLine+1;omega) rf rf' ru ru';refine⟨k,fun _ _=>by rw[eu2,eu2'];exact he,fun d1 d2 e1 e2=>?_⟩;rw[ef]at e1;rw[ef']at e2;cases e1;cases e2;exact hk
   ·refine⟨false,fun h1 h2=>absurd ⟨h1,h2⟩ hj,fun d1 d2 e1 e2=>?_⟩
    have l1:=rv.length;have l2:=rv'.length;have l3:=xN r;have l4:=xN r';have:=(List.getElem?_eq_some_iff.mp e1).1;have:=(List.getElem?_eq_some_iff.mp e2).1;exact absurd ⟨by omega,by omega⟩ hj
  exact⟨fun j=>Classical.choose (ex j),fun j h1 h2=>(Classical.choose_spec (ex j)).1 h1 h2,fun j=>(Classical.choose_spec (ex j)).2⟩
 have allEq:∀ (ks:Nat->Bool),(∀ j d1 d2,ds[j]? = some d1->ds'[j]? = some d2->(ks j=true↔d1=d2))->ds.length=ds'.length->((List.range ds.length).all ks=true↔ds=ds'):=by
  intro ks hk hl;rw[xT];constructor
  ·intro h
   apply List.ext_getElem hl
   intro j h1 h2;exact (hk j _ _ (List.getElem?_eq_getElem h1) (List.getElem?_eq_getElem h2)).mp (h j (yA.mpr h1))
  ·rintro rfl j hj
   have h1:=yA.mp hj;exact (hk j _ _ (List.getElem?_eq_getElem h1) (List.getElem?_eq_getElem h1)).mpr rfl
 have l3:=xN r;have l4:=xN r'
 cases t with
 | false =>
  have q:bd X.K H l xs:=by unfold iS at q;rwa [xx xu]at q
  obtain⟨us,rv,p1,_⟩:=I.list q;have l1:=rv.length
  cases t' with
  | true =>
   have q':aW X.K H b xs':=by unfold iS at q';rwa [xA rfl]at q'
   obtain⟨us',rv',p2,_⟩:=I.tuple q';exact⟨false,by simp,SeqAt.RcAt.list_tuple p1.isList p2 (by omega)⟩
  | false =>
   have q':bd X.K H b xs':=by unfold iS at q';rwa [xx xu]at q'
   obtain⟨us',rv',p2,_⟩:=I.list q';have l2:=rv'.length
   by_cases hl:us.length=us'.length
   ·obtain⟨ks,he,hk⟩:=pw rv rv'
    refine⟨(List.range us.toArray.size).all ks,?_,SeqAt.RcAt.lists p1.isList p2.isList (by simpa using hl) (by omega) fun j h1 h2=>by simpa using he j (by simpa using h1) (by simpa using h2)⟩;rw[xy,show us.length=ds.length by omega,allEq ks hk (by omega)];constructor
    ·rintro rfl;rfl
    ·intro h;injection h
   ·refine⟨false,?_,SeqAt.RcAt.lists_lengths p1.isList p2.isList (by simpa using hl) (by omega)⟩
    constructor
    ·intro h;cases h
    ·intro h
     injection h with _ h;exact absurd (by rw[<-l1,l3,h,<-l4,l2]) hl
 | true =>
  have q:aW X.K H l xs:=by unfold iS at q;rwa [xA rfl]at q
  obtain⟨us,rv,p1,_⟩:=I.tuple q;have l1:=rv.length
  cases t' with
  | false =>
   have q':bd X.K H b xs':=by unfold iS at q';rwa [xx xu]at q'
   obtain⟨us',rv',p2,_⟩:=I.list q';exact⟨false,by simp,SeqAt.RcAt.tuple_list p1 p2.isList (by omega)⟩
  | true =>
   have q':aW X.K H b xs':=by unfold iS at q';rwa [xA rfl]at q'
   obtain⟨us',rv',p2,_⟩:=I.tuple q';have l2:=rv'.length;obtain⟨ks,he,hk⟩:=pw rv rv';refine⟨_,?_,SeqAt.RcAt.tuples (e:=ks) (show s.heap.IsTuple l us.toArray from p1) (show s.heap.IsTuple b us'.toArray from p2) (by omega) fun j h1 h2=>by simpa using he j (by simpa using h1) (by simpa using h2)⟩
   by_cases hl:us.length=us'.length
   ·rw[xy,xy,<-hl,Nat.min_self,beq_self_eq_true,Bool.and_true,show us.length=ds.length by omega,allEq ks hk (by omega)]
    constructor
    ·rintro rfl;rfl
    ·intro h;injection h
   ·have:(us.toArray.size == us'.toArray.size)=false:=by simpa using hl
    rw[this,Bool.and_false];constructor
    ·intro h;cases h
    ·intro h
     injection h with _ h;exact absurd (by rw[<-l1,l3,h,<-l4,l2]) hl
theorem qf (I:ay X pins σ H s):∀ (n:Nat){A:Around}{l b:Addr}{d e:Dt},A.units+n<cLine->RD X.K H (n+1) (.ref l) d->RD X.K H (n+1) (.ref b) e ->
  (∀ {A:Around}{y x:V}{u v:Value}{d e:Dt},A.units+n<cLine+1->RD X.K H n y d->RD X.K H n x e->aQ y u->aQ x v->∃ k:Bool,(k=true↔d=e)/\SeqAt.EqAt A s u v k) ->
  ∃ k:Bool,(k=true↔d=e)/\SeqAt.RcNeAt A s (.ref l) (.ref b) (!k):=by
 intro n A l b d e hu h1 h2 ih;rcases h1 with h1 | ⟨a,t,xs,ds,ea,rfl,q,r⟩
 ·cases h1.1
 cases ea;rcases h2 with h2 | ⟨a',t',xs',ds',ea,rfl,q',r'⟩
 ·cases h2.1
 cases ea
 have pw:∀ {us us':List Value},aH xs us->aH xs' us'->∃ ks:Nat->Bool,(∀ j (h1:j<us.length) (h2:j<us'.length),SeqAt.EqAt A.in1 s us[j] us'[j] (ks j)) /\
   (∀ j d1 d2,ds[j]? = some d1->ds'[j]? = some d2->(ks j=true↔d1=d2)):=by
  intro us us' rv rv'
  have ex:∀ j:Nat,∃ k:Bool,(∀ (h1:j<us.length)(h2:j<us'.length),SeqAt.EqAt A.in1 s us[j] us'[j] k)/\(∀ d1 d2,ds[j]? = some d1->ds'[j]? = some d2->(k=true↔d1=d2)):=by
   intro j
   by_cases hj:j<us.length/\j<us'.length
   ·obtain⟨h1,h2⟩:=hj
    have l1:=rv.length;have l2:=rv'.length;have l3:=xN r;have l4:=xN r';have gx:xs[j]? = some xs[j]:=List.getElem?_eq_getElem (by omega);have gx':xs'[j]? = some xs'[j]:=List.getElem?_eq_getElem (by omega);obtain⟨u,eu,ru⟩:=rv.get gx;obtain⟨u',eu',ru'⟩:=rv'.get gx'
    have eu2:us[j]=u:=by rw[List.getElem?_eq_getElem h1]at eu;exact xE eu
    have eu2':us'[j]=u':=by rw[List.getElem?_eq_getElem h2]at eu';exact xE eu'
    have pget:∀ {m:Nat}{zs:List V}{es:List Dt}(j:Nat){z:V},Paired (RD X.K H m) zs es->zs[j]? = some z->∃ f,es[j]? = some f/\RD X.K H m z f:=by
     intro m zs
     induction zs with
     | nil=>intro es j z p hz;simp at hz
     | cons z0 zs ihz =>
      intro es j z p hz
      cases p with
      | cons p1 p2 =>
       cases j with
       | zero=>simp at hz;subst hz;exact⟨_,rfl,p1⟩
       | succ j=>obtain⟨f,e1,e2⟩:=ihz j p2 (by simpa using hz);exact⟨f,by simpa using e1,e2⟩
    obtain⟨f,ef,rf⟩:=pget j r gx;obtain⟨f',ef',rf'⟩:=pget j r' gx';obtain⟨k,hk,he⟩:=ih (A:=A.in1) (by show A.units+1+n<cLine+1;omega) rf rf' ru ru';refine⟨k,fun _ _=>by rw[eu2,eu2'];exact he,fun d1 d2 e1 e2=>?_⟩;rw[ef]at e1;rw[ef']at e2;cases e1;cases e2;exact hk
   ·refine⟨false,fun h1 h2=>absurd ⟨h1,h2⟩ hj,fun d1 d2 e1 e2=>?_⟩
    have l1:=rv.length;have l2:=rv'.length;have l3:=xN r;have l4:=xN r';have:=(List.getElem?_eq_some_iff.mp e1).1;have:=(List.getElem?_eq_some_iff.mp e2).1;exact absurd ⟨by omega,by omega⟩ hj
  exact⟨fun j=>Classical.choose (ex j),fun j h1 h2=>(Classical.choose_spec (ex j)).1 h1 h2,fun j=>(Classical.choose_spec (ex j)).2⟩
 have allEq:∀ (ks:Nat->Bool),(∀ j d1 d2,ds[j]? = some d1->ds'[j]? = some d2->(ks j=true↔d1=d2))->ds.length=ds'.length->((List.range ds.length).all ks=true↔ds=ds'):=by
  intro ks hk hl;rw[xT];constructor
  ·intro h
   apply List.ext_getElem hl
   intro j h1 h2;exact (hk j _ _ (List.getElem?_eq_getElem h1) (List.getElem?_eq_getElem h2)).mp (h j (yA.mpr h1))
  ·rintro rfl j hj
   have h1:=yA.mp hj;exact (hk j _ _ (List.getElem?_eq_getElem h1) (List.getElem?_eq_getElem h1)).mpr rfl
 have l3:=xN r;have l4:=xN r'
 cases t with
 | false =>
  have q:bd X.K H l xs:=by unfold iS at q;rwa [xx xu]at q
  obtain⟨us,rv,p1,_⟩:=I.list q;have l1:=rv.length
  cases t' with
  | true =>
   have q':aW X.K H b xs':=by unfold iS at q';rwa [xA rfl]at q'
   obtain⟨us',rv',p2,_⟩:=I.tuple q';exact⟨false,by simp,SeqAt.RcNeAt.list_tuple p1.isList p2 (by omega)⟩
  | false =>
   have q':bd X.K H b xs':=by unfold iS at q';rwa [xx xu]at q'
   obtain⟨us',rv',p2,_⟩:=I.list q';have l2:=rv'.length
   by_cases hl:us.length=us'.length
   ·obtain⟨ks,he,hk⟩:=pw rv rv'
    refine⟨(List.range us.toArray.size).all ks,?_,SeqAt.RcNeAt.lists p1.isList p2.isList (by simpa using hl) (by omega) fun j h1 h2=>by simpa using he j (by simpa using h1) (by simpa using h2)⟩;rw[xy,show us.length=ds.length by omega,allEq ks hk (by omega)];constructor
    ·rintro rfl;rfl
    ·intro h;injection h
   ·refine⟨false,?_,SeqAt.RcNeAt.lists_lengths p1.isList p2.isList (by simpa using hl) (by omega)⟩
    constructor
    ·intro h;cases h
    ·intro h
     injection h with _ h;exact absurd (by rw[<-l1,l3,h,<-l4,l2]) hl
 | true =>
  have q:aW X.K H l xs:=by unfold iS at q;rwa [xA rfl]at q
  obtain⟨us,rv,p1,_⟩:=I.tuple q;have l1:=rv.length
  cases t' with
  | false =>
   have q':bd X.K H b xs':=by unfold iS at q';rwa [xx xu]at q'
   obtain⟨us',rv',p2,_⟩:=I.list q';exact⟨false,by simp,SeqAt.RcNeAt.tuple_list p1 p2.isList (by omega)⟩
  | true =>
   have q':aW X.K H b xs':=by unfold iS at q';rwa [xA rfl]at q'
   obtain⟨us',rv',p2,_⟩:=I.tuple q';have l2:=rv'.length;obtain⟨ks,he,hk⟩:=pw rv rv';refine⟨(List.range (min us.toArray.size us'.toArray.size)).all ks&&us.toArray.size == us'.toArray.size,?_,SeqAt.RcNeAt.tuples (e:=ks) (show s.heap.IsTuple l us.toArray from p1) (show s.heap.IsTuple b us'.toArray from p2) (by omega) fun j h1 h2=>by simpa using he j (by simpa using h1) (by simpa using h2)⟩
   by_cases hl:us.length=us'.length
   ·rw[xy,xy,<-hl,Nat.min_self,beq_self_eq_true,Bool.and_true,show us.length=ds.length by omega,allEq ks hk (by omega)]
    constructor
    ·rintro rfl;rfl
    ·intro h;injection h
   ·have:(us.toArray.size == us'.toArray.size)=false:=by simpa using hl
    rw[this,Bool.and_false];constructor
    ·intro h;cases h
    ·intro h
     injection h with _ h;exact absurd (by rw[<-l1,l3,h,<-l4,l2]) hl
theorem pB (I:ay X pins σ H s):∀ (n:Nat){A:Around}{y x:V}{u v:Value}{d e:Dt},A.units+n<cLine+1->RD X.K H n y d->RD X.K H n x e->aQ y u->aQ x v->∃ k:Bool,(k=true↔d=e)/\SeqAt.EqAt A s u v k:=by
 intro n
 have flatCase:∀ {A:Around}{y x:V}{u v:Value},iC y=true->iC x=true->aQ y u->aQ x v->∃ k:Bool,(k=true↔Dt.at y=Dt.at x)/\SeqAt.EqAt A s u v k:=by
  intro A y x u v fy fx ry rx;refine⟨mS y x,?_,pC ry rx (jf fy) (jf fx)⟩;rw[qZ fy fx];constructor
  ·rintro rfl;rfl
  ·intro h;injection h
 induction n with
 | zero =>
  intro A y x u v d e hu h1 h2 ry rx;obtain⟨f1,rfl⟩:=h1;obtain⟨f2,rfl⟩:=h2;exact flatCase f1 f2 ry rx
 | succ n ih =>
  intro A y x u v d e hu h1 h2 ry rx;rcases id h1 with ⟨f1,rfl⟩ | ⟨a,t,xs,ds,rfl,rfl,q,r⟩
  ·rcases id h2 with ⟨f2,rfl⟩ | ⟨a',t',xs',ds',rfl,rfl,q',r'⟩
   ·exact flatCase f1 f2 ry rx
   ·cases rx
    refine⟨false,by simp,?_⟩
    cases t' with
    | false =>
     have q':bd X.K H a' xs':=by unfold iS at q';rwa [xx xu]at q'
     obtain⟨_,_,p,_⟩:=I.list q'
     cases y with
     | non=>cases ry;exact SeqAt.EqAt.none_list p.isList (by omega)
     | int _=>obtain⟨tk,rfl⟩:=ry;exact SeqAt.EqAt.int_list _ _ p.isList (by omega)
     | str _=>obtain⟨tk,rfl⟩:=ry;exact SeqAt.EqAt.str_list _ _ p.isList (by omega)
     | _=>cases f1
    | true =>
     have q':aW X.K H a' xs':=by unfold iS at q';rwa [xA rfl]at q'
     obtain⟨_,_,p,_⟩:=I.tuple q'
     cases y with
     | non=>cases ry;exact SeqAt.EqAt.none_tuple p (by omega)
     | int _=>obtain⟨tk,rfl⟩:=ry;exact SeqAt.EqAt.int_tuple _ _ p (by omega)
     | str _=>obtain⟨tk,rfl⟩:=ry;exact SeqAt.EqAt.str_tuple _ _ p (by omega)
     | _=>cases f1
  ·cases ry
   rcases id h2 with ⟨f2,rfl⟩ | ⟨a',t',xs',ds',rfl,rfl,q',r'⟩
   ·refine⟨false,by simp,?_⟩
    cases t with
    | false =>
     have q:bd X.K H a xs:=by unfold iS at q;rwa [xx xu]at q
     obtain⟨_,_,p,_⟩:=I.list q
     cases x with
     | non=>cases rx;exact SeqAt.EqAt.list_none p.isList (by omega)
     | int _=>obtain⟨tk,rfl⟩:=rx;exact SeqAt.EqAt.list_int _ _ p.isList (by omega)
     | str _=>obtain⟨tk,rfl⟩:=rx;exact SeqAt.EqAt.list_str _ _ p.isList (by omega)
     | _=>cases f2
    | true =>
     have q:aW X.K H a xs:=by unfold iS at q;rwa [xA rfl]at q
     obtain⟨_,_,p,_⟩:=I.tuple q
     cases x with
     | non=>cases rx;exact SeqAt.EqAt.tuple_none p (by omega)
     | int _=>obtain⟨tk,rfl⟩:=rx;exact SeqAt.EqAt.tuple_int _ _ p (by omega)
     | str _=>obtain⟨tk,rfl⟩:=rx;exact SeqAt.EqAt.tuple_str _ _ p (by omega)
     | _=>cases f2
   ·cases rx
    by_cases hab:a=a'
    ·subst hab
     exact⟨true,by rw[RD.inj I h1 h2];simp,SeqAt.EqAt.same _⟩
    ·obtain⟨k,hk,hr⟩:=qe I n (A:=A) (by omega) h1 h2 (fun hu'=>ih hu')
     exact⟨k,hk,.of_refs hab hr⟩
end
inductive wI (K:PySem.W.Frag) (n:Nat) (neg:Bool) (x y:V) (H:Hp) (Q:VK):Prop
 | mk (a b:Addr) (d e:Dt) (e1:x=.ref a) (e2:y=.ref b) (r1:RD K H (n+1) x d) (r2:RD K H (n+1) y e) (h:∀ k:Bool,(k=true↔d=e)->Q (.bl (if neg then !k else k)) H):wI K n neg x y H Q
def tN (K:PySem.W.Frag)(n:Nat)(neg:Bool):R2:=fun x y H Q=>wI K n neg x y H Q
section
variable {X:Cx}
theorem tu (n:Nat)(hu:X.A.units+n<cLine):fJ X (compareOp .Eq) (tN X.K n false):=by
 intro pins s σ H x y v u Q I rx ry h;obtain⟨a,b,d,e,rfl,rfl,h1,h2,q⟩:=h;cases rx;cases ry;obtain⟨k,hk,hr⟩:=qe I n (A:=X.A) hu h1 h2 (fun hu'=>pB I n hu');exact hr _ _ _ _ ⟨.bl k,H,I,rfl,q k hk⟩
theorem tv (n:Nat)(hu:X.A.units+n<cLine):fJ X (compareOp .NotEq) (tN X.K n true):=by
 intro pins s σ H x y v u Q I rx ry h;obtain⟨a,b,d,e,rfl,rfl,h1,h2,q⟩:=h;cases rx;cases ry;obtain⟨k,hk,hr⟩:=qf I n (A:=X.A) hu h1 h2 (fun hu'=>pB I n hu');exact hr _ _ _ _ ⟨.bl (!k),H,I,rfl,q k hk⟩
end
end L2
namespace Wz
open PySem L2
def cS (c:Int):Int:=if c<0 then -c else c
def gR (ns:List Int)(k:Int):Int:=if k<(ns.length:Int) then ns.getD k.toNat 0 else 0
def eX (k c:Int):Int :=
 let left:=cS c
 let number:=(k*(1+left*1234567891%2147483646)+left/2147483646)%2147483647
 if left%5=4 then number+997852516353 else number
def au (P:Program)(w:World)(K:PySem.W.Frag)(mg:Str->Option Value)(base:Heap)(x:Str)(k:Nat)(ps:List Str)(sp:Sp):Prop :=
 ∃ (f:Addr)(fd:FuncData),a7 P w K mg base gI k f fd ps sp/\mg x=some (.ref f)/\PySem.W.keepIn K (.ref f)=true/\fi K fd ps []
theorem aN {X:Cx}{x:Str}{k:Nat}{ps:List Str}{sp:Sp}{e:Expr}{es:List Expr}{t:TA}{p pos:Pos}(C:au X.prog X.w X.K X.mg X.base x k ps sp)(hr:b8 k X.A)(hg:Gl X x)(ha:PA X (e::es) t)
  (hdb:(x == ("__debug__" : Str))=false:=by decide) (he:starEach (e::es) X.env=(false,eval e X.env)::starEach es X.env:=by rfl) (hpl:(backTo pos (starEach es X.env)).any (·.1)=false:=by rfl) :
  PE X (.Call (.Name x p) (e::es) [] pos) (qw sp [] E0 t):=by
 obtain⟨f,fd,G,hm,hk,hb⟩:=C;exact nO G hr hg hm hk hb .nil uU ha hdb he hpl
theorem iW {X:Cx}(K:PySem.W.Frag)(hK:X.K=K:=by rfl):ux X (uY K):=by subst hK;exact aV
theorem ae {H:Hp}{l:Addr}{o:HO}(h:H l=none):aB H (aY H l o):=fun b u e=>by rw[aE (bH e h)];exact e
theorem bX {H H':Hp}{l:Addr}{o:HO}(s:aB H H')(h:H l=none):aB H (aY H' l o):=fun b u e=>by rw[aE (bH e h)];exact s b u e
theorem cE {α β:Type}{F:α->β->Prop}:∀ {l:List α}{m:List β}{i:Nat}{a:α},Paired F l m->l[i]? = some a->∃ b,m[i]? = some b/\F a b
 | _,_,_,_,.nil,h=>by simp at h
 | _,_,0,_,.cons r _,h=>by simp at h;subst h;exact⟨_,rfl,r⟩
 | _,_,i+1,a,.cons _ t,h=>by
  obtain⟨b,e1,e2⟩:=cE (i:=i) (a:=a) t (by simpa using h);exact⟨b,by simpa using e1,e2⟩
theorem bq {α β:Type}{F:α->β->Prop}:∀ {l l':List α}{m m':List β},Paired F l m->Paired F l' m'->Paired F (l++l') (m++m')
 | _,_,_,_,.nil,s=>s
 | _,_,_,_,.cons r t,s=>.cons r (bq t s)
theorem cr {α β:Type}{f:α->β}{l:List α}{i:Nat}{y:β}(h:(l.map f)[i]? = some y):∃ x,l[i]? = some x/\y=f x:=by
 rw[List.getElem?_map]at h
 cases e:l[i]? with
 | none=>rw[e]at h;cases h
 | some x=>rw[e]at h;exact⟨x,rfl,(xE h).symm⟩
theorem cA {te:TE}{a:Addr}{D:fW}{σ:St}{H:Hp}(h:te σ H fun y H2=>∃ ys,H2 a=some (.lst ys)/\ys.length<sizeLine/\D.nx σ (aY H2 a (.lst (ys++[y])))):uq o3 te a D σ H:=by
 unfold uq o3;dsimp only;rw[xA rfl];exact h
inductive lJ (K:PySem.W.Frag) (vs:List V) (H:Hp) (Q:VK) (E_:XK):Prop
 | mk (a:Addr) (ns:List Int) (k:Int) (h_0:vs=[.ref a,.int k]) (h_1:bd K H a (ns.map V.int)) (h_2:0<=k) (h_3:Q (.int (gR ns k)) H):lJ K vs H Q E_
inductive il (vs:List V) (H:Hp) (Q:VK) (E_:XK):Prop
 | mk (c:Int) (h_0:vs=[.int c]) (h_1:Q (.int (cS c)) H):il vs H Q E_
inductive gA (vs:List V) (H:Hp) (Q:VK) (E_:XK):Prop
 | mk (c m b:Int) (h_0:vs=[.int c,.int m,.int b]) (h_1:(0<=m/\m<=1000)) (h_2:(0<b/\b<1073741824)) (h_3:∀ (l:Addr)(ds:List Int),H l=none->(∀ d∈ds,0<=d/\d<b)->(ds.length:Int)<=m->Q (.ref l) (aY H l (.lst (ds.map V.int)))):gA vs H Q E_
inductive gB (vs:List V) (H:Hp) (Q:VK) (E_:XK):Prop
 | mk (k c:Int) (h_0:vs=[.int k,.int c]) (h_1:(0<=k/\k<=1000000)) (h_2:Q (.int (eX k c)) H):gB vs H Q E_
theorem iL {α β:Type}{F:α->β->Prop}:∀ {l:List α}{m:List β}(n:Nat),Paired F l m->Paired F (l.take n) (m.take n)
 | _,_,0,_=>by rw[yV,yV];exact .nil
 | _,_,_+1,.nil=>.nil
 | _,_,n+1,.cons r t=>.cons r (iL n t)
end Wz
namespace L2
open PySem PySem.Spec PyProof.Rows
def rV (g B:Heap)(e:Addr)(c:Value)(od:Option Addr)(fl:Value):Prop :=
 ∃ oe us T oT ts,g.get? e=some oe/\(oe.cls=c/\oe.dict=od)/\oe.data=.fields us/\us[1]? = some (.ref T)/\B.get? T=none/\T≠e/\g.get? T=some oT/\oT.data=.fields ts/\ts[3]? = some fl
def gO (B:Heap)(l:List Env)(e:Addr)(c:Value)(od:Option Addr)(g:Heap):Prop:=B.StaysIn g/\B.get? e=none/\g.FunFrames B l/\rV g B e c od .none
def rT (B:Heap)(l:List Env)(e:Addr)(c:Value)(od:Option Addr)(L:Addr)(g:Heap):Prop:=B.StaysIn g/\B.get? e=none/\g.FunFrames B l/\rV g B e c od (rawInt L)
theorem qW (f:Array Value->Array Value)(o:Obj):(Obj.mapFields f o).dict=o.dict:=by
 unfold Obj.mapFields;split<;>rfl
theorem gO.obj {B g:Heap}{l:List Env}{e:Addr}{c:Value}{od:Option Addr}(x:gO B l e c od g):∃ ob us,g.get? e=some ob/\ob.cls=c/\ob.dict=od/\ob.data=.fields us:=by
 obtain⟨_,_,_,oe,us,_,_,_,he,hc,hd,_⟩:=x;exact⟨oe,us,he,hc.1,hc.2,hd⟩
section
variable {M:Model}{A:Around}{E:Value->Shared->Prop}{s:Shared}{B:Heap}{env:Env}{outer:List Env}{L e:Addr}{od:Option Addr}{c:Value}
def vB (g g':Heap):Prop:=∀ b o,g.get? b=some o->(∀ us,o.data≠.fields us)->∃ sl,g'.get? b=some { o with slots:=sl }
theorem pA {oe:Obj}{us:Array Value}{head:Value}{hn:Bool}{Q:Unit->Shared->Prop}(fr:A.frames=some (env::outer))(hl:s.heap.FunFrames B (env::outer))(hf:env.frame=some L)
  (he:s.heap.get? e=some oe) (hk:B.StaysIn s.heap) (hb:B.get? e=none) (hd:oe.data=.fields us) (h1:1<us.size)
  (h:∀ g,B.StaysIn g->g.FunFrames B (env::outer)->rV g B e oe.cls oe.dict (rawInt L)->vB s.heap g->Q () { s with heap:=g }) :
  wpAny M A (do let a <-frameOf env;let pl <-entryPlaceOf L hn;let b <-EntryCells.newEntry head a .none (rawInt L) .none pl;setField (.ref e) 1 b) Q E s:=by
 have hne:e∉(env::outer).filterMap (·.frame):=fun z=>by
  obtain⟨_,o,ho,nf⟩:=hl.mem z;rw[he]at ho;cases ho;exact nf us hd
 refine xr (wpAny_frameOf_fun fr hl hf fun g1 sl1=>xr (wpAny_entryPlaceOf fun pl hpl=>?_));unfold EntryCells.newEntry newFields;refine xr (yz ?_ (hpl.sizeOk5 _ _ _ _ _));have e1:g1.get? e=some oe:=(sl1.2.1 e hne).trans he;have k1:B.StaysIn g1:=fun b o q=>(sl1.2.1 b fun z=>by rw[(hl.mem z).1]at q;cases q).trans (hk b o q);generalize hob:({ cls:=.type "traceback",dict:=none,data:=.fields ([head,.ref L,.none,rawInt L,.none]++(if pl.isEmpty then List.replicate 6 Value.none else pl)).toArray }:Obj)=ob
 have obd:ob.data=.fields ([head,.ref L,.none,rawInt L,.none]++(if pl.isEmpty then List.replicate 6 Value.none else pl)).toArray:=by rw[<-hob]
 have e2:=Heap.get?_push_of_some (h:=g1) ob e1;refine wpAny_setField e2 hd h1 ?_;have ne:g1.objs.size≠e:=Nat.ne_of_gt (xz e1);have d3:=Obj.data_mapFields hd (·.setIfInBounds 1 (Value.ref g1.objs.size));have e3:=Heap.get?_update_self (Obj.mapFields (·.setIfInBounds 1 (Value.ref g1.objs.size))) e2 (Obj.isFreed_of_fields d3)
 have keep:∀ b o,b≠e->g1.get? b=some o->((g1.push ob).update e (Obj.mapFields (·.setIfInBounds 1 (Value.ref g1.objs.size)))).get? b=some o:=fun b o n q=>by
  rw[Heap.get?_update_other _ _ (yB n)];exact Heap.get?_push_of_some _ q
 have nr:∀ b o,s.heap.get? b=some o->(∀ vs,o.data≠.fields vs)->b≠e:=fun b o q nf z=>by
  rw[z,he]at q;cases q;exact nf us hd
 refine h _ (fun b o q=>keep b o (fun z=>by rw[z,hb]at q;cases q) (k1 b o q)) (hl.of_keeps fun b o q nf=>?_) ?_ fun b o q nf=>?_
 ·obtain⟨sl,z⟩:=sl1.2.2 b o q
  exact⟨_,keep b _ (nr b o q nf) z,rfl⟩
 ·refine⟨_,_,g1.objs.size,ob,_,e3,⟨Obj.cls_mapFields _ _,qW _ _⟩,d3,by simp[h1],k1.fresh,ne,?_,obd,by first | (simp;done) | (rcases hpl with rfl | ⟨_,_,_,_,_,_,_,rfl⟩<;>simp)⟩
  rw[Heap.get?_update_other _ _ (yB ne)];exact Heap.get?_push_size g1 (by rw[<-hob];rfl)
 ·obtain⟨sl,z⟩:=sl1.2.2 b o q
  exact⟨sl,keep b _ (nr b o q nf) z⟩
theorem l8 {oe:Obj}{us:Array Value}{Q:Unit->Shared->Prop}(fr:A.frames=some (env::outer))(hl:s.heap.FunFrames B (env::outer))(hf:env.frame=some L)
  (he:s.heap.get? e=some oe) (hk:B.StaysIn s.heap) (hb:B.get? e=none) (hd:oe.data=.fields us) (h1:us[1]? = some .none)
  (h:∀ g,B.StaysIn g->g.FunFrames B (env::outer)->rV g B e oe.cls oe.dict (rawInt L)->vB s.heap g->Q () { s with heap:=g }):wpAny M A (noteFrame (.ref e) env) Q E s:=by
 unfold noteFrame;simp only[hf];refine xr (yW he hd h1 ?_);rw[xx (by decide)];exact pA fr hl hf he hk hb hd (Array.getElem?_eq_some_iff.mp h1).1 h
theorem jv {Q:Unit->Shared->Prop}(fr:A.frames=some (env::outer))(hl:s.heap.FunFrames B (env::outer))(hf:env.frame=some L)(ht:rV s.heap B e c od .none)(hk:B.StaysIn s.heap)(hb:B.get? e=none)
  (h:∀ g,B.StaysIn g->g.FunFrames B (env::outer)->rV g B e c od (rawInt L)->vB s.heap g->Q () { s with heap:=g }):wpAny M A (noteFrame (.ref e) env) Q E s:=by
 obtain⟨oe,us,T,oT,ts,he,⟨rfl,rfl⟩,hd,h1,nT,ne,hT,dT,h3⟩:=ht;unfold noteFrame;simp only[hf];refine xr (yW he hd h1 ?_);rw[xA (show (Value.ref T != Value.none)=true by simp)];refine xr (yW hT dT h3 ?_);rw[xx (show ¬((Value.none == rawInt L)=true) by simp[rawInt])];refine xr (wpAny_setField hT dT (Array.getElem?_eq_some_iff.mp h3).1 ?_);have ot:∀ b,b≠T->(s.heap.update T (Obj.mapFields (·.setIfInBounds 3 Value.none))).get? b=s.heap.get? b:=fun b z=>Heap.get?_update_other _ _ (yB z)
 have nr:∀ b o,s.heap.get? b=some o->(∀ vs,o.data≠.fields vs)->b≠T:=fun b o q nf z=>by
  rw[z,hT]at q;cases q;exact nf ts dT
 refine pA fr (hl.of_keeps fun b o q nf=>⟨o,(ot b (nr b o q nf)).trans q,rfl⟩) hf ((ot e (yB ne)).trans he) (fun b o q=>(ot b fun z=>by rw[z,nT]at q;cases q).trans (hk b o q)) hb hd (Array.getElem?_eq_some_iff.mp h1).1 fun g a1 a2 a3 a4=>h g a1 a2 a3 fun b o q nf=>?_;exact a4 b o ((ot b (nr b o q nf)).trans q) nf
theorem iT {l:List Env}{fl:Value}{Q:Unit->Shared->Prop}(hk:B.StaysIn s.heap)(hl:s.heap.FunFrames B l)(ht:rV s.heap B e c od fl)
  (h:∀ g,B.StaysIn g->g.FunFrames B l->rV g B e c od .none->s.heap.UpToSlots g->Q () { s with heap:=g }):wpAny M A (setFlight (.ref e) none) Q E s:=by
 obtain⟨oe,us,T,oT,ts,he,hc,hd,h1,nT,ne,hT,dT,h3⟩:=ht;have z3:3<ts.size:=(Array.getElem?_eq_some_iff.mp h3).1;have ot:∀ b,b≠T->(s.heap.update T (Obj.mapFields (·.setIfInBounds 3 ((none:Option Addr).elim Value.none fun f=>rawInt f)))).get? b=s.heap.get? b:=fun b z=>Heap.get?_update_other _ _ (yB z)
 have nr:∀ b o,s.heap.get? b=some o->(∀ vs,o.data≠.fields vs)->b≠T:=fun b o q nf z=>by
  rw[z,hT]at q;cases q;exact nf ts dT
 unfold setFlight;refine xr (yW he hd h1 ?_);rw[xA (show (Value.ref T != Value.none)=true by simp)];refine wpAny_setField hT dT z3 (h _ (fun b o q=>(ot b fun z=>by rw[z,nT]at q;cases q).trans (hk b o q)) (hl.of_keeps fun b o q nf=>⟨o,(ot b (nr b o q nf)).trans q,rfl⟩) ?_ fun b o q nf=>⟨o.slots,(ot b (nr b o q nf)).trans q⟩);exact⟨oe,us,T,_,_,(ot e (yB ne)).trans he,hc,hd,h1,nT,ne,Heap.get?_update_self _ hT (Obj.isFreed_of_fields (Obj.data_mapFields dT _)),Obj.data_mapFields dT _,by simp[z3]⟩
theorem qh {g g' g'':Heap}(a:vB g g')(b:g'.UpToSlots g''):g.UpToSlots g'':=fun x o q nf=>by
 obtain⟨sl,z⟩:=a x o q nf;obtain⟨sl2,z2⟩:=b x _ z nf;exact⟨sl2,z2⟩
theorem kU {oe:Obj}{us:Array Value}{Q:Unit->Shared->Prop}(fr:A.frames=some (env::outer))(hf:env.frame=some L)(hk:B.StaysIn s.heap)(hl:s.heap.FunFrames B (env::outer))
  (he:s.heap.get? e=some oe) (hb:B.get? e=none) (hd:oe.data=.fields us) (h1:us[1]? = some .none)
  (hq:∀ g,gO B outer e oe.cls oe.dict g->s.heap.UpToSlots g->Q () { s with heap:=g }):wpAny M A (leaving env (.ref e)) Q E s:=by
 unfold leaving;refine xr (l8 fr hl hf he hk hb hd h1 fun g a1 a2 a3 a4=>?_);exact iT (s:={ s with heap:=g }) a1 a2 a3 fun g2 b1 b2 b3 b4=>hq g2 ⟨b1,hb,b2.2.2,b3⟩ (qh a4 b4)
theorem jn {Q:Unit->Shared->Prop}(fr:A.frames=some (env::outer))(hf:env.frame=some L)(fl:gO B (env::outer) e c od s.heap)
  (hq:∀ g,gO B outer e c od g->s.heap.UpToSlots g->Q () { s with heap:=g }):wpAny M A (leaving env (.ref e)) Q E s:=by
 obtain⟨f1,f2,f3,f4⟩:=fl;unfold leaving;refine xr (jv fr f3 hf f4 f1 f2 fun g a1 a2 a3 a4=>?_);exact iT (s:={ s with heap:=g }) a1 a2 a3 fun g2 b1 b2 b3 b4=>hq g2 ⟨b1,f2,b2.2.2,b3⟩ (qh a4 b4)
theorem oJ {Q:Unit->Shared->Prop}(fr:A.frames=some (env::outer))(hf:env.frame=some L)(fl:gO B (env::outer) e c od s.heap)
  (hq:∀ g,rT B (env::outer) e c od L g->s.heap.UpToSlots g->Q () { s with heap:=g }):wpAny M A (noteFrame (.ref e) env) Q E s:=by
 obtain⟨f1,f2,f3,f4⟩:=fl;exact jv fr f3 hf f4 f1 f2 fun g a1 a2 a3 a4=>hq g ⟨a1,f2,a2,a3⟩ a4
theorem td {l:List Env}{Q:Unit->Shared->Prop}(hh:rT B l e c od L s.heap)(hq:∀ g,gO B l e c od g->s.heap.UpToSlots g->Q () { s with heap:=g }):wpAny M A (setFlight (.ref e) none) Q E s:=by
 obtain⟨f1,f2,f3,f4⟩:=hh;exact iT f1 f3 f4 fun g a1 a2 a3 a4=>hq g ⟨a1,f2,a2,a3⟩ a4
theorem kT {l:List Env}{Q:Unit->Shared->Prop}(hh:gO B l e c od s.heap)(hq:∀ g,gO B l e c od g->s.heap.UpToSlots g->Q () { s with heap:=g }):wpAny M A (setFlight (.ref e) none) Q E s:=by
 obtain⟨f1,f2,f3,f4⟩:=hh;exact iT f1 f3 f4 fun g a1 a2 a3 a4=>hq g ⟨a1,f2,a2,a3⟩ a4
end
abbrev vU:List Value:=[.type "ValueError",.type "Exception",.type "BaseException",.type "object"]
def vW (C t:Addr)(od:Option Addr):Obj:={ cls:=.ref C,dict:=od,data:=.fields #[.ref t,.none,.none,.none,.bool false,.none] }
abbrev kD (K:PySem.W.Frag)(C:Addr):Prop:=PySem.W.excIn K C vU "ValueError.__new__" = true
theorem q8 {K:PySem.W.Frag}{h:Heap}{C:Addr}(X:K.In h)(q:kD K C) :
  ∃ bm N nm qn bs hdct sn sub ab col dd k0 k1 k2 k3 k5 mN,h.get? C=some (excClassObj nm qn C N bs bm hdct sn sub ab col dd k0 k1 k2 k3 k5 "ValueError.__new__")/\h.Ns N mN/\mN "__init__" = none/\OwnTail h vU bm:=by
 have q:PySem.W.excIn K C vU "ValueError.__new__" = true:=q;unfold PySem.W.excIn at q;split at q
 ·rename_i dd cd sl ho
  split at q
  ·rename_i C' bm k0 k1 k2 k3 n k5 hm hs
   simp only[yc,beq_iff_eq,Bool.not_eq_true']at q;obtain⟨⟨⟨⟨⟨rfl,rfl⟩,hdel⟩,ht⟩,hok⟩,hni⟩:=q;obtain⟨nm,bs,mro,ns,qn,hd,sn,sub,ab,col,del⟩:=cd;dsimp only at hm hdel hok hni;subst hm hdel
   have hsl:sl = #[k0,k1,k2,k3,some (.builtin "ValueError.__new__"),k5]:=by
    obtain⟨l⟩:=sl;simp only at hs;rw[hs]
   subst hsl;exact⟨bm,ns,nm,qn,bs,hd,sn,sub,ab,col,dd,k0,k1,k2,k3,k5,_,X _ _ ho,.of_isNs (PySem.W.isNs_of_in X hok),PySem.W.nsMap_none_of_in X hok hni,PySem.W.tail_of_in X ht⟩
  ·cases q
 ·cases q
theorem bR.has {P:Program}{w:World}{H:Hp}{h:Heap}{a:Addr}{o:HO}(x:bR P w H h a o):∃ u,h.get? a=some u:=by
 cases o with
 | lst xs=>obtain⟨_,_,_,_,e⟩:=x;exact⟨_,e⟩
 | tup xs=>obtain⟨_,_,_,u,e,_⟩:=x;exact⟨u,e⟩
 | dK kvs=>obtain⟨_,_,_,_,o,_,_,e,_⟩:=x;exact⟨o,e⟩
 | dT kvs=>obtain⟨_,_,_,_,o,_,_,e,_⟩:=x;exact⟨o,e⟩
 | set S n=>obtain⟨o,_,_,_,e,_⟩:=x;exact⟨o,e⟩
 | ins C dx fs=>obtain⟨_,_,_,e,_⟩:=x;exact⟨_,e⟩
 | own y=>exact x
 | xd fs=>obtain⟨_,⟨o,_,_,e,_⟩,_⟩:=x;exact⟨o,e⟩
 | rng lo hi=>obtain⟨_,_,_,e⟩:=x;exact⟨_,e⟩
 | frz ob u=>obtain⟨e,_⟩:=x;exact⟨ob,e⟩
 | tbl ps=>exact⟨_,(show h.get? a=some _ from x)⟩
 | met f y=>exact⟨_,(show h.get? a=some _ from x)⟩
 | ext φ=>obtain⟨_,e,_⟩:=x;exact e
def gJ (P:Program)(w:World):j4:=fun outer H s E e s'=>∃ (ea C:Addr)(od:Option Addr)(H':Hp)(B:Heap),e=.ref ea/\gO B outer ea (.ref C) od s'.heap/\Un (dj outer) [] H H' s.heap s'.heap/\fT P w H' s'.heap/\s'.os=s.os/\AllBare s'.gens /\
 (∀ b o,s.heap.get? b=some o->b∉dj outer->∃ o',B.get? b=some o')/\(∀ b o,H' b=some o->∃ o',B.get? b=some o')/\E (.ref C) od H'
theorem n6 {fs:List Addr}{H H':Hp}{h h1 h2 B:Heap}(u:Un fs [] H H' h h1)(b1:B.StaysIn h1)(b2:B.StaysIn h2)(hb:∀ b o,h.get? b=some o->b∉fs->∃ o',B.get? b=some o')(sl:∀ b o,b∈fs->h.get? b=some o->H b=none->∃ sl,h2.get? b=some { o with slots:=sl })(th:∀ b o,b∈fs->h.get? b=some o->∃ o',h2.get? b=some o'):Un fs [] H H' h h2:=by
 have eq:∀ b o,h.get? b=some o->b∉fs->h2.get? b=h1.get? b:=fun b o e hf=>by
  obtain⟨o',e'⟩:=hb b o e hf;rw[b1 b o' e',b2 b o' e']
 refine⟨fun b o e n hf hx=>(eq b o e hf).trans (u.keep b o e n hf hx),fun b o e n hf hx=>sl b o hf e n,u.free,fun b o e hx=>?_,u.tups,u.frzs,u.tbls⟩
 by_cases hf:b∈fs
 ·exact th b o hf e
 ·rw[eq b o e hf];exact u.there b o e hx
theorem kQ {P:Program}{w:World}{H:Hp}{h1 h2 B:Heap}(x:fT P w H h1)(b1:B.StaysIn h1)(b2:B.StaysIn h2)(hb:∀ b o,H b=some o->∃ o',B.get? b=some o'):fT P w H h2:=fun a o e =>
 (x a o e).stay (fun b u hc q=>by
  have:∃ o',B.get? b=some o':=by
   rcases hc with z | z
   ·rw[z];exact hb a o e
   ·exact hb b _ z
  obtain⟨o',e'⟩:=this;rw[b1 b o' e']at q;rw[<-q]
  exact b2 b o' e') (fun _ q=>q) fun _ _ q=>q
def rS (X:Cx)(E:XK):Prop:=∀ (pins:List (Addr×Obj))(σ:St)(H:Hp)(s:Shared)(ea C t:Addr)(od:Option Addr),ay X pins σ H s->s.heap.get? ea=some (vW C t od)->H ea=none->X.s₀.heap.get? ea=none->E (.ref C) od H->X.xe (.ref ea) s
section
variable {P:Program}{w:World}{K:PySem.W.Frag}{mg:Str->Option Value}{base:Heap}{N:List Str}{qual:Str}{sc:Scope}{f:Addr}{cd:Value}{A:Around}{outer:List Env}{s0:Shared}{H0:Hp}{E:XK}
theorem cN:rS (iO (gJ P w) P w K mg base N qual sc f cd A outer s0 H0 E) E:=by
 intro pins σ H s ea C t od I hx hn hs hE
 let X:Cx:=iO (gJ P w) P w K mg base N qual sc f cd A outer s0 H0 E
 show wpAny _ _ (leaving _ _) _ _ _
 have hstk:(X.A.frames:Option (List Env))=some (X.env::outer):=I.ok.frames
 have frS:dj X.stack=X.env.locals::dj outer:=by unfold dj;rfl
 let B:Heap:=PySem.W.hideAll s.heap (ea::dj X.stack)
 have hkb:B.StaysIn s.heap:=fun b o q=>PySem.W.of_hideAll _ q;have inB:∀ b o,s.heap.get? b=some o->b≠ea->b∉dj X.stack->B.get? b=some o:=fun b o e ne hf=>PySem.W.hideAll_get _ e (fun z=>(xB.mp z).elim ne hf);have hl:s.heap.FunFrames B (X.env::outer):=PySem.W.funFrames_hide I.stack fun env he a hf=>xq _ (List.mem_filterMap.mpr ⟨env,he,hf⟩);refine kU (s:=s) hstk rfl hkb hl hx (PySem.W.hideAll_none _ xp) rfl rfl fun h2 fl ups=>?_;have ltl:∀ b o,s0.heap.get? b=some o->b≠X.env.locals:=fun b o e=>xK (xD (xz e) I.ok.above)
 have h0B:∀ b o,s0.heap.get? b=some o->b∉dj outer->∃ o',B.get? b=some o':=fun b o e hf=>by
  obtain⟨o',e'⟩:=I.base.there b o e (by intro z;exact absurd (show b∈([]:List Addr) from z) (by simp));refine⟨o',inB b o' e' (fun z=>?_) ?_⟩
  ·have hs':s0.heap.get? ea=none:=hs
   rw[z,hs']at e;cases e
  ·rw[frS]
   intro z;rcases xB.mp z with z | z
   ·exact ltl b o e z
   ·exact hf z
 have trB:∀ b o,H b=some o->∃ o',B.get? b=some o':=fun b o e=>by
  obtain⟨u,q⟩:=(I.hok b o e).has;exact⟨u,inB b u q (fun z=>by rw[z,hn]at e;cases e) fun z=>by rw[I.stkFree b z]at e;cases e⟩
 have noEx:∀ b,b∉X.ex:=fun b z=>absurd (show b∈([]:List Addr) from z) (by simp)
 have slot2:∀ b o,b∈dj outer->s0.heap.get? b=some o->H0 b=none->∃ sl,h2.get? b=some { o with slots:=sl }:=fun b o hf e n=>by
  obtain⟨sl,e1⟩:=I.base.slot b o e n hf (noEx b);obtain⟨_,o2,ho2,hnf⟩:=I.ok.funs.mem hf
  have e2:o2=o:=by
   have:s0.heap.get? b=some o2:=ho2;rw[e]at this;exact (xE this).symm
  subst e2;obtain⟨sl2,e3⟩:=ups b _ e1 hnf;exact⟨sl2,e3⟩
 refine⟨ea,C,od,H,B,rfl,fl,?_,kQ I.hok hkb fl.1 trB,I.os,I.bare,h0B,trB,hE⟩;refine n6 (h1:=s.heap) I.base hkb fl.1 h0B (fun b o hf e n=>?_) fun b o hf e=>?_
 ·exact slot2 b o hf e n
 ·obtain⟨sl,q⟩:=slot2 b o hf e (I.ok.frf b hf)
  exact⟨_,q⟩
theorem fe:eI (gJ P w) (iO (gJ P w) P w K mg base N qual sc f cd A outer s0 H0 E) E:=by
 intro pins σ H s e s' I hc;obtain⟨ea,C,od,H',B,rfl,fl,un,hok,os,bare,hsB,trB,hE⟩:=hc
 let X:Cx:=iO (gJ P w) P w K mg base N qual sc f cd A outer s0 H0 E
 show wpAny _ _ (leaving _ _) _ _ _
 have hstk:(X.A.frames:Option (List Env))=some (X.env::outer):=I.ok.frames
 have frS:dj X.stack=X.env.locals::dj outer:=by unfold dj;rfl
 refine jn hstk rfl fl fun h2 fl2 ups=>?_;have ltl:∀ b o,s0.heap.get? b=some o->b≠X.env.locals:=fun b o e=>xK (xD (xz e) I.ok.above);have noEx:∀ b,b∉X.ex:=fun b z=>absurd (show b∈([]:List Addr) from z) (by simp)
 have h0B:∀ b o,s0.heap.get? b=some o->b∉dj outer->∃ o',B.get? b=some o':=fun b o e hf=>by
  obtain⟨o',e'⟩:=I.base.there b o e (noEx b);refine hsB b o' e' ?_;rw[frS];intro z;rcases xB.mp z with z | z
  ·exact ltl b o e z
  ·exact hf z
 have unS:Un (dj outer) [] H0 H' s0.heap s'.heap:=by
  have u1:Un (dj outer) [] H0 H s0.heap s.heap:=I.base;refine⟨fun b o e n hf hx=>?_,fun b o e n hf hx=>?_,fun b o e n hx=>?_,fun b o e hx=>?_,fun b xs q=>un.tups b xs (u1.tups b xs q),fun b o u q=>un.frzs b o u (u1.frzs b o u q),fun b ps q=>?_⟩
  ·refine un.keep b o (u1.keep b o e n hf hx) (u1.free b o e n hx) ?_ hx
   rw[frS];intro z;rcases xB.mp z with z | z
   ·exact ltl b o e z
   ·exact hf z
  ·obtain⟨sl,e1⟩:=u1.slot b o e n hf hx
   obtain⟨sl2,e2⟩:=un.slot b _ e1 (u1.free b o e n hx) (by rw[frS];exact xq _ hf) hx;exact⟨sl2,e2⟩
  ·obtain⟨o',e'⟩:=u1.there b o e hx
   exact un.free b o' e' (u1.free b o e n hx) hx
  ·obtain⟨o',e'⟩:=u1.there b o e hx
   exact un.there b o' e' hx
  ·obtain⟨m1,e1⟩:=u1.tbls b ps q
   obtain⟨m2,e2⟩:=un.tbls b _ e1;exact⟨m1++m2,by rw[e2,Array.append_assoc]⟩
 have slot2:∀ b o,b∈dj outer->s0.heap.get? b=some o->H0 b=none->∃ sl,h2.get? b=some { o with slots:=sl }:=fun b o hf e n=>by
  obtain⟨sl,e1⟩:=unS.slot b o e n hf (by simp);obtain⟨_,o2,ho2,hnf⟩:=I.ok.funs.mem hf
  have e2:o2=o:=by
   have:s0.heap.get? b=some o2:=ho2;rw[e]at this;exact (xE this).symm
  subst e2;obtain⟨sl2,e3⟩:=ups b _ e1 hnf;exact⟨sl2,e3⟩
 refine⟨ea,C,od,H',B,rfl,fl2,?_,kQ hok fl.1 fl2.1 trB,os.trans I.os,bare,h0B,trB,hE⟩;refine n6 (h1:=s'.heap) unS fl.1 fl2.1 h0B (fun b o hf e n=>slot2 b o hf e n) fun b o hf e=>?_;obtain⟨sl,q⟩:=slot2 b o hf e (I.ok.frf b hf);exact⟨_,q⟩
end
theorem ay.fresh0 {X:Cx}{pins:List (Addr×Obj)}{σ:St}{H:Hp}{s:Shared}{a:Addr}(I:ay X pins σ H s)(hx:a∉X.ex)(h:s.heap.get? a=none):X.s₀.heap.get? a=none:=by
 cases e:X.s₀.heap.get? a with
 | none=>rfl
 | some o =>
  obtain⟨o',q⟩:=I.base.there a o e hx;rw[h]at q;cases q
theorem ay.unheld {X:Cx}{pins:List (Addr×Obj)}{σ:St}{H:Hp}{s:Shared}{a:Addr}(I:ay X pins σ H s)(h:s.heap.get? a=none):H a=none:=by
 cases e:H a with
 | none=>rfl
 | some o =>
  obtain⟨u,q⟩:=(I.hok a o e).has;rw[h]at q;cases q
def tX (te:TE)(C:Addr)(E:XK):TS:=fun _ σ H=>te σ H fun _ H1=>E (.ref C) none H1
theorem cQ {X:Cx}{C:Addr}{E:XK}{x:Str}{e:Expr}{te:TE}{np cpos pos:Pos}(q:kD X.K C)(hfl:rS X E)(hex:X.ex=[])(hh:X.A.handled=none)(hg:Gl X x)(hm:X.mg x=some (.ref C))(he:PE X e te)
  (hdb:(x == ("__debug__" : Str))=false:=by decide) (hs:starEach [e] X.env=[(false,eval e X.env)]:=by rfl) :
  PS X (.Raise (some (.Call (.Name x np) [e] [] cpos)) none pos) (tX te C E):=by
 intro pins s σ H D I h;obtain⟨bm,N,nm,qn,bs,hdct,sn,sub,ab,col,dd,k0,k1,k2,k3,k5,mN,hC,hN,hni,T⟩:=q8 I.ok.mod.kin q
 refine wpAny_Raise_call_subT (C:=C) (nm:=nm) (q:=qn) (N:=N) (bs:=bs) (bm:=bm) (hdct:=hdct) (sn:=sn) (sub:=sub) (ab:=ab) (col:=col) (dd:=dd) (k0:=k0) (k1:=k1) (k2:=k2) (k3:=k3) (k5:=k5)
  PySem.F.excBase_ValueError (mN:=mN) (T.hasType PySem.F.excBase_ValueError.hasBase) hh (by rw[hs];rfl) hni (eZ I hg hm ⟨rfl,?_⟩ hdb)
 rw[hs];refine Calls.evalArgs_plain (yP (bv (he pins s σ H _ I h) fun u s1 ⟨v,H1,I1,rv,q1⟩=>Calls.spliced_nil ?_));refine⟨rfl,(show 1<=sizeLine by decide),I1.bk _ _ hC,hN.keeps I1.bk,T.keeps I1.bk,fun h' ea hx=>?_⟩;obtain⟨t,hea,_,_⟩:=hx.there;exact hfl pins σ H1 { s1 with heap:=h' } ea C t none (I1.kept (t':=s1.toks) hx.keeps) hea (I1.unheld hx.new) (I1.fresh0 (by rw[hex];simp) hx.new) q1
def uz (X:Cx)(pins:List (Addr×Obj))(σ:St)(H:Hp)(ea C:Addr)(od:Option Addr)(B:Heap)(s':Shared):Prop:=H ea=none/\∀ h2,gO B X.stack ea (.ref C) od h2->s'.heap.UpToSlots h2->ay X pins σ H { s' with heap:=h2 }
theorem rn {X:Cx}{pins:List (Addr×Obj)}{σ:St}{H H':Hp}{s s':Shared}{ea C:Addr}{od:Option Addr}{B:Heap}(I:ay X pins σ H s)(fl:gO B X.stack ea (.ref C) od s'.heap)(un:Un (dj X.stack) [] H H' s.heap s'.heap)(hok:fT X.prog X.w H' s'.heap)(os:s'.os=s.os)(bare:AllBare s'.gens)
  (hsB:∀ b o,s.heap.get? b=some o->b∉dj X.stack->∃ o',B.get? b=some o') (trB:∀ b o,H' b=some o->∃ o',B.get? b=some o'):uz X pins σ H' ea C od B s':=by
 refine⟨?_,fun h2 fl2 ups=>?_⟩
 ·cases e:H' ea with
  | none=>rfl
  | some o =>
   obtain⟨o',q⟩:=trB ea o e;rw[fl.2.1]at q;cases q
 have slot2:∀ b o,b∈dj X.stack->s.heap.get? b=some o->H b=none->∃ sl,h2.get? b=some { o with slots:=sl }:=fun b o hf e n=>by
  obtain⟨sl,e1⟩:=un.slot b o e n hf (by simp);obtain⟨_,o2,ho2,hnf⟩:=I.stack.mem hf
  have e2:o2=o:=by
   have:s.heap.get? b=some o2:=ho2;rw[e]at this;exact (xE this).symm
  subst e2;obtain⟨sl2,e3⟩:=ups b _ e1 hnf;exact⟨sl2,e3⟩
 refine I.call' (ch:=[]) (s':={ s' with heap:=h2 }) os ?_ (kQ hok fl.1 fl2.1 trB) bare fun b z=>absurd z (by simp);refine n6 (h1:=s'.heap) un fl.1 fl2.1 hsB (fun b o hf e n=>slot2 b o hf e n) fun b o hf e=>?_;obtain⟨sl,q⟩:=slot2 b o hf e (I.stkFree b hf);exact⟨_,q⟩
def Cx.marked (X:Cx)(ea:Addr)(oe:Obj):Cx:={ X with A:=X.A.mark (some (.ref ea)),calm:=false,xe:=fun _ _=>False,pn:=(ea,oe)::X.pn }
theorem ay.marked {X:Cx}{pins:List (Addr×Obj)}{σ:St}{H:Hp}{s:Shared}{ea:Addr}{oe:Obj}{us:Array Value}(I:ay X pins σ H s)(he:s.heap.get? ea=some oe)(hd:oe.data=.fields us)(hn:H ea=none):ay (X.marked ea oe) pins σ H s:=by
 refine⟨⟨I.ok.mod,I.ok.kind,I.ok.glob,I.ok.blt,I.ok.above,I.ok.inj,I.ok.has,I.ok.cab,fun z=>(by cases z),I.ok.frames,I.ok.stk,I.ok.exf,I.ok.bs,I.ok.bsz,I.ok.noex,I.ok.exfs,I.ok.funs,I.ok.frf⟩,I.os,I.bare,I.base,I.loc,I.cell,I.free,I.freeC,fun p hp=>?_,I.hok,I.len⟩;rcases xB.mp (show p∈(ea,oe)::(X.pn++pins) from hp) with z | z
 ·subst z
  refine⟨he,hn,fun z=>?_,fun z=>?_,fun v z=>?_⟩
  ·obtain⟨m,⟨o,es,ep,ho,hdd,_⟩,_⟩:=I.loc
   have z:ea=X.env.locals:=z;rw[<-z,he]at ho;cases ho;rw[hd]at hdd;cases hdd
  ·obtain⟨_,o,ho,nf⟩:=I.funs.mem z
   rw[he]at ho;cases ho;exact nf us hd
  ·have z:oe.data=.cell v:=z
   rw[hd]at z;cases z
 ·exact I.pin p z
theorem ay.unmarked {X:Cx}{pins:List (Addr×Obj)}{σ:St}{H:Hp}{s:Shared}{ea:Addr}{oe:Obj}(ok:X.Ok)(I:ay (X.marked ea oe) pins σ H s):ay X pins σ H s :=
 ⟨ok,I.os,I.bare,I.base,I.loc,I.cell,I.free,I.freeC,fun p hp=>I.pin p (show p∈(ea,oe)::(X.pn++pins) from xq _ hp),I.hok,I.len⟩
theorem SP.unmarked {X:Cx}{pins:List (Addr×Obj)}{D:fW}{f:Flow}{s':Shared}{ea:Addr}{oe:Obj}(ok:X.Ok)(h:SP (X.marked ea oe) pins D f s'):SP X pins D f s':=by
 cases f with
 | next=>obtain⟨σ',H',I,q⟩:=h;exact⟨σ',H',I.unmarked ok,q⟩
 | brk=>obtain⟨σ',H',I,q⟩:=h;exact⟨σ',H',I.unmarked ok,q⟩
 | cont=>obtain⟨σ',H',I,q⟩:=h;exact⟨σ',H',I.unmarked ok,q⟩
 | ret u=>obtain⟨v,σ',H',I,r,q⟩:=h;exact⟨v,σ',H',I.unmarked ok,r,q⟩
def uB (X:Cx)(hdl:List ExceptHandler)(th:Value->Option Addr->TS):Prop:=∀ (pins:List (Addr×Obj))(σ:St)(H:Hp)(D:fW)(ea C:Addr)(od:Option Addr)(B:Heap)(s':Shared)(h:Heap),uz X pins σ H ea C od B s'->gO B X.stack ea (.ref C) od h->s'.heap.UpToSlots h->th (.ref C) od D σ H ->
 wpAny (model X.prog X.w) X.A (handleBy (.ref ea) X.env hdl) (SP X pins D) X.xe { s' with heap:=h }
theorem rJ {X:Cx}{y:Str}{C1:Addr}{b0:Stmt}{suite:List Stmt}{t1:TS}{th:Value->Option Addr->TS}{np pos:Pos}{rest:List ExceptHandler}(hg:Gl X y)(hm:X.mg y=some (.ref C1))(hs:∀ ea oe,mO (X.marked ea oe) (b0::suite) t1)(hr:uB X rest th)
  (hdb:(y == ("__debug__" : Str))=false:=by decide):uB X (.ExceptHandler (some (.Name y np)) none (b0::suite) pos::rest) (fun cls od D σ H=>∃ b,PySem.W.exmOne X.K cls (.ref C1)=some b/\if b=true then t1 D σ H else th cls od D σ H):=by
 intro pins σ H D ea C od B s' h ld fl ups ht;obtain⟨b,hb,ht⟩:=ht;have I:=ld.2 h fl ups;obtain⟨ob,us,hob,hobc,hobd,hobf⟩:=fl.obj;have Im:=I.marked (ea:=ea) hob hobf ld.1
 have LT:PySem.W.Looks (model X.prog X.w) h (typeOf (.ref ea)) (.ref C):=by
  rw[<-hobc];exact (PySem.W.Looks.ld hob).andThen .now
 refine wpAny_handleBy_cons (codeAny_handlers_test (eZ (X:=X.marked ea ob) Im hg hm ?_ hdb)) (by intro z;cases z);refine (PySem.W.exm_one (K:=X.K) I.kIn LT hb).here ?_
 cases b with
 | true =>
  rw[xA rfl]at ht;refine codeAny_handlers_suite ?_;refine kT fl fun h6 fl6 ups6=>?_;obtain⟨oe,us6,hoe,hoec,hoed,hoef⟩:=fl6.obj;have I6:=(ld.2 h6 fl6 (ups.trans ups6)).marked (ea:=ea) hoe hoef ld.1;exact yj (hs ea oe pins _ σ H D I6 ht) (fun f s2 hq=>hq.unmarked I.ok) fun _ _ z=>z.elim
 | false =>
  rw[xx xu]at ht;exact hr pins σ H D ea C od B s' h ld fl ups ht
theorem tL {X:Cx}:uB X [] (fun _ _ _ _ _=>False):=fun _ _ _ _ _ _ _ _ _ _ _ _ _ h=>h.elim
def sg (sp:Sp)(t:TA)(i:Nat)(th:Value->Option Addr->TS):TS:=fun D σ H=>t σ H fun vs H1=>sp vs H1 (fun v H2=>D.nx (σ.set i (some v)) H2) (fun cls od H2=>th cls od D σ H2)
theorem nj {X:Cx}{k:Nat}{f:Addr}{fd:FuncData}{ps:List Str}{sp:Sp}{i:Nat}{x fn:Str}{e:Expr}{es:List Expr}{t:TA}{hd0:ExceptHandler}{hdl:List ExceptHandler}{th:Value->Option Addr->TS}{px p cpos spos pos:Pos}
  (G:a7 X.prog X.w X.K X.mg X.base (gJ X.prog X.w) k f fd ps sp) (hr:b8 k X.A) (hg:Gl X fn) (hm:X.mg fn=some (.ref f)) (hk:PySem.W.keepIn X.K (.ref f)=true) (hb:fi X.K fd ps []) (ha:PA X.nox (e::es) t)
  (hst:X.stack=X.env::X.outer) (hfr:X.env.frame=some X.env.locals) (hN:X.N.Nodup) (hi:X.N[i]? = some x) (hx:qP X.env.scope x) (hh:uB X (hd0::hdl) th)
  (hs:swapsWith (.Call (.Name fn p) (e::es) [] cpos) (some (.Name x px)) spos.line X.env=pure false:=by rfl) (hf:X.fn x=true\/X.env.scope.names.lookup x=some .local:=by first | exact .inl rfl | exact .inr rfl | assumption)
  (hdb:(fn == ("__debug__" : Str))=false:=by decide) (he:starEach (e::es) X.env=(false,eval e X.env)::starEach es X.env:=by rfl) (hpl:(backTo cpos (starEach es X.env)).any (·.1)=false:=by rfl) :
  PS X (.Try [.Assign [.Name x px] (.Call (.Name fn p) (e::es) [] cpos) spos] (hd0::hdl) [] [] pos) (sg sp t i th):=by
 intro pins s σ H D I h;refine wpAny_Try_except ?_;refine wpAny_execs_cons ?_;refine wpAny_Assign_Name ?_ hs;refine yy (eZ I hg hm ?_ hdb);refine PySem.W.callWith_K (h₀:=X.base) I.ok.mod.kin hk (yj (ha cpos pins s σ H _ (I.wish _) h) (fun us s1 ⟨vs,H1,I1,r,q⟩=>⟨I1.unwish.kIn,?_⟩) fun _ _ z=>z.elim) he hpl;have I1:=I1.unwish
 have hl:us.length=ps.length:=by rw[<-r.length];exact G.len _ _ _ _ q
 have hb':=hb s1 us I1.kIn (by rw[yH];exact hl);rw[yH]at hb';refine wpAny_call (yL (G.run X.A X.stack s1 H1 ⟨us,[]⟩ us vs _ _ hr I1.env0 hb' r q) fun rs s' hq=>?_)
 cases rs with
 | error er =>
  obtain⟨ea,C,od,H',B,rfl,fl,un,hok,os,bare,hsB,trB,hE⟩:=hq;have ld:=rn I1 fl un hok os bare hsB trB;have fl':=fl;rw[hst]at fl';refine oJ (by rw[I.ok.frames,hst]) hfr fl' fun h4 held ups4=>?_;refine td held fun h5 fl5 ups5=>?_;rw[<-hst]at fl5;exact hh pins σ H' D ea C od B s' h5 ld fl5 (ups4.trans ups5) hE
 | ok fl =>
  cases fl with
  | ret u =>
   obtain⟨v,H2,I2,rv,q2⟩:=I1.after hq;exact gE I2 hN hi hx rv (fun s3 I3=>yO (yO ⟨_,H2,I3,q2⟩)) hf
  | next=>exact False.elim hq
  | brk=>exact False.elim hq
  | cont=>exact False.elim hq
theorem ek.okX {P:Program}{w:World}{K:PySem.W.Frag}{mg:Str->Option Value}{base:Heap}{x qual:Str}{st:Stmt}{f:Addr}{fd:FuncData}{N ps:List Str}{k:Nat}{sp:Sp}(F:ek K x qual st f fd)(S:aF N ps (ah st))(len:∀ vs H Q E,sp vs H Q E->vs.length=ps.length)
  (hbody:∀ (cdv:Value)(A:Around)(outer:List Env)(s:Shared)(H:Hp)(vs:List V)(Q:VK)(E:XK),b8 k (A.deeper (envOfC qual (ah st) s.heap.objs.size f cdv))->sp vs H Q E ->
   ∃ t,mO (iO (gJ P w) P w K mg base N qual (ah st) f cdv A outer s H E) (ci st) t/\t { nx:=fun _ H'=>Q .non H',rt:=Q } (fE N vs) H):a7 P w K mg base (gJ P w) (k+1) f fd ps sp:=by
 obtain⟨oc,od,kV,doc,pm,an,cdv,ct,osl,rfl,lk,hcd⟩:=F.ex;exact pF lk hcd S len fun A outer s H vs Q E hr hsp=>hbody cdv A outer s H vs Q E hr hsp
def PJ (X:Cx)(es:List Expr)(t:TA):Prop:=∀ (out:Str)(m:Nat)(pins:List (Addr×Obj))(s:Shared)(σ:St)(H:Hp)(Q:VK),out.length<=1000*m->m+es.length<=100->ay X pins σ H s->t σ H (fun _ H'=>∀ x:Str,Q (.str x) H')->wpAny (model X.prog X.w) X.A (joinParts out (evalEach es X.env)) (EP X pins σ Q) X.xe s
theorem lA {X:Cx}:PJ X [] nu:=by
 intro out m pins s σ H Q ho hm I h;refine joinParts_nil ⟨.str out,H,I.tok _,⟨_,rfl⟩,h out⟩ ?_;exact xZ ho (xZ (Nat.mul_le_mul_left 1000 (show m<=100 by simpa using hm)) (by decide))
def tJ (te:TE)(t:TA):TA:=fun σ H Q=>te σ H fun x H1=>∃ y:Str,x=.str y/\y.length<=1000/\t σ H1 Q
theorem dv {X:Cx}{e:Expr}{es:List Expr}{te:TE}{t:TA}(he:PE X e te)(h:PJ X es t):PJ X (e::es) (tJ te t):=by
 intro out m pins s σ H Q ho hm I hq
 show wpAny _ _ (joinParts out (eval e X.env::evalEach es X.env)) _ _ s
 refine joinParts_cons (bv (he pins s σ H _ I hq) fun u s1 ⟨x,H1,I1,rx,y,ex,hy,q1⟩=>?_);subst ex;obtain⟨tk,rfl⟩:=rx
 have hl:(out++y).length<=1000*(m+1):=by rw[strLen_append];omega
 rw[xF]at hm;refine⟨xZ hl (xZ (Nat.mul_le_mul_left 1000 (show m+1<=100 by omega)) (by decide)),?_⟩;exact h (out++y) (m+1) pins s1 σ H1 Q hl (by omega) I1 q1
def w9 (t:TA):TE:=fun σ H Q=>t σ H fun _ H'=>∀ x:Str,Q (.str x) H'
theorem i2 {X:Cx}{e1 e2:Expr}{es:List Expr}{t:TA}{pos:Pos}(h:PJ X (e1::e2::es) t)(hn:(e1::e2::es).length<=100:=by decide):PE X (.JoinedStr (e1::e2::es) pos) (w9 t):=by
 intro pins s σ H Q I hq;refine JoinedStr_many ?_;exact h Str.empty 0 pins s σ H Q (by show 0<=_;exact xX _) (by simpa using hn) I hq
def w8 (te:TE):TE:=fun σ H Q=>te σ H fun x H1=>∃ i:Int,x=.int i/\i.natAbs<10 ^ 100/\∀ y:Str,y.length<=1000->Q (.str y) H1
theorem ll {X:Cx}{e:Expr}{te:TE}{pos:Pos}(he:PE X e te):PE X (.FormattedValue e (-1) none pos) (w8 te):=by
 intro pins s σ H Q I h;refine FormattedValue_plain (bv (he pins s σ H _ I h) fun u s1 ⟨x,H1,I1,rx,i,ex,hi,q⟩=>?_);subst ex;obtain⟨tk,rfl⟩:=rx
 have hd:i.natAbs.log2<1920:=by
  by_cases h0:i.natAbs=0
  ·rw[h0];decide
  ·exact (Nat.log2_lt h0).mpr (xD hi (by decide +kernel))
 refine wpAny_formatField_int hd ⟨.str (toString i),H1,I1.tok _,⟨_,rfl⟩,q _ ?_⟩;have:=PySem.int_text_length_le10 (a:=i) (k:=100) (by decide) hi
 show (Str.ofString (toString i)).length<=1000
 rw[PySem.ofString_length];omega
end L2
namespace Wz
open PySem L2
def bF (P:Program)(w:World)(K:PySem.W.Frag)(mg:Str->Option Value)(base:Heap)(x:Str)(k:Nat)(ps:List Str)(sp:Sp):Prop :=
 ∃ (f:Addr)(fd:FuncData),a7 P w K mg base (gJ P w) k f fd ps sp/\mg x=some (.ref f)/\PySem.W.keepIn K (.ref f)=true/\fi K fd ps []
section
variable {X:Cx}{CX:j4}{k:Nat}{C:Addr}{ps:List Str}{sp:Sp}{E:XK}{m x:Str}{p pos apos:Pos}{e o:Expr}{es:List Expr}{ta:TE}{t:TA}
theorem jG (M:bF X.prog X.w X.K X.mg X.base x k ps sp)(hr:b8 k X.A)(hg:Gl X x)(hx:eI (gJ X.prog X.w) X E)(ha:PA X (e::es) t)
  (hdb:(x == ("__debug__" : Str))=false:=by decide) (he:starEach (e::es) X.env=(false,eval e X.env)::starEach es X.env:=by rfl) (hpl:(backTo pos (starEach es X.env)).any (·.1)=false:=by rfl) :
  PE X (.Call (.Name x p) (e::es) [] pos) (qw sp [] E t):=by
 obtain⟨f,fd,G,hm,hk,hb⟩:=M;exact nO G hr hg hm hk hb .nil hx ha hdb he hpl
theorem wc {X:Cx}{k:Nat}{ps:List Str}{sp:Sp}{i:Nat}{x fn:Str}{e:Expr}{es:List Expr}{t:TA}{hd0:ExceptHandler}{hdl:List ExceptHandler}{th:Value->Option Addr->TS}{px p cpos spos pos:Pos}
  (M:bF X.prog X.w X.K X.mg X.base fn k ps sp) (hr:b8 k X.A) (hg:Gl X fn) (ha:PA X.nox (e::es) t)
  (hst:X.stack=X.env::X.outer) (hfr:X.env.frame=some X.env.locals) (hN:X.N.Nodup) (hi:X.N[i]? = some x) (hx:qP X.env.scope x) (hh:uB X (hd0::hdl) th)
  (hs:swapsWith (.Call (.Name fn p) (e::es) [] cpos) (some (.Name x px)) spos.line X.env=pure false:=by rfl) (hf:X.fn x=true\/X.env.scope.names.lookup x=some .local:=by first | exact .inl rfl | exact .inr rfl | assumption)
  (hdb:(fn == ("__debug__" : Str))=false:=by decide) (he:starEach (e::es) X.env=(false,eval e X.env)::starEach es X.env:=by rfl) (hpl:(backTo cpos (starEach es X.env)).any (·.1)=false:=by rfl) :
  PS X (.Try [.Assign [.Name x px] (.Call (.Name fn p) (e::es) [] cpos) spos] (hd0::hdl) [] [] pos) (sg sp t i th):=by
 obtain⟨f,fd,G,hm,hk,hb⟩:=M;exact nj G hr hg hm hk hb ha hst hfr hN hi hx hh hs hf hdb he hpl
end
theorem ul {A:Around}{k n:Nat}(hr:b8 k A)(h:n<=200):A.units+n<cLine:=by have:=hr.un;omega
end Wz
namespace L2
open PySem PySem.Spec PyProof.Rows
def wf (K:PySem.W.Frag)(n:Nat):R2:=fun x y H Q=>wP x y H Q\/tN K n true x y H Q
theorem jD {X:Cx}(n:Nat)(hu:X.A.units+n<cLine):fJ X (compareOp .NotEq) (wf X.K n):=by
 intro pins s σ H x y v u Q I rx ry h;rcases h with h | h
 ·exact iI pins s σ H x y v u Q I rx ry h
 ·exact tv n hu pins s σ H x y v u Q I rx ry h
theorem oo {X:Cx}:dG X (.builtin "len") (fun xs H Q=>∃ p S n,xs=[.ref p]/\H p=some (.set S n)/\Q (.int n) H):=by
 intro pins s σ H xs us Q I r h;obtain⟨p,S,n,rfl,hp,q⟩:=h;obtain⟨u,rfl,rx⟩:=eA r;cases rx;obtain⟨o,es,ep,t,ho,hex,hd,_,_,hb,hf,hn⟩:=(show s.heap.SetOf (intKind X.prog X.w) p S n from I.hok p _ hp);subst hn;refine call_len_set ho hex hd hf ?_ ⟨.int es.size,H,I.tok _,⟨_,rfl⟩,q⟩;have:es.size<4096:=hb;omega
end L2
namespace Qs
open PySem PySem.W PyProof.Rows
structure xf (n:Nat)(lt:Nat->Nat->Bool):Prop where
 irr:∀ i,lt i i=false
 tot:∀ i j,i<n->j<n->i≠j->lt i j=true\/lt j i=true
 tr:∀ i j k,lt i j=true->lt j k=true->lt i k=true
def ask {α:Type}(lt:Nat->Nat->Bool):KasT α->α
 | .ret a=>a
 | .ask i j k=>ask lt (k (lt i j))
def wF {α:Type}(n:Nat)(lt:Nat->Nat->Bool):KasT α->Prop
 | .ret _=>True
 | .ask i j k=>i<n/\j<n/\wF n lt (k (lt i j))
def xi {α:Type}(n:Nat)(lt:Nat->Nat->Bool)(t:KasT α)(R:α->Prop):Prop:=wF n lt t/\R (ask lt t)
section
variable {n:Nat}{lt:Nat->Nat->Bool}{p:Array Nat}
def Pm (n:Nat)(p:Array Nat):Prop:=p.Perm (List.toArray (List.range n))
def Up (lt:Nat->Nat->Bool)(p:Array Nat)(k:Nat):Prop:=∀ i j,i<j->j<k->lt (p.getD i 0) (p.getD j 0)=true
def Dn (lt:Nat->Nat->Bool)(p:Array Nat)(k:Nat):Prop:=∀ i j,i<j->j<k->lt (p.getD j 0) (p.getD i 0)=true
end
def wN (p q:Int×Int):Bool:=decide (p.1<q.1\/(p.1=q.1/\p.2<q.2))
def wX (ps:List (Int×Int))(i j:Nat):Bool:=wN (ps.getD i (0,0)) (ps.getD j (0,0))
def sH (h:Heap)(v:Value)(p:Int×Int):Prop:=∃ (b:Addr)(o:Obj)(n:Nat)(t u:Tok),v=.ref b/\h.get? b=some o/\o.cls=.type "tuple"/\o.data=.seq #[.int p.1 t,.int p.2 u] n
section
variable {prog:Program}{w:World}{A:Around}{E:Value->Shared->Prop}{s:Shared}
def vP (vs:List Value)(ps:List (Int×Int))(out:List Value):Prop:=∃ ix:List Nat,ix.Perm (List.range vs.length)/\out=ix.map (fun i=>vs.getD i Value.none)/\(ix.map fun i=>ps.getD i (0,0)).Pairwise (fun a b=>wN a b=true)
end
def wM (h:Heap)(d:Addr)(es:Array DictEntry)(ep:Nat):Prop:=∃ o,h.get? d=some o/\o.ExactDict/\o.data=.dict es ep
end Qs
namespace Wz
open PySem PySem.Spec PyProof.Rows L2
theorem mV {α:Type}(d:α)(l:List α):(List.range l.length).map (fun i=>l.getD i d)=l:=by
 apply List.ext_getElem?
 intro i;rw[List.getElem?_map]
 by_cases hi:i<l.length
 ·rw[List.getElem?_range hi];simp[hi]
 ·rw[List.getElem?_eq_none (by simp;omega),List.getElem?_eq_none (by omega)];rfl
open PySem L2
theorem re {i j c:Int}(hi:0<=i/\i<100)(hj:0<=j/\j<100)(h:eX i c=eX j c):i=j:=by
 have ht0:0<=cS c*1234567891%2147483646:=yp _ (by decide);have ht1:cS c*1234567891%2147483646<2147483646:=yb _ (by decide);unfold eX at h;dsimp only at h;generalize cS c*1234567891%2147483646=t0 at *;generalize cS c/2147483646=q at *
 have h2:(i*(1+t0)+q)%2147483647=(j*(1+t0)+q)%2147483647:=by
  by_cases e:cS c%5=4
  ·rw[xA e,xA e]at h;omega
  ·rw[xx e,xx e]at h;exact h
 have h3:(2147483647:Int) ∣ (i-j)*(1+t0):=by
  have h5:=Int.dvd_of_emod_eq_zero (Int.emod_eq_emod_iff_emod_sub_eq_zero.mp h2)
  have e:i*(1+t0)+q-(j*(1+t0)+q)=(i-j)*(1+t0):=by rw[Int.sub_mul];omega
  rw[e]at h5;exact h5
 have key:∀ d:Nat,d<100->d≠0->Nat.gcd 2147483647 d=1:=by decide +kernel
 by_cases hij:i=j
 ·exact hij
 exfalso
 have h6:2147483647 ∣ (i-j).natAbs*(1+t0).natAbs:=by
  have:=Int.natAbs_dvd_natAbs.mpr h3;rw[Int.natAbs_mul]at this;exact this
 have h7:2147483647 ∣ (1+t0).natAbs:=Nat.Coprime.dvd_of_dvd_mul_left (key _ (by omega) (by omega)) h6;have:=Nat.le_of_dvd (by omega) h7;omega
end Wz
namespace L2
open PySem PySem.Spec PyProof.Rows
theorem uE (xs:List V):gT xs (some 1) none=xs.drop 1:=by
 unfold gT;rw[show HT.sIx xs.length 0 (some 1)=min 1 xs.length from HT.sIx_nat _ _ 1,HT.sIx_none]
 by_cases h:xs=[]
 ·subst h;rfl
 ·have:0<xs.length:=List.length_pos_iff.mpr h
  rw[show min 1 xs.length=1 by omega,yE (by rw[xI];omega)]
end L2
namespace Wz
open PySem L2
theorem py (xs:List V)(n:Nat):gT xs (some (n:Int)) none=xs.drop n:=by
 unfold gT;rw[HT.sIx_nat,HT.sIx_none]
 by_cases h:n<=xs.length
 ·rw[yx h,yE (by rw[xI];exact xm _)]
 ·rw[Nat.min_eq_right (by omega),List.drop_length,List.drop_of_length_le (by omega)];simp
theorem sN (xs:List V)(n:Nat):gT xs none (some (n:Int))=xs.take n:=by
 unfold gT;rw[HT.sIx_none,HT.sIx_nat,yC,Nat.sub_zero]
 by_cases h:n<=xs.length
 ·rw[yx h]
 ·rw[Nat.min_eq_right (by omega),yE (by omega),yE (by omega)]
end Wz
namespace L2
open PySem
theorem b8.m {j k:Nat}{A:Around}(r:b8 k A)(h:j<=k:=by decide):b8 j A:=r.mono h
theorem bT {X:Cx}{e:Expr}{t:TE}(h:PE X e t)(hs:starEach [e] X.env=(false,eval e X.env)::starEach [] X.env:=by rfl):PA X [e] (eV t nu):=bp h bW hs
theorem di {X:Cx}{e e2:Expr}{t t2:TE}(h:PE X e t)(h2:PE X e2 t2)(hs:starEach [e,e2] X.env=(false,eval e X.env)::starEach [e2] X.env:=by rfl)(hs2:starEach [e2] X.env=(false,eval e2 X.env)::starEach [] X.env:=by rfl):PA X [e,e2] (eV t (eV t2 nu)):=bp h (bp h2 bW hs2) hs
theorem nc {X:Cx}{e e2 e3:Expr}{t t2 t3:TE}(h:PE X e t)(h2:PE X e2 t2)(h3:PE X e3 t3)(hs:starEach [e,e2,e3] X.env=(false,eval e X.env)::starEach [e2,e3] X.env:=by rfl)(hs2:starEach [e2,e3] X.env=(false,eval e2 X.env)::starEach [e3] X.env:=by rfl)(hs3:starEach [e3] X.env=(false,eval e3 X.env)::starEach [] X.env:=by rfl):PA X [e,e2,e3] (eV t (eV t2 (eV t3 nu))):=bp h (bp h2 (bp h3 bW hs3) hs2) hs
theorem aL {X:Cx}{pos:Pos}(i:Nat){x:Str}{e:Expr}{te:TE}{pos':Pos}(hN:X.N.Nodup)(he:PE X e te)(hi:X.N[i]? = some x:=by rfl)(hx:qP X.env.scope x:=by first | exact Or.inl rfl | exact Or.inr rfl)(hs:swapsWith e (some (.Name x pos')) pos.line X.env=pure false:=by rfl)(hf:X.fn x=true\/X.env.scope.names.lookup x=some .local:=by first | exact .inl rfl | exact .inr rfl | assumption) :
  PS X (.Assign [.Name x pos'] e pos) (tV te (iE i)):=cU hN hi hx he hs hf
theorem ey {X:Cx}{pos:Pos}(i:Nat){x:Str}(hN:X.N.Nodup)(hi:X.N[i]? = some x:=by rfl)(hx:qP X.env.scope x:=by first | exact Or.inl rfl | exact Or.inr rfl)(hf:X.fn x=true\/X.env.scope.names.lookup x=some .local:=by first | exact .inl rfl | exact .inr rfl | assumption):PG X (.Name x pos) (iE i):=lx hN hi hx hf
theorem nE {so sc:Scope}{N N':List Str}{src:List (Option Nat)}(a:sc.kind=.function:=by rfl)(b:∀ y∈sc.names,y.2≠.cell:=by decide +kernel)(c:∀ y∈sc.names,y.2=.local->sc.names.lookup y.1=some .local:=by decide +kernel)(d:∀ y∈sc.names,y.2=.free->so.names.lookup y.1=some .cell\/so.names.lookup y.1=some .free:=by decide +kernel)(e:N'.Nodup:=by decide +kernel)(f:src.length=N'.length:=by rfl)
  (g:∀ p∈N'.zip src,(match p.2 with | none=>true | some j=>decide (N[j]? = some p.1/\sc.names.lookup p.1=some .free))=true:=by decide +kernel):o5 so sc N N' src:=⟨a,b,c,d,e,f,g⟩
theorem iP {N P:List Str}{sc:Scope}(a:sc.kind=.function:=by rfl)(b:sc.isCoroutine=false:=by rfl)(c:sc.isGenerator=false:=by rfl)(d:N.Nodup:=by decide +kernel)(e:N.take P.length=P:=by rfl)(f:∀ x∈P,sc.names.lookup x=some .local\/sc.names.lookup x=some .cell:=by decide +kernel)(g:∀ y∈sc.names,y.2≠.free:=by decide +kernel):aF N P sc:=⟨a,b,c,d,e,f,g⟩
end L2
namespace Wz
open PySem L2
def aU (K:PySem.W.Frag)(x:Str)(st:Stmt):Prop:=∃ (f:Addr)(fd:FuncData),PySem.W.nsIn K mainGlobals x=some (some (.ref f))/\ek K x x st f fd
theorem fact_mk {K:PySem.W.Frag}{x:Str}{st:Stmt}{f:Addr}{oc:Value}{od an:Option Addr}{osl:Array (Option Value)}{kV doc pm cdv ct:Value}(a:PySem.W.nsIn K mainGlobals x=some (some (.ref f)))(l:K.lookup f=some ⟨oc,od,.func (PySem.W.fnOf x x (dW st) (ci st) (ah st) .none kV doc pm an cdv ct),osl⟩)
  (c:PySem.W.codeIn K cdv x=true) (k:PySem.W.keepIn K (.ref f)=true):aU K x st:=⟨f,_,a,sQ l c k⟩
section
variable {P:Program}{w:World}{K:PySem.W.Frag}{h base:Heap}{mg:Str->Option Value}{x m q:Str}{st:Stmt}{k:Nat}{ps:List Str}{sp:Sp}{C:Addr}{CX:j4}
theorem uL {n:Nat}{P:List Value->Prop}(h:∀ (a:Value)(vs:List Value),vs.length=n->P (a::vs)):∀ us:List Value,us.length=n+1->P us
 | a::vs,e=>h a vs (Nat.succ.inj e)
theorem uK {P:List Value->Prop}(h:P []):∀ us:List Value,us.length=0->P us
 | [],_=>h
theorem jq (X:K.In h)(G:h.Ns mainGlobals mg)(F:aU K x st)(ok:∀ f fd,ek K x x st f fd->a7 P w K mg base gI k f fd ps sp)
  (hb:∀ (kV doc pm:Value)(an:Option Addr)(cdv ct:Value)(us:List Value),us.length=ps.length->bindArgs (PySem.W.fnOf x x (dW st) (ci st) (ah st) .none kV doc pm an cdv ct) ⟨us,[]⟩=pure (ps.zip us):=by intro _ _ _ _ _ _;(repeat refine uL fun _=>?_);exact uK rfl):au P w K mg base x k ps sp:=by
 obtain⟨f,fd,a,g⟩:=F;exact⟨f,fd,ok f fd g,x5 X G a,g.kp,g.binds hb⟩
theorem uP (X:K.In h)(G:h.Ns mainGlobals mg)(F:aU K x st)(ok:∀ f fd,ek K x x st f fd->a7 P w K mg base (gJ P w) k f fd ps sp)
  (hb:∀ (kV doc pm:Value)(an:Option Addr)(cdv ct:Value)(us:List Value),us.length=ps.length->bindArgs (PySem.W.fnOf x x (dW st) (ci st) (ah st) .none kV doc pm an cdv ct) ⟨us,[]⟩=pure (ps.zip us):=by intro _ _ _ _ _ _;(repeat refine uL fun _=>?_);exact uK rfl):bF P w K mg base x k ps sp:=by
 obtain⟨f,fd,a,g⟩:=F;exact⟨f,fd,ok f fd g,x5 X G a,g.kp,g.binds hb⟩
end
end Wz
namespace L2
open PySem PySem.Spec PyProof.Rows
theorem oH {i:Int}(h:i.natAbs<10 ^ 100):i.natAbs.log2<1920:=by
 by_cases h0:i.natAbs=0
 ·rw[h0];decide
 ·rw[Nat.log2_lt h0]
  exact Nat.lt_trans h (by decide +kernel)
theorem f8 {X:Cx}:dG X (.type "str") (fun xs H Q=>(∃ s,xs=[.str s]/\Q (.str s) H)\/∃ i:Int,xs=[.int i]/\i.natAbs<10 ^ 100/\Q (.str (Str.ofString (toString i))) H):=by
 intro pins s σ H xs us Q I r h;rcases h with ⟨z,rfl,q⟩ | ⟨i,rfl,hi,q⟩
 ·obtain⟨u,rfl,rx⟩:=eA r
  obtain⟨t,rfl⟩:=rx;exact P.str_of_str ⟨.str z,H,I,⟨t,rfl⟩,q⟩
 ·obtain⟨u,rfl,rx⟩:=eA r
  obtain⟨t,rfl⟩:=rx;exact P.str_of_int (oH hi) ⟨.str _,H,I.tok _,⟨_,rfl⟩,q⟩
theorem kx:∀ {ts:List Str}{its:List Value},aH (ts.map V.str) its->∃ l:List (Str×Tok),its=strValues l/\l.map (·.1)=ts
 | [],its,r=>by
  have:=r.length;refine⟨[],?_,rfl⟩;exact List.eq_nil_of_length_eq_zero this.symm
 | t::ts,its,r=>by
  cases r with
  | cons rx rt =>
   obtain⟨l,e1,e2⟩:=kx rt;obtain⟨k,rfl⟩:=rx;exact⟨(t,k)::l,by rw[e1];rfl,by rw[xM,e2]⟩
def r9 (K:PySem.W.Frag):V->List V->Hp->VK->Prop:=fun x vs H Q=>∃ sep l ts,x=.str sep/\vs=[.ref l]/\bd K H l (ts.map V.str)/\JoinOk sep ts=true/\Q (.str (Txt.join sep ts)) H
theorem rz {X:Cx}(K:PySem.W.Frag)(hK:X.K=K:=by rfl):vN X "str.join" (r9 K):=by
 subst hK;intro pins s σ H x xs v us Q I rx rv h;obtain⟨sep,l,ts,rfl,rfl,hq,ok,q⟩:=h;obtain⟨t,rfl⟩:=rx;obtain⟨u,rfl,ru⟩:=eA rv;cases ru;obtain⟨its,rl,pl,hz⟩:=I.list hq;obtain⟨ls,rfl,e⟩:=kx rl;exact SC.join pl.isList e ok fun t' k=>⟨.str _,H,I.tok _,⟨_,rfl⟩,q⟩
theorem lu {X:Cx}(K:PySem.W.Frag){o e:Expr}{to te:TE}{apos cpos:Pos}(ho:PE X o to)(he:PE X e te)(hK:X.K=K:=by rfl)(hbase:attributeBase o "join" X.env (eval o X.env)=eval o X.env:=by rfl)
  (hfew:((backTo cpos (starEach [e] X.env)).all (fun x=>!x.1)&&(backToKw cpos (keywordEach [] X.env)).all (fun x=>x.1.isSome)&&decide ([e].length+([]:List Keyword).length+(if ([]:List Keyword).isEmpty then 0 else 1)<30))=true:=by rfl)
  (hline:(apos.endLine == cpos.line)=true:=by rfl) (hs:starEach [e] X.env=(false,eval e X.env)::starEach [] X.env:=by rfl) (hplain:(backTo cpos (starEach [] X.env)).any (·.1)=false:=by rfl) :
  PE X (.Call (.Attribute o "join" apos) [e] [] cpos) (wQ K "str" (r9 K) to (eV te nu)):=by
 subst hK;exact iM PySem.F.plainAttrs_str PySem.F.slot_str_join PySem.F.type_str_join (rz X.K) ho (bp he bW hs) hbase hfew hline hs hplain
end L2
namespace Wz
open PySem L2
def eL (g:Int):Str:=Str.ofString (toString g)
theorem kS {sep:Str}{ts:List Str}{B:Nat}(h:∀ y∈ts,y.length<=B)(hl:ts.length*B+ts.length*sep.length<=16777216):JoinOk sep ts=true:=by
 unfold JoinOk;rw[StrLaws.joinFits h hl];rfl
end Wz
namespace PySem
open Sem (wp)
section
variable {M:Model}{A:Around}{E:Value->Shared->Prop}{s:Shared}{env:Env}
def uj (M:Model)(A:Around)(E:Value->Shared->Prop)(use:Option (Value->Sem Unit))(Q:Value->Shared->Prop)(acc:Value)(C:Addr)(fr:Option Addr)(r:Result)(s':Shared):Prop :=
 match r,use with
 | .ok _,none=>∃ m,s'.heap.Ns C m/\∀ h',Heap.SameBut C s'.heap h'->Q acc { s' with heap:=h' }
 | .ok _,some u=>wpAny M A (u acc) (fun _ s''=>∃ m,s''.heap.Ns C m/\∀ h',Heap.SameBut C s''.heap h'->Q .none { s'' with heap:=h' }) E s'
 | .error x,_=>∃ m,s'.heap.Ns C m/\∀ h',Heap.SameBut C s'.heap h'->∀ cenv:Env,cenv.frame=fr->wpAny M A (passOn "comprehension.variables-let-go" x cenv:Sem Value) (fun _ _=>False) E { s' with heap:=h' }
end
end PySem
namespace L2
open PySem PySem.Spec PyProof.Rows
abbrev mZ (qual:Str)(scope:Scope)(s:Shared)(f c':Addr)(y:Str)(cy:Addr):Env:=PySem.W.envX qual scope s.heap.objs.size f (.ref c') [(y,cy)]
def kc (CX:j4)(P:Program)(w:World)(K:PySem.W.Frag)(mg:Str->Option Value)(base:Heap)(N:List Str)(qual:Str)(scope:Scope)(f c':Addr)(y:Str)(cy:Addr)(A:Around)(outer:List Env)(s:Shared)(H:Hp)(E:XK):Cx where
 prog:=P
 w:=w
 K:=K
 mg:=mg
 base:=base
 A:=A.deeper (mZ qual scope s f c' y cy)
 N:=N
 s₀:=s
 H₀:=H
 env:=mZ qual scope s f c' y cy
 outer:=outer
 stack:=mZ qual scope s f c' y cy::outer
 ex:=[]
 calm:=true
 fn:=fun _=>false
 pn:=[]
 xe:=fun e s'=>wpAny (model P w) (A.deeper (mZ qual scope s f c' y cy)) (leaving (mZ qual scope s f c' y cy) e) (fun _ s''=>CX outer H s E e s'') (fun e' s''=>CX outer H s E e' s'') s'
structure lP (ps:List Str)(y:Str)(sc:Scope):Prop where
 kind:sc.kind=.function
 co:sc.isCoroutine=false
 gen:sc.isGenerator=false
 nd:(ps++[y]).Nodup
 par:∀ x∈ps,sc.names.lookup x=some .local
 nocell:∀ z∈sc.names,z.2≠.cell
 fr:∀ x,sc.names.lookup x=some .free->x=y
 fry:sc.names.lookup y=some .free
structure j5 (base:Heap)(qual:Str)(params:Arguments)(body:Expr)(scope:Scope)(y:Str)(vy:V)(f c' cy:Addr)(pm ct:Value):Prop where
 ob:base.get? f=some (PySem.W.kla_obj "<lambda>" qual params body scope [(y,cy)] pm c' ct)
 cell:∃ u,aQ vy u/\base.IsCell cy (some u)
def eG (H:Hp)(c':Addr)(qual:Str):Prop:=∃ oc vs t,H c'=some (.frz oc (.own c'))/\oc.data=.fields vs/\vs[1]? = some (.str qual t)
theorem eG.rec {P:Program}{w:World}{H:Hp}{h:Heap}{c':Addr}{qual:Str}(x:eG H c' qual)(ok:fT P w H h):h.CodeRec (.ref c') qual:=by
 obtain⟨oc,vs,t,e,d,v⟩:=x;exact⟨c',oc,vs,t,rfl,(ok c' _ e).1,d,v⟩
theorem nN {α:Type}{x:Str}{u:α}:∀ {l:List (Str×α)},(l.map (·.1)).Nodup->(x,u)∈l->l.lookup x=some u
 | p::l,nd,h=>by
  rw[xM,yQ]at nd;rw[xJ];rcases xB.mp h with e | e
  ·rw[<-e];simp
  ·have ne:(x == p.1)=false:=by
    rw[yd];exact fun z=>nd.1 (by rw[<-z];exact x6 (f:=(·.1)) e)
   rw[ne];exact nN nd.2 e
theorem qN {ps:List Str}{us:List Value}{i:Nat}{x:Str}{u:Value}(nd:ps.Nodup)(hl:ps.length=us.length)(h1:ps[i]? = some x)(h2:us[i]? = some u):(ps.zip us).reverse.lookup x=some u:=by
 refine nN ?_ ?_
 ·rw[List.map_reverse,List.map_fst_zip (by omega)]
  exact (List.reverse_perm ps).nodup_iff.mpr nd
 ·rw[List.mem_reverse]
  exact xO (i:=i) (List.getElem?_zip_eq_some.mpr ⟨h1,h2⟩)
theorem oE {CX:j4}{P:Program}{w:World}{K:PySem.W.Frag}{mg:Str->Option Value}{base:Heap}{ps:List Str}{y:Str}{qual:Str}{params:Arguments}{body:Expr}{scope:Scope}{vy:V}{f c' cy:Addr}{pm ct:Value}{A:Around}{outer:List Env}{s:Shared}{h1:Heap}{tk:Nat}{H:Hp}{E:XK}{us:List Value}{vs:List V}
  (S:lP ps y scope) (Lm:j5 base qual params body scope y vy f c' cy pm ct) (hd:A.handled=none) (e0:og P w K mg base A outer s H) (hl:vs.length=ps.length) (r:aH vs us)
  (hns:h1.Ns s.heap.objs.size (fun x=>(ps.zip us).reverse.lookup x)) (hk:∀ b o,s.heap.get? b=some o->h1.get? b=some o) :
  ay (kc CX P w K mg base (ps++[y]) qual scope f c' y cy A outer s H E) [] (vs.map some++[some vy]) H { s with heap:=h1,toks:=tk }:=by
 have noA:∀ b:Addr,b∉(kc CX P w K mg base (ps++[y]) qual scope f c' y cy A outer s H E).ex:=fun b z=>absurd (show b∈([]:List Addr) from z) (by simp);obtain⟨uy,ry,oc,hoc,hdc⟩:=Lm.cell
 have lk:∀ x c,List.lookup x [(y,cy)]=some c->x=y/\c=cy:=fun x c h=>by
  rw[xJ]at h
  cases e:x == y with
  | true=>rw[e]at h;cases h;exact⟨eq_of_beq e,rfl⟩
  | false=>rw[e]at h;cases h
 have lky:List.lookup y [(y,cy)]=some cy:=by rw[xJ,beq_self_eq_true]
 refine⟨⟨e0.mod,S.kind,rfl,rfl,xm _,fun x z c h1 h2=>?_,fun x hx=>?_,fun x c h=>?_,fun _=>hd,Around.frames_deeper e0.frames,.inr ⟨rfl,rfl⟩,fun b z=>absurd z (noA b),e0.bs,e0.bsz,fun b _ _=>noA b,fun b z=>absurd z (noA b),e0.funs,e0.frf⟩,
  rfl,e0.bare,Un.kept hk,⟨_,hns,fun i x v h1 h2 h3=>?_⟩,fun x c h=>?_,e0.hok.fresh (xm _),fun x c h=>?_,fun p hp=>absurd (show p∈([]:List (Addr×Obj)) from hp) (by simp),e0.hok.kept hk,?_⟩
 ·rw[(lk x c h1).1,(lk z c h2).1]
 ·have hx:scope.names.lookup x=some .cell\/scope.names.lookup x=some .free:=hx
  rcases hx with q | q
  ·exact absurd rfl (S.nocell _ (yo q))
  ·exact⟨cy,by rw[S.fr x q];exact lky⟩
 ·cases h
 ·by_cases hi:i<ps.length
  ·have hp:ps[i]? = some x:=by
    have h1:(ps++[y])[i]? = some x:=h1;rw[List.getElem?_append_left hi]at h1;exact h1
   have ha:vs[i]? = some v:=by
    have h2:(vs.map some++[some vy])[i]? = some (some v):=h2;rw[List.getElem?_append_left (by simpa [hl] using hi),List.getElem?_map]at h2
    cases e:vs[i]? with
    | none=>rw[e]at h2;cases h2
    | some a=>rw[e]at h2;cases h2;rfl
   obtain⟨u,hu,rv⟩:=r.get ha;refine⟨u,rv,.inl ⟨S.par x (xO hp),?_⟩⟩;exact qN (List.nodup_append.mp S.nd).1 (by rw[<-r.length,hl]) hp hu
  ·have h1:(ps++[y])[i]? = some x:=h1
   have hi2:i=ps.length:=by have:=(List.getElem?_eq_some_iff.mp h1).1;simp at this;omega
   have h2:(vs.map some++[some vy])[i]? = some (some v):=h2;rw[hi2,List.getElem?_append_right (xm _),Nat.sub_self]at h1;rw[hi2,List.getElem?_append_right (by simp[hl]),show ps.length-(vs.map some).length=0 by simp[hl]]at h2;cases h1;cases h2;exact⟨uy,ry,.inr ⟨.inr S.fry,cy,lky,oc,hk _ _ (e0.bs _ _ hoc).1,hdc⟩⟩
 ·obtain⟨rfl,rfl⟩:=lk x c h
  exact⟨_,oc,hk _ _ (e0.bs _ _ hoc).1,hdc⟩
 ·obtain⟨rfl,rfl⟩:=lk x c h
  exact (e0.bs _ _ hoc).2
 ·show (vs.map some++[some vy]).length=(ps++[y]).length
  simp[hl]
theorem sZ {CX:j4}{P:Program}{w:World}{K:PySem.W.Frag}{mg:Str->Option Value}{base:Heap}{k:Nat}{ps:List Str}{y:Str}{qual:Str}{params:Arguments}{body:Expr}{scope:Scope}{vy:V}{f c' cy:Addr}{pm ct:Value}{sp:Sp}
  (S:lP ps y scope) (Lm:j5 base qual params body scope y vy f c' cy pm ct)
  (len:∀ vs H Q E,sp vs H Q E->vs.length=ps.length) (hcd:∀ vs H Q E,sp vs H Q E->eG H c' qual)
  (hbody:∀ (A:Around)(outer:List Env)(s:Shared)(H:Hp)(vs:List V)(Q:VK)(E:XK),b8 k (A.deeper (mZ qual scope s f c' y cy))->sp vs H Q E ->
   ∃ t,PE (kc CX P w K mg base (ps++[y]) qual scope f c' y cy A outer s H E) body t/\t (vs.map some++[some vy]) H Q) :
  a7 P w K mg base CX (k+1) f (PySem.W.kla_fn "<lambda>" qual params body scope [(y,cy)] pm (.ref c') ct) ps sp:=by
 refine⟨len,fun A outer s H args us vs Q E hr e0 hb r hsp=>?_⟩;have hl:=len _ _ _ _ hsp;have hkp:∀ b o,base.get? b=some o->s.heap.get? b=some o:=fun b o e=>(e0.bs b o e).1;have lim:s.heap.NoLimit:=e0.mod.nolimit.keeps hkp;refine PySem.W.kla_callFunE hr.depth (hkp _ _ Lm.ob) rfl S.co S.gen rfl ((hcd _ _ _ _ hsp).rec e0.hok) (hb _ _ _ _ ?_);refine wpAny_newFunctionEnv S.nocell (fun z hz=>S.par z.1 (List.of_mem_zip hz).1) (fun h1 hns hsb=>⟨lim.fresh _ hsb,?_⟩) S.kind;have hk1:∀ b o,s.heap.get? b=some o->h1.get? b=some o:=fun b o e=>hsb.extBut b o (xK (xz e)) (Heap.get?_push_of_some _ e)
 show codeAny _ _ (.expr body (mZ qual scope s f c' y cy)) _ _
 obtain⟨t,ht,hq⟩:=hbody A outer s H vs Q E (hr.deeper _) hsp;have I:ay (kc CX P w K mg base (ps++[y]) qual scope f c' y cy A outer s H E) [] (vs.map some++[some vy]) H { s with heap:=h1,toks:=s.toks+(ps.zip us).length }:=oE S Lm hr.hd e0 hl r hns hk1;refine PySem.W.kla_codeExpr (yj (ht [] _ _ H Q I hq) (fun u s' ⟨v,H',J,rv,q⟩=>?_) fun e s' hs=>hs);exact⟨v,H',J.os,J.bare,J.base,J.hok,rv,q⟩
def fU (K:PySem.W.Frag)(c P:Addr):Prop:=∃ (o:Obj)(vs:Array Value)(file:Str)(tf:Tok)(flags:Int)(tg:Tok)(inF:Bool)(text:Int)(tt:Tok),K.lookup c=some o/\o.cls=.type "code"/\o.data=.fields vs/\vs[11]? = some (.ref P)/\vs.getD 11 .none=.ref P/\vs.getD 18 .none=.str file tf /\
  vs.getD 7 .none=.int flags tg/\vs.getD 9 .none=.bool inF/\vs.getD 10 .none=.int text tt/\c≠P
theorem fU.hd {K:PySem.W.Frag}{c P:Addr}{h:Heap}(x:fU K c P)(k:K.In h):PySem.W.CodeHd h c P:=by
 obtain⟨o,vs,file,tf,flags,tg,inF,text,tt,e,r⟩:=x;exact⟨o,vs,file,tf,flags,tg,inF,text,tt,k _ _ e,r⟩
def gH (mg:Str->Option Value)(base:Heap):Prop:=∃ bm ob,mg "__builtins__" = some (.ref bm)/\bm≠builtinsNs/\base.get? bm=some ob/\ob.cls=.type "module"/\ob.dict=some builtinsNs/\ob.data=.plain
def TabI (H:Hp)(P:Addr)(pos:Pos)(qual:Str):Prop:=H P=some (.tbl #[])\/∃ c',H P=some (.tbl #[rawInt pos.line,rawInt pos.col,.ref c'])/\eG H c' qual
theorem TabI.tbl {H:Hp}{P:Addr}{pos:Pos}{qual:Str}(x:TabI H P pos qual):∃ ps,H P=some (.tbl ps):=x.elim (fun e=>⟨_,e⟩) fun ⟨_,e,_⟩=>⟨_,e⟩
theorem TabI.same {H H':Hp}{P:Addr}{pos:Pos}{qual:Str}(x:TabI H P pos qual)(s:aB H H'):TabI H' P pos qual:=by
 rcases x with e | ⟨c',e,oc,vs,t,e2,r⟩
 ·exact .inl (s _ _ e)
 ·exact .inr ⟨c',s _ _ e,oc,vs,t,s _ _ e2,r⟩
section
variable {X:Cx}{pins:List (Addr×Obj)}{σ:St}{H:Hp}{s:Shared}
theorem pM {A:Around}{E:Value->Shared->Prop}{params:Arguments}{body:Expr}{scope:Scope}{pos:Pos}{y:Str}{c0 P cy:Addr}{qual:Str}{Q:Value->Shared->Prop}(I:ay X pins σ H s)(hc:X.env.code=.ref c0)(C:fU X.K c0 P)(B:gH X.mg X.base)(hq:X.env.qual++"<lambda>" = qual)
  (hT:TabI H P pos qual) (hdf:defaultsOf params X.env=([],[])) (hcl:closureFor scope X.env=pure [(y,cy)]) (hcy:X.env.cells.lookup y=some cy)
  (h:∀ (f c':Addr)(pm ct:Value)(H':Hp)(s':Shared),ay X pins σ H' s'->s'.heap.get? f=some (PySem.W.kla_obj "<lambda>" qual params body scope [(y,cy)] pm c' ct)->s.heap.objs.size<=f->H' f=none->eG H' c' qual->TabI H' P pos qual->(∀ b o,H b=some o->b≠P->H' b=some o) ->
   (∀ b o,s.heap.get? b=some o->b≠P->s'.heap.get? b=some o)->Q (.ref f) s') :
  wpAny (model X.prog X.w) A (eval (.Lambda params body scope pos) X.env) Q E s:=by
 refine PySem.W.kla_eval hdf ?_;rw[hq];have kb:=I.bk;have CH:=C.hd I.kIn;obtain⟨bm,ob,b1,b2,b3,b4,b5,b6⟩:=B;have gN:s.heap.Ns mainGlobals X.mg:=I.ok.mod.glob.keeps kb;obtain⟨ps,hps⟩:=hT.tbl;have hPo:s.heap.get? P=some (PySem.W.tabObj ps):=I.hok P _ hps
 have nP:∀ b o,X.base.get? b=some o->b≠P:=fun b o e z=>by rw[z]at e;rw[(I.bs _ _ e).2]at hps;cases hps
 have gP:mainGlobals≠P:=fun z=>by
  obtain⟨o,es,ep,e,hd,_⟩:=I.ok.mod.glob;exact nP _ _ e z
 have bG:bm≠mainGlobals:=fun z=>by
  obtain⟨o,es,ep,e,hd,_⟩:=I.ok.mod.glob;rw[z,e]at b3;cases b3;rw[hd]at b6;cases b6
 have hb:s.heap.BuiltinsAt X.mg P:=⟨bm,ob,b1,b2,bG,nP _ _ b3,kb _ _ b3,b4,b5,b6⟩;rcases hT with hT | ⟨c',hT,hcf⟩
 ·rw[hps]at hT
  cases hT;refine PySem.W.kla_makeFunction (mg:=X.mg) hcl I.ok.glob gN hc CH hPo (by trivial) rfl gP hb fun c' ctv h' tk hx hge hlt hrec htb=>?_;obtain⟨c1,oc,vs,t,e1,hoc,hdc,hvc⟩:=hrec;cases e1;have hcH:H c'=none:=I.hok.fresh hge
  have cP:c'≠P:=fun z=>by rw[z,hps]at hcH;cases hcH
  have fH:H h'.objs.size=none:=I.hok.fresh (xZ hge (Nat.le_of_lt hlt))
  have fP:h'.objs.size≠P:=fun z=>by rw[z,hps]at fH;cases fH
  have fc:h'.objs.size≠c':=Nat.ne_of_gt hlt;have kk:∀ b o,s.heap.get? b=some o->b≠P->(h'.push (PySem.W.kla_obj "<lambda>" qual params body scope [(y,cy)] ((X.mg "__name__").getD .none) c' ctv)).get? b=some o:=fun b o e n=>Heap.get?_push_of_some _ (hx b o n e);have lt0:∀ b o,s.heap.get? b=some o->b≠c':=fun b o e z=>absurd (xD (xz (z▸e)) hge) (yK _)
  have ltH:∀ b o,H b=some o->b≠c':=fun b o e z=>by rw[z,hcH]at e;cases e
  have I1:ay X pins σ (aY (aY H P (.tbl (#[]++#[rawInt pos.line,rawInt pos.col,.ref c']))) c' (.frz oc (.own c'))) { s with heap:=h'.push (PySem.W.kla_obj "<lambda>" qual params body scope [(y,cy)] ((X.mg "__name__").getD .none) c' ctv),toks:=tk }:=by
   have hne:∀ b o,H b=some o->b≠P->aY (aY H P (.tbl (#[]++#[rawInt pos.line,rawInt pos.col,.ref c']))) c' (.frz oc (.own c')) b=some o:=fun b o e n=>by rw[aE (ltH b o e),aE n];exact e
   refine I.un ⟨fun b o e n _ _=>kk b o e (fun z=>by rw[z,hps]at n;cases n),fun b o e n _ _=>⟨o.slots,kk b o e (fun z=>by rw[z,hps]at n;cases n)⟩,fun b o e n _=>?_,fun b o e _=>?_,fun b xs e=>hne b _ e (fun z=>by rw[z,hps]at e;cases e),fun b o u e=>hne b _ e (fun z=>by rw[z,hps]at e;cases e),fun b qs e=>?_⟩ fun b u e=>?_
   ·rw[aE (lt0 b o e),aE (fun z=>by rw[z,hps]at n;cases n)];exact n
   ·by_cases z:b=P
    ·exact⟨_,by rw[z];exact Heap.get?_push_of_some _ htb⟩
    ·exact⟨o,kk b o e z⟩
   ·by_cases z:b=P
    ·rw[z,hps]at e;cases e
     exact⟨#[rawInt pos.line,rawInt pos.col,.ref c'],by rw[z,aE (yB cP),aa]⟩
    ·exact⟨#[],by rw[hne b _ e z];simp⟩
   ·by_cases z:b=c'
    ·rw[z,aa]at e
     cases e;rw[z];exact⟨Heap.get?_push_of_some _ hoc,_,Heap.get?_push_of_some _ hoc⟩
    ·rw[aE z]at e
     by_cases z2:b=P
     ·rw[z2,aa]at e
      cases e;rw[z2];exact Heap.get?_push_of_some _ htb
     ·rw[aE z2]at e
      refine (I.hok b u e).stay (fun d v hd q=>kk d v q ?_) (fun d q=>hne d _ q (fun z=>by rw[z,hps]at q;cases q)) fun d xs q=>hne d _ q (fun z=>by rw[z,hps]at q;cases q);rcases hd with r | r
      ·rw[r];exact z2
      ·exact fun z=>by rw[z,hps]at r;cases r
  have cf:eG (aY (aY H P (.tbl (#[]++#[rawInt pos.line,rawInt pos.col,.ref c']))) c' (.frz oc (.own c'))) c' qual:=⟨oc,vs,t,aa,hdc,hvc⟩;refine h _ c' _ ctv _ _ I1 (Heap.get?_push_size _ rfl) (xZ hge (Nat.le_of_lt hlt)) ?_ cf (.inr ⟨c',?_,cf⟩) (fun b o e n=>?_) kk
  ·rw[aE fc,aE fP];exact fH
  ·rw[aE (yB cP),aa];rfl
  ·rw[aE (ltH b o e),aE n];exact e
 ·rw[hps]at hT
  cases hT;refine PySem.W.kla_makeFunctionHit (cv:=.ref c') (mg:=X.mg) hcl I.ok.glob gN hc CH hPo ?_ ?_ hb fun ctv h' tk hk hsz=>?_
  ·exact True.intro
  ·exact codeAmong_snoc (pos:=pos) (c:=.ref c') [] True.intro rfl
  have fH:H h'.objs.size=none:=I.hok.fresh hsz;have kk:∀ b o,s.heap.get? b=some o->(h'.push (PySem.W.kla_obj "<lambda>" qual params body scope [(y,cy)] ((X.mg "__name__").getD .none) c' ctv)).get? b=some o:=fun b o e=>Heap.get?_push_of_some _ (hk b o e);exact h _ c' _ ctv H _ (I.kept kk) (Heap.get?_push_size _ rfl) hsz fH hcf (.inr ⟨c',hps,hcf⟩) (fun b o e _=>e) (fun b o e _=>kk b o e)
theorem iD {h base base':Heap}:∀ {l:List Env},h.FunFrames base l->(∀ b∈dj l,base'.get? b=none)->h.FunFrames base' l
 | [],_,_=>trivial
 | env::r,hl,hn=>by
  obtain⟨hk,⟨L,o,hf,hb,ho,hd⟩,hr⟩:=hl
  have e:dj (env::r)=L::dj r:=by unfold dj;rw[List.filterMap_cons,hf]
  rw[e]at hn;exact⟨hk,⟨L,o,hf,hn L xp,ho,hd⟩,iD hr fun b hb=>hn b (xq _ hb)⟩
def jd (base h:Heap)(f cy:Addr):Heap:=PySem.W.hideAll h ((List.range h.objs.size).filter fun b=>decide (base.get? b=none/\b≠f/\b≠cy))
theorem dR {base h:Heap}{f cy b:Addr}{o:Obj}(e:h.get? b=some o)(hb:(∃ o,base.get? b=some o)\/b=f\/b=cy):(jd base h f cy).get? b=some o:=by
 refine PySem.W.hideAll_get _ e fun z=>?_;obtain⟨n1,n2,n3⟩:=x0 (List.mem_filter.mp z).2;rcases hb with ⟨o,q⟩ | q | q
 ·rw[n1]at q;cases q
 ·exact n2 q
 ·exact n3 q
theorem km {base h:Heap}{f cy b:Addr}{o:Obj}(e:(jd base h f cy).get? b=some o):h.get? b=some o/\((∃ o,base.get? b=some o)\/b=f\/b=cy):=by
 have e1:=PySem.W.of_hideAll _ e;refine⟨e1,?_⟩
 by_cases z:base.get? b=none/\b≠f/\b≠cy
 ·have:(jd base h f cy).get? b=none:=PySem.W.hideAll_none _ (List.mem_filter.mpr ⟨yA.mpr (xz e1),xo z⟩)
  rw[this]at e;cases e
 ·by_cases z1:b=f
  ·exact .inr (.inl z1)
  by_cases z2:b=cy
  ·exact .inr (.inr z2)
  cases q:base.get? b with
  | none=>exact absurd ⟨q,z1,z2⟩ z
  | some o=>exact .inl ⟨o,rfl⟩
theorem Mod.keeps {K:PySem.W.Frag}{mg:Str->Option Value}{base base':Heap}(m:Mod K mg base)(k:∀ b o,base.get? b=some o->base'.get? b=some o):Mod K mg base' :=
 ⟨m.kin.keeps k,m.glob.keeps k,let ⟨mb,h1,h2⟩:=m.blt;⟨mb,h1.keeps k,h2⟩,m.nolimit.keeps k⟩
theorem pL {f cy:Addr}{y:Str}(I:ay X pins σ H s)(hf:H f=none)(hfo:∃ o,s.heap.get? f=some o)(hs0:X.env.locals<f)(hcy:X.env.cells.lookup y=some cy)(hfn:X.fn y=true):og X.prog X.w X.K X.mg (jd X.base s.heap f cy) X.A X.stack s H:=by
 have e0:=I.env0
 have nf:∀ b∈dj X.stack,b≠f/\b≠cy:=fun b hb=>by
  rcases xB.mp (I.stkSub b hb) with z | z
  ·exact⟨by rw[z];exact xK hs0,by rw[z];exact (I.cne y cy hcy).symm⟩
  ·obtain⟨_,o,ho,_⟩:=I.ok.funs.mem z
   have l1:=xz ho;have l2:=I.ok.cab y cy hfn hcy;have l3:=I.ok.above;exact⟨xK (Nat.lt_trans (xD l1 l3) hs0),xK (xD l1 l2)⟩
 refine⟨e0.frames,I.ok.mod.keeps fun b o e=>dR (I.bk b o e) (.inl ⟨o,e⟩),fun b o e=>?_,Nat.le_of_eq (PySem.W.hideAll_size _ _),iD e0.funs fun b hb=>?_,e0.frf,e0.hok,e0.bare⟩
 ·obtain⟨e1,z⟩:=km e
  refine⟨e1,?_⟩;rcases z with ⟨o',z⟩ | z | z
  ·exact (I.bs b o' z).2
  ·rw[z];exact hf
  ·rw[z];exact I.freeC y cy hcy
 ·cases q:(jd X.base s.heap f cy).get? b with
  | none=>rfl
  | some o =>
   obtain⟨_,z⟩:=km q;rcases z with ⟨o',z⟩ | z | z
   ·have:=(I.stack.mem hb).1
    rw[this]at z;cases z
   ·exact absurd z (nf b hb).1
   ·exact absurd z (nf b hb).2
end
section
variable {X:Cx}{CX:j4}{k:Nat}{E:XK}{x y:Str}{p pos:Pos}{e e1 e2:Expr}{es:List Expr}{te t1 t2:TE}{t:TA}
theorem p5 {i:Nat}{f:Addr}{fd:FuncData}{ps:List Str}{sp:Sp}{o:Obj}(F:a7 X.prog X.w X.K X.mg X.base CX k f fd ps sp)(hr:b8 k X.A)(hN:X.N[i]? = some x)(hv:uD X.env.scope x)(ho:X.base.get? f=some o)(hd:o.data=.func fd)
  (hb:∀ (s:Shared)(us:List Value),us.length=ps.length->BindsTo s fd ⟨us,[]⟩ (ps.zip us)) (hx:eI CX X E) (ha:PA X (e::es) t)
  (hdb:(x == ("__debug__" : Str))=false:=by decide) (hcd:(x == ("__classdict__" : Str))=false:=by decide) (he:starEach (e::es) X.env=(false,eval e X.env)::starEach es X.env:=by rfl) (hpl:(backTo pos (starEach es X.env)).any (·.1)=false:=by rfl) :
  PE X (.Call (.Name x p) (e::es) [] pos) (fun σ H Q=>σ[i]? = some (some (.ref f))/\t σ H fun vs H1=>sp vs H1 Q E):=by
 intro pins s σ H Q I h;obtain⟨hσ,h⟩:=h;refine yy (bv (p6 hN hv hdb hcd pins s σ H (fun v H'=>v=.ref f/\H'=H) I ⟨_,hσ,rfl,rfl⟩) fun u s1 ⟨v,H1,I1,rv,ev,eh⟩=>?_);subst ev eh;obtain rfl:u=Value.ref f:=rv
 have kp:∀ h:Heap,h.get? f=some o->∃ k,(k=Keeper.frame\/k=Keeper.machine\/k=Keeper.boundFrame)/\PySem.W.Looks (model X.prog X.w) h (keeperOf (.ref f)) k:=fun h q=>by
  obtain⟨oc,od,dt,sl⟩:=o;have hd:dt=.func fd:=hd;subst hd;exact⟨.frame,.inl rfl,(PySem.W.Looks.ld (part:=none) q).andThen .now⟩
 rw[he];refine PySem.W.callWith_of (P:=fun h=>h.get? f=some o) (by show ((false||(backTo pos (starEach es X.env)).any (·.1))||false)=false;rw[hpl];rfl) kp (Calls.evalArgs_plain ?_);have hA:=ha pos pins s1 σ H1 _ I1 h;rw[he]at hA;refine bv hA fun us s2 ⟨vs,H2,I2,r,q⟩=>⟨(I2.bs _ _ ho).1,?_⟩
 have hl:us.length=ps.length:=by rw[<-r.length];exact F.len _ _ _ _ q
 refine wpAny_call (yL (F.run X.A X.stack s2 H2 ⟨us,[]⟩ us vs Q E hr I2.env0 (hb s2 us hl) r q) fun r s' hq=>?_)
 cases r with
 | error e=>exact hx pins σ H2 s2 e s' I2 hq
 | ok fl =>
  cases fl with
  | ret u=>exact I2.after hq
  | next=>exact False.elim hq
  | brk=>exact False.elim hq
  | cont=>exact False.elim hq
end
theorem ek.okXC {P:Program}{w:World}{K:PySem.W.Frag}{mg:Str->Option Value}{base:Heap}{x qual:Str}{st:Stmt}{f c0:Addr}{fd:FuncData}{N ps:List Str}{k:Nat}{sp:Sp}(F:ek K x qual st f fd)(S:aF N ps (ah st))(hco:fd.code=.ref c0)(len:∀ vs H Q E,sp vs H Q E->vs.length=ps.length)
  (hbody:∀ (A:Around)(outer:List Env)(s:Shared)(H:Hp)(vs:List V)(Q:VK)(E:XK),b8 k (A.deeper (envOfC qual (ah st) s.heap.objs.size f (.ref c0)))->sp vs H Q E ->
   ∃ t,mO (iO (gJ P w) P w K mg base N qual (ah st) f (.ref c0) A outer s H E) (ci st) t/\t { nx:=fun _ H'=>Q .non H',rt:=Q } (fE N vs) H):a7 P w K mg base (gJ P w) (k+1) f fd ps sp:=by
 obtain⟨oc,od,kV,doc,pm,an,cdv,ct,osl,rfl,lk,hcd⟩:=F.ex;have e:cdv=.ref c0:=hco;subst e;exact pF lk hcd S len fun A outer s H vs Q E hr hsp=>hbody A outer s H vs Q E hr hsp
def rk (e:Expr):Arguments:=match e with | .Lambda a _ _ _=>a | _=>{ posonlyargs:=[],args:=[],vararg:=none,kwonlyargs:=[],kw_defaults:=[],kwarg:=none,defaults:=[] }
def rm (e:Expr):Expr:=match e with | .Lambda _ b _ _=>b | _=>e
def pK (e:Expr):Scope:=match e with | .Lambda _ _ s _=>s | _=>{ kind:=.function,names:=[],isGenerator:=false,isCoroutine:=false }
def v9 (e:Expr):Pos:=match e with | .Lambda _ _ _ p=>p | _=>⟨0,0,0,0⟩
end L2
namespace Wz
open PySem L2
inductive jN (K:PySem.W.Frag) (P0:Addr) (vs:List V) (H:Hp) (Q:VK) (E_:XK):Prop
 | mk (a:Addr) (ns:List Int) (h_0:vs=[.ref a]) (h_1:bd K H a (ns.map V.int)) (h_2:ns.length<=63) (h_3:H P0=some (.tbl #[])) (h_4:∀ H',Q (.bl true) H'):jN K P0 vs H Q E_
theorem TabI.put {H:Hp}{P l:Addr}{pos:Pos}{qual:Str}{xs:List V}{o:HO}(x:TabI H P pos qual)(e:H l=some (.lst xs)):TabI (aY H l o) P pos qual:=by
 rcases x with q | ⟨c',q,oc,vs,t,e2,r⟩
 ·exact .inl (by rw[aE (pO q e (by intro z;cases z))];exact q)
 ·exact .inr ⟨c',by rw[aE (pO q e (by intro z;cases z))];exact q,oc,vs,t,by rw[aE (pO e2 e (by intro z;cases z))];exact e2,r⟩
end Wz
namespace L2
open PySem PySem.Spec PyProof.Rows
theorem kv {K:PySem.W.Frag}{x:Str}{c P:Addr}(h:PySem.W.tabIn K x=some (c,P)):∃ (f:Addr)(oc:Value)(od:Option Addr)(fd:FuncData)(osl:Array (Option Value))(o:Obj)(vs:Array Value),PySem.W.nsIn K mainGlobals x=some (some (.ref f))/\K.lookup f=some ⟨oc,od,.func fd,osl⟩/\fd.code=.ref c/\K.lookup c=some o/\o.data=.fields vs/\vs[11]? = some (.ref P):=by
 unfold PySem.W.tabIn at h;split at h
 ·rename_i f hf
  split at h
  ·rename_i oc od fd osl hfo
   split at h
   ·rename_i c₂ hc
    split at h
    ·rename_i a1 a2 vs a3 hco
     split at h
     ·rename_i P₂ hv
      cases h;exact⟨f,oc,od,fd,osl,_,vs,hf,hfo,hc,hco,rfl,hv⟩
     ·cases h
    ·cases h
   ·cases h
  ·cases h
 ·cases h
theorem qB {K:PySem.W.Frag}{x qual:Str}{st:Stmt}{c P f:Addr}{fd:FuncData}(h:PySem.W.tabIn K x=some (c,P))(hf:PySem.W.nsIn K mainGlobals x=some (some (.ref f)))(F:ek K x qual st f fd):fd.code=.ref c:=by
 obtain⟨f',oc,od,fd',osl,o,vs,e1,e2,e3,_⟩:=kv h;rw[hf]at e1;cases e1;obtain⟨oc2,od2,kV,doc,pm,an,cdv,ct,osl2,e4,lk,_⟩:=F.ex;rw[e2]at lk;cases lk;exact e3
theorem pj {K:PySem.W.Frag}{x:Str}{c P:Addr}{h:Heap}(ht:PySem.W.tabIn K x=some (c,P))(X:K.In h)(C:PySem.W.CodeHd h c P):fU K c P:=by
 obtain⟨f',oc,od,fd',osl,o,vs,e1,e2,e3,e4,e5,e6⟩:=kv ht;obtain⟨o',vs',file,tf,flags,tg,inF,text,tt,g,r⟩:=C;have:=X _ _ e4;rw[g]at this;cases this;exact⟨o,vs',file,tf,flags,tg,inF,text,tt,e4,r⟩
theorem oF {P:Program}{w:World}{K:PySem.W.Frag}{mg mb:Str->Option Value}{CX:j4}{k:Nat}{fa a c0 P0:Addr}{fd:FuncData}{x:Str}{sp:Sp}{s₁:Shared}{vs:List Value}{ns:List Int}
  (KX:K.In s₁.heap) (hns:s₁.heap.Ns mainGlobals mg) (hb:s₁.heap.Ns builtinsNs mb) (hbb:∀ x:Str,x≠"__name__"->mb x=bootBuiltins x) (hlim:s₁.heap.NoLimit) (hg:s₁.gens = #[])
  (ha:s₁.heap.get? a=some { cls:=.type "list",data:=.seq vs.toArray }) (hi:IntsAre vs ns) (hl:ns.length<=sizeLine) (hr:b8 k callerA)
  (hK:PySem.W.noTabs K=true) (C:PySem.W.CodeHd s₁.heap c0 P0) (hP:s₁.heap.get? P0=some (PySem.W.tabObj #[])) (BM:gH mg s₁.heap)
  (F:∀ base:Heap,K.In base->base.Ns mainGlobals mg->gH mg base->a7 P w K mg base CX k fa fd [x] sp) (hbind:∀ (s:Shared)(u:Value),BindsTo s fd ⟨[u],[]⟩ [(x,u)])
  (hsp:∀ H:Hp,H P0=some (.tbl #[])->bd K H a (ns.map V.int)->sp [.ref a] H (fun v _=>v=.bl true) fun _ _ _=>False)
  (hCX:∀ H e s',CX [] H s₁ (fun _ _ _=>False) e s'->False) :
  codeAny (model P w) callerA (.call (.ref fa) ⟨[.ref a],[]⟩) (fun r s'=>r=.ok (.ret (.bool true))/\OldK s₁.heap s'.heap/\s'.os=s₁.os/\AllBare s'.gens) s₁:=by
 have rv:=kw hi;have lenV:=hi.length
 have aP:a≠P0:=fun z=>by rw[z,hP]at ha;cases ha
 have Kno:∀ b o,K.lookup b=some o->b≠P0:=fun b o e z=>by
  have e2:=KX b o e;rw[z,hP]at e2;cases e2;have h2:=xT.mp hK (b,PySem.W.tabObj #[]) (PySem.W.mem_of_lookupK e);exact absurd (show false=true from h2) xu
 obtain⟨H,HP,HA,Hrest⟩:∃ H:Hp,H P0=some (.tbl #[])/\((K.lookup a=none/\H a=some (.frz { cls:=.type "list",data:=.seq vs.toArray } (.lst (ns.map V.int))))\/(∃ o,K.lookup a=some o)/\H a=none)/\∀ b,b≠P0->b≠a->H b=none:=by
  cases hk:K.lookup a with
  | some o=>exact⟨fun b=>if b=P0 then some (.tbl #[]) else none,xA rfl,.inr ⟨⟨o,rfl⟩,xx aP⟩,fun b n _=>xx n⟩
  | none=>exact⟨fun b=>if b=P0 then some (.tbl #[]) else if b=a then some (.frz { cls:=.type "list",data:=.seq vs.toArray } (.lst (ns.map V.int))) else none,xA rfl,.inl ⟨rfl,by show (if a=P0 then _ else _)=_;rw[xx aP,xA rfl]⟩,fun b n1 n2=>by show (if b=P0 then _ else _)=_;rw[xx n1,xx n2]⟩
 have hok:fT P w H s₁.heap:=fun b u e=>by
  by_cases z:b=P0
  ·rw[z,HP]at e;cases e;rw[z];exact hP
  ·by_cases z2:b=a
   ·rw[z2]at e ⊢
    rcases HA with ⟨_,q⟩ | ⟨_,q⟩
    ·rw[q]at e;cases e
     exact⟨ha,by rw[xk];exact hl,vs,_,rv,ha⟩
    ·rw[q]at e;cases e
   ·rw[Hrest b z z2]at e;cases e
 have hS:bd K H a (ns.map V.int):=by
  rcases HA with ⟨_,q⟩ | ⟨⟨o,q1⟩,q⟩
  ·exact .inl (.inr ⟨_,q⟩)
  ·have e:=KX a o q1
   rw[ha]at e;cases e;exact .inr ⟨_,vs.toArray,_,q1,rfl,rfl,rfl,by rw[xy,lenV];exact hl,by simpa using rv⟩
 have free:∀ {b:Addr}{o:Obj},s₁.heap.get? b=some o->(∀ qs,o.data≠.fields qs)->(∀ qs n,o.data≠.seq qs n)->H b=none:=fun {b o} e n1 n2=>Hrest b (fun z=>by rw[z,hP]at e;cases e;exact n1 _ rfl) (fun z=>by rw[z,ha]at e;cases e;exact n2 _ _ rfl);have nsK:∀ {b:Addr}{m:Str->Option Value},s₁.heap.Ns b m->(kP s₁.heap H).Ns b m:=fun {b m} ⟨o,es,ep,e,d,r⟩=>⟨o,es,ep,jh e (free e (fun qs z=>by rw[d]at z;cases z) (fun qs n z=>by rw[d]at z;cases z)),d,r⟩
 have hKb:K.In (kP s₁.heap H):=fun b o e=>jh (KX b o e) (by
  by_cases z:b=a
  ·rcases HA with ⟨q0,_⟩ | ⟨_,q⟩
   ·rw[z,q0]at e;cases e
   ·rw[z];exact q
  ·exact Hrest b (Kno b o e) z)
 have hM:Mod K mg (kP s₁.heap H):=⟨hKb,nsK hns,⟨mb,nsK hb,hbb⟩,let ⟨mc,h1,h2⟩:=hlim;⟨mc,nsK h1,h2⟩⟩;have e0:og P w K mg (kP s₁.heap H) callerA [] s₁ H:=⟨rfl,hM,fun b o e=>rD e,Nat.le_of_eq (oA _ _),trivial,fun b hb=>absurd (show b∈([]:List Addr) from hb) (by simp),hok,.of_eq hg⟩
 have BM2:gH mg (kP s₁.heap H):=by
  obtain⟨bm,ob,b1,b2,b3,b4,b5,b6⟩:=BM;exact⟨bm,ob,b1,b2,jh b3 (free b3 (fun qs z=>by rw[b6]at z;cases z) (fun qs n z=>by rw[b6]at z;cases z)),b4,b5,b6⟩
 refine yL ((F _ hKb (nsK hns) BM2).run callerA [] s₁ H ⟨[.ref a],[]⟩ [.ref a] [.ref a] _ _ hr e0 (hbind s₁ (.ref a)) (.cons rfl .nil) (hsp H HP hS)) fun r s' h=>?_
 cases r with
 | error e=>exact (hCX H e s' h).elim
 | ok fl =>
  cases fl with
  | next=>exact False.elim h
  | brk=>exact False.elim h
  | cont=>exact False.elim h
  | ret u =>
   obtain⟨v,H',os,bare,un,hok',r',q⟩:=h;have q':v=.bl true:=q;subst q';obtain rfl:u=Value.bool true:=r'
   have kp:∀ b o,s₁.heap.get? b=some o->b≠P0->s'.heap.get? b=some o:=fun b o e n=>by
    by_cases z:b=a
    ·rcases HA with ⟨_,q1⟩ | ⟨_,q1⟩
     ·have z2:=un.frzs b _ _ (by rw[z];exact q1)
      obtain⟨e2,_⟩:=hok' b _ z2;rw[z,ha]at e;cases e;exact e2
     ·exact un.keep b o e (by rw[z];exact q1) (by intro z;exact absurd (show b∈([]:List Addr) from z) (by simp)) (by simp)
    ·exact un.keep b o e (Hrest b n z) (by intro z;exact absurd (show b∈([]:List Addr) from z) (by simp)) (by simp)
   obtain⟨more,hm⟩:=un.tbls P0 _ HP;have hP':s'.heap.get? P0=some (PySem.W.tabObj (#[]++more)):=hok' P0 _ hm;refine⟨rfl,⟨fun b o e=>?_,fun b o e=>?_⟩,os,bare⟩
   ·by_cases z:b=P0
    ·rw[z]at e ⊢
     have e':=e;rw[hP]at e';cases e';exact .inr (.inl ⟨(C.tab hP).isCodeTable,rfl,#[],more,rfl,hP'⟩)
    ·exact .inl (kp b o e z)
   ·by_cases z:b=P0
    ·exact⟨_,by rw[z];exact hP'⟩
    ·exact⟨o,kp b o e z⟩
theorem walk_ofT {l:PySem.W.OpenLaw}{n k:Nat}{q:Program}{loose:List Str}{XP:(Str->Option Value)->Heap->Prop}{YP:World->Heap->Prop}{d:DefRec}{K:Params->PySem.W.Frag}{CX:World->j4}{sp:World->Sp}{x nm:Str}{c0 P0:Addr}
  (hn:l.most=some n) (hn2:n<=sizeLine) (hdf:d.params.defaults=[]) (hr:b8 k callerA)
  (hY:∀ (w:World)(h:Heap),YP w h->(K w.params).In h)
  (hTY:∀ (w:World)(h:Heap),YP w h->h.get? P0=some (PySem.W.tabObj #[])) (hch:∀ w:World,PySem.W.codeHdIn (K w.params) c0 P0=true) (htab:∀ w:World,PySem.W.tabIn (K w.params) nm=some (c0,P0)) (hnt:∀ w:World,PySem.W.noTabs (K w.params)=true)
  (F:∀ (w:World)(mg:Str->Option Value)(fa:Addr)(h:Heap),(K w.params).In h->h.Ns mainGlobals mg->mg d.name=some (.ref fa)->fU (K w.params) c0 P0->PySem.W.tabIn (K w.params) nm=some (c0,P0) ->
   ∃ fd:FuncData,(∀ (s:Shared)(u:Value),BindsTo s fd ⟨[u],[]⟩ [(x,u)]) /\
    ∀ base:Heap,(K w.params).In base->base.Ns mainGlobals mg->gH mg base->a7 l.prog w (K w.params) mg base (CX w) k fa fd [x] (sp w))
  (hsp:∀ (w:World)(H:Hp)(a:Addr)(ns:List Int),ns.length<=n->H P0=some (.tbl #[])->bd (K w.params) H a (ns.map V.int)->sp w [.ref a] H (fun v _=>v=.bl true) fun _ _ _=>False)
  (hCX:∀ (w:World)(H:Hp)(s:Shared)(e:Value)(s':Shared),CX w [] H s (fun _ _ _=>False) e s'->False) :
  PySem.W.WalkO q loose XP YP l.row.toRowW d [] (fun f vs=>PySem.call f vs):=by
 refine Att.attach_call hn hdf fun w s₀ s₁ mg mb fa o pm cd doc a vs ns G Y ho hd hcd hmg hobj hints hlen hg=>?_;have KX:=hY w _ Y;have CH:=PySem.W.codeHd_of_K KX (hch w);have hP:=hTY w _ Y;obtain⟨fd,hb,hF⟩:=F w mg fa _ KX G.T.g hmg (pj (htab w) KX CH) (htab w);exact oF KX G.T.g G.T.b G.T.builtins G.T.nolimit hg hobj hints (xZ hlen hn2) hr (hnt w) CH hP G.T.bmain hF hb (fun H hO hS=>hsp w H a ns hlen hO hS) fun H e s'=>hCX w H s₁ e s'
end L2
namespace Wz
open PySem PySem.Spec PyProof.Rows L2 PySem.SetTable
abbrev mz (es:Array (Int×Value))(ep:Nat)(t:SetTable):Obj:={ cls:=.type "set",dict:=none,data:=.set es ep t }
end Wz
set_option maxRecDepth 1000000
set_option maxHeartbeats 8000000
namespace Wz
open PySem L2
theorem jK {P:St->Hp->Prop}{G:Prop}(C:St->Hp->Prop)(main:(∀ σ HH,C σ HH->P σ HH)->G)(key:∀ σ HH,C σ HH->P σ HH):G:=main key
end Wz
set_option maxRecDepth 1000000
set_option maxHeartbeats 8000000
namespace Wz
open PySem PySem.Spec PyProof.Rows L2 PySem.SetTable
section
variable {X:Cx}
theorem gU:∀ (l acc:List Int),acc.Nodup->(l.foldl step_dedup acc).length<=acc.length+l.length/\((l.foldl step_dedup acc).length=acc.length+l.length↔(acc++l).Nodup)
 | [],acc,nd=>by simp[nd]
 | x::l,acc,nd=>by
  rw[List.foldl_cons]
  by_cases hx:x∈acc
  ·have e:step_dedup acc x=acc:=by unfold step_dedup;rw[xA (by simpa using hx)]
   rw[e];obtain⟨h1,h2⟩:=gU l acc nd;rw[xF];refine⟨by omega,⟨fun z=>by omega,fun z=>?_⟩⟩;rw[List.nodup_append]at z;exact absurd rfl (z.2.2 x hx x xp)
  ·have e:step_dedup acc x=acc++[x]:=by unfold step_dedup;rw[xx (by simpa using hx)]
   rw[e];obtain⟨h1,h2⟩:=gU l (acc++[x]) (List.nodup_append.mpr ⟨nd,by simp,fun a ha b hb z=>hx (by rw[<-xG.mp hb,<-z];exact ha)⟩);rw[xv,xR]at h1 h2;rw[xF,show acc.length+(l.length+1)=acc.length+1+l.length by omega,h2,yS];exact⟨h1,Iff.rfl⟩
end
end Wz
namespace Tm
open PySem PyProof.Rows
def el (xs:Array Keyed)(i:Nat):Keyed:=xs.getD i (.none,.none)
structure xh (P:Program)(w:World)(A:Around)(s:Shared)(κ:SortKind)(a0:Array Keyed)(lt:Keyed->Keyed->Bool):Prop where
 cmp:∀ {x y:Keyed}{E:Value->Shared->Prop}{Q:Bool->Prop},x∈a0->y∈a0->Q (lt x y)->wpAny (model P w) A (keyLt' κ x.1 y.1) (fun b s'=>s'=s/\Q b) E s
 irr:∀ x,lt x x=false
 tr:∀ x y z,lt x y=true->lt y z=true->lt x z=true
 tot:∀ x y,x∈a0->y∈a0->x≠y->lt x y=true\/lt y x=true
 nd:a0.toList.Nodup
structure wT (κ:SortKind)(a0:Array Keyed)(st:SortSt):Prop where
 pm:(arrOf st).Perm a0
 fl:failedOf st=none
 kd:kindOf st=κ
section
variable {P:Program}{w:World}{A:Around}{E:Value->Shared->Prop}{s:Shared}{κ:SortKind}{a0:Array Keyed}{lt:Keyed->Keyed->Bool}{st:SortSt}
def Up (lt:Keyed->Keyed->Bool)(xs:Array Keyed)(lo hi:Nat):Prop:=∀ i j,lo<=i->i<j->j<hi->lt (el xs i) (el xs j)=true
def Dn (lt:Keyed->Keyed->Bool)(xs:Array Keyed)(lo hi:Nat):Prop:=∀ i j,lo<=i->i<j->j<hi->lt (el xs j) (el xs i)=true
def xg (xs ys:Array Keyed)(lo hi:Nat):Prop:=∀ i,i<lo\/hi<=i->el ys i=el xs i
def wV (st st':SortSt):Prop:=pendingOf st'=pendingOf st/\gallopOf st'=gallopOf st
end
def vF:Bool->Keyed->Array Keyed->Nat->Nat->Nat->StateT SortSt Sem (Option Nat):=sortPriv% PySem.Builtin.gallop
def Bf (lt:Keyed->Keyed->Bool)(left:Bool)(key:Keyed)(xs:Array Keyed)(b i:Nat):Bool:=if left=true then lt (el xs (b+i)) key else !lt key (el xs (b+i))
def Fn (R:Keyed->Keyed->Prop)(T r:List Keyed):Prop:=r.Perm T/\r.Pairwise R
structure J (R:Keyed->Keyed->Prop)(T out ra rb:List Keyed):Prop where
 pm:(out++(ra++rb)).Perm T
 so:out.Pairwise R
 oa:∀ x,x∈out->∀ y,y∈ra->R x y
 ob:∀ x,x∈out->∀ y,y∈rb->R x y
 sa:ra.Pairwise R
 sb:rb.Pairwise R
 la:∀ x,x∈rb->∀ z,ra.getLast? = some z->R x z
def uO:Array Keyed->Array Keyed->StateT SortSt Sem (Array Keyed):=sortPriv% PySem.Builtin.mergeLo
def qO:Nat->StateT SortSt Sem Unit:=sortPriv% PySem.Builtin.setMinGallop
structure xj (a0:Array Keyed)(lt:Keyed->Keyed->Bool)(a b:Array Keyed):Prop where
 ma:∀ i,i<a.size->el a i∈a0
 mb:∀ i,i<b.size->el b i∈a0
 ne:∀ i j,i<a.size->j<b.size->el a i≠el b j
 ua:Up lt a 0 a.size
 ub:Up lt b 0 b.size
 za:0<a.size
 zb:0<b.size
 h0:lt (el b 0) (el a 0)=true
 hl:lt (el b (b.size-1)) (el a (a.size-1))=true
def aB (st st':SortSt):Prop:=arrOf st'=arrOf st/\failedOf st'=failedOf st/\kindOf st'=kindOf st/\pendingOf st'=pendingOf st
def Jl (lt:Keyed->Keyed->Bool)(a b:Array Keyed)(out:Array Keyed)(ia ib:Nat):Prop:=J (fun x y=>lt x y=true) (a.toList++b.toList) out.toList (a.toList.drop ia) (b.toList.drop ib)
def Sl (lt:Keyed->Keyed->Bool)(a b:Array Keyed)(n:Nat)(r:Option (Array Keyed))(out:Array Keyed)(ia ib:Nat):Prop :=
 (∃ q,r=some q/\Fn (fun x y=>lt x y=true) (a.toList++b.toList) q.toList)\/(r=none/\Jl lt a b out ia ib/\ia+1<a.size/\ib<b.size/\n<=out.size)
def uN:Array Keyed->Array Keyed->StateT SortSt Sem (Array Keyed):=sortPriv% PySem.Builtin.mergeHi
def Jh (lt:Keyed->Keyed->Bool)(a b:Array Keyed)(out:Array Keyed)(na nb:Nat):Prop:=J (fun x y=>lt y x=true) (a.toList++b.toList) out.toList (b.toList.take nb).reverse (a.toList.take na).reverse
def Sh (lt:Keyed->Keyed->Bool)(a b:Array Keyed)(n:Nat)(r:Option (Array Keyed))(out:Array Keyed)(na nb:Nat):Prop :=
 (∃ q,r=some q/\Fn (fun x y=>lt x y=true) (a.toList++b.toList) q.toList)\/(r=none/\Jh lt a b out na nb/\0<na/\na<a.size/\1<nb/\nb<=b.size/\n<=out.size)
def back (q:Nat)(m arr:Array Keyed):Array Keyed:=m.toList.zipIdx.foldl (fun a (p,j)=>a.setIfInBounds (q+j) p) arr
def Ch (lt:Keyed->Keyed->Bool)(xs:Array Keyed):Nat->List (Nat×Nat×Nat)->Nat->Prop
 | f,[],u=>f=u
 | f,t::r,u=>t.1=f/\1<=t.2.1/\Up lt xs f (f+t.2.1)/\Ch lt xs (f+t.2.1) r u
end Tm
namespace Qs
open PySem PySem.W PyProof.Rows
open Classical in
noncomputable def dec (h:Heap) (v:Value):Int×Int:=if z:∃ p,sH h v p then choose z else (0,0)
end Qs
namespace Wz
open PySem L2
theorem uG {n:Nat}{v:V}{σ:St}{H:Hp}{Q:St->Hp->Prop}(h:Q (σ.set n (some v)) H):iE n v σ H Q:=h
open PySem PySem.Spec
theorem o0:typeLookup (.type "str") "__int__" = pure none:=by rw[typeLookup_type,builtinLookup_eq_fast];kernel_rfl
theorem oZ:typeLookup (.type "str") "__index__" = pure none:=by rw[typeLookup_type,builtinLookup_eq_fast];kernel_rfl
theorem mG:typeLookup (.type "str") "__trunc__" = pure none:=by rw[typeLookup_type,builtinLookup_eq_fast];kernel_rfl
theorem ke {f:Array Nat×Bool->Nat->Option (Array Nat×Bool)}(hf:∀ p d,d<10->f p (d+48)=some (p.1.push d,true)):∀ (l:List Nat)(p:Array Nat×Bool),(∀ d∈l,d<10)->(l.map (·+48)).foldlM f p=some (p.1++l.toArray,if l=[] then p.2 else true)
 | [],p,_=>by simp
 | d::l,p,h=>by
  rw[xM,List.foldlM_cons,hf p d (h d xp)]
  show (l.map (·+48)).foldlM f (p.1.push d,true)=_
  rw[ke hf l _ fun x hx=>h x (xq _ hx)];simp
theorem gV {d:Nat}(h:d<10):d=0\/d=1\/d=2\/d=3\/d=4\/d=5\/d=6\/d=7\/d=8\/d=9:=by omega
theorem lT {p:Nat->Bool}(hp:∀ d,d<10->p (d+48)=false){q:List Nat}(h:∀ c∈q,∃ d,d<10/\c=d+48):q.dropWhile p=q:=by
 cases q with
 | nil=>rfl
 | cons c q =>
  obtain⟨d,hd,rfl⟩:=h c xp;rw[List.dropWhile_cons_of_neg];rw[hp d hd];exact xu
theorem tp {q:List Nat}{y:Option (Array Nat)}{l:List Nat}{f:Array Nat×Bool->Nat->Option (Array Nat×Bool)}{g:Array Nat×Bool->Option (Array Nat)}(h:y=(q.foldlM f (#[],false)).bind g)(hq:q=l.map (·+48))(hl:l≠[])(hd:∀ d∈l,d<10)
  (hf:∀ p d,d<10->f p (d+48)=some (p.1.push d,true)) (hg:∀ ds,g (ds,true)=some ds):y=some l.toArray:=by
 rw[h,hq,ke hf l _ hd,xx hl]
 show g (#[]++l.toArray,true)=_
 rw[hg];simp
theorem meets_int_new_str (x:Str)(t:Tok)(d:Nat)(l:List Nat)(hx:x.cps.toList=(d::l).map (·+48))(h0:d=0->l=[])(hd:∀ e∈d::l,e<10)(hl:(d::l).length<=640):Meets (Builtin.«int.__new__» ⟨[.type "int",.str x t],[]⟩) (Made.int ((d::l).foldl (fun a e=>a*10+e) 0:Nat)).spec :=
 Meets.of_wp fun prog w A R s hs=>by
  obtain⟨hp,g,dr,tk,os⟩:=s;have f1:=F.conv_sub_int;have f2:=F.madeHere_int;have f3:=o0;have f4:=oZ;have f5:=mG;have hT:(⟨hp,g,dr,tk,os⟩:Shared).TypeIs (.str x t) "str":=rfl
  have g1:(x.cps.all fun x=>decide (x<128))=true:=by
   rw[<-Array.all_toList,hx,xT];intro c hc;obtain⟨e,he,rfl⟩:=xP.mp hc;have:=hd e he;exact xo (by omega)
  have g2:x.cps.toList.takeWhile (fun x=>x != 0)=x.cps.toList:=by
   have tw:∀ q:List Nat,(∀ c∈q,c≠0)->q.takeWhile (fun x=>x != 0)=q:=fun q=>by
    induction q with
    | nil=>intro _;rfl
    | cons c q ih=>intro h;rw[List.takeWhile_cons_of_pos (by simpa using h c xp),ih fun c hc=>h c (xq _ hc)]
   refine tw _ fun c hc=>?_;rw[hx]at hc;obtain⟨e,he,rfl⟩:=xP.mp hc;omega
  have g3:x.cps.toList.length<=640:=by rw[hx,xk];exact hl
  repeat (any_goals (first | assumption | wp_step))
  rw[g1];simp only[yU,g2,g3];refine xr (xH ?_)
  have hq:∀ c∈(d::l).map (·+48),∃ e,e<10/\c=e+48:=fun c hc=>by
   obtain⟨e,he,rfl⟩:=xP.mp hc;exact⟨e,hd e he,rfl⟩
  have hq2:∀ c∈((d::l).map (·+48)).reverse,∃ e,e<10/\c=e+48:=fun c hc=>hq c (List.mem_reverse.mp hc)
  have sz:l.length<=639:=by have:l.length+1<=640:=hl;omega
  rw[hx];rcases gV (hd d xp) with rfl | z
  ·have e0:=h0 rfl
   subst e0
   conv=>arg 3;arg 2;whnf
   show wpAny _ _ (if _ then _ else _) _ _ _
   rw[xA (by simp)]
   repeat (any_goals (first | assumption | wp_step))
   exact⟨_,rfl,hs⟩
  ·rcases z with rfl | rfl | rfl | rfl | rfl | rfl | rfl | rfl | rfl
   all_goals
    conv=>arg 3;arg 2;whnf
    rw[lT (by decide) hq,lT (by decide) hq2,List.reverse_reverse]
    conv =>
     arg 3;arg 2;arg 2
     tactic=>exact tp rfl rfl (List.cons_ne_nil _ _) hd (by rintro⟨ds,b⟩ d h;rcases gV h with rfl | rfl | rfl | rfl | rfl | rfl | rfl | rfl | rfl | rfl<;>rfl) fun _=>rfl
    dsimp only;rw[xx (by simp),xx (by simp;omega),xx (by simp)]
    show wpAny _ _ (if _ then _ else _) _ _ _
    rw[xA (by simp)]
    repeat (any_goals (first | assumption | wp_step))
    refine⟨_,rfl,?_⟩;rw[xx xu,List.foldl_toArray];exact hs
structure Num (x:Str)(ds:List Nat):Prop where
 eq:x.cps.toList=ds.map (·+48)
 ne:ds≠[]
 nz:ds.head? = some 0->ds=[0]
 dg:∀ e∈ds,e<10
 ln:ds.length<=12
def numV (ds:List Nat):Nat:=ds.foldl (fun a e=>a*10+e) 0
end Wz
namespace L2
open PySem PySem.Spec PyProof.Rows
theorem om {X:Cx}:dG X (.type "int") (fun xs H Q=>∃ x ds,xs=[.str x]/\Wz.Num x ds/\Q (.int (Wz.numV ds)) H):=by
 intro pins s σ H xs us Q I r h;obtain⟨x,ds,rfl,N,q⟩:=h;obtain⟨u,rfl,rx⟩:=eA r;obtain⟨t,rfl⟩:=rx
 cases ds with
 | nil=>exact absurd rfl N.ne
 | cons d l =>
  have ln:l.length+1<=12:=N.ln
  exact call_int_1 (Wz.meets_int_new_str x t d l N.eq (fun z=>by
   have:=N.nz (by rw[z];rfl)
   exact (List.cons.inj this).2) N.dg (by show l.length+1<=640;omega)) ⟨rfl,.int _,H,I.tok _,⟨_,rfl⟩,q⟩
def mP (x:Str):Prop:=x.cps.all (· < 128)=true
def ui (x:Str):It :=
 ⟨fun i _=>i<x.cps.toList.length,fun i H v H'=>H'=H/\∃ c,x.cps.toList[i]? = some c/\v=.str ⟨#[c]⟩,fun i _=>x.cps.toList.length<=i⟩
theorem qC {P:Program}{w:World}{K:PySem.W.Frag}{tg:Expr}(x:Str)(t:Tok)(it:Addr):oi P w K tg (ui x) [it] it (fun i h=>h.IsStrIter it "str_ascii_iterator" x t i) where
 mem:=by simp
 obj:=fun i h st b hb=>by
  have e:b=it:=by simpa using hb
  subst e;obtain⟨o,e,c,d⟩:=st;exact⟨o,e,fun v z=>by rw[d]at z;cases z⟩
 keep:=fun i h h' ⟨o,e,r⟩ k=>⟨o,k it (by simp) o e,r⟩
 item:=by
  intro X hP hw hK hc i pins s σ H E I hf st hg;subst hP hw hK;have hg:i<x.cps.toList.length:=hg;obtain⟨f0,f1,f2,f3,f4,f5⟩:=hf it (by simp)
  have hx:x.cps[i]? = some x.cps.toList[i]:=by simp
  refine wpAny_pyNext_ascii_item st hx fun h' st' sb=>?_;have I1:ay X pins σ H { s with heap:=h',toks:=s.toks+1 }:=I.turned (t':=s.toks+1) (fun b o hb e=>(sb.2 b hb).trans e) f0 f1 f3 f4 f5;obtain⟨o,e,c,d⟩:=id st';exact⟨_,rfl,lU (s:={ s with heap:=h',toks:=s.toks+1 }) e c d (by decide) ⟨.str ⟨#[x.cps.toList[i]]⟩,H,I1,⟨_,rfl⟩,⟨rfl,_,List.getElem?_eq_getElem hg,rfl⟩,st',fun b hb=>(hf b hb).1⟩⟩
 done:=by
  intro X hP hw hK hc i pins s σ H E I hf st hg;subst hP hw hK;have hg:x.cps.toList.length<=i:=hg;obtain⟨f0,f1,f2,f3,f4,f5⟩:=hf it (by simp);refine wpAny_pyNext_ascii_end (I.ok.hd hc) st (by rw[Array.getElem?_eq_none];simpa using hg) fun h' eb=>⟨rfl,I.turned (t':=s.toks) (fun b o hb e=>eb b o hb e) f0 f1 f3 f4 f5⟩
 self:=fun _ _ _ _ _ st h=>wpAny_pyIter_striter_ascii st h
def vZ (t:TE):TI:=fun σ H R=>t σ H fun v H1=>∃ x,v=.str x/\mP x/\R (ui x) H1
theorem p7 {X:Cx}{tg l:Expr}{tl:TE}(hl:PE X l tl):PI X tg l (vZ tl):=by
 intro pins s σ H R I h;refine bv (hl pins s σ H _ I h) fun v s1 ⟨y,H1,I1,r1,x,e,ha,q⟩=>?_;subst e;obtain⟨t,rfl⟩:=r1;refine wpAny_pyIter_ascii ha ?_;refine⟨s1.heap.objs.size,[s1.heap.objs.size],_,_,H1,rfl,I1.kept (t':=s1.toks) fun b o e=>Heap.get?_push_of_some _ e,qC x t _,⟨_,Heap.get?_push_size _ rfl,rfl,rfl⟩,fun b hb=>?_,q⟩
 have e:b=s1.heap.objs.size:=by simpa using hb
 subst e;exact I1.fpOk (xm _) (I1.hok.fresh (xm _))
theorem rc {x:Str}{g:TG}{tb:TS}{D:fW}{σ:St}{H:Hp}(Pv:Nat->St->Hp->Prop)(h0:Pv 0 σ H)
  (hs:∀ i c σ H,x.cps.toList[i]? = some c->Pv i σ H->g (.str ⟨#[c]⟩) σ H fun σ2 H2=>tb { D with nx:=Pv (i+1),ct:=Pv (i+1),bk:=D.nx } σ2 H2) (hd:∀ σ H,Pv x.cps.toList.length σ H->D.nx σ H) :
  ∃ W:Nat->Nat->St->Hp->Prop,(∃ m,W 0 m σ H)/\∀ i m σ H,W i m σ H ->
   ((ui x).stop i H/\D.nx σ H)\/((ui x).go i H/\∃ N:St->Hp->Prop,(∀ σ' H',N σ' H'->∃ m',m'<m/\W (i+1) m' σ' H')/\∀ v H',(ui x).yld i H v H'->g v σ H' fun σ2 H2=>tb { D with nx:=N,ct:=N,bk:=D.nx } σ2 H2):=by
 generalize hl:x.cps.toList.length=n at hd;refine⟨fun i m σ H=>m=n-i/\i<=n/\Pv i σ H,⟨n,by simp,xX _,h0⟩,?_⟩;rintro i m σ H ⟨rfl,hi,p⟩
 by_cases hlt:i<n
 ·refine .inr ⟨show i<x.cps.toList.length by omega,Pv (i+1),fun σ' H' p'=>⟨n-(i+1),by omega,rfl,hlt,p'⟩,fun v H' y=>?_⟩
  obtain⟨e,c,hc,e2⟩:=y;subst e e2;exact hs i c σ _ hc p
 ·have e:i=n:=by omega
  subst e;exact .inl ⟨show x.cps.toList.length<=i by omega,hd σ H p⟩
end L2
namespace Wz
open PySem L2
theorem pT (ds:List Nat)(e:Nat):numV (ds++[e])=numV ds*10+e:=by unfold numV;rw[List.foldl_append];rfl
theorem vV (n:Nat):∃ ds:List Nat,(Nat.toDigits 10 n).map Char.toNat=ds.map (·+48)/\ds≠[]/\(ds.head? = some 0->n=0)/\(∀ e∈ds,e<10)/\numV ds=n/\(n=0->ds=[0])/\∀ k,1<=k->n<10 ^ k->ds.length<=k:=by
 induction n using Nat.strongRecOn with
 | _ n ih =>
  have dc:∀ d,d<10->(Nat.digitChar d).toNat=d+48:=fun d h=>by
   rcases gV h with rfl | rfl | rfl | rfl | rfl | rfl | rfl | rfl | rfl | rfl<;>rfl
  by_cases h:n<10
  ·rw[Nat.toDigits_of_lt_base h]
   refine⟨[n],by show [(Nat.digitChar n).toNat]=[n+48];rw[dc n h],by simp,fun z=>by simpa using z,fun e he=>by rw[xG.mp he];exact h,by show 0*10+n=n;omega,fun z=>by rw[z],fun k hk _=>by simpa using hk⟩
  ·rw[Nat.toDigits_of_base_le (by decide) (by omega)]
   obtain⟨ds,h1,h2,h3,h4,h5,_,h6⟩:=ih (n/10) (by omega);refine⟨ds++[n%10],?_,by simp,fun z=>?_,fun e he=>?_,?_,fun z=>by omega,fun k hk hn=>?_⟩
   ·rw[xC,h1,xC]
    show _++[(Nat.digitChar (n%10)).toNat]=_++[n%10+48]
    rw[dc _ (by omega)]
   ·cases ds with
    | nil=>exact absurd rfl h2
    | cons d ds=>have:=h3 z;omega
   ·rcases xU.mp he with y | y
    ·exact h4 e y
    ·rw[xG.mp y];omega
   ·rw[pT,h5];omega
   ·rw[xv,xR]
    cases k with
    | zero=>omega
    | succ k =>
     by_cases k0:k=0
     ·subst k0;omega
     ·have:=h6 k (by omega) (by rw[Nat.pow_succ]at hn;omega)
      omega
theorem rC {g:Int}(h0:0<=g)(h:g<10 ^ 12):∃ ds,Num (eL g) ds/\(numV ds:Int)=g:=by
 obtain⟨n,rfl⟩:=Int.eq_ofNat_of_zero_le h0;obtain⟨ds,h1,h2,h3,h4,h5,h7,h6⟩:=vV n;refine⟨ds,⟨?_,h2,fun z=>?_,h4,h6 12 (by decide) (by omega)⟩,by rw[h5]⟩
 ·unfold eL
  rw[show toString (n:Int)=String.ofList (Nat.toDigits 10 n) from rfl,Str.ofString_eq_toList]
  show ((String.ofList (Nat.toDigits 10 n)).toList.map Char.toNat)=_
  rw[String.toList_ofList,h1]
 ·have hn:=h3 z
  exact h7 hn
end Wz
namespace L2
open PySem PySem.Spec PyProof.Rows
theorem eN {X:Cx}{x:Str}{v:V}{pos:Pos}(hg:Gl X x)(hm:∃ u,X.mg x=some u/\aQ v u)(hd:(x == ("__debug__" : Str))=false:=by decide):PE X (.Name x pos) (tC v):=by
 obtain⟨u,hm,r⟩:=hm;exact gv hg hm r hd
end L2
namespace Wz
open PySem L2
theorem ku {te:TE}{Qf:Hp->Prop}{x:Str}{q:Addr}{f:Nat->Bool}{rest:L2.St}{H:Hp}(hq:H q=none)(hlen:x.cps.toList.length<=1000)
  (ht:∀ (c:Nat)(HK:Hp)(Q':VK),aB H HK->(∀ H5,aB HK H5->Q' (.bl (f c)) H5)->te (some (.str ⟨#[c]⟩)::rest) HK Q') (k:∀ (HK:Hp),aB H HK->HK q=some (.lst ((x.cps.toList.map f).map V.bl))->Qf HK) :
  nC (ui x) (iE 0) (uq o3 te q) { nx:=fun _ H'=>Qf H',rt:=fun _ _=>False } (none::rest) (aY H q (.lst [])):=by
 refine rc (fun i σ HK=>∃ v:Option V,σ=v::rest/\aB H HK/\HK q=some (.lst (((x.cps.toList.take i).map f).map V.bl))) ⟨none,rfl,ae hq,aa⟩ ?_ ?_
 ·rintro i c σ HK hi ⟨v,rfl,t1,hq2⟩
  have hil:i<x.cps.toList.length:=(List.getElem?_eq_some_iff.mp hi).1;refine cA (ht c HK _ t1 fun H5 s5=>⟨_,s5 _ _ hq2,by rw[xk,xk,xS];exact bK (by omega),_,rfl,bX (t1.trans s5) hq,?_⟩);rw[aa,ym,hi,yi,xC,xC];rfl
 ·rintro σ HK ⟨v,rfl,t1,hq2⟩
  rw[yq]at hq2;exact k HK t1 hq2
def ji (c:Nat):Bool:=decide (48<=c/\c<58)
theorem sO (c:Nat):(!(Builtin.Str.occurrences (Str.ofString "0123456789") ⟨#[c]⟩ 0 (Str.ofString "0123456789").length 1).isEmpty)=ji c:=by
 rw[StrLaws.found_one]
 have e:(Str.ofString "0123456789").cps.toList=[48,49,50,51,52,53,54,55,56,57]:=by decide +kernel
 rw[e];unfold ji;rw[yM];simp only[xB,List.not_mem_nil,or_false];omega
theorem gi (z:Str):(∃ ds,Num z ds)↔1<=z.length/\z.length<=12/\(∀ c∈z.cps.toList,ji c=true)/\¬ (z.cps.toList.head? = some 48/\z.cps.toList≠[48]):=by
 have hz:z.length=z.cps.toList.length:=by rw[xW];rfl
 rw[hz];constructor
 ·rintro⟨ds,N⟩
  have h1:=N.ne;have h2:=N.ln;have h3:=N.nz;rw[N.eq,xk];refine⟨?_,h2,fun c hc=>?_,fun ⟨a,b⟩=>?_⟩
  ·cases ds with
   | nil=>exact absurd rfl h1
   | cons _ _=>simp
  ·obtain⟨e,he,rfl⟩:=xP.mp hc
   have:=N.dg e he;exact xo ⟨by omega,by omega⟩
  ·cases ds with
   | nil=>exact absurd rfl h1
   | cons d ds =>
    have d0:d=0:=by simpa using a
    have:=h3 (by rw[d0];rfl);rw[this]at b;exact b rfl
 ·rintro⟨h1,h2,h3,h4⟩
  have hd:∀ c∈z.cps.toList,48<=c/\c<58:=fun c hc=>x0 (h3 c hc);refine⟨z.cps.toList.map (· - 48),⟨?_,?_,fun q=>?_,fun e he=>?_,by rw[xk];exact h2⟩⟩
  ·rw[yr]
   refine Eq.symm ((List.map_congr_left (g:=id) fun c hc=>?_).trans (List.map_id _));have:=hd c hc
   show c-48+48=c
   omega
  ·intro q
   have:=yn List.length q;rw[xk]at this;have this:z.cps.toList.length=0:=this;omega
  ·rw[List.head?_map]at q
   cases hc:z.cps.toList.head? with
   | none=>rw[hc]at q;cases q
   | some c =>
    rw[hc]at q;have q:c-48=0:=xE q;have cm:c∈z.cps.toList:=List.mem_of_mem_head? hc;have:=hd c cm
    have c48:c=48:=by omega
    have l48:z.cps.toList=[48]:=Classical.byContradiction fun n=>h4 ⟨by rw[hc,c48],n⟩;rw[l48];rfl
  ·obtain⟨c,hc,rfl⟩:=xP.mp he
   have:=hd c hc;omega
theorem qu {z y:Str}:decide (V.str z=V.str y)=decide (z.cps.toList=y.cps.toList):=by
 rw[yM];constructor
 ·intro e;rw[V.str.inj e]
 ·intro e
  obtain⟨⟨l⟩⟩:=z;obtain⟨⟨m⟩⟩:=y;have e:l=m:=e;rw[e]
theorem hG {K:PySem.W.Frag}{te:TE}{Qf:Hp->Prop}{lr q:Addr}{α:Type}(g:α->V){rs:List α}{f:α->V}{rest:L2.St}{H:Hp}(hq:H q=none)(h1:H lr=some (.lst (rs.map g)))(hlen:rs.length<=1000)
  (ht:∀ (r:α)(HK:Hp)(Q':VK),r∈rs->aB H HK->(∀ H5,aB HK H5->Q' (f r) H5)->te (some (g r)::rest) HK Q') (k:∀ (HK:Hp),aB H HK->HK q=some (.lst (rs.map f))->Qf HK) :
  nC (sF K lr) (iE 0) (uq o3 te q) { nx:=fun _ H'=>Qf H',rt:=fun _ _=>False } (none::rest) (aY H q (.lst [])):=by
 refine cO (K:=K) (a:=lr) (xs:=rs.map g) (fun i σ HK=>∃ v:Option V,σ=v::rest/\aB H HK/\HK q=some (.lst ((rs.take i).map f))) ⟨none,rfl,ae hq,aa⟩ (fun i σ HK _ ⟨_,_,s2,_⟩=>bd.of (s2 _ _ h1)) ?_ ?_
 ·rintro i y σ HK hi ⟨v,rfl,t1,hq2⟩
  obtain⟨r,hr0,rfl⟩:=cr hi;have hil:i<rs.length:=(List.getElem?_eq_some_iff.mp hr0).1;refine cA (ht r HK _ (xO hr0) t1 fun H5 s5=>⟨_,s5 _ _ hq2,by rw[xk,xS];exact bK (by omega),_,rfl,bX (t1.trans s5) hq,?_⟩);rw[aa,ym,hr0,yi,xC];rfl
 ·rintro σ HK ⟨v,rfl,t1,hq2⟩
  rw[xk,yq]at hq2;exact k HK t1 hq2
def aD (x:Str):List Nat:=x.cps.toList
theorem bn (x:Str):x.length=(aD x).length:=by unfold aD;rw[xW];rfl
theorem b7 (x y:Str):aD (x++y)=aD x++aD y:=by
 show (x.cps++y.cps).toList=_
 rw[Array.toList_append];rfl
theorem kg (g:Array Nat):∀ (ps:List Str)(a:Array Nat),(ps.foldl (fun acc p=>acc++g++p.cps) a).toList=a.toList++(ps.map fun p=>g.toList++aD p).flatten
 | [],a=>by simp
 | p::ps,a=>by
  rw[List.foldl_cons,kg g ps];simp[aD]
theorem kR (sep p:Str)(ps:List Str):aD (Txt.join sep (p::ps))=aD p++(ps.map fun q=>aD sep++aD q).flatten:=by
 unfold Txt.join Builtin.Str.glued
 show ((ps.foldl (fun acc p=>acc++sep.cps++p.cps) p.cps)).toList=_
 rw[kg];rfl
def nB (g:Int):Prop:=0<=g/\g<10 ^ 12
theorem l9 {g:Int}(h:nB g):∃ ds,Num (eL g) ds/\(numV ds:Int)=g:=rC h.1 h.2
theorem e8 {g:Int}(h:nB g):(∀ c∈aD (eL g),48<=c/\c<58)/\(aD (eL g)).length<=12:=by
 obtain⟨ds,N,e⟩:=l9 h;unfold aD;rw[N.eq];refine⟨fun c hc=>?_,by rw[xk];exact N.ln⟩;obtain⟨d,hd,rfl⟩:=xP.mp hc;have:=N.dg d hd;exact⟨by omega,by omega⟩
theorem o8 {x:Str}(h:∀ c∈aD x,c<128):mP x:=by
 unfold mP;rw[<-Array.all_toList,xT];exact fun c hc=>xo (h c hc)
theorem eY (k c:Int):nB (eX k c):=by
 unfold nB eX;have h:=yp (k*(1+cS c*1234567891%2147483646)+cS c/2147483646) (show (2147483647:Int)≠0 by decide);have h2:=yb (k*(1+cS c*1234567891%2147483646)+cS c/2147483646) (show (0:Int)<2147483647 by decide);dsimp only;generalize (k*(1+cS c*1234567891%2147483646)+cS c/2147483646)%2147483647=y at h h2;split<;>omega
inductive bE where
 | pair (a b:Int)
 | line (gs:List Int)
 | star (gs:List Int)
 | all (gs:List Int)
 | quad (a b c d:Int)
def bE.word:bE->Str
 | .pair _ _=>"pair"
 | .line _=>"line"
 | .star _=>"star"
 | .all _=>"all"
 | .quad _ _ _ _=>"quad"
def bE.gs:bE->List Int
 | .pair a b=>[a,b]
 | .line g=>g
 | .star g=>g
 | .all g=>g
 | .quad a b c d=>[a,b,c,d]
def bE.isP:bE->Bool
 | .pair _ _=>true
 | _=>false
def bE.Ok (f:bE):Prop:=2<=f.gs.length/\f.gs.length<=60/\∀ a b c d,f=.quad a b c d->[a,b,c,d].Nodup
def fz (H:Hp)(p:Addr):bE->Prop
 | .pair a b=>H p=some (.tup [.str "pair",.int a,.int b])
 | f=>∃ q,H p=some (.tup [.str f.word,.ref q])/\H q=some (.tup (f.gs.map V.int))
theorem fz.gr {H:Hp}{p:Addr}{f:bE}(h:fz H p f)(n:f.isP=false):∃ q,H p=some (.tup [.str f.word,.ref q])/\H q=some (.tup (f.gs.map V.int)):=by
 cases f<;>first | exact h | cases n
theorem fz.of {H:Hp}{p q:Addr}{f:bE}(n:f.isP=false)(h1:H p=some (.tup [.str f.word,.ref q]))(h2:H q=some (.tup (f.gs.map V.int))):fz H p f:=by
 cases f<;>first | exact⟨q,h1,h2⟩ | cases n
theorem fz.hd {H:Hp}{p:Addr}{f:bE}(h:fz H p f):∃ xs,H p=some (.tup (.str f.word::xs)):=by
 cases f with
 | pair a b=>exact⟨_,h⟩
 | _=>obtain⟨q,e,_⟩:=h;exact⟨_,e⟩
theorem bE.nw (f:bE):f.word≠"back"/\f.word≠"row"/\f.word≠"name":=by
 cases f<;>(dsimp only[bE.word];refine⟨?_,?_,?_⟩<;>decide +kernel)
theorem RD.succ {K:PySem.W.Frag}{H:Hp}:∀ {n:Nat}{v:V}{d:Dt},RD K H n v d->RD K H (n+1) v d
 | 0,_,_,h=>.inl h
 | _+1,_,_,.inl h=>.inl h
 | _+1,_,_,.inr ⟨a,t,xs,ds,e1,e2,q,p⟩=>.inr ⟨a,t,xs,ds,e1,e2,q,Paired.mapP p fun _ _ z=>RD.succ z⟩
inductive i7 (vs:List V) (H:Hp) (Q:VK) (E_:XK):Prop
 | mk (d:Int) (h_0:vs=[.int d]) (h_1:0<=d) (h_2:∀ (l:Addr)(rs:List Int),H l=none->2<=rs.length->rs.length<=60->(∀ r∈rs,0<=r/\r<12)->Q (.ref l) (aY H l (.lst (rs.map V.int)))):i7 vs H Q E_
end Wz
namespace Qs
open PySem PySem.W PyProof.Rows
abbrev Q4:=Int×Int×Int×Int
def q0:Q4:=(0,0,0,0)
def wY (p q:Q4):Bool:=decide (p.1<q.1\/(p.1=q.1/\(p.2.1<q.2.1\/(p.2.1=q.2.1/\(p.2.2.1<q.2.2.1\/(p.2.2.1=q.2.2.1/\p.2.2.2<q.2.2.2))))))
def wU (h:Heap)(v:Value)(p:Q4):Prop:=∃ (b:Addr)(o:Obj)(n:Nat)(t1 t2 t3 t4:Tok),v=.ref b/\h.get? b=some o/\o.cls=.type "tuple"/\o.data=.seq #[.int p.1 t1,.int p.2.1 t2,.int p.2.2.1 t3,.int p.2.2.2 t4] n
open Classical in
noncomputable def decQ (h:Heap) (v:Value):Q4:=if z:∃ p,wU h v p then choose z else q0
def vD (vs:List Value)(ps:List Q4)(out:List Value):Prop:=∃ ix:List Nat,ix.Perm (List.range vs.length)/\out=ix.map (fun i=>vs.getD i Value.none)/\(ix.map fun i=>ps.getD i q0).Pairwise (fun a b=>wY a b=true)
end Qs
namespace L2
open PySem PySem.Spec PyProof.Rows
def oh (lo:Int)(n:Nat):It:=⟨fun i _=>i<n,fun i H x H'=>H'=H/\x=.int (lo+(i:Nat)*2),fun i _=>n<=i⟩
theorem mI {P:Program}{w:World}{K:PySem.W.Frag}{tg:Expr}(it:Addr)(lo:Int)(n:Nat):oi P w K tg (oh lo n) [it] it (fun i h=>IsRangeIter h it (lo+(i:Nat)*2) ((n:Int)-(i:Nat)) 2) where
 mem:=by simp
 obj:=fun i h st b hb=>by
  have e:b=it:=by simpa using hb
  subst e
  exact⟨_,st,fun v z=>by
   have z':Data.fields _=Data.cell v:=z
   cases z'⟩
 keep:=fun i h h' st k=>k it (by simp) _ st
 item:=by
  intro X hP hw hK hc i pins s σ H E I hf st hg;subst hP hw hK;obtain⟨f0,f1,f2,f3,f4,f5⟩:=hf it (by simp);have W:=Walks.range (prog:=X.prog) (w:=X.w) (I.ok.hd hc) it lo 2 n;refine W.item i s _ _ hg st fun v h' tk hv st' kk=>?_;obtain⟨t,rfl⟩:=hv;have I1:ay X pins σ H { s with heap:=h',toks:=tk }:=I.turned (fun b o hb e=>kk b o (by simpa using hb) e) f0 f1 f3 f4 f5;exact⟨_,rfl,lU (s:={ s with heap:=h',toks:=tk }) (n:="range_iterator") st' rfl rfl (by decide) ⟨.int (lo+(i:Nat)*2),H,I1,⟨t,rfl⟩,⟨rfl,rfl⟩,st',fun b hb=>(hf b hb).1⟩⟩
 done:=by
  intro X hP hw hK hc i pins s σ H E I hf st hg;subst hP hw hK;obtain⟨f0,f1,f2,f3,f4,f5⟩:=hf it (by simp);exact wpAny_pyNext_range_end (I.ok.hd hc) st (by have:n<=i:=hg;omega) fun h' eb=>⟨rfl,I.turned (t':=s.toks) (fun b o hb e=>eb b o hb e) f0 f1 f3 f4 f5⟩
 self:=fun _ _ _ _ _ st h=>wpAny_pyIter_rangeiter st h
section
variable {X:Cx}{tg:Expr}
def uJ (ta:TA):TI:=fun σ H R=>ta σ H fun vs H1=>∃ i j:Int,vs=[.int i,.int j,.int 2]/\(-(2 ^ 40)<=i/\i<2 ^ 40/\-(2 ^ 40)<=j/\j<2 ^ 40)/\R (oh i (Builtin.Range.rangeSize i j 2).toNat) H1
theorem dD (a b:Int):Builtin.Range.rangeSize a b 2=if a<b then (b-a-1)/2+1 else 0:=by
 unfold Builtin.Range.rangeSize;rw[xA (by decide)]
theorem oX {a b:Int}(h1 : -(2 ^ 40)<=a)(h2:a<2 ^ 40)(h3 : -(2 ^ 40)<=b)(h4:b<2 ^ 40):Builtin.Range.small a b 2=true:=by
 unfold Builtin.Range.small;rw[dD];simp only[Builtin.Range.rangeFitsLong,yc,Bool.or_eq_true,decide_eq_true_eq,beq_iff_eq,show (2:Int)>0 by decide,yU];split<;>omega
theorem oV {pins:List (Addr×Obj)}{σ:St}{H:Hp}{s:Shared}{R:It->Hp->Prop}{E:Value->Shared->Prop}{lo hi:Int}{t u v:Tok}{tk:Nat}(I:ay X pins σ H s)(h1 : -(2 ^ 40)<=lo)(h2:lo<2 ^ 40)(h3 : -(2 ^ 40)<=hi)(h4:hi<2 ^ 40)
  (q:R (oh lo (Builtin.Range.rangeSize lo hi 2).toNat) H):wpAny (model X.prog X.w) X.A (pyIter (.ref s.heap.objs.size)) (vO X pins σ tg R) E { s with heap:=s.heap.push { cls:=.type "range",data:=.fields #[.int lo t,.int hi u,.int 2 v] },toks:=tk }:=by
 refine wpAny_pyIter_range (IsRange.new ..) (oX h1 h2 h3 h4) ?_;have I1:ay X pins σ H { s with heap:=s.heap.push { cls:=.type "range",data:=.fields #[.int lo t,.int hi u,.int 2 v] },toks:=tk }:=I.kept fun b o e=>Heap.get?_push_of_some _ e
 refine⟨(s.heap.push { cls:=.type "range",data:=.fields #[.int lo t,.int hi u,.int 2 v] }).objs.size,[(s.heap.push { cls:=.type "range",data:=.fields #[.int lo t,.int hi u,.int 2 v] }).objs.size],_,_,H,rfl,
  I1.kept (t':=tk) fun b o e=>Heap.get?_push_of_some _ e,mI _ lo (Builtin.Range.rangeSize lo hi 2).toNat,?_,fun b hb=>?_,q⟩
 ·have e1:lo+((0:Nat):Int)*2=lo:=by simp
  have e2:(((Builtin.Range.rangeSize lo hi 2).toNat:Nat):Int)-((0:Nat):Int)=Builtin.Range.rangeSize lo hi 2:=by rw[dD];split<;>omega
  show IsRangeIter _ _ (lo+((0:Nat):Int)*2) ((((Builtin.Range.rangeSize lo hi 2).toNat:Nat):Int)-((0:Nat):Int)) 2
  rw[e1,e2];exact Heap.get?_push_size _ rfl
 ·have e:b=(s.heap.push { cls:=.type "range",data:=.fields #[.int lo t,.int hi u,.int 2 v] }).objs.size:=by simpa using hb
  subst e;exact I1.fpOk (xm _) (I1.hok.fresh (xm _))
theorem oR {a b c:Expr}{ta:TA}{p pos:Pos}(hg:Gl X "range")(hm:X.mg "range" = none)(ha:PA X [a,b,c] ta)(hs:starEach [a,b,c] X.env=[(false,eval a X.env),(false,eval b X.env),(false,eval c X.env)]:=by rfl)(hs2:starEach [b,c] X.env=[(false,eval b X.env),(false,eval c X.env)]:=by rfl) :
  PI X tg (.Call (.Name "range" p) [a,b,c] [] pos) (uJ ta):=by
 intro pins s σ H R I h;refine Call_ (gZ I hg hm boot_range (PyProof.Rows.callWith_type1 (bv (ha pos pins s σ H _ I h) fun us s1 ⟨vs,H1,I1,r1,q1⟩=>?_) (by rw[hs,hs2]) (by rw[hs2];rfl)));obtain⟨i,j,e,⟨q1,q2,q3,q4⟩,q⟩:=q1;subst e
 cases r1 with
 | cons r rr =>
  cases rr with
  | cons r' rr =>
   cases rr with
   | cons r'' rr =>
    cases rr;obtain⟨t,rfl⟩:=r;obtain⟨t',rfl⟩:=r';obtain⟨t'',rfl⟩:=r'';exact call_range_3 (by decide) (oV I1 q1 q2 q3 q4 q)
end
theorem mU {lo:Int}{n:Nat}{g:TG}{tb:TS}{D:fW}{σ:St}{H:Hp}(Pv:Nat->St->Hp->Prop)(h0:Pv 0 σ H)
  (hs:∀ i σ H,i<n->Pv i σ H->g (.int (lo+(i:Nat)*2)) σ H fun σ2 H2=>tb { D with nx:=Pv (i+1),ct:=Pv (i+1),bk:=D.nx } σ2 H2) (hd:∀ σ H,Pv n σ H->D.nx σ H) :
  ∃ W:Nat->Nat->St->Hp->Prop,(∃ m,W 0 m σ H)/\∀ i m σ H,W i m σ H ->
   ((oh lo n).stop i H/\D.nx σ H)\/((oh lo n).go i H/\∃ N:St->Hp->Prop,(∀ σ' H',N σ' H'->∃ m',m'<m/\W (i+1) m' σ' H')/\∀ x H',(oh lo n).yld i H x H'->g x σ H' fun σ2 H2=>tb { D with nx:=N,ct:=N,bk:=D.nx } σ2 H2):=by
 refine⟨fun i m σ H=>m=n-i/\i<=n/\Pv i σ H,⟨n,by simp,xX _,h0⟩,?_⟩;rintro i m σ H ⟨rfl,hi,p⟩
 by_cases hlt:i<n
 ·refine .inr ⟨hlt,Pv (i+1),fun σ' H' p'=>⟨n-(i+1),by omega,rfl,hlt,p'⟩,fun x H' y=>?_⟩
  obtain⟨e,y⟩:=y;subst e y;exact hs i σ _ hlt p
 ·have e:i=n:=by omega
  subst e;exact .inl ⟨xm _,hd σ H p⟩
section
variable {prog:Program}{w:World}{A:Around}{R:Result->Shared->Prop}{I:Addr}{fp wr:List Addr}{n:Nat}{P:Nat->Value->Prop}{St:Nat->Heap->Prop}
abbrev uM (I S:Addr)(d:Value):Code:=.builtin "max.loop" ⟨[.ref I,.none,.ref S],[("default",d)]⟩
theorem oK (W:Walks prog w A.in1 I fp wr n P St)(bt:Nat->Nat->Bool)(cmp:CmpOf prog w A.in1 .Gt P bt)(d:Value)(S:Addr)(nS:S∉fp) :
  ∀ (m j:Nat)(s:Shared)(v:Value)(c:Nat),m+(j+1)=n->St (j+1) s.heap->P (argBest bt j) v ->
  s.heap.get? S=some { cls:=.type "list",dict:=none,data:=.seq #[v,v] c,slots:=#[] } ->
  (∀ u h' tk,P (argBest bt (n-1)) u->(∀ b o,b∉wr->b≠S->s.heap.get? b=some o->h'.get? b=some o)->R (.ok (.ret u)) { s with heap:=h',toks:=tk })->codeAny (model prog w) A (uM I S d) R s:=by
 have nW:S∉wr:=fun z=>nS (W.sub _ z)
 have nm:(toString "max"++toString ".loop" : String)="max.loop":=by decide
 intro m
 induction m with
 | zero =>
  intro j s v c e st pv hS k
  have e:j+1=n:=by omega
  refine codeAny_builtin F.entry_max_loop ?_;rw[Around.under_plainId yD _]
  show wpAny _ A.in1 (seqItems? (.ref S) >>= _) _ _ s
  refine xr (wpAny_seqItems hS rfl ?_)
  show wpAny _ A.in1 (tryCatch (pyNext (.ref I)) _ >>= _) _ _ s
  refine xr (wpAny_tryCatch (W.done s _ _ (e▸st) fun h1 t1 k1=>?_));have hS1:=k1 S _ nW hS
  show wpAny _ A.in1 (updateSeq S (fun _=>#[]) >>= _) _ _ _
  refine xr (wpAny_updateSeq hS1 rfl (xr (wpAny_letGo (xH ?_))));exact k v _ t1 (by rw[<-e];exact pv) fun b o b1 b2 z=>(Heap.get?_update_other _ _ (yB b2)).trans (k1 b o b1 z)
 | succ m ih =>
  intro j s v c e st pv hS k;refine codeAny_builtin F.entry_max_loop ?_;rw[Around.under_plainId yD _]
  show wpAny _ A.in1 (seqItems? (.ref S) >>= _) _ _ s
  refine xr (wpAny_seqItems hS rfl ?_)
  show wpAny _ A.in1 (tryCatch (pyNext (.ref I)) _ >>= _) _ _ s
  refine xr (wpAny_tryCatch (W.item (j+1) s _ _ (by omega) st fun u h1 t1 pu st1 k1=>?_));have hS1:=k1 S _ nW hS
  show wpAny _ A.in1 (tryCatch (holding [u,u] (richCompare .Gt u v >>= _)) _ >>= _) _ _ _
  refine xr (wpAny_tryCatch (wpAny_holding (xr (cmp (j+1) (argBest bt j) u v _ _ _ pu pv ?_))));refine xr (wpAny_holding (yk ?_));refine xr (wpAny_letGo (xH ?_))
  cases q:bt (j+1) (argBest bt j) with
  | true =>
   simp only[yU];refine xr (wpAny_updateSeq hS1 rfl (xr (wpAny_letGo ?_)));rw[nm];refine xH ⟨plainId_quiet yD _,ih (j+1) _ u _ (by omega) (W.frame _ _ _ st1 fun b hb o z=>(Heap.get?_update_other _ _ (fun y:S=b=>nS (by rw[y];exact hb))).trans z) (by simp only[argBest,q,yU];exact pu) (Heap.get?_update_self _ hS1 rfl) fun u2 h2 t2 p2 k2=>?_⟩;exact k u2 h2 t2 p2 fun b o b1 b2 z=>k2 b o b1 b2 ((Heap.get?_update_other _ _ (yB b2)).trans (k1 b o b1 z))
  | false =>
   simp only[Bool.false_eq_true,if_false];refine xr (wpAny_letGo ?_);rw[nm];refine xH ⟨plainId_quiet yD _,ih (j+1) _ v c (by omega) st1 (by simp only[argBest,q,Bool.false_eq_true,if_false];exact pv) hS1 fun u2 h2 t2 p2 k2=>?_⟩;exact k u2 h2 t2 p2 fun b o b1 b2 z=>k2 b o b1 b2 (k1 b o b1 z)
theorem m3 (W:Walks prog w A.in1 I fp wr n P St)(bt:Nat->Nat->Bool)(cmp:CmpOf prog w A.in1 .Gt P bt)(d:Value)(S:Addr)(nS:S∉fp){s:Shared}{c:Nat}(st:St 0 s.heap)
  (hS:s.heap.get? S=some { cls:=.type "list",dict:=none,data:=.seq #[] c,slots:=#[] })
  (k0:n=0->∀ h' tk,(∀ b o,b∉wr->b≠S->s.heap.get? b=some o->h'.get? b=some o)->R (.ok (.ret d)) { s with heap:=h',toks:=tk })
  (k:0<n->∀ u h' tk,P (argBest bt (n-1)) u->(∀ b o,b∉wr->b≠S->s.heap.get? b=some o->h'.get? b=some o)->R (.ok (.ret u)) { s with heap:=h',toks:=tk }):codeAny (model prog w) A (uM I S d) R s:=by
 have nW:S∉wr:=fun z=>nS (W.sub _ z)
 have nm:(toString "max"++toString ".loop" : String)="max.loop":=by decide
 refine codeAny_builtin F.entry_max_loop ?_;rw[Around.under_plainId yD _]
 show wpAny _ A.in1 (seqItems? (.ref S) >>= _) _ _ s
 refine xr (wpAny_seqItems hS rfl ?_)
 show wpAny _ A.in1 (tryCatch (pyNext (.ref I)) _ >>= _) _ _ s
 by_cases n0:n=0
 ·refine xr (wpAny_tryCatch (W.done s _ _ (n0▸st) fun h1 t1 k1=>?_))
  exact xr (wpAny_rule (xH (k0 n0 _ t1 fun b o b1 b2 z=>k1 b o b1 z)))
 ·refine xr (wpAny_tryCatch (W.item 0 s _ _ (by omega) st fun u h1 t1 pu st1 k1=>?_))
  have hS1:=k1 S _ nW hS
  show wpAny _ A.in1 (updateSeq S (fun _=>#[u,u]) >>= _) _ _ _
  refine xr (wpAny_updateSeq hS1 rfl ?_);rw[nm];refine xH ⟨plainId_quiet yD _,oK W bt cmp d S nS (n-1) 0 _ u _ (by omega) (W.frame _ _ _ st1 fun b hb o z=>(Heap.get?_update_other _ _ (fun y:S=b=>nS (by rw[y];exact hb))).trans z) pu (Heap.get?_update_self _ hS1 rfl) fun u2 h2 t2 p2 k2=>?_⟩;exact k (by omega) u2 h2 t2 p2 fun b o b1 b2 z=>k2 b o b1 b2 ((Heap.get?_update_other _ _ (yB b2)).trans (k1 b o b1 z))
end
theorem ph (a d:Value):checkBuiltinCall "max" ⟨[a],[("default",d)]⟩=pure ():=by kernel_rfl
section
variable {prog:Program}{w:World}{A:Around}{E:Value->Shared->Prop}{s:Shared}
theorem oq {x d:Value}{Q:Value->Shared->Prop}
  (h:wpAny (model prog w) A.in1 (pyIter x) (fun it s2=>∃ I fp wr n P St bt,it=.ref I/\Walks prog w A.in1 I fp wr n P St/\St 0 s2.heap/\(∀ b∈fp,b<s2.heap.objs.size)/\CmpOf prog w A.in1 .Gt P bt /\
   (n=0->∀ h' tk,(∀ b o,b∉wr->s2.heap.get? b=some o->h'.get? b=some o)->Q d { s2 with heap:=h',toks:=tk }) /\
   (0<n->∀ v h' tk,P (argBest bt (n-1)) v->(∀ b o,b∉wr->s2.heap.get? b=some o->h'.get? b=some o)->Q v { s2 with heap:=h',toks:=tk })) E s) :
  wpAny (model prog w) A (call (.builtin "max") [x] [("default",d)]) Q E s:=by
 have nm:(toString "max"++toString ".loop" : String)="max.loop":=by decide
 refine wpAny_call (codeAny_call_builtin F.plain_max F.entry_max (wpAny_of_eq (ph x d) ?_))
 show wpAny _ A.in1 (Builtin.Builtins.bindParams "max" ["key","default"] 0 ⟨[],[("default",d)]⟩ >>= _) _ _ s
 refine xr (wpAny_of_eq (show Builtin.Builtins.bindParams "max" ["key","default"] 0 ⟨[],[("default",d)]⟩=pure [none,some d] from rfl) ?_);refine xr (xH (xr (yj h (fun it s2 h2=>?_) fun _ _ e=>e)));obtain⟨I,fp,wr,n,P,St,bt,rfl,W,st,lt,cmp,k0,k⟩:=h2;refine xr (yz ?_);have nS:s2.heap.objs.size∉fp:=fun z=>yK _ (lt _ z);rw[nm];refine xH ⟨plainId_quiet yD _,m3 W bt cmp d s2.heap.objs.size nS (W.frame _ _ _ st fun b _ o e=>Heap.get?_push_of_some _ e) (Heap.get?_push_size _ rfl) (fun n0 h' tk hk=>?_) fun n0 v h' tk pv hk=>?_⟩
 ·exact k0 n0 h' tk fun b o b1 e=>hk b o b1 (xK (xz e)) (Heap.get?_push_of_some _ e)
 ·exact k n0 v h' tk pv fun b o b1 e=>hk b o b1 (xK (xz e)) (Heap.get?_push_of_some _ e)
end
def vm (K:PySem.W.Frag)(ta:TA)(d:Int):TE:=fun σ H Q=>ta σ H fun vs H1=>∃ (l:Addr)(ns:List Int),vs=[.ref l]/\bd K H1 l (ns.map V.int)/\(ns=[]->Q (.int d) H1)/\∀ M,M∈ns->(∀ a∈ns,a<=M)->Q (.int M) H1
theorem rH {X:Cx}{a:Expr}{ta:TA}{d:Int}{p pos cp kp:Pos}{cj:Nat}(hc:X.calm=true)(hg:Gl X "max")(hm:X.mg "max" = none)(ha:PA X [a] ta)
  (he:backTo pos (starEach [a] X.env)=(false,eval a X.env)::backTo pos (starEach [] X.env):=by rfl) (hplain:(backTo pos (starEach [a] X.env)).any (·.1)=false:=by rfl)
  (hall:(backToKw pos (keywordEach [⟨some "default",.Constant (.int d) cj cp,kp⟩] X.env)).all (·.1.isSome)=true:=by rfl) (hkw:(backToKw pos (keywordEach [⟨some "default",.Constant (.int d) cj cp,kp⟩] X.env)).any (·.1.isNone)=false:=by rfl) :
  PE X (.Call (.Name "max" p) [a] [⟨some "default",.Constant (.int d) cj cp,kp⟩] pos) (vm X.K ta d):=by
 intro pins s σ H Q I h;refine yy (gZ I hg hm boot_max ?_ (by decide) (by decide));refine callWith_kw (bv (ha pos pins s σ H _ I h) fun us s1 ⟨vs,H1,I1,r1,l,ns,e1,hq,q0,q⟩=>?_) he hplain hall hkw;subst e1;obtain⟨u,rfl,rx⟩:=eA r1;cases rx;refine kws_cons (wpAny_Constant_int (kws_nil ?_));have I2:ay X pins σ H1 { s1 with toks:=s1.toks+1 }:=I1.tok _;obtain⟨its,rv,pl,hz⟩:=I2.list hq;have hl:=rv.length;rw[xk]at hl
 show wpAny _ _ (call (.builtin "max") [.ref l] [("default",.int d s1.toks)]) _ _ _
 refine oq (kj (xs:=ns.map V.int) I2 (I2.ok.hd hc) pl fun I' St s2 hs2 hI W st kp fin=>?_)
 have val:∀ (i:Nat)(v:Value),its.toArray[i]? = some v->∃ t,v=.int (ns.getD i 0) t:=fun i v e=>by
  have e:its[i]? = some v:=by simpa using e
  have hi:i<ns.length:=by have:=(List.getElem?_eq_some_iff.mp e).1;omega
  obtain⟨u,eu,ru⟩:=rv.get (i:=i) (x:=V.int ns[i]) (by rw[List.getElem?_map,List.getElem?_eq_getElem hi];rfl);rw[e]at eu;cases eu;obtain⟨t,rfl⟩:=ru;exact⟨t,by rw[List.getD_eq_getElem?_getD,List.getElem?_eq_getElem hi];rfl⟩
 have hlt:l<s1.heap.objs.size:=by obtain⟨o,n,e,_⟩:=pl;exact xz e
 refine⟨I',_,_,_,_,St,_,rfl,W,st,fun b hb=>?_,CmpOf.ints_gt (fun i=>ns.getD i 0) val,fun n0 h' tk k=>?_,fun n0 v h' tk hv k=>?_⟩
 ·rcases xB.mp hb with z | z
  ·rw[z,hI,hs2];exact Nat.lt_succ_self _
  ·rw[xG.mp z,hs2];exact Nat.lt_succ_of_lt hlt
 ·exact⟨.int d,H1,fin h' tk k,⟨_,rfl⟩,q0 (List.eq_nil_of_length_eq_zero (by omega))⟩
 ·obtain⟨t,rfl⟩:=val _ _ hv
  obtain⟨h1,h2⟩:=argBest_gt (fun i=>ns.getD i 0) (its.length-1);refine⟨.int _,H1,fin h' tk k,⟨t,rfl⟩,q _ ?_ fun a ha=>?_⟩
  ·rw[List.getD_eq_getElem?_getD,List.getElem?_eq_getElem (by omega)];exact List.getElem_mem _
  ·obtain⟨j,hj⟩:=List.getElem?_of_mem ha
   have hjl:j<ns.length:=(List.getElem?_eq_some_iff.mp hj).1;have:=h2 j (by omega);rw[show ns.getD j 0=a by rw[List.getD_eq_getElem?_getD,hj];rfl]at this;exact this
theorem gc {P:Program}{w:World}{K:PySem.W.Frag}{mg:Str->Option Value}{base:Heap}{CX:j4}{k:Nat}{f:Addr}{fd:FuncData}{ps:List Str}{sp:Sp}(no:∀ vs H Q E,¬ sp vs H Q E):a7 P w K mg base CX k f fd ps sp :=
 ⟨fun vs H Q E h=>(no vs H Q E h).elim,fun A outer s H args us vs Q E hr e0 hb r h=>(no vs H Q E h).elim⟩
def wq (te:TE):TE:=fun σ H Q=>te σ H fun x H1=>∃ z:Str,x=.str z/\z.length<=1000/\∀ y:Str,y.length<=1000->Q (.str y) H1
theorem tF {X:Cx}{e:Expr}{te:TE}{pos:Pos}(he:PE X e te):PE X (.FormattedValue e (-1) none pos) (wq te):=by
 intro pins s σ H Q I h;refine FormattedValue_plain (bv (he pins s σ H _ I h) fun u s1 ⟨x,H1,I1,rx,z,ex,hz,q⟩=>?_);subst ex;obtain⟨tk,rfl⟩:=rx;have sl:sizeLine=16777216:=xY;exact wpAny_formatField_str ⟨.str z,H1,I1,⟨_,rfl⟩,q z hz⟩ ⟨.str z,H1,I1.tok _,⟨_,rfl⟩,q z hz⟩ (by omega)
end L2
namespace Wz
open PySem L2
inductive ak where
 | pl (f:bE)
 | row (fs:List ak)
 | back (f:ak)
 | name (w:Str)
def ak.word:ak->Str
 | .pl f=>f.word
 | .row _=>"row"
 | .back _=>"back"
 | .name _=>"name"
def bE.dt:bE->Dt
 | .pair a b=>.sq true [.at (.str "pair"),.at (.int a),.at (.int b)]
 | f=>.sq true [.at (.str f.word),.sq true (f.gs.map fun g=>.at (.int g))]
mutual
def ak.dt:ak->Dt
 | .pl f=>f.dt
 | .row fs=>.sq true [.at (.str "row"),.sq true (ak.dtL fs)]
 | .back f=>.sq true [.at (.str "back"),f.dt]
 | .name w=>.sq true [.at (.str "name"),.at (.str w)]
def ak.dtL:List ak->List Dt
 | []=>[]
 | f::fs=>f.dt::ak.dtL fs
end
mutual
def ak.names:ak->List Str
 | .pl _=>[]
 | .row fs=>ak.namesL fs
 | .back f=>f.names
 | .name w=>[w]
def ak.namesL:List ak->List Str
 | []=>[]
 | f::fs=>f.names++ak.namesL fs
end
def aI:Nat->Hp->Addr->ak->Prop
 | 0,_,_,_=>False
 | _+1,H,p,.pl f=>fz H p f/\f.Ok
 | _+1,H,p,.name w=>H p=some (.tup [.str "name",.str w])/\w.length<=100
 | n+1,H,p,.back f=>∃ q,H p=some (.tup [.str "back",.ref q])/\aI n H q f
 | n+1,H,p,.row fs=>∃ t as,H p=some (.tup [.str "row",.ref t])/\H t=some (.tup (as.map V.ref))/\fs.length<=100/\Paired (aI n H) as fs
theorem aI.mono {H H':Hp}(s:∀ b xs,H b=some (.tup xs)->H' b=some (.tup xs)):∀ {n:Nat}{p:Addr}{f:ak},aI n H p f->aI n H' p f
 | 0,_,_,h=>h
 | n+1,p,.pl f,h=>by
  refine⟨?_,h.2⟩;have h:=h.1
  cases f with
  | pair a b=>exact s _ _ h
  | _=>obtain⟨q,e1,e2⟩:=h;exact⟨q,s _ _ e1,s _ _ e2⟩
 | n+1,p,.name w,h=>⟨s _ _ h.1,h.2⟩
 | n+1,p,.back f,h=>by
  obtain⟨q,e1,e2⟩:=h;exact⟨q,s _ _ e1,aI.mono s e2⟩
 | n+1,p,.row fs,h=>by
  obtain⟨t,as,e1,e2,hl,e3⟩:=h;exact⟨t,as,s _ _ e1,s _ _ e2,hl,Paired.mapP e3 fun _ _ z=>aI.mono s z⟩
theorem aI.hd {n:Nat}{H:Hp}{p:Addr}{f:ak}(h:aI n H p f):∃ xs,H p=some (.tup (.str f.word::xs)):=by
 cases n with
 | zero=>exact h.elim
 | succ n =>
  cases f with
  | pl f=>exact h.1.hd
  | name w=>exact⟨_,h.1⟩
  | back f=>obtain⟨q,e,_⟩:=h;exact⟨_,e⟩
  | row fs=>obtain⟨t,as,e,_⟩:=h;exact⟨_,e⟩
theorem RD.up {K:PySem.W.Frag}{H:Hp}{n m:Nat}{v:V}{d:Dt}(h:RD K H n v d)(e:n<=m):RD K H m v d:=by
 induction e with
 | refl=>exact h
 | step _ ih=>exact RD.succ ih
theorem pE {K:PySem.W.Frag}{H:Hp}{p:Addr}{f:bE}(h:fz H p f):RD K H 2 (.ref p) f.dt:=by
 have intsP:∀ (gs:List Int),Paired (RD K H 0) (gs.map V.int) (gs.map fun g=>.at (.int g)):=fun gs=>by
  induction gs with
  | nil=>exact .nil
  | cons g gs ih=>exact .cons ⟨rfl,rfl⟩ ih
 cases f with
 | pair a b=>exact RD.tup (aW.of h) (.cons (RD.flat rfl 1) (.cons (RD.flat rfl 1) (.cons (RD.flat rfl 1) .nil)))
 | _ =>
  obtain⟨q,e1,e2⟩:=h;exact RD.tup (aW.of e1) (.cons (RD.flat rfl 1) (.cons (RD.tup (aW.of e2) (intsP _)) .nil))
theorem aI.rd {K:PySem.W.Frag}{H:Hp}:∀ {n:Nat}{p:Addr}{f:ak},aI n H p f->RD K H (2*n) (.ref p) f.dt
 | 0,_,_,h=>h.elim
 | n+1,p,.pl f,h=>RD.up (show RD K H 2 (.ref p) (ak.pl f).dt by rw[ak.dt];exact pE h.1) (by omega)
 | n+1,p,.name w,h=>RD.up (n:=1) (by rw[ak.dt];exact RD.tup (aW.of h.1) (.cons (RD.flat rfl 0) (.cons (RD.flat rfl 0) .nil))) (by omega)
 | n+1,p,.back f,h=>by
  obtain⟨q,e1,e2⟩:=h;refine RD.up (n:=2*n+1) ?_ (by omega);rw[ak.dt];exact RD.tup (aW.of e1) (.cons (RD.flat rfl _) (.cons (aI.rd e2) .nil))
 | n+1,p,.row fs,h=>by
  obtain⟨t,as,e1,e2,_,e3⟩:=h;refine RD.up (n:=2*n+2) ?_ (by omega);rw[ak.dt];refine RD.tup (aW.of e1) (.cons (RD.flat rfl _) (.cons (RD.tup (aW.of e2) ?_) .nil))
  have key:∀ {as:List Addr}{fs:List ak},Paired (aI n H) as fs->Paired (RD K H (2*n)) (as.map V.ref) (ak.dtL fs):=fun {as fs} pr=>by
   induction pr with
   | nil=>rw[ak.dtL];exact .nil
   | cons a _ ih=>rw[ak.dtL];exact .cons (aI.rd a) ih
  exact key e3
def bz (c:Nat):Bool:=decide (97<=c/\c<123)
theorem tj (c:Nat):(!(Builtin.Str.occurrences (Str.ofString "abcdefghijklmnopqrstuvwxyz") ⟨#[c]⟩ 0 (Str.ofString "abcdefghijklmnopqrstuvwxyz").length 1).isEmpty)=bz c:=by
 rw[StrLaws.found_one]
 have e:(Str.ofString "abcdefghijklmnopqrstuvwxyz").cps.toList=(List.range 26).map (·+97):=by decide +kernel
 rw[e];unfold bz;rw[yM,xP];constructor
 ·rintro⟨k,hk,rfl⟩
  have:=yA.mp hk;omega
 ·intro h
  exact⟨c-97,yA.mpr (by omega),by omega⟩
def kindsL:List Str:=["pair","line","star","all","quad","row","back","name"]
def dI (z:Str):Bool:=!decide (z∈kindsL)&&decide (1<=z.length/\z.length<=12)&&z.cps.toList.all bz
theorem iV (z:Str):∀ xs:List Str,rg (V.str z) (xs.map V.str)=decide (z∈xs)
 | []=>rfl
 | x::xs=>by
  have ih:=iV z xs;unfold rg at ih ⊢;rw[xM,List.any_cons,ih]
  by_cases e:z=x
  ·subst e
   rw[show mS (V.str z) (V.str z)=true by simp[mS],xo xp];rfl
  ·rw[show mS (V.str x) (V.str z)=false by simp[mS];exact fun q=>e q.symm]
   rw[Bool.false_or];exact yM.mpr ⟨fun q=>xq _ q,fun q=>(xB.mp q).resolve_left e⟩
theorem ox (xs:List Str):(xs.map V.str).all fA=true:=xT.mpr fun v hv=>by obtain⟨x,_,rfl⟩:=xP.mp hv;rfl
theorem aI.up {H:Hp}:∀ {n:Nat}{p:Addr}{f:ak},aI n H p f->aI (n+1) H p f
 | 0,_,_,h=>h.elim
 | n+1,p,.pl f,h=>h
 | n+1,p,.name w,h=>h
 | n+1,p,.back f,h=>by
  obtain⟨q,e1,e2⟩:=h;exact⟨q,e1,aI.up e2⟩
 | n+1,p,.row fs,h=>by
  obtain⟨t,as,e1,e2,fl,pr⟩:=h;exact⟨t,as,e1,e2,fl,Paired.mapP pr fun _ _ z=>aI.up z⟩
theorem aI.le {H:Hp}{n m:Nat}{p:Addr}{f:ak}(h:aI n H p f)(hl:n<=m):aI m H p f:=by
 induction hl with
 | refl=>exact h
 | step _ ih=>exact ih.up
theorem vw (w:Str):decide (V.str (ak.name w).word=V.str "back")=false:=by show decide (V.str (Str.ofString "name")=V.str (Str.ofString "back"))=false;decide +kernel
theorem vx (w:Str):decide (V.str (ak.name w).word=V.str "row")=false:=by show decide (V.str (Str.ofString "name")=V.str (Str.ofString "row"))=false;decide +kernel
theorem sj (w:Str):decide (V.str (ak.name w).word=V.str "name")=true:=by show decide (V.str (Str.ofString "name")=V.str (Str.ofString "name"))=true;decide +kernel
theorem qE (f:ak):decide (V.str (ak.back f).word=V.str "back")=true:=by show decide (V.str (Str.ofString "back")=V.str (Str.ofString "back"))=true;decide +kernel
theorem vv (f:ak):decide (V.str (ak.back f).word=V.str "row")=false:=by show decide (V.str (Str.ofString "back")=V.str (Str.ofString "row"))=false;decide +kernel
theorem si (f:ak):decide (V.str (ak.back f).word=V.str "name")=false:=by show decide (V.str (Str.ofString "back")=V.str (Str.ofString "name"))=false;decide +kernel
theorem qH (fs:List ak):decide (V.str (ak.row fs).word=V.str "back")=false:=by show decide (V.str (Str.ofString "row")=V.str (Str.ofString "back"))=false;decide +kernel
theorem qI (fs:List ak):decide (V.str (ak.row fs).word=V.str "row")=true:=by show decide (V.str (Str.ofString "row")=V.str (Str.ofString "row"))=true;decide +kernel
theorem sm (fs:List ak):decide (V.str (ak.row fs).word=V.str "name")=false:=by show decide (V.str (Str.ofString "row")=V.str (Str.ofString "name"))=false;decide +kernel
theorem qF (f:bE):decide (V.str (ak.pl f).word=V.str "back")=false:=xn (fun z=>f.nw.1 (V.str.inj z))
theorem qG (f:bE):decide (V.str (ak.pl f).word=V.str "row")=false:=xn (fun z=>f.nw.2.1 (V.str.inj z))
theorem sk (f:bE):decide (V.str (ak.pl f).word=V.str "name")=false:=xn (fun z=>f.nw.2.2 (V.str.inj z))
end Wz
namespace L2
open PySem PySem.Spec PyProof.Rows
theorem dZ {X:Cx} {x j p}{es:List Expr}{t:TA}(hr:PA X es t):PA X (.Constant (.str x) j p::es) (eV (tC (.str x)) t):=bp ai hr rfl
end L2
namespace Wz
open PySem L2
theorem pN {w:Str}{c:Nat}:(w++⟨#[c]⟩:Str).length=w.length+1:=by
 rw[bn,b7,xv,<-bn];rfl
theorem fK {b:Bool}{p q:Prop}(h1:b=true->p)(h2:b=false->q):if b=true then p else q:=by
 cases b
 ·exact ar (h2 rfl)
 ·exact aG (h1 rfl)
theorem jr:∀ a b:List ak,ak.namesL (a++b)=ak.namesL a++ak.namesL b
 | [],b=>by rw[ak.namesL];rfl
 | f::a,b=>by rw[List.cons_append,ak.namesL,ak.namesL,jr a b,yS]
inductive gD (vs:List V) (H:Hp) (Q:VK) (E_:XK):Prop
 | mk (p:Addr) (n:Nat) (f:ak) (h_0:vs=[.ref p]) (h_1:aI n H p f) (h_2:(∃ g,f=.pl g)\/∃ w,f=.name w) (h_3:∀ H' k,aB H H'->Q (.bl k) H'):gD vs H Q E_
def kB (H:Hp)(t:Addr)(x:ak×Nat):Prop:=∃ p,H t=some (.tup [.ref p,.int x.2])/\aI x.2 H p x.1
def eB (x:ak×Nat):Prop:=1<=x.2/\x.2<=7/\(x.2=1->(∃ g,x.1=.pl g)\/∃ w,x.1=.name w)
def rQ (x:ak×Nat):Nat:=if x.2=1 then 20 else x.1.names.length
def jT:List (ak×Nat)->Nat
 | []=>0
 | x::xs=>rQ x+jT xs
def qR (H:Hp)(s:Addr)(xs:List (ak×Nat)):Prop:=∃ ts:List Addr,H s=some (.lst (ts.map V.ref))/\Paired (kB H) ts xs
theorem kB.mono {H H':Hp}{t:Addr}{x:ak×Nat}(h:kB H t x)(s:∀ b ys,H b=some (.tup ys)->H' b=some (.tup ys)):kB H' t x:=by
 obtain⟨p,e1,e2⟩:=h;exact⟨p,s _ _ e1,e2.mono s⟩
theorem gF:∀ a b:List (ak×Nat),jT (a++b)=jT a+jT b
 | [],b=>by rw[List.nil_append,jT];omega
 | x::a,b=>by rw[List.cons_append,jT,jT,gF a b];omega
theorem eB.few {x:ak×Nat}(h:eB x):x.1.names.length<=rQ x:=by
 unfold rQ;split
 ·rename_i e
  rcases h.2.2 e with ⟨g,z⟩ | ⟨w,z⟩
  ·rw[z,ak.names];simp
  ·rw[z,ak.names];simp
 ·exact xm _
theorem im:∀ xs:List (ak×Nat),(∀ x∈xs,eB x)->(ak.namesL (xs.map (·.1))).length<=jT xs
 | [],_=>by rw[List.map_nil,ak.namesL];exact xX _
 | x::xs,h=>by
  have ih:=im xs fun y hy=>h y (xq _ hy);have:=(h x xp).few;rw[xM,ak.namesL,xv,jT];omega
theorem pJ {H:Hp}{ts:List Addr}{xs:List (ak×Nat)}(h:Paired (kB H) ts xs)(ok:∀ x∈xs,eB x):∃ ps:List Addr,Paired (fun t p=>∃ n:Int,H t=some (.tup [.ref p,.int n])) ts ps/\Paired (aI 7 H) ps (xs.map (·.1)):=by
 induction h with
 | nil=>exact⟨[],.nil,.nil⟩
 | cons a _ ih =>
  obtain⟨ps,p1,p2⟩:=ih fun x hx=>ok x (xq _ hx);obtain⟨p,e1,e2⟩:=a;exact⟨p::ps,.cons ⟨_,e1⟩ p1,.cons (e2.le (ok _ xp).2.1) p2⟩
def o6 (s:Addr)(H H':Hp):Prop:=∀ a o,H a=some o->a≠s->H' a=some o
theorem jk {s:Addr}{H H':Hp}(h:aB H H'):o6 s H H':=fun a o e _=>h a o e
theorem o6.trans {s:Addr}{H H' H2:Hp}(h:o6 s H H')(t:o6 s H' H2):o6 s H H2:=fun a o e n=>t a o (h a o e n) n
theorem iX {s:Addr}{H:Hp}{o:HO}:o6 s H (aY H s o):=fun a u e n=>by rw[aE n];exact e
theorem o6.tup {s:Addr}{H H':Hp}{vs:List V}(h:o6 s H H')(e:H s=some (.lst vs)):∀ b ys,H b=some (.tup ys)->H' b=some (.tup ys):=fun b ys z=>h b _ z fun q=>by rw[q,e]at z;cases z
theorem qm {H H':Hp}{s t:Addr}{ts:List Addr}{xs:List (ak×Nat)}{x:ak×Nat}(pr:Paired (kB H) ts xs)(up:∀ b ys,H b=some (.tup ys)->H' b=some (.tup ys))(hs:H' s=some (.lst (ts.map V.ref++[.ref t])))(it:kB H' t x):qR H' s (xs++[x]) :=
 ⟨ts++[t],by rw[hs,xC];rfl,bq (Paired.mapP pr fun _ _ z=>z.mono up) (.cons it .nil)⟩
theorem pU {xs:List (ak×Nat)}{x:ak×Nat}(h:∀ y∈xs,eB y)(hx:eB x):∀ y∈xs++[x],eB y:=fun y hy=>by
 rcases xU.mp hy with z | z
 ·exact h y z
 ·rw[xG.mp z];exact hx
theorem iG (fs:List ak):∀ k:Nat,(ak.namesL (List.replicate k fs).flatten).length=k*(ak.namesL fs).length
 | 0=>by rw[List.replicate_zero,List.flatten_nil,ak.namesL,Nat.zero_mul];rfl
 | k+1=>by rw[xQ,x8,jr,xv,iG fs k,Nat.succ_mul,Nat.add_comm]
theorem iJ {α β:Type}{F:α->β->Prop}{l:List α}{m:List β}(p:Paired F l m):∀ k:Nat,Paired F (List.replicate k l).flatten (List.replicate k m).flatten
 | 0=>.nil
 | k+1=>by rw[xQ,xQ,x8,x8];exact bq p (iJ p k)
theorem hV {α β:Type}(f:α->β)(l:List α):∀ k:Nat,(List.replicate k (l.map f)).flatten=((List.replicate k l).flatten).map f
 | 0=>rfl
 | k+1=>by rw[xQ,xQ,x8,x8,xC,hV f l k]
theorem mL:∀ {xs:List (ak×Nat)},(∀ x∈xs,x.2=1)->jT xs=20*xs.length
 | [],_=>rfl
 | x::xs,h=>by
  rw[jT,mL fun y hy=>h y (xq _ hy),xF];unfold rQ;rw[xA (h x xp)];omega
theorem js:∀ {xs:List (ak×Nat)},(∀ x∈xs,eB x)->(∀ x∈xs,x.2=1)->(ak.namesL (xs.map (·.1))).length<=xs.length
 | [],_,_=>by rw[List.map_nil,ak.namesL];exact xm _
 | x::xs,ok,h=>by
  have ih:=js (fun y hy=>ok y (xq _ hy)) fun y hy=>h y (xq _ hy);rw[xM,ak.namesL,xv,xF];rcases (ok x xp).2.2 (h x xp) with ⟨g,z⟩ | ⟨w,z⟩
  ·rw[z,ak.names];simp only[List.length_nil];omega
  ·rw[z,ak.names];simp only[xR];omega
theorem ug {xs:List (ak×Nat)}{k d:Nat}(ok:∀ x∈xs,eB x)(hd:2<=d)(hk:k=1\/(k<=20/\∀ x∈xs,x.2=1)):rQ (.row (List.replicate k (xs.map (·.1))).flatten,d)<=jT xs:=by
 unfold rQ;rw[xx (show ¬ d=1 by omega)]
 show (ak.row _).names.length<=_
 rw[ak.names,iG];rcases hk with rfl | ⟨hk,h1⟩
 ·rw[Nat.one_mul];exact im xs ok
 ·rw[mL h1]
  exact Nat.mul_le_mul hk (js ok h1)
theorem jo {α:Type}(l:List α)(k:Nat):(List.replicate k l).flatten.length=k*l.length:=by
 rw[List.length_flatten,List.map_replicate,List.sum_replicate_nat]
abbrev lO:=Addr×Addr×(ak×Nat)
def sE (H:Hp)(u:lO):Prop:=H u.1=some (.tup [.ref u.2.1,.int u.2.2.2])/\aI u.2.2.2 H u.2.1 u.2.2.1
theorem sE.mono {H H':Hp}{u:lO}(h:sE H u)(s:∀ b ys,H b=some (.tup ys)->H' b=some (.tup ys)):sE H' u:=⟨s _ _ h.1,h.2.mono s⟩
theorem ri {H:Hp}{ts:List Addr}{xs:List (ak×Nat)}(h:Paired (kB H) ts xs):∃ us:List lO,ts=us.map (·.1)/\xs=us.map (·.2.2)/\∀ u∈us,sE H u:=by
 induction h with
 | nil=>exact⟨[],rfl,rfl,fun u hu=>nomatch hu⟩
 | cons a _ ih =>
  obtain⟨us,rfl,rfl,h⟩:=ih;obtain⟨p,e1,e2⟩:=a;exact⟨(_,p,_)::us,rfl,rfl,fun u hu=>(xB.mp hu).elim (fun e=>by rw[e];exact⟨e1,e2⟩) (h u)⟩
theorem iZ {H:Hp}:∀ {us:List lO},(∀ u∈us,sE H u)->Paired (kB H) (us.map (·.1)) (us.map (·.2.2))
 | [],_=>.nil
 | u::us,h=>.cons ⟨_,(h u xp).1,(h u xp).2⟩ (iZ fun v hv=>h v (xq _ hv))
theorem nI {H:Hp}{M:Nat}:∀ {us:List lO},(∀ u∈us,sE H u)->(∀ u∈us,u.2.2.2<=M)->Paired (aI M H) (us.map (·.2.1)) (us.map (·.2.2.1))
 | [],_,_=>.nil
 | u::us,h,k=>.cons ((h u xp).2.le (k u xp)) (nI (fun v hv=>h v (xq _ hv)) fun v hv=>k v (xq _ hv))
theorem oj {K:PySem.W.Frag}{te:TE}{Qf:Hp->Prop}{lr q:Addr}{α:Type}(g:α->V){rs:List α}{rest:L2.St}{H:Hp}(hq:H q=none)(h1:H lr=some (.lst (rs.map g)))(hlen:rs.length<=1000)
  (ht:∀ (r:α)(HK:Hp)(Q':VK),r∈rs->aB H HK->(∀ H5 b,aB HK H5->Q' (.bl b) H5)->te (some (g r)::rest) HK Q') (k:∀ (HK:Hp)(bs:List Bool),aB H HK->HK q=some (.lst (bs.map V.bl))->Qf HK) :
  nC (sF K lr) (iE 0) (uq o3 te q) { nx:=fun _ H'=>Qf H',rt:=fun _ _=>False } (none::rest) (aY H q (.lst [])):=by
 refine cO (K:=K) (a:=lr) (xs:=rs.map g) (fun i σ HK=>∃ (v:Option V)(bs:List Bool),σ=v::rest/\aB H HK/\HK q=some (.lst (bs.map V.bl))/\bs.length=i) ⟨none,[],rfl,ae hq,aa,rfl⟩ (fun i σ HK _ ⟨_,_,_,s2,_⟩=>bd.of (s2 _ _ h1)) ?_ ?_
 ·rintro i y σ HK hi ⟨v,bs,rfl,t1,hq2,bl⟩
  obtain⟨r,hr0,rfl⟩:=cr hi;have hil:i<rs.length:=(List.getElem?_eq_some_iff.mp hr0).1;refine cA (ht r HK _ (xO hr0) t1 fun H5 b s5=>⟨_,s5 _ _ hq2,by rw[xk];exact bK (by omega),_,bs++[b],rfl,bX (t1.trans s5) hq,?_,by rw[xv,bl];rfl⟩);rw[aa,xC];rfl
 ·rintro σ HK ⟨v,bs,rfl,t1,hq2,_⟩
  exact k HK bs t1 hq2
theorem jt {w:Str}(h:dI w=true):1<=w.length/\w.length<=12:=by
 unfold dI at h;rw[yc,yc]at h;exact x0 h.1.2
theorem rq {d:Int}(h0:0<=d)(h:d<26):∃ c,bz c=true/\rW (Str.cps "abcdefghijklmnopqrstuvwxyz").toList d=some c:=by
 have e:(Str.cps "abcdefghijklmnopqrstuvwxyz").toList=(List.range 26).map (·+97):=by decide +kernel
 obtain⟨n,rfl⟩:=Int.eq_ofNat_of_zero_le h0;refine⟨n+97,by unfold bz;exact xo (by omega),?_⟩;rw[e];refine aC (j:=n) ?_;rw[List.getElem?_map,List.getElem?_range (by omega)];rfl
theorem oG {w:Str}{c:Nat}(a:w.cps.toList.all bz=true)(h:bz c=true):(w++⟨#[c]⟩:Str).cps.toList.all bz=true:=by
 have e:(w++⟨#[c]⟩:Str).cps.toList=w.cps.toList++[c]:=b7 w ⟨#[c]⟩;rw[e,List.all_append,a];simp[h]
theorem uQ {w:Str}(a:w.cps.toList.all bz=true)(l:w.length<=12)(h:w∉(("" : Str)::kindsL)):dI w=true:=by
 have h0:w≠"":=fun e=>h (by rw[e];exact xp);have h1:w∉kindsL:=fun e=>h (xq _ e);unfold dI;rw[xn h1,a,xo (show 1<=w.length/\w.length<=12 from ⟨?_,l⟩)]
 ·rfl
 ·by_cases z:w.length=0
  ·refine absurd ?_ h0
   have e:w.cps = #[]:=Array.eq_empty_of_size_eq_zero z
   cases w with
   | mk cps=>exact yn Str.mk e
  ·omega
inductive nZ (vs:List V) (H:Hp) (Q:VK) (E_:XK):Prop
 | mk (c:Int) (h_0:vs=[.int c]) (h_1:∀ (w:Str)(H':Hp),dI w=true->aB H H'->Q (.str w) H'):nZ vs H Q E_
end Wz
namespace L2
open PySem PySem.Spec PyProof.Rows
def kI (x:Str)(lo hi:Option Int):Str:=⟨((x.cps.toList.drop (HT.sIx x.length 0 lo)).take (HT.sIx x.length x.length hi-HT.sIx x.length 0 lo)).toArray⟩
theorem lH (lo hi:Option Int)(n:Nat):Builtin.Str.strSliceIndices lo hi 1 n=(List.range (HT.sIx n n hi-HT.sIx n 0 lo)).map (HT.sIx n 0 lo+·):=by
 have c:∀ i:Int,max 0 (min (if i<0 then i+(n:Int) else i) (n:Int))=(((if i<0 then (i+(n:Int)).toNat else min i.toNat n):Nat):Int):=fun i=>by
  by_cases h:i<0
  ·rw[xA h,xA h];omega
  ·rw[xx h,xx h];omega
 have e:Builtin.Str.strSliceIndices lo hi 1 n=sliceRange ((HT.sIx n 0 lo:Nat):Int) ((HT.sIx n n hi:Nat):Int) 1:=by
  unfold Builtin.Str.strSliceIndices
  cases lo with
  | none =>
   cases hi with
   | none=>simp[HT.sIx]
   | some i=>simp only[HT.sIx,show (1:Int)>0 by decide,yU,c];rfl
  | some j =>
   cases hi with
   | none=>simp only[HT.sIx,show (1:Int)>0 by decide,yU,c]
   | some i=>simp only[HT.sIx,show (1:Int)>0 by decide,yU,c]
 rw[e,sliceRange_one]
theorem tQ (n:Nat)(hi:Option Int):HT.sIx n n hi<=n:=HT.sIx_le n n (xm _) hi
inductive tO (x:V) (lo:Option Int) (hi:Option Int) (H:Hp) (Q:VK):Prop
 | mk (z:Str) (h_0:x=.str z) (h_1:z.length<=sizeLine) (h_2:Q (.str (kI z lo hi)) H):tO x lo hi H Q
theorem pk (z:Str)(lo hi:Option Int):(kI z lo hi).length<=z.length:=by
 show (((z.cps.toList.drop _).take _).toArray).size<=z.cps.size
 rw[xy,xS,xI,xW];omega
theorem lG {X:Cx}:vC X tO:=by
 intro pins s σ H x v vl vu lo hi sl Q I rx hs pl pu h;obtain⟨z,rfl,hz,q⟩:=h;obtain⟨t,rfl⟩:=rx;refine⟨"str",_,F.slot_str_getitem.lookup,typeIs_str _ _ _,?_⟩
 obtain⟨l,el,el2⟩:∃ l:Option (Int×Tok),vl=partValue l/\l.map (·.1)=lo:=by
  cases pl with
  | none=>exact⟨none,rfl,rfl⟩
  | int i t=>exact⟨some (i,t),rfl,rfl⟩
 obtain⟨u,eu,eu2⟩:∃ u:Option (Int×Tok),vu=partValue u/\u.map (·.1)=hi:=by
  cases pu with
  | none=>exact⟨none,rfl,rfl⟩
  | int i t=>exact⟨some (i,t),rfl,rfl⟩
 subst el eu el2 eu2;refine wpAny_getItem_str_slice (l:=l) (u:=u) (st:=none) hs rfl ?_;have e1:slicePicked z l u none=(List.range (HT.sIx z.length z.length (u.map (·.1))-HT.sIx z.length 0 (l.map (·.1)))).map (HT.sIx z.length 0 (l.map (·.1))+·):=lH _ _ _
 have e2:(slicePicked z l u none).filterMap (z.cps[·]?)=(z.cps.toList.drop (HT.sIx z.length 0 (l.map (·.1)))).take (HT.sIx z.length z.length (u.map (·.1))-HT.sIx z.length 0 (l.map (·.1))):=by rw[e1,pick_run]
 have e3:(⟨((slicePicked z l u none).filterMap (z.cps[·]?)).toArray⟩:Str)=kI z (l.map (·.1)) (u.map (·.1)):=by rw[e2];rfl
 unfold sliceMade;rw[e3];split
 ·rename_i c
  have c2:=(yc _ _).mp c
  have c3:(slicePicked z l u none).length=z.length:=by simpa using c2.2
  rw[e1,xk,List.length_range]at c3;have hh:=tQ z.length (u.map (·.1))
  have ez:kI z (l.map (·.1)) (u.map (·.1))=z:=by
   unfold kI;rw[show HT.sIx z.length 0 (l.map (·.1))=0 by by_cases q:z.length=0<;>(first | omega | (have:=HT.sIx_le z.length 0 (xX _) (l.map (·.1));omega)),yC,show HT.sIx z.length z.length (u.map (·.1))-0=z.length by omega];rw[yE (by rw[xW];exact xm _)]
  rw[ez]at q;exact⟨.str z,H,I,⟨t,rfl⟩,q⟩
 ·exact⟨by have:=pk z (l.map (·.1)) (u.map (·.1));omega,.str _,H,I.tok _,⟨_,rfl⟩,q⟩
theorem lc {X:Cx}:fJ X (binaryOp .Mult) (fun x y H Q=>∃ (z:Str)(n:Nat),x=.str z/\y=.int n/\z.length<=1000/\n<=1000/\Q (.str (Txt.mul z n)) H):=by
 intro pins s σ H x y v u Q I rx ry h;obtain⟨z,n,rfl,rfl,h1,h2,q⟩:=h;obtain⟨t,rfl⟩:=rx;obtain⟨t',rfl⟩:=ry;have hm:z.length*n<=1000*1000:=Nat.mul_le_mul h1 h2;refine SB.mul ⟨by rw[xn (by omega),xn (by omega)];rfl,fun h _=>?_,fun _ _=>?_⟩ fun t k=>⟨.str _,H,I.tok _,⟨_,rfl⟩,q⟩
 ·have hn:(0:Int)<(n:Int):=by omega
  have:(1000:Int)<=(2 ^ 63-1)/(n:Int):=(Int.le_ediv_iff_mul_le hn).mpr (by omega);omega
 ·unfold Builtin.Str.tooLong
  rw[yR,decide_eq_false_iff_not];have sl:sizeLine=16777216:=xY;omega
def sT (p:Params)(q:(Str×Addr)×Tok):DictEntry:=⟨PyData.keyHash p q.1.1,.str q.1.1 q.2,.ref q.1.2⟩
def hObj (p:Params)(xs:List (Str×Addr))(ts:List Tok)(n:Nat):Obj:={ cls:=.type "dict",data:=.dict ((xs.zip ts).map (sT p)).toArray n }
structure GR (K:PySem.W.Frag)(p:Params)(a:Addr)(xs:List (Str×Addr)):Prop where
 nd:(xs.map (·.1)).Nodup
 ns:(a == sysModules)=false
 at':∃ ts n,ts.length=xs.length/\K.lookup a=some (hObj p xs ts n)
def uk (q:(Str×Addr)×Tok):kC×Value:=(.inr q.1.1,.ref q.1.2)
theorem lV (P:Program)(w:World):∀ l:List ((Str×Addr)×Tok),Pairs (e7 P w) (l.map (sT w.params)) (l.map uk)
 | []=>.nil
 | q::l=>.cons (dn P w q.1.1 q.2) rfl (lV P w l)
theorem nL:∀ (xs:List (Str×Addr))(ts:List Tok),ts.length=xs.length->((xs.zip ts).map uk).map (·.1)=(xs.map (·.1)).map Sum.inr
 | [],_,_=>rfl
 | x::xs,[],h=>by cases h
 | x::xs,t::ts,h=>by
  rw[List.zip_cons_cons,xM,xM,nL xs ts (by simpa using h)];rfl
theorem mW:∀ (xs:List (Str×Addr))(ts:List Tok)(z:Str),ts.length=xs.length->valueAt ((xs.zip ts).map uk) (Sum.inr z)=(xs.lookup z).map Value.ref
 | [],_,_,_=>rfl
 | x::xs,[],_,h=>by cases h
 | x::xs,t::ts,z,h=>by
  have ih:=mW xs ts z (by simpa using h);unfold valueAt at *;rw[List.zip_cons_cons,xM,xJ,List.find?_cons]
  by_cases e:z=x.1
  ·have e1:(z == x.1)=true:=by rw[e];simp
   have e2:decide ((uk (x,t)).1=Sum.inr z)=true:=xo (by rw[e];rfl);rw[e1,e2];rfl
  ·have e1:(z == x.1)=false:=by simpa using e
   have e2:decide ((uk (x,t)).1=Sum.inr z)=false:=xn (fun q=>e (Sum.inr.inj q).symm);rw[e1,e2];exact ih
theorem nK {K:PySem.W.Frag}{P:Program}{w:World}{a:Addr}{xs:List (Str×Addr)}{h:Heap}(g:GR K w.params a xs)(k:K.In h):∃ ts:List Tok,ts.length=xs.length/\h.DictOf (e7 P w) a ((xs.zip ts).map uk):=by
 obtain⟨ts,n,hl,e⟩:=g.at';refine⟨ts,hl,_,_,_,k _ _ e,⟨rfl,rfl,rfl⟩,rfl,fun en hen=>?_,?_,?_⟩
 ·have hen:en∈(xs.zip ts).map (sT w.params):=by simpa using hen
  obtain⟨q,_,rfl⟩:=xP.mp hen;exact⟨.inr q.1.1,dn P w q.1.1 q.2,rfl⟩
 ·have:=lV P w (xs.zip ts)
  simpa using this
 ·rw[nL xs ts hl]
  exact List.Pairwise.map _ (fun x y ne e=>ne (Sum.inr.inj e)) g.nd
def rM (xs:List (Str×Addr))(ty:TE):TE:=fun σ H Q=>ty σ H fun y H1=>∃ z,y=.str z/\Q (.bl (!(xs.lookup z).isSome)) H1
def wv (xs:List (Str×Addr))(ty:TE):TE:=fun σ H Q=>ty σ H fun y H1=>∃ z b,y=.str z/\xs.lookup z=some b/\Q (.ref b) H1
theorem oQ {X:Cx}{a:Addr}{xs:List (Str×Addr)}{i o:Expr}{ty:TE}(g:GR X.K X.w.params a xs)(hi:PE X i ty)(ho:PE X o (tC (.ref a))):PC X .NotIn i o (rM xs ty):=by
 intro pins s σ H Q I h;refine bv (hi pins s σ H _ I h) fun iv s1 ⟨y,H1,I1,ry,z,e1,q1⟩=>bv (ho pins s1 σ H1 (fun v H'=>v=.ref a/\H'=H1) I1 ⟨rfl,rfl⟩) fun u s2 ⟨x,H2,I2,rx,ex,eh⟩=>?_;subst ex eh e1;obtain rfl:u=Value.ref a:=rx;obtain⟨t,rfl⟩:=ry;obtain⟨ts,hl,dd⟩:=nK (P:=X.prog) g (show X.K.In s2.heap from fun a o e=>I2.bk a o (I2.mod.kin a o e));refine wpAny_notIn_of (dn X.prog X.w z t) g.ns dd.mapOf ?_;rw[mW xs ts z hl,Option.isSome_map];exact⟨.bl _,H2,I2.tok _,rfl,q1⟩
theorem tG {X:Cx}{a:Addr}{xs:List (Str×Addr)}{i o:Expr}{ty:TE}{pos:Pos}(g:GR X.K X.w.params a xs)(ho:PE X o (tC (.ref a)))(hi:PE X i ty)(hs:uA i):PE X (.Subscript o i pos) (wv xs ty):=by
 intro pins s σ H Q I h;refine rL PySem.F.slot_dict_getitem.lookup hs (bv (ho pins s σ H (fun v H'=>v=.ref a/\H'=H) I ⟨rfl,rfl⟩) fun u s1 ⟨x,H1,I1,rx,ex,eh⟩=>?_);subst ex eh;obtain rfl:u=Value.ref a:=rx;refine bv (hi pins s1 σ H1 _ I1 h) fun iv s2 ⟨y,H2,I2,ry,z,b,e1,e2,q2⟩=>?_;subst e1;obtain⟨t,rfl⟩:=ry;obtain⟨ts,hl,dd⟩:=nK (P:=X.prog) g (show X.K.In s2.heap from fun a o e=>I2.bk a o (I2.mod.kin a o e));exact⟨dd.typeIs,wpAny_getItem_of (dn X.prog X.w z t) dd.mapOf (by rw[mW xs ts z hl,e2];rfl) ⟨.ref b,H2,I2.tok _,rfl,q2⟩⟩
theorem pZ {P:Program}{w:World}{K:PySem.W.Frag}{mg:Str->Option Value}{base:Heap}{N:List Str}{qual:Str}{sc:Scope}{f c':Addr}{y:Str}{cy:Addr}{A:Around}{outer:List Env}{s0:Shared}{H0:Hp}{E:XK}:eI (gJ P w) (kc (gJ P w) P w K mg base N qual sc f c' y cy A outer s0 H0 E) E:=by
 intro pins σ H s e s' I hc;obtain⟨ea,C,od,H',B,rfl,fl,un,hok,os,bare,hsB,trB,hE⟩:=hc
 let X:Cx:=kc (gJ P w) P w K mg base N qual sc f c' y cy A outer s0 H0 E
 show wpAny _ _ (leaving _ _) _ _ _
 have hstk:(X.A.frames:Option (List Env))=some (X.env::outer):=I.ok.frames
 have frS:dj X.stack=X.env.locals::dj outer:=by unfold dj;rfl
 refine jn hstk rfl fl fun h2 fl2 ups=>?_;have ltl:∀ b o,s0.heap.get? b=some o->b≠X.env.locals:=fun b o e=>xK (xD (xz e) I.ok.above);have noEx:∀ b,b∉X.ex:=fun b z=>absurd (show b∈([]:List Addr) from z) (by simp)
 have h0B:∀ b o,s0.heap.get? b=some o->b∉dj outer->∃ o',B.get? b=some o':=fun b o e hf=>by
  obtain⟨o',e'⟩:=I.base.there b o e (noEx b);refine hsB b o' e' ?_;rw[frS];intro z;rcases xB.mp z with z | z
  ·exact ltl b o e z
  ·exact hf z
 have unS:Un (dj outer) [] H0 H' s0.heap s'.heap:=by
  have u1:Un (dj outer) [] H0 H s0.heap s.heap:=I.base;refine⟨fun b o e n hf hx=>?_,fun b o e n hf hx=>?_,fun b o e n hx=>?_,fun b o e hx=>?_,fun b xs q=>un.tups b xs (u1.tups b xs q),fun b o u q=>un.frzs b o u (u1.frzs b o u q),fun b ps q=>?_⟩
  ·refine un.keep b o (u1.keep b o e n hf hx) (u1.free b o e n hx) ?_ hx
   rw[frS];intro z;rcases xB.mp z with z | z
   ·exact ltl b o e z
   ·exact hf z
  ·obtain⟨sl,e1⟩:=u1.slot b o e n hf hx
   obtain⟨sl2,e2⟩:=un.slot b _ e1 (u1.free b o e n hx) (by rw[frS];exact xq _ hf) hx;exact⟨sl2,e2⟩
  ·obtain⟨o',e'⟩:=u1.there b o e hx
   exact un.free b o' e' (u1.free b o e n hx) hx
  ·obtain⟨o',e'⟩:=u1.there b o e hx
   exact un.there b o' e' hx
  ·obtain⟨m1,e1⟩:=u1.tbls b ps q
   obtain⟨m2,e2⟩:=un.tbls b _ e1;exact⟨m1++m2,by rw[e2,Array.append_assoc]⟩
 have slot2:∀ b o,b∈dj outer->s0.heap.get? b=some o->H0 b=none->∃ sl,h2.get? b=some { o with slots:=sl }:=fun b o hf e n=>by
  obtain⟨sl,e1⟩:=unS.slot b o e n hf (by simp);obtain⟨_,o2,ho2,hnf⟩:=I.ok.funs.mem hf
  have e2:o2=o:=by
   have:s0.heap.get? b=some o2:=ho2;rw[e]at this;exact (xE this).symm
  subst e2;obtain⟨sl2,e3⟩:=ups b _ e1 hnf;exact⟨sl2,e3⟩
 refine⟨ea,C,od,H',B,rfl,fl2,?_,kQ hok fl.1 fl2.1 trB,os.trans I.os,bare,h0B,trB,hE⟩;refine n6 (h1:=s'.heap) unS fl.1 fl2.1 h0B (fun b o hf e n=>slot2 b o hf e n) fun b o hf e=>?_;obtain⟨sl,q⟩:=slot2 b o hf e (I.ok.frf b hf);exact⟨_,q⟩
section
variable {X:Cx}{CX:j4}{k:Nat}{E:XK}{x y:Str}{p pos:Pos}{e e1 e2:Expr}{es:List Expr}{te t1 t2:TE}{t:TA}
theorem mr {iy:Nat}{fw c0 P cy:Addr}{fdw:FuncData}{psw:List Str}{sp:Addr->Addr->V->Sp}{params:Arguments}{body:Expr}{scope:Scope}{lpos:Pos}{qual:Str}
  (W:∀ (b':Heap)(f c' cy:Addr)(vy:V)(pm ct:Value),Mod X.K X.mg b'->gH X.mg b'->j5 b' qual params body scope y vy f c' cy pm ct->a7 X.prog X.w X.K X.mg b' CX k fw fdw psw (sp f c' vy))
  (hr:b8 k X.A) (hg:Gl X x) (hm:X.mg x=some (.ref fw)) (hk:PySem.W.keepIn X.K (.ref fw)=true) (hb:fi X.K fdw psw []) (hx:eI CX X E)
  (h1:PE X e1 t1) (h2:PE X e2 t2) (hc:X.env.code=.ref c0) (C:fU X.K c0 P) (B:gH X.mg X.base) (hq:X.env.qual++"<lambda>" = qual) (hdf:defaultsOf params X.env=([],[])) (hcl:closureFor scope X.env=pure [(y,cy)]) (hcy:X.env.cells.lookup y=some cy)
  (hfn:X.fn y=true) (hN:X.N[iy]? = some y) (hkd:X.env.scope.names.lookup y=some .cell)
  (hdb:(x == ("__debug__" : Str))=false:=by decide) (he:starEach [e1,e2,.Lambda params body scope lpos] X.env=(false,eval e1 X.env)::starEach [e2,.Lambda params body scope lpos] X.env:=by rfl)
  (he2:starEach [e2,.Lambda params body scope lpos] X.env=(false,eval e2 X.env)::starEach [.Lambda params body scope lpos] X.env:=by rfl) (he3:starEach [.Lambda params body scope lpos] X.env=[(false,eval (.Lambda params body scope lpos) X.env)]:=by rfl)
  (hpl:(backTo pos (starEach [e2,.Lambda params body scope lpos] X.env)).any (·.1)=false:=by rfl) :
  PE X (.Call (.Name x p) [e1,e2,.Lambda params body scope lpos] [] pos) (fun σ H Q=>t1 σ H fun x1 H1=>t2 σ H1 fun x2 H2=>TabI H2 P lpos qual/\∃ vy,σ[iy]? = some (some vy) /\
   ∀ (f c':Addr)(H3:Hp),eG H3 c' qual->TabI H3 P lpos qual->(∀ b o,H2 b=some o->b≠P->H3 b=some o)->sp f c' vy [x1,x2,.ref f] H3 Q E):=by
 intro pins s σ H Q I h;refine yy (eZ I hg hm ?_ hdb);refine PySem.W.callWith_K (h₀:=X.base) I.ok.mod.kin hk (Q:=EP X pins σ Q) ?_ he hpl;rw[he,he2,he3]
 show wpAny _ _ (spliced [(false,eval e1 X.env),(false,eval e2 X.env),(false,eval (.Lambda params body scope lpos) X.env)]) _ _ s
 refine yP (bv (h1 pins s σ H _ I h) fun u1 s1 ⟨x1,H1,I1,r1,q1⟩=>?_);refine yP (bv (h2 pins s1 σ H1 _ I1 q1) fun u2 s2 ⟨x2,H2,I2,r2,hT,vy,hσ,q2⟩=>?_);refine yP (pM I2 hc C B hq hT hdf hcl hcy fun f c' pm ct H3 s3 I3 hfo hsz hfH hcf hT3 hk3 hkk=>?_);refine Calls.spliced_nil ⟨I3.kIn,?_⟩;have q3:=q2 f c' H3 hcf hT3 hk3;obtain⟨m,hn,hl⟩:=I3.loc;obtain⟨uy,ry,ly⟩:=hl iy y vy hN hσ (.inr (.inl hkd))
 have cl:s3.heap.IsCell cy (some uy):=by
  rcases ly with ⟨z,_⟩ | ⟨_,c,e,ce⟩
  ·have z:X.env.scope.names.lookup y=some .local:=z
   rw[hkd]at z;cases z
  ·rw[hcy]at e;cases e;exact ce
 obtain⟨oc,hoc,hdc⟩:=cl;have e0:=pL (y:=y) (cy:=cy) I3 hfH ⟨_,hfo⟩ (xD I2.lt hsz) hcy hfn;have F:=W _ f c' cy vy pm ct e0.mod (let ⟨bm,ob,b1,b2,b3,b4⟩:=B;⟨bm,ob,b1,b2,dR (I3.bk _ _ b3) (.inl ⟨_,b3⟩),b4⟩) ⟨dR hfo (.inr (.inl rfl)),uy,ry,oc,dR hoc (.inr (.inr rfl)),hdc⟩;have r3:aH ([x1,x2,.ref f]++[]) ([u1,u2,.ref f]++[]):=aH.append (show aH [x1,x2,.ref f] [u1,u2,.ref f] from .cons r1 (.cons r2 (.cons rfl .nil))) .nil
 have hl3:([u1,u2,.ref f]++[]:List Value).length=psw.length:=by rw[<-r3.length];exact F.len _ _ _ _ q3
 refine wpAny_call (yL (F.run X.A X.stack s3 H3 ⟨[u1,u2,.ref f],[]⟩ ([u1,u2,.ref f]++[]) ([x1,x2,.ref f]++[]) Q E hr e0 (hb s3 [u1,u2,.ref f] I3.kIn hl3) r3 q3) fun r s' hq=>?_)
 cases r with
 | error e=>exact hx pins σ H3 s3 e s' I3 hq
 | ok fl =>
  cases fl with
  | ret u=>exact I3.after hq
  | next=>exact False.elim hq
  | brk=>exact False.elim hq
  | cont=>exact False.elim hq
end
end L2
namespace Wz
open PySem L2
def et (c:Nat):Bool:=decide (c=32\/c=40\/c=41)
def bP (l:List Nat):List Nat:=l.takeWhile fun c=>!et c
def toS (l:List Nat):Str:=⟨l.toArray⟩
theorem cH (l:List Nat):aD (toS l)=l:=by unfold aD toS;simp
theorem bO (l:List Nat):(toS l).length=l.length:=by rw[bn,cH]
theorem dU (z:Str):toS (aD z)=z:=by cases z with | mk a=>unfold toS aD;simp
theorem uf (l:List Nat):(bP l).length<=l.length:=by unfold bP;exact (List.takeWhile_sublist _).length_le
open Classical in
noncomputable def rdNum (z:Str):Option Int:=if h:∃ ds,Num z ds then some (numV h.choose) else none
theorem rB {z:Str}{ds es:List Nat}(a:Num z ds)(b:Num z es):ds=es:=by
 have e:=a.eq.symm.trans b.eq
 have inj:∀ {x y:List Nat},x.map (·+48)=y.map (·+48)->x=y:=fun {x}=>by
  induction x with
  | nil=>intro y h;cases y with | nil=>rfl | cons _ _=>cases h
  | cons a x ih =>
   intro y h
   cases y with
   | nil=>cases h
   | cons b y =>
    rw[xM,xM]at h;injection h with h1 h2;rw[ih h2,show a=b by omega]
 exact inj e
theorem qg {z:Str}{ds:List Nat}(h:Num z ds):rdNum z=some (numV ds:Int):=by
 unfold rdNum;rw[dif_pos ⟨ds,h⟩];have:=rB (Exists.choose_spec (⟨ds,h⟩:∃ ds,Num z ds)) h;rw[this]
theorem u9 {z:Str}(h:∀ ds,¬ Num z ds):rdNum z=none:=by
 unfold rdNum;rw[dif_neg (fun ⟨ds,q⟩=>h ds q)]
noncomputable def numAt (l:List Nat):Option (Int×List Nat):=(rdNum (toS (bP l))).map fun n=>(n,l.drop (bP l).length)
def be {α:Type}(rd:List Nat->Option (α×List Nat)):Nat->List Nat->Option (List α×List Nat)
 | 0,_=>none
 | n+1,l=>if l.head? = some 32 then (rd (l.drop 1)).bind fun p=>(be rd n p.2).map fun q=>(p.1::q.1,q.2) else if l.head? = some 41 then some ([],l.drop 1) else none
def cV (w:Str)(fs:List ak):Option ak:=if w="row" then (if 1<=fs.length/\fs.length<=60 then some (.row fs) else none) else match fs with
 | [f]=>some (.back f)
 | _=>none
def bB (w:Str)(gs:List Int):Option ak :=
 if w="pair" then (match gs with
  | [a,b]=>some (.pl (.pair a b))
  | _=>none)
 else if w="quad" then (match gs with
  | [a,b,c,d]=>if [a,b,c,d].Nodup then some (.pl (.quad a b c d)) else none
  | _=>none)
 else if 2<=gs.length/\gs.length<=60 then (if w="line" then some (.pl (.line gs)) else if w="star" then some (.pl (.star gs)) else if w="all" then some (.pl (.all gs)) else none) else none
noncomputable def figM:Nat->List Nat->Option (ak×List Nat)
 | 0,_=>none
 | d+1,l =>
  if l.head? = some 40 then
   (if toS (bP (l.drop 1))="row"\/toS (bP (l.drop 1))="back" then (be (figM d) (((l.drop 1).drop (bP (l.drop 1)).length).length+1) ((l.drop 1).drop (bP (l.drop 1)).length)).bind fun q=>(cV (toS (bP (l.drop 1))) q.1).map fun f=>(f,q.2)
   else (be numAt (((l.drop 1).drop (bP (l.drop 1)).length).length+1) ((l.drop 1).drop (bP (l.drop 1)).length)).bind fun q=>(bB (toS (bP (l.drop 1))) q.1).map fun f=>(f,q.2))
  else if dI (toS (bP l))=true then some (.name (toS (bP l)),l.drop (bP l).length) else none
noncomputable def brM (d:Nat) (l:List Nat):Option (ak×List Nat) :=
 if toS (bP l)="row"\/toS (bP l)="back" then (be (figM d) ((l.drop (bP l).length).length+1) (l.drop (bP l).length)).bind fun q=>(cV (toS (bP l)) q.1).map fun f=>(f,q.2)
 else (be numAt ((l.drop (bP l).length).length+1) (l.drop (bP l).length)).bind fun q=>(bB (toS (bP l)) q.1).map fun f=>(f,q.2)
theorem ga (d:Nat)(l:List Nat)(h:l.head? = some 40):figM (d+1) l=brM d (l.drop 1):=by rw[figM,xA h];rfl
theorem kL (d:Nat)(l:List Nat)(h:l.head?≠some 40):figM (d+1) l=if dI (toS (bP l))=true then some (.name (toS (bP l)),l.drop (bP l).length) else none:=by rw[figM,xx h]
def sJ {α:Type}(rd:List Nat->Option (α×List Nat)):Prop:=∀ l a r,rd l=some (a,r)->∃ k,r=l.drop k
theorem nU {α:Type}{rd:List Nat->Option (α×List Nat)}(h:sJ rd){l:List Nat}{a:α}{r:List Nat}(e:rd l=some (a,r)):r.length<=l.length:=by
 obtain⟨k,rfl⟩:=h l a r e;rw[xI];omega
theorem lF:sJ numAt:=fun l a r h=>by
 unfold numAt at h;obtain⟨n,_,e⟩:=yF.mp h;injection e with _ e;exact⟨_,e.symm⟩
theorem ij {α:Type}{rd:List Nat->Option (α×List Nat)}(h:sJ rd):∀ n,sJ (be rd n)
 | 0=>fun l a r e=>by cases e
 | n+1=>fun l a r e=>by
  rw[be]at e;split at e
  ·obtain⟨p,e1,e2⟩:=Option.bind_eq_some_iff.mp e
   obtain⟨q,e3,e4⟩:=yF.mp e2;injection e4 with _ e4;obtain⟨k,hk⟩:=h _ p.1 p.2 e1;obtain⟨k2,hk2⟩:=ij h n _ q.1 q.2 e3;exact⟨1+(k+k2),by rw[<-e4,hk2,hk,x3,x3]⟩
  ·split at e
   ·injection e with e
    injection e with _ e;exact⟨1,e.symm⟩
   ·cases e
theorem i5:∀ d,sJ (figM d)
 | 0=>fun l a r e=>by rw[figM]at e;cases e
 | d+1=>fun l a r e=>by
  by_cases h:l.head? = some 40
  ·rw[ga d l h]at e
   unfold brM at e;split at e
   ·obtain⟨p,e1,e2⟩:=Option.bind_eq_some_iff.mp e
    obtain⟨q,e3,e4⟩:=yF.mp e2;injection e4 with _ e4;obtain⟨k,hk⟩:=ij (i5 d) _ _ p.1 p.2 e1;exact⟨1+((bP (l.drop 1)).length+k),by rw[<-e4,hk,x3,x3]⟩
   ·obtain⟨p,e1,e2⟩:=Option.bind_eq_some_iff.mp e
    obtain⟨q,e3,e4⟩:=yF.mp e2;injection e4 with _ e4;obtain⟨k,hk⟩:=ij lF _ _ p.1 p.2 e1;exact⟨1+((bP (l.drop 1)).length+k),by rw[<-e4,hk,x3,x3]⟩
  ·rw[kL d l h]at e
   split at e
   ·injection e with e
    injection e with _ e;exact⟨_,e.symm⟩
   ·cases e
theorem tR (c:Nat):(!(Builtin.Str.occurrences (Str.ofString " ()") ⟨#[c]⟩ 0 (Str.ofString " ()").length 1).isEmpty)=et c:=by
 rw[StrLaws.found_one]
 have e:(Str.ofString " ()").cps.toList=[32,40,41]:=by decide +kernel
 rw[e];unfold et;rw[yM];simp only[xB,List.not_mem_nil,or_false]
theorem qV (z:Str){a b:Nat}(h:b<=z.length):kI z (some (a:Int)) (some (b:Int))=toS (((aD z).drop a).take (b-a)):=by
 unfold kI toS aD;rw[HT.sIx_nat,HT.sIx_nat,yx h]
 by_cases q:a<=z.length
 ·rw[yx q]
 ·have hz:z.cps.toList.length=z.length:=by rw[xW];rfl
  rw[show b-min a z.length=0 by omega,show b-a=0 by omega,yV,yV]
theorem kJ (z:Str)(a:Nat):kI z (some (a:Int)) (some ((a:Int)+1))=toS (((aD z).drop a).take 1):=by
 unfold kI toS aD
 have hz:z.cps.toList.length=z.length:=by rw[xW];rfl
 rw[show ((a:Int)+1)=((a+1:Nat):Int) by omega,HT.sIx_nat,HT.sIx_nat]
 by_cases q:a+1<=z.length
 ·rw[yx q,yx (by omega),show a+1-a=1 by omega]
 ·rw[Nat.min_eq_right (show z.length<=a+1 by omega)]
  by_cases q2:a<=z.length
  ·rw[yx q2,show z.length-a=0 by omega,yV,List.drop_eq_nil_of_le (by omega)];rfl
  ·rw[Nat.min_eq_right (by omega),Nat.sub_self,yV,List.drop_eq_nil_of_le (by omega)];rfl
theorem kM (l:List Nat)(c:Nat):decide (V.str (toS (l.take 1))=V.str ⟨#[c]⟩)=decide (l.head? = some c):=by
 rw[yM]
 cases l with
 | nil=>exact⟨(fun h=>by have h:=V.str.inj h;unfold toS at h;injection h with h;cases h),(fun h=>by cases h)⟩
 | cons x l =>
  constructor
  ·intro h
   have h:=V.str.inj h;unfold toS at h;injection h with h;have h:=yn Array.toList h;simp at h;rw[h];rfl
  ·intro h
   have h:x=c:=xE h;rw[h];rfl
end Wz
set_option maxRecDepth 1000000
namespace Wz
open PySem L2
def GK (H H':Hp):Prop:=∀ b o,H b=some o->(∀ ps,o≠.tbl ps)->H' b=some o
theorem ca {H H':Hp}(s:aB H H'):GK H H':=fun b o e _=>s b o e
theorem GK.refl {H:Hp}:GK H H:=fun _ _ e _=>e
theorem GK.trans {H H1 H2:Hp}(a:GK H H1)(b:GK H1 H2):GK H H2:=fun x o e n=>b x o (a x o e n) n
theorem GK.tup {H H':Hp}(k:GK H H'){b:Addr}{xs:List V}(e:H b=some (.tup xs)):H' b=some (.tup xs):=k b _ e fun _ z=>nomatch z
theorem GK.lst {H H':Hp}(k:GK H H'){b:Addr}{xs:List V}(e:H b=some (.lst xs)):H' b=some (.lst xs):=k b _ e fun _ z=>nomatch z
theorem GK.fg {H H':Hp}(k:GK H H'){n:Nat}{p:Addr}{f:ak}(h:aI n H p f):aI n H' p f:=h.mono fun _ _ z=>k.tup z
theorem sR {H H':Hp}{l:Addr}{o:HO}(k:GK H H')(h:H l=none):GK H (aY H' l o):=fun b u e n=>by rw[aE (bH e h)];exact k b u e n
theorem pG {P:Addr}{H H':Hp}{pos:Pos}{qual:Str}(t:TabI H P pos qual)(k:∀ b o,H b=some o->b≠P->H' b=some o):GK H H':=fun b o e n=>by
 obtain⟨ps,q⟩:=t.tbl
 exact k b o e fun z=>by rw[z,q]at e;injection e with e;exact n ps e.symm
def KT (K:PySem.W.Frag)(q:Addr)(vs:List V):Prop:=∃ (o:Obj)(its:Array Value)(n:Nat),K.lookup q=some o/\o.cls=.type "tuple"/\o.data=.seq its n/\its.size<=sizeLine/\aH vs its.toList
theorem KT.sq {K:PySem.W.Frag}{q:Addr}{vs:List V}(h:KT K q vs)(H:Hp):aW K H q vs:=.inr h
structure o7 where
 (q1 q2 q3 q4 q5 q6 q7:Addr)
def szL (q:o7):List (Str×Addr):=[("pair",q.q1),("line",q.q2),("star",q.q3),("all",q.q4),("quad",q.q5),("row",q.q6),("back",q.q7)]
structure uv (K:PySem.W.Frag)(mg:Str->Option Value)(w:World)(cF kd cs:Addr)(q:o7):Prop where
 eF:kD K cF
 mF:mg "NoFigure" = some (.ref cF)
 ff:PySem.W.exmOne K (.ref cF) (.ref cF)=some true
 md:∃ u,mg "MOST_DIGITS" = some u/\aQ (.int 12) u
 dg:∃ u,mg "DIGITS" = some u/\aQ (.str "0123456789") u
 dp:∃ u,mg "DEEPEST" = some u/\aQ (.int 8) u
 ml:∃ u,mg "LONGEST_NAME" = some u/\aQ (.int 12) u
 mt:∃ u,mg "LETTERS" = some u/\aQ (.str "abcdefghijklmnopqrstuvwxyz") u
 mkd:mg "KINDS" = some (.ref kd)
 kd:KT K kd (kindsL.map V.str)
 ms:mg "SIZES" = some (.ref cs)
 sz:GR K w.params cs (szL q)
 t1:KT K q.q1 [.int 2,.int 2]
 t2:KT K q.q2 [.int 2,.int 60]
 t3:KT K q.q3 [.int 2,.int 60]
 t4:KT K q.q4 [.int 2,.int 60]
 t5:KT K q.q5 [.int 4,.int 4]
 t6:KT K q.q6 [.int 1,.int 60]
 t7:KT K q.q7 [.int 1,.int 1]
inductive fR (vs:List V) (H:Hp) (Q:VK) (E_:XK):Prop
 | mk (z:Str) (a:Nat) (h_0:vs=[.str z,.int a]) (h_1:z.length<=1000000) (h_2:a<=z.length) (h_3:∀ t,H t=none->Q (.ref t) (aY H t (.tup [.str (toS (bP ((aD z).drop a))),.int ((a+(bP ((aD z).drop a)).length:Nat):Int)]))):fR vs H Q E_
inductive qp (P0:Addr) (lp:Pos) (ql:Str) (cF:Addr) {α:Type} (J:Hp->Prop) (R:List Nat->Option (α×List Nat)) (At:Hp->V->α->Prop) (vs:List V) (H:Hp) (Q:VK) (E:XK):Prop
 | mk (z:Str) (a:Nat) (h_0:vs=[.str z,.int a]) (h_1:mP z) (h_2:z.length<=1000000) (h_3:a<=z.length) (h_4:J H) (h_5:TabI H P0 lp ql)
  (h_6:∀ x r,R ((aD z).drop a)=some (x,r)->∀ (t:Addr)(v:V)(H':Hp),GK H H'->TabI H' P0 lp ql->H' t=some (.tup [v,.int ((z.length-r.length:Nat):Int)])->At H' v x->Q (.ref t) H')
  (h_7:R ((aD z).drop a)=none->∀ H',GK H H'->TabI H' P0 lp ql->E (.ref cF) none H'):qp P0 lp ql cF J R At vs H Q E
inductive mE (P0:Addr) (lp:Pos) (ql:Str) (cF fl:Addr) {α:Type} (J:Hp->Prop) (R:List Nat->Option (α×List Nat)) (At:Hp->V->α->Prop) (vs:List V) (H:Hp) (Q:VK) (E:XK):Prop
 | mk (z:Str) (a:Nat) (h_0:vs=[.str z,.int a,.ref fl]) (h_1:mP z) (h_2:z.length<=1000000) (h_3:a<=z.length) (h_4:J H) (h_5:TabI H P0 lp ql)
  (h_6:∀ xs r,be R (((aD z).drop a).length+1) ((aD z).drop a)=some (xs,r)->∀ (t q:Addr)(vs':List V)(H':Hp),GK H H'->TabI H' P0 lp ql->H' t=some (.tup [.ref q,.int ((z.length-r.length:Nat):Int)])->H' q=some (.tup vs')->Paired (At H') vs' xs->Q (.ref t) H')
  (h_7:be R (((aD z).drop a).length+1) ((aD z).drop a)=none->∀ H',GK H H'->TabI H' P0 lp ql->E (.ref cF) none H'):mE P0 lp ql cF fl J R At vs H Q E
inductive jM (cF:Addr) (d:Nat) (vs:List V) (H:Hp) (Q:VK) (E:XK):Prop
 | figs (w:Str) (q:Addr) (ps:List Addr) (fs:List ak) (h_0:vs=[.str w,.ref q]) (h_1:w="row"\/w="back") (h_2:H q=some (.tup (ps.map V.ref))) (h_3:Paired (aI d H) ps fs) (h_4:fs.length<=1000000) (h_5:∀ f,cV w fs=some f->∀ (p:Addr)(H':Hp),aB H H'->aI (d+1) H' p f->Q (.ref p) H') (h_6:cV w fs=none->∀ H',aB H H'->E (.ref cF) none H'):jM cF d vs H Q E
 | nums (w:Str) (q:Addr) (gs:List Int) (h_0:vs=[.str w,.ref q]) (h_1:¬ (w="row"\/w="back")) (h_2:H q=some (.tup (gs.map V.int))) (h_4:gs.length<=1000000) (h_w:w.length<=1000000) (h_5:∀ f,bB w gs=some f->∀ (p:Addr)(H':Hp),aB H H'->aI (d+1) H' p f->Q (.ref p) H') (h_6:bB w gs=none->∀ H',aB H H'->E (.ref cF) none H'):jM cF d vs H Q E
inductive eQ (P0:Addr) (lp:Pos) (ql:Str) (cF:Addr) (d e:Nat) (R:List Nat->Option (ak×List Nat)) (vs:List V) (H:Hp) (Q:VK) (E:XK):Prop
 | mk (z:Str) (a:Nat) (h_0:vs=[.str z,.int a,.int e]) (h_1:mP z) (h_2:z.length<=1000000) (h_3:a<=z.length) (h_5:TabI H P0 lp ql)
  (h_6:∀ f r,R ((aD z).drop a)=some (f,r)->∀ (t p:Addr)(H':Hp),GK H H'->TabI H' P0 lp ql->H' t=some (.tup [.ref p,.int ((z.length-r.length:Nat):Int)])->aI d H' p f->Q (.ref t) H')
  (h_7:R ((aD z).drop a)=none->∀ H',GK H H'->TabI H' P0 lp ql->E (.ref cF) none H'):eQ P0 lp ql cF d e R vs H Q E
inductive nY (P0:Addr) (lp:Pos) (ql:Str) (cF:Addr) (vs:List V) (H:Hp) (Q:VK) (E:XK):Prop
 | mk (z:Str) (h_0:vs=[.str z]) (h_1:mP z) (h_2:z.length<=1000000) (h_5:TabI H P0 lp ql) (h_6:∀ f,figM 8 (aD z)=some (f,[])->∀ (p:Addr)(H':Hp),GK H H'->TabI H' P0 lp ql->aI 8 H' p f->Q (.ref p) H')
  (h_7:(∀ f,figM 8 (aD z)≠some (f,[]))->∀ H',GK H H'->TabI H' P0 lp ql->E (.ref cF) none H'):nY P0 lp ql cF vs H Q E
inductive gC (vs:List V) (H:Hp) (Q:VK) (E_:XK):Prop
 | mk (z:Str) (h_0:vs=[.str z]) (h_1:mP z) (h_2:z.length<=1000000) (h_3:∀ H',aB H H'->Q (.bl (dI z)) H'):gC vs H Q E_
theorem rO {l:List Nat}{n c:Nat}(h:bP l=l.take n++bP (l.drop n))(hc:l[n]? = some c)(hs:et c=false):bP l=l.take (n+1)++bP (l.drop (n+1)):=by
 have hn:=(List.getElem?_eq_some_iff.mp hc).1
 have e:l.drop n=c::l.drop (n+1):=by
  rw[List.drop_eq_getElem_cons hn]
  congr 1
  exact (List.getElem?_eq_some_iff.mp hc).2
 rw[h,e,ym,hc,yi,yS]
 congr 1
 unfold bP;rw[List.takeWhile_cons,hs];rfl
theorem rP {l:List Nat}{n c:Nat}(h:bP l=l.take n++bP (l.drop n))(hc:l[n]? = some c)(hs:et c=true):bP l=l.take n:=by
 have hn:=(List.getElem?_eq_some_iff.mp hc).1
 have e:l.drop n=c::l.drop (n+1):=by
  rw[List.drop_eq_getElem_cons hn]
  congr 1
  exact (List.getElem?_eq_some_iff.mp hc).2
 have e2:bP (l.drop n)=[]:=by
  rw[e];unfold bP;rw[List.takeWhile_cons,hs];rfl
 rw[h,e2,yH]
theorem ue {l:List Nat}{n:Nat}(h:bP l=l.take n++bP (l.drop n))(hn:l.length<=n):bP l=l.take n:=by
 rw[List.drop_eq_nil_of_le hn]at h;rw[h]
 show l.take n++[]=l.take n
 rw[yH]
theorem sL {z:Str}(h:mP z):∀ c∈aD z,c<128:=fun c hc=>by
 unfold mP at h;rw[<-Array.all_toList]at h;exact x0 (xT.mp h c hc)
theorem o9 {z:Str}(h:mP z)(a:Nat):mP (toS (bP ((aD z).drop a))):=o8 fun c hc=>by
 have hc:c∈aD (toS (bP ((aD z).drop a))):=hc;rw[cH]at hc;exact sL h c (List.mem_of_mem_drop ((List.takeWhile_sublist _).subset hc))
theorem nA {z:Str}{a:Nat}(h:a<=z.length):a+(bP ((aD z).drop a)).length=z.length-(((aD z).drop a).drop (bP ((aD z).drop a)).length).length/\a+(bP ((aD z).drop a)).length<=z.length:=by
 have h1:=uf ((aD z).drop a);rw[xI,<-bn]at h1;rw[xI,xI,<-bn];omega
theorem hX {a:Nat}(h:a<=1000001):((a:Int)).natAbs<10 ^ 100:=by
 have e:((a:Int)).natAbs=a:=by omega
 rw[e];exact Nat.lt_of_le_of_lt h (by decide +kernel)
def GL (H H':Hp):Prop:=∀ b o,H b=some o->(∀ ps,o≠.tbl ps)->(∀ xs,o≠.lst xs)->H' b=some o
theorem nJ {H H':Hp}(k:GK H H'):GL H H':=fun b o e n _=>k b o e n
theorem sS {H:Hp}{l:Addr}{o:HO}{xs:List V}(h:H l=some (.lst xs)):GL H (aY H l o):=fun b u e n n2=>by
 rw[aE (fun z=>by rw[z,h]at e;exact n2 _ (xE e).symm)];exact e
theorem GL.tup {H H':Hp}(k:GL H H'){b:Addr}{xs:List V}(e:H b=some (.tup xs)):H' b=some (.tup xs):=k b _ e (fun _ z=>nomatch z) fun _ z=>nomatch z
theorem GL.fg {H H':Hp}(k:GL H H'){n:Nat}{p:Addr}{f:ak}(h:aI n H p f):aI n H' p f:=h.mono fun _ _ z=>k.tup z
theorem GL.code {H H':Hp}(k:GL H H'){c':Addr}{q:Str}(h:eG H c' q):eG H' c' q:=by
 obtain⟨oc,vs,t,e,r⟩:=h;exact⟨oc,vs,t,k _ _ e (fun _ z=>nomatch z) (fun _ z=>nomatch z),r⟩
theorem ow {α:Type}{l r:List α}{e k:Nat}(h:r=(l.drop e).drop k):l.drop (l.length-r.length)=r:=by
 rw[x3]at h;subst h;rw[xI]
 by_cases q:e+k<=l.length
 ·rw[show l.length-(l.length-(e+k))=e+k by omega]
 ·rw[show l.length-(l.length-(e+k))=l.length by omega,List.drop_length,List.drop_eq_nil_of_le (by omega)]
theorem mq {α:Type}{rd:List Nat->Option (α×List Nat)}{n:Nat}{l r:List Nat}{x:α}(h:l.head? = some 32)(e:rd (l.drop 1)=some (x,r)):be rd (n+1) l=(be rd n r).map fun q=>(x::q.1,q.2):=by
 rw[be,xA h,e];rfl
theorem pY {α:Type}{rd:List Nat->Option (α×List Nat)}{n:Nat}{l:List Nat}(h:l.head? = some 32)(e:rd (l.drop 1)=none):be rd (n+1) l=none:=by
 rw[be,xA h,e];rfl
theorem kq {α:Type}{rd:List Nat->Option (α×List Nat)}{n:Nat}{l:List Nat}(h:l.head? = some 41):be rd (n+1) l=some ([],l.drop 1):=by
 rw[be,xx (by rw[h];decide),xA h]
theorem oO {α:Type}{rd:List Nat->Option (α×List Nat)}{n:Nat}{l:List Nat}(h:l.head?≠some 32)(h2:l.head?≠some 41):be rd (n+1) l=none:=by
 rw[be,xx h,xx h2]
theorem qr:(Str.ofString " ")=⟨#[32]⟩:=by decide +kernel
theorem qt:(Str.ofString ")")=⟨#[41]⟩:=by decide +kernel
theorem rK:(Str.ofString "(")=⟨#[40]⟩:=by decide +kernel
theorem kN {z:Str}{e c:Nat}(h:((aD z).drop e).head? = some c):e<z.length:=by
 rw[List.head?_drop]at h;have:=(List.getElem?_eq_some_iff.mp h).1;rw[<-bn]at this;exact this
inductive nX (vs:List V) (H:Hp) (Q:VK) (E:XK):Prop
 | mk (z:Str) (h_0:vs=[.str z]) (h_1:mP z) (h_2:z.length<=1000000) (h_3:∀ ds H',Num z ds->aB H H'->Q (.int (numV ds)) H') (h_4:(∀ ds,¬ Num z ds)->∀ H',aB H H'->Q .non H'):nX vs H Q E
end Wz
set_option maxRecDepth 1000000
set_option maxHeartbeats 8000000
namespace Wz
open PySem PySem.Spec PyProof.Rows L2 PySem.SetTable
theorem j3:isSubtype (.type "tuple") (.type "set")=pure false:=by rw[isSubtype_type];kernel_rfl
theorem fh:isSubtype (.type "tuple") (.type "frozenset")=pure false:=by rw[isSubtype_type];kernel_rfl
section
variable {P:Program}{w:World}{A:Around}{E:Value->Shared->Prop}{s:Shared}
theorem qk {l:Addr}{its:Array Value}{ns:List Int}{Q:Value->Shared->Prop}(hh:A.handled=none)(hl:s.heap.IsTuple l its)(hi:IntsAre its.toList ns)(hb:its.size+1<scanBound)
  (h:∀ (h':Heap)(tk:Nat),h'.SetOf (intKind P w) s.heap.objs.size (fun k'=>(firstMet (fun i=>ns.getD i 0) its.size).any (· == k')) (firstMet (fun i=>ns.getD i 0) its.size).length->(∀ b o,b<s.heap.objs.size->s.heap.get? b=some o->h'.get? b=some o)->Q (.ref s.heap.objs.size) { s with heap:=h',toks:=tk }) :
  wpAny (model P w) A (call (.type "set") [.ref l]) Q E s:=by
 obtain⟨c,tl,mro⟩:=yN.mro;have made:=yN.made;have sub:=yN.sub;have nt:=yN.notType;have cc:=yN.canCreate;have tc:=F.typeCall_set_1 (.ref l);refine wpAny_call (codeAny_of_tree ?_)
 show wpAny _ _ (callAny (.type "set") _) _ _ _
 refine xH ⟨Code.quiet_builtin _ (by decide +kernel),codeAny_builtin F.entry_type_call ?_⟩;rw[Around.under_plain (weight_type_call_type "set" [.ref l] []) rfl]
 repeat (any_goals (first | assumption | wp_step))
 refine yL (code_set_new_1 (.ref l) (E:=E) (Q₁:=fun obj s₁=>∃ led:Bool,obj=.ref s.heap.objs.size/\s₁={ s with heap:=s.heap.push (mz #[] 0 (.fresh 0 0 led)) }) fun led=>⟨led,rfl,rfl⟩) fun r s₁ hr=>?_
 cases r with
 | error e=>exact hr
 | ok fl =>
  cases fl with
  | ret obj =>
   obtain⟨led,rfl,rfl⟩:=hr;have hS:(s.heap.push (mz #[] 0 (.fresh 0 0 led))).get? s.heap.objs.size=some (mz #[] 0 (.fresh 0 0 led)):=Heap.get?_push_size _ rfl;have hT:Shared.TypeIs { s with heap:=s.heap.push (mz #[] 0 (.fresh 0 0 led)) } (.ref s.heap.objs.size) "set":=⟨_,hS,rfl⟩;have li:=yN.init.lookup;have bi:=yN.init.bind (.ref s.heap.objs.size)
   repeat (any_goals (first | assumption | wp_step))
   refine yL (codeAny_call_builtin (R:=wants (fun r s₂=>r=.none/\∃ h' tk,s₂={ s with heap:=h',toks:=tk }/\h'.SetOf (intKind P w) s.heap.objs.size (fun k'=>(firstMet (fun i=>ns.getD i 0) its.size).any (· == k')) (firstMet (fun i=>ns.getD i 0) its.size).length/\(∀ b o,b<s.heap.objs.size->s.heap.get? b=some o->h'.get? b=some o)) E) yN.init.plain F.entry_set_init (check_set_init_1 hT ?_)) fun r₂ s₂ hr₂=>?_
   ·obtain⟨⟨oc,od,odt,osl⟩,ho,hc,nl,hd⟩:=hl
    have hc:oc=.type "tuple":=hc;have hd:odt=.seq its nl:=hd;subst hc;subst hd;have ho':(s.heap.push (mz #[] 0 (.fresh 0 0 led))).get? l=some _:=Heap.get?_push_of_some _ ho;have s1:=j3;have s2:=fh
    have ne:(Value.type "tuple" == Value.type "dict")=false:=by decide
    have hl1:(s.heap.push (mz #[] 0 (.fresh 0 0 led))).IsTuple l its:=⟨_,ho',rfl,nl,rfl⟩;unfold Builtin.«set.__init__» noKeywords Builtin.Frozenset.updateFrom;generalize hPI:pyIter=PI
    wp_walk
    subst hPI;refine wpAny_pyIter_tuple hl1 (xr (wpAny_runValue ?_));have lt:l<s.heap.objs.size:=xz ho
    have h3:A.in1.in1.in1.handled=none:=by simp[hh]
    have neI:l≠(s.heap.push (mz #[] 0 (.fresh 0 0 led))).objs.size:=by rw[Heap.size_push];exact xK (Nat.lt_succ_of_lt lt)
    have Sf:s.heap.objs.size∉[(s.heap.push (mz #[] 0 (.fresh 0 0 led))).objs.size,l]:=by
     rw[Heap.size_push];intro z;rcases xB.mp z with z | z
     ·exact absurd z (xK (Nat.lt_succ_self _))
     ·exact absurd (xG.mp z) (Nat.ne_of_gt lt)
    have W:=(Walks.tuple (prog:=P) (w:=w) h3 _ l neI its).toS;refine codeAny_set_update_loopS W s.heap.objs.size Sf (fun i=>ns.getD i 0) (fun i v hv=>IntsAre.int_at hi i v (by rw[Array.getElem?_toList];exact hv)) hb (its.size-0) 0 _ (by omega) (xX _) ⟨⟨_,Heap.get?_push_size _ rfl,rfl,rfl⟩,hl1.push _⟩ ?g0 ?fin
    case g0=>exact SetOf_congr ((setObjOf_fresh (knd:=intKind P w) led).setOf (Heap.get?_push_of_some _ hS) (by unfold scanBound;omega)) (fun _=>rfl) rfl
    case fin =>
     rintro⟨h',g',d',tk',os'⟩ hm hS';have eg:g'=s.gens:=hm.gens;have ed:d'=s.drawn:=hm.drawn;have eo:os'=s.os:=hm.os;subst eg;subst ed;subst eo;refine xH (xH ⟨rfl,h',tk',rfl,hS',fun b o hb e=>hm.heap b o (fun z=>?_) (Heap.get?_push_of_some _ (Heap.get?_push_of_some _ e))⟩);rw[Heap.size_push]at z;rcases xB.mp z with z | z
     ·exact absurd z (xK hb)
     ·exact absurd (xG.mp z) (xK (Nat.lt_succ_of_lt hb))
   ·cases r₂ with
    | error e=>exact hr₂
    | ok g =>
     cases g with
     | ret r =>
      obtain⟨rfl,h',tk,rfl,hg,hk⟩:=hr₂
      repeat (any_goals (first | assumption | wp_step))
      exact h _ _ hg hk
     | _=>exact hr₂.elim
  | _=>exact hr.elim
end
section
variable {X:Cx}
theorem ou (hc:X.calm=true):dG X (.type "set") (fun xs H Q=>∃ (p:Addr)(ns:List Int),xs=[.ref p]/\aW X.K H p (ns.map V.int)/\ns.length<=1000/\∀ l S (n:Nat),H l=none->n<=ns.length->(n=ns.length↔ns.Nodup)->Q (.ref l) (aY H l (.set S n))):=by
 intro pins s σ H xs us Q I r h;obtain⟨p,ns,rfl,hq,hz,q⟩:=h;obtain⟨u,rfl,rx⟩:=eA r;cases rx;obtain⟨its,rv,pl,_⟩:=I.tuple hq;have hl:=rv.length;rw[xk]at hl;refine qk (I.ok.hd hc) pl (ns:=ns) (by simpa using gg rv) (by rw[xy,<-hl];exact Nat.lt_of_le_of_lt (Nat.succ_le_succ hz) (by decide)) fun h' tk hS hk=>?_;rw[show (firstMet (fun i=>ns.getD i 0) its.toArray.size)=ns.foldl step_dedup [] by unfold firstMet;rw[xy,<-hl,mV]]at hS;obtain⟨d1,d2⟩:=gU ns [] List.nodup_nil;exact⟨.ref s.heap.objs.size,_,I.laid (t':=tk) (o:=.set _ (ns.foldl step_dedup []).length) (fun b u e=>hk b u (xz e) e) (xm _) (show bR X.prog X.w _ _ _ (.set _ (ns.foldl step_dedup []).length) from hS),rfl,q _ _ _ (I.hok.fresh (xm _)) (by simpa using d1) (by simpa using d2)⟩
end
end Wz
set_option maxRecDepth 1000000
set_option maxHeartbeats 8000000
namespace Wz
open PySem L2
theorem vb (q:o7):(szL q).lookup ("pair" : Str)=some q.q1:=rfl
theorem vc (q:o7):(szL q).lookup ("line" : Str)=some q.q2:=rfl
theorem vd (q:o7):(szL q).lookup ("star" : Str)=some q.q3:=rfl
theorem ve (q:o7):(szL q).lookup ("all" : Str)=some q.q4:=rfl
theorem vf (q:o7):(szL q).lookup ("quad" : Str)=some q.q5:=rfl
theorem vg (q:o7):(szL q).lookup ("row" : Str)=some q.q6:=rfl
theorem vh (q:o7):(szL q).lookup ("back" : Str)=some q.q7:=rfl
theorem vi {q:o7}{w:Str}(h1:w≠"pair")(h2:w≠"line")(h3:w≠"star")(h4:w≠"all")(h5:w≠"quad")(h6:w≠"row")(h7:w≠"back"):(szL q).lookup w=none:=by
 unfold szL;rw[xJ,yd.mpr h1,xJ,yd.mpr h2,xJ,yd.mpr h3,xJ,yd.mpr h4,xJ,yd.mpr h5,xJ,yd.mpr h6,xJ,yd.mpr h7];rfl
end Wz
namespace L2
open PySem
def dk (st:Stmt):Expr:=match (ci st).getD 1 (Stmt.Pass ⟨0,0,0,0⟩) with
 | Stmt.If _ (Stmt.Assign _ (Expr.Call _ [_,_,l] _ _) _::_) _ _=>l
 | _=>Expr.Constant .none 0 ⟨0,0,0,0⟩
end L2
namespace Wz
open PySem L2
def vI (d:Nat)(H:Hp)(v:V)(f:ak):Prop:=∃ p,v=.ref p/\aI d H p f
def ut (_:Hp)(v:V)(x:Int):Prop:=v=.int x
inductive nq (P0:Addr) (lp:Pos) (ql:Str) (cF:Addr) (d:Nat) (fl c1:Addr) (vy:V) (vs:List V) (H:Hp) (Q:VK) (E:XK):Prop
 | mk (h:vy=.int ((d+1:Nat):Int)) (h2:mE P0 lp ql cF fl (fun H=>eG H c1 ql) (figM d) (vI d) vs H Q E):nq P0 lp ql cF d fl c1 vy vs H Q E
def se (P0:Addr)(lp:Pos)(ql:Str)(cF:Addr):Nat->Sp
 | 0=>fun _ _ _ _=>False
 | d+1=>eQ P0 lp ql cF (d+1) (d+1) (brM d)
theorem iK {d:Nat}{H:Hp}:∀ {vs:List V}{fs:List ak},Paired (vI d H) vs fs->∃ ps:List Addr,vs=ps.map V.ref/\Paired (aI d H) ps fs
 | _,_,.nil=>⟨[],rfl,.nil⟩
 | _,_,.cons h t=>by
  obtain⟨ps,rfl,p⟩:=iK t;obtain⟨q,rfl,hq⟩:=h;exact⟨q::ps,rfl,.cons hq p⟩
theorem gm {H:Hp}:∀ {vs:List V}{gs:List Int},Paired (ut H) vs gs->vs=gs.map V.int
 | _,_,.nil=>rfl
 | _,_,.cons h t=>by
  rw[gm t,show _=V.int _ from h];rfl
theorem ic {α:Type}{rd:List Nat->Option (α×List Nat)}(h:sJ rd):∀ (n:Nat)(l:List Nat)(xs:List α)(r:List Nat),be rd n l=some (xs,r)->xs.length<=l.length
 | 0,l,xs,r,e=>by cases e
 | n+1,l,xs,r,e=>by
  rw[be]at e;split at e
  ·rename_i hd
   obtain⟨p,e1,e2⟩:=Option.bind_eq_some_iff.mp e;obtain⟨q,e3,e4⟩:=yF.mp e2;injection e4 with e5 e6;have h1:=ic h n _ q.1 q.2 e3;have h2:=nU h (show rd (l.drop 1)=some (p.1,p.2) from e1)
   have h3:0<l.length:=by cases l with | nil=>cases hd | cons _ _=>exact Nat.succ_pos _
   rw[xI]at h2;rw[<-e5,xF];omega
  ·split at e
   ·injection e with e
    injection e with e _;rw[<-e];exact xX _
   ·cases e
end Wz
namespace L2
open PySem PySem.Spec PyProof.Rows
theorem rG {X:Cx}{a b:Str}{j j2:Nat}{e:Expr}{te:TE}{p1 p2 p3 pos:Pos}(he:PE X e te)(ha:a.length<=10)(hb:b.length<=10) :
  PE X (.JoinedStr [.Constant (.str a) j p1,.FormattedValue e (-1) none p2,.Constant (.str b) j2 p3] pos) (fun σ H Q=>te σ H fun x H1=>∃ z:Str,x=.str z/\z.length<=10000000/\Q (.str (a++z++b)) H1):=by
 intro pins s σ H Q I hq;have sl:sizeLine=16777216:=xY;have hsa:PE X (.Constant (.str a) j p1) (tC (.str a)):=ai;have hsb:PE X (.Constant (.str b) j2 p3) (tC (.str b)):=ai;refine JoinedStr_many ?_
 show wpAny _ _ (joinParts Str.empty (eval (.Constant (.str a) j p1) X.env::eval (.FormattedValue e (-1) none p2) X.env::eval (.Constant (.str b) j2 p3) X.env::[])) _ _ s
 refine joinParts_cons (bv (hsa pins s σ H (fun v H'=>v=.str a/\H'=H) I ⟨rfl,rfl⟩) fun u s1 ⟨x,H1,I1,rx,ex,eh⟩=>?_);subst ex eh;obtain⟨tk,rfl⟩:=rx
 have e0:Str.empty++a=a:=by cases a with | mk c=>show (⟨#[]++c⟩:Str)=⟨c⟩;rw[Array.empty_append]
 dsimp only;rw[e0];refine⟨by omega,joinParts_cons (FormattedValue_plain (bv (he pins s1 σ H1 _ I1 hq) fun u2 s2 ⟨x2,H2,I2,rx2,z,ez,hz,q⟩=>?_))⟩;subst ez;obtain⟨tk2,rfl⟩:=rx2
 have fin:∀ (s3:Shared),ay X pins σ H2 s3->(a++z).length<=sizeLine/\wpAny (model X.prog X.w) X.A (joinParts (a++z) [eval (.Constant (.str b) j2 p3) X.env]) (EP X pins σ Q) X.xe s3:=fun s3 I3=>by
  have l1:(a++z).length=a.length+z.length:=strLen_append _ _;refine⟨by omega,joinParts_cons (bv (hsb pins s3 σ H2 (fun v H'=>v=.str b/\H'=H2) I3 ⟨rfl,rfl⟩) fun u4 s4 ⟨x4,H4,I4,rx4,ex4,eh4⟩=>?_)⟩;subst ex4 eh4;obtain⟨tk4,rfl⟩:=rx4;have l2:(a++z++b).length=(a++z).length+b.length:=strLen_append _ _;exact⟨by omega,joinParts_nil ⟨.str _,H4,I4.tok _,⟨_,rfl⟩,q⟩ (by omega)⟩
 exact wpAny_formatField_str (fin _ I2) (fin _ (I2.tok _)) (by omega)
end L2
namespace Wz
open PySem L2
def hZ (g:Int):List Nat:=aD (eL g)
mutual
def ak.txt:ak->List Nat
 | .pl f=>40::(aD f.word++((f.gs.flatMap fun g=>32::hZ g)++[41]))
 | .row fs=>40::(aD "row"++(ak.txtL fs++[41]))
 | .back f=>40::(aD "back"++(32::f.txt++[41]))
 | .name w=>aD w
def ak.txtL:List ak->List Nat
 | []=>[]
 | f::fs=>32::f.txt++ak.txtL fs
end
theorem dN:∀ fs:List ak,ak.txtL fs=fs.flatMap fun f=>32::f.txt
 | []=>by rw[ak.txtL];rfl
 | f::fs=>by rw[ak.txtL,dN fs];rfl
def ak.Good:Nat->ak->Prop
 | 0,_=>False
 | _+1,.pl f=>f.Ok/\∀ g∈f.gs,nB g
 | _+1,.name w=>dI w=true
 | n+1,.back f=>ak.Good n f
 | n+1,.row fs=>1<=fs.length/\fs.length<=60/\∀ f∈fs,ak.Good n f
def fV (r:List Nat):Prop:=∀ c,r.head? = some c->et c=true
theorem jR {p r:List Nat}(hp:∀ c∈p,et c=false)(hr:fV r):bP (p++r)=p/\(p++r).drop (bP (p++r)).length=r:=by
 have e:bP (p++r)=p:=by
  induction p with
  | nil =>
   cases r with
   | nil=>rfl
   | cons c r =>
    unfold bP;rw[List.nil_append,List.takeWhile_cons,hr c rfl];rfl
  | cons c p ih =>
   have:=ih fun d hd=>hp d (xq _ hd);unfold bP at this ⊢;rw[List.cons_append,List.takeWhile_cons,hp c xp]
   show c::_=_
   rw[this]
 exact⟨e,by rw[e,List.drop_left]⟩
theorem iY {c:Nat}(h:bz c=true):et c=false:=by
 unfold bz at h;have:=x0 h;unfold et;exact xn (by omega)
theorem qX {c:Nat}(h:48<=c/\c<58):et c=false:=by
 unfold et;exact xn (by omega)
theorem m8 {w:Str}(h:dI w=true):∀ c∈aD w,bz c=true:=by
 unfold dI at h;rw[yc]at h;exact fun c hc=>xT.mp h.2 c hc
theorem pR {g:Int}(h:nB g){r:List Nat}(hr:fV r):numAt (hZ g++r)=some (g,r):=by
 obtain⟨e1,e2⟩:=jR (p:=hZ g) (fun c hc=>qX ((e8 h).1 c hc)) hr;unfold numAt;rw[e2,e1];obtain⟨ds,N,e⟩:=l9 h;rw[show toS (hZ g)=eL g from dU _,qg N,e];rfl
theorem gW (r:List Nat):fV (41::r):=fun c h=>by cases xE h;rfl
theorem gn {α:Type}{rd:List Nat->Option (α×List Nat)}{tx:α->List Nat}(rest:List Nat):∀ (xs:List α)(n:Nat),(∀ x∈xs,∀ r,fV r->rd (tx x++r)=some (x,r))->xs.length<n->be rd n ((xs.flatMap fun x=>32::tx x)++41::rest)=some (xs,rest)
 | [],n,_,hn=>by
  obtain⟨m,rfl⟩:∃ m,n=m+1:=⟨n-1,by simp at hn;omega⟩;exact kq rfl
 | x::xs,n,h,hn=>by
  rw[xF]at hn;obtain⟨m,rfl⟩:∃ m,n=m+1:=⟨n-1,by omega⟩
  have e:((x::xs).flatMap fun x=>32::tx x)++41::rest=32::(tx x++((xs.flatMap fun x=>32::tx x)++41::rest)):=by simp
  rw[e]
  have he:fV ((xs.flatMap fun x=>32::tx x)++41::rest):=by
   cases xs with
   | nil=>exact gW rest
   | cons y ys=>intro c hc;cases xE hc;rfl
  rw[mq rfl (h x xp _ he),gn rest xs m (fun y hy=>h y (xq _ hy)) (by omega)];rfl
theorem gb {α:Type}(tx:α->List Nat):∀ xs:List α,xs.length<=(xs.flatMap fun x=>32::tx x).length
 | []=>xm _
 | x::xs=>by
  have:=gb tx xs;rw[yT,xv,xF,xF];omega
theorem ky (f:bE):(∀ c∈aD f.word,bz c=true):=by
 have k:∀ s:Str,s∈kindsL->∀ c∈aD s,bz c=true:=by
  have:kindsL.all (fun s=>(aD s).all bz)=true:=by decide +kernel
  intro s hs c hc;exact xT.mp (xT.mp this s hs) c hc
 cases f<;>exact k _ (by unfold kindsL bE.word;simp)
theorem i3:(∀ c∈aD "row",bz c=true)/\(∀ c∈aD "back",bz c=true):=by
 have:(aD "row").all bz=true/\(aD "back").all bz=true:=by decide +kernel
 exact⟨fun c hc=>xT.mp this.1 c hc,fun c hc=>xT.mp this.2 c hc⟩
theorem pS {f:bE}(ok:f.Ok):bB f.word f.gs=some (.pl f):=by
 unfold bB
 cases f with
 | pair a b=>rw[xA (show (bE.pair a b).word=Str.ofString "pair" from rfl)];rfl
 | line g=>rw[xx (by show ¬ Str.ofString "line" = Str.ofString "pair";decide +kernel),xx (by show ¬ Str.ofString "line" = Str.ofString "quad";decide +kernel),xA ⟨ok.1,ok.2.1⟩,xA (show (bE.line g).word=Str.ofString "line" from rfl)];rfl
 | star g=>rw[xx (by show ¬ Str.ofString "star" = Str.ofString "pair";decide +kernel),xx (by show ¬ Str.ofString "star" = Str.ofString "quad";decide +kernel),xA ⟨ok.1,ok.2.1⟩,xx (by show ¬ Str.ofString "star" = Str.ofString "line";decide +kernel),xA (show (bE.star g).word=Str.ofString "star" from rfl)];rfl
 | all g=>rw[xx (by show ¬ Str.ofString "all" = Str.ofString "pair";decide +kernel),xx (by show ¬ Str.ofString "all" = Str.ofString "quad";decide +kernel),xA ⟨ok.1,ok.2.1⟩,xx (by show ¬ Str.ofString "all" = Str.ofString "line";decide +kernel),xx (by show ¬ Str.ofString "all" = Str.ofString "star";decide +kernel),xA (show (bE.all g).word=Str.ofString "all" from rfl)];rfl
 | quad a b c d =>
  rw[xx (by show ¬ Str.ofString "quad" = Str.ofString "pair";decide +kernel),xA (show (bE.quad a b c d).word=Str.ofString "quad" from rfl)]
  show (if [a,b,c,d].Nodup then _ else _)=_
  rw[xA (ok.2.2 a b c d rfl)]
theorem lD:∀ (d:Nat)(f:ak),ak.Good d f->∀ r,fV r->figM d (f.txt++r)=some (f,r)
 | 0,_,h,_,_=>h.elim
 | d+1,.name w,h,r,hr=>by
  have h:dI w=true:=h;obtain⟨e1,e2⟩:=jR (p:=aD w) (fun c hc=>iY (m8 h c hc)) hr
  have hd:(aD w++r).head?≠some 40:=by
   have hl:=(jt h).1;rw[bn]at hl
   cases e:aD w with
   | nil=>rw[e]at hl;simp at hl
   | cons c l =>
    intro z;have hc:=m8 h c (by rw[e];exact xp);have z:c=40:=xE z;rw[z]at hc;cases hc
  rw[ak.txt,kL d _ hd,e2,e1,dU,xA h]
 | d+1,.pl f,h,r,hr=>by
  obtain⟨ok,gs⟩:f.Ok/\∀ g∈f.gs,nB g:=h
  have e:(ak.pl f).txt++r=40::(aD f.word++((f.gs.flatMap fun g=>32::hZ g)++41::r)):=by rw[ak.txt];simp
  rw[e,ga d _ rfl,List.drop_succ_cons,yC]
  have he:fV ((f.gs.flatMap fun g=>32::hZ g)++41::r):=by
   cases f.gs with
   | nil=>exact gW r
   | cons y ys=>intro c hc;cases xE hc;rfl
  obtain⟨e1,e2⟩:=jR (p:=aD f.word) (fun c hc=>iY (ky f c hc)) he;unfold brM;rw[e2,e1,dU,xx (fun z=>z.elim f.nw.2.1 f.nw.1),gn r f.gs _ (fun g hg r hr=>pR (gs g hg) hr) (by have:=gb hZ f.gs;rw[xv];omega)]
  show (bB f.word f.gs).map _=_
  rw[pS ok];rfl
 | d+1,.back f,h,r,hr=>by
  have h:ak.Good d f:=h
  have e:(ak.back f).txt++r=40::(aD "back"++(([f].flatMap fun g=>32::g.txt)++41::r)):=by rw[ak.txt];simp
  rw[e,ga d _ rfl,List.drop_succ_cons,yC];obtain⟨e1,e2⟩:=jR (p:=aD "back") (fun c hc=>iY (i3.2 c hc)) (show fV (([f].flatMap fun g=>32::g.txt)++41::r) from fun c hc=>by cases xE hc;rfl);unfold brM;rw[e2,e1,dU,xA (.inr rfl),gn r [f] _ (fun g hg r hr=>by rw[xG.mp hg];exact lD d f h r hr) (by have:=gb ak.txt [f];rw[xv];omega)]
  have e9:cV "back" [f]=some (.back f):=by unfold cV;rw[xx (by decide +kernel)]
  rw[Option.bind_some,e9];rfl
 | d+1,.row fs,h,r,hr=>by
  obtain⟨h1,h2,h3⟩:1<=fs.length/\fs.length<=60/\∀ f∈fs,ak.Good d f:=h
  have e:(ak.row fs).txt++r=40::(aD "row"++((fs.flatMap fun g=>32::g.txt)++41::r)):=by rw[ak.txt,dN];simp
  rw[e,ga d _ rfl,List.drop_succ_cons,yC]
  have he:fV ((fs.flatMap fun g=>32::g.txt)++41::r):=by
   cases fs with
   | nil=>exact gW r
   | cons y ys=>intro c hc;cases xE hc;rfl
  obtain⟨e1,e2⟩:=jR (p:=aD "row") (fun c hc=>iY (i3.1 c hc)) he;unfold brM;rw[e2,e1,dU,xA (.inl rfl),gn r fs _ (fun g hg r hr=>lD d g (h3 g hg) r hr) (by have:=gb ak.txt fs;rw[xv];omega)]
  show (cV "row" fs).map _=_
  unfold cV;rw[xA rfl,xA ⟨h1,h2⟩];rfl
theorem ak.Good.up:∀ {n:Nat}{f:ak},ak.Good n f->ak.Good (n+1) f
 | 0,_,h=>h.elim
 | n+1,.pl f,h=>h
 | n+1,.name w,h=>h
 | n+1,.back f,h=>ak.Good.up (n:=n) (f:=f) h
 | n+1,.row fs,h=>⟨h.1,h.2.1,fun f hf=>ak.Good.up (n:=n) (f:=f) (h.2.2 f hf)⟩
theorem ak.Good.le {n m:Nat}{f:ak}(h:ak.Good n f)(hl:n<=m):ak.Good m f:=by
 induction hl with
 | refl=>exact h
 | step _ ih=>exact ih.up
def tI (x:ak×Nat):Nat:=if x.2=1 then 16030 else x.1.txt.length+1
def tS:List (ak×Nat)->Nat
 | []=>0
 | x::xs=>tI x+tS xs
theorem jQ:∀ a b:List (ak×Nat),tS (a++b)=tS a+tS b
 | [],b=>by rw[List.nil_append,tS];omega
 | x::a,b=>by rw[List.cons_append,tS,tS,jQ a b];omega
theorem me:∀ gs:List Int,(∀ g∈gs,nB g)->(gs.flatMap fun g=>32::hZ g).length<=13*gs.length
 | [],_=>xm _
 | g::gs,h=>by
  have ih:=me gs fun x hx=>h x (xq _ hx);have h2:=(e8 (h g xp)).2;have h3:(hZ g).length=(aD (eL g)).length:=rfl;rw[yT,xv,xF,xF];omega
theorem qc (f:bE):(aD f.word).length<=4:=by
 have k:kindsL.all (fun s=>decide ((aD s).length<=4))=true:=by decide +kernel
 cases f<;>exact x0 (xT.mp k _ (by unfold kindsL bE.word;simp))
theorem jm {x:ak×Nat}(h:eB x)(e:x.2=1)(g:ak.Good x.2 x.1):x.1.txt.length<=790:=by
 rw[e]at g;rcases h.2.2 e with ⟨f,z⟩ | ⟨w,z⟩
 ·rw[z]at g ⊢
  obtain⟨ok,gs⟩:f.Ok/\∀ g∈f.gs,nB g:=g;have h1:=me f.gs gs;have h2:=qc f;have h3:=ok.2.1;rw[ak.txt,xF,xv,xv,xR];omega
 ·rw[z]at g ⊢
  have h1:=jt (show dI w=true from g);rw[ak.txt,<-bn];omega
theorem qx {x:ak×Nat}(h:eB x)(g:ak.Good x.2 x.1):x.1.txt.length+1<=tI x:=by
 unfold tI;split
 ·rename_i e
  have:=jm h e g;omega
 ·exact xm _
theorem mJ:∀ fs:List ak,(ak.txtL fs).length=(fs.map fun f=>f.txt.length+1).sum
 | []=>by rw[ak.txtL];rfl
 | f::fs=>by rw[ak.txtL,xv,xF,mJ fs,xM,List.sum_cons]
theorem n4 (f:ak->Nat)(fs:List ak):∀ k:Nat,(((List.replicate k fs).flatten).map f).sum=k*(fs.map f).sum
 | 0=>by rw[List.replicate_zero,List.flatten_nil,Nat.zero_mul];rfl
 | k+1=>by rw[xQ,x8,xC,List.sum_append,n4 f fs k,Nat.succ_mul,Nat.add_comm]
theorem qA:∀ {xs:List (ak×Nat)},(∀ x∈xs,eB x)->(∀ x∈xs,ak.Good x.2 x.1)->((xs.map (·.1)).map fun f=>f.txt.length+1).sum<=tS xs
 | [],_,_=>xm _
 | x::xs,h,g=>by
  have ih:=qA (fun y hy=>h y (xq _ hy)) fun y hy=>g y (xq _ hy);have:=qx (h x xp) (g x xp);rw[xM,xM,List.sum_cons,tS];omega
theorem n5:∀ {xs:List (ak×Nat)},(∀ x∈xs,x.2=1)->tS xs=16030*xs.length
 | [],_=>rfl
 | x::xs,h=>by
  rw[tS,n5 fun y hy=>h y (xq _ hy),xF];unfold tI;rw[xA (h x xp)];omega
theorem mj:∀ {xs:List (ak×Nat)},(∀ x∈xs,eB x)->(∀ x∈xs,ak.Good x.2 x.1)->(∀ x∈xs,x.2=1)->((xs.map (·.1)).map fun f=>f.txt.length+1).sum<=800*xs.length
 | [],_,_,_=>xm _
 | x::xs,h,g,e=>by
  have ih:=mj (fun y hy=>h y (xq _ hy)) (fun y hy=>g y (xq _ hy)) fun y hy=>e y (xq _ hy);have:=jm (h x xp) (e x xp) (g x xp);rw[xM,xM,List.sum_cons,xF];omega
theorem i4 (fs:List ak):(ak.row fs).txt.length=(fs.map fun f=>f.txt.length+1).sum+5:=by
 have e:(aD "row").length=3:=by decide +kernel
 rw[ak.txt,xF,xv,xv,mJ,e,xR];omega
theorem dH (f:ak):(ak.back f).txt.length=f.txt.length+7:=by
 have e:(aD "back").length=4:=by decide +kernel
 rw[ak.txt,xF,xv,xv,xF,e,xR];omega
theorem uc {xs:List (ak×Nat)}{k:Nat}(ok:∀ x∈xs,eB x)(g:∀ x∈xs,ak.Good x.2 x.1)(hk:k=1\/(k<=20/\∀ x∈xs,x.2=1)):(ak.row (List.replicate k (xs.map (·.1))).flatten).txt.length+1<=tS xs+6:=by
 rw[i4,n4];rcases hk with rfl | ⟨hk,h1⟩
 ·have:=qA ok g
  rw[Nat.one_mul];omega
 ·have h2:=mj ok g h1
  rw[n5 h1];have:=Nat.mul_le_mul hk h2;omega
theorem jg {xs:List (ak×Nat)}{x:ak×Nat}(h:∀ y∈xs,ak.Good y.2 y.1)(hx:ak.Good x.2 x.1):∀ y∈xs++[x],ak.Good y.2 y.1:=fun y hy=>by
 rcases xU.mp hy with z | z
 ·exact h y z
 ·rw[xG.mp z];exact hx
theorem oz {fs:List ak}{M:Nat}(h:∀ f∈fs,ak.Good M f)(k:Nat)(h1:1<=k*fs.length)(h2:k*fs.length<=60):ak.Good (M+1) (.row (List.replicate k fs).flatten):=by
 refine⟨by rw[jo];exact h1,by rw[jo];exact h2,fun f hf=>?_⟩;obtain⟨l,hl,hf⟩:=List.mem_flatten.mp hf;rw[(List.mem_replicate.mp hl).2]at hf;exact h f hf
inductive lK (vs:List V) (H:Hp) (Q:VK) (E_:XK):Prop
 | mk (d c:Int) (h_0:vs=[.int d,.int c]) (h_1:0<=d) (h_2:∀ (p:Addr)(f:bE)(H':Hp),H p=none->aB H H'->fz H' p f->f.Ok->(∀ g∈f.gs,nB g)->Q (.ref p) H'):lK vs H Q E_
inductive i8 (vs:List V) (H:Hp) (Q:VK) (E_:XK):Prop
 | mk (s nm:Addr) (d:Int) (ws:List Str) (xs:List (ak×Nat)) (h_0:vs=[.ref s,.int d,.ref nm]) (h_1:0<=d) (h_2:qR H s xs) (h_3:H nm=some (.lst (ws.map V.str))) (h_4:∀ w∈ws,dI w=true) (h_5:ws.length<=100) (h_6:∀ x∈xs,eB x) (h_7:xs.length<=20) (h_n:∀ x∈xs,ak.Good x.2 x.1)
  (h_8:∀ (ys:List (ak×Nat))(H':Hp),qR H' s ys->(∀ x∈ys,eB x)->ys.length<=xs.length+1->jT ys<=jT xs+20->(∀ x∈ys,ak.Good x.2 x.1)->tS ys<=tS xs+16030->(∀ a o,H a=some o->a≠s->H' a=some o)->Q .non H'):i8 vs H Q E_
inductive i6 (vs:List V) (H:Hp) (Q:VK) (E_:XK):Prop
 | mk (l nm:Addr) (c:Int) (ds:List Int) (ws:List Str) (h_0:vs=[.ref l,.int c,.ref nm]) (h_1:H l=some (.lst (ds.map V.int))) (h_2:∀ d∈ds,0<=d) (h_3:ds.length<=9) (h_4:H nm=some (.lst (ws.map V.str))) (h_5:∀ w∈ws,dI w=true) (h_6:ws.length<=100)
  (h_7:∀ (p:Addr)(f:ak)(H':Hp),aB H H'->aI 8 H' p f->f.names.length<=200->ak.Good 8 f->f.txt.length<=150000->Q (.ref p) H'):i6 vs H Q E_
def c8:ak->List Str
 | .pl f=>f.gs.map eL
 | .back f=>[toS f.txt]
 | .row fs=>fs.map fun f=>toS f.txt
 | .name _=>[]
inductive de (n:Nat) (vs:List V) (H:Hp) (Q:VK) (E_:XK):Prop
 | mk (p:Addr) (f:ak) (h_0:vs=[.ref p]) (h_1:aI n H p f) (h_2:ak.Good n f) (h_3:f.txt.length<=200000) (h_4:∀ H',aB H H'->Q (.str (toS f.txt)) H'):de n vs H Q E_
inductive qq (n:Nat) (vs:List V) (H:Hp) (Q:VK) (E_:XK):Prop
 | mk (p:Addr) (f:ak) (h_0:vs=[.ref p]) (h_1:aI n H p f) (h_2:ak.Good n f) (h_3:f.txt.length<=200000) (h_n:∀ w,f≠.name w) (h_4:∀ (l:Addr)(H':Hp),aB H H'->H' l=some (.lst ((c8 f).map V.str))->Q (.ref l) H'):qq n vs H Q E_
theorem f6:aD (Str.ofString " ")=[32]:=by decide +kernel
theorem qo {f:ak}(h:∀ w,f≠.name w):aD (Txt.join (Str.ofString " ") (f.word::c8 f))=aD f.word++(c8 f).flatMap fun q=>32::aD q:=by
 rw[kR,f6];rfl
theorem ie {f:ak}(h:∀ w,f≠.name w):f.txt=40::(aD f.word++(((c8 f).flatMap fun q=>32::aD q)++[41])):=by
 cases f with
 | name w=>exact absurd rfl (h w)
 | pl f =>
  rw[ak.txt]
  show _=40::(aD f.word++(((f.gs.map eL).flatMap fun q=>32::aD q)++[41]))
  rw[List.flatMap_map];rfl
 | back f =>
  rw[ak.txt]
  show _=40::(aD "back"++(([toS f.txt].flatMap fun q=>32::aD q)++[41]))
  rw[List.flatMap_singleton,cH]
 | row fs =>
  rw[ak.txt,dN]
  show _=40::(aD "row"++(((fs.map fun f=>toS f.txt).flatMap fun q=>32::aD q)++[41]))
  rw[List.flatMap_map]
  have e:(fun a:ak=>32::aD (toS a.txt))=fun f:ak=>32::f.txt:=funext fun f=>by rw[cH]
  rw[e]
theorem oP {f:ak}{n:Nat}(g:ak.Good n f):(c8 f).length<=60:=by
 cases n with
 | zero=>exact g.elim
 | succ n =>
  cases f with
  | name w=>exact xX _
  | pl f=>show (f.gs.map eL).length<=60;rw[xk];exact g.1.2.1
  | back f=>show 1<=60;decide
  | row fs=>show (fs.map fun f=>toS f.txt).length<=60;rw[xk];exact g.2.1
theorem ng {f:ak}(h:∀ w,f≠.name w):∀ q∈c8 f,q.length<=f.txt.length:=fun q hq=>by
 rw[ie h,xF,xv,xv]
 have:∀ l:List Str,q∈l->q.length<=(l.flatMap fun q=>32::aD q).length:=fun l=>by
  induction l with
  | nil=>intro z;cases z
  | cons x l ih =>
   intro z;rw[yT,xv,xF,<-bn];rcases xB.mp z with rfl | z
   ·omega
   ·have:=ih z;omega
 have:=this _ hq;omega
theorem lM {x y:Str}(h:aD x=aD y):x=y:=by rw[<-dU x,h,dU]
theorem mD {f:ak}(h:∀ w,f≠.name w):(Str.ofString "("++Txt.join (Str.ofString " ") (f.word::c8 f)++Str.ofString ")" : Str)=toS f.txt:=by
 refine lM ?_
 have e1:aD (Str.ofString "(")=[40]:=by decide +kernel
 have e2:aD (Str.ofString ")")=[41]:=by decide +kernel
 rw[b7,b7,qo h,cH,e1,e2,ie h];simp
theorem dX {g:Int}(h:nB g):g.natAbs<10 ^ 100:=by
 have h1:=h.1;have h2:=h.2;exact xD (show g.natAbs<10 ^ 12 by omega) (by decide +kernel)
theorem gz {fs:List ak}{f:ak}(h:f∈fs):f.txt.length<=(ak.row fs).txt.length:=by
 rw[i4]
 have:∀ l:List ak,f∈l->f.txt.length<=(l.map fun f=>f.txt.length+1).sum:=fun l=>by
  induction l with
  | nil=>intro z;cases z
  | cons x l ih =>
   intro z;rw[xM,List.sum_cons];rcases xB.mp z with rfl | z
   ·omega
   ·have:=ih z;omega
 have:=this _ h;omega
theorem qT (f:ak):(Str.ofString "(back "++toS f.txt++Str.ofString ")" : Str)=toS (ak.back f).txt:=by
 refine lM ?_
 have e1:aD (Str.ofString "(back ")=40::(aD "back"++[32]):=by decide +kernel
 have e2:aD (Str.ofString ")")=[41]:=by decide +kernel
 rw[b7,b7,cH,cH,e1,e2,ak.txt];simp
theorem qj {fs:List ak}(h:1<=fs.length):(Str.ofString "(row "++Txt.join (Str.ofString " ") (fs.map fun f=>toS f.txt)++Str.ofString ")" : Str)=toS (ak.row fs).txt:=by
 cases fs with
 | nil=>exact absurd h (by decide)
 | cons f fs =>
  refine lM ?_
  have e1:aD (Str.ofString "(row ")=40::(aD "row"++[32]):=by decide +kernel
  have e2:aD (Str.ofString ")")=[41]:=by decide +kernel
  have e3:((fs.map fun f=>toS f.txt).map fun q=>aD (Str.ofString " ")++aD q).flatten=fs.flatMap fun f=>32::f.txt:=by
   rw[yr,f6]
   show (fs.map fun f=>32::aD (toS f.txt)).flatten=_
   have e:(fun f:ak=>32::aD (toS f.txt))=fun f:ak=>32::f.txt:=funext fun f=>by rw[cH]
   rw[e];rfl
  rw[b7,b7,xM,kR,e3,cH,cH,e1,e2,ak.txt,ak.txtL,dN];simp
theorem rZ {f:bE}(h:1<=f.gs.length):(Str.ofString "("++f.word++Str.ofString " "++Txt.join (Str.ofString " ") (f.gs.map eL)++Str.ofString ")" : Str)=toS (ak.pl f).txt:=by
 refine lM ?_
 have e1:aD (Str.ofString "(")=[40]:=by decide +kernel
 have e2:aD (Str.ofString ")")=[41]:=by decide +kernel
 rw[b7,b7,b7,b7,e1,e2,cH,ak.txt,f6]
 cases e:f.gs with
 | nil=>rw[e]at h;exact absurd h (by decide)
 | cons g gs =>
  have e3:((gs.map eL).map fun q=>aD (Str.ofString " ")++aD q).flatten=gs.flatMap fun g=>32::hZ g:=by
   rw[yr,f6];rfl
  rw[xM,kR,e3]
  show _=40::(aD f.word++(((32::hZ g)++gs.flatMap fun g=>32::hZ g)++[41]))
  simp[hZ]
mutual
def ak.nodes:ak->Nat
 | .pl _=>1
 | .row fs=>1+ak.nodesL fs
 | .back f=>1+f.nodes
 | .name _=>1
def ak.nodesL:List ak->Nat
 | []=>0
 | f::fs=>f.nodes+ak.nodesL fs
end
theorem fL:∀ fs:List ak,ak.nodesL fs=(fs.map ak.nodes).sum
 | []=>by rw[ak.nodesL];rfl
 | f::fs=>by rw[ak.nodesL,fL fs];rfl
theorem qv {α:Type}{f g:α->Nat}:∀ {l:List α},(∀ x∈l,f x<=g x)->(l.map f).sum<=(l.map g).sum
 | [],_=>xm _
 | x::l,h=>by
  have:=qv (f:=f) (g:=g) (l:=l) fun y hy=>h y (xq _ hy);have:=h x xp;rw[xM,xM,List.sum_cons,List.sum_cons];omega
theorem ju:∀ {n:Nat}{f:ak},ak.Good n f->f.nodes<=f.txt.length
 | 0,_,h=>h.elim
 | n+1,.pl f,h=>by rw[ak.nodes,ak.txt,xF];omega
 | n+1,.name w,h=>by
  have:=jt (show dI w=true from h);rw[ak.nodes,ak.txt,<-bn];omega
 | n+1,.back f,h=>by
  have:=ju (n:=n) (f:=f) h;rw[ak.nodes,dH];omega
 | n+1,.row fs,h=>by
  have:=qv (f:=ak.nodes) (g:=fun f=>f.txt.length+1) (l:=fs) fun f hf=>Nat.le_succ_of_le (ju (n:=n) (h.2.2 f hf));rw[ak.nodes,fL,i4];omega
inductive dM (n:Nat) (vs:List V) (H:Hp) (Q:VK) (E_:XK):Prop
 | mk (p:Addr) (f:ak) (h_0:vs=[.ref p]) (h_1:aI n H p f) (h_2:ak.Good n f) (h_3:f.txt.length<=200000) (h_4:∀ (l:Addr)(ps:List Addr)(fs:List ak)(H':Hp),aB H H'->H' l=some (.lst (ps.map V.ref))->Paired (aI n H') ps fs->(∀ g∈fs,ak.Good n g/\g.txt.length<=f.txt.length)->ps.length=f.nodes->Q (.ref l) H'):dM n vs H Q E_
inductive jO (P0:Addr) (lp:Pos) (ql:Str) (vs:List V) (H:Hp) (Q:VK) (E_:XK):Prop
 | mk (z:Str) (h_0:vs=[.str z]) (h_1:mP z) (h_2:z.length<=1000000) (h_5:TabI H P0 lp ql) (h_6:∀ f,figM 8 (aD z)=some (f,[])->∀ (p:Addr)(H':Hp),GK H H'->TabI H' P0 lp ql->aI 8 H' p f->Q (.ref p) H')
  (h_7:(∀ f,figM 8 (aD z)≠some (f,[]))->∀ H',GK H H'->TabI H' P0 lp ql->Q (.str "NoFigure") H'):jO P0 lp ql vs H Q E_
def fZ:Nat->ak
 | 0=>.name "hey"
 | n+1=>.back (fZ n)
def dL:Nat->ak
 | 0=>.name "hey"
 | n+1=>.row [dL n]
def fF:ak:=.row (List.replicate 60 (.name "hey"))
theorem kO:dI "hey" = true:=by decide +kernel
theorem gX:∀ n,ak.Good (n+1) (fZ n)
 | 0=>kO
 | n+1=>gX n
theorem gY:∀ n,ak.Good (n+1) (dL n)
 | 0=>kO
 | n+1=>⟨by show 1<=1;decide,by show 1<=60;decide,fun f hf=>by rw[xG.mp hf];exact gY n⟩
theorem kh:ak.Good 8 fF:=⟨by rw[yI];decide,by rw[yI];decide,fun f hf=>by rw[(List.mem_replicate.mp hf).2];exact kO⟩
theorem qi (fs:List ak):(ak.row fs).txt=aD "(row"++(fs.flatMap fun f=>32::f.txt)++[41]:=by
 have e:aD "(row" = 40::aD "row":=by decide +kernel
 rw[ak.txt,dN,e];simp
theorem my:∀ n,(dL n).txt=(List.replicate n (aD "(row ")).flatten++aD "hey"++List.replicate n 41
 | 0=>by show (ak.name "hey").txt=_;rw[ak.txt];simp
 | n+1=>by
  have e:aD "(row " = aD "(row"++[32]:=by decide +kernel
  show (ak.row [dL n]).txt=_
  rw[qi,List.flatMap_singleton,my n,xQ,x8,List.replicate_succ',e];simp
theorem sd:(Txt.mul (Str.ofString "(row ") ((7:Nat):Int)++Str.ofString "hey"++Txt.mul (Str.ofString ")") ((7:Nat):Int):Str)=toS (dL 7).txt:=by
 rw[my]
 decide +kernel
theorem qJ:(Str.ofString "(row"++Txt.mul (Str.ofString " hey") ((60:Nat):Int)++Str.ofString ")" : Str)=toS fF.txt:=by
 have e:fF.txt=aD "(row"++((List.replicate 60 (aD "hey")).flatMap fun l=>32::l)++[41]:=by
  unfold fF;rw[qi]
  have:∀ n:Nat,((List.replicate n (ak.name "hey")).flatMap fun f=>32::f.txt)=(List.replicate n (aD "hey")).flatMap fun l=>32::l:=fun n=>by
   induction n with
   | zero=>rfl
   | succ n ih=>rw[xQ,xQ,yT,yT,ih,ak.txt]
  rw[this]
 rw[e]
 decide +kernel
def fC (a b:Int):ak:=.pl (.pair a b)
theorem eW {a b:Int}(h1:nB a)(h2:nB b):ak.Good 8 (fC a b):=⟨⟨by show 2<=2;decide,by show 2<=60;decide,fun _ _ _ _ z=>by cases z⟩,fun g hg=>by
 rcases xB.mp hg with rfl | hg
 ·exact h1
 ·rw[xG.mp hg];exact h2⟩
theorem mo:Str.ofString "(pair 999999999999 0)" = toS (fC 999999999999 0).txt:=by
 unfold fC;rw[ak.txt]
 decide +kernel
theorem lj:Str.ofString "(pair 7 7)" = toS (fC 7 7).txt:=by
 unfold fC;rw[ak.txt]
 decide +kernel
theorem kG:∀ {n:Nat}{f:ak},ak.Good n f->∀ c∈f.txt,c<128
 | 0,_,h=>h.elim
 | n+1,.name w,h=>fun c hc=>by
  rw[ak.txt]at hc;have:=m8 (show dI w=true from h) c hc;unfold bz at this;have:=x0 this;omega
 | n+1,.pl f,h=>fun c hc=>by
  rw[ak.txt]at hc;rcases xB.mp hc with rfl | hc
  ·decide
  rcases xU.mp hc with hc | hc
  ·have:=ky f c hc
   unfold bz at this;have:=x0 this;omega
  rcases xU.mp hc with hc | hc
  ·obtain⟨g,hg,hc⟩:=List.mem_flatMap.mp hc
   rcases xB.mp hc with rfl | hc
   ·decide
   ·have:=(e8 (h.2 g hg)).1 c hc
    omega
  ·rw[xG.mp hc];decide
 | n+1,.back f,h=>fun c hc=>by
  rw[ak.txt]at hc;have ih:=kG (n:=n) (f:=f) h;rcases xB.mp hc with rfl | hc
  ·decide
  rcases xU.mp hc with hc | hc
  ·have:=i3.2 c hc
   unfold bz at this;have:=x0 this;omega
  rcases xU.mp hc with hc | hc
  ·rcases xB.mp hc with rfl | hc
   ·decide
   ·exact ih c hc
  ·rw[xG.mp hc];decide
 | n+1,.row fs,h=>fun c hc=>by
  rw[ak.txt,dN]at hc;rcases xB.mp hc with rfl | hc
  ·decide
  rcases xU.mp hc with hc | hc
  ·have:=i3.1 c hc
   unfold bz at this;have:=x0 this;omega
  rcases xU.mp hc with hc | hc
  ·obtain⟨g,hg,hc⟩:=List.mem_flatMap.mp hc
   rcases xB.mp hc with rfl | hc
   ·decide
   ·exact kG (n:=n) (h.2.2 g hg) c hc
  ·rw[xG.mp hc];decide
theorem kF {n:Nat}{f:ak}(h:ak.Good n f):mP (toS f.txt):=o8 fun c hc=>kG h c (by have hc:c∈aD (toS f.txt):=hc;rwa [cH]at hc)
theorem dJ {f:ak}(h:ak.Good 8 f):figM 8 (aD (toS f.txt))=some (f,[]):=by
 rw[cH];have:=lD 8 f h [] (fun c hc=>by cases hc)
 rwa [yH]at this
theorem GK.seq {K:PySem.W.Frag}{H H':Hp}{a:Addr}{xs:List V}(g:GK H H')(h:bd K H a xs):bd K H' a xs:=by
 rcases h with (h | ⟨o,h⟩) | h
 ·exact .inl (.inl (g _ _ h fun _ z=>nomatch z))
 ·exact .inl (.inr ⟨o,g _ _ h fun _ z=>nomatch z⟩)
 ·exact .inr h
theorem lQ:∀ n,(fZ n).txt.length=3+7*n
 | 0=>by show (ak.name "hey").txt.length=3;rw[ak.txt];decide +kernel
 | n+1=>by show (ak.back (fZ n)).txt.length=_;rw[dH,lQ n];omega
theorem mx:(dL 7).txt.length<=200000:=by rw[<-bO,<-sd];decide +kernel
theorem mK:fF.txt.length<=200000:=by rw[<-bO,<-qJ];decide +kernel
theorem qU:(fC 999999999999 0).txt.length<=200000:=by rw[<-bO,<-mo];decide +kernel
end Wz
namespace L2
open PySem
theorem oy {P:Program}{w:World}{K:PySem.W.Frag}{mg:Str->Option Value}{base:Heap}{CX:j4}{k:Nat}{f:Addr}{fd:FuncData}{ps:List Str}{sp sp':Sp}(m:∀ vs H Q E,sp' vs H Q E->sp vs H Q E)(F:a7 P w K mg base CX k f fd ps sp):a7 P w K mg base CX k f fd ps sp' :=
 ⟨fun vs H Q E h=>F.len vs H Q E (m vs H Q E h),fun A outer s H args us vs Q E hr e0 hb r h=>F.run A outer s H args us vs Q E hr e0 hb r (m vs H Q E h)⟩
end L2
namespace Wk45
open PySem L2 Wz
def iR (i:Nat):Stmt:=PySem.Challenge.pw_lastwaltz_k45_written_and_read.main.body.getD i (.Pass ⟨0,0,0,0⟩)
structure Txt (mg:Str->Option Value):Prop where
 len:mg "len" = none
 range:mg "range" = none
 isinstance:mg "isinstance" = none
 tuple:mg "tuple" = none
 list:mg "list" = none
 int:mg "int" = none
 bool:mg "bool" = none
 all:mg "all" = none
 any:mg "any" = none
 sorted:mg "sorted" = none
 reversed:mg "reversed" = none
 bset:mg "set" = none
 bmin:mg "min" = none
 bmax:mg "max" = none
 dict:mg "dict" = none
 zip:mg "zip" = none
 enumerate:mg "enumerate" = none
 sum:mg "sum" = none
 str:mg "str" = none
section
variable {P:Program}{w:World}{K:PySem.W.Frag}{mg:Str->Option Value}{base:Heap}{c:HX}{co cq ck f P0 P1 cB cT kd cL cF cs:Addr}{qz:o7}{lp:Pos}{ql:Str}{fd:FuncData}
abbrev d8:Stmt:=iR 7
abbrev kl:List Str:=["word"]
theorem nk:aF kl ["word"] (ah d8):=iP
abbrev bS:Stmt:=iR 13
abbrev dA:List Str:=["figure"]
theorem jJ:aF dA ["figure"] (ah bS):=iP
abbrev jP:Stmt:=iR 14
abbrev rA:List Str:=["figure","words"]
theorem mC:aF rA ["figure"] (ah jP):=iP
abbrev cz:Stmt:=iR 15
abbrev fB:List Str:=["word"]
theorem jI:aF fB ["word"] (ah cz):=iP
abbrev fS:Stmt:=iR 16
abbrev oM:List Str:=["text","at","end"]
theorem fQ:aF oM ["text","at"] (ah fS):=iP
abbrev ei:Stmt:=iR 17
abbrev l6:List Str:=["text","at","word","end","number"]
theorem c5:aF l6 ["text","at"] (ah ei):=iP
abbrev eU:Stmt:=iR 18
abbrev m7:List Str:=["text","at","read_part","parts","part"]
theorem dy:aF m7 ["text","at","read_part"] (ah eU):=iP
abbrev d7:Stmt:=iR 19
abbrev lX:List Str:=["word","parts","fewest","most"]
theorem d5:aF lX ["word","parts"] (ah d7):=iP
abbrev az:Stmt:=iR 20
abbrev kW:List Str:=["text","at","deep","word","parts"]
abbrev aj:Str:=(("bracket_at" : Str)++".<locals>.")++"<lambda>"
abbrev ao:Pos:=v9 (dk az)
theorem bu:aF kW ["text","at","deep"] (ah az):=iP
abbrev d6:Stmt:=iR 21
abbrev lW:List Str:=["text","at","deep","word","end"]
theorem d4:aF lW ["text","at","deep"] (ah d6):=iP
abbrev dh:Stmt:=iR 22
abbrev jV:List Str:=["text","figure","end"]
theorem db:aF jV ["text"] (ah dh):=iP
abbrev df:Stmt:=iR 24
abbrev jU:List Str:=["_law_script","_law_k"]
theorem jH:aF jU ["_law_script","_law_k"] (ah df):=iP
abbrev eS:Stmt:=iR 25
abbrev m5:List Str:=["_law_cell"]
theorem mB:aF m5 ["_law_cell"] (ah eS):=iP
abbrev d9:Stmt:=iR 26
abbrev lY:List Str:=["_law_cell","_law_many","_law_base","_law_left","_law_row","_law_count","_law_k","_law_now"]
theorem aS:aF lY ["_law_cell","_law_many","_law_base"] (ah d9):=iP
abbrev ec:Stmt:=iR 27
abbrev lZ:List Str:=["_law_k","_law_cell","_law_left","_law_turn","_law_number"]
theorem cY:aF lZ ["_law_k","_law_cell"] (ah ec):=iP
abbrev eT:Stmt:=iR 28
abbrev m6:List Str:=["_law_cell","_law_letters","_law_word_here","_law_drawn"]
theorem cR:aF m6 ["_law_cell"] (ah eT):=iP
abbrev c6:Stmt:=iR 29
abbrev iF:List Str:=["_law_drawn","_law_many","_law_step"]
theorem cZ:aF iF ["_law_drawn"] (ah c6):=iP
abbrev cx:Stmt:=iR 30
abbrev eK:List Str:=["_law_drawn","_law_cell","_law_kind","_law_ranks_here","_law_first","_law_step","_law_guests"]
theorem bV:aF eK ["_law_drawn","_law_cell"] (ah cx):=iP
abbrev ee:Stmt:=iR 31
abbrev l5:List Str:=["_law_figure_here"]
theorem lE:aF l5 ["_law_figure_here"] (ah ee):=iP
abbrev bA:Stmt:=iR 32
abbrev cJ:List Str:=["_law_shelf","_law_drawn","_law_names","_law_kind","_law_many","_law_parts","_law_deep","_law_part","_law_often"]
theorem aT:aF cJ ["_law_shelf","_law_drawn","_law_names"] (ah bA):=iP
abbrev cM:Stmt:=iR 33
abbrev gh:List Str:=["_law_draws_here","_law_cell","_law_names","_law_shelf","_law_drawn"]
theorem dE:aF gh ["_law_draws_here","_law_cell","_law_names"] (ah cM):=iP
abbrev bf:Stmt:=iR 34
abbrev cu:List Str:=["_law_figure_here","_law_kind","_law_guests"]
theorem bI:aF cu ["_law_figure_here"] (ah bf):=iP
abbrev dF:Stmt:=iR 35
abbrev kX:List Str:=["_law_figure_here","_law_found","_law_part"]
theorem bZ:aF kX ["_law_figure_here"] (ah dF):=iP
abbrev eR:Stmt:=iR 36
abbrev m4:List Str:=["_law_text","_law_found"]
theorem dw:aF m4 ["_law_text"] (ah eR):=iP
abbrev lL:Stmt:=iR 37
abbrev rX:List Str:=["_law_script","_law_cell","_law_k","_law_word_here","_law_draws_here","_law_figure_here","_law_part","_law_text","_law_deep","_law_big","_law_rows","_law_wide"]
theorem bL:aF rX ["_law_script"] (ah lL):=iP
variable (T:Txt mg)(UO:uv K mg w cF kd cs qz)
include T UO
theorem jw (F:ek K "is_name" "is_name" d8 f fd) : a7 P w K mg base gI 1 f fd ["word"] gC:=by
 refine F.ok nk (fun vs H Q E h=>?_) (fun cdv A outer s H vs Q E hr h=>?_)
 ·obtain⟨z,rfl,_⟩:=h
  rfl
 ·obtain⟨z,rfl,asc,len,k⟩:=h
  have hu:=pH hr;have sl:sizeLine=16777216:=xY
  have zl:z.length<=sizeLine:=by omega
  have hz:z.length=z.cps.toList.length:=by rw[xW];rfl
  refine⟨_,ac (aJ (PW.pt (kt (ap fb (pv 0) (gv (v:=.ref kd) (by rfl) UO.mkd rfl) rfl) (ii (fO (jF ko ko (af) (aR cW (by rfl) T.len ya (bT (pv 0))) (eN (by rfl) UO.ml)))))) (ag (ax (kr))) (aq)) (
   ag (ax (aR (gQ rfl) (by rfl) T.all PyProof.Rows.boot_all (bT (bM (so:=ah d8) (N:=kl) (N':=["sign"]) (src:=[none]) rfl rfl nE rfl (p7 (pv 0)) (fun cl C s2 H2 ex=>⟨ey 0 (show (["sign"]:List Str).Nodup by decide +kernel),bN,gp kn (pv 0) (eN (by rfl) UO.mt) rfl⟩)))))),?_⟩
  obtain⟨o,its,n,k1,k2,k3,k4,k5⟩:=UO.kd;refine⟨_,rfl,kd,kindsL.map V.str,rfl,.inr (.inr ⟨o,its,n,k1,k2,k3,k4,k5⟩),rfl,ox _,_,rfl,?_⟩;unfold dI at k;rw[show (if false=true then !rg (V.str z) (kindsL.map V.str) else rg (V.str z) (kindsL.map V.str))=decide (z∈kindsL) from iV z kindsL]
  by_cases c1:z∈kindsL
  ·rw[xo c1]at k ⊢
   exact aG (k H (aB.refl _))
  rw[xn c1]at k ⊢;refine ar ⟨_,rfl,z,rfl,zl,_,_,rfl,rfl,_,rfl,?_⟩
  by_cases h1:1<=z.length
  ·rw[xo (show (1:Int)<=(z.length:Int) by omega)]
   refine aG ⟨_,_,rfl,rfl,_,rfl,?_⟩
   by_cases h2:z.length<=12
   ·rw[xo (show (z.length:Int)<=12 by omega)]
    rw[xo (show 1<=z.length/\z.length<=12 from ⟨h1,h2⟩)]at k;refine ar ⟨_,rfl,z,rfl,asc,fun q hq=>?_⟩;refine ku (f:=bz) hq (by omega) (fun c HK Q' sK kk=>?_) (fun H1 s1 hq1=>?_)
    ·refine⟨_,rfl,_,_,rfl,rfl,?_⟩
     rw[tj];exact kk HK (aB.refl _)
    refine⟨q,_,rfl,bd.of hq1,?_⟩;rw[show (z.cps.toList.map bz).all id=z.cps.toList.all bz by rw[List.all_map];rfl];exact k H1 s1
   ·rw[xn (show ¬ (z.length:Int)<=12 by omega)]
    rw[xn (show ¬ (1<=z.length/\z.length<=12) from fun q=>h2 q.2)]at k;exact aG (k H (aB.refl _))
  ·rw[xn (show ¬ (1:Int)<=(z.length:Int) by omega)]
   rw[xn (show ¬ (1<=z.length/\z.length<=12) from fun q=>h1 q.1)]at k;exact ar ⟨_,rfl,aG (k H (aB.refl _))⟩
theorem jB (F:ek K "shown_parts" "shown_parts" bS f fd){n:Nat}(hn:n<=9)(Cshown:au P w K mg base "shown" (2*n+2) ["figure"] (de n)):a7 P w K mg base gI (2*n+2+1) f fd ["figure"] (qq (n+1)):=by
 refine F.ok jJ (fun vs H Q E h=>?_) (fun cdv A outer s H vs Q E hr h=>?_)
 ·obtain⟨p,f,rfl,_⟩:=h
  rfl
 ·obtain⟨p,f,rfl,hf,g,tl,nn,k⟩:=h
  have two:(2:Nat)<=sizeLine:=by decide
  refine⟨_,ac (aJ (ap bC (aO aV (pv 0) (af) (fun _ _=>rfl)) (ai) (aA _)) (ag (ax (dB (di (a6 f8 (by rfl) T.str yJ (bT (aO aV (pv 0) (af) (fun _ _=>rfl)))) (a6 f8 (by rfl) T.str yJ (bT (aO aV (pv 0) (af) (fun _ _=>rfl)))))))) (aq)) (
   ac (aJ (ap bC (aO aV (pv 0) (af) (fun _ _=>rfl)) (ai) (aA _)) (ag (ax (dB (bT (aN Cshown (hr.mono (by omega)) rfl (bT (aO aV (pv 0) (af) (fun _ _=>rfl)))))))) (aq)) (
   ac (aJ (ap bC (aO aV (pv 0) (af) (fun _ _=>rfl)) (ai) (aA _)) (ag (ax (bM (so:=ah bS) (N:=dA) (N':=["inner"]) (src:=[none]) rfl rfl nE rfl (lz (aO aV (pv 0) (af) (fun _ _=>rfl))) (fun cl C s2 H2 ex=>⟨ey 0 (show (["inner"]:List Str).Nodup by decide +kernel),bN,aN Cshown (hr.mono (by omega)) rfl (bT (pv 0))⟩)))) (aq)) (
   ag (ax (bM (so:=ah bS) (N:=dA) (N':=["guest"]) (src:=[none]) rfl rfl nE rfl (lz (aO aV (pv 0) (af) (fun _ _=>rfl))) (fun cl C s2 H2 ex=>⟨ey 0 (show (["guest"]:List Str).Nodup by decide +kernel),bN,a6 f8 (by rfl) T.str yJ (bT (pv 0))⟩)))))),?_⟩
  obtain⟨xs,hp⟩:=hf.hd;refine⟨_,rfl,p,_,0,_,rfl,rfl,aW.of hp,aC (j:=0) rfl,rfl,_,rfl,?_⟩
  cases f with
  | name w=>exact absurd rfl (nn w)
  | back f =>
   rw[show decide (V.str (ak.back f).word=V.str (Str.ofString "pair"))=false by show decide (V.str (Str.ofString "back")=V.str (Str.ofString "pair"))=false;decide +kernel];refine ar ⟨_,rfl,p,_,0,_,rfl,rfl,aW.of hp,aC (j:=0) rfl,rfl,_,rfl,?_⟩;rw[qE];obtain⟨q,e1,e2⟩:=hf;have:=dH f;exact aG ⟨_,rfl,p,_,1,_,rfl,rfl,aW.of e1,rfl,q,f,rfl,e2,g,by omega,fun H1 s1=>⟨by show (1:Nat)<=sizeLine;decide,fun l hl=>k l _ (s1.trans (ae hl)) aa⟩⟩
  | row fs =>
   rw[show decide (V.str (ak.row fs).word=V.str (Str.ofString "pair"))=false by show decide (V.str (Str.ofString "row")=V.str (Str.ofString "pair"))=false;decide +kernel];refine ar ⟨_,rfl,p,_,0,_,rfl,rfl,aW.of hp,aC (j:=0) rfl,rfl,_,rfl,?_⟩;rw[qH];refine ar ⟨_,rfl,p,_,0,_,rfl,rfl,aW.of hp,aC (j:=0) rfl,rfl,_,rfl,?_⟩;rw[qI];obtain⟨t,as,e1,e2,fl,pr⟩:=hf;have al:=xN pr;have fl60:=g.2.1;refine aG ⟨_,rfl,p,_,1,_,rfl,rfl,aW.of e1,rfl,t,rfl,⟨_,aW.of e2⟩,fun q hq=>?_⟩
   refine iU (K:=K) (a:=t) (xs:=as.map V.ref) (fun i σ HK=>∃ v:Option V,σ=[v]/\aB H HK/\HK q=some (.lst (((fs.take i).map fun f=>toS f.txt).map V.str)))
    ⟨none,rfl,ae hq,aa⟩ (fun i σ HK _ ⟨_,_,s2,_⟩=>aW.of (s2 _ _ e2)) ?_ ?_
   ·rintro i y σ HK hi ⟨v,rfl,s2,hq2⟩
    obtain⟨a,ha,rfl⟩:=cr hi;obtain⟨u,hu,hA⟩:=cE pr ha;have um:=xO hu;have:=gz um;refine cA ⟨_,rfl,a,u,rfl,hA.mono (fun _ _ z=>s2 _ _ z),g.2.2 u um,by omega,fun H5 s5=>⟨_,s5 _ _ hq2,by rw[xk,xk,xS];exact bK (by omega),_,rfl,bX (s2.trans s5) hq,?_⟩⟩;rw[aa,ym,hu,yi,xC,xC];rfl
   rintro σ HK ⟨v,rfl,s2,hq2⟩;rw[xk,al,yq]at hq2;exact k q HK s2 hq2
  | pl f =>
   obtain⟨hA,ok⟩:=hf;have gs:=g.2
   by_cases cp:f.isP=true
   ·obtain⟨a,b,rfl⟩:∃ a b,f=.pair a b:=by
     cases f with
     | pair a b=>exact⟨a,b,rfl⟩
     | _=>cases cp
    have hp:H p=some (.tup [.str "pair",.int a,.int b]):=hA;rw[show decide (V.str (ak.pl (.pair a b)).word=V.str (Str.ofString "pair"))=true from xo rfl];exact aG ⟨_,rfl,p,_,1,_,rfl,rfl,aW.of hp,rfl,.inr ⟨a,rfl,dX (gs a (by simp[bE.gs])),_,rfl,p,_,2,_,rfl,rfl,aW.of hp,rfl,.inr ⟨b,rfl,dX (gs b (by simp[bE.gs])),two,fun l hl=>k l _ (ae hl) aa⟩⟩⟩
   ·have cp:f.isP=false:=by cases e:f.isP with | true=>exact absurd e cp | false=>rfl
    obtain⟨q,e1,e2⟩:=hA.gr cp
    have wn:decide (V.str (ak.pl f).word=V.str (Str.ofString "pair"))=false:=by
     cases f with
     | pair a b=>cases cp
     | line g=>show decide (V.str (Str.ofString "line")=V.str (Str.ofString "pair"))=false;decide +kernel
     | star g=>show decide (V.str (Str.ofString "star")=V.str (Str.ofString "pair"))=false;decide +kernel
     | all g=>show decide (V.str (Str.ofString "all")=V.str (Str.ofString "pair"))=false;decide +kernel
     | quad a b c d=>show decide (V.str (Str.ofString "quad")=V.str (Str.ofString "pair"))=false;decide +kernel
    rw[wn];refine ar ⟨_,rfl,p,_,0,_,rfl,rfl,aW.of hp,aC (j:=0) rfl,rfl,_,rfl,?_⟩;rw[qF];refine ar ⟨_,rfl,p,_,0,_,rfl,rfl,aW.of hp,aC (j:=0) rfl,rfl,_,rfl,?_⟩;rw[qG];have fl60:=ok.2.1;refine ar ⟨_,rfl,p,_,1,_,rfl,rfl,aW.of e1,rfl,q,rfl,⟨_,aW.of e2⟩,fun l hl=>?_⟩
    refine iU (K:=K) (a:=q) (xs:=f.gs.map V.int) (fun i σ HK=>∃ v:Option V,σ=[v]/\aB H HK/\HK l=some (.lst (((f.gs.take i).map eL).map V.str)))
     ⟨none,rfl,ae hl,aa⟩ (fun i σ HK _ ⟨_,_,s2,_⟩=>aW.of (s2 _ _ e2)) ?_ ?_
    ·rintro i y σ HK hi ⟨v,rfl,s2,hq2⟩
     obtain⟨a,ha,rfl⟩:=cr hi;refine cA ⟨_,rfl,.inr ⟨a,rfl,dX (gs a (xO ha)),_,hq2,by rw[xk,xk,xS];exact bK (by omega),_,rfl,bX s2 hl,?_⟩⟩;rw[aa,ym,ha,yi,xC,xC];rfl
    rintro σ HK ⟨v,rfl,s2,hq2⟩;rw[xk,yq]at hq2;exact k l HK s2 hq2
theorem pV (F:ek K "shown" "shown" jP f fd){n:Nat}(hn:n<=9)(Cshown_parts:au P w K mg base "shown_parts" (2*n+3) ["figure"] (qq (n+1))):a7 P w K mg base gI (2*n+3+1) f fd ["figure"] (de (n+1)):=by
 refine F.ok mC (fun vs H Q E h=>?_) (fun cdv A outer s H vs Q E hr h=>?_)
 ·obtain⟨p,f,rfl,_⟩:=h
  rfl
 ·obtain⟨p,f,rfl,hf,g,tl,k⟩:=h
  have sl:sizeLine=16777216:=xY
  refine⟨_,ac (aJ (ap bC (aO aV (pv 0) (af) (fun _ _=>rfl)) (ai) (aA _)) (ag (ax (aO aV (pv 0) (af) (fun _ _=>rfl)))) (aq)) (
   ac (aL 1 mC.nd (lu K (ai) (am m9 (dB (bT (aO aV (pv 0) (af) (fun _ _=>rfl)))) (aN Cshown_parts (hr.mono (by omega)) rfl (bT (pv 0)))))) (
   ag (ax (rG (pv 1) (by decide +kernel) (by decide +kernel))))),?_⟩
  obtain⟨xs,hp⟩:=hf.hd;refine⟨_,rfl,p,_,0,_,rfl,rfl,aW.of hp,aC (j:=0) rfl,rfl,_,rfl,?_⟩
  by_cases hnm:∃ w,f=.name w
  ·obtain⟨w,rfl⟩:=hnm
   rw[sj];refine aG ⟨_,rfl,p,_,1,_,rfl,rfl,aW.of hf.1,rfl,?_⟩;have:=k H (aB.refl _);rw[ak.txt,dU]at this;exact this
  ·have nn:∀ w,f≠.name w:=fun w e=>hnm ⟨w,e⟩
   rw[show decide (V.str f.word=V.str (Str.ofString "name"))=false by cases f with | name w=>exact absurd rfl (nn w) | pl f=>exact sk f | back f=>exact si f | row fs=>exact sm fs];refine ar ⟨rfl,_,rfl,p,_,0,_,rfl,rfl,aW.of hp,aC (j:=0) rfl,by show (1:Nat)<=sizeLine;decide,fun l1 hl1=>?_⟩;have s1:=ae (o:=.lst [.str f.word]) hl1;refine⟨_,rfl,p,f,rfl,hf.mono (fun _ _ z=>s1 _ _ z),g,tl,nn,fun l H2 s2 hl=>?_⟩;have pf:=oP g;have pe:=ng nn
   have wl:f.word.length<=200000:=by
    have:=ie nn;have:=yn List.length this;rw[xF,xv,<-bn]at this;omega
   refine⟨l1,l,_,_,rfl,rfl,s2 _ _ aa,hl,by rw[xk];show 1+(c8 f).length<=sizeLine;omega,fun l3 hl3=>?_⟩;have s3:=ae (o:=.lst ([.str f.word]++(c8 f).map V.str)) hl3;refine⟨_,l3,f.word::c8 f,rfl,rfl,bd.of aa,kS (B:=200000) (fun y hy=>?_) ?_,?_⟩
   ·rcases xB.mp hy with rfl | hy
    ·exact wl
    ·have:=pe y hy
     omega
   ·rw[xF,show (Str.ofString " ").length=1 by decide +kernel]
    omega
   have jl:(Txt.join (Str.ofString " ") (f.word::c8 f)).length<=200000:=by
    have:=mD nn;have:=yn Str.length this;rw[bO,show ∀ x y:Str,(x++y).length=x.length+y.length from strLen_append,show ∀ x y:Str,(x++y).length=x.length+y.length from strLen_append]at this;omega
   refine⟨_,rfl,_,rfl,by omega,?_⟩;rw[mD nn];exact k _ (s1.trans (s2.trans s3))
theorem jA (F:ek K "read_number" "read_number" cz f fd) : a7 P w K mg base gI 1 f fd ["word"] nX:=by
 refine F.ok jI (fun vs H Q E h=>?_) (fun cdv A outer s H vs Q E hr h=>?_)
 ·obtain⟨z,rfl,_⟩:=h
  rfl
 ·obtain⟨z,rfl,asc,len,k1,k2⟩:=h
  have hu:=pH hr
  refine⟨_,ac (aJ (PW.pt (kt (fO (jF ko ko (af) (aR cW (by rfl) T.len ya (bT (pv 0))) (eN (by rfl) UO.md))) (ii (fO (lC (aR (gQ rfl) (by rfl) T.all PyProof.Rows.boot_all (bT (bM (so:=ah cz) (N:=fB) (N':=["sign"]) (src:=[none]) rfl rfl nE rfl (p7 (pv 0)) (fun cl C s2 H2 ex=>⟨ey 0 (show (["sign"]:List Str).Nodup by decide +kernel),bN,gp kn (pv 0) (eN (by rfl) UO.dg) rfl⟩))))))))) (ag (ax (nh))) (aq)) (
   ac (aJ (PW.pt (ig (ap bC (aO mY (pv 0) (af) (fun _ _=>rfl)) (ai) (aA _)) (gw (ap iI (pv 0) (ai) (aA _))))) (ag (ax (nh))) (aq)) (
   ag (ax (a6 om (by rfl) T.int PyProof.Rows.boot_int (bT (pv 0)))))),?_⟩
  have sl:sizeLine=16777216:=xY
  have zl:z.length<=sizeLine:=by omega
  have hz:z.length=z.cps.toList.length:=by rw[xW];rfl
  have zz:(Str.ofString "0").cps.toList=[48]:=by decide +kernel
  refine⟨_,rfl,z,rfl,zl,_,_,rfl,rfl,_,rfl,?_⟩
  by_cases h1:1<=z.length
  ·rw[xo (show (1:Int)<=(z.length:Int) by omega)]
   refine aG ⟨_,_,rfl,rfl,_,rfl,?_⟩
   by_cases h2:z.length<=12
   ·rw[xo (show (z.length:Int)<=12 by omega)]
    refine ar ⟨_,rfl,z,rfl,asc,fun q hq=>?_⟩;refine ku (f:=ji) hq (by omega) (fun c HK Q' sK kk=>?_) (fun H1 s1 hq1=>?_)
    ·refine⟨_,rfl,_,_,rfl,rfl,?_⟩
     rw[sO];exact kk HK (aB.refl _)
    refine⟨q,_,rfl,bd.of hq1,_,rfl,?_⟩
    by_cases h3:∀ c∈z.cps.toList,ji c=true
    ·rw[show (z.cps.toList.map ji).all id=true from xT.mpr fun b hb=>by obtain⟨c,hc,rfl⟩:=xP.mp hb;exact h3 c hc]
     obtain⟨c,l,hcl⟩:∃ c l,z.cps.toList=c::l:=by
      cases e:z.cps.toList with
      | nil=>rw[hz,e]at h1;exact absurd h1 (by decide)
      | cons c l=>exact⟨c,l,rfl⟩
     refine ar ⟨_,rfl,z,_,c,rfl,rfl,zl,by rw[hcl];exact aC (j:=0) rfl,rfl,_,rfl,?_⟩;rw[qu,zz]
     show if decide ([c]=[48])=true then _ else _
     have fin:¬ (z.cps.toList.head? = some 48/\z.cps.toList≠[48])->∃ ds,Num z ds:=fun h4=>(gi z).mpr ⟨h1,h2,h3,h4⟩
     by_cases h4:c=48
     ·rw[xo (by rw[h4])]
      refine aG ⟨_,rfl,rfl,_,rfl,?_⟩;rw[qu,zz]
      by_cases h5:z.cps.toList=[48]
      ·rw[xo h5]
       obtain⟨ds,N⟩:=fin fun q=>q.2 h5;exact ar ⟨_,rfl,z,ds,rfl,N,k1 ds H1 N s1⟩
      ·rw[xn h5]
       exact aG (k2 (fun ds N=>((gi z).mp ⟨ds,N⟩).2.2.2 ⟨by rw[hcl,h4];rfl,h5⟩) H1 s1)
     ·rw[xn (fun q=>h4 (List.cons.inj q).1)]
      obtain⟨ds,N⟩:=fin fun q=>h4 (by have:=q.1;rw[hcl]at this;exact xE this);exact ar (ar ⟨_,rfl,z,ds,rfl,N,k1 ds H1 N s1⟩)
    ·rw[show (z.cps.toList.map ji).all id=false from Bool.eq_false_iff.mpr fun q=>h3 fun c hc=>xT.mp q _ (x6 hc)]
     exact aG (k2 (fun ds N=>h3 ((gi z).mp ⟨ds,N⟩).2.2.1) H1 s1)
   ·rw[xn (show ¬ (z.length:Int)<=12 by omega)]
    exact aG (k2 (fun ds N=>h2 ((gi z).mp ⟨ds,N⟩).2.1) H (aB.refl _))
  ·rw[xn (show ¬ (1:Int)<=(z.length:Int) by omega)]
   exact ar ⟨_,rfl,aG (k2 (fun ds N=>h1 ((gi z).mp ⟨ds,N⟩).1) H (aB.refl _))⟩
theorem jC (F:ek K "word_at" "word_at" fS f fd) : a7 P w K mg base gI 1 f fd ["text","at"] fR:=by
 refine F.ok fQ (fun vs H Q E h=>?_) (fun cdv A outer s H vs Q E hr h=>?_)
 ·obtain⟨z,a,rfl,_⟩:=h
  rfl
 ·obtain⟨z,a,rfl,zl,al,k⟩:=h
  have sl:sizeLine=16777216:=xY
  have two:(2:Nat)<=sizeLine:=by decide
  have zl2:z.length<=sizeLine:=by omega
  refine⟨_,ac (aL 2 fQ.nd (pv 1)) (
   ac (mv yh (PW.pt (ig (ap mm (pv 2) (aR cW (by rfl) T.len ya (bT (pv 0))) (aA _)) (gw (ap lf (aO mY (pv 0) (pv 2) (fun _ _=>rfl)) (ai) rfl)))) (ag (tM (i:=2) fQ.nd rfl (Or.inl rfl) (af) sU))) (
   ag (ax (aK (di (da lG (pv 0) (cw (pv 1)) (cw (pv 2))) (pv 2)))))),?_⟩
  have hz:(aD z).length=z.length:=(bn z).symm
  have fin:∀ e:Nat,a<=e->e<=z.length->bP ((aD z).drop a)=((aD z).drop a).take (e-a)->∀ (v:Option V),vo (vq (eV (wS tO (o1 0) (qy (o1 1)) (qy (o1 2))) (eV (o1 2) nu))) { nx:=fun x H'=>Q V.non H',rt:=Q } [some (.str z),some (.int a),some (.int e)] H:=fun e h1 h2 h3 _=>by
   refine⟨_,rfl,_,rfl,_,rfl,_,rfl,_,rfl,z,rfl,zl2,_,rfl,two,fun t ht=>?_⟩;have:=k t ht;rw[h3,xS,xI,hz,yx (by omega),show a+(e-a)=e by omega]at this;rw[qV z h2];exact this
  refine⟨_,rfl,?_⟩;refine⟨fun m σ H'=>∃ e:Nat,σ=[some (.str z),some (.int a),some (.int e)]/\H'=H/\a<=e/\e<=z.length/\m=z.length-e/\bP ((aD z).drop a)=((aD z).drop a).take (e-a)++bP (((aD z).drop a).drop (e-a)),⟨_,a,rfl,rfl,xm _,al,rfl,by rw[Nat.sub_self];rfl⟩,?_⟩;rintro m σ H' ⟨e,rfl,rfl,h1,h2,rfl,h3⟩;refine⟨_,rfl,_,rfl,z,rfl,zl2,_,_,rfl,rfl,_,rfl,?_⟩
  by_cases lt:e<z.length
  ·rw[xo (show (e:Int)<(z.length:Int) by omega)]
   have hc:(aD z)[e]? = some (aD z)[e]:=List.getElem?_eq_getElem (by omega)
   have hc2:((aD z).drop a)[e-a]? = some (aD z)[e]:=by rw[List.getElem?_drop,show a+(e-a)=e by omega];exact hc
   refine aG ⟨_,rfl,_,rfl,z,e,(aD z)[e],rfl,rfl,zl2,aC (j:=e) hc,_,_,rfl,rfl,_,rfl,?_⟩;rw[tR]
   cases hs:et (aD z)[e] with
   | true=>exact ar (fin e h1 h2 (rP h3 hc2 hs) none)
   | false =>
    refine aG ⟨fun σ' H'=>∃ m',m'<z.length-e/\_,fun _ _ q=>q,_,rfl,_,_,rfl,rfl,z.length-(e+1),by omega,e+1,rfl,rfl,by omega,by omega,rfl,?_⟩;rw[show e+1-a=e-a+1 by omega];exact rO h3 hc2 hs
  ·rw[xn (show ¬ (e:Int)<(z.length:Int) by omega)]
   exact ar (ar (fin e h1 h2 (ue h3 (by rw[xI];omega)) none))
theorem lb (F:ek K "number_at" "number_at" ei f fd)(Cword_at:au P w K mg base "word_at" 1 ["text","at"] fR)(Cread_number:au P w K mg base "read_number" 1 ["word"] nX) : a7 P w K mg base (gJ P w) 2 f fd ["text","at"] (qp P0 lp ql cF (fun _=>True) numAt ut):=by
 refine F.okX c5 (fun vs H Q E h=>?_) (fun cdv A outer s H vs Q E hr h=>?_)
 ·obtain⟨z,a,rfl,_⟩:=h
  rfl
 ·obtain⟨z,a,rfl,asc,zl,al,_,tI,k1,k2⟩:=h
  have two:(2:Nat)<=sizeLine:=by decide
  refine⟨_,ac (eP (aN Cword_at hr.m rfl (di (pv 0) (pv 1))) (eO rfl (ba (ey 2 c5.nd) (ba (ey 3 c5.nd) dq)))) (
   ac (aL 4 c5.nd (aN Cread_number hr.m rfl (bT (pv 2)))) (
   ac (aJ (qb (tD (pv 4))) (ag (cQ UO.eF cN rfl hr.hd rfl UO.mF (i2 (dv ai (dv (ll (pv 1)) lA))))) (aq)) (
   ag (ax (aK (di (pv 4) (pv 3))))))),?_⟩
  refine⟨_,rfl,_,rfl,z,a,rfl,zl,al,fun t ht=>?_⟩;have s1:=ae (o:=.tup [.str (toS (bP ((aD z).drop a))),.int ((a+(bP ((aD z).drop a)).length:Nat):Int)]) ht;have wp:=nA al;have ea:numAt ((aD z).drop a)=(rdNum (toS (bP ((aD z).drop a)))).map fun n=>(n,((aD z).drop a).drop (bP ((aD z).drop a)).length):=rfl;refine⟨t,_,rfl,aW.of aa,rfl,_,_,rfl,_,_,rfl,rfl,?_⟩;refine⟨_,rfl,_,rfl,o9 asc a,by rw[bO];omega,fun ds H2 N s2=>?_,fun no H2 s2=>?_⟩
  ·rw[qg N]at ea
   refine⟨_,rfl,_,rfl,ar ⟨_,rfl,_,rfl,two,fun t2 ht2=>?_⟩⟩;have s12:=(s1.trans s2).trans (ae (o:=.tup [.int (numV ds),.int ((a+(bP ((aD z).drop a)).length:Nat):Int)]) ht2);exact k1 _ _ ea t2 (.int (numV ds)) _ (ca s12) (tI.same s12) (by rw[aa,wp.1]) rfl
  ·rw[u9 no]at ea
   exact⟨_,rfl,_,rfl,aG ⟨_,rfl,by decide,_,rfl,a,rfl,hX (by omega),fun y hy=>⟨y,rfl,hy,fun x=>k2 ea H2 (ca (s1.trans s2)) (tI.same (s1.trans s2))⟩⟩⟩
theorem iH (F:ek K "parts_at" "parts_at" eU f fd){α:Type}{J:Hp->Prop}{R:List Nat->Option (α×List Nat)}{At:Hp->V->α->Prop}{fl:Addr}{fdl:FuncData}{ol:Obj}{lv:Nat}{pa pb:Str}(hJ:∀ H H',J H->GL H H'->J H')(hAt:∀ H H' v x,At H v x->GL H H'->At H' v x)(shr:sJ R)(LA:a7 P w K mg base (gJ P w) lv fl fdl [pa,pb] (qp P0 lp ql cF J R At))(lob:base.get? fl=some ol)(lod:ol.data=.func fdl)(lbi:∀ (s:Shared)(us:List Value),us.length=([pa,pb]:List Str).length->BindsTo s fdl ⟨us,[]⟩ (([pa,pb]:List Str).zip us)):a7 P w K mg base (gJ P w) (lv+1) f fd ["text","at","read_part"] (mE P0 lp ql cF fl J R At):=by
 refine F.okX dy (fun vs H Q E h=>?_) (fun cdv A outer s H vs Q E hr h=>?_)
 ·obtain⟨z,a,rfl,_⟩:=h
  rfl
 ·obtain⟨z,a,rfl,asc,zl,al,j0,tI,k1,k2⟩:=h
  have two:(2:Nat)<=sizeLine:=by decide
  have sl:sizeLine=16777216:=xY
  have zl2:z.length<=sizeLine:=by omega
  refine⟨_,ac (aL 3 dy.nd (dB bW)) (
   ac (mv PassesOwn.leaving (ap bC (da lG (pv 0) (cw (pv 1)) (cw (am bg (pv 1) (af)))) (ai) (aA _)) (ac (eP (p5 (i:=2) LA (hr.mono (by omega)) rfl (Or.inl rfl) lob lod lbi fe (di (pv 0) (am bg (pv 1) (af)))) (eO rfl (ba (ey 4 dy.nd) (ba (ey 1 dy.nd) dq)))) (
   ag (cX (iM x9 ye yf cD (pv 3) (bT (pv 4))))))) (
   ac (aJ (ap iI (da lG (pv 0) (cw (pv 1)) (cw (am bg (pv 1) (af)))) (ai) (aA _)) (ag (cQ UO.eF cN rfl hr.hd rfl UO.mF (i2 (dv ai (dv (ll (pv 1)) lA))))) (aq)) (
   ag (ax (aK (di (a6 bJ (by rfl) T.tuple yu (bT (pv 3))) (am bg (pv 1) (af)))))))),?_⟩
  have hz:(aD z).length=z.length:=(bn z).symm;refine⟨xX _,fun lq hlq=>?_⟩;have s1:=ae (o:=.lst []) hlq;refine⟨fun m σ H'=>∃ (e:Nat)(vs:List V)(xs:List α)(fu:Nat)(v4:Option V),σ=[some (.str z),some (.int e),some (.ref fl),some (.ref lq),v4]/\GK H H'/\TabI H' P0 lp ql/\J H'/\H' lq=some (.lst vs)/\Paired (At H') vs xs/\e<=z.length/\m=z.length-e/\z.length-e<fu/\vs.length<=e/\be R (((aD z).drop a).length+1) ((aD z).drop a)=(be R fu ((aD z).drop e)).map fun q=>(xs++q.1,q.2),⟨_,a,[],[],((aD z).drop a).length+1,none,rfl,ca s1,tI.same s1,hJ _ _ j0 (nJ (ca s1)),aa,.nil,al,rfl,by rw[xI,hz];omega,xX _,by show _=Option.map (fun q=>q) _;rw[Option.map_id']⟩,?_⟩;rintro m σ H2 ⟨e,vs,xs,fu,v4,rfl,g2,t2,j2,h2,pr,el,rfl,fl2,vl,pm⟩;refine⟨_,rfl,_,rfl,_,rfl,_,rfl,_,_,rfl,rfl,_,rfl,z,rfl,zl2,rfl,_,rfl,?_⟩;rw[kJ,qr,kM];obtain⟨fu,rfl⟩:∃ n,fu=n+1:=⟨fu-1,by omega⟩
  by_cases hd:((aD z).drop e).head? = some 32
  ·rw[xo hd]
   have elt:=kN hd;refine aG ⟨fun σ' H'=>∃ m',m'<z.length-e/\_,fun _ _ q=>q,?_⟩;refine⟨rfl,_,rfl,_,rfl,_,_,rfl,rfl,z,e+1,by rw[Int.natCast_add];rfl,asc,zl,by omega,j2,t2,fun x r hr t v H5 g5 t5 ht av=>?_,fun hr H5 g5 t5=>?_⟩
   ·rw[<-x3]at hr
    refine⟨t,_,rfl,aW.of ht,rfl,_,_,rfl,_,_,rfl,rfl,?_⟩;have h5:=g5.lst h2;refine⟨_,rfl,.inl ⟨rfl,_,bd.of h5⟩,_,rfl,lq,_,_,rfl,rfl,h5,by omega,?_⟩;have g6:=sS (o:=.lst (vs++[v])) h5;obtain⟨k,hk⟩:=shr _ _ _ hr
    have rl:r.length<=z.length-(e+1):=by
     rw[hk,x3,x3,xI,hz];omega
    refine⟨z.length-(z.length-r.length),by omega,z.length-r.length,vs++[v],xs++[x],fu,_,rfl,sR (g2.trans g5) hlq,Wz.TabI.put t5 h5,hJ _ _ (hJ _ _ j2 (nJ g5)) g6,aa,bq (Paired.mapP pr fun _ _ q=>hAt _ _ _ _ (hAt _ _ _ _ q (nJ g5)) g6) (.cons (hAt _ _ _ _ av g6) .nil),by omega,rfl,by omega,by rw[xv,xR];omega,?_⟩;rw[pm,mq hd hr,Option.map_map,show (aD z).drop (z.length-r.length)=r by rw[<-hz];rw[x3]at hk;exact ow hk]
    congr 1
    funext q
    show (xs++(x::q.1),q.2)=((xs++[x])++q.1,q.2)
    rw[yS];rfl
   ·rw[<-x3]at hr
    refine k2 (by rw[pm,pY hd hr];rfl) H5 (g2.trans g5) t5
  ·rw[xn hd]
   refine ar ⟨_,rfl,_,rfl,_,rfl,_,rfl,_,_,rfl,rfl,_,rfl,z,rfl,zl2,rfl,_,rfl,?_⟩;rw[kJ,qt,kM]
   by_cases hd2:((aD z).drop e).head? = some 41
   ·rw[xo hd2]
    have elt:=kN hd2;refine ar ⟨_,rfl,lq,_,rfl,.inl ⟨bd.of h2,fun q hq=>⟨_,rfl,_,_,rfl,rfl,two,fun t ht=>?_⟩⟩⟩;have w1:=ae (o:=.tup vs) hq;have w2:=ae (o:=.tup [.ref q,.int ((e:Int)+1)]) ht;have w12:=ca (w1.trans w2);refine k1 xs (((aD z).drop e).drop 1) (by rw[pm,kq hd2];show some (xs++[],_)=_;rw[yH]) t q vs _ (g2.trans w12) (t2.same (w1.trans w2)) (by rw[aa,xI,xI,hz,show (z.length-(z.length-e-1):Nat)=e+1 by omega,Int.natCast_add];rfl) (w2 _ _ aa) (Paired.mapP pr fun _ _ y=>hAt _ _ _ _ y (nJ w12))
   ·rw[xn hd2]
    exact aG ⟨_,rfl,by decide,_,rfl,e,rfl,hX (by omega),fun y hy=>⟨y,rfl,hy,fun x=>k2 (by rw[pm,oO hd hd2];rfl) H2 g2 t2⟩⟩
theorem kY (F:ek K "figure_of" "figure_of" d7 f fd){dd:Nat}:a7 P w K mg base (gJ P w) 1 f fd ["word","parts"] (jM cF dd):=by
 refine F.okX d5 (fun vs H Q E h=>?_) (fun cdv A outer s H vs Q E hr h=>?_)
 ·rcases h with ⟨w,q,ps,fs,rfl,_⟩ | ⟨w,q,gs,rfl,_⟩<;>rfl
 ·have two:(2:Nat)<=sizeLine:=by decide
  have sl:sizeLine=16777216:=xY
  refine⟨_,ac (aJ (qb (oQ UO.sz (pv 0) (gv (v:=.ref cs) (by rfl) UO.ms rfl))) (ag (cQ UO.eF cN rfl hr.hd rfl UO.mF (ai))) (aq)) (
   ac (eP (tG UO.sz (gv (v:=.ref cs) (by rfl) UO.ms rfl) (pv 0) (fun _ _=>rfl)) (eO rfl (ba (ey 2 d5.nd) (ba (ey 3 d5.nd) dq)))) (
   ac (aJ (fO (jF ko ko (pv 2) (aR bh (by rfl) T.len ya (bT (pv 1))) (pv 3))) (ag (cQ UO.eF cN rfl hr.hd rfl UO.mF (i2 (dv ai (dv (tF (pv 0)) lA))))) (aq)) (
   ac (aJ (PW.pt (ig (ap bC (pv 0) (ai) (aA _)) (gw (ap mm (aR oo (by rfl) T.len ya (bT (a6 (ou rfl) (by rfl) T.bset PyProof.Rows.boot_set (bT (pv 1))))) (af) (aA _))))) (ag (cQ UO.eF cN rfl hr.hd rfl UO.mF (ai))) (aq)) (
   ac (aJ (ap bC (pv 0) (ai) (aA _)) (ag (ax (aK (nc (ai) (aO aV (pv 1) (af) (fun _ _=>rfl)) (aO aV (pv 1) (af) (fun _ _=>rfl)))))) (aq)) (
   ac (aJ (ap bC (pv 0) (ai) (aA _)) (ag (ax (aK (di (ai) (aO aV (pv 1) (af) (fun _ _=>rfl)))))) (aq)) (
   ag (ax (aK (di (pv 0) (pv 1)))))))))),?_⟩
  rcases h with ⟨w,q,ps,fs,rfl,hw,hq,pr,fl,k1,k2⟩ | ⟨w,q,gs,rfl,hw,hq,gl,wl,k1,k2⟩
  ·have pl:=xN pr
   rcases hw with rfl | rfl
   ·refine⟨_,rfl,_,rfl,_,rfl,?_⟩
    rw[vg];refine ar ⟨_,rfl,_,qz.q6,rfl,vg qz,?_⟩;refine⟨qz.q6,_,rfl,UO.t6.sq H,rfl,_,_,rfl,_,_,rfl,rfl,?_⟩;refine⟨_,rfl,_,rfl,q,_,rfl,.inr (aW.of hq),_,_,rfl,rfl,_,rfl,?_⟩;rw[xk,pl]
    by_cases c:1<=fs.length/\fs.length<=60
    ·rw[xo (show (1:Int)<=((fs.length:Nat):Int) by omega)]
     refine aG ⟨_,rfl,_,_,rfl,rfl,_,rfl,?_⟩;rw[xo (show ((fs.length:Nat):Int)<=60 by omega)];refine ar ⟨_,rfl,rfl,_,rfl,?_⟩;rw[show decide (V.str (Str.ofString "row")=V.str (Str.ofString "quad"))=false by decide +kernel];refine ar (ar ⟨_,rfl,rfl,_,rfl,?_⟩);rw[show decide (V.str (Str.ofString "row")=V.str (Str.ofString "pair"))=false by decide +kernel];refine ar ⟨_,rfl,rfl,_,rfl,?_⟩;rw[show decide (V.str (Str.ofString "row")=V.str (Str.ofString "back"))=false by decide +kernel];refine ar ⟨_,rfl,_,rfl,two,fun p hp=>k1 (.row fs) (by unfold cV;rw[xA rfl,xA c]) p _ (ae hp) ⟨q,ps,aa,ae hp _ _ hq,by omega,Paired.mapP pr fun _ _ z=>z.mono fun _ _ y=>ae hp _ _ y⟩⟩
    ·have nn:cV "row" fs=none:=by
      unfold cV;rw[xA rfl,xx c]
     by_cases c1:1<=fs.length
     ·rw[xo (show (1:Int)<=((fs.length:Nat):Int) by omega)]
      refine aG ⟨_,rfl,_,_,rfl,rfl,_,rfl,?_⟩;rw[xn (show ¬ ((fs.length:Nat):Int)<=60 by omega)];exact aG ⟨_,rfl,by decide,_,rfl,_,rfl,by decide,fun y hy=>⟨y,rfl,hy,fun x=>k2 nn H (aB.refl _)⟩⟩
     ·rw[xn (show ¬ (1:Int)<=((fs.length:Nat):Int) by omega)]
      exact ar ⟨_,rfl,aG ⟨_,rfl,by decide,_,rfl,_,rfl,by decide,fun y hy=>⟨y,rfl,hy,fun x=>k2 nn H (aB.refl _)⟩⟩⟩
   ·refine⟨_,rfl,_,rfl,_,rfl,?_⟩
    rw[vh];refine ar ⟨_,rfl,_,qz.q7,rfl,vh qz,?_⟩;refine⟨qz.q7,_,rfl,UO.t7.sq H,rfl,_,_,rfl,_,_,rfl,rfl,?_⟩;refine⟨_,rfl,_,rfl,q,_,rfl,.inr (aW.of hq),_,_,rfl,rfl,_,rfl,?_⟩;rw[xk,pl]
    by_cases c:1<=fs.length/\fs.length<=1
    ·rw[xo (show (1:Int)<=((fs.length:Nat):Int) by omega)]
     refine aG ⟨_,rfl,_,_,rfl,rfl,_,rfl,?_⟩;rw[xo (show ((fs.length:Nat):Int)<=1 by omega)];refine ar ⟨_,rfl,rfl,_,rfl,?_⟩;rw[show decide (V.str (Str.ofString "back")=V.str (Str.ofString "quad"))=false by decide +kernel];refine ar (ar ⟨_,rfl,rfl,_,rfl,?_⟩);rw[show decide (V.str (Str.ofString "back")=V.str (Str.ofString "pair"))=false by decide +kernel];refine ar ⟨_,rfl,rfl,_,rfl,?_⟩;rw[show decide (V.str (Str.ofString "back")=V.str (Str.ofString "back"))=true by decide +kernel];obtain⟨f,rfl⟩:=List.length_eq_one_iff.mp (show fs.length=1 by omega);obtain⟨p0,rfl⟩:=List.length_eq_one_iff.mp (show ps.length=1 by omega)
     obtain⟨hf,_⟩:aI dd H p0 f/\True:=by cases pr with | cons hf _=>exact⟨hf,trivial⟩
     exact aG ⟨_,rfl,q,_,0,_,rfl,rfl,aW.of hq,aC (j:=0) rfl,two,fun p hp=>k1 (.back f) (by unfold cV;rw[xx (by decide +kernel)]) p _ (ae hp) ⟨p0,aa,hf.mono fun _ _ y=>ae hp _ _ y⟩⟩
    ·have nn:cV "back" fs=none:=by
      unfold cV;rw[xx (by decide +kernel)]
      match fs,c with
      | [],_=>rfl
      | [f],c=>exact absurd ⟨xm _,xm _⟩ c
      | _::_::_,_=>rfl
     by_cases c1:1<=fs.length
     ·rw[xo (show (1:Int)<=((fs.length:Nat):Int) by omega)]
      refine aG ⟨_,rfl,_,_,rfl,rfl,_,rfl,?_⟩;rw[xn (show ¬ ((fs.length:Nat):Int)<=1 by omega)];exact aG ⟨_,rfl,by decide,_,rfl,_,rfl,by decide,fun y hy=>⟨y,rfl,hy,fun x=>k2 nn H (aB.refl _)⟩⟩
     ·rw[xn (show ¬ (1:Int)<=((fs.length:Nat):Int) by omega)]
      exact ar ⟨_,rfl,aG ⟨_,rfl,by decide,_,rfl,_,rfl,by decide,fun y hy=>⟨y,rfl,hy,fun x=>k2 nn H (aB.refl _)⟩⟩⟩
  ·by_cases w1:w="pair"
   ·subst w1
    refine⟨_,rfl,_,rfl,_,rfl,?_⟩;rw[vb];refine ar ⟨_,rfl,_,qz.q1,rfl,vb qz,?_⟩;refine⟨qz.q1,_,rfl,UO.t1.sq H,rfl,_,_,rfl,_,_,rfl,rfl,?_⟩;refine⟨_,rfl,_,rfl,q,_,rfl,.inr (aW.of hq),_,_,rfl,rfl,_,rfl,?_⟩;rw[xk]
    by_cases c:2<=gs.length/\gs.length<=2
    ·rw[xo (show (2:Int)<=((gs.length:Nat):Int) by omega)]
     refine aG ⟨_,rfl,_,_,rfl,rfl,_,rfl,?_⟩;rw[xo (show ((gs.length:Nat):Int)<=2 by omega)];refine ar ⟨_,rfl,rfl,_,rfl,?_⟩;rw[show decide (V.str (Str.ofString "pair")=V.str (Str.ofString "quad"))=false by decide +kernel];refine ar (ar ⟨_,rfl,rfl,_,rfl,?_⟩);rw[show decide (V.str (Str.ofString "pair")=V.str (Str.ofString "pair"))=true by decide +kernel]
     match gs,c,hq,k1 with
     | [a,b],_,hq,k1=>exact aG ⟨_,rfl,q,_,0,_,rfl,rfl,aW.of hq,aC (j:=0) rfl,_,rfl,q,_,1,_,rfl,rfl,aW.of hq,rfl,by show (3:Nat)<=sizeLine;decide,fun p hp=>k1 (.pl (.pair a b)) (by unfold bB;rw[xA rfl]) p _ (ae hp) ⟨aa,⟨by show 2<=2;decide,by show 2<=60;decide,fun _ _ _ _ z=>by cases z⟩⟩⟩
    ·have nn:bB "pair" gs=none:=by
      unfold bB;rw[xA rfl]
      match gs,c with
      | [],_=>rfl
      | [_],_=>rfl
      | [a,b],c=>exact absurd ⟨xm _,xm _⟩ c
      | _::_::_::_,_=>rfl
     by_cases c1:2<=gs.length
     ·rw[xo (show (2:Int)<=((gs.length:Nat):Int) by omega)]
      refine aG ⟨_,rfl,_,_,rfl,rfl,_,rfl,?_⟩;rw[xn (show ¬ ((gs.length:Nat):Int)<=2 by omega)];exact aG ⟨_,rfl,by decide,_,rfl,_,rfl,by decide,fun y hy=>⟨y,rfl,hy,fun x=>k2 nn H (aB.refl _)⟩⟩
     ·rw[xn (show ¬ (2:Int)<=((gs.length:Nat):Int) by omega)]
      exact ar ⟨_,rfl,aG ⟨_,rfl,by decide,_,rfl,_,rfl,by decide,fun y hy=>⟨y,rfl,hy,fun x=>k2 nn H (aB.refl _)⟩⟩⟩
   by_cases w2:w="line"
   ·subst w2
    refine⟨_,rfl,_,rfl,_,rfl,?_⟩;rw[vc];refine ar ⟨_,rfl,_,qz.q2,rfl,vc qz,?_⟩;refine⟨qz.q2,_,rfl,UO.t2.sq H,rfl,_,_,rfl,_,_,rfl,rfl,?_⟩;refine⟨_,rfl,_,rfl,q,_,rfl,.inr (aW.of hq),_,_,rfl,rfl,_,rfl,?_⟩;rw[xk]
    by_cases c:2<=gs.length/\gs.length<=60
    ·rw[xo (show (2:Int)<=((gs.length:Nat):Int) by omega)]
     refine aG ⟨_,rfl,_,_,rfl,rfl,_,rfl,?_⟩;rw[xo (show ((gs.length:Nat):Int)<=60 by omega)];refine ar ⟨_,rfl,rfl,_,rfl,?_⟩;rw[show decide (V.str (Str.ofString "line")=V.str (Str.ofString "quad"))=false by decide +kernel];refine ar (ar ⟨_,rfl,rfl,_,rfl,?_⟩);rw[show decide (V.str (Str.ofString "line")=V.str (Str.ofString "pair"))=false by decide +kernel];refine ar ⟨_,rfl,rfl,_,rfl,?_⟩;rw[show decide (V.str (Str.ofString "line")=V.str (Str.ofString "back"))=false by decide +kernel];refine ar ⟨_,rfl,_,rfl,two,fun p hp=>k1 (.pl (.line gs)) (by unfold bB;rw[xx (by decide +kernel),xx (by decide +kernel),xA c,xA rfl]) p _ (ae hp) ⟨⟨q,aa,ae hp _ _ hq⟩,⟨c.1,c.2,fun _ _ _ _ z=>by cases z⟩⟩⟩
    ·have nn:bB "line" gs=none:=by
      unfold bB;rw[xx (by decide +kernel),xx (by decide +kernel),xx c]
     by_cases c1:2<=gs.length
     ·rw[xo (show (2:Int)<=((gs.length:Nat):Int) by omega)]
      refine aG ⟨_,rfl,_,_,rfl,rfl,_,rfl,?_⟩;rw[xn (show ¬ ((gs.length:Nat):Int)<=60 by omega)];exact aG ⟨_,rfl,by decide,_,rfl,_,rfl,by decide,fun y hy=>⟨y,rfl,hy,fun x=>k2 nn H (aB.refl _)⟩⟩
     ·rw[xn (show ¬ (2:Int)<=((gs.length:Nat):Int) by omega)]
      exact ar ⟨_,rfl,aG ⟨_,rfl,by decide,_,rfl,_,rfl,by decide,fun y hy=>⟨y,rfl,hy,fun x=>k2 nn H (aB.refl _)⟩⟩⟩
   by_cases w3:w="star"
   ·subst w3
    refine⟨_,rfl,_,rfl,_,rfl,?_⟩;rw[vd];refine ar ⟨_,rfl,_,qz.q3,rfl,vd qz,?_⟩;refine⟨qz.q3,_,rfl,UO.t3.sq H,rfl,_,_,rfl,_,_,rfl,rfl,?_⟩;refine⟨_,rfl,_,rfl,q,_,rfl,.inr (aW.of hq),_,_,rfl,rfl,_,rfl,?_⟩;rw[xk]
    by_cases c:2<=gs.length/\gs.length<=60
    ·rw[xo (show (2:Int)<=((gs.length:Nat):Int) by omega)]
     refine aG ⟨_,rfl,_,_,rfl,rfl,_,rfl,?_⟩;rw[xo (show ((gs.length:Nat):Int)<=60 by omega)];refine ar ⟨_,rfl,rfl,_,rfl,?_⟩;rw[show decide (V.str (Str.ofString "star")=V.str (Str.ofString "quad"))=false by decide +kernel];refine ar (ar ⟨_,rfl,rfl,_,rfl,?_⟩);rw[show decide (V.str (Str.ofString "star")=V.str (Str.ofString "pair"))=false by decide +kernel];refine ar ⟨_,rfl,rfl,_,rfl,?_⟩;rw[show decide (V.str (Str.ofString "star")=V.str (Str.ofString "back"))=false by decide +kernel];refine ar ⟨_,rfl,_,rfl,two,fun p hp=>k1 (.pl (.star gs)) (by unfold bB;rw[xx (by decide +kernel),xx (by decide +kernel),xA c,xx (show ¬ ("star" : Str)="line" by decide +kernel),xA rfl]) p _ (ae hp) ⟨⟨q,aa,ae hp _ _ hq⟩,⟨c.1,c.2,fun _ _ _ _ z=>by cases z⟩⟩⟩
    ·have nn:bB "star" gs=none:=by
      unfold bB;rw[xx (by decide +kernel),xx (by decide +kernel),xx c]
     by_cases c1:2<=gs.length
     ·rw[xo (show (2:Int)<=((gs.length:Nat):Int) by omega)]
      refine aG ⟨_,rfl,_,_,rfl,rfl,_,rfl,?_⟩;rw[xn (show ¬ ((gs.length:Nat):Int)<=60 by omega)];exact aG ⟨_,rfl,by decide,_,rfl,_,rfl,by decide,fun y hy=>⟨y,rfl,hy,fun x=>k2 nn H (aB.refl _)⟩⟩
     ·rw[xn (show ¬ (2:Int)<=((gs.length:Nat):Int) by omega)]
      exact ar ⟨_,rfl,aG ⟨_,rfl,by decide,_,rfl,_,rfl,by decide,fun y hy=>⟨y,rfl,hy,fun x=>k2 nn H (aB.refl _)⟩⟩⟩
   by_cases w4:w="all"
   ·subst w4
    refine⟨_,rfl,_,rfl,_,rfl,?_⟩;rw[ve];refine ar ⟨_,rfl,_,qz.q4,rfl,ve qz,?_⟩;refine⟨qz.q4,_,rfl,UO.t4.sq H,rfl,_,_,rfl,_,_,rfl,rfl,?_⟩;refine⟨_,rfl,_,rfl,q,_,rfl,.inr (aW.of hq),_,_,rfl,rfl,_,rfl,?_⟩;rw[xk]
    by_cases c:2<=gs.length/\gs.length<=60
    ·rw[xo (show (2:Int)<=((gs.length:Nat):Int) by omega)]
     refine aG ⟨_,rfl,_,_,rfl,rfl,_,rfl,?_⟩;rw[xo (show ((gs.length:Nat):Int)<=60 by omega)];refine ar ⟨_,rfl,rfl,_,rfl,?_⟩;rw[show decide (V.str (Str.ofString "all")=V.str (Str.ofString "quad"))=false by decide +kernel];refine ar (ar ⟨_,rfl,rfl,_,rfl,?_⟩);rw[show decide (V.str (Str.ofString "all")=V.str (Str.ofString "pair"))=false by decide +kernel];refine ar ⟨_,rfl,rfl,_,rfl,?_⟩;rw[show decide (V.str (Str.ofString "all")=V.str (Str.ofString "back"))=false by decide +kernel];refine ar ⟨_,rfl,_,rfl,two,fun p hp=>k1 (.pl (.all gs)) (by unfold bB;rw[xx (by decide +kernel),xx (by decide +kernel),xA c,xx (show ¬ ("all" : Str)="line" by decide +kernel),xx (show ¬ ("all" : Str)="star" by decide +kernel),xA rfl]) p _ (ae hp) ⟨⟨q,aa,ae hp _ _ hq⟩,⟨c.1,c.2,fun _ _ _ _ z=>by cases z⟩⟩⟩
    ·have nn:bB "all" gs=none:=by
      unfold bB;rw[xx (by decide +kernel),xx (by decide +kernel),xx c]
     by_cases c1:2<=gs.length
     ·rw[xo (show (2:Int)<=((gs.length:Nat):Int) by omega)]
      refine aG ⟨_,rfl,_,_,rfl,rfl,_,rfl,?_⟩;rw[xn (show ¬ ((gs.length:Nat):Int)<=60 by omega)];exact aG ⟨_,rfl,by decide,_,rfl,_,rfl,by decide,fun y hy=>⟨y,rfl,hy,fun x=>k2 nn H (aB.refl _)⟩⟩
     ·rw[xn (show ¬ (2:Int)<=((gs.length:Nat):Int) by omega)]
      exact ar ⟨_,rfl,aG ⟨_,rfl,by decide,_,rfl,_,rfl,by decide,fun y hy=>⟨y,rfl,hy,fun x=>k2 nn H (aB.refl _)⟩⟩⟩
   by_cases w5:w="quad"
   ·subst w5
    refine⟨_,rfl,_,rfl,_,rfl,?_⟩;rw[vf];refine ar ⟨_,rfl,_,qz.q5,rfl,vf qz,?_⟩;refine⟨qz.q5,_,rfl,UO.t5.sq H,rfl,_,_,rfl,_,_,rfl,rfl,?_⟩;refine⟨_,rfl,_,rfl,q,_,rfl,.inr (aW.of hq),_,_,rfl,rfl,_,rfl,?_⟩;rw[xk]
    by_cases c:4<=gs.length/\gs.length<=4
    ·rw[xo (show (4:Int)<=((gs.length:Nat):Int) by omega)]
     refine aG ⟨_,rfl,_,_,rfl,rfl,_,rfl,?_⟩;rw[xo (show ((gs.length:Nat):Int)<=4 by omega)];refine ar ⟨_,rfl,rfl,_,rfl,?_⟩;rw[show decide (V.str (Str.ofString "quad")=V.str (Str.ofString "quad"))=true by decide +kernel]
     match gs,c,hq,k1,k2 with
     | [a,b,d,e],_,hq,k1,k2 =>
      refine aG ⟨_,rfl,q,[a,b,d,e],rfl,aW.of hq,by show 4<=1000;decide,fun l S n hl nle niff=>⟨l,S,n,rfl,aa,_,_,rfl,rfl,_,rfl,?_⟩⟩;have s1:=ae (o:=.set S n) hl;have nle:n<=4:=nle;have niff:n=4↔[a,b,d,e].Nodup:=niff
      by_cases nd:[a,b,d,e].Nodup
      ·rw[niff.mpr nd]
       rw[niff.mpr nd]at s1;refine ar ⟨_,rfl,rfl,_,rfl,?_⟩;rw[show decide (V.str (Str.ofString "quad")=V.str (Str.ofString "pair"))=false by decide +kernel];refine ar ⟨_,rfl,rfl,_,rfl,?_⟩;rw[show decide (V.str (Str.ofString "quad")=V.str (Str.ofString "back"))=false by decide +kernel];exact ar ⟨_,rfl,_,rfl,two,fun p hp=>k1 (.pl (.quad a b d e)) (by unfold bB;rw[xx (by decide +kernel),xA rfl];show (if _ then _ else _)=_;rw[xA nd]) p _ (s1.trans (ae hp)) ⟨⟨q,aa,(s1.trans (ae hp)) _ _ hq⟩,⟨by show 2<=4;decide,by show 4<=60;decide,fun _ _ _ _ z=>by cases z;exact nd⟩⟩⟩
      ·rw[xo (show (n:Int)<4 by have h9:¬ n=4:=fun z=>nd (niff.mp z);omega)]
       exact aG (k2 (by unfold bB;rw[xx (by decide +kernel),xA rfl];show (if _ then _ else _)=_;rw[xx nd]) _ s1)
    ·have nn:bB "quad" gs=none:=by
      unfold bB;rw[xx (by decide +kernel),xA rfl]
      match gs,c with
      | [],_=>rfl
      | [_],_=>rfl
      | [_,_],_=>rfl
      | [_,_,_],_=>rfl
      | [a,b,d,e],c=>exact absurd ⟨xm _,xm _⟩ c
      | _::_::_::_::_::_,_=>rfl
     by_cases c1:4<=gs.length
     ·rw[xo (show (4:Int)<=((gs.length:Nat):Int) by omega)]
      refine aG ⟨_,rfl,_,_,rfl,rfl,_,rfl,?_⟩;rw[xn (show ¬ ((gs.length:Nat):Int)<=4 by omega)];exact aG ⟨_,rfl,by decide,_,rfl,_,rfl,by decide,fun y hy=>⟨y,rfl,hy,fun x=>k2 nn H (aB.refl _)⟩⟩
     ·rw[xn (show ¬ (4:Int)<=((gs.length:Nat):Int) by omega)]
      exact ar ⟨_,rfl,aG ⟨_,rfl,by decide,_,rfl,_,rfl,by decide,fun y hy=>⟨y,rfl,hy,fun x=>k2 nn H (aB.refl _)⟩⟩⟩
   refine⟨_,rfl,_,rfl,_,rfl,?_⟩;rw[vi w1 w2 w3 w4 w5 (fun z=>hw (.inl z)) (fun z=>hw (.inr z))];refine aG (k2 ?_ H (aB.refl _));unfold bB;rw[xx w1,xx w5];split<;>first | rfl | (rw[xx w2,xx w3,xx w4])
theorem gk {fl c1 cy:Addr}{pm ct:Value}{d lv:Nat}(Cfigure_at:bF P w K mg base "figure_at" lv ["text","at","deep"] (eQ P0 ao aj cF d d (figM d)))(Lm:j5 base aj (rk (dk az)) (rm (dk az)) (pK (dk az)) "deep" (.int ((d+1:Nat):Int)) fl c1 cy pm ct) :
  a7 P w K mg base (gJ P w) (lv+1) fl (PySem.W.kla_fn "<lambda>" aj (rk (dk az)) (rm (dk az)) (pK (dk az)) [("deep",cy)] pm (.ref c1) ct) ["source","place"] (qp P0 ao aj cF (fun H=>eG H c1 aj) (figM d) (vI d)):=by
 refine sZ (ps:=["source","place"]) (y:="deep") ⟨rfl,rfl,rfl,by decide +kernel,by decide +kernel,by decide +kernel,fun x hx=>?_,rfl⟩ Lm (fun vs H Q E h=>?_) (fun vs H Q E h=>?_) (fun A outer s H vs Q E hr h=>?_)
 ·have hm:=yo hx
  exact (show ∀ p∈(pK (dk az)).names,p.2=NameKind.free->p.1="deep" by decide +kernel) _ hm rfl
 ·obtain⟨z,a,rfl,_⟩:=h
  rfl
 ·obtain⟨z,a,rfl,_,_,_,hc,_⟩:=h
  exact hc
 ·obtain⟨z,a,rfl,asc,zl,al,hc,tI,k1,k2⟩:=h
  refine⟨_,jG Cfigure_at (hr.mono (by omega)) rfl pZ (nc (pv 0) (pv 1) (am lh (pv 2) af)),?_⟩;refine⟨_,rfl,_,rfl,_,rfl,_,_,rfl,rfl,z,a,by rw[show (((d+1:Nat):Int)-1)=((d:Nat):Int) by omega];rfl,asc,zl,al,tI,fun f r hr t p H' g t' ht hf=>k1 f r hr t (.ref p) H' g t' ht ⟨p,rfl,hf⟩,k2⟩
theorem jW (F:ek K "bracket_at" "bracket_at" az f fd){c0 fw fN:Addr}{fdw:FuncData}{d lv:Nat}(hco:fd.code=.ref c0)(CK:fU K c0 P0)(BK:gH mg base)(hmw:mg "parts_at" = some (.ref fw))(hkw:PySem.W.keepIn K (.ref fw)=true)(hbw:fi K fdw ["text","at","read_part"] [])(WS:∀ (b:Heap)(fl c1 cy:Addr)(vy:V)(pm ct:Value),Mod K mg b->gH mg b->j5 b aj (rk (dk az)) (rm (dk az)) (pK (dk az)) "deep" vy fl c1 cy pm ct->a7 P w K mg b (gJ P w) (lv+2) fw fdw ["text","at","read_part"] (nq P0 ao aj cF d fl c1 vy))(hmN:mg "number_at" = some (.ref fN))(Cparts_at:bF P w K mg base "parts_at" 3 ["text","at","read_part"] (mE P0 ao aj cF fN (fun _=>True) numAt ut))(Cword_at:au P w K mg base "word_at" 1 ["text","at"] fR)(Cfigure_of:bF P w K mg base "figure_of" 1 ["word","parts"] (jM cF d))(hlv:5<=lv):a7 P w K mg base (gJ P w) (lv+3) f fd ["text","at","deep"] (eQ P0 ao aj cF (d+1) (d+1) (brM d)):=by
 refine F.okXC bu hco (fun vs H Q E h=>?_) (fun A outer s H vs Q E hr h=>?_)
 ·obtain⟨z,a,rfl,_⟩:=h
  rfl
 ·obtain⟨z,a,rfl,asc,zl,al,tI,k1,k2⟩:=h
  have two:(2:Nat)<=sizeLine:=by decide
  refine⟨_,ac (eP (aN Cword_at (hr.mono (by omega)) rfl (di (pv 0) (pv 1))) (eO rfl (ba (ey 3 bu.nd) (ba (ey 1 bu.nd) dq)))) (
   ac (aJ (ap fb (pv 3) (aK (di (ai) (ai))) rfl) (ag (eP (mr (iy:=2) (y:="deep") WS (hr.mono (by omega)) rfl hmw hkw hbw fe (pv 0) (pv 1) rfl CK BK rfl rfl rfl rfl rfl rfl rfl) (eO rfl (ba (ey 4 bu.nd) (ba (ey 1 bu.nd) dq))))) (ag (eP (jG Cparts_at (hr.mono (by omega)) rfl fe (nc (pv 0) (pv 1) (gv (v:=.ref fN) (by rfl) hmN rfl))) (eO rfl (ba (ey 4 bu.nd) (ba (ey 1 bu.nd) dq)))))) (
   ag (ax (aK (di (jG Cfigure_of (hr.mono (by omega)) rfl fe (di (pv 3) (pv 4))) (pv 1)))))),?_⟩
  refine⟨_,rfl,_,rfl,z,a,rfl,zl,al,fun t ht=>?_⟩;have wp:=nA al;have ea:brM d ((aD z).drop a)=brM d ((aD z).drop a):=rfl;have dl:((aD z).drop a).drop (bP ((aD z).drop a)).length=(aD z).drop (a+(bP ((aD z).drop a)).length):=x3
  conv at ea=>rhs;unfold brM;rw[dl]
  have s1:=ae (o:=.tup [.str (toS (bP ((aD z).drop a))),.int ((a+(bP ((aD z).drop a)).length:Nat):Int)]) ht;refine⟨t,_,rfl,aW.of aa,rfl,_,_,rfl,_,_,rfl,rfl,?_⟩
  have wlen:(toS (bP ((aD z).drop a))).length<=1000000:=by rw[bO];omega
  generalize toS (bP ((aD z).drop a))=w at ea s1 wlen ⊢;generalize a+(bP ((aD z).drop a)).length=b at ea s1 wp ⊢;have bl:=wp.2;generalize aY H t (.tup [.str w,.int ((b:Nat):Int)])=H1 at s1 ⊢;refine⟨_,rfl,two,fun t2 ht2=>⟨t2,_,rfl,.inr (.inl (Rd.of aa)),rfl,rfl,_,rfl,?_⟩⟩;have s2:=s1.trans (ae (o:=.tup [.str "row",.str "back"]) ht2);have tI2:=tI.same s2;rw[show (if false=true then !rg (V.str w) [V.str "row",V.str "back"] else rg (V.str w) [V.str "row",V.str "back"])=decide (w∈[("row" : Str),"back"]) from iV w ["row","back"]];generalize aY H1 t2 (.tup [.str "row",.str "back"])=H2 at s2 tI2 ⊢;have hz:(aD z).length=z.length:=(bn z).symm
  by_cases hw:w="row"\/w="back"
  ·rw[xA hw]at ea
   rw[xo (show w∈[("row" : Str),"back"] by rcases hw with rfl | rfl<;>simp)];refine aG ⟨_,rfl,_,rfl,tI2,_,rfl,fun fl c1 H3 cf tI3 bt=>⟨rfl,z,b,rfl,asc,zl,bl,cf,tI3,fun fs r hp t3 q vs' H4 g4 t4 ht3 hq pr=>?_,fun hn H4 g4 t4=>?_⟩⟩
   ·have g24:=(ca s2).trans ((pG tI2 bt).trans g4)
    refine⟨t3,_,rfl,aW.of ht3,rfl,_,_,rfl,_,_,rfl,rfl,?_⟩;obtain⟨ps,rfl,pf⟩:=iK pr;have fl2:=ic (i5 d) _ _ _ _ hp;rw[xI,hz]at fl2;rw[hp]at ea;refine⟨_,rfl,_,rfl,.figs w q ps fs rfl hw hq pf (by omega) (fun f hf p H5 s5 hF=>⟨_,rfl,two,fun t5 ht5=>?_⟩) (fun hn H5 s5=>k2 (by rw[ea];show (cV w fs).map _=none;rw[hn];rfl) H5 (g24.trans (ca s5)) (t4.same s5))⟩;have s6:=s5.trans (ae (o:=.tup [.ref p,.int ((z.length-r.length:Nat):Int)]) ht5);exact k1 f r (by rw[ea];show (cV w fs).map _=_;rw[hf];rfl) t5 p _ (g24.trans (ca s6)) (t4.same s6) aa (hF.mono fun _ _ y=>ae ht5 _ _ y)
   ·exact k2 (by rw[ea,hn];rfl) H4 ((ca s2).trans ((pG tI2 bt).trans g4)) t4
  ·rw[xx hw]at ea
   rw[xn (show ¬ w∈[("row" : Str),"back"] by simpa using hw)];refine ar ⟨_,rfl,_,rfl,z,b,rfl,asc,zl,bl,trivial,tI2,fun gs r hp t3 q vs' H4 g4 t4 ht3 hq pr=>?_,fun hn H4 g4 t4=>?_⟩
   ·have g24:=(ca s2).trans g4
    refine⟨t3,_,rfl,aW.of ht3,rfl,_,_,rfl,_,_,rfl,rfl,?_⟩;have e9:=gm pr;subst e9;have fl2:=ic lF _ _ _ _ hp;rw[xI,hz]at fl2;rw[hp]at ea;refine⟨_,rfl,_,rfl,.nums w q gs rfl hw hq (by omega) wlen (fun f hf p H5 s5 hF=>⟨_,rfl,two,fun t5 ht5=>?_⟩) (fun hn H5 s5=>k2 (by rw[ea];show (bB w gs).map _=none;rw[hn];rfl) H5 (g24.trans (ca s5)) (t4.same s5))⟩;have s6:=s5.trans (ae (o:=.tup [.ref p,.int ((z.length-r.length:Nat):Int)]) ht5);exact k1 f r (by rw[ea];show (bB w gs).map _=_;rw[hf];rfl) t5 p _ (g24.trans (ca s6)) (t4.same s6) aa (hF.mono fun _ _ y=>ae ht5 _ _ y)
   ·exact k2 (by rw[ea,hn];rfl) H4 ((ca s2).trans g4) t4
theorem gj (F:ek K "figure_at" "figure_at" d6 f fd){d lv:Nat}(Cbracket_at:bF P w K mg base "bracket_at" (lv+3) ["text","at","deep"] (se P0 lp ql cF d))(Cword_at:au P w K mg base "word_at" 1 ["text","at"] fR)(Cis_name:au P w K mg base "is_name" 1 ["word"] gC):a7 P w K mg base (gJ P w) (lv+4) f fd ["text","at","deep"] (eQ P0 lp ql cF d d (figM d)):=by
 refine F.okX d4 (fun vs H Q E h=>?_) (fun cdv A outer s H vs Q E hr h=>?_)
 ·obtain⟨z,a,rfl,_⟩:=h
  rfl
 ·obtain⟨z,a,rfl,asc,zl,al,tI,k1,k2⟩:=h
  have two:(2:Nat)<=sizeLine:=by decide
  have sl:sizeLine=16777216:=xY
  have zl2:z.length<=sizeLine:=by omega
  refine⟨_,ac (aJ (ap bC (pv 2) (af) (aA _)) (ag (cQ UO.eF cN rfl hr.hd rfl UO.mF (ai))) (aq)) (
   ac (aJ (ap bC (da lG (pv 0) (cw (pv 1)) (cw (am bg (pv 1) (af)))) (ai) (aA _)) (ag (ax (jG Cbracket_at (hr.mono (by omega)) rfl fe (nc (pv 0) (am bg (pv 1) (af)) (pv 2))))) (aq)) (
   ac (eP (aN Cword_at (hr.mono (by omega)) rfl (di (pv 0) (pv 1))) (eO rfl (ba (ey 3 d4.nd) (ba (ey 4 d4.nd) dq)))) (
   ac (aJ (fO (lC (aN Cis_name (hr.mono (by omega)) rfl (bT (pv 3))))) (ag (cQ UO.eF cN rfl hr.hd rfl UO.mF (i2 (dv ai (dv (ll (pv 1)) lA))))) (aq)) (
   ag (ax (aK (di (aK (di (ai) (pv 3))) (pv 4)))))))),?_⟩
  refine⟨_,rfl,rfl,_,rfl,?_⟩
  cases d with
  | zero=>exact aG (k2 (by rw[figM]) H GK.refl tI)
  | succ d =>
   rw[xn (show ¬ V.int (((d+1:Nat)):Int)=V.int 0 from fun z=>by have:=V.int.inj z;omega)];refine ar ⟨_,rfl,_,rfl,_,rfl,_,rfl,_,_,rfl,rfl,_,rfl,z,rfl,zl2,rfl,_,rfl,?_⟩;rw[kJ,rK,kM]
   by_cases hd:((aD z).drop a).head? = some 40
   ·rw[xo hd]
    have alt:=kN hd;rw[ga d _ hd,x3]at k1 k2;exact aG ⟨_,rfl,_,rfl,_,_,rfl,rfl,_,rfl,z,a+1,by rw[Int.natCast_add];rfl,asc,zl,by omega,tI,k1,k2⟩
   ·rw[xn hd]
    rw[kL d _ hd]at k1 k2;refine ar ⟨_,rfl,_,rfl,z,a,rfl,zl,al,fun t ht=>?_⟩;have wp:=nA al;have s1:=ae (o:=.tup [.str (toS (bP ((aD z).drop a))),.int ((a+(bP ((aD z).drop a)).length:Nat):Int)]) ht;refine⟨t,_,rfl,aW.of aa,rfl,_,_,rfl,_,_,rfl,rfl,?_⟩
    have wlen:(toS (bP ((aD z).drop a))).length<=1000000:=by rw[bO];omega
    refine⟨_,rfl,_,rfl,o9 asc a,wlen,fun H2 s2=>⟨_,rfl,?_⟩⟩;have s12:=s1.trans s2
    cases nm:dI (toS (bP ((aD z).drop a))) with
    | false =>
     rw[nm]at k2;exact aG ⟨_,rfl,by decide,_,rfl,a,rfl,hX (by omega),fun y hy=>⟨y,rfl,hy,fun x=>k2 rfl H2 (ca s12) (tI.same s12)⟩⟩
    | true =>
     rw[nm]at k1;refine ar ⟨_,rfl,two,fun p hp=>⟨_,rfl,two,fun t2 ht2=>?_⟩⟩;have s3:=s12.trans ((ae (o:=.tup [.str "name",.str (toS (bP ((aD z).drop a)))]) hp).trans (ae (o:=.tup [.ref p,.int ((a+(bP ((aD z).drop a)).length:Nat):Int)]) ht2));exact k1 _ _ rfl t2 p _ (ca s3) (tI.same s3) (by rw[aa,wp.1]) ⟨ae ht2 _ _ aa,by have:=jt nm;omega⟩
theorem jz (F:ek K "read_figure" "read_figure" dh f fd)(Cfigure_at:bF P w K mg base "figure_at" 37 ["text","at","deep"] (eQ P0 ao aj cF 8 8 (figM 8))) : a7 P w K mg base (gJ P w) 38 f fd ["text"] (nY P0 ao aj cF):=by
 refine F.okX db (fun vs H Q E h=>?_) (fun cdv A outer s H vs Q E hr h=>?_)
 ·obtain⟨z,rfl,_⟩:=h
  rfl
 ·obtain⟨z,rfl,asc,zl,tI,k1,k2⟩:=h
  have sl:sizeLine=16777216:=xY
  have zl2:z.length<=sizeLine:=by omega
  refine⟨_,ac (eP (jG Cfigure_at hr.m rfl fe (nc (pv 0) (af) (eN (by rfl) UO.dp))) (eO rfl (ba (ey 1 db.nd) (ba (ey 2 db.nd) dq)))) (
   ac (aJ (ap iI (pv 2) (aR cW (by rfl) T.len ya (bT (pv 0))) (aA _)) (ag (cQ UO.eF cN rfl hr.hd rfl UO.mF (ai))) (aq)) (
   ag (ax (pv 1)))),?_⟩
  refine⟨_,rfl,z,0,rfl,asc,zl,xX _,tI,fun f r hr t p H' g t' ht hf=>?_,fun hn H' g t'=>k2 (fun f q=>by rw[yC]at hn;rw[hn]at q;cases q) H' g t'⟩;rw[yC]at hr;refine⟨t,_,rfl,aW.of ht,rfl,_,_,rfl,_,_,rfl,rfl,?_⟩;refine⟨_,rfl,_,rfl,z,rfl,zl2,rfl,_,rfl,?_⟩
  by_cases r0:r=[]
  ·subst r0
   rw[xo (show V.int ((z.length-([]:List Nat).length:Nat):Int)=V.int (z.length:Int) from rfl)];exact ar ⟨_,rfl,k1 f hr p H' g t' hf⟩
  ·have rl:=nU (i5 8) hr
   have rp:0<r.length:=List.length_pos_iff.mpr r0;rw[<-bn]at rl;rw[xn (show ¬ V.int ((z.length-r.length:Nat):Int)=V.int (z.length:Int) from fun q=>by have:=V.int.inj q;omega)];exact aG (k2 (fun f2 q=>r0 (by rw[hr]at q;injection q with q;injection q with _ q)) H' g t')
theorem jx (F:ek K "_law_cell_at" "_law_cell_at" df f fd) : a7 P w K mg base gI 1 f fd ["_law_script","_law_k"] (lJ K):=by
 refine F.ok jH (fun vs H Q E h=>?_) (fun cdv A outer s H vs Q E hr h=>?_)
 ·obtain⟨a,ns,k,rfl,_⟩:=h
  rfl
 ·obtain⟨a,ns,i,rfl,hS,hi,k⟩:=h
  refine⟨_,ac (aJ (ap mm (pv 1) (aR bh (by rfl) T.len ya (bp (pv 0) bW)) (aA _)) (ag (ax (aO dm (pv 0) (pv 1) (fun _ _=>rfl)))) aq) (ag (ax af)),?_⟩;refine⟨_,rfl,_,rfl,a,_,rfl,.inl hS,_,_,rfl,rfl,_,rfl,?_⟩;unfold gR at k;rw[xk]
  by_cases hc:i<(ns.length:Int)
  ·rw[xA hc]at k
   rw[xo hc];refine aG ⟨_,rfl,_,rfl,a,_,_,_,rfl,rfl,hS,?_,k⟩;have e:i=((i.toNat:Nat):Int):=(Int.toNat_of_nonneg hi).symm
   have hl:i.toNat<ns.length:=by omega
   rw[e];refine aC ?_;rw[List.getElem?_map,List.getD_eq_getElem?_getD,yR,List.getElem?_eq_getElem hl];rfl
  ·rw[xx hc]at k
   rw[xn hc];exact ar k
theorem mh (F:ek K "_law_size" "_law_size" eS f fd) : a7 P w K mg base gI 1 f fd ["_law_cell"] il:=by
 refine F.ok mB (fun vs H Q E h=>?_) (fun cdv A outer s H vs Q E hr h=>?_)
 ·obtain⟨c,rfl,_⟩:=h
  rfl
 ·obtain⟨c,rfl,k⟩:=h
  refine⟨_,ac (aJ (ap mm (pv 0) af (aA _)) (ag (ax (uW ud (pv 0)))) aq) (ag (ax (pv 0))),?_⟩;refine⟨_,rfl,_,_,rfl,rfl,_,rfl,?_⟩;unfold cS at k
  by_cases hc:c<0
  ·rw[xA hc]at k
   rw[xo hc];exact aG ⟨_,rfl,_,rfl,k⟩
  ·rw[xx hc]at k
   rw[xn hc];exact ar ⟨_,rfl,k⟩
theorem kZ (F:ek K "_law_draws" "_law_draws" d9 f fd)(bD:au P w K mg base "_law_size" 1 ["_law_cell"] il) : a7 P w K mg base gI 2 f fd ["_law_cell","_law_many","_law_base"] gA:=by
 refine F.ok aS (fun vs H Q E h=>?_) (fun cdv A outer s H vs Q E hr h=>?_)
 ·obtain⟨c,m,b,rfl,_⟩:=h
  rfl
 ·obtain⟨c,m,b,rfl,⟨m0,m1⟩,⟨b0,b1⟩,k⟩:=h
  refine⟨_,ac (cU (i:=3) aS.nd rfl (Or.inl rfl) (aN bD hr rfl (bp (pv 0) bW)))
   (ac (cU (i:=4) aS.nd rfl (Or.inl rfl) (dB bW))
   (ac (aJ (ap uT (pv 3) (am pX af af) (aA _))
    (ac (cU (i:=3) aS.nd rfl (Or.inl rfl) (am lh (pv 3) (am pX af af)))
    (ac (cU (i:=5) aS.nd rfl (Or.inl rfl) (am a8 (pv 3) (am bg (pv 1) af)))
    (ac (cU (i:=3) aS.nd rfl (Or.inl rfl) (am bw (pv 3) (am bg (pv 1) af)))
    (ac (dC yh rfl (cG rfl T.range (bp (pv 5) bW)) (lx (i:=6) aS.nd rfl (Or.inl rfl))
     (ac (cX (iM x9 ye yf cD (pv 4) (bp (am a8 (pv 3) (pv 2)) bW)))
     (ag (cU (i:=3) aS.nd rfl (Or.inl rfl) (am bw (pv 3) (pv 2))))))
    (ag (ax (pv 4)))))))
    aq)
   (ac (cU (i:=7) aS.nd rfl (Or.inl rfl) (am bg (am a8 (pv 3) af) af))
   (ac (dC yh rfl (cG rfl T.range (bp (am a8 (pv 3) (am bg (pv 1) af)) bW)) (lx (i:=6) aS.nd rfl (Or.inl rfl))
     (ac (cU (i:=7) aS.nd rfl (Or.inl rfl) (am a8 (am h8 (pv 7) af) af))
     (ag (cX (iM x9 ye yf cD (pv 4) (bp (am a8 (am bw (am a8 (am h8 (pv 7) af) af) af) (pv 2)) bW))))))
   (ag (ax (pv 4))))))),?_⟩
  refine⟨_,rfl,_,rfl,by show 0<=sizeLine;exact xX _,fun l hl=>?_⟩
  have big:(10:Int) ^ (18:Int).toNat=1000000000000000000:=by decide
  have room:∀ ds:List Int,(ds.length:Int)<=1000->(ds.map V.int).length<sizeLine:=fun ds h=>by rw[xk];exact bK (by omega)
  have app:∀ (ds:List Int)(z:Int),aY (aY H l (.lst (ds.map V.int))) l (.lst (ds.map V.int++[V.int z]))=aY H l (.lst ((ds++[z]).map V.int)):=fun ds z=>by rw[lN,xC];rfl
  have inb:∀ (ds:List Int)(z:Int),(∀ d∈ds,0<=d/\d<b)->∀ d∈ds++[z%b],0<=d/\d<b:=fun ds z h d hd=>by
   rcases xU.mp hd with hd | hd
   ·exact h d hd
   ·rw[xG.mp hd];exact⟨yp _ (by omega),yb _ b0⟩
  refine⟨_,rfl,_,_,rfl,rfl,⟨by decide,by decide,by decide⟩,_,_,rfl,rfl,_,rfl,?_⟩;refine v1 (fun _=>?_) (fun _=>?_)
  ·refine⟨_,rfl,_,_,rfl,rfl,⟨by decide,by decide,by decide⟩,_,_,rfl,rfl,?_⟩
   refine⟨_,rfl,_,rfl,_,_,rfl,rfl,_,_,rfl,rfl,by show (0:Int)<m+1;omega,?_⟩;refine⟨_,rfl,_,rfl,_,_,rfl,rfl,_,_,rfl,rfl,⟨by show (0:Int)<m+1;omega,by show m+1<1073741824;omega⟩,?_⟩;have cb:=yb (cS c-(10:Int) ^ (18:Int).toNat) (show 0<m+1 by omega);have cn:=yp (cS c-(10:Int) ^ (18:Int).toNat) (show m+1≠0 by omega)
   refine⟨_,rfl,_,rfl,by omega,by omega,cC (n:=((cS c-(10:Int) ^ (18:Int).toNat)%(m+1)).toNat) (fun i σ H2=>∃ (z:Int)(v:Option V)(ds:List Int),σ=[some (.int c),some (.int m),some (.int b),some (.int z),some (.ref l),some (.int ((cS c-(10:Int) ^ (18:Int).toNat)%(m+1))),v,none]/\H2=aY H l (.lst (ds.map V.int))/\ds.length=i/\∀ d∈ds,0<=d/\d<b)
    ⟨_,none,[],rfl,rfl,rfl,fun _ z=>nomatch z⟩ ?_ ?_⟩
   ·rintro i σ H2 hi ⟨z,v,ds,rfl,rfl,hlen,hds⟩
    refine⟨_,rfl,.inl ⟨rfl,_,bd.of aa⟩,_,rfl,_,rfl,_,_,rfl,rfl,b0,l,_,_,rfl,rfl,aa,room ds (by omega),?_⟩;refine⟨_,rfl,_,rfl,_,_,rfl,rfl,⟨b0,b1⟩,?_⟩;exact⟨_,_,ds++[z%b],rfl,app ds _,by rw[xv,hlen];rfl,inb ds z hds⟩
   ·rintro σ H2 ⟨z,v,ds,rfl,rfl,hlen,hds⟩
    exact⟨_,rfl,k l ds hl hds (by omega)⟩
  ·refine⟨_,rfl,_,_,rfl,rfl,by show (0:Int)<2147483629;decide,_,_,rfl,rfl,?_⟩
   have cb:=yb (cS c) (show 0<m+1 by omega);have cn:=yp (cS c) (show m+1≠0 by omega);refine⟨_,rfl,_,rfl,_,_,rfl,rfl,_,_,rfl,rfl,by show (0:Int)<m+1;omega,?_⟩
   refine⟨_,rfl,by omega,by omega,cC (n:=(cS c%(m+1)).toNat) (fun i σ H2=>∃ (z:Int)(v:Option V)(ds:List Int),σ=[some (.int c),some (.int m),some (.int b),some (.int (cS c)),some (.ref l),none,v,some (.int z)]/\H2=aY H l (.lst (ds.map V.int))/\ds.length=i/\∀ d∈ds,0<=d/\d<b)
    ⟨_,none,[],rfl,rfl,rfl,fun _ z=>nomatch z⟩ ?_ ?_⟩
   ·rintro i σ H2 hi ⟨z,v,ds,rfl,rfl,hlen,hds⟩
    refine⟨_,rfl,_,_,rfl,rfl,.inr ⟨by decide,by decide⟩,_,_,rfl,rfl,by show (0:Int)<2147483647;decide,?_⟩;refine⟨_,rfl,.inl ⟨rfl,_,bd.of aa⟩,_,rfl,_,_,rfl,rfl,.inr ⟨by decide,by decide⟩,_,_,rfl,rfl,by show (0:Int)<998244353;decide,_,_,rfl,rfl,⟨by decide,by decide⟩,_,rfl,_,_,rfl,rfl,b0,l,_,_,rfl,rfl,aa,room ds (by omega),?_⟩;exact⟨_,_,ds++[_],rfl,app ds _,by rw[xv,hlen];rfl,inb ds _ hds⟩
   ·rintro σ H2 ⟨z,v,ds,rfl,rfl,hlen,hds⟩
    exact⟨_,rfl,k l ds hl hds (by omega)⟩
theorem k6 (F:ek K "_law_guest" "_law_guest" ec f fd)(bD:au P w K mg base "_law_size" 1 ["_law_cell"] il) : a7 P w K mg base gI 2 f fd ["_law_k","_law_cell"] gB:=by
 refine F.ok cY (fun vs H Q E h=>?_) (fun cdv A outer s H vs Q E hr h=>?_)
 ·obtain⟨k,c,rfl,_⟩:=h
  rfl
 ·obtain⟨i,c,rfl,⟨i0,i1⟩,k⟩:=h
  refine⟨_,ac (cU (i:=2) cY.nd rfl (Or.inl rfl) (aN bD hr rfl (bp (pv 1) bW)))
   (ac (cU (i:=3) cY.nd rfl (Or.inl rfl) (am bg af (am a8 (am h8 (pv 2) af) af)))
   (ac (cU (i:=4) cY.nd rfl (Or.inl rfl) (am a8 (am bg (am h8 (pv 0) (pv 3)) (am pW (pv 2) af)) af))
   (ac (aJ (ap bC (am a8 (pv 2) af) af (aA _)) (ag (ax (am bg (pv 4) af))) aq)
   (ag (ax (pv 4)))))),?_⟩
  refine⟨_,rfl,_,rfl,?_⟩;refine⟨_,rfl,_,_,rfl,rfl,.inr ⟨by decide,by decide⟩,_,_,rfl,rfl,by show (0:Int)<2147483646;decide,_,_,rfl,rfl,?_⟩;refine⟨_,rfl,_,rfl,_,_,rfl,rfl,.inl ⟨by show (-(2 ^ 64):Int)<i;omega,by show i<(2 ^ 64:Int);omega⟩,_,rfl,_,_,rfl,rfl,⟨by decide,by decide⟩,_,_,rfl,rfl,_,_,rfl,rfl,by show (0:Int)<2147483647;decide,?_⟩;refine⟨_,rfl,_,_,rfl,rfl,by show (0:Int)<5;decide,rfl,_,rfl,?_⟩;unfold eX at k;dsimp only at k
  by_cases hc:cS c%5=4
  ·rw[xA hc]at k
   rw[xo (show V.int (cS c%5)=V.int 4 by rw[hc])];exact aG ⟨_,rfl,_,_,rfl,rfl,k⟩
  ·rw[xx hc]at k
   rw[xn (show ¬ V.int (cS c%5)=V.int 4 from fun z=>hc (by injection z))];exact ar ⟨_,rfl,k⟩
theorem mi (F:ek K "_law_word" "_law_word" eT f fd)(b9:au P w K mg base "_law_draws" 2 ["_law_cell","_law_many","_law_base"] gA) : a7 P w K mg base gI 3 f fd ["_law_cell"] nZ:=by
 refine F.ok cR (fun vs H Q E h=>?_) (fun cdv A outer s H vs Q E hr h=>?_)
 ·obtain⟨c,rfl,_⟩:=h
  rfl
 ·obtain⟨c,rfl,k⟩:=h
  have sl:sizeLine=16777216:=xY
  refine⟨_,ac (aL 1 cR.nd (ai)) (
   ac (aL 2 cR.nd (ai)) (
   ac (dC yh rfl (cK (aN b9 hr.m rfl (nc (pv 0) (af) (af)))) (ey 3 cR.nd) (ag (aL 2 cR.nd (am aX (pv 2) (aO mY (pv 1) (pv 3) (fun _ _=>rfl)))))) (
   ac (aJ (ap fb (pv 2) (dB (dZ (dZ (dZ (dZ (dZ (dZ (dZ (dZ (dZ (bW))))))))))) rfl) (ag (ax (ai))) (aq)) (
   ag (ax (pv 2)))))),?_⟩
  refine⟨_,rfl,c,12,26,rfl,⟨by decide,by decide⟩,⟨by decide,by decide⟩,fun l ds hl hd hn=>⟨l,rfl,⟨_,bd.of aa⟩,?_⟩⟩;have s1:=ae (o:=.lst (ds.map V.int)) hl
  refine cO (K:=K) (a:=l) (xs:=ds.map V.int) (fun i σ HK=>∃ (v:Option V)(w:Str),σ=[some (.int c),some (.str "abcdefghijklmnopqrstuvwxyz"),some (.str w),v]/\aB (aY H l (.lst (ds.map V.int))) HK/\w.cps.toList.all bz=true/\w.length=i)
   ⟨none,_,rfl,aB.refl _,by decide +kernel,by decide +kernel⟩ (fun i σ HK _ ⟨_,_,_,s2,_⟩=>bd.of (s2 _ _ aa)) ?_ ?_
  ·rintro i y σ HK hi ⟨v,w,rfl,s2,aw,lw⟩
   obtain⟨d,hd1,rfl⟩:=cr hi;have hil:=(List.getElem?_eq_some_iff.mp hd1).1;obtain⟨d0,d1⟩:=hd d (xO hd1);obtain⟨c2,hc,e⟩:=rq d0 d1;refine⟨_,rfl,_,rfl,_,rfl,_,d,c2,rfl,rfl,by rw[sl];decide +kernel,e,w,_,rfl,rfl,?_,?_⟩
   ·show w.length+1<=sizeLine
    omega
   exact⟨_,_,rfl,s2,oG aw hc,by rw[pN,lw]⟩
  rintro σ HK ⟨v,w,rfl,s2,aw,lw⟩;rw[xk]at lw;refine⟨_,rfl,by rw[sl];decide,fun l2 hl2=>⟨l2,_,rfl,.inl (bd.of aa),rfl,rfl,_,rfl,?_⟩⟩;have s3:=(s1.trans s2).trans (ae (o:=.lst (["","pair","line","star","all","quad","row","back","name"].map fun x=>V.str (Str.ofString x))) hl2);refine fK (fun _=>?_) (fun c9=>?_)
  ·exact k _ _ (by decide +kernel) s3
  ·have c9:rg (V.str w) ((("" : Str)::kindsL).map V.str)=false:=c9
   rw[iV]at c9;exact⟨_,rfl,k w _ (uQ aw (by omega) (of_decide_eq_false c9)) s3⟩
theorem k8 (F:ek K "_law_ranks" "_law_ranks" c6 f fd) : a7 P w K mg base gI 1 f fd ["_law_drawn"] i7:=by
 refine F.ok cZ (fun vs H Q E h=>?_) (fun cdv A outer s H vs Q E hr h=>?_)
 ·obtain⟨d,rfl,_⟩:=h
  rfl
 ·obtain⟨d,rfl,d0,k⟩:=h
  refine⟨_,ac (aL 1 cZ.nd (am bg (af) (am a8 (pv 0) (af)))) (
   ac (aJ (ap rY (am a8 (am bw (pv 0) (af)) (af)) (af) (aA _)) (ag (aL 1 cZ.nd (am bg (af) (am a8 (am bw (pv 0) (af)) (af))))) (aq)) (
   ac (aL 2 cZ.nd (am a8 (am bw (pv 0) (af)) (af))) (
   ag (ax (bM (so:=ah c6) (N:=iF) (N':=["_law_k","_law_drawn","_law_step"]) (src:=[none,some 0,some 2]) rfl rfl nE rfl (cG (by rfl) T.range (bT (pv 1))) (fun cl C s2 H2 ex=>⟨ey 0 (show (["_law_k","_law_drawn","_law_step"]:List Str).Nodup by decide +kernel),bN,am a8 (am bg (am bw (pv 1) (af)) (am h8 (pv 2) (pv 0))) (af)⟩)))))),?_⟩
  have em:∀ z m:Int,0<m->0<=z%m/\z%m<m:=fun z m h=>⟨yp _ (by omega),yb _ h⟩;refine⟨_,rfl,_,_,rfl,rfl,by show (0:Int)<6;decide,_,_,rfl,rfl,?_⟩;refine⟨_,rfl,_,_,rfl,rfl,⟨by decide,by decide⟩,_,_,rfl,rfl,by show (0:Int)<61;decide,_,_,rfl,rfl,_,rfl,?_⟩;have a1:=em d 6 (by decide)
  apply jK (fun σ HH=>HH=H/\∃ m:Nat,σ=[some (.int d),some (.int (m:Int)),none]/\2<=m/\m<=60)
  ·intro rest
   by_cases c1:d/6%61>54
   ·rw[xo c1]
    have a2:=em (d/366) 53 (by decide);refine aG ⟨_,rfl,_,_,rfl,rfl,⟨by decide,by decide⟩,_,_,rfl,rfl,by show (0:Int)<53;decide,_,_,rfl,rfl,?_⟩;exact rest _ _ ⟨rfl,(8+d/366%53).toNat,by rw[Int.toNat_of_nonneg (by omega)];rfl,by omega,by omega⟩
   ·rw[xn c1]
    exact ar (rest _ _ ⟨rfl,(2+d%6).toNat,by rw[Int.toNat_of_nonneg (by omega)];rfl,by omega,by omega⟩)
  rintro σ HH ⟨rfl,m,rfl,m0,m1⟩;have a3:=em (d/366) 6 (by decide);refine⟨_,rfl,_,_,rfl,rfl,⟨by decide,by decide⟩,_,_,rfl,rfl,by show (0:Int)<6;decide,?_⟩;refine⟨_,rfl,(m:Int),rfl,by omega,by omega,fun l hl=>?_⟩
  refine cC (n:=m) (fun i σ H2=>∃ (v:Option V)(xs:List Int),σ=[v,some (.int d),some (.int (d/366%6))]/\xs.length=i/\(∀ r∈xs,0<=r/\r<12)/\H2=aY HH l (.lst (xs.map V.int)))
   ⟨none,[],rfl,rfl,(fun _ z=>nomatch z),rfl⟩ ?_ ?_
  ·rintro i σ H2 hi ⟨v,xs,rfl,hx,hr2,rfl⟩
   refine cA ⟨_,rfl,_,_,rfl,rfl,⟨by decide,by decide⟩,_,rfl,_,rfl,_,_,rfl,rfl,.inl ⟨by omega,by omega⟩,_,_,rfl,rfl,_,_,rfl,rfl,by show (0:Int)<12;decide,_,aa,by rw[xk];exact bK (by omega),?_⟩;refine⟨_,xs++[(d/2196+d/366%6*(0+(i:Int)))%12],rfl,by rw[xv,hx];rfl,fun r hr3=>?_,?_⟩
   ·rcases xU.mp hr3 with z | z
    ·exact hr2 r z
    ·rw[xG.mp z];exact em _ 12 (by decide)
   ·rw[lN,xC]
    rfl
  rintro σ H2 ⟨v,xs,rfl,hx,hr2,rfl⟩;exact k l xs hl (by omega) (by omega) hr2
theorem k7 (F:ek K "_law_plain" "_law_plain" cx f fd)(eD:au P w K mg base "_law_ranks" 1 ["_law_drawn"] i7)(bc:au P w K mg base "_law_guest" 2 ["_law_k","_law_cell"] gB) : a7 P w K mg base gI 3 f fd ["_law_drawn","_law_cell"] lK:=by
 refine F.ok bV (fun vs H Q E h=>?_) (fun cdv A outer s H vs Q E hr h=>?_)
 ·obtain⟨d,c,rfl,_⟩:=h
  rfl
 ·obtain⟨d,c,rfl,d0,k⟩:=h
  have two:(2:Nat)<=sizeLine:=by decide
  have three:(3:Nat)<=sizeLine:=by decide
  have em:∀ z m:Int,0<m->0<=z%m/\z%m<m:=fun z m h=>⟨yp _ (by omega),yb _ h⟩
  refine⟨_,ac (aL 2 bV.nd (am a8 (pv 0) (af))) (
   ac (aL 3 bV.nd (aN eD hr.m rfl (bT (am bw (pv 0) (af))))) (
   ac (aJ (ap bC (pv 2) (af) (aA _)) (ag (ax (aK (nc (ai) (aN bc hr.m rfl (di (aO dm (pv 3) (af) (fun _ _=>rfl)) (pv 1))) (aN bc hr.m rfl (di (aO dm (pv 3) (af) (fun _ _=>rfl)) (pv 1))))))) (aq)) (
   ac (aJ (ap bC (pv 2) (af) (aA _)) (ac (aL 4 bV.nd (am a8 (am bw (pv 0) (af)) (af))) (
   ac (aL 5 bV.nd (am bg (af) (am a8 (am bw (pv 0) (af)) (af)))) (
   ag (ax (aK (di (ai) (a6 bJ (by rfl) T.tuple yu (bT (bM (so:=ah cx) (N:=eK) (N':=["_law_k","_law_cell","_law_first","_law_step"]) (src:=[none,some 1,some 4,some 5]) rfl rfl nE rfl (cG (by rfl) T.range (bT (af))) (fun cl C s2 H2 ex=>⟨ey 0 (show (["_law_k","_law_cell","_law_first","_law_step"]:List Str).Nodup by decide +kernel),bN,aN bc hr.m rfl (di (am a8 (am bg (pv 2) (am h8 (pv 3) (pv 0))) (af)) (pv 1))⟩)))))))))) (aq)) (
   ac (aL 6 bV.nd (a6 bJ (by rfl) T.tuple yu (bT (bM (so:=ah cx) (N:=eK) (N':=["_law_rank","_law_cell"]) (src:=[none,some 1]) rfl rfl nE rfl (cK (pv 3)) (fun cl C s2 H2 ex=>⟨ey 0 (show (["_law_rank","_law_cell"]:List Str).Nodup by decide +kernel),bN,aN bc hr.m rfl (di (pv 0) (pv 1))⟩))))) (
   ag (ax (aK (di (aO dm (dB (nc (ai) (ai) (ai))) (am lh (pv 2) (af)) (fun _ _=>rfl)) (pv 6))))))))),?_⟩
  refine⟨_,rfl,_,_,rfl,rfl,by show (0:Int)<5;decide,?_⟩;refine⟨_,rfl,_,_,rfl,rfl,⟨by decide,by decide⟩,d/5,rfl,by omega,fun lr rs hlr r0 r1 rb=>?_⟩;have s1:=ae (o:=.lst (rs.map V.int)) hlr;have h1:aY H lr (.lst (rs.map V.int)) lr=some (.lst (rs.map V.int)):=aa;generalize aY H lr (.lst (rs.map V.int))=H1 at s1 h1 ⊢;refine⟨_,rfl,rfl,_,rfl,?_⟩
  by_cases c0:d%5=0
  ·rw[xo (yn V.int c0)]
   obtain⟨x,y,rt,rfl⟩:∃ x y rt,rs=x::y::rt:=by
    match rs,r0 with
    | x::y::rt,_=>exact⟨x,y,rt,rfl⟩
   have bx:=rb x (by simp);have bY:=rb y (by simp);refine aG ⟨_,rfl,lr,_,0,_,rfl,rfl,bd.of h1,aC (j:=0) rfl,_,rfl,x,c,rfl,⟨bx.1,by omega⟩,_,rfl,lr,_,1,_,rfl,rfl,bd.of h1,aC (j:=1) rfl,_,rfl,y,c,rfl,⟨bY.1,by omega⟩,three,fun t ht=>?_⟩;exact k t (.pair _ _) _ (s1.free ht) (s1.trans (ae ht)) aa ⟨by show (2:Nat)<=2;decide,by show (2:Nat)<=60;decide,fun _ _ _ _ z=>by cases z⟩ (fun g hg=>(xB.mp hg).elim (fun e=>by rw[e];exact eY _ _) fun hg=>by rw[xG.mp hg];exact eY _ _)
  rw[xn (fun z=>c0 (V.int.inj z))];refine ar ⟨_,rfl,rfl,_,rfl,?_⟩
  by_cases c4:d%5=4
  ·rw[xo (yn V.int c4)]
   have a1:=em (d/5) 12 (by decide);have a2:=em (d/60) 3 (by decide);refine aG ⟨_,rfl,_,_,rfl,rfl,⟨by decide,by decide⟩,_,_,rfl,rfl,by show (0:Int)<12;decide,?_⟩;refine⟨_,rfl,_,_,rfl,rfl,⟨by decide,by decide⟩,_,_,rfl,rfl,by show (0:Int)<3;decide,_,_,rfl,rfl,?_⟩;refine⟨4,rfl,by decide,by decide,fun l hl=>?_⟩
   refine cC (n:=4) (fun i σ H2=>∃ (v:Option V),σ=[v,some (.int c),some (.int (d/5%12)),some (.int (1+d/60%3))]/\H2=aY H1 l (.lst (((List.range i).map fun j:Nat=>eX ((d/5%12+(1+d/60%3)*(0+(j:Int)))%12) c).map V.int)))
    ⟨none,rfl,rfl⟩ ?_ ?_
   ·rintro i σ H2 hi ⟨v,rfl,rfl⟩
    have a3:=em (d/5%12+(1+d/60%3)*(0+(i:Int))) 12 (by decide);refine cA ⟨_,rfl,_,rfl,_,rfl,_,_,rfl,rfl,.inl ⟨by omega,by omega⟩,_,_,rfl,rfl,_,_,rfl,rfl,by show (0:Int)<12;decide,_,rfl,_,c,rfl,⟨a3.1,by omega⟩,_,aa,by rw[xk,xk,List.length_range];exact bK (by omega),?_⟩;refine⟨_,rfl,?_⟩;rw[lN,List.range_succ,xC,xC];rfl
   rintro σ H2 ⟨v,rfl,rfl⟩;have s2:=ae (o:=.lst (((List.range 4).map fun j:Nat=>eX ((d/5%12+(1+d/60%3)*(0+(j:Int)))%12) c).map V.int)) hl;refine⟨l,_,rfl,.inl ⟨bd.of aa,fun q hq=>?_⟩⟩;have s3:=ae (o:=.tup (((List.range 4).map fun j:Nat=>eX ((d/5%12+(1+d/60%3)*(0+(j:Int)))%12) c).map V.int)) hq;refine⟨two,fun p hp=>?_⟩;have s4:=ae (o:=.tup [.str "quad",.ref q]) hp
   have nd:∀ i j:Int,0<=i->i<4->0<=j->j<4->i≠j->eX ((d/5%12+(1+d/60%3)*(0+i))%12) c≠eX ((d/5%12+(1+d/60%3)*(0+j))%12) c:=fun i j i0 i1 j0 j1 n e=>by
    have bi:=em (d/5%12+(1+d/60%3)*(0+i)) 12 (by decide);have bj:=em (d/5%12+(1+d/60%3)*(0+j)) 12 (by decide);have:=re (by omega) (by omega) e;obtain⟨st,est⟩:∃ st,st=d/60%3:=⟨_,rfl⟩;rw[<-est]at this a2
    have:st=0\/st=1\/st=2:=by omega
    rcases this with rfl | rfl | rfl<;>omega
   have s12:=s1.trans s2;refine k p (.quad _ _ _ _) _ (s12.free (s3.free hp)) (s12.trans (s3.trans s4)) ⟨q,aa,s4 _ _ aa⟩ ⟨by show (2:Nat)<=4;decide,by show (4:Nat)<=60;decide,fun a b c' d' z=>?_⟩ (fun g hg=>by have hg:g∈(List.range 4).map (fun j:Nat=>eX ((d/5%12+(1+d/60%3)*(0+(j:Int)))%12) c):=hg;obtain⟨j,_,rfl⟩:=xP.mp hg;exact eY _ _);cases z;simp only[yQ,xB,List.not_mem_nil,or_false,not_or,List.nodup_nil,and_true,not_false_eq_true];exact⟨⟨nd 0 1 (by decide) (by decide) (by decide) (by decide) (by decide),nd 0 2 (by decide) (by decide) (by decide) (by decide) (by decide),nd 0 3 (by decide) (by decide) (by decide) (by decide) (by decide)⟩,⟨nd 1 2 (by decide) (by decide) (by decide) (by decide) (by decide),nd 1 3 (by decide) (by decide) (by decide) (by decide) (by decide)⟩,nd 2 3 (by decide) (by decide) (by decide) (by decide) (by decide)⟩
  rw[xn (fun z=>c4 (V.int.inj z))];refine ar ⟨_,rfl,lr,rfl,⟨_,bd.of h1⟩,fun l hl=>?_⟩
  refine cO (K:=K) (a:=lr) (xs:=rs.map V.int) (fun i σ H2=>∃ (v:Option V),σ=[v,some (.int c)]/\aB H1 H2/\H2 l=some (.lst (((rs.take i).map fun r=>eX r c).map V.int)))
   ⟨none,rfl,ae hl,aa⟩ (fun i σ H2 _ ⟨_,_,s2,_⟩=>bd.of (s2 _ _ h1)) ?_ ?_
  ·rintro i y σ H2 hi ⟨v,rfl,s2,hl2⟩
   obtain⟨r,hr3,rfl⟩:=cr hi;have br:=rb r (xO hr3);refine cA ⟨_,rfl,_,rfl,r,c,rfl,⟨br.1,by omega⟩,_,hl2,by rw[xk,xk,xS];exact bK (by omega),?_⟩;refine⟨_,rfl,bX s2 hl,?_⟩;rw[aa,ym,hr3,yi,xC,xC];rfl
  rintro σ H2 ⟨v,rfl,s2,hl2⟩;rw[xk,yq]at hl2;refine⟨l,_,rfl,.inl ⟨bd.of hl2,fun q hq=>?_⟩⟩;have s3:=ae (o:=.tup ((rs.map fun r=>eX r c).map V.int)) hq;have hq3:aY H2 q (.tup ((rs.map fun r=>eX r c).map V.int)) q=some (.tup ((rs.map fun r=>eX r c).map V.int)):=aa;have s13:=s1.trans (s2.trans s3);generalize aY H2 q (.tup ((rs.map fun r=>eX r c).map V.int))=H3 at s13 hq3 ⊢;refine⟨three,fun lw hlw=>?_⟩;have s4:=ae (o:=.lst [.str "line",.str "star",.str "all"]) hlw;have a5:=em d 5 (by decide)
  have fin:∀ (f:bE),f.isP=false->f.gs=rs.map (fun r=>eX r c)->(∀ a b c d,f≠.quad a b c d)->∀ p,aY H3 lw (.lst [.str "line",.str "star",.str "all"]) p=none->Q (.ref p) (aY (aY H3 lw (.lst [.str "line",.str "star",.str "all"])) p (.tup [.str f.word,.ref q])):=fun f fp fg fq p hp=>by
   have s5:=ae (o:=.tup [.str f.word,.ref q]) hp;refine k p f _ (s13.free (s4.free hp)) (s13.trans (s4.trans s5)) (fz.of fp aa (s5 _ _ (s4 _ _ (by rw[fg];exact hq3)))) ⟨?_,?_,fun a b c d z=>absurd z (fq a b c d)⟩ (fun g hg=>by rw[fg]at hg;obtain⟨r,_,rfl⟩:=xP.mp hg;exact eY _ _)
   ·rw[fg,xk];exact r0
   ·rw[fg,xk];exact r1
  obtain⟨z,ez⟩:∃ z,z=d%5:=⟨_,rfl⟩;rw[<-ez]at a5 c0 c4
  have c3:z=1\/z=2\/z=3:=by omega
  refine⟨_,rfl,_,_,rfl,rfl,?_⟩;rw[<-ez];rcases c3 with rfl | rfl | rfl
  ·exact⟨lw,_,_,_,rfl,rfl,bd.of aa,aC (j:=0) rfl,_,rfl,two,fun p hp=>fin (.line (rs.map fun r=>eX r c)) rfl rfl (fun _ _ _ _ z=>by cases z) p hp⟩
  ·exact⟨lw,_,_,_,rfl,rfl,bd.of aa,aC (j:=1) rfl,_,rfl,two,fun p hp=>fin (.star (rs.map fun r=>eX r c)) rfl rfl (fun _ _ _ _ z=>by cases z) p hp⟩
  ·exact⟨lw,_,_,_,rfl,rfl,bd.of aa,aC (j:=2) rfl,_,rfl,two,fun p hp=>fin (.all (rs.map fun r=>eX r c)) rfl rfl (fun _ _ _ _ z=>by cases z) p hp⟩
theorem k9 (F:ek K "_law_small" "_law_small" ee f fd) : a7 P w K mg base gI 1 f fd ["_law_figure_here"] gD:=by
 refine F.ok lE (fun vs H Q E h=>?_) (fun cdv A outer s H vs Q E hr h=>?_)
 ·obtain⟨p,n,f,rfl,_⟩:=h
  rfl
 ·obtain⟨p,n,f,rfl,hf,pn,k⟩:=h
  have two:(2:Nat)<=sizeLine:=by decide
  cases n with
  | zero=>exact hf.elim
  | succ n =>
  refine⟨_,ag (ax ((uV (gp fb (aO aV (pv 0) (af) (fun _ _=>rfl)) (aK (di (ai) (ai))) rfl) (tH (gp mm (aR bh (by rfl) T.len ya (bT (aO aV (pv 0) (af) (fun _ _=>rfl)))) (af) (aA _)))))),?_⟩;obtain⟨xs,hp⟩:=hf.hd;refine⟨_,rfl,p,_,0,_,rfl,rfl,aW.of hp,aC (j:=0) rfl,two,fun t ht=>⟨t,_,rfl,.inr (.inl (Rd.of aa)),rfl,rfl,_,rfl,?_⟩⟩;have s1:=ae (o:=.tup [.str "pair",.str "name"]) ht;rcases pn with ⟨g,rfl⟩ | ⟨w,rfl⟩
  ·cases g with
   | pair a b=>exact aG (k _ _ s1)
   | quad a b c d =>
    obtain⟨q,e1,e2⟩:=hf.1;exact fK (fun _=>k _ _ s1) (fun _=>⟨_,rfl,p,_,1,_,rfl,rfl,aW.of (s1 _ _ e1),rfl,q,_,rfl,.inr (aW.of (s1 _ _ e2)),_,_,rfl,rfl,k _ _ s1⟩)
   | line g =>
    obtain⟨q,e1,e2⟩:=hf.1;exact fK (fun _=>k _ _ s1) (fun _=>⟨_,rfl,p,_,1,_,rfl,rfl,aW.of (s1 _ _ e1),rfl,q,_,rfl,.inr (aW.of (s1 _ _ e2)),_,_,rfl,rfl,k _ _ s1⟩)
   | star g =>
    obtain⟨q,e1,e2⟩:=hf.1;exact fK (fun _=>k _ _ s1) (fun _=>⟨_,rfl,p,_,1,_,rfl,rfl,aW.of (s1 _ _ e1),rfl,q,_,rfl,.inr (aW.of (s1 _ _ e2)),_,_,rfl,rfl,k _ _ s1⟩)
   | all g =>
    obtain⟨q,e1,e2⟩:=hf.1;exact fK (fun _=>k _ _ s1) (fun _=>⟨_,rfl,p,_,1,_,rfl,rfl,aW.of (s1 _ _ e1),rfl,q,_,rfl,.inr (aW.of (s1 _ _ e2)),_,_,rfl,rfl,k _ _ s1⟩)
  ·exact aG (k _ _ s1)
theorem jy (F:ek K "_law_wrapped" "_law_wrapped" bA f fd)(eE:au P w K mg base "_law_small" 1 ["_law_figure_here"] gD) : a7 P w K mg base gI 4 f fd ["_law_shelf","_law_drawn","_law_names"] i8:=by
 refine F.ok aT (fun vs H Q E h=>?_) (fun cdv A outer s H vs Q E hr h=>?_)
 ·obtain⟨s,nm,d,ws,xs,rfl,_⟩:=h
  rfl
 ·obtain⟨s,nm,d,ws,xs,rfl,d0,sh,hn,wl,wn,ok,xl,okn,k⟩:=h
  have two:(2:Nat)<=sizeLine:=by decide
  have sl:sizeLine=16777216:=xY
  refine⟨_,ac (aL 3 aT.nd (am a8 (pv 1) (af))) (
   ac (aJ (PW.pt (ig (ap bC (pv 3) (af) (aA _)) (gw (mw (pv 2) (fun _=>rfl))))) (ac (cX (iM x9 ye yf cD (pv 0) (bT (aK (di (aK (di (ai) (aO dm (pv 2) (am a8 (am bw (pv 1) (af)) (aR bh (by rfl) T.len ya (bT (pv 2)))) (fun _ _=>rfl)))) (af)))))) (
   ag (nQ))) (aq)) (
   ac (aL 4 aT.nd (am bg (af) (am a8 (am bw (pv 1) (af)) (af)))) (
   ac (aJ (ap bC (pv 3) (af) (aA _)) (ag (aL 4 aT.nd (af))) (aq)) (
   ac (aL 5 aT.nd (da nV (pv 0) (cw (am lh (aR bh (by rfl) T.len ya (bT (pv 0))) (aR (ka rfl) (by rfl) T.bmin PyProof.Rows.boot_min (di (pv 4) (aR bh (by rfl) T.len ya (bT (pv 0))))))) lB)) (
   ac (aL 6 aT.nd (am bg (af) (rH rfl (by rfl) T.bmax (bT (bM (so:=ah bA) (N:=cJ) (N':=["_law_part"]) (src:=[none]) rfl rfl nE rfl (cK (pv 5)) (fun cl C s2 H2 ex=>⟨ey 0 (show (["_law_part"]:List Str).Nodup by decide +kernel),bN,aO (iW K) (pv 0) (af) (fun _ _=>rfl)⟩)))))) (
   ac (aJ (ap rY (pv 6) (af) (aA _)) (ag (nQ)) (aq)) (
   ac (dC yh rfl (cK (pv 5)) (ey 7 aT.nd) (ag (cX (tE x9 PySem.F.slot_list_pop PySem.F.type_list_pop tm (pv 0))))) (
   ag (aJ (ap bC (pv 3) (af) (aA _)) (ag (cX (iM x9 ye yf cD (pv 0) (bT (aK (di (aK (di (ai) (aO aV (aO dm (pv 5) (af) (fun _ _=>rfl)) (af) (fun _ _=>rfl)))) (pv 6))))))) (ac (aL 8 aT.nd (af)) (
   ac (aJ (PW.pt (ig (ap bC (pv 6) (af) (aA _)) (ig (ap bC (am a8 (am bw (pv 1) (af)) (af)) (af) (aA _)) (gw (lC (aR (gQ rfl) (by rfl) T.all PyProof.Rows.boot_all (bT (bM (so:=ah bA) (N:=cJ) (N':=["_law_part"]) (src:=[none]) rfl rfl nE rfl (cK (pv 5)) (fun cl C s2 H2 ex=>⟨ey 0 (show (["_law_part"]:List Str).Nodup by decide +kernel),bN,aN eE hr.m rfl (bT (aO (iW K) (pv 0) (af) (fun _ _=>rfl)))⟩))))))))) (ag (aL 8 aT.nd (am bg (af) (am a8 (am bw (pv 1) (af)) (af))))) (aq)) (
   ag (cX (iM x9 ye yf cD (pv 0) (bT (aK (di (aK (di (ai) (a6 bJ (by rfl) T.tuple yu (bT (am tz (bM (so:=ah bA) (N:=cJ) (N':=["_law_part"]) (src:=[none]) rfl rfl nE rfl (cK (pv 5)) (fun cl C s2 H2 ex=>⟨ey 0 (show (["_law_part"]:List Str).Nodup by decide +kernel),bN,aO (iW K) (pv 0) (af) (fun _ _=>rfl)⟩)) (pv 8)))))) (pv 6)))))))))))))))))),?_⟩
  obtain⟨ts,h1,pr⟩:=sh;obtain⟨us,rfl,rfl,hU⟩:=ri pr;rw[yr]at h1;have h1:H s=some (.lst (us.map fun u=>V.ref u.1)):=h1;rw[xk]at xl;refine⟨_,rfl,_,_,rfl,rfl,by show (0:Int)<4;decide,?_⟩;refine⟨_,rfl,rfl,_,rfl,?_⟩
  apply jK (fun σ HH=>H=HH/\σ=[some (.ref s),some (.int d),some (.ref nm),some (.int (d%4)),none,none,none,none,none])
  ·intro rest
   refine fK (fun _=>?_) (fun _=>ar (rest _ _ ⟨rfl,rfl⟩));refine⟨_,rfl,!(ws.map V.str).isEmpty,.inl ⟨_,bd.of hn,rfl⟩,?_⟩;refine fK (fun ne=>?_) (fun _=>rest _ _ ⟨rfl,rfl⟩)
   have wpos:0<ws.length:=by cases ws with | nil=>cases ne | cons _ _=>exact Nat.succ_pos _
   have i0:0<=d/4%(ws.length:Int):=yp _ (by omega);have i1:d/4%(ws.length:Int)<ws.length:=yb _ (by omega);obtain⟨j,hj⟩:=Int.eq_ofNat_of_zero_le i0
   have hjl:j<ws.length:=by omega
   have hwj:=List.getElem?_eq_getElem hjl;refine⟨_,rfl,.inl ⟨rfl,_,bd.of h1⟩,_,rfl,_,rfl,_,_,rfl,rfl,⟨by decide,by decide⟩,_,rfl,nm,_,rfl,.inl (bd.of hn),_,_,rfl,rfl,by show (0:Int)<_;rw[xk];omega,nm,_,j,.str ws[j],rfl,by rw[xk,hj],bd.of hn,aC (j:=j) (by rw[List.getElem?_map,hwj];rfl),two,fun p hp=>⟨two,fun t ht=>?_⟩⟩;have s1:=ae (o:=.tup [.str "name",.str ws[j]]) hp;have s2:=s1.trans (ae (o:=.tup [.ref p,.int 1]) ht);refine⟨s,_,_,rfl,rfl,s2 _ _ h1,by rw[xk];omega,?_⟩
   have ts':t≠s:=fun z=>by rw[z,s1 _ _ h1]at ht;cases ht
   have kp:=(jk (s:=s) s2).trans (iX (o:=.lst ((us.map fun u=>V.ref u.1)++[.ref t])));have up:=kp.tup h1
   have hp2:aY (aY (aY H p (.tup [.str "name",.str ws[j]])) t (.tup [.ref p,.int 1])) s (.lst ((us.map fun u=>V.ref u.1)++[.ref t])) p=some (.tup [.str "name",.str ws[j]]):=by
    rw[aE (fun z=>by rw[z,h1]at hp;cases hp)];exact ae ht _ _ aa
   refine k (us.map (·.2.2)++[(.name ws[j],1)]) _ (qm (iZ hU) up (by rw[aa,yr];rfl) ⟨p,by rw[aE ts',aa];rfl,show aI 1 _ p (.name ws[j]) from ⟨hp2,by have:=jt (wl _ (List.getElem_mem hjl));omega⟩⟩) (pU ok ⟨xm _,by show 1<=7;decide,fun _=>.inr ⟨_,rfl⟩⟩) (by rw[xv,xR];exact xm _) (by rw[gF];exact xm _) (jg okn (show ak.Good 1 (.name ws[j]) from wl _ (List.getElem_mem hjl))) (by rw[jQ];exact xm _) kp
  rintro σ HH ⟨rfl,rfl⟩;have n0:∀ x:Int,0<=x%3/\x%3<3:=fun x=>⟨yp _ (by decide),yb _ (by decide)⟩;refine⟨_,rfl,_,_,rfl,rfl,⟨by decide,by decide⟩,_,_,rfl,rfl,by show (0:Int)<3;decide,_,_,rfl,rfl,?_⟩;refine⟨_,rfl,rfl,_,rfl,?_⟩
  apply jK (fun σ HH=>∃ mn:Int,H=HH/\σ=[some (.ref s),some (.int d),some (.ref nm),some (.int (d%4)),some (.int mn),none,none,none,none]/\1<=mn/\mn<=3)
  ·intro rest
   have:=n0 (d/4);refine fK ?tt fun c=>rest _ _ ⟨1+d/4%3,rfl,rfl,by omega,by omega⟩;exact fun _=>rest [some (.ref s),some (.int d),some (.ref nm),some (.int (d%4)),some (.int 1),none,none,none,none] H ⟨1,rfl,rfl,by decide,by decide⟩
  rintro σ HH ⟨mn,rfl,rfl,mn1,mn3⟩;refine⟨_,rfl,_,rfl,s,_,rfl,.inl (bd.of h1),_,rfl,_,rfl,s,_,rfl,.inl (bd.of h1),_,_,rfl,_,_,rfl,rfl,_,rfl,s,_,rfl,bd.of h1,fun q hq=>?_⟩
  obtain⟨j,ej,jl,jl3⟩:∃ j:Nat,(((us.map fun u=>V.ref u.1).length:Int)-(if ((us.map fun u=>V.ref u.1).length:Int)<mn then ((us.map fun u=>V.ref u.1).length:Int) else mn))=(j:Int)/\j<=us.length/\us.length<=j+3:=by
   rw[xk];split
   ·exact⟨0,by omega,xX _,by omega⟩
   ·exact⟨us.length-mn.toNat,by omega,by omega,by omega⟩
  rw[ej,py,<-List.map_drop]
  have hqs:q≠s:=fun z=>by rw[z,h1]at hq;cases hq
  have s1:=ae (o:=.lst ((us.drop j).map fun u=>V.ref u.1)) hq;have hq1:aY H q (.lst ((us.drop j).map fun u=>V.ref u.1)) q=some (.lst ((us.drop j).map fun u=>V.ref u.1)):=aa;generalize aY H q (.lst ((us.drop j).map fun u=>V.ref u.1))=H1 at s1 hq1 ⊢
  have dl:(us.drop j).length<=3:=by rw[xI];omega
  have du:∀ u∈us.drop j,u∈us:=fun u hu=>List.mem_of_mem_drop hu;refine⟨_,rfl,q,rfl,⟨_,bd.of hq1⟩,fun c hc=>?_⟩;refine hG (fun u:lO=>V.ref u.1) (rs:=us.drop j) (f:=fun u=>.int u.2.2.2) hc hq1 (by omega) (fun u HK Q' hu sK kk=>⟨_,rfl,u.1,_,1,_,rfl,rfl,aW.of (sK _ _ (s1 _ _ (hU u (du u hu)).1)),rfl,kk HK (aB.refl _)⟩) (fun H2 s2 hc2=>?_);have s12:=s1.trans s2;have back:∀ H',aB H H'->Q .non H':=fun H' s=>k _ H' ⟨us.map (·.1),by rw[yr];exact s _ _ h1,iZ fun u hu=>(hU u hu).mono fun _ _ z=>s _ _ z⟩ ok (Nat.le_succ _) (Nat.le_add_right _ _) okn (Nat.le_add_right _ _) (jk s);refine⟨c,(us.drop j).map (fun u=>(u.2.2.2:Int)),rfl,bd.of (by rw[hc2,yr];rfl),fun _=>?_,fun M hM hle=>?_⟩
  ·exact⟨_,_,rfl,rfl,_,rfl,_,_,rfl,rfl,_,rfl,aG (back _ s12)⟩
  refine⟨_,_,rfl,rfl,_,rfl,_,_,rfl,rfl,_,rfl,fK (fun _=>back _ s12) (fun c7=>?_)⟩;obtain⟨u0,hu0,rfl⟩:=xP.mp hM;generalize eM:u0.2.2.2=M at *
  have M7:M<=6:=by have:=of_decide_eq_false c7;omega
  have hle:∀ u∈us.drop j,u.2.2.2<=M:=fun u hu=>by have:=hle _ (x6 (f:=fun u:lO=>(u.2.2.2:Int)) hu);omega
  have okU:∀ u∈us,eB u.2.2:=fun u hu=>ok _ (x6 (f:=fun u:lO=>u.2.2) hu)
  have M1:1<=M:=by have:=(okU u0 (du _ hu0)).1;omega
  have hs2:=s12 _ _ h1;have hq2:=s2 _ _ hq1;refine⟨_,rfl,q,rfl,⟨_,bd.of hq2⟩,?_⟩
  refine cO (K:=K) (a:=q) (xs:=(us.drop j).map fun u=>V.ref u.1) (fun i σ HK=>∃ v:Option V,σ=[some (.ref s),some (.int d),some (.ref nm),some (.int (d%4)),some (.int mn),some (.ref q),some (.int (1+M)),v,none]/\o6 s H2 HK/\HK s=some (.lst ((us.take (us.length-i)).map fun u=>V.ref u.1)))
   ⟨none,rfl,jk (aB.refl _),by rw[Nat.sub_zero,yq];exact hs2⟩ (fun i σ HK _ ⟨_,_,kp,_⟩=>bd.of (kp _ _ hq2 hqs)) ?_ ?_
  ·rintro i y σ HK hi ⟨v,rfl,kp,hs⟩
   have hil:=(List.getElem?_eq_some_iff.mp hi).1;rw[xk,xI]at hil
   have hlt:us.length-i-1<us.length:=by omega
   refine⟨_,rfl,.inl ⟨rfl,_,bd.of hs⟩,s,_,V.ref us[us.length-i-1].1,rfl,rfl,hs,?_,_,rfl,kp.trans iX,?_⟩
   ·rw[xk,xS,yx (by omega),List.getElem?_map,List.getElem?_take_of_lt (by omega),List.getElem?_eq_getElem hlt];rfl
   ·rw[aa,<-List.map_dropLast,List.dropLast_eq_take,List.take_take,xS]
    congr 4
    omega
  rintro σ H3 ⟨v,rfl,kp,hs3⟩;rw[xk,xI,show us.length-(us.length-j)=j by omega]at hs3;have hq3:=kp _ _ hq2 hqs;have kp:o6 s H H3:=(jk s12).trans kp;have up3:=kp.tup h1;have hU3:∀ u∈us,sE H3 u:=fun u hu=>(hU u hu).mono up3;have tU:∀ u∈us.take j,u∈us:=fun u hu=>List.mem_of_mem_take hu
  have wt:jT (us.map (·.2.2))=jT ((us.take j).map (·.2.2))+jT ((us.drop j).map (·.2.2)):=by rw[<-gF,<-xC,List.take_append_drop]
  have tw:tS (us.map (·.2.2))=tS ((us.take j).map (·.2.2))+tS ((us.drop j).map (·.2.2)):=by rw[<-jQ,<-xC,List.take_append_drop]
  have tlen:(us.take j).length<=us.length:=by rw[xS];omega
  clear hq2 hs2 hc2 back
  have fin:∀ (f:ak)(H4:Hp)(p t:Addr),aB H3 H4->H4 t=some (.tup [.ref p,.int (1+M)])->aI (M+1) H4 p f->rQ (f,M+1)<=jT ((us.drop j).map (·.2.2))->ak.Good (M+1) f->f.txt.length+1<=tS ((us.drop j).map (·.2.2))+10->Q .non (aY H4 s (.lst (((us.take j).map fun u=>V.ref u.1)++[.ref t]))):=fun f H4 p t s4 ht hf hw hwn hwt=>by
   have hs4:=s4 _ _ hs3
   have ts':t≠s:=fun z=>by rw[z,hs4]at ht;cases ht
   have kp4:o6 s H3 (aY H4 s (.lst (((us.take j).map fun u=>V.ref u.1)++[.ref t]))):=(jk s4).trans iX;have up4:=(iX (s:=s) (H:=H4) (o:=.lst (((us.take j).map fun u=>V.ref u.1)++[.ref t]))).tup hs4;refine k ((us.take j).map (·.2.2)++[(f,M+1)]) _ (qm (iZ fun u hu=>hU3 u (tU u hu)) (kp4.tup hs3) (by rw[aa,yr];rfl) ⟨p,up4 _ _ (by rw[ht,show (1+(M:Int))=((M+1:Nat):Int) by omega]),hf.mono up4⟩) (pU (fun x hx=>?_) ⟨by show 1<=M+1;omega,by show M+1<=7;omega,fun z=>by have z:M+1=1:=z;omega⟩) (by rw[xv,xR,xk,xk];omega) (by rw[gF,wt];show _+(rQ (f,M+1)+0)<=_;omega) (jg (fun x hx=>?_) hwn) (by rw[jQ,tw];show _+(tI (f,M+1)+0)<=_;unfold tI;rw[xx (show ¬ (M+1=1) by omega)];show _+(f.txt.length+1+0)<=_;omega) (kp.trans kp4)
   ·obtain⟨u,hu,rfl⟩:=xP.mp hx
    exact okU u (tU u hu)
   ·obtain⟨u,hu,rfl⟩:=xP.mp hx
    exact okn _ (x6 (f:=fun u:lO=>u.2.2) (tU u hu))
  refine⟨_,rfl,rfl,_,rfl,?_⟩;refine fK (fun _=>?_) (fun _=>?_)
  ·cases ed:us.drop j with
   | nil=>rw[ed]at hu0;cases hu0
   | cons u ur =>
    have um:u∈us.drop j:=by rw[ed];exact xp
    have hU:=hU3 u (du u um);rw[ed]at hq3;refine⟨_,rfl,.inl ⟨rfl,_,bd.of hs3⟩,_,rfl,q,_,0,_,rfl,rfl,bd.of hq3,aC (j:=0) rfl,u.1,_,0,_,rfl,rfl,aW.of hU.1,aC (j:=0) rfl,two,fun p hp=>⟨_,rfl,two,fun t ht=>?_⟩⟩;have s4:=(ae (o:=.tup [.str "back",.ref u.2.1]) hp).trans (ae (o:=.tup [.ref p,.int (1+M)]) ht);refine⟨s,_,_,rfl,rfl,s4 _ _ hs3,by rw[xk];omega,fin (.back u.2.2.1) _ p t s4 aa ⟨u.2.1,ae ht _ _ aa,(hU.2.le (hle u um)).mono fun _ _ z=>s4 _ _ z⟩ ?_ (show ak.Good (M+1) (.back u.2.2.1) from (okn _ (x6 (f:=fun u:lO=>u.2.2) (du u um))).le (hle u um)) (by rw[dH,ed,xM,tS];have:=qx (okU u (du u um)) (okn _ (x6 (f:=fun u:lO=>u.2.2) (du u um)));omega)⟩;have:=(okU u (du u um)).few;rw[ed,xM,jT];unfold rQ at *;rw[xx (show ¬ (M+1=1) by omega)]
    show (ak.back _).names.length<=_
    rw[ak.names];omega
  ·have nt:∀ x:Int,0<=x%20/\x%20<20:=fun x=>⟨yp _ (by decide),yb _ (by decide)⟩
   refine⟨_,rfl,rfl,_,rfl,?_⟩
   apply jK (fun σ HH=>∃ n:Nat,aB H3 HH/\σ=[some (.ref s),some (.int d),some (.ref nm),some (.int (d%4)),some (.int mn),some (.ref q),some (.int (1+M)),v,some (.int n)]/\(1<=n/\(n=1\/(n<=20/\∀ x∈(us.drop j).map (·.2.2),x.2=1))))
   ·intro rest
    refine fK ?tw1 fun _=>ar (rest _ _ ⟨1,aB.refl _,rfl,xm _,.inl rfl⟩);intro c2
    have M1':M=1:=by have:=V.int.inj (x0 c2);omega
    have one:∀ x∈(us.drop j).map (·.2.2),x.2=1:=fun x hx=>by
     obtain⟨u,hu,rfl⟩:=xP.mp hx;have:=hle u hu;have:=(okU u (du u hu)).1;omega
    refine⟨_,rfl,_,_,rfl,rfl,⟨by decide,by decide⟩,_,_,rfl,rfl,by show (0:Int)<5;decide,rfl,_,rfl,?_⟩;refine fK ?tw2 fun _=>ar (rest _ _ ⟨1,aB.refl _,rfl,xm _,.inl rfl⟩);intro _;refine⟨_,rfl,q,rfl,⟨_,bd.of hq3⟩,fun c hc=>?_⟩;refine oj (fun u:lO=>V.ref u.1) (rs:=us.drop j) hc hq3 (by omega) (fun u HK Q' hu sK kk=>?_) (fun H4 bs s4 hc4=>?_)
    ·have hU:=(hU3 u (du u hu)).mono fun _ _ z=>sK _ _ z
     exact⟨_,rfl,u.1,_,0,_,rfl,rfl,aW.of hU.1,aC (j:=0) rfl,u.2.1,_,_,rfl,hU.2,(okU u (du u hu)).2.2 (one _ (x6 (f:=fun u:lO=>u.2.2) hu)),fun H5 b s5=>kk H5 b s5⟩
    refine⟨c,bs,rfl,bd.of hc4,_,rfl,fK ?tw3 fun _=>rest _ _ ⟨1,s4,rfl,xm _,.inl rfl⟩⟩;intro _;refine⟨_,rfl,_,_,rfl,rfl,⟨by decide,by decide⟩,_,_,rfl,rfl,by show (0:Int)<20;decide,_,_,rfl,rfl,?_⟩;have:=nt (d/60);obtain⟨n,en⟩:=Int.eq_ofNat_of_zero_le this.1;rw[en];exact rest [some (.ref s),some (.int d),some (.ref nm),some (.int (d%4)),some (.int mn),some (.ref q),some (.int (1+M)),v,some (.int (1+n))] H4 ⟨1+n,s4,by rw[Int.natCast_add];rfl,by omega,.inr ⟨by omega,one⟩⟩
   rintro σ H4 ⟨n,s4,rfl,p1,hn⟩;have hq4:=s4 _ _ hq3;refine⟨_,rfl,.inl ⟨rfl,_,bd.of (s4 _ _ hs3)⟩,_,rfl,q,rfl,⟨_,bd.of hq4⟩,fun c hc=>?_⟩;refine hG (fun u:lO=>V.ref u.1) (rs:=us.drop j) (f:=fun u=>.ref u.2.1) hc hq4 (by omega) (fun u HK Q' hu sK kk=>⟨_,rfl,u.1,_,0,_,rfl,rfl,aW.of (sK _ _ (s4 _ _ (hU3 u (du u hu)).1)),aC (j:=0) rfl,kk HK (aB.refl _)⟩) (fun H5 s5 hc5=>?_)
   have n20:n<=20:=by rcases hn with z | z<;>omega
   have fl:(us.drop j).length*n<=3*20:=Nat.mul_le_mul dl n20;refine⟨_,rfl,c,n,_,rfl,rfl,hc5,by omega,by omega,by rw[xk,yR];omega,fun l hl=>?_⟩;rw[yR,hV (fun u:lO=>V.ref u.2.1)];refine⟨l,_,rfl,.inl ⟨bd.of aa,fun t2 ht2=>⟨two,fun p hp=>⟨_,rfl,two,fun t ht=>?_⟩⟩⟩⟩;have s6:=(s4.trans s5).trans (((ae hl).trans (ae ht2)).trans ((ae hp).trans (ae (o:=.tup [.ref p,.int (1+M)]) ht)));refine⟨s,_,_,rfl,rfl,s6 _ _ hs3,by rw[xk];omega,fin (.row (List.replicate n ((us.drop j).map (·.2.2.1))).flatten) _ p t s6 aa ⟨t2,(List.replicate n ((us.drop j).map (·.2.1))).flatten,ae ht _ _ aa,((ae hp).trans (ae ht)) _ _ (by rw[aa,hV,yr];rfl),by rw[jo,xk,Nat.mul_comm];omega,iJ (nI (fun u hu=>(hU3 u (du u hu)).mono fun _ _ z=>s6 _ _ z) hle) n⟩ ?_ (oz (fun f hf=>?_) n ?_ ?_) ?_⟩
   ·have:=ug (k:=n) (d:=M+1) (fun x hx=>?_) (by omega) hn
    ·rw[yr]at this;exact this
    obtain⟨u,hu,rfl⟩:=xP.mp hx;exact okU u (du u hu)
   ·obtain⟨u,hu,rfl⟩:=xP.mp hf
    exact (okn _ (x6 (f:=fun u:lO=>u.2.2) (du u hu))).le (hle u hu)
   ·rw[xk]
    have p2:0<(us.drop j).length:=List.length_pos_of_mem hu0;exact Nat.mul_le_mul p1 p2
   ·rw[xk,Nat.mul_comm]
    omega
   ·have:=uc (k:=n) (fun x hx=>?_) (fun x hx=>?_) hn
    ·rw[yr]at this
     have this:(ak.row (List.replicate n ((us.drop j).map fun u=>u.2.2.1)).flatten).txt.length+1<=tS ((us.drop j).map (·.2.2))+6:=this
     show (ak.row (List.replicate n ((us.drop j).map fun u=>u.2.2.1)).flatten).txt.length+1<=_
     omega
    ·obtain⟨u,hu,rfl⟩:=xP.mp hx
     exact okU u (du u hu)
    ·obtain⟨u,hu,rfl⟩:=xP.mp hx
     exact okn _ (x6 (f:=fun u:lO=>u.2.2) (du u hu))
theorem jX (F:ek K "_law_figure" "_law_figure" cM f fd)(eC:au P w K mg base "_law_plain" 3 ["_law_drawn","_law_cell"] lK)(dz:au P w K mg base "_law_wrapped" 4 ["_law_shelf","_law_drawn","_law_names"] i8)(bc:au P w K mg base "_law_guest" 2 ["_law_k","_law_cell"] gB) : a7 P w K mg base gI 5 f fd ["_law_draws_here","_law_cell","_law_names"] i6:=by
 refine F.ok dE (fun vs H Q E h=>?_) (fun cdv A outer s H vs Q E hr h=>?_)
 ·obtain⟨l,nm,c,ds,ws,rfl,_⟩:=h
  rfl
 ·obtain⟨l,nm,c,ds,ws,rfl,hl,d0,dl,hn,wl,wn,k⟩:=h
  have two:(2:Nat)<=sizeLine:=by decide
  have sl:sizeLine=16777216:=xY
  refine⟨_,ac (aL 3 dE.nd (dB bW)) (
   ac (dC yh rfl (cK (pv 0)) (ey 4 dE.nd) (ag (aJ (ap bC (am a8 (pv 4) (af)) (af) (aA _)) (ag (cX (iM x9 ye yf cD (pv 3) (bT (aK (di (aN eC hr.m rfl (di (am bw (pv 4) (af)) (pv 1))) (af))))))) (ag (cX (aN dz hr.m rfl (nc (pv 3) (am bw (pv 4) (af)) (pv 2)))))))) (
   ac (aJ (fO (mw (pv 3) (fun _=>rfl))) (ag (ax (aK (di (ai) (aK (di (aN bc hr.m rfl (di (af) (pv 1))) (aN bc hr.m rfl (di (af) (pv 1))))))))) (aq)) (
   ac (aJ (ap bC (aR bh (by rfl) T.len ya (bT (pv 3))) (af) (aA _)) (ag (ax (aO aV (aO dm (pv 3) (af) (fun _ _=>rfl)) (af) (fun _ _=>rfl)))) (aq)) (
   ag (ax (aK (di (ai) (a6 bJ (by rfl) T.tuple yu (bT (bM (so:=ah cM) (N:=gh) (N':=["_law_part"]) (src:=[none]) rfl rfl nE rfl (cK (pv 3)) (fun cl C s2 H2 ex=>⟨ey 0 (show (["_law_part"]:List Str).Nodup by decide +kernel),bN,aO (iW K) (pv 0) (af) (fun _ _=>rfl)⟩))))))))))),?_⟩
  refine⟨xX _,fun s hs=>⟨_,rfl,l,rfl,⟨_,bd.of (ae hs _ _ hl)⟩,?_⟩⟩
  refine cO (K:=K) (a:=l) (xs:=ds.map V.int) (fun i σ HK=>∃ (v:Option V)(xs:List (ak×Nat)),σ=[some (.ref l),some (.int c),some (.ref nm),some (.ref s),v]/\aB H HK/\qR HK s xs/\(∀ x∈xs,eB x)/\xs.length<=i/\jT xs<=20*i/\(∀ x∈xs,ak.Good x.2 x.1)/\tS xs<=16030*i)
   ⟨none,[],rfl,ae hs,⟨[],aa,.nil⟩,(fun x hx=>nomatch hx),xm _,xm _,(fun x hx=>nomatch hx),xm _⟩ (fun i σ HK _ ⟨_,_,_,s2,_⟩=>bd.of (s2 _ _ hl)) ?_ ?_
  ·rintro i y σ HK hi ⟨v,xs,rfl,s2,sh,ok,xl,xw,okn,xt⟩
   obtain⟨d,hd,rfl⟩:=cr hi;have hil:=(List.getElem?_eq_some_iff.mp hd).1;have dd:=d0 d (xO hd);obtain⟨ts,h1,pr⟩:=id sh;have tl:=xN pr;refine⟨_,rfl,_,_,rfl,rfl,by show (0:Int)<2;decide,rfl,_,rfl,?_⟩;refine fK (fun _=>?_) (fun _=>?_)
   ·refine⟨_,rfl,.inl ⟨rfl,_,bd.of h1⟩,_,rfl,_,_,rfl,rfl,⟨by decide,by decide⟩,_,rfl,_,c,rfl,by omega,fun p f H1 hp s3 fa fo fg=>⟨two,fun t ht=>?_⟩⟩
    have h2:=ae (o:=.tup [.ref p,.int 1]) ht _ _ (s3 _ _ h1);refine⟨s,_,_,rfl,rfl,h2,by rw[xk];omega,?_⟩
    have up:∀ b ys,H1 b=some (.tup ys)->aY (aY H1 t (.tup [.ref p,.int 1])) s (.lst (ts.map V.ref++[.ref t])) b=some (.tup ys):=fun b ys e=>by
     rw[aE (fun z=>by rw[z,s3 _ _ h1]at e;cases e)];exact ae ht _ _ e
    have ts':t≠s:=fun z=>by rw[z,s3 _ _ h1]at ht;cases ht
    refine⟨_,xs++[(.pl f,1)],rfl,bX ((s2.trans s3).trans (ae ht)) hs,⟨ts++[t],by rw[aa,xC];rfl,bq (Paired.mapP pr fun _ _ z=>z.mono fun b ys e=>up b ys (s3 _ _ e)) (.cons ⟨p,by rw[aE ts',aa];rfl,aI.mono (n:=1) up (show aI 1 H1 p (.pl f) from ⟨fa,fo⟩)⟩ .nil)⟩,fun x hx=>?_,by rw[xv,xR];omega,by rw[gF];show jT xs+(20+0)<=_;omega,jg okn (show ak.Good 1 (.pl f) from ⟨fo,fg⟩),by rw[jQ];show tS xs+(16030+0)<=_;omega⟩;rcases xU.mp hx with z | z
    ·exact ok x z
    ·rw[xG.mp z];exact⟨xm _,by show 1<=7;decide,fun _=>.inl ⟨f,rfl⟩⟩
   ·refine⟨_,rfl,_,rfl,_,_,rfl,rfl,⟨by decide,by decide⟩,_,rfl,s,nm,_,ws,xs,rfl,by omega,sh,s2 _ _ hn,wl,wn,ok,by omega,okn,fun ys H' sh' ok' yl yw okn' yt kp=>?_⟩
    exact⟨_,ys,rfl,fun a o e=>kp a o (s2 _ _ e) (bH e hs),sh',ok',by omega,by omega,okn',by omega⟩
  rintro σ HK ⟨v,xs,rfl,s2,sh,ok,xl,xw,okn,xt⟩;obtain⟨ts,h1,pr⟩:=sh;have tl:=xN pr;rw[xk]at xl xw xt;have nw:=im xs ok
  cases pr with
  | nil =>
   have lg:∀ g∈(bE.line [eX 0 c,eX 1 c]).gs,nB g:=fun g hg=>by
    rcases xB.mp hg with rfl | hg
    ·exact eY _ _
    ·rw[xG.mp hg];exact eY _ _
   have lok:(bE.line [eX 0 c,eX 1 c]).Ok:=⟨by show (2:Nat)<=2;decide,by show (2:Nat)<=60;decide,fun _ _ _ _ z=>by cases z⟩;refine⟨_,rfl,false,.inl ⟨_,bd.of h1,rfl⟩,?_⟩;refine aG ⟨_,rfl,0,c,rfl,⟨by decide,by decide⟩,_,rfl,1,c,rfl,⟨by decide,by decide⟩,two,fun q hq=>⟨two,fun p hp=>?_⟩⟩;refine k p (.pl (.line [eX 0 c,eX 1 c])) _ (s2.trans ((ae hq).trans (ae hp))) (aI.le (n:=1) ⟨⟨q,aa,ae hp _ _ aa⟩,⟨by show (2:Nat)<=2;decide,by show (2:Nat)<=60;decide,fun _ _ _ _ z=>by cases z⟩⟩ (by decide)) (by rw[ak.names];exact xX _) (show ak.Good 8 (.pl (.line [eX 0 c,eX 1 c])) from ⟨lok,lg⟩) (xZ (jm (x:=(.pl (.line [eX 0 c,eX 1 c]),1)) ⟨xm _,by show 1<=7;decide,fun _=>.inl ⟨_,rfl⟩⟩ rfl (show ak.Good 1 (.pl (.line [eX 0 c,eX 1 c])) from ⟨lok,lg⟩)) (by decide))
  | cons a pr2 =>
   rename_i t x ts2 xs2
   refine⟨_,rfl,true,.inl ⟨_,bd.of h1,rfl⟩,?_⟩;refine ar ⟨_,rfl,s,_,rfl,.inl (bd.of h1),rfl,_,rfl,?_⟩;refine fK (fun _=>?_) (fun _=>?_)
   ·obtain⟨p,e1,e2⟩:=a
    have o:=ok x xp;have:=o.2.1;have f1:=o.few;rw[jT]at xw;exact⟨_,rfl,s,_,0,_,rfl,rfl,bd.of h1,aC (j:=0) rfl,t,_,0,_,rfl,rfl,aW.of e1,aC (j:=0) rfl,k p x.1 HK s2 (e2.le (by omega)) (by omega) ((okn x xp).le (by omega)) (by have:=qx (ok x xp) (okn x xp);rw[tS]at xt;omega)⟩
   ·obtain⟨ps,p1,p2⟩:=pJ (.cons a pr2) ok
    have pl:=xN p1;have pl2:=xN p2;refine⟨_,rfl,s,rfl,⟨_,bd.of h1⟩,fun q hq=>?_⟩
    refine cO (K:=K) (a:=s) (xs:=(t::ts2).map V.ref) (fun i σ H2=>∃ v:Option V,σ=[v]/\aB HK H2/\H2 q=some (.lst ((ps.take i).map V.ref)))
     ⟨none,rfl,ae hq,aa⟩ (fun i σ H2 _ ⟨_,_,s3,_⟩=>bd.of (s3 _ _ h1)) ?_ ?_
    ·rintro i y σ H2 hi ⟨v,rfl,s3,hq2⟩
     obtain⟨u,hu,rfl⟩:=cr hi;obtain⟨p,hp,n,e⟩:=cE p1 hu;refine cA ⟨_,rfl,u,_,0,_,rfl,rfl,aW.of (s3 _ _ e),aC (j:=0) rfl,_,hq2,by rw[xk,xS];omega,_,rfl,bX s3 hq,?_⟩;rw[aa,ym,hp,yi,xC];rfl
    rintro σ H2 ⟨v,rfl,s3,hq2⟩;rw[xk,pl,yq]at hq2;refine⟨q,_,rfl,.inl ⟨bd.of hq2,fun t2 ht2=>⟨two,fun p hp=>?_⟩⟩⟩;have s4:=s3.trans ((ae (o:=.tup (ps.map V.ref)) ht2).trans (ae (o:=.tup [.str "row",.ref t2]) hp));refine k p (.row ((x::xs2).map (·.1))) _ (s2.trans s4) (aI.le (n:=8) ⟨t2,ps,aa,ae hp _ _ aa,?_,Paired.mapP p2 fun _ _ z=>z.mono fun _ _ e=>s4 _ _ e⟩ (by decide)) (by rw[ak.names];omega) (show ak.Good 8 (.row ((x::xs2).map (·.1))) from ⟨by rw[xk];exact Nat.succ_pos _,by rw[xk];omega,fun f hf=>by obtain⟨y,hy,rfl⟩:=xP.mp hf;exact (okn y hy).le (ok y hy).2.1⟩) (by rw[i4];have:=qA ok okn;omega);rw[xk];omega
theorem fM (F:ek K "_law_figure_text" "_law_figure_text" bf f fd){n:Nat}(hn:n<=9)(aZ:au P w K mg base "_law_figure_text" (n+1) ["_law_figure_here"] (de n)):a7 P w K mg base gI (n+1+1) f fd ["_law_figure_here"] (de (n+1)):=by
 refine F.ok bI (fun vs H Q E h=>?_) (fun cdv A outer s H vs Q E hr h=>?_)
 ·obtain⟨p,f,rfl,_⟩:=h
  rfl
 ·obtain⟨p,f,rfl,hf,g,tl,k⟩:=h
  have sl:sizeLine=16777216:=xY
  refine⟨_,ac (aL 1 bI.nd (aO aV (pv 0) (af) (fun _ _=>rfl))) (
   ac (aJ (ap bC (pv 1) (ai) (aA _)) (ag (ax (aO aV (pv 0) (af) (fun _ _=>rfl)))) (aq)) (
   ac (aJ (ap bC (pv 1) (ai) (aA _)) (ag (ax (am aX (am aX (ai) (aN aZ (hr.mono (by omega)) rfl (bT (aO aV (pv 0) (af) (fun _ _=>rfl))))) (ai)))) (aq)) (
   ac (aJ (ap bC (pv 1) (ai) (aA _)) (ag (ax (am aX (am aX (ai) (lu K (ai) (bM (so:=ah bf) (N:=cu) (N':=["_law_part"]) (src:=[none]) rfl rfl nE rfl (lz (aO aV (pv 0) (af) (fun _ _=>rfl))) (fun cl C s2 H2 ex=>⟨ey 0 (show (["_law_part"]:List Str).Nodup by decide +kernel),bN,aN aZ (hr.mono (by omega)) rfl (bT (pv 0))⟩)))) (ai)))) (aq)) (
   ac (aL 2 bI.nd (a6 f7 (by rfl) T.list PyProof.Rows.boot_list (bT (da tT (pv 0) (cw (af)) lB)))) (
   ac (aJ (ap iI (pv 1) (ai) (aA _)) (ag (aL 2 bI.nd (a6 f7 (by rfl) T.list PyProof.Rows.boot_list (bT (aO aV (pv 0) (af) (fun _ _=>rfl)))))) (aq)) (
   ag (ax (am aX (am aX (am aX (am aX (ai) (pv 1)) (ai)) (lu K (ai) (bM (so:=ah bf) (N:=cu) (N':=["_law_guest_here"]) (src:=[none]) rfl rfl nE rfl (cK (pv 2)) (fun cl C s2 H2 ex=>⟨ey 0 (show (["_law_guest_here"]:List Str).Nodup by decide +kernel),bN,a6 f8 (by rfl) T.str yJ (bT (pv 0))⟩)))) (ai))))))))),?_⟩
  obtain⟨xs,hp⟩:=hf.hd;refine⟨_,rfl,p,_,0,_,rfl,rfl,aW.of hp,aC (j:=0) rfl,?_⟩;refine⟨_,rfl,rfl,_,rfl,?_⟩
  have b1:(Str.ofString " ").length=1:=by decide +kernel
  have b2:(Str.ofString ")").length=1:=by decide +kernel
  have b3:(Str.ofString "(").length=1:=by decide +kernel
  have b4:(Str.ofString "(back ").length=6:=by decide +kernel
  have b5:(Str.ofString "(row ").length=5:=by decide +kernel
  have la:∀ x y:Str,(x++y).length=x.length+y.length:=strLen_append
  cases f with
  | name w =>
   rw[sj];refine aG ⟨_,rfl,p,_,1,_,rfl,rfl,aW.of hf.1,rfl,?_⟩;have:=k H (aB.refl _);rw[ak.txt,dU]at this;exact this
  | back f =>
   rw[si];refine ar ⟨_,rfl,rfl,_,rfl,?_⟩;rw[qE];obtain⟨q,e1,e2⟩:=hf;have bt:=dH f;refine aG ⟨_,rfl,p,_,1,_,rfl,rfl,aW.of e1,rfl,q,f,rfl,e2,g,by omega,fun H1 s1=>⟨_,_,rfl,rfl,by rw[bO];omega,_,_,rfl,rfl,by rw[la,bO];omega,?_⟩⟩;rw[qT];exact k H1 s1
  | row fs =>
   rw[sm];refine ar ⟨_,rfl,rfl,_,rfl,?_⟩;rw[qH];refine ar ⟨_,rfl,rfl,_,rfl,?_⟩;rw[qI];obtain⟨t,as,e1,e2,fl,pr⟩:=hf;have al:=xN pr;have fl60:=g.2.1;refine aG ⟨rfl,_,rfl,p,_,1,_,rfl,rfl,aW.of e1,rfl,t,rfl,⟨_,aW.of e2⟩,fun q hq=>?_⟩
   refine iU (K:=K) (a:=t) (xs:=as.map V.ref) (fun i σ HK=>∃ v:Option V,σ=[v]/\aB H HK/\HK q=some (.lst (((fs.take i).map fun f=>toS f.txt).map V.str)))
    ⟨none,rfl,ae hq,aa⟩ (fun i σ HK _ ⟨_,_,s2,_⟩=>aW.of (s2 _ _ e2)) ?_ ?_
   ·rintro i y σ HK hi ⟨v,rfl,s2,hq2⟩
    obtain⟨a,ha,rfl⟩:=cr hi;obtain⟨u,hu,hA⟩:=cE pr ha;have um:=xO hu;have:=gz um;refine cA ⟨_,rfl,a,u,rfl,hA.mono (fun _ _ z=>s2 _ _ z),g.2.2 u um,by omega,fun H5 s5=>⟨_,s5 _ _ hq2,by rw[xk,xk,xS];exact bK (by omega),_,rfl,bX (s2.trans s5) hq,?_⟩⟩;rw[aa,ym,hu,yi,xC,xC];rfl
   rintro σ HK ⟨v,rfl,s2,hq2⟩;rw[xk,al,yq]at hq2
   have jl:(Txt.join (Str.ofString " ") (fs.map fun f=>toS f.txt)).length<=200000:=by
    have:=yn Str.length (qj g.1);rw[bO,la,la]at this;omega
   refine⟨_,q,fs.map fun f=>toS f.txt,rfl,rfl,bd.of hq2,kS (B:=200000) (fun y hy=>?_) ?_,_,_,rfl,rfl,by omega,_,_,rfl,rfl,by rw[la];omega,?_⟩
   ·obtain⟨u,hu,rfl⟩:=xP.mp hy
    have:=gz hu;rw[bO];omega
   ·rw[xk,b1]
    omega
   rw[qj g.1];exact k HK s2
  | pl f =>
   obtain⟨hA,ok⟩:=hf;have gs:=g.2;have ok1:=ok.1;have ok2:=ok.2.1;rw[sk];refine ar ⟨_,rfl,rfl,_,rfl,?_⟩;rw[qF];refine ar ⟨_,rfl,rfl,_,rfl,?_⟩;rw[qG];refine ar ⟨_,rfl,_,rfl,p,_,rfl,aW.of hp,?_,fun t1 ht1=>?_⟩
   ·intro z
    have z1:=z.1;rw[show (1:Int)=((1:Nat):Int) from rfl,HT.sIx_nat,xF]at z1;omega
   rw[uE,List.drop_succ_cons,yC];have s1:=ae (o:=.tup xs) ht1;refine⟨t1,_,rfl,.inr (aW.of aa),fun l1 hl1=>?_⟩;have s2:=s1.trans (ae (o:=.lst xs) hl1);refine⟨_,rfl,rfl,_,rfl,?_⟩
   apply jK (fun σ HH=>∃ lg:Addr,σ=[some (.ref p),some (.str f.word),some (.ref lg)]/\aB H HH/\HH lg=some (.lst (f.gs.map V.int)))
   ·intro rest
    by_cases cp:f.isP=true
    ·obtain⟨a,b,rfl⟩:∃ a b,f=.pair a b:=by
      cases f with
      | pair a b=>exact⟨a,b,rfl⟩
      | _=>cases cp
     have hp2:H p=some (.tup [.str "pair",.int a,.int b]):=hA
     have ex:xs=[.int a,.int b]:=by
      have:=hp.symm.trans hp2;injection this with this;injection this with this;injection this
     subst ex;rw[show decide (V.str (ak.pl (.pair a b)).word=V.str (Str.ofString "pair"))=true from xo rfl];exact ar (rest _ _ ⟨l1,rfl,s2,aa⟩)
    ·have cp:f.isP=false:=by cases e:f.isP with | true=>exact absurd e cp | false=>rfl
     obtain⟨q,e1,e2⟩:=hA.gr cp
     have wn:decide (V.str (ak.pl f).word=V.str (Str.ofString "pair"))=false:=by
      cases f with
      | pair a b=>cases cp
      | line g=>show decide (V.str (Str.ofString "line")=V.str (Str.ofString "pair"))=false;decide +kernel
      | star g=>show decide (V.str (Str.ofString "star")=V.str (Str.ofString "pair"))=false;decide +kernel
      | all g=>show decide (V.str (Str.ofString "all")=V.str (Str.ofString "pair"))=false;decide +kernel
      | quad a b c d=>show decide (V.str (Str.ofString "quad")=V.str (Str.ofString "pair"))=false;decide +kernel
     rw[wn];exact aG ⟨_,rfl,p,_,1,_,rfl,rfl,aW.of (s2 _ _ e1),rfl,q,_,rfl,.inr (aW.of (s2 _ _ e2)),fun l2 hl2=>uG (rest _ _ ⟨l2,rfl,s2.trans (ae hl2),aa⟩)⟩
   rintro σ H3 ⟨lg,rfl,s3,hlg⟩
   have wl:f.word.length<=4:=by rw[bn];exact qc f
   refine⟨_,rfl,_,_,rfl,rfl,by omega,_,_,rfl,rfl,by rw[la];omega,rfl,_,rfl,lg,rfl,⟨_,bd.of hlg⟩,fun c hc=>?_⟩;refine hG (fun x:Int=>V.int x) (rs:=f.gs) (f:=fun x=>.str (eL x)) hc hlg (by omega) (fun x HK Q' hx sK kk=>⟨_,rfl,.inr ⟨x,rfl,dX (gs x hx),kk HK (aB.refl _)⟩⟩) (fun H4 s4 hc4=>?_)
   have jl:(Txt.join (Str.ofString " ") (f.gs.map eL)).length<=200000:=by
    have:=yn Str.length (rZ (f:=f) (by omega));rw[bO,la,la,la,la]at this;omega
   refine⟨_,c,f.gs.map eL,rfl,rfl,bd.of (by rw[hc4,yr];rfl),kS (B:=100) (fun y hy=>?_) ?_,_,_,rfl,rfl,by rw[la,la];omega,_,_,rfl,rfl,by rw[la,la,la];omega,?_⟩
   ·obtain⟨x,hx,rfl⟩:=xP.mp hy
    have:=(e8 (gs x hx)).2;rw[bn];omega
   ·rw[xk,b1]
    omega
   rw[rZ (by omega)];exact k _ (s3.trans s4)
theorem jY (F:ek K "_law_within" "_law_within" dF f fd){n:Nat}(hn:n<=9)(bU:au P w K mg base "_law_within" (n+1) ["_law_figure_here"] (dM n)):a7 P w K mg base gI (n+1+1) f fd ["_law_figure_here"] (dM (n+1)):=by
 refine F.ok bZ (fun vs H Q E h=>?_) (fun cdv A outer s H vs Q E hr h=>?_)
 ·obtain⟨p,f,rfl,_⟩:=h
  rfl
 ·obtain⟨p,f,rfl,hf,g,tl,k⟩:=h
  have sl:sizeLine=16777216:=xY;have nl:=ju g
  refine⟨_,ac (aL 1 bZ.nd (dB (bT (pv 0)))) (
   ac (aJ (ap bC (aO aV (pv 0) (af) (fun _ _=>rfl)) (ai) (aA _)) (ag (aL 1 bZ.nd (am m9 (pv 1) (aN bU (hr.mono (by omega)) rfl (bT (aO aV (pv 0) (af) (fun _ _=>rfl))))))) (aq)) (
   ac (aJ (ap bC (aO aV (pv 0) (af) (fun _ _=>rfl)) (ai) (aA _)) (ag (dC yh rfl (lz (aO aV (pv 0) (af) (fun _ _=>rfl))) (ey 2 bZ.nd) (ag (aL 1 bZ.nd (am m9 (pv 1) (aN bU (hr.mono (by omega)) rfl (bT (pv 2)))))))) (aq)) (
   ag (ax (pv 1))))),?_⟩
  obtain⟨xs,hp⟩:=hf.hd;refine⟨_,rfl,by show (1:Nat)<=sizeLine;decide,fun l0 hl0=>?_⟩;have s1:=ae (o:=.lst [.ref p]) hl0;have hl1:aY H l0 (.lst [.ref p]) l0=some (.lst ([p].map V.ref)):=aa;have hp1:=s1 _ _ hp;have hf1:aI (n+1) (aY H l0 (.lst [.ref p])) p f:=hf.mono fun _ _ z=>s1 _ _ z;generalize aY H l0 (.lst [.ref p])=H1 at s1 hl1 hp1 hf1 ⊢;refine⟨_,rfl,p,_,0,_,rfl,rfl,aW.of hp1,aC (j:=0) rfl,rfl,_,rfl,?_⟩
  cases f with
  | name w =>
   rw[vw];refine ar ⟨_,rfl,p,_,0,_,rfl,rfl,aW.of hp1,aC (j:=0) rfl,rfl,_,rfl,?_⟩;rw[vx];exact ar ⟨_,rfl,k l0 [p] [.name w] H1 s1 hl1 (.cons hf1 .nil) (fun x hx=>by rw[xG.mp hx];exact⟨g,xm _⟩) (by rw[ak.nodes];rfl)⟩
  | pl f =>
   rw[qF];refine ar ⟨_,rfl,p,_,0,_,rfl,rfl,aW.of hp1,aC (j:=0) rfl,rfl,_,rfl,?_⟩;rw[qG];exact ar ⟨_,rfl,k l0 [p] [.pl f] H1 s1 hl1 (.cons hf1 .nil) (fun x hx=>by rw[xG.mp hx];exact⟨g,xm _⟩) (by rw[ak.nodes];rfl)⟩
  | back f =>
   rw[qE];have bt:=dH f;rw[ak.nodes]at nl k;have hf1c:=hf1;obtain⟨q,e1,e2⟩:=hf1;have gf:ak.Good n f:=g;refine aG ⟨_,rfl,_,rfl,p,_,1,_,rfl,rfl,aW.of e1,rfl,q,f,rfl,e2,gf,by omega,fun l ps fs H2 s2 hl pr gd pl=>?_⟩;refine⟨l0,l,_,_,rfl,rfl,s2 _ _ hl1,hl,by rw[xk,xk];show 1+ps.length<=sizeLine;omega,fun l3 hl3=>?_⟩;have s3:=ae (o:=.lst ([p].map V.ref++ps.map V.ref)) hl3;have s23:=s2.trans s3;refine⟨_,rfl,p,_,0,_,rfl,rfl,aW.of (s23 _ _ hp1),aC (j:=0) rfl,rfl,_,rfl,?_⟩;rw[vv];refine ar ⟨_,rfl,k l3 (p::ps) (.back f::fs) _ (s1.trans s23) (by rw[aa];rfl) (.cons (hf1c.mono fun _ _ z=>s23 _ _ z) (Paired.mapP pr fun _ _ z=>(z.mono fun _ _ y=>s3 _ _ y).up)) (fun x hx=>?_) (by rw[xF];omega)⟩;rcases xB.mp hx with rfl | hx
   ·exact⟨g,xm _⟩
   ·have:=gd x hx
    exact⟨this.1.up,by omega⟩
  | row fs =>
   rw[qH];refine ar ⟨_,rfl,p,_,0,_,rfl,rfl,aW.of hp1,aC (j:=0) rfl,rfl,_,rfl,?_⟩;rw[qI];have hf1c:=hf1;obtain⟨t,as,e1,e2,fl,pr⟩:=hf1;have al:=xN pr;rw[ak.nodes,fL]at nl k;refine aG ⟨_,rfl,p,_,1,_,rfl,rfl,aW.of e1,rfl,t,rfl,⟨_,aW.of e2⟩,?_⟩
   refine iU (K:=K) (a:=t) (xs:=as.map V.ref) (fun i σ HK=>∃ (v:Option V)(l:Addr)(ps:List Addr)(gs:List ak),σ=[some (.ref p),some (.ref l),v]/\aB H1 HK/\HK l=some (.lst (ps.map V.ref))/\Paired (aI (n+1) HK) ps gs/\(∀ x∈gs,ak.Good (n+1) x/\x.txt.length<=(ak.row fs).txt.length)/\ps.length=1+((fs.take i).map ak.nodes).sum)
    ⟨none,l0,[p],[.row fs],rfl,aB.refl _,hl1,.cons hf1c .nil,(fun x hx=>by rw[xG.mp hx];exact⟨g,xm _⟩),rfl⟩ (fun i σ HK _ ⟨_,_,_,_,_,s2,_⟩=>aW.of (s2 _ _ e2)) ?_ ?_
   ·rintro i y σ HK hi ⟨v,l,ps,gs,rfl,s2,hl,pg,gd,pl⟩
    obtain⟨a,ha,rfl⟩:=cr hi;obtain⟨u,hu,hA⟩:=cE pr ha;have um:=xO hu;have rp:=gz um
    have tk:((fs.take (i+1)).map ak.nodes).sum=((fs.take i).map ak.nodes).sum+u.nodes:=by rw[ym,hu,yi,xC,List.sum_append];simp
    have tl2:((fs.take (i+1)).map ak.nodes).sum<=(fs.map ak.nodes).sum:=by
     conv=>rhs;rw[<-List.take_append_drop (i+1) fs,xC,List.sum_append]
     omega
    refine⟨_,rfl,_,rfl,a,u,rfl,hA.mono (fun _ _ z=>s2 _ _ z),g.2.2 u um,by omega,fun l3 qs hs H3 s3 hl3 pq gq ql=>?_⟩;refine⟨l,l3,_,_,rfl,rfl,s3 _ _ hl,hl3,by rw[xk,xk];omega,fun l4 hl4=>?_⟩;have s4:=ae (o:=.lst (ps.map V.ref++qs.map V.ref)) hl4;refine⟨_,l4,ps++qs,gs++hs,rfl,s2.trans (s3.trans s4),by rw[aa,xC],bq (Paired.mapP pg fun _ _ z=>z.mono fun _ _ y=>s4 _ _ (s3 _ _ y)) (Paired.mapP pq fun _ _ z=>(z.mono fun _ _ y=>s4 _ _ y).up),fun x hx=>?_,by rw[xv];omega⟩;rcases xU.mp hx with z | z
    ·exact gd x z
    ·have:=gq x z
     exact⟨this.1.up,by omega⟩
   rintro σ HK ⟨v,l,ps,gs,rfl,s2,hl,pg,gd,pl⟩;rw[xk,al,yq]at pl;exact⟨_,rfl,k l ps gs HK (s1.trans s2) hl pg gd pl⟩
theorem mf (F:ek K "_law_read" "_law_read" eR f fd)(Cread_figure:bF P w K mg base "read_figure" 38 ["text"] (nY P0 ao aj cF)) : a7 P w K mg base gI 39 f fd ["_law_text"] (jO P0 ao aj):=by
 refine F.ok dw (fun vs H Q E h=>?_) (fun cdv A outer s H vs Q E hr h=>?_)
 ·obtain⟨z,rfl,_⟩:=h
  rfl
 ·obtain⟨z,rfl,asc,zl,tI,k1,k2⟩:=h
  refine⟨_,ac (aL 1 dw.nd (nh)) (
   ac (wc (i:=1) Cread_figure hr.m rfl (bT (pv 0)) rfl rfl dw.nd rfl (Or.inl rfl) (rJ rfl UO.mF (fun ea oe=>ag (aL 1 dw.nd (ai))) tL)) (
   ag (ax (pv 1)))),?_⟩
  refine⟨_,rfl,z,rfl,asc,zl,tI,fun f hf p H' g t hF=>?_,fun hn H' g t=>?_⟩
  ·exact⟨_,rfl,k1 f hf p H' g t hF⟩
  ·exact⟨_,UO.ff,aG ⟨_,rfl,k2 hn H' g t⟩⟩
theorem tq (F:ek K "law" "law" lL f fd)(cI:au P w K mg base "_law_cell_at" 1 ["_law_script","_law_k"] (lJ K))(bD:au P w K mg base "_law_size" 1 ["_law_cell"] il)(fG:au P w K mg base "_law_word" 3 ["_law_cell"] nZ)(b9:au P w K mg base "_law_draws" 2 ["_law_cell","_law_many","_law_base"] gA)(dO:au P w K mg base "_law_figure" 5 ["_law_draws_here","_law_cell","_law_names"] i6)(bU:au P w K mg base "_law_within" 9 ["_law_figure_here"] (dM 8))(Cshown:au P w K mg base "shown" 20 ["figure"] (de 9))(aZ:au P w K mg base "_law_figure_text" 10 ["_law_figure_here"] (de 9))(bQ:au P w K mg base "_law_read" 39 ["_law_text"] (jO P0 ao aj)) : a7 P w K mg base gI 41 f fd ["_law_script"] (jN K P0):=by
 refine F.ok bL (fun vs H Q E h=>?_) (fun cdv A outer s H vs Q E hr h=>?_)
 ·obtain⟨a,ns,rfl,_⟩:=h
  rfl
 ·obtain⟨a,ns,rfl,hS,hlen,hP,k⟩:=h
  have hu:=pH hr
  have one:(1:Nat)<=sizeLine:=by decide
  have two:(2:Nat)<=sizeLine:=by decide
  have three:(3:Nat)<=sizeLine:=by decide
  have sl:sizeLine=16777216:=xY;have tI:TabI H P0 ao aj:=.inl hP
  refine⟨_,ac (aL 1 bL.nd (aN cI hr.m rfl (di (pv 0) (af)))) (
   ac (dC yh rfl (oR (by rfl) T.range (nc (af) (aR (ka rfl) (by rfl) T.bmin PyProof.Rows.boot_min (di (aR bh (by rfl) T.len ya (bT (pv 0))) (af))) (af))) (ey 2 bL.nd) (ac (aL 3 bL.nd (aN fG hr.m rfl (bT (aN bD hr.m rfl (bT (aO dm (pv 0) (pv 2) (fun _ _=>rfl))))))) (
   ac (aL 4 bL.nd (aN b9 hr.m rfl (nc (aN cI hr.m rfl (di (pv 0) (am bg (pv 2) (af)))) (af) (af)))) (
   ac (aL 5 bL.nd (aN dO hr.m rfl (nc (pv 4) (pv 1) (dB (nc (pv 3) (ai) (ai)))))) (
   ag (dC yh rfl (cK (da nV (aN bU hr.m rfl (bT (pv 5))) lB (cw (af)))) (ey 6 bL.nd) (ac (aL 7 bL.nd (aN Cshown hr.m rfl (bT (pv 6)))) (
   ac (aJ (PW.pt (kt (fO (lC (aR pc (by rfl) T.isinstance PyProof.Rows.boot_isinstance (bp (pv 7) (bp (rF (v:=.ty "str") (by rfl) T.str yJ rfl) bW))))) (ii (ap iI (pv 7) (aN aZ hr.m rfl (bT (pv 6))) (aA _))))) (ag (ax (kr))) (aq)) (
   ag (aJ (ap (jD 18 (ul hr (by decide))) (aN bQ hr.m rfl (bT (pv 7))) (pv 6) (aA _)) (ag (ax (kr))) (aq))))))))))) (
   ac (aL 8 bL.nd (aK (di (ai) (ai)))) (
   ac (dC yh rfl (cG (by rfl) T.range (bT (af))) (ey 2 bL.nd) (ag (aL 8 bL.nd (aK (di (ai) (pv 8)))))) (
   ac (aL 9 bL.nd (aK (nc (ai) (af) (af)))) (
   ac (aL 10 bL.nd (aK (di (ai) (ai)))) (
   ac (dC yh rfl (cG (by rfl) T.range (bT (af))) (ey 2 bL.nd) (ag (aL 10 bL.nd (aK (di (ai) (aK (bT (pv 10)))))))) (
   ac (aL 7 bL.nd (am aX (am aX (am lc (ai) (af)) (ai)) (am lc (ai) (af)))) (
   ac (aJ (PW.pt (kt (ap (jD 18 (ul hr (by decide))) (aN bQ hr.m rfl (bT (pv 7))) (pv 10) (aA _)) (ii (ap iI (aN Cshown hr.m rfl (bT (pv 10))) (pv 7) (aA _))))) (ag (ax (kr))) (aq)) (
   ac (aL 7 bL.nd (am aX (am aX (ai) (am lc (ai) (af))) (ai))) (
   ac (aL 11 bL.nd (aK (di (ai) (a6 bJ (by rfl) T.tuple yu (bT (bM (so:=ah lL) (N:=rX) (N':=["_law_k"]) (src:=[none]) rfl rfl nE rfl (cG (by rfl) T.range (bT (af))) (fun cl C s2 H2 ex=>⟨ey 0 (show (["_law_k"]:List Str).Nodup by decide +kernel),bN,aK (di (ai) (ai))⟩))))))) (
   ac (aJ (PW.pt (kt (ap (jD 18 (ul hr (by decide))) (aN bQ hr.m rfl (bT (pv 7))) (pv 11) (aA _)) (ii (ap iI (aN Cshown hr.m rfl (bT (pv 11))) (pv 7) (aA _))))) (ag (ax (kr))) (aq)) (
   ac (aJ (PW.pt (kt (ap (jD 18 (ul hr (by decide))) (aN bQ hr.m rfl (bT (aN Cshown hr.m rfl (bT (pv 8))))) (pv 8) (aA _)) (ii (ap (jD 18 (ul hr (by decide))) (aN bQ hr.m rfl (bT (ai))) (pv 9) (aA _))))) (ag (ax (kr))) (aq)) (
   ag (ax (gp (tu 18 (ul hr (by decide))) (aN bQ hr.m rfl (bT (ai))) (aK (nc (ai) (af) (af))) (aA _)))))))))))))))),?_⟩
  refine⟨_,rfl,a,ns,1,rfl,hS,by decide,?_⟩;refine⟨_,rfl,a,_,rfl,.inl hS,_,_,rfl,_,_,rfl,?_,?_⟩
  ·rw[xk];split<;>refine⟨by decide,by decide,by omega,by omega⟩
  generalize er:(Builtin.Range.rangeSize 0 _ 2).toNat=n;rw[xk]at er
  have nb:n<=12/\∀ i,i<n->2*i<ns.length:=by
   rw[dD]at er;split at er
   ·split at er<;>(constructor;omega;intro i hi;omega)
   ·constructor;omega;intro i hi;omega
  refine mU (fun i σ HK=>∃ (v2 v3 v4 v5 v6 v7:Option V),σ=[some (.ref a),some (.int (gR ns 1)),v2,v3,v4,v5,v6,v7,none,none,none,none]/\GK H HK/\TabI HK P0 ao aj)
   ⟨none,none,none,none,none,none,rfl,GK.refl,tI⟩ ?_ ?_
  ·rintro i σ H1 hi ⟨v2,v3,v4,v5,v6,v7,rfl,g1,t1⟩
   have ki:=nb.2 i hi
   have hk:(0:Int)+(i:Nat)*2=((2*i:Nat):Int):=by omega
   refine⟨_,rfl,_,rfl,a,_,_,.int ns[2*i],rfl,rfl,g1.seq hS,by rw[hk];exact aC (j:=2*i) (by rw[List.getElem?_map,List.getElem?_eq_getElem ki];rfl),_,rfl,_,rfl,fun w H2 nm s2=>?_⟩;have g2:=g1.trans (ca s2);refine⟨_,rfl,_,rfl,_,_,rfl,rfl,a,ns,_,rfl,g2.seq hS,by omega,_,9,219600,rfl,⟨by decide,by decide⟩,⟨by decide,by decide⟩,fun l1 ds hl1 dps dln=>?_⟩;have q1:=ae (o:=.lst (ds.map V.int)) hl1;refine⟨_,rfl,_,rfl,_,rfl,three,fun l2 hl2=>?_⟩;have q2:=ae (o:=.lst [.str w,.str "hey",.str "abcdefghijkl"]) hl2;refine⟨l1,l2,_,ds,[w,("hey" : Str),"abcdefghijkl"],rfl,q2 _ _ aa,fun d hd=>(dps d hd).1,by omega,aa,fun z hz=>?_,by show 3<=100;decide,fun p f H5 s5 hf _ g tl=>?_⟩
   ·simp only[xB,List.not_mem_nil,or_false]at hz
    rcases hz with rfl | rfl | rfl
    ·exact nm
    ·exact kO
    ·decide +kernel
   have s25:=q1.trans (q2.trans s5);have g5:=g2.trans (ca s25);have t5:=(t1.same s2).same s25;refine⟨_,rfl,p,f,rfl,hf,g,by omega,fun l ps fs H6 s6 hl pr gd pl=>⟨_,rfl,l,_,rfl,bd.of hl,fun q hq=>?_⟩⟩;rw[show gT (ps.map V.ref) none (some 20)=(ps.take 20).map V.ref by rw[List.map_take];exact sN _ 20];have s7:=ae (o:=.lst ((ps.take 20).map V.ref)) hq;have hq7:aY H6 q (.lst ((ps.take 20).map V.ref)) q=some (.lst ((ps.take 20).map V.ref)):=aa;have g7:=g5.trans (ca (s6.trans s7));have t7:=(t5.same s6).same s7;have pr7:Paired (aI 8 (aY H6 q (.lst ((ps.take 20).map V.ref)))) (ps.take 20) (fs.take 20):=iL 20 (Paired.mapP pr fun _ _ z=>z.mono fun _ _ y=>s7 _ _ y);generalize aY H6 q (.lst ((ps.take 20).map V.ref))=H7 at hq7 g7 t7 pr7 ⊢;refine⟨q,rfl,⟨_,bd.of hq7⟩,?_⟩
   refine cO (K:=K) (a:=q) (xs:=(ps.take 20).map V.ref) (fun j σ HK=>∃ (v6 v7:Option V),σ=[some (.ref a),some (.int (gR ns 1)),some (.int (0+(i:Nat)*2)),some (.str w),some (.ref l1),some (.ref p),v6,v7,none,none,none,none]/\GK H7 HK/\TabI HK P0 ao aj)
    ⟨v6,v7,rfl,GK.refl,t7⟩ (fun j σ HK _ ⟨_,_,_,g,_⟩=>bd.of (g.lst hq7)) ?_ ?_
   ·rintro j y σ HK hj ⟨w6,w7,rfl,gK,tK⟩
    obtain⟨b,hb,rfl⟩:=cr hj;obtain⟨u,hu,hA0⟩:=cE pr7 hb;have gu:=gd u (List.mem_of_mem_take (xO hu));have hA:=gK.fg hA0;refine⟨_,rfl,b,u,rfl,hA.up,gu.1.up,by omega,fun H8 s8=>?_⟩;have hA8:aI 8 H8 b u:=hA.mono fun _ _ z=>s8 _ _ z;refine⟨_,rfl,_,_,_,true,rfl,fY.str _,rfl,_,rfl,ar ⟨_,rfl,_,rfl,b,u,rfl,hA8.up,gu.1.up,by omega,fun H9 s9=>⟨rfl,_,rfl,?_⟩⟩⟩;rw[xo (show V.str (toS u.txt)=V.str (toS u.txt) from rfl)];have t9:=(tK.same s8).same s9;have hA9:aI 8 H9 b u:=hA8.mono fun _ _ z=>s9 _ _ z;refine ar ⟨_,rfl,_,rfl,kF gu.1,by rw[bO];omega,t9,fun f2 hf2 p2 H10 g10 t10 hF=>?_,fun no=>absurd (dJ gu.1) (no u)⟩;rw[dJ gu.1]at hf2;injection hf2 with hf2;injection hf2 with hf2 _;subst hf2;refine⟨_,rfl,.inr ⟨p2,b,_,_,rfl,rfl,RD.up hF.rd (by decide),RD.up (g10.fg hA9).rd (by decide),fun bb hbb=>⟨_,rfl,?_⟩⟩⟩;rw[show (if true=true then !bb else bb)=false by rw[hbb.mpr rfl];rfl];exact ar ⟨_,_,rfl,gK.trans ((ca (s8.trans s9)).trans g10),t10⟩
   rintro σ HK ⟨w6,w7,rfl,gK,tK⟩;exact⟨_,_,_,_,_,_,rfl,g7.trans gK,tK⟩
  rintro σ H1 ⟨v2,v3,v4,v5,v6,v7,rfl,g1,t1⟩
  have rdr:∀ (u:ak)(H9:Hp)(b:Addr)(z:Str)(R:V->Hp->Prop),z=toS u.txt->ak.Good 8 u->u.txt.length<=200000->aI 8 H9 b u->TabI H9 P0 ao aj->(∀ (p2:Addr)(H10:Hp),GK H9 H10->TabI H10 P0 ao aj->RD K H10 19 (.ref p2) u.dt->RD K H10 19 (.ref b) u.dt->R (.ref p2) H10)->jO P0 ao aj [.str z] H9 R E0:=fun u H9 b z R ez g tl hA t9 kk=>by
   subst ez;refine⟨_,rfl,kF g,by rw[bO];omega,t9,fun f2 hf2 p2 H10 g10 t10 hF=>?_,fun no=>absurd (dJ g) (no u)⟩;rw[dJ g]at hf2;injection hf2 with hf2;injection hf2 with hf2 _;subst hf2;exact kk p2 H10 g10 t10 (RD.up hF.rd (by decide)) (RD.up (g10.fg hA).rd (by decide))
  refine⟨two,fun p8 hp8=>?_⟩;refine⟨7,rfl,by decide,by decide,?_⟩
  refine cC (fun i σ HK=>∃ (w2:Option V)(p:Addr),σ=[some (.ref a),some (.int (gR ns 1)),w2,v3,v4,v5,v6,v7,some (.ref p),none,none,none]/\aB H1 HK/\aI (i+1) HK p (fZ i))
   ⟨v2,p8,rfl,ae hp8,⟨aa,by decide⟩⟩ ?_ ?_
  ·rintro i σ HK hi ⟨w2,p,rfl,sK,hB⟩
   exact⟨_,rfl,two,fun q hq=>⟨_,q,rfl,sK.trans (ae hq),⟨p,aa,hB.mono fun _ _ z=>ae hq _ _ z⟩⟩⟩
  rintro σ H2 ⟨w2,pd,rfl,s2,hD⟩;have hD:aI 8 H2 pd (fZ 7):=hD;refine⟨three,fun p9 hp9=>⟨two,fun p10 hp10=>⟨7,rfl,by decide,by decide,?_⟩⟩⟩;have z9:=ae (o:=.tup [.str "pair",.int 999999999999,.int 0]) hp9;have z10:=ae (o:=.tup [.str "name",.str "hey"]) hp10;have hB9:aI 8 (aY (aY H2 p9 (.tup [.str "pair",.int 999999999999,.int 0])) p10 (.tup [.str "name",.str "hey"])) p9 (fC 999999999999 0):=⟨z10 _ _ aa,⟨by show 2<=2;decide,by show 2<=60;decide,fun _ _ _ _ z=>by cases z⟩⟩;have hR0:aI 1 (aY (aY H2 p9 (.tup [.str "pair",.int 999999999999,.int 0])) p10 (.tup [.str "name",.str "hey"])) p10 (dL 0):=⟨aa,by decide⟩;have hD:=hD.mono fun _ _ z=>(z9.trans z10) _ _ z;have s3:=s2.trans (z9.trans z10);generalize aY (aY H2 p9 (.tup [.str "pair",.int 999999999999,.int 0])) p10 (.tup [.str "name",.str "hey"])=H3 at hB9 hR0 hD s3 ⊢
  refine cC (fun i σ HK=>∃ (w2:Option V)(p:Addr),σ=[some (.ref a),some (.int (gR ns 1)),w2,v3,v4,v5,v6,v7,some (.ref pd),some (.ref p9),some (.ref p),none]/\aB H3 HK/\aI (i+1) HK p (dL i))
   ⟨w2,p10,rfl,aB.refl _,hR0⟩ ?_ ?_
  ·rintro i σ HK hi ⟨w2,p,rfl,sK,hB⟩
   refine⟨_,rfl,one,fun q hq=>⟨two,fun q2 hq2=>?_⟩⟩;have s12:=(ae (o:=.tup [.ref p]) hq).trans (ae (o:=.tup [.str "row",.ref q]) hq2);exact⟨_,q2,rfl,sK.trans s12,⟨q,[p],aa,ae hq2 _ _ aa,by show 1<=100;decide,.cons (hB.mono fun _ _ z=>s12 _ _ z) .nil⟩⟩
  rintro σ H4 ⟨w2,pr,rfl,s4,hR⟩;have hR:aI 8 H4 pr (dL 7):=hR;have g4:=g1.trans (ca (s3.trans s4));have t4:=t1.same (s3.trans s4);have hD4:=hD.mono fun _ _ z=>s4 _ _ z;have hB4:=hB9.mono fun _ _ z=>s4 _ _ z;refine⟨_,7,rfl,rfl,by decide +kernel,by decide,_,_,rfl,rfl,by rw[sl];decide +kernel,_,7,rfl,rfl,by decide +kernel,by decide,_,_,rfl,rfl,by rw[sl];decide +kernel,?_⟩;rw[sd];refine⟨_,rfl,rdr (dL 7) H4 pr _ _ rfl (gY 7) mx hR t4 fun p2 H5 g5 t5 r1 r2=>⟨_,rfl,.inr ⟨p2,pr,_,_,rfl,rfl,r1,r2,fun bb hbb=>⟨_,rfl,?_⟩⟩⟩⟩;rw[show (if true=true then !bb else bb)=false by rw[hbb.mpr rfl];rfl];refine ar ⟨_,rfl,pr,dL 7,rfl,(g5.fg hR).up,(gY 7).up,mx,fun H6 s6=>⟨_,rfl,rfl,_,rfl,?_⟩⟩;rw[xo (show V.str (toS (dL 7).txt)=V.str (toS (dL 7).txt) from rfl)];have t6:=t5.same s6;have hD6:=(g5.fg hD4).mono fun _ _ z=>s6 _ _ z;have hB6:=(g5.fg hB4).mono fun _ _ z=>s6 _ _ z;refine ar ⟨_,60,rfl,rfl,by decide +kernel,by decide,_,_,rfl,rfl,by rw[sl];decide +kernel,_,_,rfl,rfl,by rw[sl];decide +kernel,?_⟩;rw[qJ];refine⟨60,rfl,by decide,by decide,fun la hla=>?_⟩
  refine cC (fun i σ HK=>∃ (v:Option V)(as:List Addr),σ=[v]/\aB H6 HK/\HK la=some (.lst (as.map V.ref))/\Paired (aI 7 HK) as (List.replicate i (.name "hey")))
   ⟨none,[],rfl,ae hla,aa,.nil⟩ ?_ ?_
  ·rintro i σ HK hi ⟨v,as,rfl,sK,hl,pp⟩
   have hi:i<60:=hi;have al:=xN pp;rw[yI]at al;refine cA ⟨two,fun q hq=>?_⟩;have u1:=ae (o:=.tup [.str "name",.str "hey"]) hq;refine⟨_,u1 _ _ hl,by rw[xk];omega,?_⟩
   have up:∀ b ys,aY HK q (.tup [.str "name",.str "hey"]) b=some (.tup ys)->aY (aY HK q (.tup [.str "name",.str "hey"])) la (.lst (as.map V.ref++[.ref q])) b=some (.tup ys):=fun b ys z=>by
    rw[aE (fun q=>by rw[q,u1 _ _ hl]at z;cases z)];exact z
   refine⟨_,as++[q],rfl,bX (sK.trans u1) hla,by rw[aa,xC];rfl,?_⟩;rw[List.replicate_succ'];exact bq (Paired.mapP pp fun _ _ z=>z.mono fun b ys y=>up b ys (u1 _ _ y)) (.cons ⟨up _ _ aa,by decide⟩ .nil)
  rintro σ H7 ⟨v,as,rfl,s7,hl7,pp⟩;have pp:Paired (aI 7 H7) as (List.replicate 60 (.name "hey")):=pp;refine⟨la,_,rfl,.inl ⟨bd.of hl7,fun q hq=>⟨two,fun pw hpw=>?_⟩⟩⟩;have s8:=(ae (o:=.tup (as.map V.ref)) hq).trans (ae (o:=.tup [.str "row",.ref q]) hpw);have s78:=s7.trans s8;have hW:aI 8 (aY (aY H7 q (.tup (as.map V.ref))) pw (.tup [.str "row",.ref q])) pw fF:=⟨q,as,aa,ae hpw _ _ aa,by rw[yI];decide,Paired.mapP pp fun _ _ z=>z.mono fun _ _ y=>s8 _ _ y⟩;have t8:=t6.same s78;have hD8:=hD6.mono fun _ _ z=>s78 _ _ z;have hB8:=hB6.mono fun _ _ z=>s78 _ _ z;generalize aY (aY H7 q (.tup (as.map V.ref))) pw (.tup [.str "row",.ref q])=H8 at hW t8 hD8 hB8 ⊢;refine⟨_,rfl,rdr fF H8 pw _ _ rfl kh mK hW t8 fun p2 H9 g9 t9 r1 r2=>⟨_,rfl,.inr ⟨p2,pw,_,_,rfl,rfl,r1,r2,fun bb hbb=>⟨_,rfl,?_⟩⟩⟩⟩;rw[show (if true=true then !bb else bb)=false by rw[hbb.mpr rfl];rfl];refine ar ⟨_,rfl,pw,fF,rfl,(g9.fg hW).up,kh.up,mK,fun H10 s10=>⟨_,rfl,rfl,_,rfl,?_⟩⟩;rw[xo (show V.str (toS fF.txt)=V.str (toS fF.txt) from rfl)];have t10:=t9.same s10;have hD10:=(g9.fg hD8).mono fun _ _ z=>s10 _ _ z;have hB10:=(g9.fg hB8).mono fun _ _ z=>s10 _ _ z
  have bl:(fZ 7).txt.length<=200000:=by rw[lQ];decide
  refine ar ⟨_,rfl,pd,fZ 7,rfl,hD10.up,(gX 7).up,bl,fun H11 s11=>rdr (fZ 7) H11 pd _ _ rfl (gX 7) bl (hD10.mono fun _ _ z=>s11 _ _ z) (t10.same s11) fun p2 H12 g12 t12 r1 r2=>⟨_,rfl,.inr ⟨p2,pd,_,_,rfl,rfl,r1,r2,fun bb hbb=>⟨_,rfl,?_⟩⟩⟩⟩;rw[show (if true=true then !bb else bb)=false by rw[hbb.mpr rfl];rfl];have hB12:=g12.fg (hB10.mono fun _ _ z=>s11 _ _ z);refine ar (rdr (fC 999999999999 0) H12 p9 _ _ mo (eW ⟨by decide,by decide⟩ ⟨by decide,by decide⟩) qU hB12 t12 fun p3 H13 g13 t13 r1 r2=>⟨_,rfl,.inr ⟨p3,p9,_,_,rfl,rfl,r1,r2,fun bb hbb=>⟨_,rfl,?_⟩⟩⟩);rw[show (if true=true then !bb else bb)=false by rw[hbb.mpr rfl];rfl];refine ar ⟨_,rfl,by rw[lj];exact kF (eW ⟨by decide,by decide⟩ ⟨by decide,by decide⟩),by decide +kernel,t13,fun f2 hf2 p4 H14 g14 t14 hF=>?_,fun no=>absurd (by rw[lj];exact dJ (eW ⟨by decide,by decide⟩ ⟨by decide,by decide⟩)) (no (fC 7 7))⟩;rw[lj,dJ (eW ⟨by decide,by decide⟩ ⟨by decide,by decide⟩)]at hf2;injection hf2 with hf2;injection hf2 with hf2 _;subst hf2;refine⟨three,fun q hq=>⟨p4,q,_,_,rfl,rfl,RD.up ((hF.mono fun _ _ z=>ae hq _ _ z).rd) (by decide),RD.up (aI.rd (n:=1) (f:=fC 7 7) ⟨aa,⟨by show 2<=2;decide,by show 2<=60;decide,fun _ _ _ _ z=>by cases z⟩⟩) (by decide),fun bb hbb=>?_⟩⟩;rw[show (if false=true then !bb else bb)=true from hbb.mpr rfl];exact k _
end
theorem all_mk2 {l:PySem.W.OpenLaw}{w:World}{K:PySem.W.Frag}{h:Heap}{mg:Str->Option Value}{fa:Addr}{cF kd cs q1 q2 q3 q4 q5 q6 q7 t1 t2 t3 t4 t5 u1 u2 u3 u4 u5 u6 u7 n1:Addr}(X:K.In h)(G:h.Ns mainGlobals mg)(hfa:mg "law" = some (.ref fa)){c0 P0:Addr}(CK:fU K c0 P0)(htab:PySem.W.tabIn K "bracket_at" = some (c0,P0))(n_cF:PySem.W.nsIn K mainGlobals "NoFigure" = some (some (.ref cF)))(n_md:PySem.W.nsIn K mainGlobals "MOST_DIGITS" = some (some (.int 12 t1)))(n_dg:PySem.W.nsIn K mainGlobals "DIGITS" = some (some (.str "0123456789" t2)))(n_dp:PySem.W.nsIn K mainGlobals "DEEPEST" = some (some (.int 8 t3)))(n_ml:PySem.W.nsIn K mainGlobals "LONGEST_NAME" = some (some (.int 12 t4)))(n_mt:PySem.W.nsIn K mainGlobals "LETTERS" = some (some (.str "abcdefghijklmnopqrstuvwxyz" t5)))(n_kd:PySem.W.nsIn K mainGlobals "KINDS" = some (some (.ref kd)))(kdo:Wz.KT K kd (Wz.kindsL.map L2.V.str))(n_cs:PySem.W.nsIn K mainGlobals "SIZES" = some (some (.ref cs)))(szo:K.lookup cs=some (L2.hObj w.params (Wz.szL ⟨q1,q2,q3,q4,q5,q6,q7⟩) [u1,u2,u3,u4,u5,u6,u7] n1))(szs:(cs == sysModules)=false)(sz1:Wz.KT K q1 [.int 2,.int 2])(sz2:Wz.KT K q2 [.int 2,.int 60])(sz3:Wz.KT K q3 [.int 2,.int 60])(sz4:Wz.KT K q4 [.int 2,.int 60])(sz5:Wz.KT K q5 [.int 4,.int 4])(sz6:Wz.KT K q6 [.int 1,.int 60])(sz7:Wz.KT K q7 [.int 1,.int 1])(e_cF:kD K cF)(x_ff:PySem.W.exmOne K (.ref cF) (.ref cF)=some true)(fj:aU K "_law_cell_at" df)(ja:aU K "_law_size" eS)(ip:aU K "_law_draws" d9)(jb:aU K "_law_word" eT)(iu:aU K "_law_ranks" c6)(iq:aU K "_law_guest" ec)(ir:aU K "_law_plain" cx)(iw:aU K "_law_small" ee)(fk:aU K "_law_wrapped" bA)(fX:aU K "_law_figure" cM)(dQ:aU K "_law_within" dF)(fv:aU K "shown_parts" bS)(kz:aU K "shown" jP)(cg:aU K "_law_figure_text" bf)(gM:aU K "word_at" fS)(io:aU K "figure_of" d7)(jc:aU K "parts_at" eU)(ft:aU K "read_number" cz)(iz:aU K "number_at" ei)(dP:aU K "bracket_at" az)(gL:aU K "is_name" d8)(eH:aU K "figure_at" d6)(fm:aU K "read_figure" dh)(i9:aU K "_law_read" eR)(rR:aU K "law" lL)(sv:PySem.W.nsIn K mainGlobals "len" = some none)(n8:PySem.W.nsIn K mainGlobals "range" = some none)(gG:PySem.W.nsIn K mainGlobals "isinstance" = some none)(n9:PySem.W.nsIn K mainGlobals "tuple" = some none)(qM:PySem.W.nsIn K mainGlobals "list" = some none)(su:PySem.W.nsIn K mainGlobals "int" = some none)(qK:PySem.W.nsIn K mainGlobals "bool" = some none)(sr:PySem.W.nsIn K mainGlobals "all" = some none)(ss:PySem.W.nsIn K mainGlobals "any" = some none)(mM:PySem.W.nsIn K mainGlobals "sorted" = some none)(jS:PySem.W.nsIn K mainGlobals "reversed" = some none)(sy:PySem.W.nsIn K mainGlobals "set" = some none)(sx:PySem.W.nsIn K mainGlobals "min" = some none)(sw:PySem.W.nsIn K mainGlobals "max" = some none)(qL:PySem.W.nsIn K mainGlobals "dict" = some none)(sC:PySem.W.nsIn K mainGlobals "zip" = some none)(iN:PySem.W.nsIn K mainGlobals "enumerate" = some none)(sB:PySem.W.nsIn K mainGlobals "sum" = some none)(sA:PySem.W.nsIn K mainGlobals "str" = some none) :
  ∃ fd:FuncData,(∀ (s:Shared)(v:Value),BindsTo s fd ⟨[v],[]⟩ [("_law_script",v)])/\∀ base:Heap,K.In base->base.Ns mainGlobals mg->gH mg base->a7 l.prog w K mg base gI 41 fa fd ["_law_script"] (jN K P0):=by
 have T:Txt mg:=⟨xL X G sv,xL X G n8,xL X G gG,xL X G n9,xL X G qM,xL X G su,xL X G qK,xL X G sr,xL X G ss,xL X G mM,xL X G jS,xL X G sy,xL X G sx,xL X G sw,xL X G qL,xL X G sC,xL X G iN,xL X G sB,xL X G sA⟩;have UO:uv K mg w cF kd cs ⟨q1,q2,q3,q4,q5,q6,q7⟩:=⟨e_cF,x5 X G n_cF,x_ff,⟨_,x5 X G n_md,⟨_,rfl⟩⟩,⟨_,x5 X G n_dg,⟨_,rfl⟩⟩,⟨_,x5 X G n_dp,⟨_,rfl⟩⟩,⟨_,x5 X G n_ml,⟨_,rfl⟩⟩,⟨_,x5 X G n_mt,⟨_,rfl⟩⟩,x5 X G n_kd,kdo,x5 X G n_cs,⟨by show ((["pair","line","star","all","quad","row","back"]:List Str)).Nodup;decide +kernel,szs,[u1,u2,u3,u4,u5,u6,u7],n1,rfl,szo⟩,sz1,sz2,sz3,sz4,sz5,sz6,sz7⟩;obtain⟨f_parts_at,iB,a_parts_at,G_parts_at⟩:=jc;obtain⟨f_number_at,kK,a_number_at,G_number_at⟩:=iz;obtain⟨f_law,sP,a_law,G_law⟩:=rR;have e:=hfa.symm.trans (x5 X G a_law);cases e;refine⟨sP,?_,fun base KB _ BK=>?_⟩
 ·obtain⟨_,_,_,_,_,_,_,_,_,rfl,_,_⟩:=G_law.ex
  exact fun s v=>.of_eq rfl
 ·have cI:au l.prog w K mg base "_law_cell_at" 1 ["_law_script","_law_k"] (lJ K):=jq X G fj fun _ _ h=>jx T UO h
  have bD:au l.prog w K mg base "_law_size" 1 ["_law_cell"] il:=jq X G ja fun _ _ h=>mh T UO h;have b9:au l.prog w K mg base "_law_draws" 2 ["_law_cell","_law_many","_law_base"] gA:=jq X G ip fun _ _ h=>kZ T UO h bD;have fG:au l.prog w K mg base "_law_word" 3 ["_law_cell"] nZ:=jq X G jb fun _ _ h=>mi T UO h b9;have eD:au l.prog w K mg base "_law_ranks" 1 ["_law_drawn"] i7:=jq X G iu fun _ _ h=>k8 T UO h;have bc:au l.prog w K mg base "_law_guest" 2 ["_law_k","_law_cell"] gB:=jq X G iq fun _ _ h=>k6 T UO h bD;have eC:au l.prog w K mg base "_law_plain" 3 ["_law_drawn","_law_cell"] lK:=jq X G ir fun _ _ h=>k7 T UO h eD bc;have eE:au l.prog w K mg base "_law_small" 1 ["_law_figure_here"] gD:=jq X G iw fun _ _ h=>k9 T UO h;have dz:au l.prog w K mg base "_law_wrapped" 4 ["_law_shelf","_law_drawn","_law_names"] i8:=jq X G fk fun _ _ h=>jy T UO h eE;have dO:au l.prog w K mg base "_law_figure" 5 ["_law_draws_here","_law_cell","_law_names"] i6:=jq X G fX fun _ _ h=>jX T UO h eC dz bc
  have R_law_within:∀ n:Nat,n<=9->au l.prog w K mg base "_law_within" (n+1) ["_law_figure_here"] (dM n):=by
   intro n
   induction n with
   | zero=>exact fun _=>jq X G dQ fun _ _ _=>gc (by intro _ _ _ _ h;cases h;exact (show False from ‹aI 0 _ _ _›))
   | succ n ih=>exact fun hn=>jq X G dQ fun _ _ h=>jY T UO h (by omega) (ih (by omega))
  have bU:au l.prog w K mg base "_law_within" 9 ["_law_figure_here"] (dM 8):=R_law_within 8 (by decide)
  have R_shown:∀ n:Nat,n<=9->au l.prog w K mg base "shown" (2*n+2) ["figure"] (de n):=by
   intro n
   induction n with
   | zero=>exact fun _=>jq X G kz fun _ _ _=>gc (by intro _ _ _ _ h;cases h;exact (show False from ‹aI 0 _ _ _›))
   | succ n ih=>exact fun hn=>jq X G kz fun _ _ h=>pV T UO h (by omega) (jq X G fv fun _ _ h2=>jB T UO h2 (by omega) (ih (by omega)))
  have Cshown:au l.prog w K mg base "shown" 20 ["figure"] (de 9):=R_shown 9 (xm _)
  have R_law_figure_text:∀ n:Nat,n<=9->au l.prog w K mg base "_law_figure_text" (n+1) ["_law_figure_here"] (de n):=by
   intro n
   induction n with
   | zero=>exact fun _=>jq X G cg fun _ _ _=>gc (by intro _ _ _ _ h;cases h;exact (show False from ‹aI 0 _ _ _›))
   | succ n ih=>exact fun hn=>jq X G cg fun _ _ h=>fM T UO h (by omega) (ih (by omega))
  have aZ:au l.prog w K mg base "_law_figure_text" 10 ["_law_figure_here"] (de 9):=R_law_figure_text 9 (xm _)
  have RB:∀ d:Nat,d<=8->∀ b:Heap,K.In b->gH mg b->bF l.prog w K mg b "figure_at" (4*d+5) ["text","at","deep"] (eQ P0 ao aj cF d d (figM d)):=by
   intro d
   induction d with
   | zero =>
    intro _ b kb bb;have Cword_at:au l.prog w K mg b "word_at" 1 ["text","at"] fR:=jq X G gM fun _ _ h=>jC T UO h;have Cis_name:au l.prog w K mg b "is_name" 1 ["word"] gC:=jq X G gL fun _ _ h=>jw T UO h;exact uP X G eH fun _ _ h=>gj T UO h (lv:=1) (uP X G dP fun _ _ _=>gc fun _ _ _ _ h=>h) Cword_at Cis_name
   | succ d ih =>
    intro hd b kb bb;have Cword_at:au l.prog w K mg b "word_at" 1 ["text","at"] fR:=jq X G gM fun _ _ h=>jC T UO h;have Cis_name:au l.prog w K mg b "is_name" 1 ["word"] gC:=jq X G gL fun _ _ h=>jw T UO h;have Cread_number:au l.prog w K mg b "read_number" 1 ["word"] nX:=jq X G ft fun _ _ h=>jA T UO h;have Cfigure_of:bF l.prog w K mg b "figure_of" 1 ["word","parts"] (jM cF d):=uP X G io fun _ _ h=>kY T UO h;have LN:a7 l.prog w K mg b (gJ l.prog w) 2 f_number_at kK ["text","at"] (qp P0 ao aj cF (fun _=>True) numAt ut):=lb T UO G_number_at Cword_at Cread_number
    have Cparts_at:bF l.prog w K mg b "parts_at" 3 ["text","at","read_part"] (mE P0 ao aj cF f_number_at (fun _=>True) numAt ut):=by
     obtain⟨_,_,_,_,_,_,_,_,_,rfl,lk,_⟩:=id G_number_at.ex;exact⟨f_parts_at,iB,iH T UO G_parts_at (fun _ _ j _=>j) (fun _ _ _ _ a _=>a) lF LN (kb _ _ lk) rfl (fun s us hl=>match us,hl with | [_,_],_=>.of_eq rfl),x5 X G a_parts_at,G_parts_at.kp,G_parts_at.binds (ps:=["text","at","read_part"]) (by intro _ _ _ _ _ _;(repeat refine uL fun _=>?_);exact uK rfl)⟩
    have WS:∀ (b2:Heap)(fl c1 cy:Addr)(vy:V)(pm ct:Value),Mod K mg b2->gH mg b2->j5 b2 aj (rk (dk az)) (rm (dk az)) (pK (dk az)) "deep" vy fl c1 cy pm ct->a7 l.prog w K mg b2 (gJ l.prog w) (4*d+5+2) f_parts_at iB ["text","at","read_part"] (nq P0 ao aj cF d fl c1 vy):=by
     intro b2 fl c1 cy vy pm ct md2 bl2 lm
     by_cases hv:vy=.int ((d+1:Nat):Int)
     ·subst hv
      refine oy (fun _ _ _ _ h=>by cases h;assumption) (iH T UO G_parts_at (fun _ _ j g=>g.code j) (fun _ _ _ _ a g=>?_) (i5 d) (gk T UO (ih (by omega) b2 md2.kin bl2) lm) lm.ob rfl (fun s us hl=>match us,hl with | [_,_],_=>.of_eq rfl));obtain⟨p,e,hp⟩:=a;exact⟨p,e,g.fg hp⟩
     ·exact gc (fun _ _ _ _ h=>by cases h;exact hv (by assumption))
    have Cbracket_at:bF l.prog w K mg b "bracket_at" (4*d+5+3) ["text","at","deep"] (se P0 ao aj cF (d+1)):=by
     obtain⟨f9,fd9,a9,g9⟩:=dP;exact⟨f9,fd9,jW T UO g9 (qB htab a9 g9) CK bb (x5 X G a_parts_at) G_parts_at.kp (G_parts_at.binds (ps:=["text","at","read_part"]) (by intro _ _ _ _ _ _;(repeat refine uL fun _=>?_);exact uK rfl)) WS (x5 X G a_number_at) Cparts_at Cword_at Cfigure_of (by omega),x5 X G a9,g9.kp,g9.binds (ps:=["text","at","deep"]) (by intro _ _ _ _ _ _;(repeat refine uL fun _=>?_);exact uK rfl)⟩
    exact uP X G eH fun _ _ h=>gj T UO h (lv:=4*d+5) Cbracket_at Cword_at Cis_name
  have Cfigure_at:bF l.prog w K mg base "figure_at" 37 ["text","at","deep"] (eQ P0 ao aj cF 8 8 (figM 8)):=RB 8 (xm _) base KB BK;have Cread_figure:bF l.prog w K mg base "read_figure" 38 ["text"] (nY P0 ao aj cF):=uP X G fm fun _ _ h=>jz T UO h Cfigure_at;have bQ:au l.prog w K mg base "_law_read" 39 ["_law_text"] (jO P0 ao aj):=jq X G i9 fun _ _ h=>mf T UO h Cread_figure;exact tq T UO G_law cI bD fG b9 dO bU Cshown aZ bQ
theorem walk {l:PySem.W.OpenLaw}{q:Program}{loose:List Str}{XP:(Str->Option Value)->Heap->Prop}{YP:World->Heap->Prop}{d:DefRec}{K:Params->PySem.W.Frag}{c0 P0:Addr}(hn:l.most=some 63)(hdf:d.params.defaults=[])
  (hY:∀ (w:World)(h:Heap),YP w h->(K w.params).In h)
  (hTY:∀ (w:World)(h:Heap),YP w h->h.get? P0=some (PySem.W.tabObj #[])) (hch:∀ w:World,PySem.W.codeHdIn (K w.params) c0 P0=true) (htab:∀ w:World,PySem.W.tabIn (K w.params) "bracket_at" = some (c0,P0)) (hnt:∀ w:World,PySem.W.noTabs (K w.params)=true)
  (F:∀ (w:World)(mg:Str->Option Value)(fa:Addr)(h:Heap),(K w.params).In h->h.Ns mainGlobals mg->mg d.name=some (.ref fa)->fU (K w.params) c0 P0->PySem.W.tabIn (K w.params) "bracket_at" = some (c0,P0) ->
   ∃ fd:FuncData,(∀ (s:Shared)(u:Value),BindsTo s fd ⟨[u],[]⟩ [("_law_script",u)])/\∀ base:Heap,(K w.params).In base->base.Ns mainGlobals mg->gH mg base->a7 l.prog w (K w.params) mg base gI 41 fa fd ["_law_script"] (jN (K w.params) P0)) :
  PySem.W.WalkO q loose XP YP l.row.toRowW d [] (fun f vs=>PySem.call f vs) :=
 L2.walk_ofT (n:=63) (k:=41) (x:="_law_script") (nm:="bracket_at") (CX:=fun _=>gI) (sp:=fun w=>jN (K w.params) P0) hn (by decide) hdf ⟨rfl,by decide,by decide⟩ hY hTY hch htab hnt F (fun _ _ a ns hl hT hS=>⟨a,ns,rfl,hS,hl,hT,fun _=>rfl⟩) fun _ _ _ _ _ z=>z
end Wk45
namespace PySem.W.Fast
def tw15001757836732147541:=0
def tw5457731320877629616:=0
def tw9604990561322567698:=0
def tw2859809372310117451:=0
def tw15108746039975429997:=0
def tw3548980622278067913:=0
def tw2788983849936174662:=0
def tw3697784431548822333:=0
def tw3561180912558014740:=0
def tw13560978358354378443:=0
def tw10966239867325027947:=0
def tw14000702145866427881:=0
def tw6814091971916844921:=0
def tw8771299526182986381:=0
def tw8917169616333116143:=0
def tw6293888182791462846:=0
def tw11597642303631925881:=0
def tw11658200925396655603:=0
def tw9467607143379411763:=0
def tw10821852643798181221:=0
def tw4995470426810263396:=0
def tw2004253999796444628:=0
def tw452126605512952965:=0
def tw14192875339603754633:=0
def tw8183003407885407367:=0
def tw12196053204859896897:=0
def tw17411149587264642963:=0
def tw5360611340472785565:=0
def tw8739152677410234461:=0
def tw10897216973494967740:=0
def tw16345234169186368004:=0
def tw13529273608071803458:=0
def tw4161040198738207571:=0
def tw4884398438082160589:=0
def tw1141853494690500046:=0
def tw695763313889280933:=0
def tw1978396792993983237:=0
def tw8121630085248939168:=0
def tw14480274852130432120:=0
def tw803852906426324723:=0
def tw9003742299299126007:=0
def tw12271594870180550034:=0
def tw12641308603661807074:=0
def tw15540087376246966893:=0
def tw12731458468081852733:=0
def tw12000654788226693364:=0
def tw8512338931924333470:=0
def tw10243277084416068348:=0
def tw3960532729696586515:=0
def tw16576594294294154462:=0
def tw7323401799790755863:=0
def tw9069099120071628581:=0
def tw10929214335079164126:=0
def tw1094422484224018666:=0
def tw8855572632802105152:=0
def tw17750302616586742295:=0
def tw10565231132811119037:=0
def tw5947817831215189369:=0
def tw6792649462311672002:=0
def tw14175524563482065751:=0
def tw5367950537688528063:=0
def tw7888416341363785918:=0
def tw7256685681520726369:=0
def tw15083225404387243678:=0
def tw7311950533271850:=0
def tw11386439392907005538:=0
def tw10883154894269379899:=0
def tw17996876579260862294:=0
def tw12084530678738353880:=0
def tw9706901928057682344:=0
def tw6991576396769088041:=0
def tw14779205759575241355:=0
def tw2048130259067447630:=0
def tw15556406786946096206:=0
def tw11707569327652562020:=0
def tw11027243767881991952:=0
def tw14417787270714026238:=0
def tw1531649369114629873:=0
def tw17740039203348319508:=0
def tw17123011704560387680:=0
def tw16608238381759154010:=0
def tw4646992867858647844:=0
def tw16173931060760927997:=0
def tw7355612011525846407:=0
def tw4536943309033146792:=0
def tw12567743171829817541:=0
def tw9872538498881396067:=0
def tw12566818956764195735:=0
def tw10762007455715865747:=0
def tw9690998273216069942:=0
def tw7924570249604735497:=0
def tw4772158920887121457:=0
def tw12044366505627534112:=0
def tw14240252420179437253:=0
def tw9335891960831120056:=0
def tw6959592773969599767:=0
def tw9110526410769427803:=0
def tw3375185766551090529:=0
def tw13259838696938178452:=0
def tw6565431656395290442:=0
def tw18024767934385907959:=0
def tw5697592808144987333:=0
def tw207858585922057486:=0
def tw10962935949722410584:=0
def tw15452404657431164575:=0
def tw12464794902793900706:=0
def tw11640732118838644210:=0
def tw5097581703374844358:=0
def tw5527324585820723203:=0
def tw17544357559382056706:=0
def tw4691436359338275442:=0
def tw11442213138620674818:=0
def tw1903861958159540161:=0
end PySem.W.Fast
open PySem PySem.W PyProof.Rows
set_option maxRecDepth 100000 in
set_option maxHeartbeats 0 in
theorem PySem.Challenge.cw_lastwaltz_k45_written_and_read_holds : PySem.Challenge.rw_lastwaltz_k45_written_and_read.Holds := by
 w_on;o_law;k_head;(case hw=>w_witness2)
 k_fill
 refine Wk45.walk (l:=PySem.Challenge.rw_lastwaltz_k45_written_and_read) (c0:=104) (P0:=100) rfl rfl (fun w h Y=>PySem.W.km_in_of Y) (fun w h Y=>PySem.W.km_tabs_of Y _ (xp)) (fun w=>by kernel_rfl) (fun w=>by kernel_rfl) (fun w=>by kernel_rfl) ?F
 case F =>
  intro w mg fa h KX G hmg CK htab;refine' Wk45.all_mk2 KX G hmg CK htab ?n_cF ?n_md ?n_dg ?n_dp ?n_ml ?n_mt ?n_kd ?kdo ?n_cs ?szo ?szs ?sz1 ?sz2 ?sz3 ?sz4 ?sz5 ?sz6 ?sz7 ?e_cF ?x_ff ?fj ?ja ?ip ?jb ?iu ?iq ?ir ?iw ?fk ?fX ?dQ ?fv ?kz ?cg ?gM ?io ?jc ?ft ?iz ?dP ?gL ?eH ?fm ?i9 ?rR ?sv ?n8 ?gG ?n9 ?qM ?su ?qK ?sr ?ss ?mM ?jS ?sy ?sx ?sw ?qL ?sC ?iN ?sB ?sA
  (case n_cF=>k_is)
  (case n_md=>k_is)
  (case n_dg=>k_is)
  (case n_dp=>k_is)
  (case n_ml=>k_is)
  (case n_mt=>k_is)
  (case n_kd=>k_is)
  (case kdo=>exact⟨_,_,_,rfl,rfl,rfl,by decide,.cons ⟨_,rfl⟩ (.cons ⟨_,rfl⟩ (.cons ⟨_,rfl⟩ (.cons ⟨_,rfl⟩ (.cons ⟨_,rfl⟩ (.cons ⟨_,rfl⟩ (.cons ⟨_,rfl⟩ (.cons ⟨_,rfl⟩ .nil)))))))⟩)
  (case n_cs=>k_is)
  (case szo=>exact rfl)
  (case szs=>kernel_rfl)
  (case sz1=>exact⟨_,_,_,rfl,rfl,rfl,by decide,.cons ⟨_,rfl⟩ (.cons ⟨_,rfl⟩ .nil)⟩)
  (case sz2=>exact⟨_,_,_,rfl,rfl,rfl,by decide,.cons ⟨_,rfl⟩ (.cons ⟨_,rfl⟩ .nil)⟩)
  (case sz3=>exact⟨_,_,_,rfl,rfl,rfl,by decide,.cons ⟨_,rfl⟩ (.cons ⟨_,rfl⟩ .nil)⟩)
  (case sz4=>exact⟨_,_,_,rfl,rfl,rfl,by decide,.cons ⟨_,rfl⟩ (.cons ⟨_,rfl⟩ .nil)⟩)
  (case sz5=>exact⟨_,_,_,rfl,rfl,rfl,by decide,.cons ⟨_,rfl⟩ (.cons ⟨_,rfl⟩ .nil)⟩)
  (case sz6=>exact⟨_,_,_,rfl,rfl,rfl,by decide,.cons ⟨_,rfl⟩ (.cons ⟨_,rfl⟩ .nil)⟩)
  (case sz7=>exact⟨_,_,_,rfl,rfl,rfl,by decide,.cons ⟨_,rfl⟩ (.cons ⟨_,rfl⟩ .nil)⟩)
  (case e_cF=>kernel_rfl)
  (case x_ff=>kernel_rfl)
  all_goals first | (refine' Wz.fact_mk ?a ?l ?c ?k;(case a=>k_is);(case l=>k_is);(case c=>k_is);(case k=>k_is)) | (refine' Wz.mfact_mk ?a ?i ?l ?c ?k;(case a=>k_is);(case i=>k_is);(case l=>k_is);(case c=>k_is);(case k=>k_is)) | k_is
