import PyProof.Rows.All
import Wide.All
import OpenK.AllK
import Wide.FinOn
import Lean
import PyProof.EqAt
import PyProof.EqKinds
import PyProof.TupleCall
import PyProof.NeData
import PyProof.DictItems
import PyProof.JoinWalk
import PyProof.CallStr
import OpenK.KOwn
import KE.KTryMore
import PyProof.EnumMake
import KE.KLam
import KE.KNestM
import KE.KEqDict
import PyProof.Conv_int
import PyProof.StrWalks
import PyProof.StrCalls2
import PyProof.StrLawsIn
import PySem.Challenge.RW_lastwaltz_k43_names_of_figures
set_option Elab.async false
set_option linter.all false
set_option maxRecDepth 100000
set_option maxHeartbeats 4000000
theorem xO:type_of% @PySem.wpAny_bind:=@PySem.wpAny_bind
theorem xP:type_of% @List.length_map:=@List.length_map
theorem xQ:type_of% @PySem.Heap.lt_size:=@PySem.Heap.lt_size
theorem xR:type_of% @PySem.wpAny_pure:=@PySem.wpAny_pure
theorem xS:type_of% @decide_eq_false:=@decide_eq_false
theorem xT:type_of% @Nat.le_refl:=@Nat.le_refl
theorem xU:type_of% @Bool.false_ne_true:=@Bool.false_ne_true
theorem xV:type_of% @if_neg:=@if_neg
theorem xW:type_of% @List.size_toArray:=@List.size_toArray
theorem xX:type_of% @decide_eq_true:=@decide_eq_true
theorem xY:type_of% @List.mem_cons_of_mem:=@List.mem_cons_of_mem
theorem xZ:type_of% @List.mem_cons_self:=@List.mem_cons_self
theorem x3:type_of% @List.length_append:=@List.length_append
theorem x4:type_of% @if_pos:=@if_pos
theorem x5:type_of% @Nat.ne_of_lt:=@Nat.ne_of_lt
theorem x6:type_of% @List.mem_singleton:=@List.mem_singleton
theorem x8:type_of% @List.map_append:=@List.map_append
theorem x9:type_of% @PySem.Paired.length:=@PySem.Paired.length
theorem ya:type_of% @List.mem_cons:=@List.mem_cons
theorem yb:type_of% @List.mem_append_right:=@List.mem_append_right
theorem yc:type_of% @Nat.lt_of_lt_of_le:=@Nat.lt_of_lt_of_le
theorem yd:type_of% @PySem.W.mg_none_of:=@PySem.W.mg_none_of
theorem ye:type_of% @Option.some.inj:=@Option.some.inj
theorem yf:type_of% @List.map_cons:=@List.map_cons
theorem yg:type_of% @Nat.zero_le:=@Nat.zero_le
theorem yh:type_of% @PySem.wpAny_mono:=@PySem.wpAny_mono
theorem yi:type_of% @Nat.ne_of_gt:=@Nat.ne_of_gt
theorem yj:type_of% @List.mem_of_getElem?:=@List.mem_of_getElem?
theorem yk:type_of% @PySem.wpAny_field:=@PySem.wpAny_field
theorem ym:type_of% @List.mem_append:=@List.mem_append
theorem yn:type_of% @PySem.F.plainAttrs_list:=@PySem.F.plainAttrs_list
theorem yo:type_of% @Ne.symm:=@Ne.symm
theorem yp:type_of% @PyProof.Rows.callWith_type1:=@PyProof.Rows.callWith_type1
theorem yq:type_of% @PySem.Heap.size_push:=@PySem.Heap.size_push
theorem yr:type_of% @List.length_singleton:=@List.length_singleton
theorem yt:type_of% @List.length_cons:=@List.length_cons
theorem yu:type_of% @List.length_take:=@List.length_take
theorem yx:type_of% @List.length_drop:=@List.length_drop
theorem yy:type_of% @List.take_length:=@List.take_length
theorem yz:type_of% @Option.toList_some:=@Option.toList_some
theorem yA:type_of% @Nat.le_trans:=@Nat.le_trans
theorem yB:type_of% @List.mem_map:=@List.mem_map
theorem yC:type_of% @PySem.F.slot_list_append:=@PySem.F.slot_list_append
theorem yD:type_of% @PySem.F.type_list_append:=@PySem.F.type_list_append
theorem yE:type_of% @List.replicate_succ:=@List.replicate_succ
theorem yF:type_of% @PySem.wpAny_truthy_bool:=@PySem.wpAny_truthy_bool
theorem yG:type_of% @PySem.sizeLine_eq:=@PySem.sizeLine_eq
theorem yH:type_of% @List.take_add_one:=@List.take_add_one
theorem yI:type_of% @PySem.wpAny_seqItems:=@PySem.wpAny_seqItems
theorem yJ:type_of% @PySem.wpAny_Call_Name_kw:=@PySem.wpAny_Call_Name_kw
theorem yK:type_of% @Int.emod_lt_of_pos:=@Int.emod_lt_of_pos
theorem yL:type_of% @List.map_map:=@List.map_map
theorem yM:type_of% @List.lookup_cons:=@List.lookup_cons
theorem yN:type_of% @PySem.wpAny_newObj_type:=@PySem.wpAny_newObj_type
theorem yO:type_of% @PySem.W.kia_one:=@PySem.W.kia_one
theorem yP:type_of% @PySem.W.mg_of:=@PySem.W.mg_of
theorem yQ:type_of% @PySem.boot_len:=@PySem.boot_len
theorem yR:type_of% @List.flatten_cons:=@List.flatten_cons
theorem yS:type_of% @of_decide_eq_true:=@of_decide_eq_true
theorem yT:type_of% @Int.emod_nonneg:=@Int.emod_nonneg
theorem yU:type_of% @PySem.PassesOwn.never:=@PySem.PassesOwn.never
theorem yV:type_of% @List.nodup_cons:=@List.nodup_cons
theorem yW:type_of% @PySem.wpAny_updateSeq:=@PySem.wpAny_updateSeq
theorem yX:type_of% @Array.length_toList:=@Array.length_toList
theorem yY:type_of% @PyProof.Rows.boot_list:=@PyProof.Rows.boot_list
theorem yZ:type_of% @PySem.wpAny_holding:=@PySem.wpAny_holding
theorem y0:type_of% @Bool.and_eq_true:=@Bool.and_eq_true
theorem y1:type_of% @congrArg:=@congrArg
theorem y2:type_of% @PySem.Around.under_plainId:=@PySem.Around.under_plainId
theorem y3:type_of% @PySem.mem_of_lookup:=@PySem.mem_of_lookup
theorem y4:type_of% @PySem.F.plain_extend_loop:=@PySem.F.plain_extend_loop
theorem y6:type_of% @PySem.wpAny_call_entry:=@PySem.wpAny_call_entry
theorem y7:type_of% @List.all_eq_true:=@List.all_eq_true
theorem y9:type_of% @PySem.F.plain_max_loop:=@PySem.F.plain_max_loop
theorem zc:type_of% @Bool.false_eq_true:=@Bool.false_eq_true
theorem zd:type_of% @Nat.lt_irrefl:=@Nat.lt_irrefl
theorem ze:type_of% @PySem.plainId_quiet:=@PySem.plainId_quiet
theorem zf:type_of% @PySem.F.slot_tuple_iterator_next:=@PySem.F.slot_tuple_iterator_next
theorem zg:type_of% @List.sum_cons:=@List.sum_cons
theorem zh:type_of% @Int.toNat_natCast:=@Int.toNat_natCast
theorem zi:type_of% @List.mem_range:=@List.mem_range
theorem zj:type_of% @Nat.lt_succ_self:=@Nat.lt_succ_self
theorem zk:type_of% @beq_eq_false_iff_ne:=@beq_eq_false_iff_ne
theorem zm:type_of% @List.any_cons:=@List.any_cons
theorem zn:type_of% @PySem.wpAny_pyIter_tuple:=@PySem.wpAny_pyIter_tuple
theorem zo:type_of% @PySem.tupleKind_room_in1:=@PySem.tupleKind_room_in1
theorem zp:type_of% @PySem.wpAny_ite_split:=@PySem.wpAny_ite_split
theorem zq:type_of% @PySem.Obj.data_mapFields:=@PySem.Obj.data_mapFields
theorem zr:type_of% @PySem.F.slot_zip_next:=@PySem.F.slot_zip_next
theorem zt:type_of% @PySem.codeAny_builtin:=@PySem.codeAny_builtin
theorem zu:type_of% @PySem.wpAny_letGo:=@PySem.wpAny_letGo
theorem zv:type_of% @List.append_assoc:=@List.append_assoc
theorem zw:type_of% @Nat.lt_succ_of_lt:=@Nat.lt_succ_of_lt
theorem zx:type_of% @List.nodup_append:=@List.nodup_append
theorem zy:type_of% @PySem.codeAny_mono:=@PySem.codeAny_mono
theorem zz:type_of% @beq_iff_eq:=@beq_iff_eq
namespace L2
open PySem PySem.Spec PyProof.Rows
abbrev bV:=Sum Int Str
def kC:bV->Value->Bool
 | .inl k,v=>Value.isInt k v
 | .inr x,v=>Value.isStrOf x v
def wB (w:World):bV->Int
 | .inl k=>hashInt k
 | .inr x=>hashStr w x
theorem bo:∀ {k:bV}{v:Value},kC k v=true->(∃ i t,k=Sum.inl i/\v=Value.int i t)\/(∃ x t,k=Sum.inr x/\v=Value.str x t)
 | .inl i,v,h=>by
  obtain⟨t,e⟩:=Value.isInt_shape (k:=i) (v:=v) h;exact .inl ⟨i,t,rfl,e⟩
 | .inr x,v,h=>by
  obtain⟨t,e⟩:=Value.isStrOf_shape (x:=x) (v:=v) h;exact .inr ⟨x,t,rfl,e⟩
theorem pz (i:Int)(t:Tok):kC (.inl i) (.int i t)=true:=by simp[kC,Value.isInt]
theorem pA (x:Str)(t:Tok):kC (.inr x) (.str x t)=true:=by simp[kC,Value.isStrOf]
theorem t7 (a b:Int):decide ((Sum.inl a:bV)=Sum.inl b)=(a == b):=by
 by_cases e:a=b
 ·subst e;simp
 ·have h:¬ (Sum.inl a:bV)=Sum.inl b:=fun q=>e (Sum.inl.inj q)
  rw[xS h];exact (zk.mpr e).symm
theorem ue (a b:Str):decide ((Sum.inr a:bV)=Sum.inr b)=decide (a=b):=by
 by_cases e:a=b
 ·subst e;simp
 ·have h:¬ (Sum.inr a:bV)=Sum.inr b:=fun q=>e (Sum.inr.inj q)
  rw[xS h,xS e]
theorem uc (a:Int)(b:Str):decide ((Sum.inl a:bV)=Sum.inr b)=false:=xS (fun q=>nomatch q)
theorem ud (a:Str)(b:Int):decide ((Sum.inr a:bV)=Sum.inl b)=false:=xS (fun q=>nomatch q)
def bp (prog:Program)(w:World):PySem.KeyKind prog w bV where
 is:=kC
 hash:=wB w
 inj:=fun v a b ha hb=>by
  rcases bo ha with ⟨i,t,rfl,rfl⟩ | ⟨x,t,rfl,rfl⟩
  ·rcases bo hb with ⟨j,u,rfl,e⟩ | ⟨y,u,rfl,e⟩
   ·injection e with e1 _;rw[e1]
   ·exact nomatch e
  ·rcases bo hb with ⟨j,u,rfl,e⟩ | ⟨y,u,rfl,e⟩
   ·exact nomatch e
   ·injection e with e1 _;rw[e1]
 byValue:=fun k v h=>by
  rcases bo h with ⟨i,t,rfl,rfl⟩ | ⟨x,t,rfl,rfl⟩<;>rfl
 pyHash:=fun hv h=>by
  rcases bo hv with ⟨i,t,rfl,rfl⟩ | ⟨x,t,rfl,rfl⟩
  ·exact wpAny_pyHash_int h
  ·exact wpAny_pyHash_str h
 eqBool:=fun hu hv h=>by
  rcases bo hu with ⟨i,t,rfl,rfl⟩ | ⟨x,t,rfl,rfl⟩
  ·rcases bo hv with ⟨j,u,rfl,rfl⟩ | ⟨y,u,rfl,rfl⟩
   ·rw[t7]at h;exact wpAny_eqBool_int h
   ·rw[uc]at h;exact SeqAt.EqAt.int_str i t y u _ _ _ _ h
  ·rcases bo hv with ⟨j,u,rfl,rfl⟩ | ⟨y,u,rfl,rfl⟩
   ·rw[ud]at h;exact SeqAt.EqAt.str_int x t j u _ _ _ _ h
   ·rw[ue]at h;exact wpAny_eqBool_str h
 «strs»:=fun k x t v h=>by
  rcases bo h with ⟨i,u,rfl,e⟩ | ⟨y,u,rfl,e⟩
  ·exact nomatch e
  ·injection e with e1 _
   subst e1;cases v<;>rfl
theorem lP (prog:Program)(w:World)(i:Int)(t:Tok):(bp prog w).is (.inl i) (.int i t)=true:=pz i t
theorem lQ (prog:Program)(w:World)(x:Str)(t:Tok):(bp prog w).is (.inr x) (.str x t)=true:=pA x t
inductive V where
 | non | bl (b:Bool) | int (i:Int) | str (x:Str) | byt (b:Array UInt8) | flt (b:UInt64) | ref (a:Addr) | ty (n:String)
 deriving DecidableEq
def aD:V->Value->Prop
 | .non,u=>u=Value.none
 | .bl b,u=>u=Value.bool b
 | .int i,u=>∃ t,u=Value.int i t
 | .str x,u=>∃ t,u=Value.str x t
 | .byt b,u=>∃ t,u=Value.bytes b t
 | .flt b,u=>∃ t,u=Value.float b t
 | .ref a,u=>u=Value.ref a
 | .ty n,u=>u=Value.type n
abbrev Vals:List V->List Value->Prop:=Paired aD
theorem Vals.length {xs:List V}{us:List Value}(r:Vals xs us):xs.length=us.length:=x9 r
theorem Vals.get:∀ {xs:List V}{us:List Value}{i:Nat}{x:V},Vals xs us->xs[i]? = some x->∃ u,us[i]? = some u/\aD x u
 | _,_,_,_,.nil,e=>by simp at e
 | _,_,0,_,.cons r _,e=>by simp at e;subst e;exact⟨_,rfl,r⟩
 | _,_,i+1,x,.cons _ t,e=>by
  obtain⟨u,h1,h2⟩:=Vals.get (i:=i) (x:=x) t (by simpa using e);exact⟨u,by simpa using h1,h2⟩
theorem Vals.append:∀ {xs ys:List V}{us ws:List Value},Vals xs us->Vals ys ws->Vals (xs++ys) (us++ws)
 | _,_,_,_,.nil,s=>s
 | _,_,_,_,.cons r t,s=>.cons r (Vals.append t s)
theorem Vals.take:∀ {xs:List V}{us:List Value}(n:Nat),Vals xs us->Vals (xs.take n) (us.take n)
 | _,_,0,_=>.nil
 | _,_,_+1,.nil=>.nil
 | _,_,n+1,.cons r t=>.cons r (Vals.take n t)
theorem Vals.drop:∀ {xs:List V}{us:List Value}(n:Nat),Vals xs us->Vals (xs.drop n) (us.drop n)
 | _,_,0,r=>r
 | _,_,_+1,.nil=>.nil
 | _,_,n+1,.cons _ t=>Vals.drop n t
def eO:Option V->Option Value->Prop
 | some v,some u=>aD v u
 | none,none=>True
 | _,_=>False
def KV {κ:Type}:List (κ×V)->List (κ×Value)->Prop:=Paired fun (p:κ×V)(q:κ×Value)=>p.1=q.1/\aD p.2 q.2
def kV:bV->V
 | .inl i=>.int i
 | .inr x=>.str x
inductive HO where
 | lst (xs:List V)
 | tup (xs:List V)
 | dK (kvs:List (bV×V)) | dT (kvs:List (List bV×V))
 | set (S:Int->Bool) (n:Nat)
 | ins (C dx:Addr) (fs:List (Str×V))
 | own (x:Addr)
 | xd (fs:List (Str×V))
 | met (f x:Addr)
 | rng (lo hi:Int)
 | frz (o:Obj) (u:HO)
 | tbl (ps:Array Value)
 | ext (φ:Heap->Prop)
abbrev Hp:=Addr->Option HO
def aH (H:Hp)(a:Addr)(o:HO):Hp:=fun b=>if b=a then some o else H b
theorem aa {H:Hp}{a:Addr}{o:HO}:aH H a o a=some o:=by unfold aH;rw[x4 rfl]
theorem ak {H:Hp}{a b:Addr}{o:HO}(h:b≠a):aH H a o b=H b:=by unfold aH;rw[xV h]
theorem lD {H:Hp}{a:Addr}{o u:HO}:aH (aH H a o) a u=aH H a u:=by
 funext b;unfold aH;split<;>rfl
theorem sN {H:Hp}{a b:Addr}{o u:HO}(h:H a=some o)(h':H b=some u)(d:o≠u):a≠b:=by
 intro e;subst e;rw[h]at h';exact d (ye h')
theorem aL {H:Hp}{a b:Addr}{o:HO}(h:H a=some o)(h':H b=none):a≠b:=by
 intro e;subst e;rw[h]at h';cases h'
def f8 (h:Heap)(a:Addr)(items:Array Value):Prop:=∃ o,h.get? a=some o/\o.cls=.type "tuple"/\∃ n,(o.data,o.dict)=(Data.seq items n,(none:Option Addr))
theorem f8.old {h:Heap}{a:Addr}{items:Array Value}(x:f8 h a items):IsTup h a items:=let ⟨o,e,c,n,d⟩:=x;⟨o,e,c,n,(Prod.mk.inj d).1⟩
theorem f8.new (h:Heap)(items:Array Value):f8 (h.push { cls:=.type "tuple",data:=.seq items }) h.objs.size items:=⟨_,Heap.get?_push_size _ rfl,rfl,_,rfl⟩
section
variable (P:Program)(w:World)
def aX (H:Hp)(h:Heap)(a:Addr):HO->Prop
 | .lst xs=>xs.length<=sizeLine/\∃ (its:List Value)(n:Nat),Vals xs its/\h.get? a=some { cls:=.type "list",data:=.seq its.toArray n }
 | .tup xs=>xs.length<=sizeLine/\∃ its:List Value,Vals xs its/\f8 h a its.toArray
 | .dK kvs=>kvs.length<=sizeLine/\(a == sysModules)=false/\∃ vs,KV kvs vs/\h.DictOf (bp P w) a vs
 | .dT kvs=>kvs.length<=sizeLine/\(a == sysModules)=false/\∃ xs:List (List bV×Addr×Value),
   Paired (fun (p:List bV×V)(q:List bV×Addr×Value)=>p.1=q.1/\H q.2.1=some (.tup (p.1.map kV))/\aD p.2 q.2.2) kvs xs /\
   ∃ o es ep,h.get? a=some o/\o.ExactDict/\o.data=.dict es ep/\es.toList=xs.map (entryOfKey (tupleKind (bp P w)))/\(xs.map (·.1)).Nodup
 | .set S n=>h.SetOf (intKind P w) a S n
 | .ins C dx fs=>H dx=some (.own a)/\fs.length<=1000/\dx≠a/\h.get? a=some (PySem.W.instObj C dx) /\
   ∃ mA,h.Ns1 dx mA/\(∀ f,eO (fs.lookup f) (mA f))/\PySem.Within mA (fs.map (·.1))
 | .own _=>∃ o,h.get? a=some o
 | .xd fs=>∃ mA,h.Ns1 a mA/\∀ f,eO (fs.lookup f) (mA f)
 | .rng lo hi=>∃ t u v,h.get? a=some { cls:=.type "range",data:=.fields #[.int lo t,.int hi u,.int 1 v] }
 | .frz o u=>h.get? a=some o/\aX H h a u
 | .tbl ps=>h.get? a=some { cls:=.none,data:=.fields ps }
 | .met f x=>h.get? a=some (PySem.W.methodObj (.ref f) (.ref x))
 | .ext φ=>φ h/\(∃ o,h.get? a=some o)/\∀ h1 h2:Heap,φ h1->(∀ o,h1.get? a=some o->h2.get? a=some o)->φ h2
def eQ (H:Hp)(h:Heap):Prop:=∀ a o,H a=some o->aX P w H h a o
end
section
variable {P:Program}{w:World}{H H':Hp}{h h':Heap}{a:Addr}{o:HO}
theorem aX.lt (x:aX P w H h a o):a<h.objs.size:=by
 cases o with
 | lst xs=>obtain⟨_,_,_,_,e⟩:=x;exact xQ e
 | tup xs=>obtain⟨_,_,_,p⟩:=x;exact p.old.lt
 | dK kvs=>obtain⟨_,_,_,_,o,_,_,e,_⟩:=x;exact xQ e
 | dT kvs=>obtain⟨_,_,_,_,o,_,_,e,_⟩:=x;exact xQ e
 | set S n=>obtain⟨o,_,_,_,e,_⟩:=x;exact xQ e
 | ins C dx fs=>obtain⟨_,_,_,e,_⟩:=x;exact xQ e
 | own y=>obtain⟨_,e⟩:=x;exact xQ e
 | xd fs=>obtain⟨_,⟨_,_,_,e,_⟩,_⟩:=x;exact xQ e
 | rng lo hi=>obtain⟨_,_,_,e⟩:=x;exact xQ e
 | frz ob u=>obtain⟨e,_⟩:=x;exact xQ e
 | tbl ps=>exact xQ (show h.get? a=some _ from x)
 | met f y=>exact xQ (show h.get? a=some _ from x)
 | ext φ=>obtain⟨_,⟨_,e⟩,_⟩:=x;exact xQ e
theorem Paired.mapP {α β:Type}{F G:α->β->Prop}:∀ {l₁:List α}{l₂:List β},Paired F l₁ l₂->(∀ a b,F a b->G a b)->Paired G l₁ l₂
 | _,_,.nil,_=>.nil
 | _,_,.cons r t,f=>.cons (f _ _ r) (Paired.mapP t f)
theorem aX.stay (x:aX P w H h a o)(k:∀ b u,(b=a\/H b=some (.own a))->h.get? b=some u->h'.get? b=some u)
  (ho:∀ b,H b=some (.own a)->H' b=some (.own a)) (ht:∀ b xs,H b=some (.tup xs)->H' b=some (.tup xs)):aX P w H' h' a o:=by
 induction o with
 | lst xs=>obtain⟨z,its,n,r,e⟩:=x;exact⟨z,its,n,r,k _ _ (.inl rfl) e⟩
 | tup xs=>obtain⟨z,its,r,ob,e,c⟩:=x;exact⟨z,its,r,ob,k _ _ (.inl rfl) e,c⟩
 | dK kvs=>obtain⟨z,y,vs,r,ob,es,ep,e,c⟩:=x;exact⟨z,y,vs,r,ob,es,ep,k _ _ (.inl rfl) e,c⟩
 | dT kvs =>
  obtain⟨z,y,xs,r,ob,es,ep,e,c⟩:=x;exact⟨z,y,xs,Paired.mapP r fun p q z=>⟨z.1,ht _ _ z.2.1,z.2.2⟩,ob,es,ep,k _ _ (.inl rfl) e,c⟩
 | set S n=>obtain⟨ob,es,ep,t,e,c⟩:=x;exact⟨ob,es,ep,t,k _ _ (.inl rfl) e,c⟩
 | ins C dx fs =>
  obtain⟨d,z,ne,e,mA,⟨od,es,ep,e2,c⟩,r⟩:=x;exact⟨ho _ d,z,ne,k _ _ (.inl rfl) e,mA,⟨od,es,ep,k _ _ (.inr d) e2,c⟩,r⟩
 | own y=>obtain⟨ob,e⟩:=x;exact⟨ob,k _ _ (.inl rfl) e⟩
 | xd fs=>obtain⟨mA,⟨od,es,ep,e,c⟩,r⟩:=x;exact⟨mA,⟨od,es,ep,k _ _ (.inl rfl) e,c⟩,r⟩
 | rng lo hi=>obtain⟨t,u,v,e⟩:=x;exact⟨t,u,v,k _ _ (.inl rfl) e⟩
 | frz ob u ih=>obtain⟨e,q⟩:=x;exact⟨k _ _ (.inl rfl) e,ih q⟩
 | tbl ps =>
  have e:h.get? a=some { cls:=.none,data:=.fields ps }:=x
  show h'.get? a=some { cls:=.none,data:=.fields ps }
  exact k a _ (.inl rfl) e
 | met f y =>
  have e:h.get? a=some (PySem.W.methodObj (.ref f) (.ref y)):=x
  show h'.get? a=some (PySem.W.methodObj (.ref f) (.ref y))
  exact k a _ (.inl rfl) e
 | ext φ=>obtain⟨p,⟨o,e⟩,st⟩:=x;exact⟨st _ _ p fun o q=>k _ _ (.inl rfl) q,⟨o,k _ _ (.inl rfl) e⟩,st⟩
theorem eQ.lt (x:eQ P w H h)(e:H a=some o):a<h.objs.size:=(x a o e).lt
theorem eQ.fresh (x:eQ P w H h)(e:h.objs.size<=a):H a=none:=by
 cases q:H a with
 | none=>rfl
 | some u=>exact absurd (yc (x.lt q) e) (zd _)
theorem eQ.kept (x:eQ P w H h)(k:∀ b u,h.get? b=some u->h'.get? b=some u):eQ P w H h':=fun a o e =>
 (x a o e).stay (fun b u _ q=>k b u q) (fun _ q=>q) fun _ _ q=>q
theorem eQ.laid (x:eQ P w H h)(k:∀ b u,h.get? b=some u->h'.get? b=some u)(hp:h.objs.size<=a)(new:aX P w (aH H a o) h' a o):eQ P w (aH H a o) h':=fun b u e=>by
 have hn:=x.fresh hp
 by_cases hb:b=a
 ·subst hb;rw[aa]at e;cases e;exact new
 ·rw[ak hb]at e
  exact (x b u e).stay (fun c v _ q=>k c v q) (fun c q=>by rw[ak (aL q hn)];exact q) fun c xs q=>by rw[ak (aL q hn)];exact q
end
def Rd (H:Hp)(a:Addr)(u:HO):Prop:=H a=some u\/∃ o,H a=some (.frz o u)
theorem Rd.of {H:Hp}{a:Addr}{u:HO}(h:H a=some u):Rd H a u:=.inl h
theorem Rd.ok {P:Program}{w:World}{H:Hp}{h:Heap}{a:Addr}{u:HO}(r:Rd H a u)(x:eQ P w H h):aX P w H h a u:=by
 rcases r with r | ⟨o,r⟩
 ·exact x a u r
 ·obtain⟨_,q⟩:=x a _ r
  exact q
def u4:Option HO->Prop
 | some (.lst _)=>True
 | some (.dK _)=>True
 | some (.dT _)=>True
 | some (.set _ _)=>True
 | some (.ins _ _ _)=>True
 | some (.ext _)=>True
 | _=>False
section
variable {P:Program}{w:World}{H:Hp}{h h':Heap}{x e:Addr}{o':HO}
theorem eQ.write (ok:eQ P w H h)(mu:u4 (H x))(he:e=x\/H e=some (.own x))(k:∀ b u,b≠e->h.get? b=some u->h'.get? b=some u)(heo:∃ u,h'.get? e=some u)
  (new:aX P w (aH H x o') h' x o'):eQ P w (aH H x o') h':=fun b u q=>by
 have nown:∀ c y,H c=some (.own y)->c≠x:=fun c y r z=>by subst z;rw[r]at mu;exact mu
 have ntup:∀ c xs,H c=some (.tup xs)->c≠x:=fun c xs r z=>by subst z;rw[r]at mu;exact mu
 by_cases hb:b=x
 ·subst hb;rw[aa]at q;cases q;exact new
 ·rw[ak hb]at q
  by_cases hbe:b=e
  ·have q':H b=some (.own x):=by
    rcases he with z | z
    ·exact absurd (hbe.trans z) hb
    ·rw[hbe];exact z
   rw[q]at q';cases q';obtain⟨v,hv⟩:=heo;exact⟨v,by rw[hbe];exact hv⟩
  ·refine (ok b u q).stay (fun c v hc r=>k c v ?_ r) (fun c r=>by rw[ak (nown c b r)];exact r) fun c xs r=>by rw[ak (ntup c xs r)];exact r
   rcases hc with rfl | hc
   ·exact hbe
   ·rintro rfl
    rcases he with z | z
    ·exact nown c b hc z
    ·rw[hc]at z;cases z;exact hb rfl
end
structure Un (fs ex:List Addr)(H H':Hp)(h h':Heap):Prop where
 keep:∀ b o,h.get? b=some o->H b=none->b∉fs->b∉ex->h'.get? b=some o
 slot:∀ b o,h.get? b=some o->H b=none->b∈fs->b∉ex->∃ sl,h'.get? b=some { o with slots:=sl }
 free:∀ b o,h.get? b=some o->H b=none->b∉ex->H' b=none
 there:∀ b o,h.get? b=some o->b∉ex->∃ o',h'.get? b=some o'
 tups:∀ b xs,H b=some (.tup xs)->H' b=some (.tup xs)
 frzs:∀ b o u,H b=some (.frz o u)->H' b=some (.frz o u)
 tbls:∀ b ps,H b=some (.tbl ps)->∃ more,H' b=some (.tbl (ps++more))
section
variable {fs fs' ex ex':List Addr}{H H1 H2:Hp}{h h1 h2 h':Heap}{a x e:Addr}{o:HO}
theorem Un.any (u:Un fs ex H H1 h h1){b:Addr}{ob:Obj}(q:h.get? b=some ob)(n:H b=none)(hx:b∉ex):∃ sl,h1.get? b=some { ob with slots:=sl }:=by
 by_cases hb:b∈fs
 ·exact u.slot b ob q n hb hx
 ·exact⟨ob.slots,u.keep b ob q n hb hx⟩
theorem Un.kept (k:∀ b u,h.get? b=some u->h'.get? b=some u):Un fs ex H H h h' :=
 ⟨fun b ob q _ _ _=>k b ob q,fun b ob q _ _ _=>⟨ob.slots,k b ob q⟩,fun _ _ _ n _=>n,fun b ob q _=>⟨ob,k b ob q⟩,fun _ _ q=>q,fun _ _ _ q=>q,fun _ ps q=>⟨#[],by rw[q];simp⟩⟩
theorem Un.refl:Un fs ex H H h h:=Un.kept fun _ _ q=>q
theorem Un.laid (k:∀ b u,h.get? b=some u->h'.get? b=some u)(hp:h.objs.size<=a)(hn:H a=none):Un fs ex H (aH H a o) h h' where
 keep:=fun b u q _ _ _=>k b u q
 slot:=fun b u q _ _ _=>⟨u.slots,k b u q⟩
 free:=fun b u q n _=>by rw[ak (x5 (yc (xQ q) hp))];exact n
 there:=fun b u q _=>⟨u,k b u q⟩
 tups:=fun b xs q=>by rw[ak (aL q hn)];exact q
 frzs:=fun b u xs q=>by rw[ak (aL q hn)];exact q
 tbls:=fun b ps q=>⟨#[],by rw[ak (aL q hn),q];simp⟩
theorem Un.write (mu:u4 (H x))(he:e=x\/H e=some (.own x))(k:∀ b u,b≠e->h.get? b=some u->h'.get? b=some u)(heo:∃ u,h'.get? e=some u):Un fs ex H (aH H x o) h h':=by
 have hx:∀ b,H b=none->b≠x:=fun b n z=>by subst z;rw[n]at mu;exact mu
 have hb:∀ b,H b=none->b≠e:=fun b n z=>by
  subst z;rcases he with r | r
  ·exact hx b n r
  ·rw[n]at r;cases r
 have hm:∀ b u,H b=some u->¬ u4 (some u)->b≠x:=fun b u q nm z=>by subst z;rw[q]at mu;exact nm mu
 refine⟨fun b u q n _ _=>k b u (hb b n) q,fun b u q n _ _=>⟨u.slots,k b u (hb b n) q⟩,fun b u q n _=>by rw[ak (hx b n)];exact n,fun b u q _=>?_,
  fun b xs q=>by rw[ak (hm b _ q fun z=>z)];exact q,fun b u xs q=>by rw[ak (hm b _ q fun z=>z)];exact q,fun b ps q=>⟨#[],by rw[ak (hm b _ q fun z=>z),q];simp⟩⟩
 by_cases hbe:b=e
 ·subst hbe;exact heo
 ·exact⟨u,k b u hbe q⟩
end
def vZ (h:Heap)(H:Hp):List Addr:=(List.range h.objs.size).filter fun a=>(H a).isSome
def kP (h:Heap)(H:Hp):Heap:=PySem.W.hideAll h (vZ h H)
theorem pq (h:Heap)(H:Hp):(kP h H).objs.size=h.objs.size:=PySem.W.hideAll_size _ _
theorem qi {h:Heap}{H:Hp}{b:Addr}{o:Obj}(e:h.get? b=some o)(n:H b=none):(kP h H).get? b=some o :=
 PySem.W.hideAll_get _ e fun hm=>by
  have q:(H b).isSome=true:=(List.mem_filter.mp hm).2;rw[n]at q;simp at q
theorem rZ {h:Heap}{H:Hp}{b:Addr}{o:Obj}(e:(kP h H).get? b=some o):h.get? b=some o/\H b=none:=by
 have e':h.get? b=some o:=PySem.W.of_hideAll (vZ h H) e;refine⟨e',?_⟩
 cases q:H b with
 | none=>rfl
 | some x =>
  have hm:b∈vZ h H:=List.mem_filter.mpr ⟨zi.mpr (xQ e'),by simp[q]⟩;have z:(kP h H).get? b=none:=PySem.W.hideAll_none (vZ h H) hm;rw[z]at e;cases e
structure Mod (K:PySem.W.Frag)(mg:Str->Option Value)(base:Heap):Prop where
 kin:K.In base
 glob:base.Ns mainGlobals mg
 blt:∃ mb,base.Ns builtinsNs mb/\∀ x:Str,x≠"__name__"->mb x=bootBuiltins x
 nolimit:base.NoLimit
structure Cx where
 prog:Program
 w:World
 K:PySem.W.Frag
 mg:Str->Option Value
 base:Heap
 A:Around
 N:List Str
 s₀:Shared
 H₀:Hp
 env:Env
 outer:List Env
 stack:List Env
 ex:List Addr
 fn:Str->Bool
 calm:Bool
 pn:List (Addr×Obj)
 xe:Value->Shared->Prop
def fB (l:List Env):List Addr:=l.filterMap (·.frame)
abbrev Cx.fs (X:Cx):List Addr:=fB X.outer
def wo (sc:Scope)(x:Str):Prop:=sc.names.lookup x=some .local\/sc.names.lookup x=some .cell\/sc.names.lookup x=some .free
def tK (sc:Scope)(x:Str):Prop:=sc.names.lookup x=some .local\/sc.names.lookup x=some .cell
def wd (env:Env)(h:Heap)(m:Str->Option Value)(x:Str)(u:Value):Prop :=
 (env.kindOf x=some .local/\m x=some u)\/((env.kindOf x=some .cell\/env.kindOf x=some .free)/\∃ c,env.cells.lookup x=some c/\h.IsCell c (some u))
structure Cx.Ok (X:Cx):Prop where
 mod:Mod X.K X.mg X.base
 kind:X.env.scope.kind=.function
 glob:X.env.globals=mainGlobals
 blt:X.env.builtins=builtinsNs
 above:X.s₀.heap.objs.size<=X.env.locals
 inj:∀ x y c,X.env.cells.lookup x=some c->X.env.cells.lookup y=some c->x=y
 has:∀ x,(X.env.kindOf x=some .cell\/X.env.kindOf x=some .free)->∃ c,X.env.cells.lookup x=some c
 cab:∀ x c,X.fn x=true->X.env.cells.lookup x=some c->X.s₀.heap.objs.size<=c
 hd:X.calm=true->X.A.handled=none
 frames:X.A.frames=some X.stack
 stk:X.stack=X.outer\/(X.stack=X.env::X.outer/\X.env.frame=some X.env.locals)
 exf:∀ b∈X.ex,b≠X.env.locals/\∀ x c,X.env.cells.lookup x=some c->c≠b
 bs:∀ b o,X.base.get? b=some o->X.s₀.heap.get? b=some o/\X.H₀ b=none
 bsz:X.base.objs.size<=X.s₀.heap.objs.size
 noex:∀ b o,X.base.get? b=some o->b∉X.ex
 exfs:∀ b∈X.ex,b∉X.fs
 funs:X.s₀.heap.FunFrames X.base X.outer
 frf:∀ b∈X.fs,X.H₀ b=none
structure am (X:Cx)(pins:List (Addr×Obj))(σ:List (Option V))(H:Hp)(s:Shared):Prop where
 ok:X.Ok
 os:s.os=X.s₀.os
 bare:AllBare s.gens
 base:Un X.fs X.ex X.H₀ H X.s₀.heap s.heap
 loc:∃ m,s.heap.Ns X.env.locals m/\∀ (i:Nat)(x:Str)(v:V),X.N[i]? = some x->σ[i]? = some (some v)->wo X.env.scope x->∃ u,aD v u/\wd X.env s.heap m x u
 cell:∀ x c,X.env.cells.lookup x=some c->∃ v,s.heap.IsCell c v
 free:H X.env.locals=none
 freeC:∀ x c,X.env.cells.lookup x=some c->H c=none
 pin:∀ p∈X.pn++pins,s.heap.get? p.1=some p.2/\H p.1=none/\p.1≠X.env.locals/\p.1∉X.fs/\∀ v,p.2.data≠.cell v
 hok:eQ X.prog X.w H s.heap
 len:σ.length=X.N.length
section
variable {X:Cx}{pins:List (Addr×Obj)}{σ:List (Option V)}{H H':Hp}{s:Shared}{h':Heap}
theorem Cx.Ok.nofr (ok:X.Ok){b:Addr}{o:Obj}(e:X.base.get? b=some o):b∉X.fs:=fun hb=>by
 have:=(ok.funs.mem hb).1;rw[e]at this;cases this
theorem am.bs (I:am X pins σ H s):∀ b o,X.base.get? b=some o->s.heap.get? b=some o/\H b=none:=fun b o e =>
 ⟨I.base.keep b o (I.ok.bs b o e).1 (I.ok.bs b o e).2 (I.ok.nofr e) (I.ok.noex b o e),I.base.free b o (I.ok.bs b o e).1 (I.ok.bs b o e).2 (I.ok.noex b o e)⟩
theorem am.bk (I:am X pins σ H s):∀ b o,X.base.get? b=some o->s.heap.get? b=some o:=fun b o e=>(I.bs b o e).1
theorem am.mod (I:am X pins σ H s):Mod X.K X.mg X.base:=I.ok.mod
theorem am.kIn (I:am X pins σ H s):X.K.In s.heap:=I.ok.mod.kin.keeps I.bk
theorem am.lt (I:am X pins σ H s):X.env.locals<s.heap.objs.size:=let ⟨_,hn,_⟩:=I.loc;hn.lt
theorem am.sz (I:am X pins σ H s):X.s₀.heap.objs.size<=s.heap.objs.size:=yA I.ok.above (Nat.le_of_lt I.lt)
theorem am.nofs (I:am X pins σ H s){a:Addr}(h:s.heap.objs.size<=a):a∉X.fs:=fun hb=>by
 obtain⟨_,o,ho,_⟩:=I.ok.funs.mem hb;exact absurd (yc (xQ ho) (yA I.sz h)) (zd _)
theorem am.cne (I:am X pins σ H s):∀ x c,X.env.cells.lookup x=some c->c≠X.env.locals:=fun x c e z=>by
 obtain⟨v,o,ho,hd⟩:=I.cell x c e;obtain⟨m,⟨o',es,ep,ho',hd',_⟩,_⟩:=I.loc;rw[z,ho']at ho;cases ho;rw[hd']at hd;cases hd
theorem am.funs (I:am X pins σ H s):s.heap.FunFrames X.base X.outer:=by
 have all:∀ (l:List Env),(∀ b∈fB l,b∈X.fs)->X.s₀.heap.FunFrames X.base l->s.heap.FunFrames X.base l:=by
  intro l
  induction l with
  | nil=>intro _ _;trivial
  | cons env r ih =>
   intro hs hl;obtain⟨hk,⟨L,o,hf,hn,ho,hd⟩,hr⟩:=hl;have hL:L∈X.fs:=hs L (by unfold fB;rw[List.filterMap_cons,hf];exact xZ);obtain⟨sl,e⟩:=I.base.slot L o ho (I.ok.frf L hL) hL fun z=>I.ok.exfs L z hL;exact⟨hk,⟨L,_,hf,hn,e,hd⟩,ih (fun b hb=>hs b (by unfold fB;rw[List.filterMap_cons,hf];exact xY _ hb)) hr⟩
 exact all X.outer (fun _ hb=>hb) I.ok.funs
theorem am.stack (I:am X pins σ H s):s.heap.FunFrames X.base X.stack:=by
 rcases I.ok.stk with e | ⟨e,hf⟩
 ·rw[e];exact I.funs
 ·rw[e]
  obtain⟨m,hn,_⟩:=I.loc;refine .cons (by rw[I.ok.kind];decide) hf hn ?_ I.funs;exact Heap.get?_none_of_le (yA I.ok.bsz I.ok.above)
theorem am.stkSub (I:am X pins σ H s):∀ b∈fB X.stack,b∈X.env.locals::X.fs:=fun b hb=>by
 rcases I.ok.stk with e | ⟨e,hf⟩
 ·rw[e]at hb;exact xY _ hb
 ·rw[e]at hb
  unfold fB at hb;rw[List.filterMap_cons,hf]at hb;exact hb
theorem am.stkFree (I:am X pins σ H s):∀ b∈fB X.stack,H b=none:=fun b hb=>by
 rcases ya.mp (I.stkSub b hb) with e | hb
 ·rw[e];exact I.free
 ·obtain⟨_,o,ho,_⟩:=I.ok.funs.mem hb
  exact I.base.free b o ho (I.ok.frf b hb) fun z=>I.ok.exfs b z hb
theorem am.step {g':Array GenState}{t':Nat}{d':Drawn}{ch:List Addr}(I:am X pins σ H s)
  (hch:∀ b∈ch,(b∈X.ex\/X.s₀.heap.objs.size<=b)/\b≠X.env.locals/\(∀ x c,X.env.cells.lookup x=some c->c≠b)/\∀ p∈X.pn++pins,p.1≠b)
  (keep:∀ b o,b≠X.env.locals->b∉X.fs->b∉ch->s.heap.get? b=some o->H b=none->h'.get? b=some o)
  (slot:∀ b o,b≠X.env.locals->b∈X.fs->b∉ch->s.heap.get? b=some o->H b=none->∃ sl,h'.get? b=some { o with slots:=sl }) (free:∀ b o,b∉ch->s.heap.get? b=some o->H b=none->H' b=none)
  (there:∀ b o,b∉ch->s.heap.get? b=some o->∃ o',h'.get? b=some o')
  (tups:∀ b xs,H b=some (.tup xs)->H' b=some (.tup xs)) (frzs:∀ b o u,H b=some (.frz o u)->H' b=some (.frz o u)) (tbls:∀ b ps,H b=some (.tbl ps)->∃ more,H' b=some (.tbl (ps++more)))
  (ns:∀ m,s.heap.Ns X.env.locals m->h'.Ns X.env.locals m) (hok:eQ X.prog X.w H' h') (hg:AllBare g') :
  am X pins σ H' { s with heap:=h',gens:=g',drawn:=d',toks:=t' }:=by
 have neL:∀ b o,X.s₀.heap.get? b=some o->b≠X.env.locals:=fun b o e=>x5 (yc (xQ e) I.ok.above)
 have neC:∀ b o,X.s₀.heap.get? b=some o->b∉X.ex->b∉ch:=fun b o e hx hb=>by
  rcases (hch b hb).1 with z | z
  ·exact hx z
  ·exact absurd (yc (xQ e) z) (zd _)
 have cellK:∀ x c,X.env.cells.lookup x=some c->∀ v,s.heap.IsCell c v->h'.IsCell c v:=fun x c e v ⟨o,ho,hd⟩=>by
  have nch:c∉ch:=fun z=>(hch c z).2.2.1 x c e rfl
  by_cases hc:c∈X.fs
  ·obtain⟨sl,q⟩:=slot c o (I.cne x c e) hc nch ho (I.freeC x c e)
   exact⟨_,q,hd⟩
  ·exact⟨o,keep c o (I.cne x c e) hc nch ho (I.freeC x c e),hd⟩
 refine⟨I.ok,I.os,hg,⟨fun b o e n hb hx=>?_,fun b o e n hb hx=>?_,fun b o e n hx=>?_,fun b o e hx=>?_,fun b xs e=>tups b xs (I.base.tups b xs e),fun b o xs e=>frzs b o xs (I.base.frzs b o xs e),fun b ps e=>?_⟩,?_,fun x c e=>?_,?_,fun x c e=>?_,fun p hp=>?_,hok,I.len⟩
 ·exact keep b o (neL b o e) hb (neC b o e hx) (I.base.keep b o e n hb hx) (I.base.free b o e n hx)
 ·obtain⟨sl,e1⟩:=I.base.slot b o e n hb hx
  obtain⟨sl',e2⟩:=slot b _ (neL b o e) hb (neC b o e hx) e1 (I.base.free b o e n hx);exact⟨sl',e2⟩
 ·obtain⟨o',e1⟩:=I.base.there b o e hx
  exact free b o' (neC b o e hx) e1 (I.base.free b o e n hx)
 ·obtain⟨o',e1⟩:=I.base.there b o e hx
  exact there b o' (neC b o e hx) e1
 ·obtain⟨m1,e1⟩:=I.base.tbls b ps e
  obtain⟨m2,e2⟩:=tbls b _ e1;exact⟨m1++m2,by rw[e2,Array.append_assoc]⟩
 ·obtain⟨m,hn,hl⟩:=I.loc
  refine⟨m,ns m hn,fun i x v e1 e2 e3=>?_⟩;obtain⟨u,r,l⟩:=hl i x v e1 e2 e3;refine⟨u,r,?_⟩;rcases l with l | ⟨k,c,e,z⟩
  ·exact .inl l
  ·exact .inr ⟨k,c,e,cellK x c e _ z⟩
 ·obtain⟨v,z⟩:=I.cell x c e
  exact⟨v,cellK x c e v z⟩
 ·obtain⟨m,⟨o,_,_,ho,_⟩,_⟩:=I.loc
  exact free _ o (fun z=>(hch _ z).2.1 rfl) ho I.free
 ·obtain⟨v,o,ho,hd⟩:=I.cell x c e
  exact free c o (fun z=>(hch c z).2.2.1 x c e rfl) ho (I.freeC x c e)
 ·obtain⟨e,n,ne,nf,d⟩:=I.pin p hp
  have nch:p.1∉ch:=fun z=>(hch p.1 z).2.2.2 p hp rfl;exact⟨keep p.1 p.2 ne nf nch e n,free p.1 p.2 nch e n,ne,nf,d⟩
theorem am.un {t':Nat}(I:am X pins σ H s)(u:Un X.fs [] H H' s.heap h')(hok:eQ X.prog X.w H' h'):am X pins σ H' { s with heap:=h',toks:=t' }:=by
 obtain⟨m,⟨o,es,ep,ho,r⟩,_⟩:=id I.loc;obtain⟨sl,hL⟩:=u.any ho I.free (by simp)
 exact I.step (g':=s.gens) (d':=s.drawn) (ch:=[]) (fun _ z=>nomatch z) (fun b o _ hb _ e n=>u.keep b o e n hb (by simp)) (fun b o _ hb _ e n=>u.slot b o e n hb (by simp)) (fun b o _ e n=>u.free b o e n (by simp)) (fun b o _ e=>u.there b o e (by simp)) u.tups u.frzs u.tbls (fun m' hm=>by
  obtain⟨o',es',ep',ho',r'⟩:=hm;rw[ho]at ho';cases ho'
  exact⟨_,es',ep',hL,r'⟩) hok I.bare
theorem am.call {g':Array GenState}{t':Nat}{d':Drawn}{ch:List Addr}(I:am X pins σ H s)(u:Un (fB X.stack) ch H H' s.heap h')(hok:eQ X.prog X.w H' h')(hg:AllBare g')
  (hch:∀ b∈ch,(b∈X.ex\/X.s₀.heap.objs.size<=b)/\b≠X.env.locals/\(∀ x c,X.env.cells.lookup x=some c->c≠b)/\∀ p∈X.pn++pins,p.1≠b) :
  am X pins σ H' { s with heap:=h',gens:=g',drawn:=d',toks:=t' }:=by
 obtain⟨m,⟨o,es,ep,ho,r⟩,_⟩:=id I.loc;obtain⟨sl,hL⟩:=u.any ho I.free fun z=>(hch _ z).2.1 rfl
 exact I.step (ch:=ch) hch (fun b o hL hb hc e n=>u.keep b o e n (fun z=>(ya.mp (I.stkSub b z)).elim hL hb) hc) (fun b o _ _ hc e n=>u.any e n hc) (fun b o hc e n=>u.free b o e n hc) (fun b o hc e=>u.there b o e hc) u.tups u.frzs u.tbls (fun m' hm=>by
  obtain⟨o',es',ep',ho',r'⟩:=hm;rw[ho]at ho';cases ho'
  exact⟨_,es',ep',hL,r'⟩) hok hg
theorem am.turned {t':Nat}{it:Addr}(I:am X pins σ H s)(k:∀ b o,b≠it->s.heap.get? b=some o->h'.get? b=some o)(hn:H it=none)(hL:it≠X.env.locals)
  (h1:it∈X.ex\/X.s₀.heap.objs.size<=it) (h2:∀ x c,X.env.cells.lookup x=some c->c≠it) (h3:∀ p∈X.pn++pins,p.1≠it):am X pins σ H { s with heap:=h',toks:=t' }:=by
 have nit:∀ b u,H b=some u->b≠it:=fun b u e z=>by rw[z,hn]at e;cases e
 refine I.step (g':=s.gens) (d':=s.drawn) (ch:=[it]) (fun b hb=>?_) (fun b o _ _ hc e _=>k b o (fun z=>hc (by simp[z])) e) (fun b o _ _ hc e _=>⟨o.slots,k b o (fun z=>hc (by simp[z])) e⟩) (fun _ _ _ _ n=>n)
  (fun b o hc e=>⟨o,k b o (fun z=>hc (by simp[z])) e⟩) (fun _ _ e=>e) (fun _ _ _ e=>e) (fun b ps e=>⟨#[],by rw[e];simp⟩) (fun m hm=>?_) (fun b u e=>?_) I.bare
 ·have e:b=it:=by simpa using hb
  subst e;exact⟨h1,hL,h2,h3⟩
 ·obtain⟨o,es,ep,ho,r⟩:=hm
  exact⟨o,es,ep,k _ o (yo hL) ho,r⟩
 ·refine (I.hok b u e).stay (fun c v hc q=>k c v ?_ q) (fun _ q=>q) fun _ _ q=>q
  rcases hc with z | z
  ·rw[z];exact nit b u e
  ·exact nit c _ z
theorem am.tok (I:am X pins σ H s)(t:Nat):am X pins σ H { s with toks:=t }:=I.un (h':=s.heap) (t':=t) Un.refl I.hok
theorem am.kept {t':Nat}(I:am X pins σ H s)(k:∀ b u,s.heap.get? b=some u->h'.get? b=some u):am X pins σ H { s with heap:=h',toks:=t' }:=I.un (Un.kept k) (I.hok.kept k)
theorem am.laid {a:Addr}{o:HO}{t':Nat}(I:am X pins σ H s)(k:∀ b u,s.heap.get? b=some u->h'.get? b=some u)(hp:s.heap.objs.size<=a)(new:aX X.prog X.w (aH H a o) h' a o) :
  am X pins σ (aH H a o) { s with heap:=h',toks:=t' }:=I.un (Un.laid k hp (I.hok.fresh hp)) (I.hok.laid k hp new)
theorem am.write {x e:Addr}{o:HO}{t':Nat}(I:am X pins σ H s)(mu:u4 (H x))(he:e=x\/H e=some (.own x))(k:∀ b u,b≠e->s.heap.get? b=some u->h'.get? b=some u)(heo:∃ u,h'.get? e=some u)
  (new:aX X.prog X.w (aH H x o) h' x o):am X pins σ (aH H x o) { s with heap:=h',toks:=t' }:=I.un (Un.write mu he k heo) (I.hok.write mu he k heo new)
theorem am.pins_of {pins':List (Addr×Obj)}(I:am X pins σ H s)(h:∀ p∈pins',s.heap.get? p.1=some p.2/\H p.1=none/\p.1≠X.env.locals/\p.1∉X.fs/\∀ v,p.2.data≠.cell v):am X pins' σ H s :=
 ⟨I.ok,I.os,I.bare,I.base,I.loc,I.cell,I.free,I.freeC,fun p hp=>(ym.mp hp).elim (fun z=>I.pin p (List.mem_append_left _ z)) (h p),I.hok,I.len⟩
theorem lX {N:List Str}(hN:N.Nodup){i j:Nat}{x:Str}(a:N[i]? = some x)(b:N[j]? = some x):i=j:=by
 obtain⟨h1,e1⟩:=List.getElem?_eq_some_iff.mp a;obtain⟨h2,e2⟩:=List.getElem?_eq_some_iff.mp b;exact (List.getElem_inj hN).mp (e1.trans e2.symm)
theorem pO {M:Model}{A:Around}{E:Value->Shared->Prop}{i:Nat}{x:Str}{v:V}{u:Value}{Q:Unit->Shared->Prop}(I:am X pins σ H s)(hN:X.N.Nodup)(hi:X.N[i]? = some x)(hx:tK X.env.scope x)(r:aD v u)
  (h:∀ s',am X pins (σ.set i (some v)) H s'->(∃ a,Heap.SameBut a s.heap s'.heap/\(a=X.env.locals\/X.env.cells.lookup x=some a))->Q () s') (hf:X.fn x=true\/X.env.scope.names.lookup x=some .local:=by first | exact .inl rfl | exact .inr rfl | assumption):wpAny M A (storeName X.env x u) Q E s:=by
 obtain⟨m,hn,hl⟩:=id I.loc
 have hcls:(X.env.scope.kind == .class||(X.env.scope.kind == .module&&X.env.locals != X.env.globals))=false:=by rw[I.ok.kind];rfl
 have hiσ:i<σ.length:=by rw[I.len];exact (List.getElem?_eq_some_iff.mp hi).1
 have cne:=I.cne
 have tracked:∀ {a:Addr}{h':Heap},(∃ o,s.heap.get? a=some o/\H a=none)->Heap.SameBut a s.heap h'->eQ X.prog X.w H h':=fun {a h'} ha hs b ob e=>by
  obtain⟨_,_,hfree⟩:=ha;refine (I.hok b ob e).stay (fun c w' hc q=>(hs.2 c ?_).trans q) (fun _ q=>q) fun _ _ q=>q;rintro rfl;rcases hc with rfl | hc
  ·rw[hfree]at e;cases e
  ·rw[hfree]at hc;cases hc
 rcases hx with hk | hk
 ·refine wpAny_storeName_local hk hn (fun h' hn' hs=>?_) hcls
  obtain⟨oL,_,_,hoL,_⟩:=id hn;refine h _ ⟨I.ok,I.os,I.bare,⟨fun b o e n hb hx=>?_,fun b o e n hb hx=>?_,I.base.free,fun b o e hx=>?_,I.base.tups,I.base.frzs,I.base.tbls⟩,⟨_,hn',fun j y v' e1 e2 e3=>?_⟩,fun y c e=>?_,I.free,I.freeC,fun p hp=>?_,tracked ⟨oL,hoL,I.free⟩ hs,by simpa using I.len⟩ ⟨_,hs,.inl rfl⟩
  ·exact (hs.2 b (x5 (yc (xQ e) I.ok.above))).trans (I.base.keep b o e n hb hx)
  ·obtain⟨sl,e1⟩:=I.base.slot b o e n hb hx
   exact⟨sl,(hs.2 b (x5 (yc (xQ e) I.ok.above))).trans e1⟩
  ·obtain⟨o',e1⟩:=I.base.there b o e hx
   exact⟨o',(hs.2 b (x5 (yc (xQ e) I.ok.above))).trans e1⟩
  ·by_cases hj:j=i
   ·subst hj
    rw[hi]at e1;cases e1;rw[List.getElem?_set_self hiσ]at e2;cases e2;exact⟨u,r,.inl ⟨hk,by simp⟩⟩
   ·rw[List.getElem?_set_ne (yo hj)]at e2
    obtain⟨u',r',q⟩:=hl j y v' e1 e2 e3;refine⟨u',r',?_⟩;rcases q with ⟨k,e⟩ | ⟨k,c,e,z⟩
    ·refine .inl ⟨k,?_⟩
     have:y≠x:=fun e=>hj (lX hN e1 (e▸hi));simp[this,e]
    ·exact .inr ⟨k,c,e,z.sameBut hs (cne y c e)⟩
  ·obtain⟨w',z⟩:=I.cell y c e
   exact⟨w',z.sameBut hs (cne y c e)⟩
  ·obtain⟨e,n,ne,nf,d⟩:=I.pin p hp
   exact⟨(hs.2 p.1 ne).trans e,n,ne,nf,d⟩
 ·have hfn:X.fn x=true:=by
   rcases hf with z | z
   ·exact z
   ·rw[z]at hk;cases hk
  obtain⟨c,hc⟩:=I.ok.has x (.inl hk);obtain⟨w',z⟩:=I.cell x c hc;refine wpAny_storeName_cell I.ok.kind hk hc z (fun h' hc' hs=>?_);obtain⟨oc,hoc,hocd⟩:=id z;refine h { s with heap:=h' } ⟨I.ok,I.os,I.bare,⟨fun b o e n hb hx=>?_,fun b o e n hb hx=>?_,I.base.free,fun b o e hx=>?_,I.base.tups,I.base.frzs,I.base.tbls⟩,⟨m,hn.sameBut hs (yo (cne x c hc)),fun j y v' e1 e2 e3=>?_⟩,fun y c' e=>?_,I.free,I.freeC,fun p hp=>?_,tracked ⟨oc,hoc,I.freeC x c hc⟩ hs,by simpa using I.len⟩ ⟨c,hs,.inr hc⟩
  ·exact (hs.2 b (x5 (yc (xQ e) (I.ok.cab x c hfn hc)))).trans (I.base.keep b o e n hb hx)
  ·obtain⟨sl,e1⟩:=I.base.slot b o e n hb hx
   exact⟨sl,(hs.2 b (x5 (yc (xQ e) (I.ok.cab x c hfn hc)))).trans e1⟩
  ·obtain⟨o',e1⟩:=I.base.there b o e hx
   exact⟨o',(hs.2 b (x5 (yc (xQ e) (I.ok.cab x c hfn hc)))).trans e1⟩
  ·by_cases hj:j=i
   ·subst hj
    rw[hi]at e1;cases e1;rw[List.getElem?_set_self hiσ]at e2;cases e2;exact⟨u,r,.inr ⟨.inl hk,c,hc,hc'⟩⟩
   ·rw[List.getElem?_set_ne (yo hj)]at e2
    obtain⟨u',r',q⟩:=hl j y v' e1 e2 e3;refine⟨u',r',?_⟩;rcases q with q | ⟨k,c',e,z'⟩
    ·exact .inl q
    ·refine .inr ⟨k,c',e,z'.sameBut hs ?_⟩
     rintro rfl;exact hj (lX hN e1 (I.ok.inj _ _ _ e hc▸hi))
  ·by_cases hcc:c'=c
   ·subst hcc;exact⟨_,hc'⟩
   ·obtain⟨w2,z2⟩:=I.cell y c' e
    exact⟨w2,z2.sameBut hs hcc⟩
  ·obtain⟨e,n,ne,nf,d⟩:=I.pin p hp
   refine⟨(hs.2 p.1 ?_).trans e,n,ne,nf,d⟩;intro q;rw[q,hoc]at e;have q':oc=p.2:=ye e;exact d w' (by rw[<-q'];exact hocd)
theorem mr {M:Model}{A:Around}{E:Value->Shared->Prop}{i:Nat}{x:Str}{v:V}{u:Value}{Q:Unit->Shared->Prop}(I:am X pins σ H s)(hN:X.N.Nodup)(hi:X.N[i]? = some x)(hx:tK X.env.scope x)(r:aD v u)
  (h:∀ s',am X pins (σ.set i (some v)) H s'->Q () s') (hf:X.fn x=true\/X.env.scope.names.lookup x=some .local:=by first | exact .inl rfl | exact .inr rfl | assumption):wpAny M A (storeName X.env x u) Q E s :=
 pO I hN hi hx r (fun s' I' _=>h s' I') hf
theorem am.call' {s':Shared}{ch:List Addr}(I:am X pins σ H s)(ho:s'.os=s.os)(u:Un (fB X.stack) ch H H' s.heap s'.heap)(hok:eQ X.prog X.w H' s'.heap)(hg:AllBare s'.gens)
  (hch:∀ b∈ch,(b∈X.ex\/X.s₀.heap.objs.size<=b)/\b≠X.env.locals/\(∀ x c,X.env.cells.lookup x=some c->c≠b)/\∀ p∈X.pn++pins,p.1≠b):am X pins σ H' s':=by
 obtain⟨h',g',d',t',o'⟩:=s';have e:o'=s.os:=ho;subst e;exact I.call (g':=g') (t':=t') (d':=d') u hok hg hch
end
abbrev XK:=Value->Option Addr->Hp->Prop
abbrev St:=List (Option V)
abbrev VK:=V->Hp->Prop
abbrev TE:=St->Hp->VK->Prop
abbrev TT:=St->Hp->(Bool->Hp->Prop)->Prop
abbrev TA:=St->Hp->(List V->Hp->Prop)->Prop
structure fL where
 nx:St->Hp->Prop
 rt:VK
 bk:St->Hp->Prop:=fun _ _=>False
 ct:St->Hp->Prop:=fun _ _=>False
abbrev TS:=fL->St->Hp->Prop
def EP (X:Cx)(pins:List (Addr×Obj))(σ:St)(Q:VK)(u:Value)(s':Shared):Prop:=∃ v H',am X pins σ H' s'/\aD v u/\Q v H'
def TP (X:Cx)(pins:List (Addr×Obj))(σ:St)(Q:Bool->Hp->Prop)(b:Bool)(s':Shared):Prop:=∃ H',am X pins σ H' s'/\Q b H'
def AP (X:Cx)(pins:List (Addr×Obj))(σ:St)(Q:List V->Hp->Prop)(us:List Value)(s':Shared):Prop:=∃ vs H',am X pins σ H' s'/\Vals vs us/\Q vs H'
def SP (X:Cx)(pins:List (Addr×Obj))(D:fL)(f:Flow)(s':Shared):Prop :=
 match f with
 | .next=>∃ σ' H',am X pins σ' H' s'/\D.nx σ' H'
 | .brk=>∃ σ' H',am X pins σ' H' s'/\D.bk σ' H'
 | .cont=>∃ σ' H',am X pins σ' H' s'/\D.ct σ' H'
 | .ret u=>∃ v σ' H',am X pins σ' H' s'/\aD v u/\D.rt v H'
def PE (X:Cx)(e:Expr)(t:TE):Prop :=
 ∀ (pins:List (Addr×Obj))(s:Shared)(σ:St)(H:Hp)(Q:VK),am X pins σ H s->t σ H Q->wpAny (model X.prog X.w) X.A (eval e X.env) (EP X pins σ Q) X.xe s
def PT (X:Cx)(e:Expr)(t:TT):Prop :=
 ∀ (pins:List (Addr×Obj))(s:Shared)(σ:St)(H:Hp)(Q:Bool->Hp->Prop),am X pins σ H s->t σ H Q->wpAny (model X.prog X.w) X.A (isTrue e X.env (eval e X.env)) (TP X pins σ Q) X.xe s
def PW (X:Cx)(e:Expr)(t:TT):Prop :=
 ∀ (whole:Sem Value)(pins:List (Addr×Obj))(s:Shared)(σ:St)(H:Hp)(Q:Bool->Hp->Prop),am X pins σ H s->t σ H Q->wpAny (model X.prog X.w) X.A (isTrue e X.env whole) (TP X pins σ Q) X.xe s
theorem PW.pt {X:Cx}{e:Expr}{t:TT}(h:PW X e t):PT X e t:=h _
def PA (X:Cx)(es:List Expr)(t:TA):Prop :=
 ∀ (pos:Pos)(pins:List (Addr×Obj))(s:Shared)(σ:St)(H:Hp)(Q:List V->Hp->Prop),am X pins σ H s->t σ H Q->wpAny (model X.prog X.w) X.A (spliced (backTo pos (starEach es X.env))) (AP X pins σ Q) X.xe s
def PS (X:Cx)(st:Stmt)(t:TS):Prop :=
 ∀ (pins:List (Addr×Obj))(s:Shared)(σ:St)(H:Hp)(D:fL),am X pins σ H s->t D σ H->wpAny (model X.prog X.w) X.A (exec st X.env) (SP X pins D) X.xe s
def mH (X:Cx)(st:List Stmt)(t:TS):Prop :=
 ∀ (pins:List (Addr×Obj))(s:Shared)(σ:St)(H:Hp)(D:fL),am X pins σ H s->t D σ H->wpAny (model X.prog X.w) X.A (execs st X.env) (SP X pins D) X.xe s
theorem aU {α:Type}{t:Sem α}{Q Q':α->Shared->Prop}{M:Model}{A:Around}{E:Value->Shared->Prop}{s:Shared}(h:wpAny M A t Q E s)(hQ:∀ a s,Q a s->Q' a s):wpAny M A t Q' E s:=yh h hQ fun _ _ x=>x
section
variable {X:Cx}
inductive TV (i:Nat) (σ:St) (H:Hp) (Q:VK):Prop
 | mk (v:V) (e:σ[i]? = some (some v)) (h:Q v H):TV i σ H Q
def sy (i:Nat):TE:=fun σ H Q=>TV i σ H Q
def tC (v:V):TE:=fun _ H Q=>Q v H
theorem uz {i:Nat}{x:Str}{pos:Pos}(hN:X.N[i]? = some x)(hv:wo X.env.scope x)(hd:(x == ("__debug__" : Str))=false:=by decide)(hcd:(x == ("__classdict__" : Str))=false:=by decide):PE X (.Name x pos) (sy i):=by
 intro pins s σ H Q I h;obtain⟨v,e,h⟩:=h;obtain⟨m,hn,hl⟩:=I.loc;obtain⟨u,r,l⟩:=hl i x v hN e hv;have fin:EP X pins σ Q u s:=⟨v,H,I,r,h⟩;rcases l with ⟨hk,hm⟩ | ⟨hk,c,hc,hcell⟩
 ·exact wpAny_Name (wpAny_loadName_local I.ok.kind hk hn hm fin) hd
 ·rcases hk with hk | hk
  ·exact wpAny_Name (wpAny_loadName_cell I.ok.kind hk hc hcell fin) hd
  ·exact wpAny_Name (wpAny_loadName_free I.ok.kind hk hc hcell fin hcd) hd
theorem ac {i j pos}:PE X (.Constant (.int i) j pos) (tC (.int i)):=fun _ _ _ H _ I h=>wpAny_Constant_int ⟨.int i,H,I.tok _,⟨_,rfl⟩,h⟩
theorem me {b j pos}:PE X (.Constant (.bool b) j pos) (tC (.bl b)):=fun _ _ _ H _ I h=>Constant_bool ⟨.bl b,H,I,rfl,h⟩
theorem uy {j pos}:PE X (.Constant .none j pos) (tC .non):=fun _ _ _ H _ I h=>Constant_none ⟨.non,H,I,rfl,h⟩
theorem ap {x j pos}:PE X (.Constant (.str x) j pos) (tC (.str x)):=fun _ _ _ H _ I h=>Calls.Constant_str ⟨.str x,H,I.tok _,⟨_,rfl⟩,h⟩
def Gl (X:Cx)(x:Str):Prop:=X.env.kindOf x=some .globalImplicit
theorem gF {E:Value->Shared->Prop}{pins:List (Addr×Obj)}{s:Shared}{σ:St}{H:Hp}{x:Str}{u:Value}{pos:Pos}{Q:Value->Shared->Prop}(I:am X pins σ H s)(hg:Gl X x)(hm:X.mg x=some u)(h:Q u s)
  (hd:(x == ("__debug__" : Str))=false:=by decide):wpAny (model X.prog X.w) X.A (eval (.Name x pos) X.env) Q E s :=
 Calls.Name_function_global I.ok.kind hg (Calls.loadGlobal_global (by rw[I.ok.glob];exact I.mod.glob.keeps I.bk) hm h) hd
theorem dr {E:Value->Shared->Prop}{pins:List (Addr×Obj)}{s:Shared}{σ:St}{H:Hp}{x:Str}{u:Value}{pos:Pos}{Q:Value->Shared->Prop}(I:am X pins σ H s)(hg:Gl X x)(hm:X.mg x=none)(hv:bootBuiltins x=some u)(h:Q u s)
  (hn:x≠"__name__":=by decide) (hd:(x == ("__debug__" : Str))=false:=by decide):wpAny (model X.prog X.w) X.A (eval (.Name x pos) X.env) Q E s:=by
 obtain⟨mb,h1,h2⟩:=I.mod.blt;exact Calls.Name_function_global I.ok.kind hg (Calls.loadGlobal_builtin (by rw[I.ok.glob];exact I.mod.glob.keeps I.bk) hm (by rw[I.ok.blt];exact h1.keeps I.bk) ((h2 x hn).trans hv) h) hd
theorem oC {x:Str}{v:V}{u:Value}{pos:Pos}(hg:Gl X x)(hm:X.mg x=some u)(r:aD v u)(hd:(x == ("__debug__" : Str))=false:=by decide):PE X (.Name x pos) (tC v) :=
 fun _ _ _ H _ I h=>gF I hg hm ⟨v,H,I,r,h⟩ hd
theorem sd {x:Str}{v:V}{u:Value}{pos:Pos}(hg:Gl X x)(hm:X.mg x=none)(hv:bootBuiltins x=some u)(r:aD v u)(hn:x≠"__name__":=by decide)(hd:(x == ("__debug__" : Str))=false:=by decide):PE X (.Name x pos) (tC v) :=
 fun _ _ _ H _ I h=>dr I hg hm hv ⟨v,H,I,r,h⟩ hn hd
variable {a b:Expr}{ta tb:TE}{pos:Pos}
def PC (X:Cx)(op:CmpOp)(a b:Expr)(t:TE):Prop :=
 ∀ (pins:List (Addr×Obj))(s:Shared)(σ:St)(H:Hp)(Q:VK),am X pins σ H s->t σ H Q ->
  wpAny (model X.prog X.w) X.A (eval a X.env) (fun v s₁=>wpAny (model X.prog X.w) X.A (eval b X.env) (fun u s₂=>wpAny (model X.prog X.w) X.A (compareOp op v u) (EP X pins σ Q) X.xe s₂) X.xe s₁) X.xe s
inductive wj (Q:Bool->Hp->Prop) (x:V) (H:Hp):Prop
 | mk (c:Bool) (e:x=.bl c) (h:Q c H):wj Q x H
def tB (t:TE):TT:=fun σ H Q=>t σ H fun x H1=>wj Q x H1
theorem uw {op:CmpOp}{t:TE}(h:PC X op a b t)(h1:behindInMarks op b=false:=by first | exact nobehind _ (by decide) (by decide) | rfl):PE X (.Compare a [op] [b] pos) t:=fun pins s σ H Q I hw=>wpAny_Compare1 (h pins s σ H Q I hw) h1
theorem nD {op:CmpOp}{t:TE}(h:PC X op a b t)(h1:behindInMarks op b=false:=by first | exact nobehind _ (by decide) (by decide) | rfl):PT X (.Compare a [op] [b] pos) (tB t):=by
 intro pins s σ H Q I hw;refine wpAny_isTrue_Compare1 (aU (h pins s σ H _ I hw) fun v s1 h1=>aU h1 fun u s2 h2=>aU h2 fun c s3 ⟨x,H1,I1,r1,q1⟩=>?_) h1;obtain⟨d,rfl,q⟩:=q1;cases r1;exact yF ⟨H1,I1,q⟩
theorem jT {e:Expr}{t:TE}(h:PE X e t)(he:∀ whole,isTrue e X.env whole=(do let v <-whole;standAt e.pos;holding [v] (truthy v)):=by intro _;rfl):PT X e (tB t):=by
 intro pins s σ H Q I hw;refine isTrue_plain (aU (h pins s σ H _ I hw) fun v s1 ⟨x,H1,I1,r1,q1⟩=>?_) (he _);obtain⟨d,rfl,q⟩:=q1;cases r1;exact yF ⟨H1,I1,q⟩
variable {tA tB':TT}{rest:List Expr}
def wI (t u:TT):TT:=fun σ H Q=>t σ H fun c H1=>if c=true then u σ H1 Q else Q false H1
def xF (t u:TT):TT:=fun σ H Q=>t σ H fun c H1=>if c=true then Q true H1 else u σ H1 Q
def wQ (t:TT):TT:=fun σ H Q=>t σ H fun c H1=>Q (!c) H1
theorem oG (ha:PT X a tA):PW X (.BoolOp .And [a] pos) tA:=by
 intro wh pins s σ H Q I h;refine isTrue_and (aU (ha pins s σ H Q I h) fun c s1 e=>?_)
 cases c with
 | true=>exact isTrue_and_nil e
 | false=>exact e
theorem qQ (ha:PT X a tA):PW X (.BoolOp .Or [a] pos) tA:=by
 intro wh pins s σ H Q I h;refine isTrue_or (aU (ha pins s σ H Q I h) fun c s1 e=>?_)
 cases c with
 | false=>exact isTrue_or_nil e
 | true=>exact e
theorem nE (ha:PT X a tA)(hb:PW X (.BoolOp .And (b::rest) pos) tB'):PW X (.BoolOp .And (a::b::rest) pos) (wI tA tB'):=by
 intro wh pins s σ H Q I h;refine isTrue_and (aU (ha pins s σ H _ I h) fun c s1 ⟨H1,I1,q1⟩=>?_)
 cases c with
 | true=>exact hb wh pins s1 σ H1 Q I1 q1
 | false=>exact⟨H1,I1,q1⟩
theorem sQ (ha:PT X a tA)(hb:PW X (.BoolOp .Or (b::rest) pos) tB'):PW X (.BoolOp .Or (a::b::rest) pos) (xF tA tB'):=by
 intro wh pins s σ H Q I h;refine isTrue_or (aU (ha pins s σ H _ I h) fun c s1 ⟨H1,I1,q1⟩=>?_)
 cases c with
 | true=>exact⟨H1,I1,q1⟩
 | false=>exact hb wh pins s1 σ H1 Q I1 q1
theorem ir (ha:PT X a tA):PT X (.UnaryOp .Not a pos) (wQ tA):=by
 intro pins s σ H Q I h;exact isTrue_not (ha pins s σ H (fun c H1=>Q (!c) H1) I h)
def vF (ta tb:TE):TE:=fun σ H Q=>ta σ H fun x H1=>∃ c,x=.bl c/\if c=true then tb σ H1 Q else Q (.bl false) H1
def wR (ta tb:TE):TE:=fun σ H Q=>ta σ H fun x H1=>∃ c,x=.bl c/\if c=true then Q (.bl true) H1 else tb σ H1 Q
theorem nz {op}{t:TE}(h:PE X a t):PE X (.BoolOp op [a] pos) t:=fun pins s σ H Q I hw=>BoolOp_one (h pins s σ H Q I hw)
theorem qB (ha:PE X a ta)(hb:PE X (.BoolOp .And (b::rest) pos) tb):PE X (.BoolOp .And (a::b::rest) pos) (vF ta tb):=by
 intro pins s σ H Q I h;refine BoolOp_and (aU (ha pins s σ H _ I h) fun v s1 ⟨x,H1,I1,r1,q1⟩=>?_);obtain⟨c,rfl,q1⟩:=q1;cases r1;refine yF ?_
 cases c with
 | true=>exact hb pins s1 σ H1 Q I1 q1
 | false=>exact⟨.bl false,H1,I1,rfl,q1⟩
theorem vv (ha:PE X a ta)(hb:PE X (.BoolOp .Or (b::rest) pos) tb):PE X (.BoolOp .Or (a::b::rest) pos) (wR ta tb):=by
 intro pins s σ H Q I h;refine BoolOp_or (aU (ha pins s σ H _ I h) fun v s1 ⟨x,H1,I1,r1,q1⟩=>?_);obtain⟨c,rfl,q1⟩:=q1;cases r1;refine yF ?_
 cases c with
 | false=>exact hb pins s1 σ H1 Q I1 q1
 | true=>exact⟨.bl true,H1,I1,rfl,q1⟩
end
def aT (K:PySem.W.Frag)(H:Hp)(a:Addr)(xs:List V):Prop :=
 Rd H a (.lst xs) \/
  ∃ (o:Obj)(its:Array Value)(n:Nat),K.lookup a=some o/\o.cls=.type "list"/\o.dict=none/\o.data=.seq its n/\its.size<=sizeLine/\Vals xs its.toList
def aI (K:PySem.W.Frag)(H:Hp)(a:Addr)(xs:List V):Prop :=
 Rd H a (.tup xs) \/
  ∃ (o:Obj)(its:Array Value)(n:Nat),K.lookup a=some o/\o.cls=.type "tuple"/\o.data=.seq its n/\its.size<=sizeLine/\Vals xs its.toList
def wq:Value->Option V
 | .none=>some .non
 | .bool b=>some (.bl b)
 | .int i _=>some (.int i)
 | .str x _=>some (.str x)
 | .bytes b _=>some (.byt b)
 | .float b _=>some (.flt b)
 | .ref a=>some (.ref a)
 | .type n=>some (.ty n)
 | _=>none
theorem aD.abs {x:V}{u:Value}(r:aD x u):wq u=some x:=by
 cases x with
 | non=>cases r;rfl
 | bl _=>cases r;rfl
 | int _=>obtain⟨t,rfl⟩:=r;rfl
 | str _=>obtain⟨t,rfl⟩:=r;rfl
 | byt _=>obtain⟨t,rfl⟩:=r;rfl
 | flt _=>obtain⟨t,rfl⟩:=r;rfl
 | ref _=>cases r;rfl
 | ty _=>cases r;rfl
theorem aD.inj {x y:V}{u:Value}(r:aD x u)(q:aD y u):x=y:=ye (r.abs.symm.trans q.abs)
theorem Vals.inj:∀ {xs ys:List V}{us:List Value},Vals xs us->Vals ys us->xs=ys
 | _,_,_,.nil,.nil=>rfl
 | _,_,_,.cons r t,.cons r' t'=>by rw[r.inj r',Vals.inj t t']
section
variable {X:Cx}{pins:List (Addr×Obj)}{σ:St}{H:Hp}{s:Shared}{a:Addr}{xs ys:List V}
theorem aT.of {K:PySem.W.Frag}(h:H a=some (.lst xs)):aT K H a xs:=.inl (.inl h)
theorem aI.of {K:PySem.W.Frag}(h:H a=some (.tup xs)):aI K H a xs:=.inl (.inl h)
theorem am.list (I:am X pins σ H s)(h:aT X.K H a xs):∃ its:List Value,Vals xs its/\PlainL s.heap a its.toArray/\xs.length<=sizeLine:=by
 rcases h with h | ⟨o,its,n,hk,hc,hd,hs,hz,r⟩
 ·obtain⟨z,its,n,r,e⟩:=h.ok I.hok
  exact⟨its,r,⟨_,n,e,rfl,rfl,rfl⟩,z⟩
 ·refine⟨its.toList,r,⟨o,n,I.kIn a o hk,hc,hd,by simpa using hs⟩,?_⟩
  have e:=r.length;simp only[yX]at e;omega
theorem am.tuple (I:am X pins σ H s)(h:aI X.K H a xs):∃ its:List Value,Vals xs its/\IsTup s.heap a its.toArray/\xs.length<=sizeLine:=by
 rcases h with h | ⟨o,its,n,hk,hc,hs,hz,r⟩
 ·obtain⟨z,its,r,p⟩:=h.ok I.hok
  exact⟨its,r,p.old,z⟩
 ·refine⟨its.toList,r,⟨o,I.kIn a o hk,hc,n,by simpa using hs⟩,?_⟩
  have e:=r.length;simp only[yX]at e;omega
theorem am.list_inj (I:am X pins σ H s)(h:aT X.K H a xs)(h':aT X.K H a ys):xs=ys:=by
 obtain⟨its,r,⟨o,n,e,_,_,d⟩,_⟩:=I.list h;obtain⟨its',r',⟨o',n',e',_,_,d'⟩,_⟩:=I.list h';rw[e]at e';cases e';rw[d]at d';injection d' with d1 _
 have:its=its':=by simpa using y1 Array.toList d1
 subst this;exact r.inj r'
theorem am.tuple_inj (I:am X pins σ H s)(h:aI X.K H a xs)(h':aI X.K H a ys):xs=ys:=by
 obtain⟨its,r,⟨o,e,_,n,d⟩,_⟩:=I.tuple h;obtain⟨its',r',⟨o',e',_,n',d'⟩,_⟩:=I.tuple h';rw[e]at e';cases e';rw[d]at d';injection d' with d1 _
 have:its=its':=by simpa using y1 Array.toList d1
 subst this;exact r.inj r'
end
abbrev Cx.wish (X:Cx)(E:Value->Shared->Prop):Cx:={ X with xe:=E }
abbrev Cx.nox (X:Cx):Cx:=X.wish fun _ _=>False
theorem Cx.Ok.wish {X:Cx}(ok:X.Ok)(E:Value->Shared->Prop):(X.wish E).Ok :=
 ⟨ok.mod,ok.kind,ok.glob,ok.blt,ok.above,ok.inj,ok.has,ok.cab,ok.hd,ok.frames,ok.stk,ok.exf,ok.bs,ok.bsz,ok.noex,ok.exfs,ok.funs,ok.frf⟩
theorem Cx.Ok.unwish {X:Cx}{E:Value->Shared->Prop}(ok:(X.wish E).Ok):X.Ok :=
 ⟨ok.mod,ok.kind,ok.glob,ok.blt,ok.above,ok.inj,ok.has,ok.cab,ok.hd,ok.frames,ok.stk,ok.exf,ok.bs,ok.bsz,ok.noex,ok.exfs,ok.funs,ok.frf⟩
section
variable {X:Cx}{pins:List (Addr×Obj)}{σ:St}{H:Hp}{s:Shared}{E:Value->Shared->Prop}
theorem am.wish (I:am X pins σ H s)(E:Value->Shared->Prop):am (X.wish E) pins σ H s:=⟨I.ok.wish E,I.os,I.bare,I.base,I.loc,I.cell,I.free,I.freeC,I.pin,I.hok,I.len⟩
theorem am.unwish (I:am (X.wish E) pins σ H s):am X pins σ H s:=⟨I.ok.unwish,I.os,I.bare,I.base,I.loc,I.cell,I.free,I.freeC,I.pin,I.hok,I.len⟩
theorem SP.unwish {D:fL}{f:Flow}{s':Shared}(h:SP (X.wish E) pins D f s'):SP X pins D f s':=by
 cases f with
 | next=>obtain⟨σ',H',I,q⟩:=h;exact⟨σ',H',I.unwish,q⟩
 | brk=>obtain⟨σ',H',I,q⟩:=h;exact⟨σ',H',I.unwish,q⟩
 | cont=>obtain⟨σ',H',I,q⟩:=h;exact⟨σ',H',I.unwish,q⟩
 | ret u=>obtain⟨v,σ',H',I,r,q⟩:=h;exact⟨v,σ',H',I.unwish,r,q⟩
theorem mH.nox {st:List Stmt}{t:TS}(h:mH X.nox st t):mH X st t:=fun pins s σ H D I hw =>
 yh (h pins s σ H D (I.wish _) hw) (fun _ _ q=>q.unwish) fun _ _ z=>False.elim z
end
section
variable {X:Cx}{st:Stmt}{rest:List Stmt}{t u:TS}{e:Expr}{te:TE}{pos:Pos}
def vK:TS:=fun D σ H=>D.nx σ H
def vO (t u:TS):TS:=fun D σ H=>t { D with nx:=u D } σ H
theorem ao:mH X [] vK:=fun _ _ σ H _ I h=>wpAny_execs_nil ⟨σ,H,I,h⟩
theorem ae (h1:PS X st t)(h2:mH X rest u):mH X (st::rest) (vO t u):=by
 intro pins s σ H D I h;refine wpAny_execs_cons (aU (h1 pins s σ H { D with nx:=u D } I h) fun f s1 q=>?_)
 cases f with
 | next =>
  obtain⟨σ',H',I',q⟩:=q;exact h2 pins s1 σ' H' D I' q
 | ret v=>exact q
 | brk=>exact q
 | cont=>exact q
theorem ag (h1:PS X st t):mH X [st] t:=by
 intro pins s σ H D I h;refine wpAny_execs_cons (aU (h1 pins s σ H D I h) fun f s1 q=>?_)
 cases f with
 | next=>exact wpAny_execs_nil q
 | ret v=>exact q
 | brk=>exact q
 | cont=>exact q
theorem am.quiet {pins:List (Addr×Obj)}{σ:St}{H:Hp}{s:Shared}(I:am X pins σ H s):interactive X.env=false:=by simp[interactive,I.ok.kind]
def vI (te:TE):TS:=fun D σ H=>te σ H fun _ H1=>D.nx σ H1
theorem bD (he:PE X e te)(hs:swapsWith e none pos.line X.env=pure false:=by rfl):PS X (.Expr e pos) (vI te):=by
 intro pins s σ H D I h;exact wpAny_Expr_any (aU (he pins s σ H _ I h) fun v s1 ⟨x,H1,I1,r1,q1⟩=>⟨σ,H1,I1,q1⟩) I.quiet hs
def vM (te:TE):TS:=fun D σ H=>te σ H D.rt
theorem aq (he:PE X e te):PS X (.Return (some e) pos) (vM te):=by
 intro pins s σ H D I h;exact wpAny_Return_some (aU (he pins s σ H _ I h) fun v s1 ⟨x,H1,I1,r1,q1⟩=>⟨x,σ,H1,I1,r1,q1⟩)
def vN:TS:=fun D _ H=>D.rt .non H
theorem oE:PS X (.Return none pos) vN:=fun _ _ σ H _ I h=>wpAny_Return_none ⟨.non,σ,H,I,rfl,h⟩
def wP (c:TT)(t u:TS):TS:=fun D σ H=>c σ H fun b H1=>if b=true then t D σ H1 else u D σ H1
theorem aG {c:Expr}{a b:List Stmt}{tc:TT}(hc:PT X c tc)(ha:mH X a t)(hb:mH X b u):PS X (.If c a b pos) (wP tc t u):=by
 intro pins s σ H D I h;refine wpAny_If (aU (hc pins s σ H _ I h) fun d s1 ⟨H1,I1,q1⟩=>?_)
 cases d with
 | true=>exact ha pins s1 σ H1 D I1 q1
 | false=>exact hb pins s1 σ H1 D I1 q1
end
abbrev TG:=V->St->Hp->(St->Hp->Prop)->Prop
abbrev rq:=List V->St->Hp->(St->Hp->Prop)->Prop
def PG (X:Cx)(target:Expr)(t:TG):Prop :=
 ∀ (pins:List (Addr×Obj))(s:Shared)(σ:St)(H:Hp)(v:V)(u:Value)(Q:St->Hp->Prop),am X pins σ H s->aD v u->t v σ H Q ->
  wpAny (model X.prog X.w) X.A (assign target X.env u) (fun _ s'=>∃ σ' H',am X pins σ' H' s'/\Q σ' H') X.xe s
def u6 (X:Cx)(ts:List Expr)(t:rq):Prop :=
 ∀ (pins:List (Addr×Obj))(s:Shared)(σ:St)(H:Hp)(vs:List V)(us:List Value)(Q:St->Hp->Prop),am X pins σ H s->Vals vs us->t vs σ H Q ->
  wpAny (model X.prog X.w) X.A (assignInOrder ((assignEach ts X.env).map (·.2)) us) (fun _ s'=>∃ σ' H',am X pins σ' H' s'/\Q σ' H') X.xe s
section
variable {X:Cx}{pos:Pos}
def iL (i:Nat):TG:=fun v σ H Q=>Q (σ.set i (some v)) H
theorem lg {i:Nat}{x:Str}(hN:X.N.Nodup)(hi:X.N[i]? = some x)(hx:tK X.env.scope x)(hf:X.fn x=true\/X.env.scope.names.lookup x=some .local:=by first | exact .inl rfl | exact .inr rfl | assumption):PG X (.Name x pos) (iL i):=by
 intro pins s σ H v u Q I r h;exact wpAny_assign_Name (mr I hN hi hx r (fun s' I'=>⟨_,H,I',h⟩) hf)
def wy:rq:=fun vs σ H Q=>vs=[]/\Q σ H
inductive GC (t:TG) (u:rq) (vs:List V) (σ:St) (H:Hp) (Q:St->Hp->Prop):Prop
 | mk (v:V) (r:List V) (e:vs=v::r) (h:t v σ H fun σ' H'=>u r σ' H' Q):GC t u vs σ H Q
def vc (t:TG)(u:rq):rq:=fun vs σ H Q=>GC t u vs σ H Q
theorem si:u6 X [] wy:=by
 intro pins s σ H vs us Q I r h;obtain⟨e,h⟩:=h;subst e;cases r;exact assignInOrder_nil ⟨σ,H,I,h⟩
theorem mh {e:Expr}{es:List Expr}{t:TG}{u:rq}(h1:PG X e t)(h2:u6 X es u)
  (hs:(assignEach (e::es) X.env).map (·.2)=assign e X.env::(assignEach es X.env).map (·.2):=by rfl):u6 X (e::es) (vc t u):=by
 intro pins s σ H vs us Q I r h;obtain⟨v,vr,e1,h⟩:=h;subst e1
 cases r with
 | cons r rr =>
  rw[hs];refine assignInOrder_cons (aU (h1 pins s σ H _ _ _ I r h) fun _ s1 ⟨σ1,H1,I1,q1⟩=>?_);exact h2 pins s1 σ1 H1 _ _ Q I1 rr q1
inductive GT (K:PySem.W.Frag) (n:Nat) (t:rq) (v:V) (σ:St) (H:Hp) (Q:St->Hp->Prop):Prop
 | mk (a:Addr) (xs:List V) (e:v=.ref a) (q:aI K H a xs) (l:xs.length=n) (h:t xs σ H Q):GT K n t v σ H Q
def vd (K:PySem.W.Frag)(n:Nat)(t:rq):TG:=fun v σ H Q=>GT K n t v σ H Q
theorem uA {es:List Expr}{k:Nat}{t:rq}{n:Nat}(hc:X.calm=true)(h:u6 X es t)
  (hn:(assignEach es X.env).length=n:=by rfl) (hst:(assignEach es X.env).findIdx? (·.1)=none:=by rfl):PG X (.Tuple es k pos) (vd X.K n t):=by
 intro pins s σ H v u Q I r hw;obtain⟨a,xs,e1,hq,hl,hw⟩:=hw;subst e1;cases r;obtain⟨its,rv,ht,hz⟩:=I.tuple hq;refine assign_Tuple_tuple (I.ok.hd hc) ht (by simp[hn,<-hl,rv.length]) hst fun h' hx=>?_;have I1:am X pins σ H { s with heap:=h' }:=I.kept (t':=s.toks) fun b o e=>hx b o (x5 (xQ e)) e;exact h pins _ σ H xs _ Q I1 (by simpa using rv) hw
def uF (te:TE)(g:TG):TS:=fun D σ H=>te σ H fun x H1=>g x σ H1 D.nx
theorem cY {i:Nat}{x:Str}{e:Expr}{te:TE}{pos':Pos}(hN:X.N.Nodup)(hi:X.N[i]? = some x)(hx:tK X.env.scope x)(he:PE X e te)(hs:swapsWith e (some (.Name x pos')) pos.line X.env=pure false:=by rfl)(hf:X.fn x=true\/X.env.scope.names.lookup x=some .local:=by first | exact .inl rfl | exact .inr rfl | assumption) :
  PS X (.Assign [.Name x pos'] e pos) (uF te (iL i)):=by
 intro pins s σ H D I h;refine wpAny_Assign_Name (aU (he pins s σ H _ I h) fun v s1 ⟨y,H1,I1,r1,q1⟩=>?_) hs;exact mr I1 hN hi hx r1 (fun s2 I2=>⟨_,H1,I2,q1⟩) hf
end
structure It where
 go:Nat->Hp->Prop
 yld:Nat->Hp->V->Hp->Prop
 stop:Nat->Hp->Prop
def eX (X:Cx)(pins:List (Addr×Obj))(H:Hp)(b:Addr):Prop :=
 H b=none/\b≠X.env.locals/\b∉X.fs/\(b∈X.ex\/X.s₀.heap.objs.size<=b)/\(∀ x c,X.env.cells.lookup x=some c->c≠b)/\∀ p∈X.pn++pins,p.1≠b
theorem am.fpOk {X:Cx}{pins:List (Addr×Obj)}{σ:St}{H H':Hp}{s:Shared}{b:Addr}(I:am X pins σ H s)(hb:s.heap.objs.size<=b)(hn:H' b=none):eX X pins H' b:=by
 refine⟨hn,yi (yc I.lt hb),I.nofs hb,.inr (yA I.sz hb),fun x c e z=>?_,fun p hp z=>?_⟩
 ·obtain⟨v,q⟩:=I.cell x c e
  exact absurd (yc q.lt (by rw[z];exact hb)) (zd _)
 ·exact absurd (yc (xQ (I.pin p hp).1) (by rw[z];exact hb)) (zd _)
structure lG (P:Program)(w:World)(K:PySem.W.Frag)(tg:Expr)(J:It)(fp:List Addr)(it:Addr)(tn:Nat->Heap->Prop):Prop where
 mem:it∈fp
 obj:∀ i h,tn i h->∀ b∈fp,∃ o,h.get? b=some o/\∀ v,o.data≠.cell v
 keep:∀ i h h',tn i h->(∀ b∈fp,∀ o,h.get? b=some o->h'.get? b=some o)->tn i h'
 item:∀ (X:Cx),X.prog=P->X.w=w->X.K=K->X.calm=true->∀ (i:Nat)(pins:List (Addr×Obj))(s:Shared)(σ:St)(H:Hp)(E:Value->Shared->Prop),am X pins σ H s->(∀ b∈fp,eX X pins H b)->tn i s.heap->J.go i H ->
  wpAny (model P w) X.A (pyNext (.ref it)) (fun r s1=>∃ u,r=some u /\
   wpAny (model P w) X.A (letOwnedTupleGo tg (.ref it) u) (fun _ s2=>∃ x H',am X pins σ H' s2/\aD x u/\J.yld i H x H'/\tn (i+1) s2.heap/\∀ b∈fp,H' b=none) E s1) E s
 done:∀ (X:Cx),X.prog=P->X.w=w->X.K=K->X.calm=true->∀ (i:Nat)(pins:List (Addr×Obj))(s:Shared)(σ:St)(H:Hp)(E:Value->Shared->Prop),am X pins σ H s->(∀ b∈fp,eX X pins H b)->tn i s.heap->J.stop i H ->
  wpAny (model P w) X.A (pyNext (.ref it)) (fun r s1=>r=none/\am X pins σ H s1) E s
 self:∀ (A:Around)(i:Nat)(s:Shared)(Q:Value->Shared->Prop)(E:Value->Shared->Prop),tn i s.heap->Q (.ref it) s->wpAny (model P w) A (pyIter (.ref it)) Q E s
abbrev TI:=St->Hp->(It->Hp->Prop)->Prop
def wf (X:Cx)(pins:List (Addr×Obj))(σ:St)(tg:Expr)(R:It->Hp->Prop)(itv:Value)(s2:Shared):Prop :=
 ∃ (it:Addr)(fp:List Addr)(tn:Nat->Heap->Prop)(J:It)(H':Hp),itv=.ref it/\am X pins σ H' s2/\lG X.prog X.w X.K tg J fp it tn/\tn 0 s2.heap/\(∀ b∈fp,eX X pins H' b)/\R J H'
def PI (X:Cx)(tg iter:Expr)(wi:TI):Prop :=
 ∀ (pins:List (Addr×Obj))(s:Shared)(σ:St)(H:Hp)(R:It->Hp->Prop),am X pins σ H s->wi σ H R ->
  wpAny (model X.prog X.w) X.A (eval iter X.env) (fun v s1=>wpAny (model X.prog X.w) X.A (pyIter v) (wf X pins σ tg R) X.xe s1) X.xe s
theorem lL {M:Model}{A:Around}{E:Value->Shared->Prop}{s:Shared}{tg:Expr}{it:Addr}{u:Value}{o:Obj}{n:String}{vs:Array Value}{Q:Unit->Shared->Prop}(ho:s.heap.get? it=some o)(hc:o.cls=.type n)(hd:o.data=.fields vs)
  (hn:["enumerate","zip","dict_itemiterator","dict_reverseitemiterator","odict_iterator","itertools.zip_longest","itertools.pairwise"].contains n=false) (hQ:Q () s):wpAny M A (letOwnedTupleGo tg (.ref it) u) Q E s:=by
 unfold letOwnedTupleGo
 cases tg<;>first
  | exact xR hQ
  | (cases u<;>first
    | exact xR hQ
    | (refine xO (wpAny_load ho ?_)
       rw[hc,hd]
       show wpAny M A (if (["enumerate","zip","dict_itemiterator","dict_reverseitemiterator","odict_iterator","itertools.zip_longest","itertools.pairwise"].contains n&&vs[0]? == some (rawInt _))=true then _ else _) Q E s
       rw[xV (by intro h;rw[hn,Bool.false_and]at h;cases h)]
       exact xR hQ))
def tH (K:PySem.W.Frag)(a:Addr):It :=
 ⟨fun i H=>∃ xs x,aT K H a xs/\xs[i]? = some x,fun i H x H'=>H'=H/\∀ xs,aT K H a xs->xs[i]? = some x,fun i H=>∃ xs,aT K H a xs/\xs.length<=i⟩
def uZ (K:PySem.W.Frag)(a:Addr):It :=
 ⟨fun i H=>∃ xs x,aI K H a xs/\xs[i]? = some x,fun i H x H'=>H'=H/\∀ xs,aI K H a xs->xs[i]? = some x,fun i H=>∃ xs,aI K H a xs/\xs.length<=i⟩
def uQ (lo:Int)(n:Nat):It:=⟨fun i _=>i<n,fun i H x H'=>H'=H/\x=.int (lo+i),fun i _=>n<=i⟩
theorem pQ {P:Program}{w:World}{K:PySem.W.Frag}{tg:Expr}(a it:Addr):lG P w K tg (tH K a) [it] it (fun i h=>h.IsListIter it a i) where
 mem:=by simp
 obj:=fun i h st b hb=>by
  have e:b=it:=by simpa using hb
  subst e;obtain⟨o,e,c,d⟩:=st;exact⟨o,e,fun v z=>by rw[d]at z;cases z⟩
 keep:=fun i h h' st k=>st.at fun o e=>k it (by simp) o e
 item:=by
  intro X hP hw hK hc i pins s σ H E I hf st hg;subst hP hw hK;obtain⟨xs,x,hq,hx⟩:=hg;obtain⟨its,rv,p,hz⟩:=I.list hq;obtain⟨u,hu,ru⟩:=rv.get hx;obtain⟨f0,f1,f2,f3,f4,f5⟩:=hf it (by simp);refine wpAny_pyNext_list_item st p.isList (x:=u) (by simpa using hu) fun h' st' sb=>?_;have I1:am X pins σ H { s with heap:=h' }:=I.turned (t':=s.toks) (fun b o hb e=>(sb.2 b hb).trans e) f0 f1 f3 f4 f5;obtain⟨o,e,c,d⟩:=id st';exact⟨u,rfl,lL (s:={ s with heap:=h' }) e c d (by decide) ⟨x,H,I1,ru,⟨rfl,fun ys hy=>by rw[I.list_inj hy hq];exact hx⟩,st',fun b hb=>(hf b hb).1⟩⟩
 done:=by
  intro X hP hw hK hc i pins s σ H E I hf st hg;subst hP hw hK;obtain⟨xs,hq,hx⟩:=hg;obtain⟨its,rv,p,hz⟩:=I.list hq;obtain⟨f0,f1,f2,f3,f4,f5⟩:=hf it (by simp);have hl:=rv.length;exact wpAny_pyNext_list_end (I.ok.hd hc) st p.isList (by simp;omega) fun h' eb=>⟨rfl,I.turned (t':=s.toks) (fun b o hb e=>eb b o hb e) f0 f1 f3 f4 f5⟩
 self:=fun _ _ _ _ _ st h=>wpAny_pyIter_listiter st h
theorem nP {P:Program}{w:World}{K:PySem.W.Frag}{tg:Expr}(a it:Addr):lG P w K tg (uZ K a) [it] it (fun i h=>h.IsTupleIter it a i) where
 mem:=by simp
 obj:=fun i h st b hb=>by
  have e:b=it:=by simpa using hb
  subst e;obtain⟨o,e,c,d⟩:=st;exact⟨o,e,fun v z=>by rw[d]at z;cases z⟩
 keep:=fun i h h' st k=>st.at fun o e=>k it (by simp) o e
 item:=by
  intro X hP hw hK hc i pins s σ H E I hf st hg;subst hP hw hK;obtain⟨xs,x,hq,hx⟩:=hg;obtain⟨its,rv,p,hz⟩:=I.tuple hq;obtain⟨u,hu,ru⟩:=rv.get hx;obtain⟨f0,f1,f2,f3,f4,f5⟩:=hf it (by simp);refine wpAny_pyNext_tuple_item st (show s.heap.IsTuple a its.toArray from p) (x:=u) (by simpa using hu) fun h' st' sb=>?_;have I1:am X pins σ H { s with heap:=h' }:=I.turned (t':=s.toks) (fun b o hb e=>(sb.2 b hb).trans e) f0 f1 f3 f4 f5;obtain⟨o,e,c,d⟩:=id st';exact⟨u,rfl,lL (s:={ s with heap:=h' }) e c d (by decide) ⟨x,H,I1,ru,⟨rfl,fun ys hy=>by rw[I.tuple_inj hy hq];exact hx⟩,st',fun b hb=>(hf b hb).1⟩⟩
 done:=by
  intro X hP hw hK hc i pins s σ H E I hf st hg;subst hP hw hK;obtain⟨xs,hq,hx⟩:=hg;obtain⟨its,rv,p,hz⟩:=I.tuple hq;obtain⟨f0,f1,f2,f3,f4,f5⟩:=hf it (by simp);have hl:=rv.length;exact wpAny_pyNext_tuple_end (I.ok.hd hc) st (show s.heap.IsTuple a its.toArray from p) (by simp;omega) fun h' eb=>⟨rfl,I.turned (t':=s.toks) (fun b o hb e=>eb b o hb e) f0 f1 f3 f4 f5⟩
 self:=fun _ _ _ _ _ st h=>wpAny_pyIter_tupleiter st h
theorem nO {P:Program}{w:World}{K:PySem.W.Frag}{tg:Expr}(it:Addr)(lo:Int)(n:Nat):lG P w K tg (uQ lo n) [it] it (fun i h=>IsRangeIter h it (lo+(i:Nat)*1) ((n:Int)-(i:Nat)) 1) where
 mem:=by simp
 obj:=fun i h st b hb=>by
  have e:b=it:=by simpa using hb
  subst e
  exact⟨_,st,fun v z=>by
   have z':Data.fields _=Data.cell v:=z
   cases z'⟩
 keep:=fun i h h' st k=>k it (by simp) _ st
 item:=by
  intro X hP hw hK hc i pins s σ H E I hf st hg;subst hP hw hK;obtain⟨f0,f1,f2,f3,f4,f5⟩:=hf it (by simp);have W:=Walks.range (prog:=X.prog) (w:=X.w) (I.ok.hd hc) it lo 1 n;refine W.item i s _ _ hg st fun v h' tk hv st' kk=>?_;obtain⟨t,rfl⟩:=hv;have I1:am X pins σ H { s with heap:=h',toks:=tk }:=I.turned (fun b o hb e=>kk b o (by simpa using hb) e) f0 f1 f3 f4 f5;refine⟨_,rfl,lL (s:={ s with heap:=h',toks:=tk }) (n:="range_iterator") st' rfl rfl (by decide) ⟨.int (lo+i),H,I1,⟨t,?_⟩,⟨rfl,rfl⟩,st',fun b hb=>(hf b hb).1⟩⟩;rw[Int.mul_one]
 done:=by
  intro X hP hw hK hc i pins s σ H E I hf st hg;subst hP hw hK;obtain⟨f0,f1,f2,f3,f4,f5⟩:=hf it (by simp);exact wpAny_pyNext_range_end (I.ok.hd hc) st (by have:n<=i:=hg;omega) fun h' eb=>⟨rfl,I.turned (t':=s.toks) (fun b o hb e=>eb b o hb e) f0 f1 f3 f4 f5⟩
 self:=fun _ _ _ _ _ st h=>wpAny_pyIter_rangeiter st h
section
variable {X:Cx}{tg:Expr}
inductive wV (K:PySem.W.Frag) (R:It->Hp->Prop) (x:V) (H:Hp):Prop
 | mk (a:Addr) (e:x=.ref a) (q:∃ xs,aT K H a xs) (h:R (tH K a) H):wV K R x H
def vf (K:PySem.W.Frag)(tl:TE):TI:=fun σ H R=>tl σ H fun x H1=>wV K R x H1
def vi (K:PySem.W.Frag)(tl:TE):TI:=fun σ H R=>tl σ H fun x H1=>∃ a,x=.ref a/\(∃ xs,aI K H1 a xs)/\R (uZ K a) H1
theorem cc {l:Expr}{tl:TE}(hl:PE X l tl):PI X tg l (vf X.K tl):=by
 intro pins s σ H R I h;refine aU (hl pins s σ H _ I h) fun v s1 ⟨x,H1,I1,r1,q1⟩=>?_;obtain⟨a,e,⟨xs,hq⟩,q⟩:=q1;subst e;cases r1;obtain⟨its,rv,p,hz⟩:=I1.list hq;refine wpAny_pyIter_list p.isList ?_;refine⟨s1.heap.objs.size,[s1.heap.objs.size],_,_,H1,rfl,I1.kept (t':=s1.toks) fun b o e=>Heap.get?_push_of_some _ e,pQ a _,⟨_,Heap.get?_push_size _ rfl,rfl,rfl⟩,fun b hb=>?_,q⟩
 have e:b=s1.heap.objs.size:=by simpa using hb
 subst e;exact I1.fpOk (xT _) (I1.hok.fresh (xT _))
theorem jS {l:Expr}{tl:TE}(hl:PE X l tl):PI X tg l (vi X.K tl):=by
 intro pins s σ H R I h;refine aU (hl pins s σ H _ I h) fun v s1 ⟨x,H1,I1,r1,q1⟩=>?_;obtain⟨a,e,⟨xs,hq⟩,q⟩:=q1;subst e;cases r1;obtain⟨its,rv,p,hz⟩:=I1.tuple hq;refine zn (show s1.heap.IsTuple a its.toArray from p) ?_;refine⟨s1.heap.objs.size,[s1.heap.objs.size],_,_,H1,rfl,I1.kept (t':=s1.toks) fun b o e=>Heap.get?_push_of_some _ e,nP a _,⟨_,Heap.get?_push_size _ rfl,rfl,rfl⟩,fun b hb=>?_,q⟩
 have e:b=s1.heap.objs.size:=by simpa using hb
 subst e;exact I1.fpOk (xT _) (I1.hok.fresh (xT _))
theorem qT {pins:List (Addr×Obj)}{σ:St}{H:Hp}{s:Shared}{R:It->Hp->Prop}{E:Value->Shared->Prop}{lo hi:Int}{t u v:Tok}{tk:Nat}(I:am X pins σ H s)(h1 : -(2 ^ 62)<=lo)(h2:lo<2 ^ 62)(h3 : -(2 ^ 62)<=hi)(h4:hi<2 ^ 62)
  (q:R (uQ lo (hi-lo).toNat) H):wpAny (model X.prog X.w) X.A (pyIter (.ref s.heap.objs.size)) (wf X pins σ tg R) E { s with heap:=s.heap.push { cls:=.type "range",data:=.fields #[.int lo t,.int hi u,.int 1 v] },toks:=tk }:=by
 refine wpAny_pyIter_range (IsRange.new ..) (small_one h1 h2 h3 h4) ?_;have I1:am X pins σ H { s with heap:=s.heap.push { cls:=.type "range",data:=.fields #[.int lo t,.int hi u,.int 1 v] },toks:=tk }:=I.kept fun b o e=>Heap.get?_push_of_some _ e
 refine⟨(s.heap.push { cls:=.type "range",data:=.fields #[.int lo t,.int hi u,.int 1 v] }).objs.size,[(s.heap.push { cls:=.type "range",data:=.fields #[.int lo t,.int hi u,.int 1 v] }).objs.size],_,_,H,rfl,
  I1.kept (t':=tk) fun b o e=>Heap.get?_push_of_some _ e,nO _ lo (hi-lo).toNat,?_,fun b hb=>?_,q⟩
 ·have e1:lo+((0:Nat):Int)*1=lo:=by simp
  have e2:(((hi-lo).toNat:Nat):Int)-((0:Nat):Int)=Builtin.Range.rangeSize lo hi 1:=by rw[rangeSize_one];split<;>omega
  show IsRangeIter _ _ (lo+((0:Nat):Int)*1) ((((hi-lo).toNat:Nat):Int)-((0:Nat):Int)) 1
  rw[e1,e2];exact Heap.get?_push_size _ rfl
 ·have e:b=(s.heap.push { cls:=.type "range",data:=.fields #[.int lo t,.int hi u,.int 1 v] }).objs.size:=by simpa using hb
  subst e;exact I1.fpOk (xT _) (I1.hok.fresh (xT _))
def vg (ta:TA):TI:=fun σ H R=>ta σ H fun vs H1=>∃ j:Int,vs=[.int j]/\-(2 ^ 62)<=j/\j<2 ^ 62/\R (uQ 0 j.toNat) H1
theorem fG {a:Expr}{ta:TA}{p pos:Pos}(hg:Gl X "range")(hm:X.mg "range" = none)(ha:PA X [a] ta)(hs:starEach [a] X.env=[(false,eval a X.env)]:=by rfl):PI X tg (.Call (.Name "range" p) [a] [] pos) (vg ta):=by
 intro pins s σ H R I h;refine Call_ (dr I hg hm boot_range (yp (aU (ha pos pins s σ H _ I h) fun us s1 ⟨vs,H1,I1,r1,q1⟩=>?_) hs rfl));obtain⟨j,e,q1,q2,q⟩:=q1;subst e
 cases r1 with
 | cons r rr =>
  cases rr;obtain⟨t,rfl⟩:=r;exact call_range_1 (qT I1 (by omega) (by omega) q1 q2 (by simpa using q))
def wO (wi:TI)(g:TG)(tb:TS):TS:=fun D σ H=>wi σ H fun J H1=>∃ W:Nat->Nat->St->Hp->Prop,(∃ m,W 0 m σ H1)/\∀ i m σ H,W i m σ H ->
 (J.stop i H/\D.nx σ H)\/(J.go i H/\∃ N:St->Hp->Prop,(∀ σ' H',N σ' H'->∃ m',m'<m/\W (i+1) m' σ' H')/\∀ x H',J.yld i H x H'->g x σ H' fun σ2 H2=>tb { D with nx:=N,ct:=N,bk:=D.nx } σ2 H2)
def gi (fp:List Addr)(h:Heap):List (Addr×Obj):=fp.filterMap fun b=>(h.get? b).map fun o=>(b,o)
theorem bK {fp:List Addr}{h:Heap}{b:Addr}{o:Obj}(hb:b∈fp)(e:h.get? b=some o):(b,o)∈gi fp h:=List.mem_filterMap.mpr ⟨b,hb,by rw[e];rfl⟩
theorem pF {fp:List Addr}{h:Heap}{p:Addr×Obj}(hp:p∈gi fp h):p.1∈fp/\h.get? p.1=some p.2:=by
 obtain⟨b,hb,e⟩:=List.mem_filterMap.mp hp
 cases q:h.get? b with
 | none=>rw[q]at e;cases e
 | some o =>
  rw[q]at e;have e':(b,o)=p:=ye e;subst e';exact⟨hb,q⟩
theorem am.pinned {pins:List (Addr×Obj)}{σ:St}{H:Hp}{s:Shared}{fp:List Addr}(I:am X pins σ H s)(hf:∀ b∈fp,eX X pins H b)(ho:∀ b∈fp,∃ o,s.heap.get? b=some o/\∀ v,o.data≠.cell v):am X (pins++gi fp s.heap) σ H s :=
 I.pins_of fun p hp=>(ym.mp hp).elim (fun z=>I.pin p (yb _ z)) fun z=>by
  obtain⟨hb,e⟩:=pF z;obtain⟨f0,f1,f2,_⟩:=hf p.1 hb;obtain⟨o,e',d⟩:=ho p.1 hb;rw[e]at e';cases e';exact⟨e,f0,f1,f2,d⟩
theorem am.unpinned {pins pl:List (Addr×Obj)}{σ:St}{H:Hp}{s:Shared}(I:am X (pins++pl) σ H s):am X pins σ H s:=I.pins_of fun p hp=>I.pin p (yb _ (List.mem_append_left _ hp))
theorem dv {iter:Expr}{body:List Stmt}{wi:TI}{g:TG}{tb:TS}{pos:Pos}(hp:PassesOwn (model X.prog X.w) X.A X.env X.xe)(hc:X.calm=true)(hi:PI X tg iter wi)(hg:PG X tg g)(hb:mH X body tb)
  (hs:∀ x,foldedSetIterable iter X.env x=pure x:=by intro _;rfl):PS X (.For tg iter body [] pos) (wO wi g tb):=by
 intro pins s σ H D I h;refine wpAny_For (aU (hi pins s σ H _ I h) fun v s1 h1=>aU h1 fun itv s2 h2=>?_) hs;obtain⟨it,fp,tn,J,H2,e,I2,T,st2,f2,W,⟨m0,w0⟩,turn⟩:=h2;subst e;have stat:∀ {H':Hp},(∀ b∈fp,H' b=none)->∀ b∈fp,eX X pins H' b:=fun hn b hb=>⟨hn b hb,(f2 b hb).2⟩;refine codeAny_forLoop_any (fun n s'=>∃ i σ' H',am X pins σ' H' s'/\tn i s'.heap/\(∀ b∈fp,H' b=none)/\W i n σ' H') ?_ m0 ⟨0,σ,H2,I2,st2,fun b hb=>(f2 b hb).1,w0⟩;rintro n s3 ⟨i,σ3,H3,I3,st3,fr3,w3⟩;rcases turn i n σ3 H3 w3 with ⟨stop,qn⟩ | ⟨go,N,hN,step⟩
 ·refine wpAny_passesOwn hp (aU (T.done X rfl rfl rfl hc i pins s3 σ3 H3 X.xe I3 (stat fr3) st3 stop) fun r s4 ⟨hr,I4⟩=>?_)
  subst hr;exact wpAny_execs_nil ⟨σ3,H3,I4,qn⟩
 ·refine wpAny_passesOwn hp (aU (T.item X rfl rfl rfl hc i pins s3 σ3 H3 X.xe I3 (stat fr3) st3 go) fun r s4 ⟨u,hr,h4⟩=>?_)
  subst hr;refine wpAny_passesOwn hp (aU h4 fun _ s5 ⟨x,H5,I5,r5,y5,st5,fr5⟩=>?_);have I5':=I5.pinned (stat fr5) (T.obj _ _ st5);refine wpAny_passesOwn hp (aU (hg _ s5 σ3 H5 x u _ I5' r5 (step x H5 y5)) fun _ s6 ⟨σ6,H6,I6,q6⟩=>?_);refine wpAny_passesOwn hp (aU (hb _ s6 σ6 H6 _ I6 q6) fun f s7 q7=>?_)
  have again:∀ {σ7:St}{H7:Hp},am X (pins++gi fp s5.heap) σ7 H7 s7->N σ7 H7->∃ m,m<n/\∃ i σ' H',am X pins σ' H' s7/\tn i s7.heap/\(∀ b∈fp,H' b=none)/\W i m σ' H':=fun {σ7 H7} I7 n7=>by
   obtain⟨m',hm,w7⟩:=hN σ7 H7 n7;refine⟨m',hm,i+1,σ7,H7,I7.unpinned,T.keep _ _ _ st5 fun b hb o e=>(I7.pin (b,o) (yb _ (yb _ (bK hb e)))).1,fun b hb=>?_,w7⟩;obtain⟨o,e,d⟩:=T.obj _ _ st5 b hb;exact (I7.pin (b,o) (yb _ (yb _ (bK hb e)))).2.1
  cases f with
  | next=>obtain⟨σ7,H7,I7,n7⟩:=q7;exact again I7 n7
  | cont=>obtain⟨σ7,H7,I7,n7⟩:=q7;exact again I7 n7
  | brk=>obtain⟨σ7,H7,I7,q7⟩:=q7;exact⟨σ7,H7,I7.unpinned,q7⟩
  | ret v=>obtain⟨x7,σ7,H7,I7,r7,q7⟩:=q7;exact⟨x7,σ7,H7,I7.unpinned,r7,q7⟩
end
theorem bZ {K:PySem.W.Frag}{a:Addr}{xs:List V}{g:TG}{tb:TS}{D:fL}{σ:St}{H:Hp}(Pv:Nat->St->Hp->Prop)(h0:Pv 0 σ H)(hl:∀ i σ H,i<=xs.length->Pv i σ H->aT K H a xs)
  (hs:∀ i x σ H,xs[i]? = some x->Pv i σ H->g x σ H fun σ2 H2=>tb { D with nx:=Pv (i+1),ct:=Pv (i+1),bk:=D.nx } σ2 H2) (hd:∀ σ H,Pv xs.length σ H->D.nx σ H) :
  ∃ W:Nat->Nat->St->Hp->Prop,(∃ m,W 0 m σ H)/\∀ i m σ H,W i m σ H ->
   ((tH K a).stop i H/\D.nx σ H)\/((tH K a).go i H/\∃ N:St->Hp->Prop,(∀ σ' H',N σ' H'->∃ m',m'<m/\W (i+1) m' σ' H')/\∀ x H',(tH K a).yld i H x H'->g x σ H' fun σ2 H2=>tb { D with nx:=N,ct:=N,bk:=D.nx } σ2 H2):=by
 refine⟨fun i m σ H=>m=xs.length-i/\i<=xs.length/\Pv i σ H,⟨xs.length,by simp,yg _,h0⟩,?_⟩;rintro i m σ H ⟨rfl,hi,p⟩;have q:=hl i σ H hi p
 by_cases hlt:i<xs.length
 ·refine .inr ⟨⟨xs,xs[i],q,by simp[hlt]⟩,Pv (i+1),fun σ' H' p'=>⟨xs.length-(i+1),by omega,rfl,hlt,p'⟩,fun x H' y=>?_⟩
  obtain⟨e,y⟩:=y;subst e;exact hs i x σ _ (y xs q) p
 ·have e:i=xs.length:=by omega
  subst e;exact .inl ⟨⟨xs,q,xT _⟩,hd σ H p⟩
theorem gB {K:PySem.W.Frag}{a:Addr}{xs:List V}{g:TG}{tb:TS}{D:fL}{σ:St}{H:Hp}(Pv:Nat->St->Hp->Prop)(h0:Pv 0 σ H)(hl:∀ i σ H,i<=xs.length->Pv i σ H->aI K H a xs)
  (hs:∀ i x σ H,xs[i]? = some x->Pv i σ H->g x σ H fun σ2 H2=>tb { D with nx:=Pv (i+1),ct:=Pv (i+1),bk:=D.nx } σ2 H2) (hd:∀ σ H,Pv xs.length σ H->D.nx σ H) :
  ∃ W:Nat->Nat->St->Hp->Prop,(∃ m,W 0 m σ H)/\∀ i m σ H,W i m σ H ->
   ((uZ K a).stop i H/\D.nx σ H)\/((uZ K a).go i H/\∃ N:St->Hp->Prop,(∀ σ' H',N σ' H'->∃ m',m'<m/\W (i+1) m' σ' H')/\∀ x H',(uZ K a).yld i H x H'->g x σ H' fun σ2 H2=>tb { D with nx:=N,ct:=N,bk:=D.nx } σ2 H2):=by
 refine⟨fun i m σ H=>m=xs.length-i/\i<=xs.length/\Pv i σ H,⟨xs.length,by simp,yg _,h0⟩,?_⟩;rintro i m σ H ⟨rfl,hi,p⟩;have q:=hl i σ H hi p
 by_cases hlt:i<xs.length
 ·refine .inr ⟨⟨xs,xs[i],q,by simp[hlt]⟩,Pv (i+1),fun σ' H' p'=>⟨xs.length-(i+1),by omega,rfl,hlt,p'⟩,fun x H' y=>?_⟩
  obtain⟨e,y⟩:=y;subst e;exact hs i x σ _ (y xs q) p
 ·have e:i=xs.length:=by omega
  subst e;exact .inl ⟨⟨xs,q,xT _⟩,hd σ H p⟩
theorem fA {lo:Int}{n:Nat}{g:TG}{tb:TS}{D:fL}{σ:St}{H:Hp}(Pv:Nat->St->Hp->Prop)(h0:Pv 0 σ H)
  (hs:∀ i σ H,i<n->Pv i σ H->g (.int (lo+i)) σ H fun σ2 H2=>tb { D with nx:=Pv (i+1),ct:=Pv (i+1),bk:=D.nx } σ2 H2) (hd:∀ σ H,Pv n σ H->D.nx σ H) :
  ∃ W:Nat->Nat->St->Hp->Prop,(∃ m,W 0 m σ H)/\∀ i m σ H,W i m σ H ->
   ((uQ lo n).stop i H/\D.nx σ H)\/((uQ lo n).go i H/\∃ N:St->Hp->Prop,(∀ σ' H',N σ' H'->∃ m',m'<m/\W (i+1) m' σ' H')/\∀ x H',(uQ lo n).yld i H x H'->g x σ H' fun σ2 H2=>tb { D with nx:=N,ct:=N,bk:=D.nx } σ2 H2):=by
 refine⟨fun i m σ H=>m=n-i/\i<=n/\Pv i σ H,⟨n,by simp,yg _,h0⟩,?_⟩;rintro i m σ H ⟨rfl,hi,p⟩
 by_cases hlt:i<n
 ·refine .inr ⟨hlt,Pv (i+1),fun σ' H' p'=>⟨n-(i+1),by omega,rfl,hlt,p'⟩,fun x H' y=>?_⟩
  obtain⟨e,y⟩:=y;subst e y;exact hs i σ _ hlt p
 ·have e:i=n:=by omega
  subst e;exact .inl ⟨xT _,hd σ H p⟩
abbrev R2:=V->V->Hp->VK->Prop
def fW (X:Cx)(f:Value->Value->Sem Value)(r:R2):Prop :=
 ∀ (pins:List (Addr×Obj))(s:Shared)(σ:St)(H:Hp)(x y:V)(v u:Value)(Q:VK),am X pins σ H s->aD x v->aD y u->r x y H Q ->
  wpAny (model X.prog X.w) X.A (f v u) (EP X pins σ Q) X.xe s
def wm (X:Cx)(f:Value->Sem Value)(r:V->Hp->VK->Prop):Prop :=
 ∀ (pins:List (Addr×Obj))(s:Shared)(σ:St)(H:Hp)(x:V)(v:Value)(Q:VK),am X pins σ H s->aD x v->r x H Q ->
  wpAny (model X.prog X.w) X.A (f v) (EP X pins σ Q) X.xe s
def dE (X:Cx)(f:Value)(r:List V->Hp->VK->Prop):Prop :=
 ∀ (pins:List (Addr×Obj))(s:Shared)(σ:St)(H:Hp)(xs:List V)(us:List Value)(Q:VK),am X pins σ H s->Vals xs us->r xs H Q ->
  wpAny (model X.prog X.w) X.A (call f us) (EP X pins σ Q) X.xe s
def wk (X:Cx)(r:V->Hp->(Bool->Hp->Prop)->Prop):Prop :=
 ∀ (pins:List (Addr×Obj))(s:Shared)(σ:St)(H:Hp)(x:V)(v:Value)(Q:Bool->Hp->Prop),am X pins σ H s->aD x v->r x H Q ->
  wpAny (model X.prog X.w) X.A (truthy v) (TP X pins σ Q) X.xe s
def uU (r:R2)(ta tb:TE):TE:=fun σ H Q=>ta σ H fun x H1=>tb σ H1 fun y H2=>r x y H2 Q
def xH (r:V->Hp->VK->Prop)(ta:TE):TE:=fun σ H Q=>ta σ H fun x H1=>r x H1 Q
inductive RI (C:Int->Int->Prop) (g:Int->Int->V) (x y:V) (H:Hp) (Q:VK):Prop
 | mk (i j:Int) (e1:x=.int i) (e2:y=.int j) (c:C i j) (h:Q (g i j) H):RI C g x y H Q
def rI (C:Int->Int->Prop)(g:Int->Int->V):R2:=fun x y H Q=>RI C g x y H Q
inductive w5 (g:Int->Int->V) (x y:V) (H:Hp) (Q:VK):Prop
 | mk (i j:Int) (e1:x=.int i) (e2:y=.int j) (h:Q (g i j) H):w5 g x y H Q
def sS (g:Int->Int->V):R2:=fun x y H Q=>w5 g x y H Q
def rU (g:Int->V):V->Hp->VK->Prop:=fun x H Q=>∃ i,x=.int i/\Q (g i) H
section
variable {X:Cx}{a b c:Expr}{ta tb tc:TE}{pos:Pos}
theorem tO (ha:PE X a ta)(hb:PE X b tb){pins:List (Addr×Obj)}{s:Shared}{σ:St}{H:Hp}{R:V->V->Hp->Prop}(I:am X pins σ H s)
  (h:ta σ H fun x H1=>tb σ H1 fun y H2=>R x y H2) {Q:Value->Shared->Prop} {f:Value->Value->Sem Value}
  (hf:∀ v u s2 x y H2,am X pins σ H2 s2->aD x v->aD y u->R x y H2->wpAny (model X.prog X.w) X.A (f v u) Q X.xe s2) :
  wpAny (model X.prog X.w) X.A (eval a X.env) (fun v s₁=>wpAny (model X.prog X.w) X.A (eval b X.env) (fun u s₂=>wpAny (model X.prog X.w) X.A (f v u) Q X.xe s₂) X.xe s₁) X.xe s:=by
 refine aU (ha pins s σ H _ I h) fun v s1 ⟨x,H1,I1,r1,q1⟩=>?_;refine aU (hb pins s1 σ H1 _ I1 q1) fun u s2 ⟨y,H2,I2,r2,q2⟩=>?_;exact hf v u s2 x y H2 I2 r1 r2 q2
theorem aj {op:Operator}{r:R2}(ho:fW X (binaryOp op) r)(ha:PE X a ta)(hb:PE X b tb):PE X (.BinOp a op b pos) (uU r ta tb):=by
 intro pins s σ H Q I h;exact wpAny_BinOp (tO ha hb I h fun v u s2 x y H2 I2 rx ry q=>ho pins s2 σ H2 x y v u Q I2 rx ry q)
theorem vw {op:UnaryOp}{r:V->Hp->VK->Prop}(ho:wm X (unaryOp op) r)(ha:PE X a ta):PE X (.UnaryOp op a pos) (xH r ta):=by
 intro pins s σ H Q I h;exact UnaryOp_ (aU (ha pins s σ H _ I h) fun v s1 ⟨x,H1,I1,r1,q1⟩=>ho pins s1 σ H1 x v Q I1 r1 q1)
theorem vo {f:Value->Value->Sem Value}{C:Int->Int->Prop}{g:Int->Int->Int}
  (rule:∀ (i j:Int)(t u:Tok)(s:Shared)(Q:Value->Shared->Prop)(E:Value->Shared->Prop),C i j->Q (.int (g i j) s.toks) { s with toks:=s.toks+1 }->wpAny (model X.prog X.w) X.A (f (.int i t) (.int j u)) Q E s) :
  fW X f (rI C fun i j=>.int (g i j)):=by
 intro pins s σ H x y v u Q I rx ry h;obtain⟨i,j,rfl,rfl,hc,q⟩:=h;obtain⟨t,rfl⟩:=rx;obtain⟨t',rfl⟩:=ry;exact rule i j t t' s _ _ hc ⟨.int (g i j),H,I.tok _,⟨_,rfl⟩,q⟩
theorem vp {f:Value->Value->Sem Value}{g:Int->Int->Int}
  (rule:∀ (i j:Int)(t u:Tok)(s:Shared)(Q:Value->Shared->Prop)(E:Value->Shared->Prop),Q (.int (g i j) s.toks) { s with toks:=s.toks+1 }->wpAny (model X.prog X.w) X.A (f (.int i t) (.int j u)) Q E s) :
  fW X f (sS fun i j=>.int (g i j)):=by
 intro pins s σ H x y v u Q I rx ry h;obtain⟨i,j,rfl,rfl,q⟩:=h;obtain⟨t,rfl⟩:=rx;obtain⟨t',rfl⟩:=ry;exact rule i j t t' s _ _ ⟨.int (g i j),H,I.tok _,⟨_,rfl⟩,q⟩
theorem r9 {f:Value->Value->Sem Value}{g:Int->Int->Bool}
  (rule:∀ (i j:Int)(t u:Tok)(s:Shared)(Q:Value->Shared->Prop)(E:Value->Shared->Prop),Q (.bool (g i j)) s->wpAny (model X.prog X.w) X.A (f (.int i t) (.int j u)) Q E s) :
  fW X f (sS fun i j=>.bl (g i j)):=by
 intro pins s σ H x y v u Q I rx ry h;obtain⟨i,j,rfl,rfl,q⟩:=h;obtain⟨t,rfl⟩:=rx;obtain⟨t',rfl⟩:=ry;exact rule i j t t' s _ _ ⟨.bl (g i j),H,I,rfl,q⟩
def wb (i j:Int):Prop:=0<j/\j<1073741824
def wc (i j:Int):Prop:=0<=j/\j<=1000000/\i.natAbs<2 ^ 64
def tE (i j:Int):Prop:=(-(2 ^ 64)<i/\i<2 ^ 64)\/(-(2 ^ 64)<j/\j<2 ^ 64)
theorem tE.ok {i j:Int}(h:tE i j):IntMulOk i j:=by
 rcases h with ⟨h1,h2⟩ | ⟨h1,h2⟩
 ·exact .of_left (intBits_le_64 h1 h2)
 ·exact .of_right (intBits_le_64 h1 h2)
theorem bL:fW X (binaryOp .Add) (sS fun i j=>.int (i+j)):=vp fun _ _ _ _ _ _ _ q=>add_int q
theorem jQ:fW X (binaryOp .Sub) (sS fun i j=>.int (i-j)):=vp fun _ _ _ _ _ _ _ q=>sub_int q
theorem fj:fW X (binaryOp .Mult) (rI tE fun i j=>.int (i*j)):=vo fun _ _ _ _ _ _ _ hc q=>mul_int q hc.ok
theorem bc:fW X (binaryOp .FloorDiv) (rI wb fun i j=>.int (i/j)):=vo fun i j _ _ _ _ _ hc q=>by
 have h1:(0:Int)<j:=hc.1;have h2:j<1073741824:=hc.2;exact floordiv_int (by omega) (by rw[Int.fdiv_eq_ediv_of_nonneg i (by omega)];exact q) (.inl (PyProof.noPylong_small (by omega)))
theorem aS:fW X (binaryOp .Mod) (rI (fun _ j=>0<j) fun i j=>.int (i%j)):=vo fun i j _ _ _ _ _ hc q=>by
 have h1:(0:Int)<j:=hc;exact mod_int' (by omega) (by rw[Int.fmod_eq_emod_of_nonneg i (by omega)];exact q)
theorem qz:fW X (binaryOp .Pow) (rI wc fun i j=>.int (i ^ j.toNat)):=vo fun _ _ _ _ _ _ _ hc q=>pow_int_small hc.1 hc.2.1 hc.2.2 q
theorem xI {f:Value->Sem Value}{g:Int->Int}
  (rule:∀ (i:Int)(t:Tok)(s:Shared)(Q:Value->Shared->Prop)(E:Value->Shared->Prop),Q (.int (g i) s.toks) { s with toks:=s.toks+1 }->wpAny (model X.prog X.w) X.A (f (.int i t)) Q E s) :
  wm X f (rU fun i=>.int (g i)):=by
 intro pins s σ H x v Q I rx h;obtain⟨i,rfl,q⟩:=h;obtain⟨t,rfl⟩:=rx;exact rule i t s _ _ ⟨.int (g i),H,I.tok _,⟨_,rfl⟩,q⟩
theorem uN:wm X (unaryOp .USub) (rU fun i=>.int (-i)):=xI fun _ _ _ _ _ q=>neg_int q
end
def vE:V->V->Bool
 | .non,.non=>true | .non,.int _=>true | .int _,.non=>true | .non,.bl _=>true | .bl _,.non=>true | .non,.str _=>true | .str _,.non=>true
 | .int _,.int _=>true | .bl _,.bl _=>true | .str _,.str _=>true | .byt _,.byt _=>true
 | .int _,.str _=>true | .str _,.int _=>true | .bl _,.str _=>true | .str _,.bl _=>true
 | _,_=>false
def xC:R2:=fun x y H Q=>vE x y=true/\Q (.bl (decide (x=y))) H
def xq:R2:=fun x y H Q=>vE x y=true/\Q (.bl (!decide (x=y))) H
theorem om {i j:Int}:decide (V.int i=V.int j)=(i == j):=by
 rw[Bool.eq_iff_iff];simp
theorem qa {i j:Bool}:decide (V.bl i=V.bl j)=(i == j):=by
 rw[Bool.eq_iff_iff];simp
theorem oo {i j:Str}:decide (V.str i=V.str j)=(i == j):=by
 rw[Bool.eq_iff_iff];simp
theorem ol {i j:Array UInt8}:decide (V.byt i=V.byt j)=(i.toList == j.toList):=by
 rw[Bool.eq_iff_iff];cases i;cases j;simp
section
variable {X:Cx}{a b c:Expr}{ta tb tc:TE}{pos:Pos}
theorem aM {pins:List (Addr×Obj)}{σ:St}{H:Hp}{s:Shared}{Q:VK}{k k':Bool}(I:am X pins σ H s)(q:Q (.bl k) H)(e:k=k'):EP X pins σ Q (.bool k') s:=by
 subst e;exact⟨.bl k,H,I,rfl,q⟩
theorem be:fW X (compareOp .Eq) xC:=by
 intro pins s σ H x y v u Q I rx ry h;obtain⟨hs,q⟩:=h
 cases x with
 | non =>
  cases rx
  cases y with
  | non=>cases ry;exact PySem.EqNone.eq_none_none (aM I q (by simp))
  | bl j=>cases ry;exact PySem.EqNone.eq_none_bool (aM I q (by simp))
  | int j=>obtain⟨t',rfl⟩:=ry;exact PySem.EqNone.eq_none_int (aM I q (by simp))
  | str j=>obtain⟨t',rfl⟩:=ry;exact PySem.EqNone.eq_none_str (aM I q (by simp))
  | _=>exact absurd (show false=true from hs) xU
 | bl i =>
  cases rx
  cases y with
  | non=>cases ry;exact PySem.EqNone.eq_bool_none (aM I q (by simp))
  | bl j=>cases ry;exact eq_bool (aM I q qa)
  | str j=>obtain⟨t',rfl⟩:=ry;exact PySem.EqMixed.eq_bool_str (aM I q (by simp))
  | _=>exact absurd (show false=true from hs) xU
 | int i =>
  obtain⟨t,rfl⟩:=rx
  cases y with
  | non=>cases ry;exact PySem.EqNone.eq_int_none (aM I q (by simp))
  | int j=>obtain⟨t',rfl⟩:=ry;exact eq_int (aM I q om)
  | str j=>obtain⟨t',rfl⟩:=ry;exact PySem.EqMixed.eq_int_str (aM I q (by simp))
  | _=>exact absurd (show false=true from hs) xU
 | str i =>
  obtain⟨t,rfl⟩:=rx
  cases y with
  | non=>cases ry;exact PySem.EqNone.eq_str_none (aM I q (by simp))
  | bl j=>cases ry;exact PySem.EqMixed.eq_str_bool (aM I q (by simp))
  | int j=>obtain⟨t',rfl⟩:=ry;exact PySem.EqMixed.eq_str_int (aM I q (by simp))
  | str j=>obtain⟨t',rfl⟩:=ry;exact eq_str (aM I q oo)
  | _=>exact absurd (show false=true from hs) xU
 | byt i =>
  obtain⟨t,rfl⟩:=rx
  cases y with
  | byt j=>obtain⟨t',rfl⟩:=ry;exact PySem.W.eq_bytes (aM I q ol)
  | _=>exact absurd (show false=true from hs) xU
 | _=>cases y<;>exact absurd (show false=true from hs) xU
theorem qx:fW X (compareOp .NotEq) xq:=by
 intro pins s σ H x y v u Q I rx ry h;obtain⟨hs,q⟩:=h
 cases x with
 | non =>
  cases rx
  cases y with
  | non=>cases ry;exact PySem.EqNone.ne_none_none (aM I q (by simp))
  | bl j=>cases ry;exact PySem.EqNone.ne_none_bool (aM I q (by simp))
  | int j=>obtain⟨t',rfl⟩:=ry;exact PySem.EqNone.ne_none_int (aM I q (by simp))
  | str j=>obtain⟨t',rfl⟩:=ry;exact PySem.EqNone.ne_none_str (aM I q (by simp))
  | _=>exact absurd (show false=true from hs) xU
 | bl i =>
  cases rx
  cases y with
  | non=>cases ry;exact PySem.EqNone.ne_bool_none (aM I q (by simp))
  | bl j=>cases ry;exact ne_bool (aM I q (y1 not qa))
  | str j=>obtain⟨t',rfl⟩:=ry;exact PySem.EqMixed.ne_bool_str (aM I q (by simp))
  | _=>exact absurd (show false=true from hs) xU
 | int i =>
  obtain⟨t,rfl⟩:=rx
  cases y with
  | non=>cases ry;exact PySem.EqNone.ne_int_none (aM I q (by simp))
  | int j=>obtain⟨t',rfl⟩:=ry;exact ne_int (aM I q (y1 not om))
  | str j=>obtain⟨t',rfl⟩:=ry;exact PySem.EqMixed.ne_int_str (aM I q (by simp))
  | _=>exact absurd (show false=true from hs) xU
 | str i =>
  obtain⟨t,rfl⟩:=rx
  cases y with
  | non=>cases ry;exact PySem.EqNone.ne_str_none (aM I q (by simp))
  | bl j=>cases ry;exact PySem.EqMixed.ne_str_bool (aM I q (by simp))
  | int j=>obtain⟨t',rfl⟩:=ry;exact PySem.EqMixed.ne_str_int (aM I q (by simp))
  | str j=>obtain⟨t',rfl⟩:=ry;exact ne_str (aM I q (y1 not oo))
  | _=>exact absurd (show false=true from hs) xU
 | byt i =>
  obtain⟨t,rfl⟩:=rx
  cases y with
  | byt j=>obtain⟨t',rfl⟩:=ry;exact PySem.W.ne_bytes (aM I q (y1 not ol))
  | _=>exact absurd (show false=true from hs) xU
 | _=>cases y<;>exact absurd (show false=true from hs) xU
theorem oz:fW X (compareOp .Lt) (sS fun i j=>.bl (decide (i<j))):=r9 fun _ _ _ _ _ _ _ q=>lt_int q
theorem md:fW X (compareOp .LtE) (sS fun i j=>.bl (decide (i<=j))):=r9 fun _ _ _ _ _ _ _ q=>le_int q
theorem sO:fW X (compareOp .Gt) (sS fun i j=>.bl (decide (j<i))):=r9 fun _ _ _ _ _ _ _ q=>gt_int q
theorem vq:fW X (compareOp .GtE) (sS fun i j=>.bl (decide (j<=i))):=r9 fun _ _ _ _ _ _ _ q=>ge_int q
theorem kF:fW X (compareOp .In) (fun x y H Q=>∃ i j,x=.str i/\y=.str j/\Q (.bl (!(Builtin.Str.occurrences j i 0 j.length 1).isEmpty)) H):=by
 intro pins s σ H x y v u Q I rx ry h;obtain⟨i,j,rfl,rfl,q⟩:=h;obtain⟨t,rfl⟩:=rx;obtain⟨t',rfl⟩:=ry;exact in_str (aM I q rfl)
theorem az (b:Expr){op:CmpOp}(h:op≠.In:=by decide)(h2:op≠.NotIn:=by decide):behindInMarks op b=false:=by
 have e1:(op == CmpOp.In)=false:=by cases op<;>first | rfl | exact absurd rfl h
 have e2:(op == CmpOp.NotIn)=false:=by cases op<;>first | rfl | exact absurd rfl h2
 cases b<;>simp[behindInMarks,e1,e2]
theorem fF {op:CmpOp}{r:R2}(ho:fW X (compareOp op) r)(ha:PE X a ta)(hb:PE X b tb)(hm:behindInMarks op b=false):PE X (.Compare a [op] [b] pos) (uU r ta tb):=by
 intro pins s σ H Q I h;exact wpAny_Compare1 (tO ha hb I h fun v u s2 x y H2 I2 rx ry q=>ho pins s2 σ H2 x y v u Q I2 rx ry q) hm
def sW (t:TE):TT:=fun σ H Q=>t σ H fun x H'=>wj Q x H'
theorem ar {op:CmpOp}{r:R2}(ho:fW X (compareOp op) r)(ha:PE X a ta)(hb:PE X b tb)(hm:behindInMarks op b=false):PT X (.Compare a [op] [b] pos) (sW (uU r ta tb)):=by
 intro pins s σ H Q I h
 refine wpAny_isTrue_Compare1 (aU (ha pins s σ H _ I h) fun v s1 ⟨x,H1,I1,r1,q1⟩=>aU (hb pins s1 σ H1 _ I1 q1) fun u s2 ⟨y,H2,I2,r2,q2⟩ =>
  aU (ho pins s2 σ H2 x y v u _ I2 r1 r2 q2) fun c s3 ⟨z,H3,I3,r3,k,e,q3⟩=>?_) hm
 subst e;cases r3;exact yF ⟨H3,I3,q3⟩
def q8 (r r':R2)(ta tb tc:TE):TE:=fun σ H Q=>ta σ H fun x H1=>tb σ H1 fun y H2=>r x y H2 fun z H3=>∃ k,z=.bl k /\
 (if k=true then tc σ H3 fun w' H4=>r' y w' H4 Q else Q (.bl false) H3)
theorem qC {op op':CmpOp}{r r':R2}(ho:fW X (compareOp op) r)(ho':fW X (compareOp op') r')(ha:PE X a ta)(hb:PE X b tb)(hc:PE X c tc)
  (hm:lastMarks [op,op'] [b,c]=false:=by with_unfolding_all rfl):PE X (.Compare a [op,op'] [b,c] pos) (q8 r r' ta tb tc):=by
 intro pins s σ H Q I h
 refine Compare_chain (aU (ha pins s σ H _ I h) fun v s1 ⟨x,H1,I1,r1,q1⟩=>chain_link (aU (hb pins s1 σ H1 _ I1 q1) fun u s2 ⟨y,H2,I2,r2,q2⟩ =>
  aU (ho pins s2 σ H2 x y v u _ I2 r1 r2 q2) fun d s3 ⟨z,H3,I3,r3,k,e,q3⟩=>?_)) hm
 subst e;cases r3;refine yF ?_
 cases k with
 | false=>exact ite_ff ⟨.bl false,H3,I3,rfl,q3⟩
 | true=>exact ite_tt (chain_last (aU (hc pins s3 σ H3 _ I3 q3) fun w' s4 ⟨z',H4,I4,r4,q4⟩=>ho' pins s4 σ H4 y z' u w' Q I4 r2 r4 q4))
theorem qP {op op':CmpOp}{r r':R2}(ho:fW X (compareOp op) r)(ho':fW X (compareOp op') r')(ha:PE X a ta)(hb:PE X b tb)(hc:PE X c tc)
  (hm:lastMarks [op,op'] [b,c]=false:=by with_unfolding_all rfl):PT X (.Compare a [op,op'] [b,c] pos) (sW (q8 r r' ta tb tc)):=by
 intro pins s σ H Q I h
 refine isTrue_chain (aU (ha pins s σ H _ I h) fun v s1 ⟨x,H1,I1,r1,q1⟩=>test_link (aU (hb pins s1 σ H1 _ I1 q1) fun u s2 ⟨y,H2,I2,r2,q2⟩ =>
  aU (ho pins s2 σ H2 x y v u _ I2 r1 r2 q2) fun d s3 ⟨z,H3,I3,r3,k,e,q3⟩=>?_)) hm
 subst e;cases r3;refine yF ?_
 cases k with
 | false =>
  obtain⟨k',e',q'⟩:=q3;cases e';exact ite_ff ⟨H3,I3,q'⟩
 | true =>
  refine ite_tt (test_last (aU (hc pins s3 σ H3 _ I3 q3) fun w' s4 ⟨z',H4,I4,r4,q4⟩=>aU (ho' pins s4 σ H4 y z' u w' _ I4 r2 r4 q4) fun d' s5 ⟨z2,H5,I5,r5,k2,e2,q5⟩=>?_));subst e2;cases r5;exact yF ⟨H5,I5,q5⟩
def u8 (K:PySem.W.Frag)(x:V)(H:Hp)(k:Bool):Prop :=
 match x with
 | .non=>k=false
 | .bl b=>k=b
 | .int i=>k=(i != 0)
 | .str y=>y.length<=sizeLine/\k=((y.length:Int) != 0)
 | .byt y=>y.size<=sizeLine/\k=((y.size:Int) != 0)
 | .ref p=>(∃ xs,aT K H p xs/\k = !xs.isEmpty)\/(∃ xs,aI K H p xs/\k = !xs.isEmpty)\/∃ kvs,H p=some (.dK kvs)/\k = !kvs.isEmpty
 | _=>False
theorem mZ {κ:Type}{kvs:List (κ×V)}{vs:List (κ×Value)}(r:KV kvs vs):(!vs.isEmpty) = !kvs.isEmpty:=by
 cases r<;>rfl
theorem jA {xs:List V}{its:List Value}(r:Vals xs its):(!its.toArray.isEmpty) = !xs.isEmpty:=by
 cases r<;>simp
theorem ie:(sizeLine:Nat)<2 ^ 63:=by rw[yG];decide
theorem uM:wk X (fun x H Q=>∃ k,u8 X.K x H k/\Q k H):=by
 intro pins s σ H x v Q I rx h;obtain⟨k,e,q⟩:=h;have hl:=ie;have hs:sizeLine=16777216:=yG
 cases x with
 | non =>
  cases rx;have e':k=false:=e;subst e';exact truthy_none ⟨H,I,q⟩
 | bl b =>
  cases rx;have e':k=b:=e;subst e';exact yF ⟨H,I,q⟩
 | int i =>
  obtain⟨t,rfl⟩:=rx;have e':k=(i != 0):=e;subst e';exact PySem.P.truthy_int ⟨H,I,q⟩
 | str y =>
  obtain⟨t,rfl⟩:=rx;obtain⟨hy,e'⟩:y.length<=sizeLine/\k=((y.length:Int) != 0):=e;subst e';exact PySem.P.truthy_str (by omega) ⟨H,I.tok _,q⟩
 | byt y =>
  obtain⟨t,rfl⟩:=rx;obtain⟨hy,e'⟩:y.size<=sizeLine/\k=((y.size:Int) != 0):=e;subst e';exact PySem.W.truthy_bytes (by omega) ⟨H,I.tok _,q⟩
 | ref p =>
  cases rx;have e':(∃ xs,aT X.K H p xs/\k = !xs.isEmpty)\/(∃ xs,aI X.K H p xs/\k = !xs.isEmpty)\/∃ kvs,H p=some (.dK kvs)/\k = !kvs.isEmpty:=e;rcases e' with ⟨xs,hx,e'⟩ | ⟨xs,hx,e'⟩ | ⟨kvs,hx,e'⟩
  ·subst e'
   obtain⟨its,r,pl,hz⟩:=I.list hx;have hlen:=r.length;exact wpAny_truthy_list pl.isList (by simp only[xW];omega) ⟨H,I.tok _,by rw[jA r];exact q⟩
  ·subst e'
   obtain⟨its,r,pl,hz⟩:=I.tuple hx;have hlen:=r.length;exact truthy_tuple pl (by simp only[xW];omega) ⟨H,I.tok _,by rw[jA r];exact q⟩
  ·subst e'
   obtain⟨hz,hS,vs,r,m⟩:kvs.length<=sizeLine/\(p == sysModules)=false/\∃ vs,KV kvs vs/\s.heap.DictOf (bp X.prog X.w) p vs:=I.hok p _ hx;have hlen:kvs.length=vs.length:=x9 r;exact wpAny_truthy_dict hS m (by omega) ⟨H,I.tok _,by rw[mZ r];exact q⟩
 | _=>exact (show False from e).elim
theorem mi (ha:PE X a ta)(he:∀ whole,isTrue a X.env whole=(do let v <-whole;standAt a.pos;holding [v] (truthy v))) :
  PT X a (fun σ H Q=>ta σ H fun x H'=>∃ k,u8 X.K x H' k/\Q k H'):=by
 intro pins s σ H Q I h;exact isTrue_plain (aU (ha pins s σ H _ I h) fun v s1 ⟨x,H1,I1,r1,q1⟩=>uM pins s1 σ H1 x v Q I1 r1 q1) (he _)
theorem nq:fW X (binaryOp .Add) (fun x y H Q=>∃ i j,x=.str i/\y=.str j/\i.length+j.length<=sizeLine/\Q (.str (i++j)) H):=by
 intro pins s σ H x y v u Q I rx ry h;obtain⟨i,j,rfl,rfl,hz,q⟩:=h;obtain⟨t,rfl⟩:=rx;obtain⟨t',rfl⟩:=ry;exact add_str (fun t' tk=>⟨.str (i++j),H,I.tok _,⟨_,rfl⟩,q⟩) hz
theorem eL {x:V}{us:List Value}(r:Vals [x] us):∃ u,us=[u]/\aD x u:=by
 cases r with
 | cons r1 r2=>cases r2;exact⟨_,rfl,r1⟩
theorem sY {x y:V}{us:List Value}(r:Vals [x,y] us):∃ u w',us=[u,w']/\aD x u/\aD y w':=by
 cases r with
 | cons r1 r2 =>
  cases r2 with
  | cons r3 r4=>cases r4;exact⟨_,_,rfl,r1,r3⟩
theorem o6 (hc:X.calm=true):dE X (.builtin "max") (fun xs H Q=>∃ i j,xs=[.int i,.int j]/\Q (.int (if j>i then j else i)) H):=by
 intro pins s σ H xs us Q I r h;obtain⟨i,j,rfl,q⟩:=h;obtain⟨u,w',rfl,⟨t,rfl⟩,⟨t',rfl⟩⟩:=sY r;refine max_two_ints (I.ok.hd hc) fun h' tk k=>⟨_,H,I.kept k,?_,q⟩
 by_cases hj:j>i
 ·rw[x4 hj,x4 hj];exact⟨_,rfl⟩
 ·rw[xV hj,xV hj];exact⟨_,rfl⟩
theorem kt (hc:X.calm=true):dE X (.builtin "min") (fun xs H Q=>∃ i j,xs=[.int i,.int j]/\Q (.int (if j<i then j else i)) H):=by
 intro pins s σ H xs us Q I r h;obtain⟨i,j,rfl,q⟩:=h;obtain⟨u,w',rfl,⟨t,rfl⟩,⟨t',rfl⟩⟩:=sY r;refine min_two_ints (I.ok.hd hc) fun h' tk k=>⟨_,H,I.kept k,?_,q⟩
 by_cases hj:j<i
 ·rw[x4 hj,x4 hj];exact⟨_,rfl⟩
 ·rw[xV hj,xV hj];exact⟨_,rfl⟩
end
structure mJ (h:Heap)(x dx C:Addr)(mA:Str->Option Value):Prop where
 obj:h.get? x=some (PySem.W.instObj C dx)
 ns:h.Ns1 dx mA
 ne:dx≠x
theorem pB {h:Heap}{dx:Addr}{mA:Str->Option Value}(n:h.Ns1 dx mA):∃ od,h.get? dx=some od/\∀ name,PySem.W.lookIn name od=some (mA name):=by
 obtain⟨o,es,ep,ho,hd,hk,_,hm⟩:=n;refine⟨o,ho,fun name=>?_⟩;have e:=hm name;unfold nsFind findBy at e;rw[<-Array.find?_toList]at e;unfold PySem.W.lookIn;rw[hd];dsimp only;split
 ·rename_i y q
  rw[q]at e;exact y1 some e
 ·rename_i q
  rw[q]at e
  have a:es.toList.any (·.refKey)=false:=by
   rw[List.any_eq_false];intro y hy;obtain⟨z,t,hkey⟩:=hk y (Array.mem_toList_iff.mp hy);simp[DictEntry.refKey,hkey]
  have a':¬ es.toList.any (·.refKey)=true:=by rw[a];exact xU
  rw[xV a'];exact y1 some e
theorem mJ.look {h:Heap}{x dx C:Addr}{mA:Str->Option Value}(I:mJ h x dx C mA):∃ od,PySem.W.InstAt h x (PySem.W.instObj C dx) C (some od)/\∀ name,PySem.W.lookIn name od=some (mA name) :=
 let ⟨od,ho,hl⟩:=pB I.ns
 ⟨od,⟨I.obj,rfl,rfl,ho⟩,hl⟩
section
variable {prog:Program}{w:World}{A:Around}{E:Value->Shared->Prop}{s:Shared}{K:PySem.W.Frag}{x dx C f:Addr}{mA:Str->Option Value}{name:Str}{v:Value}
theorem rQ {expr:Bool}{Q:Value->Shared->Prop}(X:K.In s.heap)(I:mJ s.heap x dx C mA)(hg:PySem.W.plainGet K C name=true)(hh:PySem.W.hasDictIn K C=true)
  (ha:PySem.W.findIn K (.ref C) name=some none) (hv:mA name=some v) (hv':PySem.W.handedIn v=true) (h:Q v { s with toks:=s.toks+1 }) :
  wpAny (model prog w) A (getAttr (.ref x) name expr) Q E s:=by
 obtain⟨od,J,hl⟩:=I.look;exact PySem.W.get_value X J (PySem.W.plainGet_of hg).1 (PySem.W.findObj_own hh ha rfl (by rw[hl,hv])) hv' h
theorem qh {pl:Sem Bool}{Q:Value×List Value->Shared->Prop}(X:K.In s.heap)(I:mJ s.heap x dx C mA)(hg:PySem.W.plainGet K C name=true)
  (hf:PySem.W.findIn K (.ref C) name=some (some (.ref f))) (ht:PySem.W.isFn K (.ref f)=true) (hv:mA name=none) (h:Q (.ref f,[.ref x]) s) :
  wpAny (model prog w) A (getMethod (.ref x) name pl) Q E s:=by
 obtain⟨od,J,hl⟩:=I.look;exact PySem.W.method_fn X J (PySem.W.plainGet_of hg).1 (PySem.W.plainGet_of hg).2 hf (zz.mp ht) (by show (PySem.W.lookIn name od).map (·.isSome)=some false;rw[hl,hv];rfl) h
theorem sk {ns:List Str}{Q:Unit->Shared->Prop}(X:K.In s.heap)(I:mJ s.heap x dx C mA)
  (hs:PySem.W.findIn K (.ref C) "__setattr__" = some (some (.builtin "object.__setattr__"))) (hp:PySem.W.plainOver K C=true) (ht:PySem.W.takerIn K C name=some none) (hh:PySem.W.hasDictIn K C=true)
  (hw:PySem.Within mA ns) (hsz:ns.length<=sizeLine)
  (h:∀ h',mJ h' x dx C (fun y=>if y=name then some v else mA y)->Heap.SameBut dx s.heap h'->Q () { s with heap:=h',toks:=s.toks+2 }) :
  wpAny (model prog w) A (setAttr (.ref x) name v) Q E s:=by
 obtain⟨od,J,hl⟩:=I.look;refine PySem.W.set_plain X J hs (PySem.W.osa_open (s:={ s with toks:=s.toks+1 }) (r:=none) X J hp ht fun b=>?_);obtain⟨cd,hc,hd'⟩:=PySem.W.any_some hh;have hx:s.heap.get? x=some ⟨.ref C,some dx,.plain,#[]⟩:=I.obj;refine xO (xR (xO (xO (wpAny_loadPart hx (xO (PySem.W.Looks.here (s:={ s with toks:=s.toks+1 }) (PySem.W.looks_clsIn X hc) ?_))))));rw[hd'];refine xR (a:=some dx) (xO (xR (xO ?_)));refine wpAny_nsSet1 (s:={ s with toks:=s.toks+1 }) I.ns fun h' hn2 hs2=>?_;obtain⟨oD,esD,epD,hoD,hdD,hcD⟩:=hn2.count (PySem.Within.cons name v hw);refine xO (wpAny_lookBehind hoD (by rw[hdD];exact pastItsLine_dict (yA hcD (by rw[yt];omega))) ?_);exact xR (h _ ⟨(hs2.2 _ (yo I.ne)).trans I.obj,hn2,I.ne⟩ hs2)
theorem qt {R:Result->Shared->Prop}{vs:List Value}{kw:List (Str×Value)}(X:K.In s.heap)(hm:PySem.W.makesIn K C=true)
  (hi:PySem.W.findIn K (.ref C) "__init__" = some (some (.ref f))) (hf:PySem.W.typeIn K (.ref f)=some (.type "function"))
  (h:codeAny (model prog w) (A.under (.builtin "type.__call__" ⟨.ref C::vs,kw⟩)) (.call (.ref f) ⟨.ref (s.heap.objs.size+1)::vs,kw⟩) (PySem.W.InitBack (s.heap.objs.size+1) R)
   { s with heap:=(s.heap.push PySem.W.emptyDict).push (PySem.W.instObj C s.heap.objs.size) }) :
  codeAny (model prog w) A (.call (.ref C) ⟨vs,kw⟩) R s:=by
 obtain⟨hh,g,d,t,os⟩:=s;exact PySem.W.make_core (PySem.W.makes_of X hm) (PySem.W.looks_findIn X hi) (fun self=>PySem.W.bind_fn X self hf) (.inl rfl) h
end
def cE (f:Str)(v:V):List (Str×V)->List (Str×V)
 | []=>[(f,v)]
 | (g,x)::r=>if g=f then (g,v)::r else (g,x)::cE f v r
theorem aW (f g:Str)(v:V):∀ fs:List (Str×V),(cE f v fs).lookup g=if g=f then some v else fs.lookup g
 | []=>by
  show List.lookup g [(f,v)]=_
  by_cases h:g=f
  ·have hb:(g == f)=true:=zz.mpr h
   simp only[List.lookup,hb,x4 h]
  ·have hb:(g == f)=false:=zk.mpr h
   simp only[List.lookup,hb,xV h]
 | (k,x)::r=>by
  have ih:=aW f g v r;rw[show cE f v ((k,x)::r)=(if k=f then (k,v)::r else (k,x)::cE f v r) from rfl]
  by_cases hk:k=f
  ·rw[x4 hk]
   by_cases h:g=k
   ·have hb:(g == k)=true:=zz.mpr h
    simp only[List.lookup,hb,x4 (h.trans hk)]
   ·have hb:(g == k)=false:=zk.mpr h
    simp only[List.lookup,hb,xV (fun e:g=f=>h (e.trans hk.symm))]
  ·rw[xV hk]
   by_cases h:g=k
   ·have hb:(g == k)=true:=zz.mpr h
    simp only[List.lookup,hb,xV (fun e:g=f=>hk (h.symm.trans e))]
   ·have hb:(g == k)=false:=zk.mpr h
    simp only[List.lookup,hb];exact ih
theorem h9 (f:Str)(v:V):∀ fs:List (Str×V),f∈(cE f v fs).map (·.1)/\∀ g,g∈fs.map (·.1)->g∈(cE f v fs).map (·.1)
 | []=>⟨by simp[cE],fun g h=>by simp at h⟩
 | (k,x)::r=>by
  obtain⟨i1,i2⟩:=h9 f v r;rw[show cE f v ((k,x)::r)=(if k=f then (k,v)::r else (k,x)::cE f v r) from rfl]
  by_cases hk:k=f
  ·rw[x4 hk]
   subst hk;exact⟨by simp,fun g h=>by simpa using h⟩
  ·rw[xV hk]
   refine⟨?_,fun g h=>?_⟩
   ·rw[yf]
    exact xY _ i1
   ·rw[yf]at h ⊢
    rcases ya.mp h with e | e
    ·exact ya.mpr (.inl e)
    ·exact xY _ (i2 g e)
theorem iN (f:Str)(v:V):∀ fs:List (Str×V),(cE f v fs).length<=fs.length+1
 | []=>by simp[cE]
 | (k,x)::r=>by
  have ih:=iN f v r;rw[show cE f v ((k,x)::r)=(if k=f then (k,v)::r else (k,x)::cE f v r) from rfl]
  by_cases hk:k=f
  ·rw[x4 hk,yt,yt];omega
  ·rw[xV hk,yt,yt];omega
theorem eO.some_of {v:V}{o:Option Value}(r:eO (some v) o):∃ u,o=some u/\aD v u:=by
 cases o with
 | none=>exact (show False from r).elim
 | some u=>exact⟨u,rfl,r⟩
theorem eO.none_of {o:Option Value}(r:eO none o):o=none:=by
 cases o with
 | none=>rfl
 | some u=>exact (show False from r).elim
theorem pk {v:V}{u:Value}(r:aD v u):PySem.W.handedIn u=true:=by
 cases v with
 | non=>cases (show u=Value.none from r);rfl
 | bl b=>cases (show u=Value.bool b from r);rfl
 | int i=>obtain⟨t,e⟩:=(show ∃ t,u=Value.int i t from r);cases e;rfl
 | str x=>obtain⟨t,e⟩:=(show ∃ t,u=Value.str x t from r);cases e;rfl
 | byt b=>obtain⟨t,e⟩:=(show ∃ t,u=Value.bytes b t from r);cases e;rfl
 | flt b=>obtain⟨t,e⟩:=(show ∃ t,u=Value.float b t from r);cases e;rfl
 | ref a=>cases (show u=Value.ref a from r);rfl
 | ty n=>cases (show u=Value.type n from r);rfl
section
variable {P:Program}{w:World}{H H':Hp}{h h':Heap}{a C dx:Addr}{fs fs':List (Str×V)}
theorem i9 (hok:eQ P w H h)(e:H a=some (.ins C dx fs)):∃ mA,mJ h a dx C mA/\(∀ f,eO (fs.lookup f) (mA f))/\PySem.Within mA (fs.map (·.1))/\fs.length<=1000/\H dx=some (.own a):=by
 obtain⟨d,z,ne,ob,mA,n,r,q⟩:=(show aX P w H h a (.ins C dx fs) from hok a _ e);exact⟨mA,⟨ob,n,ne⟩,r,q,z,d⟩
end
structure nX (K:PySem.W.Frag)(C:Addr):Prop where
 pg:PySem.W.plainGet K C Str.empty=true
 hd:PySem.W.hasDictIn K C=true
 po:PySem.W.plainOver K C=true
 sa:PySem.W.findIn K (.ref C) "__setattr__" = some (some (.builtin "object.__setattr__"))
theorem nX.get {K:PySem.W.Frag}{C:Addr}(c:nX K C)(f:Str):PySem.W.plainGet K C f=true:=c.pg
def d4 (K:PySem.W.Frag)(C:Addr)(f:Str):Prop:=PySem.W.findIn K (.ref C) f=some none
theorem d4.taker {K:PySem.W.Frag}{C:Addr}{f:Str}(n:d4 K C f):PySem.W.takerIn K C f=some none:=by
 unfold PySem.W.takerIn;rw[show PySem.W.findIn K (.ref C) f=some none from n];rfl
structure rC (K:PySem.W.Frag)(C:Addr)(m:Str)(f:Addr):Prop where
 at_:PySem.W.findIn K (.ref C) m=some (some (.ref f))
 fn:PySem.W.isFn K (.ref f)=true
 kp:PySem.W.keepIn K (.ref f)=true
section
variable {X:Cx}{pins:List (Addr×Obj)}{σ:St}{H:Hp}{s:Shared}{a C dx:Addr}{fs:List (Str×V)}{f:Str}{v:V}{A:Around}{E:Value->Shared->Prop}
theorem mX {b:Bool}{Q:Value->Shared->Prop}(I:am X pins σ H s)(e:H a=some (.ins C dx fs))(c:nX X.K C)(n:d4 X.K C f)(l:fs.lookup f=some v)
  (h:∀ u s',am X pins σ H s'->aD v u->Q u s'):wpAny (model X.prog X.w) A (getAttr (.ref a) f b) Q E s:=by
 obtain⟨mA,O,r,_,_,_⟩:=i9 I.hok e;obtain⟨u,hu,ru⟩:=eO.some_of (v:=v) (o:=mA f) (by rw[<-l];exact r f);exact rQ I.kIn O (c.get f) c.hd n hu (pk ru) (h u _ (I.tok _) ru)
theorem gc {m:Str}{g:Addr}{pl:Sem Bool}{Q:Value×List Value->Shared->Prop}(I:am X pins σ H s)(e:H a=some (.ins C dx fs))(c:nX X.K C)(k:rC X.K C m g)(l:fs.lookup m=none)
  (h:Q (.ref g,[.ref a]) s):wpAny (model X.prog X.w) A (getMethod (.ref a) m pl) Q E s:=by
 obtain⟨mA,O,r,_,_,_⟩:=i9 I.hok e;have hn:mA m=none:=eO.none_of (by rw[<-l];exact r m);exact qh I.kIn O (c.get m) k.at_ k.fn hn h
theorem nI {y:V}{u:Value}{Q:Unit->Shared->Prop}(I:am X pins σ H s)(e:H a=some (.ins C dx fs))(c:nX X.K C)(n:d4 X.K C f)(hl:fs.length<1000)(ry:aD y u)
  (h:∀ s',am X pins σ (aH H a (.ins C dx (cE f y fs))) s'->Q () s'):wpAny (model X.prog X.w) A (setAttr (.ref a) f u) Q E s:=by
 obtain⟨mA,O,r,wi,_,ho⟩:=i9 I.hok e
 have hz:(fs.map (·.1)).length<=sizeLine:=by rw[xP,yG];omega
 refine sk I.kIn O c.sa c.po n.taker c.hd wi hz fun h' O' sb=>h _ ?_;have hd:∃ o,h'.get? dx=some o:=let ⟨o,_,_,e',_⟩:=O'.ns;⟨o,e'⟩;refine I.write (x:=a) (e:=dx) (by rw[e];exact True.intro) (.inr ho) (fun b q hb z=>(sb.2 b hb).trans z) hd ?_;refine⟨by rw[ak O.ne];exact ho,?_,O.ne,O'.obj,_,O'.ns,fun g=>?_,fun g hg=>?_⟩
 ·have:=iN f y fs;omega
 ·show eO ((cE f y fs).lookup g) (if g=f then some u else mA g)
  rw[aW]
  by_cases q:g=f
  ·rw[x4 q,x4 q];exact ry
  ·rw[xV q,xV q];exact r g
 ·by_cases q:g=f
  ·rw[q];exact (h9 f y fs).1
  ·refine (h9 f y fs).2 g (wi g fun z=>hg ?_)
   show (if g=f then some u else mA g)=none
   rw[xV q];exact z
theorem am.made (I:am X pins σ H s):am X pins σ (aH (aH H s.heap.objs.size (.own (s.heap.objs.size+1))) (s.heap.objs.size+1) (.ins C s.heap.objs.size []))
  { s with heap:=(s.heap.push PySem.W.emptyDict).push (PySem.W.instObj C s.heap.objs.size) }:=by
 have e1:(s.heap.push PySem.W.emptyDict).get? s.heap.objs.size=some PySem.W.emptyDict:=Heap.get?_push_size s.heap rfl
 have e2:((s.heap.push PySem.W.emptyDict).push (PySem.W.instObj C s.heap.objs.size)).get? (s.heap.objs.size+1)=some (PySem.W.instObj C s.heap.objs.size):=by
  have:=Heap.get?_push_size (s.heap.push PySem.W.emptyDict) (o:=PySem.W.instObj C s.heap.objs.size) rfl
  rwa [yq]at this
 have e3:(s.heap.push PySem.W.emptyDict).Ns s.heap.objs.size (fun _=>none):=⟨PySem.W.emptyDict,#[],_,e1,rfl,(fun e he=>absurd he (by simp)),fun _=>rfl⟩;have I1:=I.laid (a:=s.heap.objs.size) (o:=.own (s.heap.objs.size+1)) (h':=s.heap.push PySem.W.emptyDict) (t':=s.toks) (fun b u q=>Heap.get?_push_of_some _ q) (xT _) ⟨_,e1⟩;refine I1.laid (a:=s.heap.objs.size+1) (o:=.ins C s.heap.objs.size []) (t':=s.toks) (fun b u q=>Heap.get?_push_of_some _ q) (Nat.le_of_eq (yq _ _)) ?_;have ne:s.heap.objs.size≠s.heap.objs.size+1:=x5 (zj _);refine⟨by rw[ak ne,aa],yg _,ne,e2,fun _=>none,(Heap.Ns1.of_empty e3).at fun o q=>Heap.get?_push_of_some _ q,fun _=>True.intro,fun y hy=>absurd rfl hy⟩
theorem rF {prog:Program}{w:World}{env:Env}{e:Expr}{f:Str}{pos:Pos}{s:Shared}{Q:Value->Shared->Prop}(hb:attributeBase e f env (eval e env)=eval e env)
  (h:wpAny (model prog w) A (eval e env) (fun o s₁=>wpAny (model prog w) A (getAttr o f true) Q E s₁) E s):wpAny (model prog w) A (eval (.Attribute e f pos) env) Q E s :=
 Attribute_any_ h (by rw[arm_eval_Attribute,hb])
end
inductive xc (K:PySem.W.Frag) (f:Str) (Q:VK) (x:V) (H:Hp):Prop
 | mk (a C dx:Addr) (fs:List (Str×V)) (v:V) (e:x=.ref a) (o:H a=some (.ins C dx fs)) (c:nX K C) (n:d4 K C f) (l:fs.lookup f=some v) (h:Q v H):xc K f Q x H
def wN (K:PySem.W.Frag)(ta:TE)(f:Str):TE:=fun σ H Q=>ta σ H fun x H1=>xc K f Q x H1
def wH (K:PySem.W.Frag)(ta tv:TE)(f:Str):TS:=fun D σ H=>tv σ H fun y H1=>ta σ H1 fun x H2=>∃ a C dx fs,x=.ref a/\H2 a=some (.ins C dx fs)/\nX K C/\d4 K C f/\fs.length<1000 /\
 D.nx σ (aH H2 a (.ins C dx (cE f y fs)))
section
variable {X:Cx}{o e value:Expr}{f:Str}{pos pos' tpos:Pos}{ta tv:TE}
theorem dN (he:PE X e ta)(hb:attributeBase e f X.env (eval e X.env)=eval e X.env):PE X (.Attribute e f pos) (wN X.K ta f):=by
 intro pins s σ H Q I h;refine rF hb (aU (he pins s σ H _ I h) fun u s1 ⟨x,H1,I1,rx,a,C,dx,fs,v,ex,ea,c,n,l,q⟩=>?_);subst ex;obtain rfl:u=Value.ref a:=rx;exact mX I1 ea c n l fun u' s2 I2 ru=>⟨v,H1,I2,ru,q⟩
theorem nB (ha:PE X o ta)(hv:PE X value tv)(hs:swapsWith value (some (.Attribute o f pos')) pos.line X.env=pure false):PS X (.Assign [.Attribute o f pos'] value pos) (wH X.K ta tv f):=by
 intro pins s σ H D I h;refine plainObj_wpAny_Assign_Attribute (aU (hv pins s σ H _ I h) fun u s1 ⟨y,H1,I1,ry,q⟩=>aU (ha pins s1 σ H1 _ I1 q) fun ov s2 ⟨x,H2,I2,rx,a,C,dx,fs,ex,ea,c,n,l,q2⟩=>?_) hs;subst ex;obtain rfl:ov=Value.ref a:=rx;exact nI I2 ea c n l ry fun s3 I3=>⟨σ,_,I3,q2⟩
end
section
variable {X:Cx}{pins:List (Addr×Obj)}{σ:St}{H:Hp}{s:Shared}{A:Around}{E:Value->Shared->Prop}{Q:Value->Shared->Prop}{c:Value}{b:Bool}
inductive gu (K:PySem.W.Frag) (H:Hp):V->Value->Prop where
 | non:gu K H .non (.type "NoneType")
 | bl (x:Bool):gu K H (.bl x) (.type "bool")
 | int (i:Int):gu K H (.int i) (.type "int")
 | str (x:Str):gu K H (.str x) (.type "str")
 | flt (x:UInt64):gu K H (.flt x) (.type "float")
 | lst {a:Addr} {xs:List V} (e:H a=some (.lst xs)):gu K H (.ref a) (.type "list")
 | frz {a:Addr} {o:Obj} {xs:List V} (e:H a=some (.frz o (.lst xs))):gu K H (.ref a) (.type "list")
 | tup {a:Addr} {xs:List V} (e:H a=some (.tup xs)):gu K H (.ref a) (.type "tuple")
 | dK {a:Addr} {kvs:List (bV×V)} (e:H a=some (.dK kvs)):gu K H (.ref a) (.type "dict")
 | dT {a:Addr} {kvs:List (List bV×V)} (e:H a=some (.dT kvs)):gu K H (.ref a) (.type "dict")
 | ins {a C dx:Addr} {fs:List (Str×V)} (e:H a=some (.ins C dx fs)) (cl:nX K C) (ha:PySem.W.findIn K (.ref C) "__class__" = some (some (.builtin "object.__class__")))
   (hn:PySem.W.specialIn K (.builtin "object.__class__") "__get__" = some (some (.builtin "getset_descriptor.__get__"))) (htk:PySem.W.takesIn K (.builtin "object.__class__")=some true)
   (hm:PySem.W.mroIn K C (.type "object")=some true):gu K H (.ref a) (.ref C)
theorem py {x:V}{u t:Value}(I:am X pins σ H s)(rx:aD x u)(ty:gu X.K H x t)(e:PySem.W.kitOne X.K t c=some b)(h:∀ tk,Q (.bool b) { s with toks:=tk }) :
  wpAny (model X.prog X.w) A (call (.builtin "isinstance") [u,c]) Q E s:=by
 cases ty with
 | non=>cases (show u=Value.none from rx);exact yO PySem.W.kitx_none I.kIn True.intro e (fun z=>nomatch z) h
 | bl y=>cases (show u=Value.bool y from rx);exact yO PySem.W.kitx_bool I.kIn True.intro e (fun z=>nomatch z) h
 | int i=>obtain⟨t,q⟩:=(show ∃ t,u=Value.int i t from rx);cases q;exact yO PySem.W.kitx_int I.kIn True.intro e (fun z=>nomatch z) h
 | str y=>obtain⟨t,q⟩:=(show ∃ t,u=Value.str y t from rx);cases q;exact yO PySem.W.kitx_str I.kIn True.intro e (fun z=>nomatch z) h
 | flt y=>obtain⟨t,q⟩:=(show ∃ t,u=Value.float y t from rx);cases q;exact yO PySem.W.kitx_float I.kIn True.intro e (fun z=>nomatch z) h
 | @lst a xs ea =>
  cases (show u=Value.ref a from rx);obtain⟨_,_,n,_,h1⟩:=(show aX X.prog X.w H s.heap a (.lst xs) from I.hok a _ ea);exact yO PySem.W.kitx_list I.kIn ⟨_,h1,rfl⟩ e (fun z=>nomatch z) h
 | @frz a ob xs ea =>
  cases (show u=Value.ref a from rx);obtain⟨_,_,_,n,_,h1⟩:=(show aX X.prog X.w H s.heap a (.frz ob (.lst xs)) from I.hok a _ ea);exact yO PySem.W.kitx_list I.kIn ⟨_,h1,rfl⟩ e (fun z=>nomatch z) h
 | @tup a xs ea =>
  cases (show u=Value.ref a from rx);obtain⟨_,_,_,p⟩:=(show aX X.prog X.w H s.heap a (.tup xs) from I.hok a _ ea);obtain⟨o,h1,h2,_⟩:=p;exact yO PySem.W.kitx_tuple I.kIn ⟨o,h1,h2⟩ e (fun z=>nomatch z) h
 | @dK a kvs ea =>
  cases (show u=Value.ref a from rx);obtain⟨_,_,vs,_,p⟩:=(show aX X.prog X.w H s.heap a (.dK kvs) from I.hok a _ ea);obtain⟨o,es,ep,h1,h2,_⟩:=p;exact yO PySem.W.kitx_dict I.kIn ⟨o,h1,h2.1⟩ e (fun z=>nomatch z) h
 | @dT a kvs ea =>
  cases (show u=Value.ref a from rx);obtain⟨_,_,xs,_,o,es,ep,h1,h2,_⟩:=(show aX X.prog X.w H s.heap a (.dT kvs) from I.hok a _ ea);exact yO PySem.W.kitx_dict I.kIn ⟨o,h1,h2.1⟩ e (fun z=>nomatch z) h
 | @ins a C dx fs ea cl ha hn htk hm =>
  cases (show u=Value.ref a from rx);obtain⟨mA,O,_⟩:=i9 I.hok ea;obtain⟨od,J,_⟩:=O.look;exact yO (PySem.W.kitx_own (cl.get _) cl.hd ha hn htk hm) I.kIn J e (fun z=>nomatch z) h
end
structure bJ (k:Nat)(A:Around):Prop where
 hd:A.handled=none
 dp:A.depth+3*k+5<recursionLimit
 un:A.units+16*k+200<cLine
theorem bJ.mono {j k:Nat}{A:Around}(r:bJ k A)(h:j<=k):bJ j A:=⟨r.hd,by have:=r.dp;omega,by have:=r.un;omega⟩
theorem bJ.deeper {k:Nat}{A:Around}(r:bJ (k+1) A)(env:Env):bJ k (A.deeper env) :=
 ⟨r.hd,by have:=r.dp;show A.depth+1+3*k+5<_;omega,by have:=r.un;show A.units+3+16*k+200<_;omega⟩
theorem m6 {A:Around}{C:Addr}{us:List Value}{kw:List (Str×Value)}:(A.under (.builtin "type.__call__" ⟨.ref C::us,kw⟩)).depth=A.depth+1:=by
 first | rfl | simp[Around.under,Code.weight,Code.isCreation,Code.isGuard,Code.isCaller,Code.frames,Code.isFrame,guardIds]
theorem m7 {A:Around}{C:Addr}{us:List Value}{kw:List (Str×Value)}:(A.under (.builtin "type.__call__" ⟨.ref C::us,kw⟩)).units=A.units+1:=by
 first | rfl | simp[Around.under,Code.cUnits,Code.frames,Code.isFrame]
theorem bJ.make {k:Nat}{A:Around}(r:bJ (k+1) A)(C:Addr)(us:List Value)(kw:List (Str×Value)):bJ k (A.under (.builtin "type.__call__" ⟨.ref C::us,kw⟩)) :=
 ⟨r.hd,by have:=r.dp;rw[m6];omega,by have:=r.un;rw[m7];omega⟩
theorem bJ.depth {k:Nat}{A:Around}(r:bJ k A):A.depth<recursionLimit:=by have:=r.dp;omega
theorem bJ.units {k:Nat}{A:Around}(r:bJ k A):A.units+64<cLine:=by have:=r.un;omega
def kj:TA:=fun _ H Q=>Q [] H
def g9 (ta:TE)(tr:TA):TA:=fun σ H Q=>ta σ H fun x H1=>tr σ H1 fun xs H2=>Q (x::xs) H2
section
variable {X:Cx}{e:Expr}{es:List Expr}{te:TE}{t:TA}{pos:Pos}
theorem a8:PA X [] kj:=fun _ _ _ _ H Q I h=>Calls.spliced_nil ⟨[],H,I,.nil,h⟩
theorem aF (ha:PE X e te)(hr:PA X es t)(hs:starEach (e::es) X.env=(false,eval e X.env)::starEach es X.env:=by rfl):PA X (e::es) (g9 te t):=by
 intro pos pins s σ H Q I h;rw[hs]
 show wpAny _ _ (spliced ((false,eval e X.env)::backTo pos (starEach es X.env))) _ _ s
 refine Calls.spliced_cons (aU (ha pins s σ H _ I h) fun u s1 ⟨x,H1,I1,r1,q1⟩=>?_);exact aU (hr pos pins s1 σ H1 _ I1 q1) fun us s2 ⟨xs,H2,I2,r2,q2⟩=>⟨x::xs,H2,I2,.cons r1 r2,q2⟩
def wS (t:TA):TE:=fun σ H Q=>t σ H fun xs H1=>xs.length<=sizeLine/\∀ p,H1 p=none->Q (.ref p) (aH H1 p (.tup xs))
def uJ (t:TA):TE:=fun σ H Q=>t σ H fun xs H1=>xs.length<=sizeLine/\∀ p,H1 p=none->Q (.ref p) (aH H1 p (.lst xs))
theorem bg {x1}(h:PA X es t):PE X (.Tuple es x1 pos) (wS t):=by
 intro pins s σ H Q I hq;refine wpAny_Tuple_spliced (aU (h pos pins s σ H _ I hq) fun us s1 ⟨xs,H1,I1,r,z,q⟩=>⟨by rw[<-r.length];exact z,?_⟩);have hf:H1 s1.heap.objs.size=none:=I1.hok.fresh (xT _);refine⟨.ref s1.heap.objs.size,aH H1 s1.heap.objs.size (.tup xs),I1.laid (t':=s1.toks) (fun b u e=>Heap.get?_push_of_some _ e) (xT _) ?_,rfl,q _ hf⟩;exact⟨z,us,r,⟨_,Heap.get?_push_size _ rfl,rfl,_,rfl⟩⟩
theorem bC (h:PA X es t):PE X (.List es pos) (uJ t):=by
 intro pins s σ H Q I hq;refine wpAny_List_spliced (aU (h pos pins s σ H _ I hq) fun us s1 ⟨xs,H1,I1,r,z,q⟩=>⟨by rw[<-r.length];exact z,?_⟩);have hf:H1 s1.heap.objs.size=none:=I1.hok.fresh (xT _);refine⟨.ref s1.heap.objs.size,aH H1 s1.heap.objs.size (.lst xs),I1.laid (t':=s1.toks) (fun b u e=>Heap.get?_push_of_some _ e) (xT _) ?_,rfl,q _ hf⟩;exact⟨z,us,0,r,Heap.get?_push_size _ rfl⟩
end
abbrev Sp:=List V->Hp->VK->XK->Prop
abbrev mG:=List Env->Hp->Shared->XK->Value->Shared->Prop
structure mI (P:Program)(w:World)(K:PySem.W.Frag)(mg:Str->Option Value)(base:Heap)(A:Around)(outer:List Env)(s:Shared)(H:Hp):Prop where
 frames:A.frames=some outer
 mod:Mod K mg base
 bs:∀ b o,base.get? b=some o->s.heap.get? b=some o/\H b=none
 bsz:base.objs.size<=s.heap.objs.size
 funs:s.heap.FunFrames base outer
 frf:∀ b∈fB outer,H b=none
 hok:eQ P w H s.heap
 bare:AllBare s.gens
def CE (outer:List Env)(P:Program)(w:World)(H:Hp)(s:Shared)(Q:VK)(u:Value)(s':Shared):Prop :=
 ∃ v H',s'.os=s.os/\AllBare s'.gens/\Un (fB outer) [] H H' s.heap s'.heap/\eQ P w H' s'.heap/\aD v u/\Q v H'
def CR (CX:mG)(outer:List Env)(P:Program)(w:World)(H:Hp)(s:Shared)(Q:VK)(E:XK)(r:Result)(s':Shared):Prop :=
 match r with
 | .ok (.ret u)=>CE outer P w H s Q u s'
 | .ok _=>False
 | .error e=>CX outer H s E e s'
structure a9 (P:Program)(w:World)(K:PySem.W.Frag)(mg:Str->Option Value)(base:Heap)(CX:mG)(k:Nat)(f:Addr)(fd:FuncData)(ps:List Str)(sp:Sp):Prop where
 len:∀ vs H Q E,sp vs H Q E->vs.length=ps.length
 run:∀ (A:Around)(outer:List Env)(s:Shared)(H:Hp)(args:Args)(us:List Value)(vs:List V)(Q:VK)(E:XK),bJ k A->mI P w K mg base A outer s H->BindsTo s fd args (ps.zip us)->Vals vs us->sp vs H Q E ->
  codeAny (model P w) A (.call (.ref f) args) (CR CX outer P w H s Q E) s
theorem mI.make {P:Program}{w:World}{K:PySem.W.Frag}{mg:Str->Option Value}{base:Heap}{A:Around}{outer:List Env}{s:Shared}{H:Hp}(e:mI P w K mg base A outer s H)(C:Addr)(us:List Value)(kw:List (Str×Value)) :
  mI P w K mg base (A.under (.builtin "type.__call__" ⟨.ref C::us,kw⟩)) outer s H:=⟨by first | exact e.frames | (simpa [Around.under,Code.envs,Code.isFrame,pushEnvs] using e.frames),e.mod,e.bs,e.bsz,e.funs,e.frf,e.hok,e.bare⟩
section
variable {X:Cx}{pins:List (Addr×Obj)}{σ:St}{H:Hp}{s s':Shared}
theorem am.env0 (I:am X pins σ H s):mI X.prog X.w X.K X.mg X.base X.A X.stack s H :=
 ⟨I.ok.frames,I.ok.mod,I.bs,yA I.ok.bsz I.sz,I.stack,I.stkFree,I.hok,I.bare⟩
theorem am.after {Q:VK}{u:Value}(I:am X pins σ H s)(h:CE X.stack X.prog X.w H s Q u s'):EP X pins σ Q u s':=by
 obtain⟨v,H',os,bare,un,hok,r,q⟩:=h;obtain⟨hh,g,d,t,os'⟩:=s';obtain rfl:os'=s.os:=os;exact⟨v,H',I.call (h':=hh) (g':=g) (d':=d) (t':=t) (ch:=[]) un hok bare (fun b z=>absurd z (by simp)),r,q⟩
end
def qZ (sp:Sp)(dvs:List V)(E:XK)(t:TA):TE:=fun σ H Q=>t σ H fun vs H1=>sp (vs++dvs) H1 Q E
inductive xg (C:Addr) (m:Str) (sp:Sp) (dvs:List V) (E:XK) (t:TA) (σ:St) (Q:VK) (x:V) (H:Hp):Prop
 | mk (a dx:Addr) (fs:List (Str×V)) (e:x=.ref a) (o:H a=some (.ins C dx fs)) (l:fs.lookup m=none) (h:t σ H fun vs H2=>sp (x::(vs++dvs)) H2 Q E):xg C m sp dvs E t σ Q x H
def mv (C:Addr)(m:Str)(sp:Sp)(dvs:List V)(E:XK)(ta:TE)(t:TA):TE:=fun σ H Q=>ta σ H fun x H1=>xg C m sp dvs E t σ Q x H1
def sV (C:Addr)(sp:Sp)(dvs:List V)(E:XK)(t:TA):TE:=fun σ H Q=>t σ H fun vs H1=>∀ x dx,H1 x=none->H1 dx=none->dx≠x ->
 sp (.ref x::(vs++dvs)) (aH (aH H1 dx (.own x)) x (.ins C dx [])) (fun v H2=>v=.non/\Q (.ref x) H2) E
def dR (K:PySem.W.Frag)(fd:FuncData)(ps:List Str)(ds:List Value):Prop :=
 ∀ (s:Shared)(us:List Value),K.In s.heap->(us++ds).length=ps.length->BindsTo s fd ⟨us,[]⟩ (ps.zip (us++ds))
theorem dR.all {K:PySem.W.Frag}{fd:FuncData}{ps:List Str}(h:∀ us:List Value,us.length=ps.length->bindArgs fd ⟨us,[]⟩=pure (ps.zip us)):dR K fd ps []:=fun s us _ hl=>by
 rw[List.append_nil]at hl ⊢;exact .of_eq (h us hl)
def cW (CX:mG)(X:Cx)(E:XK):Prop:=∀ (pins:List (Addr×Obj))(σ:St)(H:Hp)(s:Shared)(e:Value)(s':Shared),am X pins σ H s->CX X.stack H s E e s'->X.xe e s'
section
variable {X:Cx}{CX:mG}{k:Nat}{f C:Addr}{fd:FuncData}{ps:List Str}{sp:Sp}{dvs:List V}{ds:List Value}{E:XK}{x m:Str}{p pos apos:Pos}{e o:Expr}{es:List Expr}{ta:TE}{t:TA}
theorem nG {pins:List (Addr×Obj)}{σ:St}{H:Hp}{s:Shared}{Q:VK}{us:List Value}{vs:List V}(F:a9 X.prog X.w X.K X.mg X.base CX k f fd ps sp)(hr:bJ k X.A)(hb:dR X.K fd ps ds)(hd:Vals dvs ds)(hx:cW CX X E)
  (I:am X pins σ H s) (r:Vals vs us) (h:sp (vs++dvs) H Q E):wpAny (model X.prog X.w) X.A (call (.ref f) us) (EP X pins σ Q) X.xe s:=by
 have r2:Vals (vs++dvs) (us++ds):=r.append hd
 have hl:(us++ds).length=ps.length:=by rw[<-r2.length];exact F.len _ _ _ _ h
 refine wpAny_call (zy (F.run X.A X.stack s H ⟨us,[]⟩ (us++ds) (vs++dvs) Q E hr I.env0 (hb s us I.kIn hl) r2 h) fun r s' hq=>?_)
 cases r with
 | error e=>exact hx pins σ H s e s' I hq
 | ok fl =>
  cases fl with
  | ret u=>exact I.after hq
  | next=>exact False.elim hq
  | brk=>exact False.elim hq
  | cont=>exact False.elim hq
theorem oA (F:a9 X.prog X.w X.K X.mg X.base CX k f fd ps sp)(hr:bJ k X.A)(hg:Gl X x)(hm:X.mg x=some (.ref f))(hk:PySem.W.keepIn X.K (.ref f)=true)(hb:dR X.K fd ps ds)(hd:Vals dvs ds)(hx:cW CX X E)
  (ha:PA X (e::es) t) (hdb:(x == ("__debug__" : Str))=false:=by decide) (he:starEach (e::es) X.env=(false,eval e X.env)::starEach es X.env:=by rfl) (hpl:(backTo pos (starEach es X.env)).any (·.1)=false:=by rfl) :
  PE X (.Call (.Name x p) (e::es) [] pos) (qZ sp dvs E t):=by
 intro pins s σ H Q I h;refine yJ (gF I hg hm ?_ hdb);refine PySem.W.callWith_K (h₀:=X.base) I.ok.mod.kin hk (aU (ha pos pins s σ H _ I h) fun us s1 ⟨vs,H1,I1,r,q⟩=>⟨I1.kIn,?_⟩) he hpl;exact nG F hr hb hd hx I1 r q
theorem sf {pl:Sem Bool}(he:PE X o ta)(c:nX X.K C)(hm:rC X.K C m f)(F:a9 X.prog X.w X.K X.mg X.base CX k f fd ps sp)(hr:bJ k X.A)(hb:dR X.K fd ps ds)(hd:Vals dvs ds)(hx:cW CX X E)(ha:PA X (e::es) t)
  (hst:starEach (e::es) X.env=(false,eval e X.env)::starEach es X.env:=by rfl) (hpl:(backTo pos (starEach es X.env)).any (·.1)=false:=by rfl)
  (ht:eval (.Call (.Attribute o m apos) (e::es) [] pos) X.env=(do
   let ov <-eval o X.env
   standAt apos.atName
   let (f,first) <-holding [ov] (getMethod ov m pl)
   callWith pos f first (backTo pos (starEach (e::es) X.env)) (backToKw pos (keywordEach [] X.env))):=by rfl) :
  PE X (.Call (.Attribute o m apos) (e::es) [] pos) (mv C m sp dvs E ta t):=by
 intro pins s σ H Q I h;refine PySem.W.methodCall_KW (pl:=pl) (aU (he pins s σ H _ I h) fun u s1 ⟨x,H1,I1,rx,a,dx,fs,ex,ea,l,q⟩=>?_) ht;subst ex;obtain rfl:u=Value.ref a:=rx;refine gc I1 ea c hm l ?_;refine PySem.W.callWith_K (first:=[.ref a]) (h₀:=X.base) I.ok.mod.kin hm.kp (aU (ha pos pins s1 σ H1 _ I1 q) fun us s2 ⟨vs,H2,I2,r,q2⟩=>⟨I2.kIn,?_⟩) hst hpl;exact nG (us:=.ref a::us) (vs:=.ref a::vs) F hr hb hd hx I2 (.cons rfl r) q2
theorem qH {pl:Sem Bool}(he:PE X o ta)(c:nX X.K C)(hm:rC X.K C m f)(F:a9 X.prog X.w X.K X.mg X.base CX k f fd ps sp)(hr:bJ k X.A)(hb:dR X.K fd ps ds)(hd:Vals dvs ds)(hx:cW CX X E)
  (ht:eval (.Call (.Attribute o m apos) [] [] pos) X.env=(do
   let ov <-eval o X.env
   standAt apos.atName
   let (f,first) <-holding [ov] (getMethod ov m pl)
   callWith pos f first (backTo pos (starEach [] X.env)) (backToKw pos (keywordEach [] X.env))):=by rfl) :
  PE X (.Call (.Attribute o m apos) [] [] pos) (mv C m sp dvs E ta kj):=by
 intro pins s σ H Q I h;refine PySem.W.methodCall_KW (pl:=pl) (aU (he pins s σ H _ I h) fun u s1 ⟨x,H1,I1,rx,a,dx,fs,ex,ea,l,q⟩=>?_) ht;subst ex;obtain rfl:u=Value.ref a:=rx;refine gc I1 ea c hm l ?_;exact PySem.W.callWith_K0 (first:=[.ref a]) I1.kIn hm.kp (nG (us:=[.ref a]) (vs:=[.ref a]) F hr hb hd hx I1 (.cons rfl .nil) q)
structure Mk (K:PySem.W.Frag)(C f:Addr):Prop where
 makes:PySem.W.makesIn K C=true
 init:PySem.W.findIn K (.ref C) "__init__" = some (some (.ref f))
 fn:PySem.W.isFn K (.ref f)=true
 kp:PySem.W.keepIn K (.ref C)=true
theorem qX {pins:List (Addr×Obj)}{σ:St}{H:Hp}{s:Shared}{Q:VK}{us:List Value}{vs:List V}(M:Mk X.K C f)(F:a9 X.prog X.w X.K X.mg X.base CX k f fd ps sp)(hr:bJ (k+1) X.A)(hb:dR X.K fd ps ds)(hd:Vals dvs ds)
  (hx:cW CX X E) (I:am X pins σ H s) (r:Vals vs us)
  (h:∀ x dx,H x=none->H dx=none->dx≠x->sp (.ref x::(vs++dvs)) (aH (aH H dx (.own x)) x (.ins C dx [])) (fun v H2=>v=.non/\Q (.ref x) H2) E) :
  wpAny (model X.prog X.w) X.A (call (.ref C) us) (EP X pins σ Q) X.xe s:=by
 have hq:=h (s.heap.objs.size+1) s.heap.objs.size (I.hok.fresh (Nat.le_succ _)) (I.hok.fresh (xT _)) (x5 (zj _));have I2:=am.made (C:=C) I;have r2:Vals (V.ref (s.heap.objs.size+1)::(vs++dvs)) (Value.ref (s.heap.objs.size+1)::(us++ds)):=.cons rfl (r.append hd)
 have hl:(Value.ref (s.heap.objs.size+1)::us++ds).length=ps.length:=by
  have e:=r2.length;rw[F.len _ _ _ _ hq]at e;exact e.symm
 refine wpAny_call (qt (f:=f) I.kIn M.makes M.init (zz.mp M.fn) (zy (F.run _ X.stack _ _ ⟨Value.ref (s.heap.objs.size+1)::us,[]⟩ (Value.ref (s.heap.objs.size+1)::(us++ds)) _ _ E (hr.make C us [])
  (I2.env0.make C us []) (hb _ (Value.ref (s.heap.objs.size+1)::us) I2.kIn hl) r2 hq) fun r s' hq'=>?_))
 cases r with
 | error e=>exact hx pins σ _ _ e s' I2 hq'
 | ok fl =>
  cases fl with
  | ret u =>
   obtain⟨v,H',I3,rv,ev,q3⟩:=I2.after hq';subst ev;exact⟨rv,⟨V.ref (s.heap.objs.size+1),H',I3,rfl,q3⟩⟩
  | next=>exact False.elim hq'
  | brk=>exact False.elim hq'
  | cont=>exact False.elim hq'
theorem qG (M:Mk X.K C f)(F:a9 X.prog X.w X.K X.mg X.base CX k f fd ps sp)(hr:bJ (k+1) X.A)(hg:Gl X x)(hm:X.mg x=some (.ref C))(hb:dR X.K fd ps ds)(hd:Vals dvs ds)(hx:cW CX X E)
  (hdb:(x == ("__debug__" : Str))=false:=by decide):PE X (.Call (.Name x p) [] [] pos) (sV C sp dvs E kj):=by
 intro pins s σ H Q I h;refine yJ (gF I hg hm ?_ hdb);exact PySem.W.callWith_K0 I.kIn M.kp (qX (us:=[]) M F hr hb hd hx I .nil h)
end
structure aC (N P:List Str)(sc:Scope):Prop where
 kind:sc.kind=.function
 co:sc.isCoroutine=false
 gen:sc.isGenerator=false
 nd:N.Nodup
 pre:N.take P.length=P
 par:∀ x∈P,sc.names.lookup x=some .local\/sc.names.lookup x=some .cell
 nofree:∀ y∈sc.names,y.2≠.free
theorem kr {kindOf:Str->Option NameKind}{x:Str}:∀ {binds:List (Str×Value)}{m:Str->Option Value},(∀ v,(x,v)∉binds)->bindL kindOf binds m x=m x
 | [],_,_=>rfl
 | (n,v)::r,m,h=>by
  unfold bindL;rw[kr fun w hw=>h w (xY _ hw)];split
  ·have:x≠n:=by rintro rfl;exact h v xZ
   simp[this]
  ·rfl
theorem ko {kindOf:Str->Option NameKind}{x:Str}:∀ {binds:List (Str×Value)}{m:Str->Option Value},(∀ v,(x,v)∉binds)->bindC kindOf binds m x=m x
 | [],_,_=>rfl
 | (n,v)::r,m,h=>by
  unfold bindC;rw[ko fun w hw=>h w (xY _ hw)];split
  ·rfl
  ·have:x≠n:=by rintro rfl;exact h v xZ
   simp[this]
theorem kq {kindOf:Str->Option NameKind}{x:Str}{v:Value}:∀ {P:List Str}{vs:List Value}{i:Nat}{m:Str->Option Value},P.Nodup->P[i]? = some x->vs[i]? = some v->kindOf x=some .local ->
  bindL kindOf (P.zip vs) m x=some v
 | [],_,_,_,_,h,_,_=>by simp at h
 | _::_,[],_,_,_,_,h,_=>by simp at h
 | p::P,w::vs,0,m,nd,h1,h2,hk=>by
  simp at h1 h2;subst h1;subst h2
  show bindL kindOf ((p,w)::P.zip vs) m p=_
  unfold bindL;rw[kr fun v hv=>(yV.mp nd).1 (List.of_mem_zip hv).1,x4 hk];simp
 | p::P,w::vs,i+1,m,nd,h1,h2,hk=>by
  show bindL kindOf ((p,w)::P.zip vs) m x=_
  unfold bindL;exact kq (i:=i) (yV.mp nd).2 (by simpa using h1) (by simpa using h2) hk
theorem km {kindOf:Str->Option NameKind}{x:Str}{v:Value}:∀ {P:List Str}{vs:List Value}{i:Nat}{m:Str->Option Value},P.Nodup->P[i]? = some x->vs[i]? = some v->kindOf x≠some .local ->
  bindC kindOf (P.zip vs) m x=some v
 | [],_,_,_,_,h,_,_=>by simp at h
 | _::_,[],_,_,_,_,h,_=>by simp at h
 | p::P,w::vs,0,m,nd,h1,h2,hk=>by
  simp at h1 h2;subst h1;subst h2
  show bindC kindOf ((p,w)::P.zip vs) m p=_
  unfold bindC;rw[ko fun v hv=>(yV.mp nd).1 (List.of_mem_zip hv).1,xV hk];simp
 | p::P,w::vs,i+1,m,nd,h1,h2,hk=>by
  show bindC kindOf ((p,w)::P.zip vs) m x=_
  unfold bindC;exact km (i:=i) (yV.mp nd).2 (by simpa using h1) (by simpa using h2) hk
def gZ (N:List Str)(vs:List V):St:=vs.map some++List.replicate (N.length-vs.length) none
def ju (CX:mG)(P:Program)(w:World)(K:PySem.W.Frag)(mg:Str->Option Value)(base:Heap)(N:List Str)(qual:Str)(scope:Scope)(f:Addr)(cd:Value)(A:Around)(outer:List Env)(s:Shared)(H:Hp)(E:XK):Cx where
 prog:=P
 w:=w
 K:=K
 mg:=mg
 base:=base
 A:=A.deeper (envOfC qual scope s.heap.objs.size f cd)
 N:=N
 s₀:=s
 H₀:=H
 env:=envOfC qual scope s.heap.objs.size f cd
 outer:=outer
 stack:=envOfC qual scope s.heap.objs.size f cd::outer
 ex:=[]
 calm:=true
 fn:=fun _=>true
 pn:=[]
 xe:=fun e s'=>wpAny (model P w) (A.deeper (envOfC qual scope s.heap.objs.size f cd)) (leaving (envOfC qual scope s.heap.objs.size f cd) e) (fun _ s''=>CX outer H s E e s'') (fun e' s''=>CX outer H s E e' s'') s'
theorem lI {sc:Scope}{n:Nat}{x:Str}(h:sc.names.lookup x=some .cell):∃ c,(cellsFrom n sc.names []).lookup x=some c:=by
 have q:=PySem.W.cellsFrom_some sc.names n [] (.inl h);exact Option.isSome_iff_exists.mp q
theorem px {CX:mG}{P:Program}{w:World}{K:PySem.W.Frag}{mg:Str->Option Value}{base:Heap}{N ps:List Str}{qual:Str}{scope:Scope}{f:Addr}{cd:Value}{A:Around}{outer:List Env}{s s1:Shared}{H:Hp}{E:XK}{us:List Value}{vs:List V}
  (S:aC N ps scope) (hd:A.handled=none) (e0:mI P w K mg base A outer s H) (hl:vs.length=ps.length) (r:Vals vs us)
  (x:InCallC s s.heap.objs.size (bindL (envOfC qual scope s.heap.objs.size f cd).kindOf (ps.zip us) fun _=>none) (cellsFrom (s.heap.objs.size+1) scope.names []) (bindC (envOfC qual scope s.heap.objs.size f cd).kindOf (ps.zip us) fun _=>none) s1) :
  am (ju CX P w K mg base N qual scope f cd A outer s H E) [] (gZ N vs) H s1:=by
 have hpl:ps.length<=N.length:=by have:=y1 List.length S.pre;rw[yu]at this;omega
 obtain⟨h1,tk,rfl,hk⟩:=x.done;have noA:∀ b:Addr,b∉(ju CX P w K mg base N qual scope f cd A outer s H E).ex:=fun b z=>absurd (show b∈([]:List Addr) from z) (by simp)
 refine⟨⟨e0.mod,S.kind,rfl,rfl,xT _,fun y z c h1 h2=>?_,fun y hy=>?_,fun y c _ h=>?_,fun _=>hd,Around.frames_deeper e0.frames,.inr ⟨rfl,rfl⟩,fun b z=>absurd z (noA b),e0.bs,e0.bsz,fun b _ _=>noA b,fun b z=>absurd z (noA b),e0.funs,e0.frf⟩,
  rfl,e0.bare,Un.kept hk,⟨_,x.toInCall.ns,fun i y v h1 h2 h3=>?_⟩,fun y c h=>⟨_,x.cell y c h⟩,e0.hok.fresh (xT _),fun y c h=>?_,fun p hp=>absurd (show p∈([]:List (Addr×Obj)) from hp) (by simp),e0.hok.kept hk,?_⟩
 ·exact name_of_addr x.apart (y3 h1) (y3 h2)
 ·have hy:scope.names.lookup y=some .cell\/scope.names.lookup y=some .free:=hy
  rcases hy with hy | hy
  ·exact lI hy
  ·exact absurd rfl (S.nofree _ (y3 hy))
 ·exact Nat.le_of_lt (x.above y c (y3 h))
 ·have hi:i<vs.length:=by
   unfold gZ at h2
   by_cases hi:i<vs.length
   ·exact hi
   ·rw[List.getElem?_append_right (by simpa using hi)]at h2
    rw[List.getElem?_replicate]at h2;split at h2<;>cases h2
  have ha:vs[i]? = some v:=by
   unfold gZ at h2;rw[List.getElem?_append_left (by simpa using hi),List.getElem?_map]at h2
   cases e:vs[i]? with
   | none=>rw[e]at h2;cases h2
   | some a=>rw[e]at h2;cases h2;rfl
  obtain⟨u,hu,rv⟩:=r.get ha
  have hp:ps[i]? = some y:=by
   rw[<-S.pre,List.getElem?_take_of_lt (by omega)];exact h1
  have ndP:ps.Nodup:=by rw[<-S.pre];exact S.nd.sublist (List.take_sublist _ _)
  refine⟨u,rv,?_⟩;rcases S.par y (yj hp) with k | k
  ·exact .inl ⟨k,kq ndP hp hu k⟩
  ·obtain⟨c,e⟩:=lI (n:=s.heap.objs.size+1) k
   refine .inr ⟨.inl k,c,e,?_⟩;have q:=x.cell y c e;rw[km ndP hp hu (by show scope.names.lookup y≠_;rw[k];decide)]at q;exact q
 ·exact e0.hok.fresh (Nat.le_of_lt (x.above y c (y3 h)))
 ·unfold gZ
  show _=N.length
  rw[x3,xP,List.length_replicate];omega
theorem sI {CX:mG}{P:Program}{w:World}{K:PySem.W.Frag}{mg:Str->Option Value}{base:Heap}{k:Nat}{f:Addr}{name qual:Str}{params:Arguments}{body:List Stmt}{scope:Scope}{dV kV doc pm cdv ct oc:Value}{an od:Option Addr}
  {osl:Array (Option Value)} {N ps:List Str} {sp:Sp} (lk:K.lookup f=some ⟨oc,od,.func (PySem.W.fnOf name qual params body scope dV kV doc pm an cdv ct),osl⟩) (hcd:PySem.W.codeIn K cdv qual=true) (S:aC N ps scope)
  (len:∀ vs H Q E,sp vs H Q E->vs.length=ps.length)
  (hbody:∀ (A:Around)(outer:List Env)(s:Shared)(H:Hp)(vs:List V)(Q:VK)(E:XK),bJ k (A.deeper (envOfC qual scope s.heap.objs.size f cdv))->sp vs H Q E ->
   ∃ t,mH (ju CX P w K mg base N qual scope f cdv A outer s H E) body t/\t { nx:=fun _ H'=>Q .non H',rt:=Q } (gZ N vs) H) :
  a9 P w K mg base CX (k+1) f (PySem.W.fnOf name qual params body scope dV kV doc pm an cdv ct) ps sp:=by
 refine⟨len,fun A outer s H args us vs Q E hr e0 hb r hsp=>?_⟩;have hl:=len _ _ _ _ hsp;have KX:K.In s.heap:=e0.mod.kin.keeps fun b o e=>(e0.bs b o e).1;have lim:s.heap.NoLimit:=e0.mod.nolimit.keeps fun b o e=>(e0.bs b o e).1
 have hkind:∀ y∈ps.zip us,scope.names.lookup y.1=some .local\/(scope.names.lookup y.1=some .cell/\((cellsFrom (s.heap.objs.size+1) scope.names []).lookup y.1).isSome=true):=fun ⟨n,v⟩ hy=>by
  rcases S.par n (List.of_mem_zip hy).1 with q | q
  ·exact .inl q
  ·exact .inr ⟨q,PySem.W.cellsFrom_some _ _ _ (.inl q)⟩
 refine codeAny_call_function hr.depth (KX _ _ lk) rfl S.co S.gen rfl (PySem.W.codeRec_of KX hcd) (hb _ _ _ _ ?_);refine wpAny_newFunctionEnv_cells S.kind hkind fun env he s1 x=>?_;subst he;refine⟨lim.keeps x.toInCall.keep,codeAny_func ?_⟩;obtain⟨t,ht,hq⟩:=hbody A outer s H vs Q E (hr.deeper _) hsp;have I:am (ju CX P w K mg base N qual scope f cdv A outer s H E) [] (gZ N vs) H s1:=px S hr.hd e0 hl r x;refine yh (ht [] s1 (gZ N vs) H _ I hq) (fun fl s' hs=>?_) fun e s' hs=>hs
 have fin:∀ {σ':St}{H':Hp}{v:V}{u:Value},am (ju CX P w K mg base N qual scope f cdv A outer s H E) [] σ' H' s'->aD v u->Q v H'->CE outer P w H s Q u s' :=
  fun {σ' H' v u} J rv q=>⟨v,H',J.os,J.bare,J.base,J.hok,rv,q⟩
 cases fl with
 | ret u =>
  obtain⟨v,σ',H',J,rv,q⟩:=hs;exact fin J rv q
 | next =>
  obtain⟨σ',H',J,q⟩:=hs;exact fin (v:=V.non) (u:=Value.none) J rfl q
 | brk =>
  obtain⟨_,_,_,q⟩:=hs;exact False.elim q
 | cont =>
  obtain⟨_,_,_,q⟩:=hs;exact False.elim q
section
variable {X:Cx}{x:Str}{p pos:Pos}{e:Expr}{es:List Expr}{t:TA}{id T:String}{r:List V->Hp->VK->Prop}
def xt (r:List V->Hp->VK->Prop)(t:TA):TE:=fun σ H Q=>t σ H fun vs H1=>r vs H1 Q
theorem aN (hc:dE X (.builtin id) r)(hg:Gl X x)(hm:X.mg x=none)(hv:bootBuiltins x=some (.builtin id))(ha:PA X (e::es) t)(hn:x≠"__name__":=by decide)(hdb:(x == ("__debug__" : Str))=false:=by decide)
  (he:starEach (e::es) X.env=(false,eval e X.env)::starEach es X.env:=by rfl) (hpl:(backTo pos (starEach es X.env)).any (·.1)=false:=by rfl):PE X (.Call (.Name x p) (e::es) [] pos) (xt r t):=by
 intro pins s σ H Q I h;refine yJ (dr I hg hm hv ?_ hn hdb);exact PyProof.Rows.callWith_builtin1 (aU (ha pos pins s σ H _ I h) fun us s1 ⟨vs,H1,I1,r1,q1⟩=>hc pins s1 σ H1 vs us Q I1 r1 q1) he hpl
theorem bG (hc:dE X (.type T) r)(hg:Gl X x)(hm:X.mg x=none)(hv:bootBuiltins x=some (.type T))(ha:PA X (e::es) t)(hn:x≠"__name__":=by decide)(hdb:(x == ("__debug__" : Str))=false:=by decide)
  (he:starEach (e::es) X.env=(false,eval e X.env)::starEach es X.env:=by rfl) (hpl:(backTo pos (starEach es X.env)).any (·.1)=false:=by rfl):PE X (.Call (.Name x p) (e::es) [] pos) (xt r t):=by
 intro pins s σ H Q I h;refine yJ (dr I hg hm hv ?_ hn hdb);exact yp (aU (ha pos pins s σ H _ I h) fun us s1 ⟨vs,H1,I1,r1,q1⟩=>hc pins s1 σ H1 vs us Q I1 r1 q1) he hpl
end
end L2
namespace HT
open PySem PyProof.Rows
section
variable {prog:Program}{w:World}{A:Around}{E:Value->Shared->Prop}{s:Shared}
def sIx (n d:Nat):Option Int->Nat
 | none=>d
 | some v=>if v<0 then (v+(n:Int)).toNat else min v.toNat n
theorem sIx_none (n d:Nat):sIx n d none=d:=rfl
theorem sIx_nat (n d k:Nat):sIx n d (some (k:Int))=min k n:=by
 show (if (k:Int)<0 then ((k:Int)+(n:Int)).toNat else min (k:Int).toNat n)=min k n
 rw[xV (by omega),zh]
theorem uE (n d:Nat)(hd:d<=n)(o:Option Int):sIx n d o<=n:=by
 cases o with
 | none=>exact hd
 | some v =>
  show (if v<0 then (v+(n:Int)).toNat else min v.toNat n)<=n
  by_cases hv:v<0
  ·rw[x4 hv];omega
  ·rw[xV hv];exact Nat.min_le_right _ _
theorem n8 (v:Int)(n d:Nat):(if v<0 then max (v+(n:Int)) 0 else min v (n:Int))=((sIx n d (some v):Nat):Int):=by
 show (if v<0 then max (v+(n:Int)) 0 else min v (n:Int))=(((if v<0 then (v+(n:Int)).toNat else min v.toNat n):Nat):Int)
 by_cases hv:v<0
 ·simp only[x4 hv];omega
 ·simp only[xV hv];omega
theorem mK (lo hi:Option Int)(n:Nat):Builtin.Slice.sliceAdjust lo hi 1 (n:Int)=(((sIx n 0 lo:Nat):Int),((sIx n n hi:Nat):Int)):=by
 have h1:¬ ((1:Int)<0):=by omega
 unfold Builtin.Slice.sliceAdjust;simp only[h1,if_false];refine Prod.ext ?_ ?_
 ·cases lo with
  | none=>rfl
  | some v=>exact n8 v n 0
 ·cases hi with
  | none=>rfl
  | some v=>exact n8 v n n
theorem nA (i j:Nat):Builtin.Slice.slicePlaces (i:Int) (j:Int) 1=j-i:=by
 unfold Builtin.Slice.slicePlaces
 have h1:(1:Int)>0:=by omega
 simp only[h1,if_true,Int.ediv_one];split<;>omega
theorem jW {v:Value}{o:Option Int}{Q:Option Int->Shared->Prop}(p:IsPart v o)(h:Q o s):wpAny (model prog w) A (Builtin.Slice.slicePartIndex v) Q E s:=by
 cases p with
 | none=>exact slicePart_none h
 | int i t=>exact slicePart_int h
theorem iw {sl:Addr}{vl vu:Value}{lo hi:Option Int}{n:Nat}{Q:Int×Int×Nat->Shared->Prop}(hs:s.heap.IsSliceOf sl vl vu .none)(pl:IsPart vl lo)(pu:IsPart vu hi)
  (h:Q (((sIx n 0 lo:Nat):Int),1,sIx n n hi-sIx n 0 lo) s):wpAny (model prog w) A (Builtin.Slice.sliceApplied (.ref sl) (pure (n:Int))) Q E s:=by
 obtain⟨os,hos,hcs,hds⟩:=id hs;unfold Builtin.Slice.sliceApplied Builtin.Slice.sliceFields;refine xO (xO (yk hos hds (x:=vl) rfl (xO (yk hos hds (x:=vu) rfl (xO (yk hos hds (x:=.none) rfl (xR ?_)))))));refine xO (slicePart_none ?_)
 show wpAny _ _ (if ((1:Int) == 0)=true then _ else _) _ _ s
 rw[xV (by decide)];refine xO (jW pl (xO (jW pu (xO (xR ?_)))))
 show wpAny _ _ (match Builtin.Slice.sliceAdjust lo hi 1 (n:Int) with | (lo,hi)=>pure (lo,(1:Int),Builtin.Slice.slicePlaces lo hi 1)) _ _ s
 rw[mK lo hi n]
 show wpAny _ _ (pure (((sIx n 0 lo:Nat):Int),(1:Int),Builtin.Slice.slicePlaces ((sIx n 0 lo:Nat):Int) ((sIx n n hi:Nat):Int) 1)) _ _ s
 rw[nA];exact xR h
theorem qL (xs:Array Value)(i k:Nat):((List.range k).filterMap fun (m:Nat)=>xs[((i:Int)+(m:Int)*1).toNat]?).toArray=((xs.toList.drop i).take k).toArray:=by
 have e:(fun (m:Nat)=>xs[((i:Int)+(m:Int)*1).toNat]?)=fun m=>xs[i+m]?:=by
  funext m
  have:((i:Int)+(m:Int)*1).toNat=i+m:=by omega
  rw[this]
 rw[e];have:=pick_run xs i k;rw[List.filterMap_map]at this;have e2:((fun x=>xs[x]?) ∘ fun x=>i+x)=fun m=>xs[i+m]?:=rfl;rw[e2]at this;rw[this]
theorem getItem_tuple_cut {t sl:Addr}{items:Array Value}{vl vu:Value}{lo hi:Option Int}{Q:Value->Shared->Prop}(ht:IsTup s.heap t items)(hs:s.heap.IsSliceOf sl vl vu .none)(pl:IsPart vl lo)(pu:IsPart vu hi)
  (hw:¬ (sIx items.size 0 lo=0/\sIx items.size items.size hi=items.size))
  (h:Q (.ref s.heap.objs.size) { s with heap:=s.heap.push { cls:=.type "tuple",data:=.seq ((items.toList.drop (sIx items.size 0 lo)).take (sIx items.size items.size hi-sIx items.size 0 lo)).toArray } })
  (hsz:items.size<=sizeLine):wpAny (model prog w) A (getItem (.ref t) (.ref sl)) Q E s:=by
 have htake:sizeOk (.seq ((items.toList.drop (sIx items.size 0 lo)).take (sIx items.size items.size hi-sIx items.size 0 lo)).toArray):=by
  show ((items.toList.drop (sIx items.size 0 lo)).take (sIx items.size items.size hi-sIx items.size 0 lo)).toArray.size<=sizeLine
  rw[xW,yu,yx,yX];omega
 have hj:sIx items.size items.size hi<=items.size:=uE _ _ (xT _) hi;obtain⟨os,hos,hcs,hds⟩:=id hs;have hTs:s.TypeIs (.ref sl) "slice":=⟨os,hos,hcs⟩;unfold getItem
 try with_reducible refine yZ ?_
 first | refine xO (xR ?_) | skip
 refine xO (wpAny_sequenceKey ht.typeIs (by decide) ?_)
 refine xO (wpAny_callSpecial?_slot (name:=Str.ofString "__getitem__") ht.typeIs PyProof.Rows.slot_tuple_getitem
  (y6 PyProof.Rows.slot_tuple_getitem ht.typeIs entry_tuple_getitem ?_ (args_tuple_getitem _ _)))
 show wpAny _ _ (Builtin.Tuple.tupleItemsOf (.ref t) >>= _) _ _ s
 refine xO (tupleItemsOf_ ht ?_);refine xO (wpAny_typeOf hTs ?_);rw[x4 (by decide)];refine xO (iw hs pl pu ?_)
 have hno:¬ ((((sIx items.size 0 lo:Nat):Int) == 0&&(1:Int) == 1&&(sIx items.size items.size hi-sIx items.size 0 lo) == items.size)=true):=by
  intro q;rw[y0,y0]at q;have q1:((sIx items.size 0 lo:Nat):Int)=0:=eq_of_beq q.1.1;have q2:sIx items.size items.size hi-sIx items.size 0 lo=items.size:=eq_of_beq q.2;exact hw ⟨by omega,by omega⟩
 show wpAny _ _ (if (((sIx items.size 0 lo:Nat):Int) == 0&&(1:Int) == 1&&(sIx items.size items.size hi-sIx items.size 0 lo) == items.size)=true then _ else _) _ _ s
 rw[xV hno,qL]
 first
  | exact xO (m:=Builtin.Tuple.tupleExact _) (yN (xR ⟨_,rfl,xR h⟩) htake)
  | exact xO (m:=Builtin.Tuple.tupleExact _) (yN (xO (xR (xR ⟨_,rfl,xR h⟩))) htake)
  | exact xO (xO (m:=Builtin.Tuple.tupleExact _) (yN (xR (xR ⟨_,rfl,xR h⟩)) htake))
  | exact xO (xO (m:=Builtin.Tuple.tupleExact _) (yN (xR ⟨_,rfl,xR h⟩) htake))
end
end HT
namespace L2
open PySem PySem.Spec PyProof.Rows
abbrev TO:=St->Hp->(Option Int->Hp->Prop)->Prop
def PO (X:Cx)(e:Option Expr)(t:TO):Prop :=
 ∀ (pins:List (Addr×Obj))(s:Shared)(σ:St)(H:Hp)(Q:Option Int->Hp->Prop),am X pins σ H s->t σ H Q ->
  wpAny (model X.prog X.w) X.A (evalPart e X.env) (fun u s'=>∃ o H',am X pins σ H' s'/\IsPart u o/\Q o H') X.xe s
def oK:TO:=fun _ H Q=>Q none H
def vL (t:TE):TO:=fun σ H Q=>t σ H fun x H1=>∃ i,x=.int i/\Q (some i) H1
section
variable {X:Cx}{e:Expr}{te:TE}{lo hi:Option Expr}{tl th:TO}{pos p2:Pos}
theorem jf:PO X none oK:=by
 intro pins s σ H Q I h;rw[evalPart_none];exact xR ⟨none,H,I,.none,h⟩
theorem jg (h:PE X e te):PO X (some e) (vL te):=by
 intro pins s σ H Q I hw;rw[evalPart_some];refine aU (h pins s σ H _ I hw) fun u s1 ⟨x,H1,I1,r1,q1⟩=>?_;obtain⟨i,rfl,q⟩:=q1;obtain⟨t,rfl⟩:=r1;exact⟨some i,H1,I1,.int i t,q⟩
def vU (X:Cx)(r:V->Option Int->Option Int->Hp->VK->Prop):Prop :=
 ∀ (pins:List (Addr×Obj))(s:Shared)(σ:St)(H:Hp)(x:V)(v vl vu:Value)(lo hi:Option Int)(sl:Addr)(Q:VK),am X pins σ H s->aD x v->s.heap.IsSliceOf sl vl vu .none->IsPart vl lo->IsPart vu hi->r x lo hi H Q ->
  ∃ T id,typeLookup (.type T) "__getitem__" = pure (some (.builtin id))/\s.TypeIs v T/\wpAny (model X.prog X.w) X.A (getItem v (.ref sl)) (EP X pins σ Q) X.xe s
def xG (r:V->Option Int->Option Int->Hp->VK->Prop)(te:TE)(tl th:TO):TE:=fun σ H Q=>te σ H fun x H1=>tl σ H1 fun l H2=>th σ H2 fun u H3=>r x l u H3 Q
theorem gN {r:V->Option Int->Option Int->Hp->VK->Prop}(hr:vU X r)(he:PE X e te)(hl:PO X lo tl)(hu:PO X hi th):PE X (.Subscript e (.Slice lo hi none p2) pos) (xG r te tl th):=by
 intro pins s σ H Q I h;refine Subscript_ (aU (he pins s σ H _ I h) fun v s1 ⟨x,H1,I1,r1,q1⟩=>?_);refine wpAny_Slice (aU (hl pins s1 σ H1 _ I1 q1) fun vl s2 ⟨l,H2,I2,pl,q2⟩=>aU (hu pins s2 σ H2 _ I2 q2) fun vu s3 ⟨u,H3,I3,pu,q3⟩=>?_);rw[evalPart_none];refine xR ?_;have I4:am X pins σ H3 { s3 with heap:=s3.heap.push { cls:=.type "slice",data:=.fields #[vl,vu,.none] } }:=I3.kept (t':=s3.toks) fun b ob q=>Heap.get?_push_of_some _ q;obtain⟨T,id,hT,ht,hg⟩:=hr pins { s3 with heap:=s3.heap.push { cls:=.type "slice",data:=.fields #[vl,vu,.none] } } σ H3 x v vl vu l u s3.heap.objs.size Q I4 r1 (Heap.IsSliceOf.new ..) pl pu q3
 show wpAny (model X.prog X.w) X.A (subscriptTail e (.Slice lo hi none p2) v (.ref s3.heap.objs.size)) (EP X pins σ Q) X.xe { s3 with heap:=s3.heap.push { cls:=.type "slice",data:=.fields #[vl,vu,.none] } }
 exact tail_any (ops:=[.ref s3.heap.objs.size,v]) ht hT hg (by with_unfolding_all rfl)
def j5 (xs:List V)(lo hi:Option Int):List V:=(xs.drop (HT.sIx xs.length 0 lo)).take (HT.sIx xs.length xs.length hi-HT.sIx xs.length 0 lo)
theorem iJ (xs:List V)(lo hi:Option Int):(j5 xs lo hi).length<=xs.length:=by
 unfold j5;rw[yu,yx];omega
def vC (K:PySem.W.Frag):V->Option Int->Option Int->Hp->VK->Prop:=fun x lo hi H Q=>∃ a xs,x=.ref a/\aI K H a xs /\
 ¬ (HT.sIx xs.length 0 lo=0/\HT.sIx xs.length xs.length hi=xs.length)/\∀ p,H p=none->Q (.ref p) (aH H p (.tup (j5 xs lo hi)))
theorem nJ:vU X (vC X.K):=by
 intro pins s σ H x v vl vu lo hi sl Q I rx hs pl pu h;obtain⟨a,xs,rfl,hx,hw,q⟩:=h;cases rx;obtain⟨its,r,ht,hz⟩:=I.tuple hx
 have hlen:its.toArray.size=xs.length:=by rw[xW];exact r.length.symm
 refine⟨"tuple",_,PyProof.Rows.slot_tuple_getitem.lookup,ht.typeIs,?_⟩;refine HT.getItem_tuple_cut ht hs pl pu (by rw[hlen];exact hw) ?_ (by rw[hlen];exact hz);rw[hlen];refine⟨.ref s.heap.objs.size,_,I.laid (t':=s.toks) (o:=.tup (j5 xs lo hi)) (fun b ob q=>Heap.get?_push_of_some _ q) (xT _) ?_,rfl,q _ (I.hok.fresh (xT _))⟩;exact⟨yA (iJ xs lo hi) hz,_,(r.drop (HT.sIx xs.length 0 lo)).take (HT.sIx xs.length xs.length hi-HT.sIx xs.length 0 lo),f8.new _ _⟩
end
def uT (n:Nat)(i:Int):Option Nat:=if 0<=i then (if i<n then some i.toNat else none) else if -(n:Int)<=i then some (i+n).toNat else none
def rE {α:Type}(xs:List α)(i:Int):Option α:=(uT xs.length i).bind fun j=>xs[j]?
theorem rT {n:Nat}{i:Int}{j:Nat}(h:uT n i=some j):seqIndex? i n=some j/\j<n/\-(n:Int)<=i/\i<n:=by
 unfold uT at h
 by_cases h0:0<=i
 ·rw[x4 h0]at h
  by_cases h1:i<n
  ·rw[x4 h1]at h
   have e:i.toNat=j:=ye h;exact⟨by rw[seqIndex_of h0 h1,e],by omega,by omega,h1⟩
  ·rw[xV h1]at h;cases h
 ·rw[xV h0]at h
  by_cases h1 : -(n:Int)<=i
  ·rw[x4 h1]at h
   have e:(i+n).toNat=j:=ye h;exact⟨by rw[seqIndex_neg (by omega) h1,e],by omega,h1,by omega⟩
  ·rw[xV h1]at h;cases h
theorem kM {α:Type}{xs:List α}{i:Int}{v:α}(h:rE xs i=some v):∃ j,seqIndex? i xs.length=some j/\xs[j]? = some v/\j<xs.length/\-(xs.length:Int)<=i/\i<xs.length:=by
 unfold rE at h
 cases e:uT xs.length i with
 | none=>rw[e]at h;cases h
 | some j =>
  rw[e]at h;obtain⟨h1,h2,h3,h4⟩:=rT e;exact⟨j,h1,h,h2,h3,h4⟩
theorem av {α:Type}{xs:List α}{j:Nat}{v:α}(h:xs[j]? = some v):rE xs (j:Int)=some v:=by
 have hj:j<xs.length:=(List.getElem?_eq_some_iff.mp h).1
 have e:uT xs.length (j:Int)=some j:=by
  unfold uT;rw[x4 (by omega),x4 (by omega)];simp
 unfold rE;rw[e];exact h
def nZ (b:Expr):Prop:=∀ o i,subscripted b false o i=operate [o,i] (getItem o i)
def u3 (X:Cx)(r:R2):Prop :=
 ∀ (value slice:Expr)(pins:List (Addr×Obj))(s:Shared)(σ:St)(H:Hp)(x y:V)(v u:Value)(Q:VK),am X pins σ H s->aD x v->aD y u->r x y H Q ->
  subscripted slice false v u=operate [v,u] (getItem v u)->wpAny (model X.prog X.w) X.A (subscriptTail value slice v u) (EP X pins σ Q) X.xe s
def wX (X:Cx)(id:String)(r:V->List V->Hp->VK->Prop):Prop :=
 ∀ (pins:List (Addr×Obj))(s:Shared)(σ:St)(H:Hp)(x:V)(xs:List V)(v:Value)(us:List Value)(Q:VK),am X pins σ H s->aD x v->Vals xs us->r x xs H Q ->
  wpAny (model X.prog X.w) X.A (call (.builtin id) (v::us)) (EP X pins σ Q) X.xe s
section
variable {X:Cx}{a b:Expr}{ta tb:TE}{pos:Pos}
theorem aA {r:R2}(hr:u3 X r)(ha:PE X a ta)(hb:PE X b tb)(hs:nZ b):PE X (.Subscript a b pos) (uU r ta tb):=by
 intro pins s σ H Q I h;exact Subscript_ (tO ha hb I h fun v u s2 x y H2 I2 rx ry q=>hr a b pins s2 σ H2 x y v u Q I2 rx ry q (hs _ _))
inductive w8 (K:PySem.W.Frag) (x y:V) (H:Hp) (Q:VK):Prop
 | mk (p:Addr) (xs:List V) (i:Int) (v:V) (e1:x=.ref p) (e2:y=.int i) (q:aT K H p xs) (a:rE xs i=some v) (h:Q v H):w8 K x y H Q
def vy (K:PySem.W.Frag):R2:=fun x y H Q=>w8 K x y H Q
inductive w9 (K:PySem.W.Frag) (x y:V) (H:Hp) (Q:VK):Prop
 | mk (p:Addr) (xs:List V) (i:Int) (v:V) (e1:x=.ref p) (e2:y=.int i) (q:aI K H p xs) (a:rE xs i=some v) (h:Q v H):w9 K x y H Q
def vz (K:PySem.W.Frag):R2:=fun x y H Q=>w9 K x y H Q
def wE:R2:=fun x y H Q=>∃ z i c,x=.str z/\y=.int i/\z.length<=sizeLine/\rE z.cps.toList i=some c/\Q (.str ⟨#[c]⟩) H
theorem dc:u3 X (vy X.K):=by
 intro value slice pins s σ H x y v u Q I rx ry h hs;obtain⟨p,xs,i,z,rfl,rfl,hq,he,q⟩:=h;cases rx;obtain⟨t,rfl⟩:=ry;obtain⟨its,r,pl,hz⟩:=I.list hq;obtain⟨j,h1,h2,h3,h4,h5⟩:=kM he;obtain⟨w,ew,rw'⟩:=r.get h2;have hl:=r.length;have hn:=ie;have fin:EP X pins σ Q w s:=⟨z,H,I,rw',q⟩
 by_cases h0:0<=i
 ·have hj:i.toNat=j:=by
   rw[seqIndex_of h0 h5]at h1;exact ye h1
  exact item_listR pl.isList h0 (by omega) (by rw[hj];simpa using ew) fin hs
 ·have hj:(i+(its.toArray.size:Int)).toNat=j:=by
   rw[seqIndex_neg (by omega) h4]at h1;rw[xW,<-hl];exact ye h1
  exact subscriptTail_builtinR (x:=w) pl.isList.typeIs slot_list_getitem.lookup
   (wpAny_getItem_list_neg (Q:=fun r s'=>r=w/\EP X pins σ Q r s') pl.isList (by omega) (by rw[xW]<;>omega) (by omega) (by rw[hj];simpa using ew) ⟨rfl,fin⟩) hs
theorem aB:u3 X (vz X.K):=by
 intro value slice pins s σ H x y v u Q I rx ry h hs;obtain⟨p,xs,i,z,rfl,rfl,hq,he,q⟩:=h;cases rx;obtain⟨t,rfl⟩:=ry;obtain⟨its,r,pl,hz⟩:=I.tuple hq;obtain⟨j,h1,h2,h3,h4,h5⟩:=kM he;obtain⟨w,ew,rw'⟩:=r.get h2;have hl:=r.length;have hn:=ie;have fin:EP X pins σ Q w s:=⟨z,H,I,rw',q⟩
 exact subscriptTail_builtinR (x:=w) pl.typeIs slot_tuple_getitem.lookup
  (getItem_tuple (j:=j) (Q:=fun r s'=>r=w/\EP X pins σ Q r s') pl (by omega) (by omega) (by rw[xW,<-hl];exact h1) (by simpa using ew) ⟨rfl,fin⟩) hs
theorem tZ:u3 X wE:=by
 intro value slice pins s σ H x y v u Q I rx ry h hs;obtain⟨z,i,c,rfl,rfl,hz,he,q⟩:=h;obtain⟨t,rfl⟩:=rx;obtain⟨t',rfl⟩:=ry;obtain⟨j,h1,h2,h3,h4,h5⟩:=kM he
 have hl:z.cps.toList.length=z.length:=by simp[Str.length]
 rw[hl]at h1 h4 h5;have hn:=ie
 exact tail_any (typeIs_str s z t) slot_str_getitem.lookup (getItem_str (c:=c) (by
  have e1:decide (i < -(2 ^ 63:Int))=false:=xS (by omega);have e2:decide (i>=2 ^ 63)=false:=xS (by omega)
  rw[e1,e2,Bool.or_false]) (by rw[h1];simpa using h2) ⟨.str ⟨#[c]⟩,H,I.tok _,⟨_,rfl⟩,q⟩) hs
theorem lj (lo hi:Option Int)(n:Nat):(sliceBounds lo hi none n).1=((HT.sIx n 0 lo:Nat):Int)/\(sliceBounds lo hi none n).2.1=((HT.sIx n n hi:Nat):Int)/\(sliceBounds lo hi none n).2.2=1:=by
 refine⟨?_,?_,rfl⟩
 ·cases lo with
  | none=>simp[sliceBounds,HT.sIx]
  | some i =>
   simp only[sliceBounds,HT.sIx,Option.getD_none,show (1:Int)>0 by decide,if_true]
   by_cases h:i<0
   ·simp only[h,if_true]<;>omega
   ·simp only[h,if_false]<;>omega
 ·cases hi with
  | none=>simp[sliceBounds,HT.sIx]
  | some i =>
   simp only[sliceBounds,HT.sIx,Option.getD_none,show (1:Int)>0 by decide,if_true]
   by_cases h:i<0
   ·simp only[h,if_true]<;>omega
   ·simp only[h,if_false]<;>omega
theorem kh (its:List Value)(lo hi:Option Int):slicePick its.toArray lo hi none=((its.drop (HT.sIx its.length 0 lo)).take (HT.sIx its.length its.length hi-HT.sIx its.length 0 lo)).toArray:=by
 obtain⟨h1,h2,h3⟩:=lj lo hi its.toArray.size;unfold slicePick;rw[h1,h2,h3];simp only[sliceRange_one,pick_run,xW]<;>rfl
inductive vB (K:PySem.W.Frag) (x:V) (lo:Option Int) (hi:Option Int) (H:Hp) (Q:VK):Prop
 | mk (a:Addr) (xs:List V) (h_0:x=.ref a) (h_1:aT K H a xs) (h_2:∀ p,H p=none->Q (.ref p) (aH H p (.lst (j5 xs lo hi)))):vB K x lo hi H Q
theorem sr:vU X (vB X.K):=by
 intro pins s σ H x v vl vu lo hi sl Q I rx hs pl pu h;obtain⟨a,xs,rfl,hx,q⟩:=h;cases rx;obtain⟨its,r,ht,hz⟩:=I.list hx;have hlen:=r.length;refine⟨"list",_,slot_list_getitem.lookup,ht.isList.typeIs,?_⟩;refine wpAny_getItem_list_slice ht.isList hs pl pu .none (by simp) ?_ (by rw[xW]<;>omega);rw[kh,<-hlen];refine⟨.ref s.heap.objs.size,_,I.laid (t':=s.toks) (o:=.lst (j5 xs lo hi)) (fun b ob q=>Heap.get?_push_of_some _ q) (xT _) ?_,rfl,q _ (I.hok.fresh (xT _))⟩;exact⟨yA (iJ xs lo hi) hz,_,0,(r.drop (HT.sIx xs.length 0 lo)).take (HT.sIx xs.length xs.length hi-HT.sIx xs.length 0 lo),Heap.get?_push_size _ rfl⟩
def fX:V->Bool
 | .non=>true
 | .bl _=>true
 | .int _=>true
 | .str _=>true
 | _=>false
def mQ:V->V->Bool
 | .non,.non=>true
 | .bl a,.bl b=>a == b
 | .bl a,.int b=>(if a then 1 else 0) == b
 | .int a,.bl b=>a == (if b then 1 else 0)
 | .int a,.int b=>a == b
 | .str a,.str b=>a == b
 | _,_=>false
theorem qd {A:Around}{s:Shared}{y x:V}{u v:Value}(ry:aD y u)(rx:aD x v)(fy:fX y=true)(fx:fX x=true):SeqAt.EqAt A s u v (mQ y x):=by
 cases y with
 | non =>
  cases ry
  cases x with
  | non=>cases rx;exact SeqAt.EqAt.same _
  | bl b=>cases rx;exact SeqAt.EqAt.none_bool b
  | int b=>obtain⟨t,rfl⟩:=rx;exact SeqAt.EqAt.none_int b t
  | str b=>obtain⟨t,rfl⟩:=rx;exact SeqAt.EqAt.none_str b t
  | _=>exact absurd (show false=true from fx) xU
 | bl a =>
  cases ry
  cases x with
  | non=>cases rx;exact SeqAt.EqAt.bool_none a
  | bl b=>cases rx;exact SeqAt.EqAt.bool_bool a b
  | int b=>obtain⟨t,rfl⟩:=rx;exact SeqAt.EqAt.bool_int a b t
  | str b=>obtain⟨t,rfl⟩:=rx;exact SeqAt.EqAt.bool_str a b t
  | _=>exact absurd (show false=true from fx) xU
 | int a =>
  obtain⟨t',rfl⟩:=ry
  cases x with
  | non=>cases rx;exact SeqAt.EqAt.int_none a t'
  | bl b=>cases rx;exact SeqAt.EqAt.int_bool a t' b
  | int b=>obtain⟨t,rfl⟩:=rx;exact SeqAt.EqAt.int_int a t' b t
  | str b=>obtain⟨t,rfl⟩:=rx;exact SeqAt.EqAt.int_str a t' b t
  | _=>exact absurd (show false=true from fx) xU
 | str a =>
  obtain⟨t',rfl⟩:=ry
  cases x with
  | non=>cases rx;exact SeqAt.EqAt.str_none a t'
  | bl b=>cases rx;exact SeqAt.EqAt.str_bool a t' b
  | int b=>obtain⟨t,rfl⟩:=rx;exact SeqAt.EqAt.str_int a t' b t
  | str b=>obtain⟨t,rfl⟩:=rx;exact SeqAt.EqAt.str_str a t' b t
  | _=>exact absurd (show false=true from fx) xU
 | _=>exact absurd (show false=true from fy) xU
def rM (x:V)(u:Value):Bool:=match u with
 | .none=>mQ .non x
 | .bool b=>mQ (.bl b) x
 | .int i _=>mQ (.int i) x
 | .str z _=>mQ (.str z) x
 | _=>false
theorem qe {x y:V}{u:Value}(r:aD y u)(f:fX y=true):rM x u=mQ y x:=by
 cases y with
 | non=>cases r;rfl
 | bl b=>cases r;rfl
 | int i=>obtain⟨t,rfl⟩:=r;rfl
 | str z=>obtain⟨t,rfl⟩:=r;rfl
 | _=>exact absurd (show false=true from f) xU
theorem kL {x:V}:∀ {xs:List V}{us:List Value},Vals xs us->xs.all fX=true->us.any (rM x)=xs.any fun y=>mQ y x
 | _,_,.nil,_=>rfl
 | y::xs,u::us,.cons r t,f=>by
  rw[List.all_cons,y0]at f;rw[zm,zm,qe r f.1,kL t f.2]
theorem jF {A:Around}{s:Shared}{x:V}{v:Value}(rx:aD x v)(fx:fX x=true):∀ {xs:List V}{us:List Value},Vals xs us->xs.all fX=true->∀ u∈us,SeqAt.EqAt A s u v (rM x u)
 | _,_,.nil,_=>fun u hu=>by cases hu
 | y::xs,u::us,.cons r t,f=>fun u' hu=>by
  rw[List.all_cons,y0]at f;rcases ya.mp hu with rfl | hu
  ·rw[qe r f.1];exact qd r rx f.1 fx
  ·exact jF rx fx t f.2 u' hu
def sJ (x:V)(xs:List V):Bool:=xs.any fun y=>mQ y x
inductive xo (K:PySem.W.Frag) (neg:Bool) (x:V) (y:V) (H:Hp) (Q:VK):Prop
 | mk (p:Addr) (xs:List V) (h_0:y=.ref p) (h_1:(aT K H p xs\/aI K H p xs)) (h_2:fX x=true) (h_3:xs.all fX=true) (h_4:Q (.bl (if neg then !sJ x xs else sJ x xs)) H):xo K neg x y H Q
theorem fE:fW X (compareOp .In) (xo X.K false):=by
 intro pins s σ H x y v u Q I rx ry h;obtain⟨p,xs,rfl,hq,fx,fs,q⟩:=h;cases ry;rcases hq with hq | hq
 ·obtain⟨its,r,pl,hz⟩:=I.list hq
  refine SeqAt.in_listAt (rM x) pl.isList (fun w hw=>jF rx fx r fs w (by simpa using hw)) ⟨.bl _,H,I,rfl,?_⟩;rw[show its.toArray.any (rM x)=its.any (rM x) by simp,kL r fs];exact q
 ·obtain⟨its,r,pl,hz⟩:=I.tuple hq
  refine SeqAt.in_tupleAt (rM x) pl (fun w hw=>jF rx fx r fs w (by simpa using hw)) ⟨.bl _,H,I,rfl,?_⟩;rw[show its.toArray.any (rM x)=its.any (rM x) by simp,kL r fs];exact q
theorem bn:dE X (.builtin "len") (fun xs H Q=>∃ p ys,xs=[.ref p]/\(aT X.K H p ys\/aI X.K H p ys)/\Q (.int ys.length) H):=by
 intro pins s σ H xs us Q I r h;obtain⟨p,ys,rfl,hq,q⟩:=h;obtain⟨u,rfl,rx⟩:=eL r;cases rx;have hn:=ie;rcases hq with hq | hq
 ·obtain⟨its,r',pl,hz⟩:=I.list hq
  have hlen:=r'.length;exact Calls.call_len_list pl.isList (by simp only[xW]<;>omega) ⟨.int ys.length,H,I.tok _,⟨s.toks+1,by rw[xW,hlen]⟩,q⟩
 ·obtain⟨its,r',pl,hz⟩:=I.tuple hq
  have hlen:=r'.length;exact len_tuple pl (by simp only[xW]<;>omega) ⟨.int ys.length,H,I.tok _,⟨s.toks+1,by rw[xW,hlen]⟩,q⟩
theorem gy:dE X (.builtin "len") (fun xs H Q=>∃ z,xs=[.str z]/\z.length<=sizeLine/\Q (.int z.length) H):=by
 intro pins s σ H xs us Q I r h;obtain⟨z,rfl,hz,q⟩:=h;obtain⟨u,rfl,t,rfl⟩:=eL r;have hn:=ie;exact len_str (by omega) ⟨.int z.length,H,I.tok _,⟨_,rfl⟩,q⟩
theorem kO:dE X (.type "list") (fun xs H Q=>∃ p ys,xs=[.ref p]/\(aT X.K H p ys\/aI X.K H p ys)/\∀ l,H l=none->Q (.ref l) (aH H l (.lst ys))):=by
 intro pins s σ H xs us Q I r h;obtain⟨p,ys,rfl,hq,q⟩:=h;obtain⟨u,rfl,rx⟩:=eL r;cases rx
 have fin:∀ (its:List Value),Vals ys its->ys.length<=sizeLine->∀ (h':Heap)(c':Nat),(∀ b o',s.heap.get? b=some o'->h'.get? b=some o') ->
   h'.get? s.heap.objs.size=some { cls:=.type "list",dict:=none,data:=.seq its.toArray c',slots:=#[] }->EP X pins σ Q (.ref s.heap.objs.size) { s with heap:=h' }:=fun its r' hz h' c' kp e =>
  ⟨.ref s.heap.objs.size,_,I.laid (t':=s.toks) kp (xT _) (show aX X.prog X.w _ h' _ (.lst ys) from ⟨hz,its,c',r',e⟩),rfl,q _ (I.hok.fresh (xT _))⟩
 rcases hq with hq | hq
 ·obtain⟨its,r',pl,hz⟩:=I.list hq
  have hlen:=r'.length;obtain⟨o,ho,hc,n,hd⟩:=pl.isList;exact call_list_seq p (.inl rfl) ho hc hd (fun h' c' kp e=>fin its r' hz h' c' kp e) (by simp only[xW]<;>omega)
 ·obtain⟨its,r',pl,hz⟩:=I.tuple hq
  have hlen:=r'.length;obtain⟨o,ho,hc,n,hd⟩:=pl;exact call_list_seq p (.inr rfl) ho hc hd (fun h' c' kp e=>fin its r' hz h' c' kp e) (by simp only[xW]<;>omega)
theorem cL:dE X (.type "tuple") (fun xs H Q=>∃ p ys,xs=[.ref p]/\((aT X.K H p ys/\∀ l,H l=none->Q (.ref l) (aH H l (.tup ys)))\/(aI X.K H p ys/\Q (.ref p) H))):=by
 intro pins s σ H xs us Q I r h;obtain⟨p,ys,rfl,h⟩:=h;obtain⟨u,rfl,rx⟩:=eL r;cases rx;rcases h with ⟨hq,q⟩ | ⟨hq,q⟩
 ·obtain⟨its,r',pl,hz⟩:=I.list hq
  have hlen:=r'.length;refine call_tuple_list pl.isList (fun h' kp=>?_) (by simp only[xW]<;>omega);have I1:am X pins σ H { s with heap:=h' }:=I.kept (t':=s.toks) kp
  have I2:am X pins σ (aH H h'.objs.size (.tup ys)) { s with heap:=h'.push { cls:=.type "tuple",data:=.seq its.toArray } } :=
   I1.laid (t':=s.toks) (fun b o e=>Heap.get?_push_of_some _ e) (xT _) (show aX X.prog X.w _ _ _ (.tup ys) from ⟨hz,its,r',f8.new _ _⟩)
  exact⟨.ref h'.objs.size,_,I2,rfl,q _ (I1.hok.fresh (xT _))⟩
 ·obtain⟨its,r',pl,hz⟩:=I.tuple hq
  exact call_tuple_same pl ⟨.ref p,H,I,rfl,q⟩
def wT (K:PySem.W.Frag)(T:String)(x:V)(H:Hp):Prop:=match x with
 | .str _=>T="str"
 | .int _=>T="int"
 | .ref p=>(T="list"/\∃ xs,aT K H p xs)\/(T="tuple"/\∃ o,K.lookup p=some o/\o.cls=.type "tuple"/\o.dict=none) \/
   (T="dict"/\((∃ kvs,H p=some (.dK kvs))\/∃ kvs,H p=some (.dT kvs)))\/(T="set"/\∃ S n,H p=some (.set S n))
 | _=>False
theorem rh {pins:List (Addr×Obj)}{σ:St}{H:Hp}{s:Shared}{T:String}{x:V}{v:Value}(I:am X pins σ H s)(r:aD x v)(ty:wT X.K T x H) :
  s.TypeIs v T/\∀ a,v=.ref a->∃ ob,s.heap.get? a=some ob/\ob.dict=none:=by
 cases x with
 | str z =>
  obtain⟨t,rfl⟩:=r;cases (show T="str" from ty);exact⟨typeIs_str s z t,fun _ e=>nomatch e⟩
 | int i =>
  obtain⟨t,rfl⟩:=r;cases (show T="int" from ty);exact⟨typeIs_int s i t,fun _ e=>nomatch e⟩
 | ref p =>
  cases r;rcases ty with ⟨rfl,xs,hq⟩ | ⟨rfl,o,hk,hc,hd⟩ | ⟨rfl,hk⟩ | ⟨rfl,S,n,hk⟩
  ·obtain⟨its,_,pl,_⟩:=I.list hq
   refine⟨pl.isList.typeIs,fun a e=>?_⟩;cases e;obtain⟨o,n,e,c,hd,_⟩:=pl;exact⟨o,e,hd⟩
  ·refine⟨⟨o,I.kIn p o hk,hc⟩,fun a e=>?_⟩
   cases e;exact⟨o,I.kIn _ o hk,hd⟩
  ·have z:∃ o,s.heap.get? p=some o/\o.ExactDict:=by
    rcases hk with ⟨kvs,hk⟩ | ⟨kvs,hk⟩
    ·obtain⟨_,_,_,_,o,_,_,e,ex,_⟩:=I.hok p _ hk
     exact⟨o,e,ex⟩
    ·obtain⟨_,_,_,_,o,_,_,e,ex,_⟩:=I.hok p _ hk
     exact⟨o,e,ex⟩
   obtain⟨o,e,ex⟩:=z;refine⟨⟨o,e,ex.1⟩,fun a e2=>?_⟩;cases e2;exact⟨o,e,ex.2.1⟩
  ·obtain⟨o,_,_,_,e,ex,_⟩:=I.hok p _ hk
   refine⟨⟨o,e,ex.1⟩,fun a e2=>?_⟩;cases e2;exact⟨o,e,ex.2.1⟩
 | _=>exact False.elim ty
def wJ (K:PySem.W.Frag)(T:String)(r:V->List V->Hp->VK->Prop)(to:TE):TE:=fun σ H Q=>to σ H fun x H1=>wT K T x H1/\r x [] H1 Q
def xD (K:PySem.W.Frag)(T:String)(r:V->List V->Hp->VK->Prop)(to:TE)(t:TA):TE:=fun σ H Q=>to σ H fun x H1=>wT K T x H1/\t σ H1 fun xs H2=>r x xs H2 Q
variable {o e:Expr}{es:List Expr}{to:TE}{t:TA}{name:Str}{apos cpos:Pos}{T id:String}{r:V->List V->Hp->VK->Prop}
theorem uv (pa:PlainAttrs T)(slot:Slot T name id)(hty:typeOf (.builtin id)=pure (.type "method_descriptor"))(hm:wX X id r)(ho:PE X o to)
  (hbase:attributeBase o name X.env (eval o X.env)=eval o X.env:=by rfl) (hline:(apos.endLine == cpos.line)=true:=by rfl):PE X (.Call (.Attribute o name apos) [] [] cpos) (wJ X.K T r to):=by
 intro pins s σ H Q I h;refine wpAny_Call_method0_late hbase hline (aU (ho pins s σ H _ I h) fun v s1 ⟨x,H1,I1,r1,ty,q1⟩=>?_);obtain⟨h1,h2⟩:=rh I1 r1 ty;exact⟨T,id,pa,slot,hty,h1,h2,Calls.callWith_builtin rfl (PySem.evalArgs_none (hm pins s1 σ H1 x [] v [] Q I1 r1 .nil q1))⟩
theorem gL (pa:PlainAttrs T)(slot:Slot T name id)(hty:typeOf (.builtin id)=pure (.type "method_descriptor"))(hm:wX X id r)(ho:PE X o to)(ha:PA X (e::es) t)
  (hbase:attributeBase o name X.env (eval o X.env)=eval o X.env:=by rfl)
  (hfew:((backTo cpos (starEach (e::es) X.env)).all (fun x=>!x.1)&&(backToKw cpos (keywordEach [] X.env)).all (fun x=>x.1.isSome)
   && decide ((e::es).length+([]:List Keyword).length+(if ([]:List Keyword).isEmpty then 0 else 1)<30))=true:=by rfl)
  (hline:(apos.endLine == cpos.line)=true:=by rfl) (hs:starEach (e::es) X.env=(false,eval e X.env)::starEach es X.env:=by rfl) (hplain:(backTo cpos (starEach es X.env)).any (·.1)=false:=by rfl) :
  PE X (.Call (.Attribute o name apos) (e::es) [] cpos) (xD X.K T r to t):=by
 intro pins s σ H Q I h;refine wpAny_Call_method_late hbase hfew hline rfl (aU (ho pins s σ H _ I h) fun v s1 ⟨x,H1,I1,r1,ty,q1⟩=>?_);obtain⟨h1,h2⟩:=rh I1 r1 ty;refine⟨T,id,pa,slot,hty,h1,h2,?_⟩;have hA:=ha cpos pins s1 σ H1 _ I1 q1;rw[hs]at hA ⊢;refine Calls.callWith_builtin (by show (false||(backTo cpos (starEach es X.env)).any (·.1))=false;rw[hplain]<;>rfl) (Calls.evalArgs_plain ?_);exact aU hA fun us s2 ⟨vs,H2,I2,r2,q2⟩=>hm pins s2 σ H2 x vs v us Q I2 r1 r2 q2
end
def we (X:Cx)(id:String)(r:V->List V->Hp->VK->Prop):Prop :=
 ∀ (pins:List (Addr×Obj))(s:Shared)(σ:St)(H:Hp)(x:V)(xs:List V)(v:Value)(us:List Value)(Q:VK),am X pins σ H s->aD x v->Vals xs us->r x xs H Q ->
  wpAny (model X.prog X.w) X.A (call (.builtin id) (v::us)) (EP X pins σ Q) X.xe s
theorem Vals.one:∀ {x:V}{us:List Value},Vals [x] us->∃ u,us=[u]/\aD x u
 | _,_,.cons r .nil=>⟨_,rfl,r⟩
theorem Vals.two:∀ {x y:V}{us:List Value},Vals [x,y] us->∃ u v,us=[u,v]/\aD x u/\aD y v
 | _,_,_,.cons r (.cons q .nil)=>⟨_,_,rfl,r,q⟩
theorem Vals.zero:∀ {us:List Value},Vals [] us->us=[]
 | _,.nil=>rfl
theorem Vals.dropLast {xs:List V}{us:List Value}(h:Vals xs us):Vals xs.dropLast us.dropLast:=by
 induction h with
 | nil=>exact .nil
 | cons r t ih =>
  cases t with
  | nil=>exact .nil
  | cons q t'=>exact .cons r ih
theorem Vals.rep {xs:List V}{us:List Value}(h:Vals xs us):∀ k:Nat,Vals (List.replicate k xs).flatten (List.replicate k us).flatten
 | 0=>.nil
 | k+1=>by
  rw[yE,yE,yR,yR];exact Vals.append h (Vals.rep h k)
theorem mR {α:Type}(l:List α):l.eraseIdx (l.length-1)=l.dropLast:=by
 induction l with
 | nil=>rfl
 | cons a r ih =>
  cases r with
  | nil=>rfl
  | cons b r =>
   have e:(a::b::r).length-1=((b::r).length-1)+1:=by
    have h1:(a::b::r).length=r.length+2:=rfl;have h2:(b::r).length=r.length+1:=rfl;omega
   rw[e,List.eraseIdx_cons_succ,ih]
   all_goals rfl
theorem kz (its:List Value):∀ (k:Nat)(acc:List Value),
  List.foldl (fun x1 x2=>x1++x2) acc.toArray (List.replicate k its.toArray)=(acc++(List.replicate k its).flatten).toArray
 | 0,acc=>by simp
 | k+1,acc=>by
  have e:acc.toArray++its.toArray=(acc++its).toArray:=by simp
  have e2:(acc++its)++(List.replicate k its).flatten=acc++(List.replicate (k+1) its).flatten:=by
   rw[yE,yR,zv]
  rw[<-e2,<-kz its k (acc++its),<-e,yE,List.foldl_cons]
section
variable {X:Cx}{pins:List (Addr×Obj)}{σ:St}{H:Hp}{s:Shared}{l b:Addr}{xs ys zs:List V}
theorem am.lset {its its':List Value}{n:Nat}{f:Array Value->Array Value}{t':Nat}(I:am X pins σ H s)(hH:H l=some (.lst xs))
  (e:s.heap.get? l=some { cls:=.type "list",data:=.seq its.toArray n }) (hf:f its.toArray=its'.toArray) (hv:Vals ys its') (hz:ys.length<=sizeLine) :
  am X pins σ (aH H l (.lst ys)) { s with heap:=s.heap.update l (Obj.mapSeq f),toks:=t' }:=by
 have q:=PySem.IsL.update e f;rw[hf]at q;refine I.write (x:=l) (e:=l) (by rw[hH];exact trivial) (.inl rfl) (fun b' u hb hu=>(Heap.get?_update_other s.heap (Obj.mapSeq f) (yo hb)).trans hu) ⟨_,q⟩ ?_;exact⟨hz,its',_,hv,q⟩
theorem am.lnew {its:List Value}{t':Nat}(I:am X pins σ H s)(hv:Vals ys its)(hz:ys.length<=sizeLine) :
  am X pins σ (aH H s.heap.objs.size (.lst ys)) { s with heap:=s.heap.push { cls:=.type "list",data:=.seq its.toArray },toks:=t' } :=
 I.laid (fun _ _ q=>Heap.get?_push_of_some _ q) (xT _) ⟨hz,its,0,hv,Heap.get?_push_size _ rfl⟩
theorem am.fresh (I:am X pins σ H s):H s.heap.objs.size=none:=I.hok.fresh (xT _)
theorem am.lstM (I:am X pins σ H s)(hH:H l=some (.lst xs)):xs.length<=sizeLine/\∃ (its:List Value)(n:Nat),Vals xs its/\xs.length=its.length/\s.heap.get? l=some { cls:=.type "list",data:=.seq its.toArray n }:=by
 obtain⟨z,its,n,r,e⟩:=I.hok l _ hH;exact⟨z,its,n,r,r.length,e⟩
theorem lY {n:Nat}(h:n<=sizeLine):Builtin.List.listTooLong n=false:=by
 unfold Builtin.List.listTooLong;exact xS (by omega)
end
section
variable {X:Cx}
inductive oH (x:V) (vs:List V) (H:Hp) (Q:VK):Prop
 | mk (l:Addr) (xs:List V) (y:V) (h_0:x=.ref l) (h_1:vs=[y]) (h_2:H l=some (.lst xs)) (h_3:xs.length<sizeLine) (h_4:Q .non (aH H l (.lst (xs++[y])))):oH x vs H Q
theorem cv:we X "list.append" oH:=by
 intro pins s σ H x vs v us Q I rx rv h;obtain⟨l,xs,y,rfl,rfl,hH,hz,q⟩:=h;cases rx;obtain⟨u,rfl,ru⟩:=rv.one;obtain⟨z,its,n,r,hl,e⟩:=I.lstM hH;refine call_meets F.slot_list_append ⟨_,e,rfl⟩ F.entry_list_append (F.args_list_append_2 _ _) (PySem.list_append l its.toArray n u (by rw[xW];omega)) ⟨e,?_⟩;refine⟨.non,_,I.lset (its':=its++[u]) hH e (by simp) (r.append (.cons ru .nil)) ?_,rfl,q⟩;rw[x3,yr];omega
inductive oI (x:V) (vs:List V) (H:Hp) (Q:VK):Prop
 | mk (l b:Addr) (xs zs:List V) (h_0:x=.ref l) (h_1:vs=[.ref b]) (h_2:H l=some (.lst xs)) (h_3:H b=some (.lst zs)) (h_4:xs.length+zs.length<=sizeLine) (h_5:Q .non (aH H l (.lst (xs++zs)))):oI x vs H Q
theorem pE:we X "list.extend" oI:=by
 intro pins s σ H x vs v us Q I rx rv h;obtain⟨l,b,xs,zs,rfl,rfl,hH,hB,hz,q⟩:=h;cases rx;obtain⟨u,rfl,ru⟩:=rv.one;cases ru;obtain⟨z,its,n,r,hl,e⟩:=I.lstM hH;obtain⟨z2,its2,n2,r2,hl2,e2⟩:=I.lstM hB
 have hsz:its.toArray.size+its2.toArray.size<=sizeLine:=by rw[xW,xW];omega
 have hlong:¬ (!its.toArray.isEmpty&&Builtin.List.listTooLong (its.toArray.size+its2.toArray.size))=true:=by
  rw[lY hsz,Bool.and_false];exact xU
 refine call_meets F.slot_list_extend ⟨_,e,rfl⟩ F.entry_list_extend (F.args_list_extend_2 _ _)
  (AutoSeq1.list_extend_list_list_0 l its.toArray n b its2.toArray n2 hlong (by rw[xW];omega) (by omega)) ⟨e,e2,?_⟩
 refine⟨.non,_,I.lset (its':=its++its2) hH e (by simp) (r.append r2) ?_,rfl,q⟩;rw[x3];omega
inductive vA (x:V) (vs:List V) (H:Hp) (Q:VK):Prop
 | mk (l:Addr) (xs:List V) (y:V) (h_0:x=.ref l) (h_1:vs=[]) (h_2:H l=some (.lst xs)) (h_3:xs[xs.length-1]? = some y) (h_4:Q y (aH H l (.lst xs.dropLast))):vA x vs H Q
theorem uh:we X "list.pop" vA:=by
 intro pins s σ H x vs v us Q I rx rv h;obtain⟨l,xs,y,rfl,rfl,hH,hy,q⟩:=h;cases rx;have hus:=rv.zero;subst hus;obtain⟨z,its,n,r,hl,e⟩:=I.lstM hH;obtain⟨u,hu,ru⟩:=r.get hy
 have hy':its.toArray[its.toArray.size-1]? = some u:=by
  show its.toArray[its.length-1]? = some u
  rw[<-Array.getElem?_toList,<-hl];exact hu
 refine call_meets F.slot_list_pop ⟨_,e,rfl⟩ F.entry_list_pop (F.args_list_pop_1 _) (MeetsSeq.list_pop_last l its.toArray n u hy' (by rw[xW];omega)) ⟨e,?_⟩;refine⟨y,_,I.lset (its':=its.dropLast) hH e ?_ r.dropLast ?_,ru,q⟩
 ·show its.toArray.eraseIdxIfInBounds (its.toArray.size-1)=its.dropLast.toArray
  rw[xW,List.eraseIdxIfInBounds_toArray,mR]
 ·rw[List.length_dropLast]
  omega
inductive uC (x:V) (y:V) (H:Hp) (Q:VK):Prop
 | mk (l b:Addr) (xs zs:List V) (h_0:x=.ref l) (h_1:y=.ref b) (h_2:H l=some (.lst xs)) (h_3:H b=some (.lst zs)) (h_4:xs.length+zs.length<=sizeLine) (h_5:∀ p,H p=none->Q (.ref p) (aH H p (.lst (xs++zs)))):uC x y H Q
theorem k9:fW X (binaryOp .Add) uC:=by
 intro pins s σ H x y v u Q I rx ry h;obtain⟨l,b,xs,zs,rfl,rfl,hH,hB,hz,q⟩:=h;cases rx;cases ry;obtain⟨z,its,n,r,hl,e⟩:=I.lstM hH;obtain⟨z2,its2,n2,r2,hl2,e2⟩:=I.lstM hB;refine PySem.P.add_list e e2 ?_ (by rw[xW,xW];omega)
 have ea:its.toArray++its2.toArray=(its++its2).toArray:=by simp
 rw[ea];exact⟨.ref _,_,I.lnew (t':=s.toks) (r.append r2) (by rw[x3];omega),rfl,q _ I.fresh⟩
def wG:R2:=fun x y H Q=>∃ l k xs,x=.ref l/\y=.int k/\H l=some (.lst xs)/\-(2 ^ 63)<=k/\k<2 ^ 63/\xs.length*k.toNat<=sizeLine /\
 ∀ p,H p=none->Q (.ref p) (aH H p (.lst (List.replicate k.toNat xs).flatten))
theorem rW {α:Type}(xs:List α)(k:Nat):(List.replicate k xs).flatten.length=k*xs.length:=by
 induction k with
 | zero=>simp
 | succ k ih=>rw[yE,yR,x3,ih,Nat.succ_mul,Nat.add_comm]
theorem uq:fW X (binaryOp .Mult) wG:=by
 intro pins s σ H x y v u Q I rx ry h;obtain⟨l,k,xs,rfl,rfl,hH,h1,h2,hz,q⟩:=h;cases rx;obtain⟨t,rfl⟩:=ry;obtain⟨z,its,n,r,hl,e⟩:=I.lstM hH
 have hlen:its.toArray.size*k.toNat<=sizeLine:=by rw[xW,<-hl];exact hz
 have hcap:¬ its.toArray.size*k.toNat>(2 ^ 63-1)/8:=by
  have:(sizeLine:Nat)<=(2 ^ 63-1)/8:=by decide
  omega
 have hfit:¬ (!Builtin.List.listFitsIndex k)=true:=by
  rw[fitsIndex_both h1 h2];exact xU
 have hlong:¬ Builtin.List.listTooLong (its.toArray.size*k.toNat)=true:=by
  rw[lY hlen];exact xU
 have hnew:List.foldl (fun x1 x2=>x1++x2) #[] (List.replicate (if its.toArray.isEmpty=true then 0 else k.toNat) its.toArray)=(List.replicate k.toNat its).flatten.toArray:=by
  have f0:∀ m:Nat,List.foldl (fun x1 x2=>x1++x2) #[] (List.replicate m its.toArray)=(List.replicate m its).flatten.toArray:=fun m=>by
   have:=kz its m [];rw[List.nil_append]at this;exact this
  rw[f0]
  cases its with
  | nil=>simp
  | cons a r'=>rw[xV (by simp)]
 refine wpAny_binaryOp_repeat_ref (T:="list") (U:="int") (by decide) ⟨_,e,rfl⟩ (fun s'=>typeIs_int s' k t) noFill_list_mul F.fills_int_mul F.slot_int_rmul repeat_list F.slot_int_index.lookup
  (call_meets F.slot_int_rmul (typeIs_int s k t) F.entry_int_rmul (F.args_int_rmul_2 _ _) (int___rmul___int_list k t l its.toArray n)
   ⟨e,rfl,⟨_,e,rfl⟩,call_meets F.slot_list_mul ⟨_,e,rfl⟩ F.entry_list_mul (F.args_list_mul_2 _ _) (AutoListH.list___mul___list_int_3 l its.toArray n k t hfit hcap hlong) ⟨e,?_⟩⟩)
 rw[hnew];exact⟨.ref _,_,I.lnew (t':=s.toks) (r.rep k.toNat) (by rw[rW,Nat.mul_comm];exact hz),rfl,q _ I.fresh⟩
end
section
variable {κ:Type} [DecidableEq κ]
def eP (kvs:List (κ×V))(k:κ):Option V:=(kvs.find? fun kv=>decide (kv.1=k)).map (·.2)
def iu (kvs:List (κ×V))(k:κ)(v:V):List (κ×V) :=
 if (kvs.any fun kv=>decide (kv.1=k))=true then kvs.map (fun kv=>if kv.1=k then (kv.1,v) else kv) else kvs++[(k,v)]
theorem dB {p:κ×V}{r:List (κ×V)}{k:κ}(e:p.1=k):eP (p::r) k=some p.2:=by simp[eP,List.find?_cons,e]
theorem dA {p:κ×V}{r:List (κ×V)}{k:κ}(e:¬ p.1=k):eP (p::r) k=eP r k:=by simp[eP,List.find?_cons,e]
theorem jX (k:κ):∀ kvs:List (κ×V),(kvs.any fun kv=>decide (kv.1=k))=(eP kvs k).isSome
 | []=>rfl
 | p::r=>by
  rw[zm]
  by_cases e:p.1=k
  ·simp only[dB e,xX e,Bool.true_or,Option.isSome_some]
  ·rw[dA e,xS e,Bool.false_or];exact jX k r
theorem kI (k j:κ)(y:V):∀ kvs:List (κ×V),eP kvs k=none->eP (kvs++[(k,y)]) j=if j=k then some y else eP kvs j
 | [],_=>by
  by_cases e:k=j
  ·rw[x4 e.symm];exact dB (p:=(k,y)) e
  ·rw[xV (fun z=>e z.symm)];exact dA (p:=(k,y)) e
 | p::r,hn=>by
  rw[List.cons_append]
  have hk:¬ p.1=k:=fun z=>by rw[dB z]at hn;cases hn
  rw[dA hk]at hn;have ih:=kI k j y r hn
  by_cases e:p.1=j
  ·rw[dB e,dB e,xV (fun z=>hk (e.trans z))]
  ·rw[dA e,dA e,ih]
theorem iO (kvs:List (κ×V))(k:κ)(v:V):(iu kvs k v).length<=kvs.length+1:=by
 unfold iu;split
 ·rw[xP];omega
 ·rw[x3,yt,List.length_nil];omega
theorem gR {kvs:List (κ×V)}{k:κ}(v:V)(h:eP kvs k=none):iu kvs k v=kvs++[(k,v)]:=by
 unfold iu;rw[jX,h];exact xV (by decide)
theorem eO.isSome_eq {o:Option V}{u:Option Value}(r:eO o u):o.isSome=u.isSome:=by
 cases o with
 | none=>cases u with
  | none=>rfl
  | some _=>exact (show False from r).elim
 | some _=>cases u with
  | none=>exact (show False from r).elim
  | some _=>rfl
theorem eO.getD {o:Option V}{u:Option Value}{d:V}{d':Value}(r:eO o u)(rd:aD d d'):aD (o.getD d) (u.getD d'):=by
 cases o with
 | none=>cases u with
  | none=>exact rd
  | some _=>exact (show False from r).elim
 | some _=>cases u with
  | none=>exact (show False from r).elim
  | some _=>exact r
theorem KV.val {kvs:List (κ×V)}{vs:List (κ×Value)}(r:KV kvs vs)(k:κ):eO (eP kvs k) (valueAt vs k):=by
 unfold KV at r
 induction r with
 | nil=>exact True.intro
 | @cons p q ps qs h t ih =>
  obtain⟨h1,h2⟩:=h
  by_cases e:p.1=k
  ·have e':q.1=k:=h1.symm.trans e
   have b:valueAt (q::qs) k=some q.2:=by simp[valueAt,List.find?_cons,e']
   rw[dB e,b];exact h2
  ·have e':¬ q.1=k:=fun z=>e (h1.trans z)
   have b:valueAt (q::qs) k=valueAt qs k:=by simp[valueAt,List.find?_cons,e']
   rw[dA e,b];exact ih
theorem KV.any {kvs:List (κ×V)}{vs:List (κ×Value)}(r:KV kvs vs)(k:κ):(kvs.any fun kv=>decide (kv.1=k))=vs.any fun kv=>decide (kv.1=k):=by
 unfold KV at r
 induction r with
 | nil=>rfl
 | cons h t ih=>rw[zm,zm,ih,h.1]
theorem KV.repl {kvs:List (κ×V)}{vs:List (κ×Value)}(r:KV kvs vs)(k:κ){y:V}{u:Value}(ry:aD y u) :
  KV (kvs.map fun kv=>if kv.1=k then (kv.1,y) else kv) (vs.map fun kv=>if kv.1=k then (kv.1,u) else kv):=by
 unfold KV at r ⊢
 induction r with
 | nil=>exact .nil
 | @cons p q ps qs h t ih =>
  rw[yf,yf];refine .cons ?_ ih;obtain⟨h1,h2⟩:=h
  by_cases e:p.1=k
  ·rw[x4 e,x4 (h1.symm.trans e)];exact⟨h1,ry⟩
  ·rw[xV e,xV (fun z=>e (h1.trans z))];exact⟨h1,h2⟩
theorem KV.put {kvs:List (κ×V)}{vs:List (κ×Value)}(r:KV kvs vs)(k:κ){y:V}{u:Value}(ry:aD y u):KV (iu kvs k y) (stored vs k u):=by
 unfold iu stored;rw[r.any k]
 by_cases e:(vs.any fun kv=>decide (kv.1=k))=true
 ·rw[x4 e,x4 e];exact r.repl k ry
 ·rw[xV e,xV e];exact Paired.snoc r ⟨rfl,ry⟩
theorem KV.keys {kvs:List (κ×V)}{vs:List (κ×Value)}(r:KV kvs vs):kvs.map (·.1)=vs.map (·.1):=by
 unfold KV at r
 induction r with
 | nil=>rfl
 | cons h t ih=>rw[yf,yf,ih,h.1]
theorem KV.length {kvs:List (κ×V)}{vs:List (κ×Value)}(r:KV kvs vs):kvs.length=vs.length:=x9 r
end
theorem kB {P:Program}{w:World}{k:bV}{u:Value}(r:aD (kV k) u):(bp P w).is k u=true:=by
 cases k with
 | inl i=>obtain⟨t,e⟩:=(show ∃ t,u=Value.int i t from r);subst e;exact lP P w i t
 | inr x=>obtain⟨t,e⟩:=(show ∃ t,u=Value.str x t from r);subst e;exact lQ P w x t
theorem kA {P:Program}{w:World}:∀ {ks:List bV}{us:List Value},Vals (ks.map kV) us->ItemsAre (bp P w) ks us
 | [],_,r=>by rw[List.map_nil]at r;cases r;exact .nil
 | k::ks,_,r=>by
  rw[yf]at r
  cases r with
  | cons h t=>exact .cons (kB h) (kA t)
abbrev KT (H:Hp):List (List bV×V)->List (List bV×Addr×Value)->Prop:=Paired fun p q=>p.1=q.1/\H q.2.1=some (.tup (p.1.map kV))/\aD p.2 q.2.2
theorem KT.val {H:Hp}{kvs:List (List bV×V)}{xs:List (List bV×Addr×Value)}(r:KT H kvs xs)(k:List bV):eO (eP kvs k) ((atKey xs k).map (·.2)):=by
 induction r with
 | nil=>exact True.intro
 | @cons p q ps qs h t ih =>
  obtain⟨h1,_,h2⟩:=h
  by_cases e:p.1=k
  ·have e':q.1=k:=h1.symm.trans e
   have b:atKey (q::qs) k=some q.2:=by simp[atKey,List.find?_cons,e']
   rw[dB e,b];exact h2
  ·have e':¬ q.1=k:=fun z=>e (h1.trans z)
   have b:atKey (q::qs) k=atKey qs k:=by simp[atKey,List.find?_cons,e']
   rw[dA e,b];exact ih
theorem KT.repl {H:Hp}{kvs:List (List bV×V)}{xs:List (List bV×Addr×Value)}(r:KT H kvs xs)(k:List bV){y:V}{u:Value}(ry:aD y u) :
  KT H (kvs.map fun kv=>if kv.1=k then (kv.1,y) else kv) (xs.map (putAt k u)):=by
 induction r with
 | nil=>exact .nil
 | @cons p q ps qs h t ih =>
  rw[yf,yf];refine .cons ?_ ih;obtain⟨h1,h2,h3⟩:=h;unfold putAt
  by_cases e:p.1=k
  ·rw[x4 e,x4 (h1.symm.trans e)];exact⟨h1,h2,ry⟩
  ·rw[xV e,xV (fun z=>e (h1.trans z))];exact⟨h1,h2,h3⟩
theorem KT.put {H:Hp}{kvs:List (List bV×V)}{xs:List (List bV×Addr×Value)}(r:KT H kvs xs)(k:List bV){b:Addr}{y:V}{u:Value}(hb:H b=some (.tup (k.map kV)))(ry:aD y u) :
  KT H (iu kvs k y) (storedH xs k b u):=by
 have e:(kvs.any fun kv=>decide (kv.1=k))=(atKey xs k).isSome:=by
  rw[jX,(r.val k).isSome_eq,Option.isSome_map]
 unfold iu storedH;rw[e]
 by_cases q:(atKey xs k).isSome=true
 ·rw[x4 q,x4 q];exact r.repl k ry
 ·rw[xV q,xV q];exact Paired.snoc r ⟨rfl,hb,ry⟩
theorem KT.keeps {H H':Hp}{kvs:List (List bV×V)}{xs:List (List bV×Addr×Value)}(r:KT H kvs xs)(ht:∀ b ys,H b=some (.tup ys)->H' b=some (.tup ys)):KT H' kvs xs :=
 Paired.mapP r fun _ _ z=>⟨z.1,ht _ _ z.2.1,z.2.2⟩
section
variable {P:Program}{w:World}{H:Hp}{h:Heap}{a:Addr}
theorem sU {u:HO}(ok:eQ P w H h)(e:Rd H a u):aX P w H h a u:=e.ok ok
theorem jv {kvs:List (bV×V)}(ok:eQ P w H h)(e:Rd H a (.dK kvs)):kvs.length<=sizeLine/\(a == sysModules)=false/\∃ vs,KV kvs vs/\h.DictOf (bp P w) a vs :=
 show aX P w H h a (.dK kvs) from sU ok e
theorem u9 {kvs:List (bV×V)}(ok:eQ P w H h)(e:H a=some (.dK kvs)):kvs.length<=sizeLine/\(a == sysModules)=false/\∃ vs,KV kvs vs/\h.DictOf (bp P w) a vs:=jv ok (.inl e)
theorem h8 {ks:List bV}(ok:eQ P w H h)(e:H a=some (.tup (ks.map kV))):(tupleKind (bp P w)).is h ks a:=by
 obtain⟨_,its,r,o,h1,h2,n,h3⟩:=(show aX P w H h a (.tup (ks.map kV)) from ok a _ e);exact⟨o,its.toArray,n,h1,h2,(Prod.mk.inj h3).1,by simpa using kA r⟩
theorem jw {kvs:List (List bV×V)}(ok:eQ P w H h)(e:Rd H a (.dT kvs)):kvs.length<=sizeLine/\(a == sysModules)=false /\
  ∃ xs,KT H kvs xs/\h.DictOfH (tupleKind (bp P w)) a xs:=by
 obtain⟨z,y,xs,r,o,es,ep,h1,h2,h3,h4,h5⟩:=(show aX P w H h a (.dT kvs) from sU ok e);refine⟨z,y,xs,r,o,es,ep,h1,h2,h3,h4,fun x hx=>?_,h5⟩
 have all:∀ {l:List (List bV×V)}{m:List (List bV×Addr×Value)},KT H l m->∀ x∈m,(tupleKind (bp P w)).is h x.1 x.2.1:=by
  intro l m q
  induction q with
  | nil=>intro x hx;exact nomatch hx
  | @cons p q ps qs hq t ih =>
   intro x hx;rcases ya.mp hx with e | hx
   ·subst e
    exact h8 ok (by rw[<-hq.1];exact hq.2.1)
   ·exact ih x hx
 exact all r x hx
theorem vb {kvs:List (List bV×V)}(ok:eQ P w H h)(e:H a=some (.dT kvs)):kvs.length<=sizeLine/\(a == sysModules)=false /\
  ∃ xs,KT H kvs xs/\h.DictOfH (tupleKind (bp P w)) a xs:=jw ok (.inl e)
end
def cf (H:Hp)(a:Addr)(y:V)(r:Option V):Prop :=
 (∃ kvs k,Rd H a (.dK kvs)/\y=kV k/\r=eP kvs k)\/∃ kvs k b,Rd H a (.dT kvs)/\y=.ref b/\H b=some (.tup (k.map kV))/\r=eP kvs k
def iT (H:Hp)(a:Addr)(y v:V)(H':Hp):Prop :=
 (∃ kvs k,H a=some (.dK kvs)/\y=kV k/\kvs.length<sizeLine/\H'=aH H a (.dK (iu kvs k v))) \/
 ∃ kvs k b,H a=some (.dT kvs)/\y=.ref b/\H b=some (.tup (k.map kV))/\kvs.length<sizeLine/\H'=aH H a (.dT (iu kvs k v))
theorem cf.k {H:Hp}{a:Addr}{kvs:List (bV×V)}{k:bV}(e:H a=some (.dK kvs)):cf H a (kV k) (eP kvs k):=.inl ⟨kvs,k,.inl e,rfl,rfl⟩
theorem iT.k {H:Hp}{a:Addr}{kvs:List (bV×V)}{k:bV}{v:V}(e:H a=some (.dK kvs))(hl:kvs.length<sizeLine):iT H a (kV k) v (aH H a (.dK (iu kvs k v))):=.inl ⟨kvs,k,e,rfl,hl,rfl⟩
section
variable {X:Cx}{pins:List (Addr×Obj)}{σ:St}{H:Hp}{s:Shared}{a:Addr}{y v:V}{u r:Value}{o:Option V}{A:Around}{E:Value->Shared->Prop}
theorem am.big (I:am X pins σ H s):sysModules<s.heap.objs.size:=by
 have h:mainGlobals<s.heap.objs.size:=(I.mod.glob.keeps I.bk).lt;exact Nat.lt_trans (by decide) h
theorem pf {Q:Value->Shared->Prop}(hu:A.units+1<cLine)(I:am X pins σ H s)(g:cf H a y (some v))(ry:aD y u)(h:∀ w' s',am X pins σ H s'->aD v w'->Q w' s') :
  wpAny (model X.prog X.w) A (getItem (.ref a) u) Q E s:=by
 rcases g with ⟨kvs,k,e,ey,l⟩ | ⟨kvs,k,b,e,ey,eb,l⟩
 ·subst ey
  obtain⟨z,hd,vs,rel,dd⟩:=jv I.hok e;obtain⟨w',hw,rw'⟩:=eO.some_of (v:=v) (o:=valueAt vs k) (by rw[l];exact rel.val k);exact wpAny_getItem_of (kB ry) dd.mapOf hw (h w' _ (I.tok _) rw')
 ·subst ey
  cases (show u=Value.ref b from ry);obtain⟨z,hd,xs,rel,dd⟩:=jw I.hok e;obtain⟨w',hw,rw'⟩:=eO.some_of (v:=v) (o:=(atKey xs k).map (·.2)) (by rw[l];exact rel.val k);obtain⟨p,hp,hp2⟩:=Option.map_eq_some_iff.mp hw;refine wpAny_getItem_heap (zo hu) (h8 I.hok eb) dd hp ?_;rw[hp2];exact h w' _ (I.tok _) rw'
theorem ww {Q:Value->Shared->Prop}(hu:A.units+1<cLine)(I:am X pins σ H s)(g:cf H a y o)(ry:aD y u)(h:∀ s',am X pins σ H s'->Q (.bool o.isSome) s') :
  wpAny (model X.prog X.w) A (compareOp .In u (.ref a)) Q E s:=by
 rcases g with ⟨kvs,k,e,ey,l⟩ | ⟨kvs,k,b,e,ey,eb,l⟩
 ·subst ey
  obtain⟨z,hd,vs,rel,dd⟩:=jv I.hok e;refine wpAny_in_of (kB ry) hd dd.mapOf ?_;rw[<-(rel.val k).isSome_eq,<-l];exact h _ (I.tok _)
 ·subst ey
  cases (show u=Value.ref b from ry);obtain⟨z,hd,xs,rel,dd⟩:=jw I.hok e;refine wpAny_in_heap (zo hu) (h8 I.hok eb) hd dd ?_;have q:=(rel.val k).isSome_eq;rw[Option.isSome_map]at q;rw[<-q,<-l];exact h _ (I.tok _)
theorem rJ {Q:Value->Shared->Prop}(hu:A.units+1<cLine)(I:am X pins σ H s)(g:cf H a y o)(ry:aD y u)(h:∀ s',am X pins σ H s'->Q (.bool (!o.isSome)) s') :
  wpAny (model X.prog X.w) A (compareOp .NotIn u (.ref a)) Q E s:=by
 rcases g with ⟨kvs,k,e,ey,l⟩ | ⟨kvs,k,b,e,ey,eb,l⟩
 ·subst ey
  obtain⟨z,hd,vs,rel,dd⟩:=jv I.hok e;refine wpAny_notIn_of (kB ry) hd dd.mapOf ?_;rw[<-(rel.val k).isSome_eq,<-l];exact h _ (I.tok _)
 ·subst ey
  cases (show u=Value.ref b from ry);obtain⟨z,hd,xs,rel,dd⟩:=jw I.hok e;refine wpAny_notIn_heap (zo hu) (h8 I.hok eb) hd dd ?_;have q:=(rel.val k).isSome_eq;rw[Option.isSome_map]at q;rw[<-q,<-l];exact h _ (I.tok _)
theorem oj {h':Heap}{t':Nat}{ob:HO}(I:am X pins σ H s)(mu:u4 (H a))(hs:Heap.SameBut a s.heap h')(he:∃ q,h'.get? a=some q)(new:aX X.prog X.w (aH H a ob) h' a ob) :
  am X pins σ (aH H a ob) { s with heap:=h',toks:=t' } :=
 I.write (x:=a) (e:=a) mu (.inl rfl) (fun b q hb z=>(hs.2 b hb).trans z) he new
theorem tV {P:Program}{w:World}{H':Hp}{h':Heap}{kvs:List (bV×V)}{vs:List (bV×Value)}(z:kvs.length<=sizeLine)(hd:(a == sysModules)=false)(rel:KV kvs vs)(dd:h'.DictOf (bp P w) a vs) :
  aX P w H' h' a (.dK kvs):=⟨z,hd,vs,rel,dd⟩
theorem ph {H':Hp}{Q:Unit->Shared->Prop}(hu:A.units+1<cLine)(I:am X pins σ H s)(g:iT H a y v H')(ry:aD y u)(rv:aD v r)(h:∀ s',am X pins σ H' s'->Q () s') :
  wpAny (model X.prog X.w) A (setItem (.ref a) u r) Q E s:=by
 rcases g with ⟨kvs,k,e,ey,l,eH⟩ | ⟨kvs,k,b,e,ey,eb,l,eH⟩
 ·subst ey eH
  obtain⟨z,hd,vs,rel,dd⟩:=u9 I.hok e
  have hz:vs.length<=sizeLine:=by rw[<-rel.length];exact z
  have hl:(iu kvs k v).length<=sizeLine:=by have:=iO kvs k v;omega
  refine wpAny_setItem_pairs (hsz:=hz) (kB ry) dd fun h' dd' hs=>h _ ?_;have he:∃ q,h'.get? a=some q:=let ⟨q,_,_,hq,_⟩:=dd';⟨q,hq⟩;exact oj I (by rw[e];exact True.intro) hs he (tV hl hd (rel.put k rv) dd')
 ·subst ey eH
  cases (show u=Value.ref b from ry);obtain⟨z,hd,xs,rel,dd⟩:=vb I.hok e
  have hz:xs.length<=sizeLine:=by rw[<-x9 rel];exact z
  have hl:(iu kvs k v).length<=sizeLine:=by have:=iO kvs k v;omega
  refine wpAny_setItem_heap (hsz:=hz) (zo hu) (h8 I.hok eb) dd fun h' dd' hs=>h _ ?_;obtain⟨q,es,ep,hq,h2,h3,h4,_,h5⟩:=dd';refine oj I (by rw[e];exact True.intro) hs ⟨q,hq⟩ ⟨hl,hd,_,(rel.put k eb rv).keeps fun c ys ec=>?_,q,es,ep,hq,h2,h3,h4,h5⟩;rw[ak (sN ec e (fun z=>nomatch z))];exact ec
end
def u5 (i:Expr):Prop:=∀ ov iv,subscripted i false ov iv=operate [ov,iv] (getItem ov iv)
theorem sw {prog:Program}{w:World}{A:Around}{E:Value->Shared->Prop}{s:Shared}{env:Env}{value slice:Expr}{pos:Pos}{T id:String}{Q:Value->Shared->Prop}
  (hl:typeLookup (.type T) "__getitem__" = pure (some (.builtin id))) (hs:u5 slice)
  (h:wpAny (model prog w) A (eval value env) (fun o s₁=>wpAny (model prog w) A (eval slice env) (fun i s₂=>s₂.TypeIs o T/\wpAny (model prog w) A (getItem o i) Q E s₂) E s₁) E s) :
  wpAny (model prog w) A (eval (.Subscript value slice pos) env) Q E s:=by
 refine Subscript_ (yh h (fun o s₁ h₁=>yh h₁ (fun i s₂ h₂=>?_) fun _ _ x=>x) fun _ _ x=>x);obtain⟨hT,h₂⟩:=h₂;unfold subscriptTail;refine xO ?_;rw[getitemInPython_of_ne hT.not_modules];refine xO (wpAny_specialOf hT hl ?_)
 have fin:wpAny (model prog w) A (subscripted slice false o i) (fun r s₃=>wpAny (model prog w) A (letTemporaryGo value o r >>= fun _=>pure r) Q E s₃) E s₂:=by
  rw[hs o i];exact wpAny_operating (yh h₂ (fun r s₃ h₃=>xO (wpAny_letTemporaryGo (xR h₃))) fun _ _ x=>x)
 first
  | exact xR (xO fin)
  | exact xO (xR (xO fin))
  | exact xO fin
theorem lK {X:Cx}{pins:List (Addr×Obj)}{σ:St}{H:Hp}{s:Shared}{a:Addr}{y:V}{o:Option V}(I:am X pins σ H s)(g:cf H a y o):s.TypeIs (.ref a) "dict":=by
 rcases g with ⟨kvs,k,e,_,_⟩ | ⟨kvs,k,b,e,_,_,_⟩
 ·obtain⟨_,_,vs,_,dd⟩:=jv I.hok e
  exact dd.typeIs
 ·obtain⟨_,_,xs,_,dd⟩:=jw I.hok e
  exact dd.typeIs
inductive xb (x y:V) (Q:VK) (H:Hp):Prop
 | mk (a:Addr) (v:V) (e:x=.ref a) (g:cf H a y (some v)) (h:Q v H):xb x y Q H
def vH (td ty:TE):TE:=fun σ H Q=>td σ H fun x H1=>ty σ H1 fun y H2=>xb x y Q H2
def wL (ty td:TE):TE:=fun σ H Q=>ty σ H fun y H1=>td σ H1 fun x H2=>∃ a o,x=.ref a/\cf H2 a y o/\Q (.bl o.isSome) H2
def sx (ty td:TE):TE:=fun σ H Q=>ty σ H fun y H1=>td σ H1 fun x H2=>∃ a o,x=.ref a/\cf H2 a y o/\Q (.bl (!o.isSome)) H2
def vD (td ty tv:TE):TS:=fun D σ H=>tv σ H fun v H1=>td σ H1 fun x H2=>ty σ H2 fun y H3=>∃ a H4,x=.ref a/\iT H3 a y v H4/\D.nx σ H4
section
variable {X:Cx}{o i e value:Expr}{pos pos' tpos:Pos}{td ty tv:TE}
theorem jc (hu:X.A.units+1<cLine)(ho:PE X o td)(hi:PE X i ty)(hs:u5 i):PE X (.Subscript o i pos) (vH td ty):=by
 intro pins s σ H Q I h;refine sw PySem.F.slot_dict_getitem.lookup hs (aU (ho pins s σ H _ I h) fun u s1 ⟨x,H1,I1,rx,q1⟩=>aU (hi pins s1 σ H1 _ I1 q1) fun iv s2 ⟨y,H2,I2,ry,a,v,ex,g,q2⟩=>?_);subst ex;obtain rfl:u=Value.ref a:=rx;exact⟨lK I2 g,pf hu I2 g ry fun w' s3 I3 rw'=>⟨v,H2,I3,rw',q2⟩⟩
theorem nv (hu:X.A.units+1<cLine)(hi:PE X i ty)(ho:PE X o td):PC X .In i o (wL ty td):=by
 intro pins s σ H Q I h;refine aU (hi pins s σ H _ I h) fun iv s1 ⟨y,H1,I1,ry,q1⟩=>aU (ho pins s1 σ H1 _ I1 q1) fun u s2 ⟨x,H2,I2,rx,a,ov,ex,g,q2⟩=>?_;subst ex;obtain rfl:u=Value.ref a:=rx;exact ww hu I2 g ry fun s3 I3=>⟨.bl ov.isSome,H2,I3,rfl,q2⟩
theorem pH (hu:X.A.units+1<cLine)(hi:PE X i ty)(ho:PE X o td):PC X .NotIn i o (sx ty td):=by
 intro pins s σ H Q I h;refine aU (hi pins s σ H _ I h) fun iv s1 ⟨y,H1,I1,ry,q1⟩=>aU (ho pins s1 σ H1 _ I1 q1) fun u s2 ⟨x,H2,I2,rx,a,ov,ex,g,q2⟩=>?_;subst ex;obtain rfl:u=Value.ref a:=rx;exact rJ hu I2 g ry fun s3 I3=>⟨.bl (!ov.isSome),H2,I3,rfl,q2⟩
theorem jh (hu:X.A.units+1<cLine)(ho:PE X o td)(hi:PE X i ty)(hv:PE X value tv)(hs:swapsWith value (some (.Subscript o i pos')) pos.line X.env=pure false) :
  PS X (.Assign [.Subscript o i pos'] value pos) (vD td ty tv):=by
 intro pins s σ H D I h;refine wpAny_Assign_Subscript (aU (hv pins s σ H _ I h) fun r s1 ⟨v,H1,I1,rv,q1⟩=>aU (ho pins s1 σ H1 _ I1 q1) fun u s2 ⟨x,H2,I2,rx,q2⟩=>aU (hi pins s2 σ H2 _ I2 q2) fun iv s3 ⟨y,H3,I3,ry,a,H4,ex,g,q3⟩=>?_) hs;subst ex;obtain rfl:u=Value.ref a:=rx;exact ph hu I3 g ry rv fun s4 I4=>⟨σ,H4,I4,q3⟩
end
theorem qb {P:Program}{w:World}{H:Hp}(h:Heap)(hb:sysModules<h.objs.size):aX P w H (h.push { cls:=.type "dict",data:=.dict #[] }) h.objs.size (.dK []) :=
 ⟨yg _,zk.mpr (yo (x5 hb)),[],.nil,Heap.DictOf.new h⟩
def uI:TE:=fun _ H Q=>∀ p,H p=none->Q (.ref p) (aH H p (.dK []))
section
variable {X:Cx}{pos:Pos}
theorem gM:PE X (.Dict [] [] pos) uI:=fun pins s σ H Q I h =>
 wpAny_Dict_empty ⟨.ref s.heap.objs.size,_,I.laid (a:=s.heap.objs.size) (o:=.dK []) (t':=s.toks) (fun _ _ q=>Heap.get?_push_of_some _ q) (xT _) (qb s.heap I.big),rfl,h _ (I.hok.fresh (xT _))⟩
end
structure M2 (X:Cx)(o:Expr)(m:Str)(apos:Pos)(e f:Expr)(cpos:Pos):Prop where
 base:attributeBase o m X.env (eval o X.env)=eval o X.env
 few:((backTo cpos (starEach [e,f] X.env)).all (fun x=>!x.1)&&(backToKw cpos (keywordEach [] X.env)).all (fun x=>x.1.isSome)
  && decide (([e,f]:List Expr).length+([]:List Keyword).length+(if ([]:List Keyword).isEmpty then 0 else 1)<30))=true
 line:(apos.endLine == cpos.line)=true
 trees:backTo cpos (starEach [e,f] X.env)=[(false,eval e X.env),(false,eval f X.env)]
def wW (H:Hp)(a:Addr):Prop:=(∃ kvs,Rd H a (.dK kvs))\/∃ kvs,Rd H a (.dT kvs)
theorem tY {X:Cx}{pins:List (Addr×Obj)}{σ:St}{H:Hp}{s:Shared}{a:Addr}(I:am X pins σ H s)(d:wW H a) :
  s.TypeIs (.ref a) "dict"/\(∀ b,Value.ref a=.ref b->∃ ob,s.heap.get? b=some ob/\ob.dict=none)/\(a == sysModules)=false:=by
 rcases d with ⟨kvs,e⟩ | ⟨kvs,e⟩
 ·obtain⟨_,hd,vs,_,dd⟩:=jv I.hok e
  refine⟨dd.typeIs,fun b q=>?_,hd⟩;cases q;obtain⟨ob,_,_,h1,h2,_⟩:=dd;exact⟨ob,h1,h2.2.1⟩
 ·obtain⟨_,hd,xs,_,dd⟩:=jw I.hok e
  refine⟨dd.typeIs,fun b q=>?_,hd⟩;cases q;obtain⟨ob,_,_,h1,h2,_⟩:=dd;exact⟨ob,h1,h2.2.1⟩
section
variable {X:Cx}{pins:List (Addr×Obj)}{σ:St}{H:Hp}{s:Shared}{a:Addr}{y d:V}{u r:Value}{o:Option V}{A:Around}{E:Value->Shared->Prop}
theorem tT {Q:Value->Shared->Prop}(hu:A.units+1<cLine)(I:am X pins σ H s)(g:cf H a y o)(ry:aD y u)(rd:aD d r)(h:∀ w' s',am X pins σ H s'->aD (o.getD d) w'->Q w' s') :
  wpAny (model X.prog X.w) A (call (.builtin "dict.get") [.ref a,u,r]) Q E s:=by
 rcases g with ⟨kvs,k,e,ey,l⟩ | ⟨kvs,k,b,e,ey,eb,l⟩
 ·subst ey
  obtain⟨z,hd,vs,rel,dd⟩:=jv I.hok e;refine call_meetsIn PySem.F.slot_dict_get dd.typeIs PySem.F.entry_dict_get (PySem.F.args_dict_get_3 _ _ _) (meets_dict_get_default (bp X.prog X.w) a (kB ry) hd r) ⟨_,dd.mapOf,h _ _ (I.tok _) ?_⟩;rw[l];exact (rel.val k).getD rd
 ·subst ey
  cases (show u=Value.ref b from ry);obtain⟨z,hd,xs,rel,dd⟩:=jw I.hok e;refine call_meetsIn PySem.F.slot_dict_get dd.typeIs PySem.F.entry_dict_get (PySem.F.args_dict_get_3 _ _ _) (meetsH_dict_get_default (tupleKind (bp X.prog X.w)) a b hd r) ⟨zo hu,k,xs,h8 I.hok eb,dd,h _ _ (I.tok _) ?_⟩;rw[l];exact (rel.val k).getD rd
end
def uH (td ty tx:TE):TE:=fun σ H Q=>td σ H fun x H1=>∃ a,x=.ref a/\wW H1 a/\ty σ H1 fun y H2=>tx σ H2 fun z H3=>∃ o,cf H3 a y o/\Q (o.getD z) H3
section
variable {X:Cx}{o e f:Expr}{apos cpos:Pos}{td ty tx:TE}
theorem qE (hu:X.A.units+1<cLine)(ho:PE X o td)(he:PE X e ty)(hf:PE X f tx)(m:M2 X o "get" apos e f cpos):PE X (.Call (.Attribute o "get" apos) [e,f] [] cpos) (uH td ty tx):=by
 intro pins s σ H Q I h;refine wpAny_Call_method m.base m.few m.line PySem.F.plainAttrs_dict PySem.F.slot_dict_get PySem.F.type_dict_get (aU (ho pins s σ H _ I h) fun u s1 ⟨x,H1,I1,rx,a,ex,d,q1⟩=>?_);subst ex;obtain rfl:u=Value.ref a:=rx;obtain⟨t1,t2,_⟩:=tY I1 d;refine⟨t1,t2,?_⟩;rw[m.trees]
 refine Calls.callWith_builtin rfl (Calls.evalArgs_plain (Calls.spliced_cons (aU (he pins s1 σ H1 _ I1 q1) fun iv s2 ⟨y,H2,I2,ry,q2⟩ =>
  Calls.spliced_cons (aU (hf pins s2 σ H2 _ I2 q2) fun fv s3 ⟨z,H3,I3,rz,ov,g,q3⟩=>Calls.spliced_nil ?_))))
 exact tT hu I3 g ry rz fun w' s4 I4 rw'=>⟨_,H3,I4,rw',q3⟩
end
end L2
namespace Att
open PySem PySem.W PySem.Calls PyProof.Rows
theorem iV {P:Params}{h:Heap}:∀ (ns:List Int)(vs:List Value),WellAll P h vs (ns.map WData.int)->IntsAre vs ns:=by
 intro ns
 induction ns with
 | nil =>
  intro vs w;rw[List.map_nil]at w;cases w;exact .nil
 | cons n ns ih =>
  intro vs w;rw[yf]at w
  cases w with
  | cons a b =>
   cases a;exact .cons _ _ (ih _ b)
theorem pM {l:OpenLaw}{n:Nat}(hn:l.most=some n){P:Params}{h:Heap}{args:List WData}{vals:List Value}
  (hpre:l.row.toRowW.claim.pre args=true) (hwl:WellAll P h vals args) :
  ∃ a vs ns,vals=[Value.ref a]/\args=[WData.list (ns.map WData.int)]/\h.get? a=some { cls:=.type "list",data:=.seq vs.toArray }/\IntsAre vs ns/\ns.length<=n:=by
 have hsh:WShape.hasAll [] args [.list .int]=true:=(pre_splitW hpre).1;have hc:l.pre.holds [] { args:=args }=true:=(pre_splitW hpre).2;obtain⟨d,r,rfl,h1,h2⟩:=hasAllW_cons hsh;obtain rfl:=hasAllW_nil h2;obtain⟨xs,rfl,h3⟩:=hasW_list h1;obtain⟨ns,rfl⟩:=items_int h3
 have hlen:ns.length<=n:=by
  unfold OpenLaw.pre at hc
  have h4:(WTm.not (.lt (.lit (.int (n:Int))) (.len (.arg 0)))).holds [] { args:=[.list (ns.map .int)] }=true:=by
   have h4:=(holds_andW hc).1;rw[hn]at h4;exact h4
  have h5:=condW_of h4 (w_not (w_lt w_lit (w_len_list (w_arg rfl))));rw[xP]at h5;refine Nat.le_of_not_lt fun q=>?_
  have q':(n:Int)<((ns.length:Nat):Int):=by omega
  first
   | (rw[xX q']at h5;exact absurd h5 (by decide))
   | (simp at h5;omega)
 cases hwl with
 | cons w1 w2 =>
  cases w2
  cases w1 with
  | list ho hall=>exact⟨_,_,ns,rfl,rfl,ho,iV ns _ hall,hlen⟩
theorem pJ (l:OpenLaw)(args:List WData):l.row.toRowW.claim.post args (.bool true) args=true :=
 postW_of (r:=l.row.toRowW) (X:=(true == true))
  (show WShape.has [] (.bool true) .bool=true by first | rfl | decide | simp[WShape.has,WShape.arms,WShape.armsAll])
  (show (WTm.eq .res (.lit (.bool true))).value [] { args:=args,res:=some (.bool true),after:=args }=some (.bool (true == true)) from w_eq_bool (w_res rfl) w_lit) rfl
theorem attach_call {l:OpenLaw}{n:Nat}{q:Program}{loose:List Str}{XP:(Str->Option Value)->Heap->Prop}{YP:World->Heap->Prop}{d:DefRec}
  (hn:l.most=some n) (hdf:d.params.defaults=[])
  (call:∀ (w:World)(s₀ s₁:Shared)(mg mb:Str->Option Value)(fa:Addr)(o:Obj)(pm cd doc:Value)(a:Addr)(vs:List Value)(ns:List Int),
   Ground q loose [] XP w s₀ mg mb s₁.heap->YP w s₁.heap ->
   s₁.heap.get? fa=some o->o.data=.func (docDef d.name d.params d.body d.scope pm cd doc)->s₁.heap.CodeRec cd d.name->mg d.name=some (.ref fa) ->
   s₁.heap.get? a=some { cls:=.type "list",data:=.seq vs.toArray }->IntsAre vs ns->ns.length<=n->s₁.gens = #[] ->
   codeAny (model l.prog w) callerA (.call (.ref fa) ⟨[.ref a],[]⟩) (fun r s'=>r=.ok (.ret (.bool true))/\OldK s₁.heap s'.heap/\s'.os=s₁.os/\AllBare s'.gens) s₁) :
  WalkO q loose XP YP l.row.toRowW d [] (fun f vs=>PySem.call f vs):=by
 intro w s₀ s₁ mg mb G Y fa o pm cd doc dV kV ho hd hcd hD hmg hg args vals as hpre hlay hrd hwl hlo;obtain rfl:dV=.none:=Dflts.none hD hdf;obtain rfl:kV=.none:=Dflts.noKw hD;obtain⟨a,vs,ns,rfl,rfl,hobj,hints,hlen⟩:=pM hn hpre hwl;refine enter_call (zy (call w s₀ s₁ mg mb fa o pm cd doc a vs ns G Y ho (fd_plain hd) hcd hmg hobj hints hlen hg) fun r s' hq=>?_);obtain⟨rfl,h2,h3,h4⟩:=hq;exact⟨.inl ⟨.bool true,.bool true,[],rfl,fun _=>rfl,.bool true,pJ l _,fun _=>⟨List.Pairwise.nil,fun _ hm=>(nomatch hm)⟩⟩,h2,h3,h4⟩
section
variable {prog:Program}{w:World}{A:Around}{E:Value->Shared->Prop}{s:Shared}{K:Frag}
def wD (h:Heap):Heap:={ h with objs:=#[] }
def wC (h:Heap)(L d:Addr):List (Addr×Obj):=(List.range h.objs.size).filterMap fun a=>if a=L\/a=d then none else (h.get? a).map fun o=>(a,o)
end
end Att
namespace L2
open PySem PySem.Spec PyProof.Rows
theorem kJ:∀ {vs:List Value}{ns:List Int},IntsAre vs ns->Vals (ns.map V.int) vs
 | _,_,.nil=>.nil
 | _,_,.cons n t h=>.cons ⟨t,rfl⟩ (kJ h)
def tL (H:Hp):Prop:=∀ b,H b=none\/∃ o xs,H b=some (.frz o (.lst xs))
theorem qm {P:Program}{w:World}{K:PySem.W.Frag}{mg mb:Str->Option Value}{CX:mG}{k:Nat}{fa a:Addr}{fd:FuncData}{x:Str}{sp:Sp}{s₁:Shared}{vs:List Value}{ns:List Int}
  (KX:K.In s₁.heap) (hns:s₁.heap.Ns mainGlobals mg) (hb:s₁.heap.Ns builtinsNs mb) (hbb:∀ x:Str,x≠"__name__"->mb x=bootBuiltins x) (hlim:s₁.heap.NoLimit) (hg:s₁.gens = #[])
  (ha:s₁.heap.get? a=some { cls:=.type "list",data:=.seq vs.toArray }) (hi:IntsAre vs ns) (hl:ns.length<=sizeLine) (hr:bJ k callerA)
  (F:∀ base:Heap,K.In base->base.Ns mainGlobals mg->a9 P w K mg base CX k fa fd [x] sp) (hbind:∀ (s:Shared)(u:Value),BindsTo s fd ⟨[u],[]⟩ [(x,u)])
  (hsp:∀ H:Hp,tL H->aT K H a (ns.map V.int)->sp [.ref a] H (fun v _=>v=.bl true) fun _ _ _=>False)
  (hCX:∀ H e s',CX [] H s₁ (fun _ _ _=>False) e s'->False) :
  codeAny (model P w) callerA (.call (.ref fa) ⟨[.ref a],[]⟩) (fun r s'=>r=.ok (.ret (.bool true))/\OldK s₁.heap s'.heap/\s'.os=s₁.os/\AllBare s'.gens) s₁:=by
 have rv:=kJ hi;have lenV:=hi.length
 have core:∀ H:Hp,tL H->aT K H a (ns.map V.int)->eQ P w H s₁.heap->(∀ b,H b≠none->b=a)->(H a≠none->K.lookup a=none) ->
   codeAny (model P w) callerA (.call (.ref fa) ⟨[.ref a],[]⟩) (fun r s'=>r=.ok (.ret (.bool true))/\OldK s₁.heap s'.heap/\s'.os=s₁.os/\AllBare s'.gens) s₁:=by
  intro H hO hS hok hA hK;have base_of:∀ {b:Addr}{o:Obj},s₁.heap.get? b=some o->H b=none->(kP s₁.heap H).get? b=some o:=fun e n=>qi e n
  have noA:∀ {b:Addr}{o:Obj}{es:Array DictEntry}{ep:Nat},s₁.heap.get? b=some o->o.data=.dict es ep->H b=none:=fun {b o es ep} e d=>by
   cases q:H b with
   | none=>rfl
   | some u =>
    have e':b=a:=hA b (by rw[q];simp);subst e';rw[ha]at e;cases e;have d':Data.seq vs.toArray _=Data.dict es ep:=d;cases d'
  have nsK:∀ {b:Addr}{m:Str->Option Value},s₁.heap.Ns b m->(kP s₁.heap H).Ns b m:=fun {b m} ⟨o,es,ep,e,d,r⟩=>⟨o,es,ep,base_of e (noA e d),d,r⟩
  have hKb:K.In (kP s₁.heap H):=fun b o e=>base_of (KX b o e) (by
   cases q:H b with
   | none=>rfl
   | some u =>
    have e':b=a:=hA b (by rw[q];simp);subst e'
    rw[hK (by rw[q];simp)]at e;cases e)
  have hM:Mod K mg (kP s₁.heap H):=⟨hKb,nsK hns,⟨mb,nsK hb,hbb⟩,let ⟨mc,h1,h2⟩:=hlim;⟨mc,nsK h1,h2⟩⟩;have e0:mI P w K mg (kP s₁.heap H) callerA [] s₁ H:=⟨rfl,hM,fun b o e=>rZ e,Nat.le_of_eq (pq _ _),trivial,fun b hb=>absurd (show b∈([]:List Addr) from hb) (by simp),hok,.of_eq hg⟩;refine zy ((F _ hKb (nsK hns)).run callerA [] s₁ H ⟨[.ref a],[]⟩ [.ref a] [.ref a] _ _ hr e0 (hbind s₁ (.ref a)) (.cons rfl .nil) (hsp H hO hS)) fun r s' h=>?_
  cases r with
  | error e=>exact (hCX H e s' h).elim
  | ok fl =>
   cases fl with
   | next=>exact False.elim h
   | brk=>exact False.elim h
   | cont=>exact False.elim h
   | ret u =>
    obtain⟨v,H',os,bare,un,hok',r',q⟩:=h;have q':v=.bl true:=q;subst q';obtain rfl:u=Value.bool true:=r';refine⟨rfl,OldK.of_keep fun b o e=>?_,os,bare⟩
    cases q:H b with
    | none=>exact un.keep b o e q (by intro z;exact absurd (show b∈([]:List Addr) from z) (by simp)) (by simp)
    | some u =>
     rcases hO b with z | ⟨ob,xs,z⟩
     ·rw[q]at z;cases z
     ·have z2:=un.frzs b ob _ z
      obtain⟨e1,_⟩:=hok b _ z;obtain⟨e2,_⟩:=hok' b _ z2;rw[e]at e1;cases e1;exact e2
 cases hk:K.lookup a with
 | some o =>
  have e:=KX a o hk;rw[ha]at e;cases e;refine core (fun _=>none) (fun _=>.inl rfl) (.inr ⟨_,vs.toArray,_,hk,rfl,rfl,rfl,by rw[xW,lenV];exact hl,by simpa using rv⟩) (fun b u z=>by have z':(none:Option HO)=some u:=z;cases z') (fun b z=>absurd rfl z) fun z=>absurd rfl z
 | none =>
  refine core (fun b=>if b=a then some (.frz { cls:=.type "list",data:=.seq vs.toArray } (.lst (ns.map V.int))) else none) (fun b=>?_) (.inl (.inr ⟨{ cls:=.type "list",data:=.seq vs.toArray },x4 rfl⟩)) (fun b u z=>?_) (fun b z=>?_) fun _=>hk
  ·by_cases hb:b=a
   ·exact .inr ⟨_,_,x4 hb⟩
   ·exact .inl (xV hb)
  ·by_cases hb:b=a
   ·have z':=(x4 hb).symm.trans z
    cases z';subst hb;exact⟨ha,by rw[xP];exact hl,vs,_,rv,ha⟩
   ·have z':=(xV hb).symm.trans z
    cases z'
  ·by_cases hb:b=a
   ·exact hb
   ·exact absurd (xV hb) z
theorem walk_of {l:PySem.W.OpenLaw}{n k:Nat}{q:Program}{loose:List Str}{XP:(Str->Option Value)->Heap->Prop}{YP:World->Heap->Prop}{d:DefRec}{K:Params->PySem.W.Frag}{CX:World->mG}{sp:World->Sp}{x:Str}
  (hn:l.most=some n) (hn2:n<=sizeLine) (hdf:d.params.defaults=[]) (hr:bJ k callerA)
  (hY:∀ (w:World)(h:Heap),YP w h->(K w.params).In h)
  (F:∀ (w:World)(mg:Str->Option Value)(fa:Addr)(h:Heap),(K w.params).In h->h.Ns mainGlobals mg->mg d.name=some (.ref fa) ->
   ∃ fd:FuncData,(∀ (s:Shared)(u:Value),BindsTo s fd ⟨[u],[]⟩ [(x,u)]) /\
    ∀ base:Heap,(K w.params).In base->base.Ns mainGlobals mg->a9 l.prog w (K w.params) mg base (CX w) k fa fd [x] (sp w))
  (hsp:∀ (w:World)(H:Hp)(a:Addr)(ns:List Int),ns.length<=n->tL H->aT (K w.params) H a (ns.map V.int)->sp w [.ref a] H (fun v _=>v=.bl true) fun _ _ _=>False)
  (hCX:∀ (w:World)(H:Hp)(s:Shared)(e:Value)(s':Shared),CX w [] H s (fun _ _ _=>False) e s'->False) :
  PySem.W.WalkO q loose XP YP l.row.toRowW d [] (fun f vs=>PySem.call f vs):=by
 refine Att.attach_call hn hdf fun w s₀ s₁ mg mb fa o pm cd doc a vs ns G Y ho hd hcd hmg hobj hints hlen hg=>?_;have KX:=hY w _ Y;obtain⟨fd,hb,hF⟩:=F w mg fa _ KX G.T.g hmg;exact qm KX G.T.g G.T.b G.T.builtins G.T.nolimit hg hobj hints (yA hlen hn2) hr hF hb (fun H hO hS=>hsp w H a ns hlen hO hS) fun H e s'=>hCX w H s₁ e s'
def d8 (s:Stmt)(j:Nat):Stmt:=match s with
 | .ClassDef _ _ _ body _ _ _ _ _ _ _=>body.getD j (.Pass ⟨0,0,0,0⟩)
 | _=>.Pass ⟨0,0,0,0⟩
def db (s:Stmt):Arguments:=match s with
 | .FunctionDef _ a _ _ _ _ _ _ _ _=>a
 | _=>{ posonlyargs:=[],args:=[],vararg:=none,kwonlyargs:=[],kw_defaults:=[],kwarg:=none,defaults:=[] }
def cz (s:Stmt):List Stmt:=match s with
 | .FunctionDef _ _ b _ _ _ _ _ _ _=>b
 | _=>[]
def ah (s:Stmt):Scope:=match s with
 | .FunctionDef _ _ _ _ _ _ sc _ _ _=>sc
 | _=>{ kind:=.function,names:=[],isGenerator:=false,isCoroutine:=false }
abbrev dD:mG:=fun _ _ _ _ _ _=>False
abbrev E0:XK:=fun _ _ _=>False
theorem fY {X:Cx}:cW dD X E0:=fun _ _ _ _ _ _ _ h=>h.elim
structure dS (K:PySem.W.Frag)(x qual:Str)(st:Stmt)(f:Addr)(fd:FuncData):Prop where
 ex:∃ (oc:Value)(od:Option Addr)(kV doc pm:Value)(an:Option Addr)(cdv ct:Value)(osl:Array (Option Value)),
  fd=PySem.W.fnOf x qual (db st) (cz st) (ah st) .none kV doc pm an cdv ct/\K.lookup f=some ⟨oc,od,.func fd,osl⟩/\PySem.W.codeIn K cdv qual=true
 kp:PySem.W.keepIn K (.ref f)=true
section
variable {P:Program}{w:World}{K:PySem.W.Frag}{mg:Str->Option Value}{base:Heap}
theorem dS.ok {x qual:Str}{st:Stmt}{f:Addr}{fd:FuncData}{N ps:List Str}{k:Nat}{sp:Sp}(F:dS K x qual st f fd)(S:aC N ps (ah st))(len:∀ vs H Q E,sp vs H Q E->vs.length=ps.length)
  (hbody:∀ (cdv:Value)(A:Around)(outer:List Env)(s:Shared)(H:Hp)(vs:List V)(Q:VK)(E:XK),bJ k (A.deeper (envOfC qual (ah st) s.heap.objs.size f cdv))->sp vs H Q E ->
   ∃ t,mH (ju dD P w K mg base N qual (ah st) f cdv A outer s H E).nox (cz st) t/\t { nx:=fun _ H'=>Q .non H',rt:=Q } (gZ N vs) H):a9 P w K mg base dD (k+1) f fd ps sp:=by
 obtain⟨oc,od,kV,doc,pm,an,cdv,ct,osl,rfl,lk,hcd⟩:=F.ex;refine sI lk hcd S len fun A outer s H vs Q E hr hsp=>?_;obtain⟨t,h,q⟩:=hbody cdv A outer s H vs Q E hr hsp;exact⟨t,h.nox,q⟩
theorem dS.binds {x qual:Str}{st:Stmt}{f:Addr}{fd:FuncData}{ps:List Str}(F:dS K x qual st f fd)
  (h:∀ (kV doc pm:Value)(an:Option Addr)(cdv ct:Value)(us:List Value),us.length=ps.length->bindArgs (PySem.W.fnOf x qual (db st) (cz st) (ah st) .none kV doc pm an cdv ct) ⟨us,[]⟩=pure (ps.zip us)):dR K fd ps []:=by
 obtain⟨oc,od,kV,doc,pm,an,cdv,ct,osl,rfl,lk,hcd⟩:=F.ex;exact .all (h kV doc pm an cdv ct)
theorem qg {x qual:Str}{st:Stmt}{f:Addr}{oc:Value}{od an:Option Addr}{osl:Array (Option Value)}{kV doc pm cdv ct:Value}(l:K.lookup f=some ⟨oc,od,.func (PySem.W.fnOf x qual (db st) (cz st) (ah st) .none kV doc pm an cdv ct),osl⟩)
  (c:PySem.W.codeIn K cdv qual=true) (k:PySem.W.keepIn K (.ref f)=true):dS K x qual st f (PySem.W.fnOf x qual (db st) (cz st) (ah st) .none kV doc pm an cdv ct):=⟨⟨oc,od,kV,doc,pm,an,cdv,ct,osl,rfl,l,c⟩,k⟩
end
theorem jy {A:Around}{k:Nat}(hr:bJ k A):A.units+1<cLine:=Nat.lt_of_le_of_lt (Nat.add_le_add_left (by decide:1<=64) _) hr.units
theorem cx {n:Nat}(h:n<=1000):n<sizeLine:=Nat.lt_of_le_of_lt h (by decide)
section
variable {X:Cx}
theorem pv (i:Nat){x:Str}{pos:Pos}(hN:X.N[i]? = some x:=by rfl)(hv:wo X.env.scope x:=by first | exact Or.inl rfl | exact Or.inr (Or.inl rfl) | exact Or.inr (Or.inr rfl))(hd:(x == ("__debug__" : Str))=false:=by decide)
  (hcd:(x == ("__classdict__" : Str))=false:=by decide):PE X (.Name x pos) (sy i):=uz hN hv hd hcd
end
theorem aE {A B:Prop}(h:B):if false=true then A else B:=by
 rw[xV xU];exact h
theorem aV {A B:Prop}(h:A):if true=true then A else B:=by
 rw[x4 rfl];exact h
theorem wA {c A B:Prop} [Decidable c] (h1:c->A)(h2:¬ c->B):if c then A else B:=by
 by_cases h:c
 ·rw[x4 h]
  exact h1 h
 ·rw[xV h]
  exact h2 h
def ay (H H':Hp):Prop:=∀ b o,H b=some o->H' b=some o
theorem ay.refl (H:Hp):ay H H:=fun _ _ h=>h
theorem ay.trans {H H1 H2:Hp}(a:ay H H1)(b:ay H1 H2):ay H H2:=fun c o h=>b c o (a c o h)
theorem ay.free {H H':Hp}(e:ay H H'){l:Addr}(h:H' l=Option.none):H l=Option.none:=by
 cases q:H l with
 | none=>rfl
 | some o =>
  rw[e l o q]at h;cases h
theorem ay.seq {K:PySem.W.Frag}{H H':Hp}{a:Addr}{xs:List V}(e:ay H H')(h:aT K H a xs):aT K H' a xs:=by
 rcases h with (h | ⟨o,h⟩) | h
 ·exact .inl (.inl (e _ _ h))
 ·exact .inl (.inr ⟨o,e _ _ h⟩)
 ·exact .inr h
end L2
set_option maxHeartbeats 4000000
namespace L2
open PySem PySem.Spec PyProof.Rows
structure nY (so sc:Scope)(N N':List Str)(src:List (Option Nat)):Prop where
 kind:sc.kind=.function
 nocell:∀ y∈sc.names,y.2≠.cell
 loc:∀ y∈sc.names,y.2=.local->sc.names.lookup y.1=some .local
 fre:∀ y∈sc.names,y.2=.free->so.names.lookup y.1=some .cell\/so.names.lookup y.1=some .free
 nd:N'.Nodup
 len:src.length=N'.length
 cap:∀ p∈N'.zip src,(match p.2 with | none=>true | some j=>decide (N[j]? = some p.1/\sc.names.lookup p.1=some .free))=true
def ga (src:List (Option Nat))(σ:St):St:=src.map fun o=>o.bind fun j=>(σ[j]?).join
def cX (X:Cx)(sc:Scope)(cl:List (Str×Addr))(C:Addr)(N':List Str)(s:Shared)(H:Hp)(ex:List Addr):Cx where
 prog:=X.prog
 w:=X.w
 K:=X.K
 mg:=X.mg
 base:=X.base
 A:=X.A
 N:=N'
 s₀:=s
 H₀:=H
 env:=compEnvC sc cl C X.env
 outer:=X.stack
 stack:=X.stack
 ex:=ex
 fn:=fun _=>false
 calm:=X.calm
 pn:=[]
 xe:=fun _ _=>False
theorem d7 {env:Env}:∀ (names:List (Str×NameKind))(cs:List (Str×Addr)),(∀ y∈names,y.2=.free->∃ c,env.cells.lookup y.1=some c) ->
  (∀ x c,cs.lookup x=some c->env.cells.lookup x=some c) ->
  ∃ cl:List (Str×Addr),(forIn names cs fun x r=>if (x.2 == NameKind.free)=true then (do let a <-cellOf env x.1;pure (ForInStep.yield ((x.1,a)::r))) else pure (ForInStep.yield r):Sem (List (Str×Addr)))=pure cl /\
   (∀ x c,cl.lookup x=some c->env.cells.lookup x=some c)/\(∀ x,(∃ c,cs.lookup x=some c)->∃ c,cl.lookup x=some c)/\∀ y∈names,y.2=.free->∃ c,cl.lookup y.1=some c
 | [],cs,_,h2=>⟨cs,by rw[List.forIn_nil],h2,fun _ h=>h,fun _ h=>nomatch h⟩
 | (n,k)::r,cs,h1,h2=>by
  by_cases hk:k=.free
  ·subst hk
   obtain⟨c,hc⟩:=h1 (n,.free) xZ rfl
   have h2':∀ x d,((n,c)::cs).lookup x=some d->env.cells.lookup x=some d:=fun x d e=>by
    rw[yM]at e;split at e
    ·rename_i hx
     cases e
     have:x=n:=by simpa using hx
     rw[this];exact hc
    ·exact h2 x d e
   obtain⟨cl,e,q1,q2,q3⟩:=d7 r ((n,c)::cs) (fun y hy=>h1 y (xY _ hy)) h2';have has:∃ d,((n,c)::cs).lookup n=some d:=⟨c,by simp⟩;refine⟨cl,?_,q1,fun x ⟨d,hd⟩=>q2 x ?_,fun y hy hf=>?_⟩
   ·rw[List.forIn_cons,<-e]
    simp[cellOf,hc]
   ·rw[yM]
    split
    ·exact⟨_,rfl⟩
    ·exact⟨d,hd⟩
   ·rcases ya.mp hy with rfl | hy
    ·exact q2 _ has
    ·exact q3 y hy hf
  ·obtain⟨cl,e,q1,q2,q3⟩:=d7 r cs (fun y hy=>h1 y (xY _ hy)) h2
   have hb:(k == NameKind.free)=false:=by simpa using hk
   refine⟨cl,?_,q1,q2,fun y hy hf=>?_⟩
   ·rw[List.forIn_cons,<-e]
    simp[hb]
   ·rcases ya.mp hy with rfl | hy
    ·exact absurd hf hk
    ·exact q3 y hy hf
theorem jt {sc:Scope}{env:Env}(h:∀ y∈sc.names,y.2=.free->∃ c,env.cells.lookup y.1=some c) :
  ∃ cl:List (Str×Addr),closureFor sc env=pure cl/\(∀ x c,cl.lookup x=some c->env.cells.lookup x=some c)/\∀ y∈sc.names,y.2=.free->∃ c,cl.lookup y.1=some c:=by
 obtain⟨cl,e,q1,_,q3⟩:=d7 sc.names [] h (fun x c z=>by simp at z);refine⟨cl,?_,q1,q3⟩;unfold closureFor
 show (forIn sc.names [] _ >>= fun cs=>pure cs)=_
 refine Eq.trans (y1 (fun t=>t >>= fun cs=>pure cs) (Eq.trans ?_ e)) (by simp)
 congr 1
theorem gS {env:Env}:∀ {names:List (Str×NameKind)}{x:Str},(∀ y∈names,y.2≠.cell) ->
  ((names.map fun (n,k)=>if (k == NameKind.free&&env.scope.kind == .function&&env.kindOf n == some .cell) then (n,NameKind.cell) else (n,k)).lookup x=some .cell \/
    (names.map fun (n,k)=>if (k == NameKind.free&&env.scope.kind == .function&&env.kindOf n == some .cell) then (n,NameKind.cell) else (n,k)).lookup x=some .free)->(x,NameKind.free)∈names
 | [],_,_,h=>by simp at h
 | (n,k)::r,x,hc,h=>by
  have ih:=@gS env r x (fun y hy=>hc y (xY _ hy));have h:List.lookup x ((if (k == NameKind.free&&env.scope.kind == .function&&env.kindOf n == some .cell)=true then (n,NameKind.cell) else (n,k))::_)=some .cell\/List.lookup x ((if (k == NameKind.free&&env.scope.kind == .function&&env.kindOf n == some .cell)=true then (n,NameKind.cell) else (n,k))::_)=some .free:=h
  by_cases hb:(k == NameKind.free&&env.scope.kind == .function&&env.kindOf n == some .cell)=true
  ·rw[x4 hb]at h
   cases hx:x == n with
   | true =>
    have e:x=n:=by simpa using hx
    subst e
    have:k=NameKind.free:=by
     simp only[y0,zz]at hb;exact hb.1.1
    subst this;exact xZ
   | false =>
    simp only[yM,hx]at h;exact xY _ (ih h)
  ·rw[xV hb]at h
   cases hx:x == n with
   | true =>
    have e:x=n:=by simpa using hx
    subst e;have hk:=hc (x,k) xZ;simp only[yM,beq_self_eq_true,Option.some.injEq]at h;rcases h with h | h
    ·exact absurd h hk
    ·subst h;exact xZ
   | false =>
    simp only[yM,hx]at h;exact xY _ (ih h)
theorem fZ {env:Env}:∀ {names:List (Str×NameKind)}{x:Str},names.lookup x=some .free ->
  ((names.map fun (n,k)=>if (k == NameKind.free&&env.scope.kind == .function&&env.kindOf n == some .cell) then (n,NameKind.cell) else (n,k)).lookup x=some .cell \/
    (names.map fun (n,k)=>if (k == NameKind.free&&env.scope.kind == .function&&env.kindOf n == some .cell) then (n,NameKind.cell) else (n,k)).lookup x=some .free)
 | [],_,h=>by simp at h
 | (n,k)::r,x,h=>by
  have ih:=@fZ env r x
  show List.lookup x ((if (k == NameKind.free&&env.scope.kind == .function&&env.kindOf n == some .cell)=true then (n,NameKind.cell) else (n,k))::_)=some .cell\/List.lookup x ((if (k == NameKind.free&&env.scope.kind == .function&&env.kindOf n == some .cell)=true then (n,NameKind.cell) else (n,k))::_)=some .free
  cases hx:x == n with
  | true =>
   simp only[yM,hx,Option.some.injEq]at h;subst h
   by_cases hb:(NameKind.free == NameKind.free&&env.scope.kind == .function&&env.kindOf n == some .cell)=true
   ·rw[x4 hb];left;simp only[yM,hx]
   ·rw[xV hb];right;simp only[yM,hx]
  | false =>
   simp only[yM,hx]at h
   by_cases hb:(k == NameKind.free&&env.scope.kind == .function&&env.kindOf n == some .cell)=true
   ·rw[x4 hb];simp only[yM,hx];exact ih h
   ·rw[xV hb];simp only[yM,hx];exact ih h
theorem eZ {prog:Program}{w:World}{A:Around}{R:Result->Shared->Prop}{s:Shared}{elt target iter:Expr}{ifs:List Expr}{scope:Scope}{pos:Pos}{it acc:Value}{env:Env}(I:Nat->Shared->Prop)
  (turn:∀ n s,I n s->wpAny (model prog w) A (pyNext it) (fun r s₁=>match r with
   | none=>R (.ok .next) s₁
   | some v=>wpAny (model prog w) A (letOwnedTupleGo target it v) (fun _ s₁'=>wpAny (model prog w) A (assign target env v) (fun _ s₂ =>
     wpAny (model prog w) A (forIn ifs true fun c r=>if r=true then do let ok <-isTrue c env (eval c env);pure (ForInStep.yield ok) else pure (ForInStep.yield r)) (fun ok s₃ =>
      if ok=true then wpAny (model prog w) A (eval elt env) (fun x s₄ =>
       wpAny (model prog w) A (call (.builtin "list.append") [acc,x]) (fun _ s₅=>∃ m,m<n/\I m s₅) (fun _ _=>False) s₄) (fun _ _=>False) s₃
      else ∃ m,m<n/\I m s₃) (fun _ _=>False) s₂) (fun _ _=>False) s₁') (fun _ _=>False) s₁) (fun _ _=>False) s)
  (n:Nat) (h:I n s) :
  codeAny (model prog w) A (.compLoop (.ListComp elt [⟨target,iter,ifs,0⟩] scope pos) 0 it acc env) R s:=by
 refine codeAny_loop rfl I (fun n s hI=>?_) n h
 show wpAny _ A ((compTurn (.ListComp elt [⟨target,iter,ifs,0⟩] scope pos) 0 it acc env).onRaise (fun x=>do noteFrame x env;theTreesLotGoes x)) _ _ s
 refine wpAny_noted ?_;rw[compTurn_list];refine xO (wpAny_standAt (xO (yh (turn n s hI) (fun r s₁ h₁=>?_) fun _ _ h'=>h'.elim)))
 cases r with
 | none=>exact xR h₁
 | some v =>
  refine xO (yh h₁ (fun _ s₁' h₁'=>?_) fun _ _ h'=>h'.elim);refine xO (yh h₁' (fun _ s₂ h₂=>xO (yh h₂ (fun ok s₃ h₃=>?_) fun _ _ h'=>h'.elim)) fun _ _ h'=>h'.elim)
  cases ok with
  | false=>exact xR ⟨rfl,h₃⟩
  | true =>
   exact xO (xO (yh h₃ (fun x s₄ h₄=>xO (yh h₄ (fun _ s₅ h₅=>xR (xR ⟨rfl,h₅⟩)) fun _ _ h'=>h'.elim)) fun _ _ h'=>h'.elim))
def u7 (X:Cx)(ifs:List Expr)(t:TT):Prop :=
 ∀ (pins:List (Addr×Obj))(s:Shared)(σ:St)(H:Hp)(Q:Bool->Hp->Prop),am X pins σ H s->t σ H Q ->
  wpAny (model X.prog X.w) X.A (forIn ifs true fun c r=>if r=true then do let ok <-isTrue c X.env (eval c X.env);pure (ForInStep.yield ok) else pure (ForInStep.yield r)) (TP X pins σ Q) X.xe s
def mw:TT:=fun _ H Q=>Q true H
theorem bI {X:Cx}:u7 X [] mw:=fun pins s σ H Q I h=>wpAny_tests_nil ⟨H,I,h⟩
def sA (tt:TT)(te:TE)(a:Addr):TS:=fun D σ H=>tt σ H fun b H1=>if b=true then te σ H1 fun y H2=>∃ ys,H2 a=some (.lst ys)/\ys.length<sizeLine/\D.nx σ (aH H2 a (.lst (ys++[y]))) else D.nx σ H1
def iH (J:It)(g:TG)(tb:TS)(D:fL)(σ:St)(H:Hp):Prop:=∃ W:Nat->Nat->St->Hp->Prop,(∃ m,W 0 m σ H)/\∀ i m σ H,W i m σ H ->
 (J.stop i H/\D.nx σ H)\/(J.go i H/\∃ N:St->Hp->Prop,(∀ σ' H',N σ' H'->∃ m',m'<m/\W (i+1) m' σ' H')/\∀ x H',J.yld i H x H'->g x σ H' fun σ2 H2=>tb { D with nx:=N,ct:=N,bk:=D.nx } σ2 H2)
def vG (wi:TI)(g:TG)(tt:TT)(te:TE)(src:List (Option Nat)):TE:=fun σ H Q=>wi σ H fun J H1=>∀ a,H1 a=none ->
 iH J g (sA tt te a) { nx:=fun _ H'=>Q (.ref a) H',rt:=fun _ _=>False } (ga src σ) (aH H1 a (.lst []))
theorem lM {X:Cx}{pins:List (Addr×Obj)}{σ:St}{H:Hp}{s:Shared}{sc so:Scope}{N':List Str}{src:List (Option Nat)}{cl:List (Str×Addr)}{fp:List Addr}{h':Heap}
  (I:am X pins σ H s) (hso:X.env.scope=so) (S:nY so sc X.N N' src) (q1:∀ x c,cl.lookup x=some c->X.env.cells.lookup x=some c) (q3:∀ y∈sc.names,y.2=.free->∃ c,cl.lookup y.1=some c)
  (hf:∀ b∈fp,eX X pins H b) (hlt:∀ b∈fp,b<s.heap.objs.size) (hns:h'.Ns s.heap.objs.size fun _=>none) (hk:∀ b o,s.heap.get? b=some o->h'.get? b=some o) (tk:Nat) :
  am (cX X sc cl s.heap.objs.size N' s H fp) [] (ga src σ) H { s with heap:=h',toks:=tk }:=by
 have hb:∀ b∈fp,b≠s.heap.objs.size/\∀ x c,cl.lookup x=some c->c≠b:=fun b z=>⟨x5 (hlt b z),fun x c e=>(hf b z).2.2.2.2.1 x c (q1 x c e)⟩
 refine⟨⟨I.ok.mod,?_,I.ok.glob,I.ok.blt,xT _,fun x y c h1 h2=>I.ok.inj x y c (q1 _ _ h1) (q1 _ _ h2),fun x hx=>?_,fun x c hx _=>(by cases hx),I.ok.hd,I.ok.frames,.inl rfl,hb,I.bs,yA I.ok.bsz I.sz,fun b o e z=>?_,fun b z hz=>?_,I.stack,I.stkFree⟩,
  rfl,I.bare,Un.kept hk,⟨_,hns,fun i x v h1 h2 h3=>?_⟩,fun x c e=>?_,I.hok.fresh (xT _),fun x c e=>I.freeC x c (q1 x c e),fun p hp=>absurd (show p∈([]:List (Addr×Obj)) from hp) (by simp),I.hok.kept hk,?_⟩
 ·show (relabel sc X.env).kind=_
  exact S.kind
 ·have hx':(x,NameKind.free)∈sc.names:=gS S.nocell hx
  exact q3 _ hx' rfl
 ·rcases (hf b z).2.2.2.1 with y | y
  ·exact I.ok.noex b o e y
  ·exact absurd (yc (xQ e) (yA I.ok.bsz y)) (zd _)
 ·rcases ya.mp (I.stkSub b hz) with y | y
  ·exact (hf b z).2.1 y
  ·exact (hf b z).2.2.1 y
 ·-- the captured names
  have h1':N'[i]? = some x:=h1;have h2':(ga src σ)[i]? = some (some v):=h2;unfold ga at h2';rw[List.getElem?_map]at h2'
  cases hs:src[i]? with
  | none=>rw[hs]at h2';cases h2'
  | some o =>
   rw[hs]at h2';have h2'':(o.bind fun j=>(σ[j]?).join)=some v:=ye h2'
   cases o with
   | none=>cases h2''
   | some j =>
    have hj:(σ[j]?).join=some v:=h2''
    have hσ:σ[j]? = some (some v):=by
     cases e:σ[j]? with
     | none=>rw[e]at hj;cases hj
     | some z=>rw[e]at hj;rw[show z=some v from hj]
    have hzip:(x,some j)∈N'.zip src:=by
     have:(N'.zip src)[i]? = some (x,some j):=by
      rw[List.getElem?_zip_eq_some];exact⟨h1',hs⟩
     exact yj this
    have hc:=yS (S.cap _ hzip);obtain⟨hN,hfr⟩:X.N[j]? = some x/\sc.names.lookup x=some .free:=hc;have hmem:(x,NameKind.free)∈sc.names:=y3 hfr;have hvis:=S.fre _ hmem rfl;rw[<-hso]at hvis;obtain⟨m,hn,hl⟩:=I.loc;obtain⟨u,ru,lk⟩:=hl j x v hN hσ (.inr hvis);refine⟨u,ru,.inr ⟨fZ hfr,?_⟩⟩;obtain⟨c,hcl⟩:=q3 _ hmem rfl;refine⟨c,hcl,?_⟩;rcases lk with ⟨k,_⟩ | ⟨_,c',e',z⟩
    ·have k:X.env.scope.names.lookup x=some .local:=k
     rcases hvis with y | y<;>(rw[k]at y;cases y)
    ·have:=q1 x c hcl
     rw[e']at this;cases this;obtain⟨ob,e1,e2⟩:=z;exact⟨ob,hk _ _ e1,e2⟩
 ·obtain⟨v,ob,e1,e2⟩:=I.cell x c (q1 x c e)
  exact⟨v,ob,hk _ _ e1,e2⟩
 ·show (ga src σ).length=N'.length
  unfold ga;rw[xP];exact S.len
theorem iI {X:Cx}{pins:List (Addr×Obj)}{σ:St}{H:Hp}{s:Shared}{l:Addr}{xs:List V}{y:V}{u:Value}{E:Value->Shared->Prop}(I:am X pins σ H s)(hH:H l=some (.lst xs))(hz:xs.length<sizeLine)(ru:aD y u) :
  wpAny (model X.prog X.w) X.A (call (.builtin "list.append") [.ref l,u]) (fun _ s'=>am X pins σ (aH H l (.lst (xs++[y]))) s') E s:=by
 obtain⟨z,its,n,r,hl,e⟩:=I.lstM hH;refine call_meets F.slot_list_append ⟨_,e,rfl⟩ F.entry_list_append (F.args_list_append_2 _ _) (PySem.list_append l its.toArray n u (by rw[xW];omega)) ⟨e,?_⟩;refine I.lset (its':=its++[u]) hH e (by simp) (r.append (.cons ru .nil)) ?_;rw[x3,yr];omega
theorem ca {X:Cx}{elt tg iter:Expr}{ifs:List Expr}{sc so:Scope}{pos:Pos}{N':List Str}{src:List (Option Nat)}{wi:TI}{g:TG}{tt:TT}{te:TE}{N:List Str}(hso:X.env.scope=so)(hXN:X.N=N)(S:nY so sc N N' src)(hc:X.calm=true)(hi:PI X tg iter wi)
  (hb:∀ (cl:List (Str×Addr))(C:Addr)(s:Shared)(H:Hp)(ex:List Addr),PG (cX X sc cl C N' s H ex) tg g/\u7 (cX X sc cl C N' s H ex) ifs tt/\PE (cX X sc cl C N' s H ex) elt te)
  (hs:∀ x,foldedSetIterable iter X.env x=pure x:=by intro _;rfl):PE X (.ListComp elt [⟨tg,iter,ifs,0⟩] sc pos) (vG wi g tt te src):=by
 subst hXN;intro pins s σ H Q I h
 obtain⟨cl,hcl,q1,q3⟩:=jt (sc:=sc) (env:=X.env) fun y hy hf=>by
  have:=S.fre y hy hf;rw[<-hso]at this;exact I.ok.has y.1 this
 rw[eval_ListComp];refine wpAny_comprehension_free (use:=none) rfl hs hcl S.kind S.loc (aU (hi pins s σ H _ I h) fun v s1 h1=>aU h1 fun itv s2 h2=>?_);obtain⟨it,fp,tn,J,H2,e,I2,T,st2,f2,hR⟩:=h2;subst e;refine yN ?_
 have I3:am X pins σ (aH H2 s2.heap.objs.size (.lst [])) { s2 with heap:=s2.heap.push { cls:=.type "list",dict:=none,data:=.seq ([]:List Value).toArray } } :=
  I2.laid (t':=s2.toks) (fun b u q=>Heap.get?_push_of_some _ q) (xT _) ⟨yg _,[],0,.nil,Heap.get?_push_size _ rfl⟩
 have hfr:=I2.hok.fresh (xT s2.heap.objs.size);obtain⟨W,⟨m0,w0⟩,turn⟩:=hR _ hfr
 have flt:∀ b∈fp,b<s2.heap.objs.size:=fun b hb=>by obtain⟨o,e,_⟩:=T.obj _ _ st2 b hb;exact xQ e
 generalize hs3:({ s2 with heap:=s2.heap.push { cls:=.type "list",dict:=none,data:=.seq ([]:List Value).toArray } }:Shared)=s3 at I3 ⊢
 have e3:s3.heap=s2.heap.push { cls:=.type "list",dict:=none,data:=.seq ([]:List Value).toArray }:=by rw[<-hs3]
 have sz3:s3.heap.objs.size=s2.heap.objs.size+1:=by rw[e3,yq]
 have hf3:∀ b∈fp,eX X pins (aH H2 s2.heap.objs.size (.lst [])) b:=fun b hb=>⟨by rw[ak (x5 (flt b hb))];exact (f2 b hb).1,(f2 b hb).2⟩
 have flt3:∀ b∈fp,b<s3.heap.objs.size:=fun b hb=>by rw[sz3];exact zw (flt b hb)
 have st3:tn 0 s3.heap:=T.keep _ _ _ st2 fun b _ o e=>by rw[e3];exact Heap.get?_push_of_some _ e
 refine wpAny_newFunctionEnv S.nocell (by intro y hy;simp at hy) (fun h4 hns4 hsb4=>?_) S.kind;have kp4:∀ b o,s3.heap.get? b=some o->h4.get? b=some o:=fun b o e=>hsb4.extBut b o (x5 (xQ e)) (Heap.get?_push_of_some _ e);have I4:=lM (h':=h4) I3 hso S q1 q3 hf3 flt3 (by simpa using hns4) kp4 (s3.toks+([]:List (Str×Value)).length);have st4:tn 0 h4:=T.keep _ _ _ st3 fun b _ o e=>kp4 b o e;generalize hC:s3.heap.objs.size=C at I4 hns4 hsb4 ⊢;obtain⟨hg,ht,he⟩:=hb cl C s3 (aH H2 s2.heap.objs.size (.lst [])) fp
 let Y:Cx:=cX X sc cl C N' s3 (aH H2 s2.heap.objs.size (.lst [])) fp
 have loop:∀ s5:Shared,s5={ s3 with heap:=h4,toks:=s3.toks+([]:List (Str×Value)).length }->codeAny (model X.prog X.w) X.A (.compLoop (.ListComp elt [⟨tg,iter,ifs,0⟩] sc pos) 0 (.ref it) (.ref s2.heap.objs.size) (compEnvC sc cl C X.env))
   (compPost (model X.prog X.w) X.A X.xe none (EP X pins σ Q) (.ref s2.heap.objs.size) C) s5:=by
  rintro s5 rfl
  have stat:∀ {H':Hp},(∀ b∈fp,H' b=none)->∀ b∈fp,eX Y [] H' b:=fun {H'} hn b hb=>by
   obtain⟨f0,f1,f2',f3,f4,f5⟩:=hf3 b hb;refine⟨hn b hb,?_,fun z=>?_,.inl hb,fun x c e=>f4 x c (q1 x c e),fun p hp=>absurd (show p∈([]:List (Addr×Obj)) from hp) (by simp)⟩
   ·show b≠C
    rw[<-hC];exact x5 (flt3 b hb)
   ·have z:b∈fB X.stack:=z
    rcases ya.mp (I3.stkSub b z) with y | y
    ·exact f1 y
    ·exact f2' y
  refine eZ (fun n s'=>∃ i σ' H',am Y [] σ' H' s'/\tn i s'.heap/\(∀ b∈fp,H' b=none)/\W i n σ' H') ?_ m0 ⟨0,_,_,I4,st4,fun b hb=>(hf3 b hb).1,w0⟩;rintro n s6 ⟨i,σ6,H6,I6,st6,fr6,w6⟩;rcases turn i n σ6 H6 w6 with ⟨stop,qn⟩ | ⟨go,Nx,hN,step⟩
  ·refine aU (T.done Y rfl rfl rfl hc i [] s6 σ6 H6 _ I6 (stat fr6) st6 stop) fun r s7 ⟨hr,I7⟩=>?_
   subst hr;obtain⟨m,hn,_⟩:=id I7.loc;refine⟨m,hn,fun h' hsb=>?_⟩
   have neC:∀ b o,s3.heap.get? b=some o->b≠C:=fun b o e=>by rw[<-hC];exact x5 (xQ e)
   have freeC:H6 C=none:=I7.free
   have un:Un (fB X.stack) fp (aH H2 s2.heap.objs.size (.lst [])) H6 s3.heap h' :=
    ⟨fun b o e n hb hx=>(hsb.2 b (neC b o e)).trans (I7.base.keep b o e n hb hx),fun b o e n hb hx=>by
      obtain⟨sl,q⟩:=I7.base.slot b o e n hb hx
      exact⟨sl,(hsb.2 b (neC b o e)).trans q⟩,I7.base.free,fun b o e hx=>by
      obtain⟨o',q⟩:=I7.base.there b o e hx
      exact⟨o',(hsb.2 b (neC b o e)).trans q⟩,I7.base.tups,I7.base.frzs,I7.base.tbls⟩
   have hok:eQ X.prog X.w H6 h':=fun b ob e=>by
    refine (I7.hok b ob e).stay (fun c w' hc' q=>(hsb.2 c ?_).trans q) (fun _ q=>q) fun _ _ q=>q;rintro rfl;rcases hc' with z | z
    ·rw[<-z,freeC]at e;cases e
    ·rw[freeC]at z;cases z
   have J7:am X pins σ H6 { s7 with heap:=h' }:=I3.call' (ch:=fp) (s':={ s7 with heap:=h' }) I7.os un hok I7.bare fun b hb=>⟨(hf3 b hb).2.2.2.1,(hf3 b hb).2.1,(hf3 b hb).2.2.2.2.1,(hf3 b hb).2.2.2.2.2⟩;exact⟨.ref s2.heap.objs.size,H6,J7,rfl,qn⟩
  ·refine aU (T.item Y rfl rfl rfl hc i [] s6 σ6 H6 _ I6 (stat fr6) st6 go) fun r s7 ⟨u,hr,h7⟩=>?_
   subst hr;refine aU h7 fun _ s8 ⟨x,H8,I8,r8,y8,st8,fr8⟩=>?_;have I8':=I8.pinned (stat fr8) (T.obj _ _ st8);refine aU (hg _ s8 σ6 H8 x u _ I8' r8 (step x H8 y8)) fun _ s9 ⟨σ9,H9,I9,q9⟩=>?_
   have again:∀ {s':Shared}{σ7:St}{H7:Hp},am Y ([]++gi fp s8.heap) σ7 H7 s'->Nx σ7 H7->∃ m,m<n/\∃ i σ' H',am Y [] σ' H' s'/\tn i s'.heap/\(∀ b∈fp,H' b=none)/\W i m σ' H':=fun {s' σ7 H7} I7 n7=>by
    obtain⟨m',hm,w7⟩:=hN σ7 H7 n7;refine⟨m',hm,i+1,σ7,H7,I7.unpinned,T.keep _ _ _ st8 fun b hb o e=>(I7.pin (b,o) (yb _ (yb _ (bK hb e)))).1,fun b hb=>?_,w7⟩;obtain⟨o,e,d⟩:=T.obj _ _ st8 b hb;exact (I7.pin (b,o) (yb _ (yb _ (bK hb e)))).2.1
   refine aU (ht _ s9 σ9 H9 _ I9 q9) fun ok s10 ⟨H10,I10,q10⟩=>?_
   cases ok with
   | false =>
    rw[xV xU]at q10 ⊢;exact again I10 q10
   | true =>
    rw[x4 rfl]at q10 ⊢;refine aU (he _ s10 σ9 H10 _ I10 q10) fun y s11 ⟨yv,H11,I11,ry,ys,hys,hlen,q11⟩=>?_;exact aU (iI (X:=Y) I11 hys hlen ry) fun _ s12 I12=>again I12 q11
 exact codeAny_compStart_list (loop _ rfl) (T.self _ 0 _ _ _ st4 (loop _ rfl))
section
variable {X:Cx}
def uW (i j:Int):Prop:=0<j/\j<1152921504606846976
theorem qw:fW X (binaryOp .FloorDiv) (rI uW fun i j=>.int (i/j)):=vo fun i j _ _ _ _ _ hc q=>by
 have h1:(0:Int)<j:=hc.1;have h2:j<1152921504606846976:=hc.2;refine floordiv_int (by omega) (by rw[Int.fdiv_eq_ediv_of_nonneg i (by omega)];exact q) (.inl (PyProof.noPylong_of_log2 ?_))
 have h0:j.natAbs≠0:=by omega
 have:j.natAbs.log2<60:=(Nat.log2_lt h0).mpr (by omega);omega
theorem p0:dE X (.builtin "isinstance") (fun xs H Q=>∃ x T t b,xs=[x,.ty T]/\gu X.K H x t/\PySem.W.kitOne X.K t (.type T)=some b/\Q (.bl b) H):=by
 intro pins s σ H xs us Q I r h;obtain⟨x,T,t,b,rfl,ty,e,q⟩:=h
 cases r with
 | cons rx r2 =>
  cases r2 with
  | cons rt r3 =>
   cases r3;cases rt;exact py I rx ty e fun tk=>⟨.bl b,H,I.tok tk,rfl,q⟩
theorem mx {A:Around}{bs:List Bool}{its:List Value}(r:Vals (bs.map V.bl) its) :
  TruthOf X.prog X.w A (fun i v=>its.toArray[i]? = some v) (fun i=>bs.getD i false):=by
 intro i v s Q E hv hq
 have hv':its[i]? = some v:=by simpa using hv
 have hi:i<its.length:=(List.getElem?_eq_some_iff.mp hv').1;have hl:=r.length;rw[xP]at hl;obtain⟨u,hu,ru⟩:=r.get (i:=i) (x:=V.bl (bs[i]'(by omega))) (by rw[List.getElem?_map,List.getElem?_eq_getElem (by omega)];rfl);rw[hv']at hu;cases hu;cases ru
 have e:bs.getD i false=bs[i]'(by omega):=by simp[List.getD,List.getElem?_eq_getElem (show i<bs.length by omega)]
 have hq':Q (bs.getD i false) s:=hq;rw[e]at hq';exact yF hq'
theorem pK (bs:List Bool):(List.range bs.length).all (fun i=>bs.getD i false)=bs.all id:=by
 have h:(List.range bs.length).map (fun i=>bs.getD i false)=bs:=by
  apply List.ext_getElem
  ·simp
  ·intro i h1 h2;simp[List.getD,List.getElem?_eq_getElem h2]
 have e:(List.range bs.length).all (fun i=>bs.getD i false)=((List.range bs.length).map (fun i=>bs.getD i false)).all id:=by rw[List.all_map];rfl
 rw[e,h]
theorem ig {pins:List (Addr×Obj)}{σ:St}{H:Hp}{s:Shared}{A:Around}{E:Value->Shared->Prop}{p:Addr}{xs:List V}{its:List Value}{R:Value->Shared->Prop}(I:am X pins σ H s)(hA:A.handled=none)(pl:PlainL s.heap p its.toArray)
  (h:∀ (I':Addr)(St:Nat->Heap->Prop)(s2:Shared),s2.heap.objs.size=s.heap.objs.size+1->I'=s.heap.objs.size->Walks X.prog X.w A I' [I',p] [I'] its.length (fun i v=>its.toArray[i]? = some v) St->St 0 s2.heap->(∀ b o,s.heap.get? b=some o->s2.heap.get? b=some o)->(∀ h' tk,(∀ b o,b∉[I']->s2.heap.get? b=some o->h'.get? b=some o)->am X pins σ H { s2 with heap:=h',toks:=tk })->R (.ref I') s2) :
  wpAny (model X.prog X.w) A (pyIter (.ref p)) R E s:=by
 refine wpAny_pyIter_list pl.isList ?_
 have hlt:p<s.heap.objs.size:=by obtain⟨o,n,e,_⟩:=pl;exact xQ e
 have W:=Walks.list (prog:=X.prog) (w:=X.w) hA s.heap.objs.size p (x5 hlt) its.toArray;rw[xW]at W;refine h _ _ _ (by rw[yq]) rfl W ⟨⟨_,Heap.get?_push_size _ rfl,rfl,rfl⟩,pl.isList.at fun o e=>Heap.get?_push_of_some _ e⟩ (fun b o e=>Heap.get?_push_of_some _ e) fun h' tk kp=>?_;exact I.kept (t':=tk) fun b o e=>kp b o (by simpa using x5 (xQ e)) (Heap.get?_push_of_some _ e)
theorem fz (hc:X.calm=true):dE X (.builtin "all") (fun xs H Q=>∃ (p:Addr)(bs:List Bool),xs=[.ref p]/\aT X.K H p (bs.map V.bl)/\Q (.bl (bs.all id)) H):=by
 intro pins s σ H xs us Q I r h;obtain⟨p,bs,rfl,hq,q⟩:=h;obtain⟨u,rfl,rx⟩:=eL r;cases rx;obtain⟨its,rv,pl,hz⟩:=I.list hq;have hl:=rv.length;rw[xP]at hl;refine call_all_walk (ig (xs:=bs.map V.bl) I (I.ok.hd hc) pl fun I' St s2 hs2 hI W st kp fin=>?_);refine⟨I',_,_,_,_,St,_,rfl,W,st,mx rv,fun h' tk k=>⟨.bl _,H,fin h' tk k,rfl,?_⟩⟩;rw[<-hl,pK];exact q
theorem gD:∀ {ns:List Int}{us:List Value},Vals (ns.map V.int) us->IntsAre us ns
 | [],_,r=>by cases r;exact IntsAre.nil
 | n::ns,_,r=>by
  cases r with
  | cons r t=>obtain⟨tk,rfl⟩:=r;exact IntsAre.cons _ _ (gD t)
theorem jo:∀ {xs:List V}{us:List Value},xs.length=us.length->(∀ (i:Nat) x u,xs[i]? = some x->us[i]? = some u->aD x u)->Vals xs us
 | [],[],_,_=>.nil
 | x::xs,u::us,hl,h=>.cons (h 0 x u rfl rfl) (jo (by simpa using hl) fun i y v e1 e2=>h (i+1) y v (by simpa using e1) (by simpa using e2))
 | [],_::_,hl,_=>by simp at hl
 | _::_,[],hl,_=>by simp at hl
end
inductive Dt where
 | at (v:V)
 | sq (tup:Bool) (ds:List Dt)
def iK:V->Bool
 | .non=>true
 | .int _=>true
 | .str _=>true
 | _=>false
theorem jx {v:V}(h:iK v=true):fX v=true:=by cases v<;>first | rfl | cases h
theorem rN {x y:V}(hx:iK x=true)(hy:iK y=true):mQ x y=true↔x=y:=by
 cases x<;>cases y<;>first | (cases hx;done) | (cases hy;done) | simp[mQ]
def iU (K:PySem.W.Frag)(H:Hp)(t:Bool)(a:Addr)(xs:List V):Prop:=if t=true then aI K H a xs else aT K H a xs
def RD (K:PySem.W.Frag)(H:Hp):Nat->V->Dt->Prop
 | 0,v,d=>iK v=true/\d=.at v
 | n+1,v,d=>(iK v=true/\d=.at v)\/∃ a t xs ds,v=.ref a/\d=.sq t ds/\iU K H t a xs/\Paired (RD K H n) xs ds
theorem RD.flat {K:PySem.W.Frag}{H:Hp}{v:V}(h:iK v=true):∀ n,RD K H n v (.at v)
 | 0=>⟨h,rfl⟩
 | _+1=>.inl ⟨h,rfl⟩
theorem RD.lst {K:PySem.W.Frag}{H:Hp}{a:Addr}{xs:List V}{ds:List Dt}{n:Nat}(h:aT K H a xs)(r:Paired (RD K H n) xs ds):RD K H (n+1) (.ref a) (.sq false ds) :=
 .inr ⟨a,false,xs,ds,rfl,rfl,by unfold iU;rw[xV xU];exact h,r⟩
theorem RD.tup {K:PySem.W.Frag}{H:Hp}{a:Addr}{xs:List V}{ds:List Dt}{n:Nat}(h:aI K H a xs)(r:Paired (RD K H n) xs ds):RD K H (n+1) (.ref a) (.sq true ds) :=
 .inr ⟨a,true,xs,ds,rfl,rfl,by unfold iU;rw[x4 rfl];exact h,r⟩
section
variable {X:Cx}{pins:List (Addr×Obj)}{σ:St}{H:Hp}{s:Shared}
theorem RD.inj (I:am X pins σ H s):∀ {n m:Nat}{v:V}{d e:Dt},RD X.K H n v d->RD X.K H m v e->d=e:=by
 intro n
 induction n with
 | zero =>
  intro m v d e h1 h2;obtain⟨f,rfl⟩:=h1
  cases m with
  | zero=>exact h2.2.symm
  | succ m =>
   rcases h2 with h2 | ⟨a,t,xs,ds,rfl,_⟩
   ·exact h2.2.symm
   ·cases f
 | succ n ih =>
  intro m v d e h1 h2;rcases h1 with h1 | ⟨a,t,xs,ds,rfl,rfl,q,r⟩
  ·obtain⟨f,rfl⟩:=h1
   cases m with
   | zero=>exact h2.2.symm
   | succ m =>
    rcases h2 with h2 | ⟨a,t,xs,ds,rfl,_⟩
    ·exact h2.2.symm
    ·cases f
  ·cases m with
   | zero=>cases h2.1
   | succ m =>
    rcases h2 with h2 | ⟨a',t',xs',ds',ea,rfl,q',r'⟩
    ·cases h2.1
    ·cases ea
     have pr:∀ {l:List V}{l1 l2:List Dt},Paired (RD X.K H n) l l1->Paired (RD X.K H m) l l2->l1=l2:=by
      intro l
      induction l with
      | nil=>intro l1 l2 p1 p2;cases p1;cases p2;rfl
      | cons z l ihl =>
       intro l1 l2 p1 p2
       cases p1 with
       | cons r1 t1 =>
        cases p2 with
        | cons r2 t2=>rw[ih r1 r2,ihl t1 t2]
     cases t with
     | false =>
      have q:aT X.K H a xs:=by unfold iU at q;rwa [xV xU]at q
      cases t' with
      | false =>
       have q':aT X.K H a xs':=by unfold iU at q';rwa [xV xU]at q'
       have:=I.list_inj q q';subst this;rw[pr r r']
      | true =>
       have q':aI X.K H a xs':=by unfold iU at q';rwa [x4 rfl]at q'
       obtain⟨_,_,p1,_⟩:=I.list q;obtain⟨_,_,p2,_⟩:=I.tuple q';exact absurd rfl (SeqAt.ne_of_list_tuple p1.isList p2)
     | true =>
      have q:aI X.K H a xs:=by unfold iU at q;rwa [x4 rfl]at q
      cases t' with
      | false =>
       have q':aT X.K H a xs':=by unfold iU at q';rwa [xV xU]at q'
       obtain⟨_,_,p1,_⟩:=I.tuple q;obtain⟨_,_,p2,_⟩:=I.list q';exact absurd rfl (SeqAt.ne_of_list_tuple p2.isList p1)
      | true =>
       have q':aI X.K H a xs':=by unfold iU at q';rwa [x4 rfl]at q'
       have:=I.tuple_inj q q';subst this;rw[pr r r']
theorem qU (I:am X pins σ H s):∀ (n:Nat){A:Around}{l b:Addr}{d e:Dt},A.units+n<cLine->RD X.K H (n+1) (.ref l) d->RD X.K H (n+1) (.ref b) e ->
  (∀ {A:Around}{y x:V}{u v:Value}{d e:Dt},A.units+n<cLine+1->RD X.K H n y d->RD X.K H n x e->aD y u->aD x v->∃ k:Bool,(k=true↔d=e)/\SeqAt.EqAt A s u v k) ->
  ∃ k:Bool,(k=true↔d=e)/\SeqAt.RcAt A s (.ref l) (.ref b) k:=by
 intro n A l b d e hu h1 h2 ih;rcases h1 with h1 | ⟨a,t,xs,ds,ea,rfl,q,r⟩
 ·cases h1.1
 cases ea;rcases h2 with h2 | ⟨a',t',xs',ds',ea,rfl,q',r'⟩
 ·cases h2.1
 cases ea
 have pw:∀ {us us':List Value},Vals xs us->Vals xs' us'->∃ ks:Nat->Bool,(∀ j (h1:j<us.length) (h2:j<us'.length),SeqAt.EqAt A.in1 s us[j] us'[j] (ks j)) /\
   (∀ j d1 d2,ds[j]? = some d1->ds'[j]? = some d2->(ks j=true↔d1=d2)):=by
  intro us us' rv rv'
  have ex:∀ j:Nat,∃ k:Bool,(∀ (h1:j<us.length)(h2:j<us'.length),SeqAt.EqAt A.in1 s us[j] us'[j] k)/\(∀ d1 d2,ds[j]? = some d1->ds'[j]? = some d2->(k=true↔d1=d2)):=by
   intro j
   by_cases hj:j<us.length/\j<us'.length
   ·obtain⟨h1,h2⟩:=hj
    have l1:=rv.length;have l2:=rv'.length;have l3:=x9 r;have l4:=x9 r';have gx:xs[j]? = some xs[j]:=List.getElem?_eq_getElem (by omega);have gx':xs'[j]? = some xs'[j]:=List.getElem?_eq_getElem (by omega);obtain⟨u,eu,ru⟩:=rv.get gx;obtain⟨u',eu',ru'⟩:=rv'.get gx'
    have eu2:us[j]=u:=by rw[List.getElem?_eq_getElem h1]at eu;exact ye eu
    have eu2':us'[j]=u':=by rw[List.getElem?_eq_getElem h2]at eu';exact ye eu'
    have pget:∀ {m:Nat}{zs:List V}{es:List Dt}(j:Nat){z:V},Paired (RD X.K H m) zs es->zs[j]? = some z->∃ f,es[j]? = some f/\RD X.K H m z f:=by
     intro m zs
     induction zs with
     | nil=>intro es j z p hz;simp at hz
     | cons z0 zs ihz =>
      intro es j z p hz
      cases p with
      | cons p1 p2 =>
       cases j with
       | zero=>simp at hz;subst hz;exact⟨_,rfl,p1⟩
       | succ j=>obtain⟨f,e1,e2⟩:=ihz j p2 (by simpa using hz);exact⟨f,by simpa using e1,e2⟩
    obtain⟨f,ef,rf⟩:=pget j r gx;obtain⟨f',ef',rf'⟩:=pget j r' gx';obtain⟨k,hk,he⟩:=ih (A:=A.in1) (by show A.units+1+n<cLine+1;omega) rf rf' ru ru';refine⟨k,fun _ _=>by rw[eu2,eu2'];exact he,fun d1 d2 e1 e2=>?_⟩;rw[ef]at e1;rw[ef']at e2;cases e1;cases e2;exact hk
   ·refine⟨false,fun h1 h2=>absurd ⟨h1,h2⟩ hj,fun d1 d2 e1 e2=>?_⟩
    have l1:=rv.length;have l2:=rv'.length;have l3:=x9 r;have l4:=x9 r';have:=(List.getElem?_eq_some_iff.mp e1).1;have:=(List.getElem?_eq_some_iff.mp e2).1;exact absurd ⟨by omega,by omega⟩ hj
  exact⟨fun j=>Classical.choose (ex j),fun j h1 h2=>(Classical.choose_spec (ex j)).1 h1 h2,fun j=>(Classical.choose_spec (ex j)).2⟩
 have allEq:∀ (ks:Nat->Bool),(∀ j d1 d2,ds[j]? = some d1->ds'[j]? = some d2->(ks j=true↔d1=d2))->ds.length=ds'.length->((List.range ds.length).all ks=true↔ds=ds'):=by
  intro ks hk hl;rw[y7];constructor
  ·intro h
   apply List.ext_getElem hl
   intro j h1 h2;exact (hk j _ _ (List.getElem?_eq_getElem h1) (List.getElem?_eq_getElem h2)).mp (h j (zi.mpr h1))
  ·rintro rfl j hj
   have h1:=zi.mp hj;exact (hk j _ _ (List.getElem?_eq_getElem h1) (List.getElem?_eq_getElem h1)).mpr rfl
 have l3:=x9 r;have l4:=x9 r'
 cases t with
 | false =>
  have q:aT X.K H l xs:=by unfold iU at q;rwa [xV xU]at q
  obtain⟨us,rv,p1,_⟩:=I.list q;have l1:=rv.length
  cases t' with
  | true =>
   have q':aI X.K H b xs':=by unfold iU at q';rwa [x4 rfl]at q'
   obtain⟨us',rv',p2,_⟩:=I.tuple q';exact⟨false,by simp,SeqAt.RcAt.list_tuple p1.isList p2 (by omega)⟩
  | false =>
   have q':aT X.K H b xs':=by unfold iU at q';rwa [xV xU]at q'
   obtain⟨us',rv',p2,_⟩:=I.list q';have l2:=rv'.length
   by_cases hl:us.length=us'.length
   ·obtain⟨ks,he,hk⟩:=pw rv rv'
    refine⟨(List.range us.toArray.size).all ks,?_,SeqAt.RcAt.lists p1.isList p2.isList (by simpa using hl) (by omega) fun j h1 h2=>by simpa using he j (by simpa using h1) (by simpa using h2)⟩;rw[xW,show us.length=ds.length by omega,allEq ks hk (by omega)];constructor
    ·rintro rfl;rfl
    ·intro h;injection h
   ·refine⟨false,?_,SeqAt.RcAt.lists_lengths p1.isList p2.isList (by simpa using hl) (by omega)⟩
    constructor
    ·intro h;cases h
    ·intro h
     injection h with _ h;exact absurd (by rw[<-l1,l3,h,<-l4,l2]) hl
 | true =>
  have q:aI X.K H l xs:=by unfold iU at q;rwa [x4 rfl]at q
  obtain⟨us,rv,p1,_⟩:=I.tuple q;have l1:=rv.length
  cases t' with
  | false =>
   have q':aT X.K H b xs':=by unfold iU at q';rwa [xV xU]at q'
   obtain⟨us',rv',p2,_⟩:=I.list q';exact⟨false,by simp,SeqAt.RcAt.tuple_list p1 p2.isList (by omega)⟩
  | true =>
   have q':aI X.K H b xs':=by unfold iU at q';rwa [x4 rfl]at q'
   obtain⟨us',rv',p2,_⟩:=I.tuple q';have l2:=rv'.length;obtain⟨ks,he,hk⟩:=pw rv rv';refine⟨_,?_,SeqAt.RcAt.tuples (e:=ks) (show s.heap.IsTuple l us.toArray from p1) (show s.heap.IsTuple b us'.toArray from p2) (by omega) fun j h1 h2=>by simpa using he j (by simpa using h1) (by simpa using h2)⟩
   by_cases hl:us.length=us'.length
   ·rw[xW,xW,<-hl,Nat.min_self,beq_self_eq_true,Bool.and_true,show us.length=ds.length by omega,allEq ks hk (by omega)]
    constructor
    ·rintro rfl;rfl
    ·intro h;injection h
   ·have:(us.toArray.size == us'.toArray.size)=false:=by simpa using hl
    rw[this,Bool.and_false];constructor
    ·intro h;cases h
    ·intro h
     injection h with _ h;exact absurd (by rw[<-l1,l3,h,<-l4,l2]) hl
theorem qV (I:am X pins σ H s):∀ (n:Nat){A:Around}{l b:Addr}{d e:Dt},A.units+n<cLine->RD X.K H (n+1) (.ref l) d->RD X.K H (n+1) (.ref b) e ->
  (∀ {A:Around}{y x:V}{u v:Value}{d e:Dt},A.units+n<cLine+1->RD X.K H n y d->RD X.K H n x e->aD y u->aD x v->∃ k:Bool,(k=true↔d=e)/\SeqAt.EqAt A s u v k) ->
  ∃ k:Bool,(k=true↔d=e)/\SeqAt.RcNeAt A s (.ref l) (.ref b) (!k):=by
 intro n A l b d e hu h1 h2 ih;rcases h1 with h1 | ⟨a,t,xs,ds,ea,rfl,q,r⟩
 ·cases h1.1
 cases ea;rcases h2 with h2 | ⟨a',t',xs',ds',ea,rfl,q',r'⟩
 ·cases h2.1
 cases ea
 have pw:∀ {us us':List Value},Vals xs us->Vals xs' us'->∃ ks:Nat->Bool,(∀ j (h1:j<us.length) (h2:j<us'.length),SeqAt.EqAt A.in1 s us[j] us'[j] (ks j)) /\
   (∀ j d1 d2,ds[j]? = some d1->ds'[j]? = some d2->(ks j=true↔d1=d2)):=by
  intro us us' rv rv'
  have ex:∀ j:Nat,∃ k:Bool,(∀ (h1:j<us.length)(h2:j<us'.length),SeqAt.EqAt A.in1 s us[j] us'[j] k)/\(∀ d1 d2,ds[j]? = some d1->ds'[j]? = some d2->(k=true↔d1=d2)):=by
   intro j
   by_cases hj:j<us.length/\j<us'.length
   ·obtain⟨h1,h2⟩:=hj
    have l1:=rv.length;have l2:=rv'.length;have l3:=x9 r;have l4:=x9 r';have gx:xs[j]? = some xs[j]:=List.getElem?_eq_getElem (by omega);have gx':xs'[j]? = some xs'[j]:=List.getElem?_eq_getElem (by omega);obtain⟨u,eu,ru⟩:=rv.get gx;obtain⟨u',eu',ru'⟩:=rv'.get gx'
    have eu2:us[j]=u:=by rw[List.getElem?_eq_getElem h1]at eu;exact ye eu
    have eu2':us'[j]=u':=by rw[List.getElem?_eq_getElem h2]at eu';exact ye eu'
    have pget:∀ {m:Nat}{zs:List V}{es:List Dt}(j:Nat){z:V},Paired (RD X.K H m) zs es->zs[j]? = some z->∃ f,es[j]? = some f/\RD X.K H m z f:=by
     intro m zs
     induction zs with
     | nil=>intro es j z p hz;simp at hz
     | cons z0 zs ihz =>
      intro es j z p hz
      cases p with
      | cons p1 p2 =>
       cases j with
       | zero=>simp at hz;subst hz;exact⟨_,rfl,p1⟩
       | succ j=>obtain⟨f,e1,e2⟩:=ihz j p2 (by simpa using hz);exact⟨f,by simpa using e1,e2⟩
    obtain⟨f,ef,rf⟩:=pget j r gx;obtain⟨f',ef',rf'⟩:=pget j r' gx';obtain⟨k,hk,he⟩:=ih (A:=A.in1) (by show A.units+1+n<cLine+1;omega) rf rf' ru ru';refine⟨k,fun _ _=>by rw[eu2,eu2'];exact he,fun d1 d2 e1 e2=>?_⟩;rw[ef]at e1;rw[ef']at e2;cases e1;cases e2;exact hk
   ·refine⟨false,fun h1 h2=>absurd ⟨h1,h2⟩ hj,fun d1 d2 e1 e2=>?_⟩
    have l1:=rv.length;have l2:=rv'.length;have l3:=x9 r;have l4:=x9 r';have:=(List.getElem?_eq_some_iff.mp e1).1;have:=(List.getElem?_eq_some_iff.mp e2).1;exact absurd ⟨by omega,by omega⟩ hj
  exact⟨fun j=>Classical.choose (ex j),fun j h1 h2=>(Classical.choose_spec (ex j)).1 h1 h2,fun j=>(Classical.choose_spec (ex j)).2⟩
 have allEq:∀ (ks:Nat->Bool),(∀ j d1 d2,ds[j]? = some d1->ds'[j]? = some d2->(ks j=true↔d1=d2))->ds.length=ds'.length->((List.range ds.length).all ks=true↔ds=ds'):=by
  intro ks hk hl;rw[y7];constructor
  ·intro h
   apply List.ext_getElem hl
   intro j h1 h2;exact (hk j _ _ (List.getElem?_eq_getElem h1) (List.getElem?_eq_getElem h2)).mp (h j (zi.mpr h1))
  ·rintro rfl j hj
   have h1:=zi.mp hj;exact (hk j _ _ (List.getElem?_eq_getElem h1) (List.getElem?_eq_getElem h1)).mpr rfl
 have l3:=x9 r;have l4:=x9 r'
 cases t with
 | false =>
  have q:aT X.K H l xs:=by unfold iU at q;rwa [xV xU]at q
  obtain⟨us,rv,p1,_⟩:=I.list q;have l1:=rv.length
  cases t' with
  | true =>
   have q':aI X.K H b xs':=by unfold iU at q';rwa [x4 rfl]at q'
   obtain⟨us',rv',p2,_⟩:=I.tuple q';exact⟨false,by simp,SeqAt.RcNeAt.list_tuple p1.isList p2 (by omega)⟩
  | false =>
   have q':aT X.K H b xs':=by unfold iU at q';rwa [xV xU]at q'
   obtain⟨us',rv',p2,_⟩:=I.list q';have l2:=rv'.length
   by_cases hl:us.length=us'.length
   ·obtain⟨ks,he,hk⟩:=pw rv rv'
    refine⟨(List.range us.toArray.size).all ks,?_,SeqAt.RcNeAt.lists p1.isList p2.isList (by simpa using hl) (by omega) fun j h1 h2=>by simpa using he j (by simpa using h1) (by simpa using h2)⟩;rw[xW,show us.length=ds.length by omega,allEq ks hk (by omega)];constructor
    ·rintro rfl;rfl
    ·intro h;injection h
   ·refine⟨false,?_,SeqAt.RcNeAt.lists_lengths p1.isList p2.isList (by simpa using hl) (by omega)⟩
    constructor
    ·intro h;cases h
    ·intro h
     injection h with _ h;exact absurd (by rw[<-l1,l3,h,<-l4,l2]) hl
 | true =>
  have q:aI X.K H l xs:=by unfold iU at q;rwa [x4 rfl]at q
  obtain⟨us,rv,p1,_⟩:=I.tuple q;have l1:=rv.length
  cases t' with
  | false =>
   have q':aT X.K H b xs':=by unfold iU at q';rwa [xV xU]at q'
   obtain⟨us',rv',p2,_⟩:=I.list q';exact⟨false,by simp,SeqAt.RcNeAt.tuple_list p1 p2.isList (by omega)⟩
  | true =>
   have q':aI X.K H b xs':=by unfold iU at q';rwa [x4 rfl]at q'
   obtain⟨us',rv',p2,_⟩:=I.tuple q';have l2:=rv'.length;obtain⟨ks,he,hk⟩:=pw rv rv';refine⟨(List.range (min us.toArray.size us'.toArray.size)).all ks&&us.toArray.size == us'.toArray.size,?_,SeqAt.RcNeAt.tuples (e:=ks) (show s.heap.IsTuple l us.toArray from p1) (show s.heap.IsTuple b us'.toArray from p2) (by omega) fun j h1 h2=>by simpa using he j (by simpa using h1) (by simpa using h2)⟩
   by_cases hl:us.length=us'.length
   ·rw[xW,xW,<-hl,Nat.min_self,beq_self_eq_true,Bool.and_true,show us.length=ds.length by omega,allEq ks hk (by omega)]
    constructor
    ·rintro rfl;rfl
    ·intro h;injection h
   ·have:(us.toArray.size == us'.toArray.size)=false:=by simpa using hl
    rw[this,Bool.and_false];constructor
    ·intro h;cases h
    ·intro h
     injection h with _ h;exact absurd (by rw[<-l1,l3,h,<-l4,l2]) hl
theorem mP (I:am X pins σ H s):∀ (n:Nat){A:Around}{y x:V}{u v:Value}{d e:Dt},A.units+n<cLine+1->RD X.K H n y d->RD X.K H n x e->aD y u->aD x v->∃ k:Bool,(k=true↔d=e)/\SeqAt.EqAt A s u v k:=by
 intro n
 have flatCase:∀ {A:Around}{y x:V}{u v:Value},iK y=true->iK x=true->aD y u->aD x v->∃ k:Bool,(k=true↔Dt.at y=Dt.at x)/\SeqAt.EqAt A s u v k:=by
  intro A y x u v fy fx ry rx;refine⟨mQ y x,?_,qd ry rx (jx fy) (jx fx)⟩;rw[rN fy fx];constructor
  ·rintro rfl;rfl
  ·intro h;injection h
 induction n with
 | zero =>
  intro A y x u v d e hu h1 h2 ry rx;obtain⟨f1,rfl⟩:=h1;obtain⟨f2,rfl⟩:=h2;exact flatCase f1 f2 ry rx
 | succ n ih =>
  intro A y x u v d e hu h1 h2 ry rx;rcases id h1 with ⟨f1,rfl⟩ | ⟨a,t,xs,ds,rfl,rfl,q,r⟩
  ·rcases id h2 with ⟨f2,rfl⟩ | ⟨a',t',xs',ds',rfl,rfl,q',r'⟩
   ·exact flatCase f1 f2 ry rx
   ·cases rx
    refine⟨false,by simp,?_⟩
    cases t' with
    | false =>
     have q':aT X.K H a' xs':=by unfold iU at q';rwa [xV xU]at q'
     obtain⟨_,_,p,_⟩:=I.list q'
     cases y with
     | non=>cases ry;exact SeqAt.EqAt.none_list p.isList (by omega)
     | int _=>obtain⟨tk,rfl⟩:=ry;exact SeqAt.EqAt.int_list _ _ p.isList (by omega)
     | str _=>obtain⟨tk,rfl⟩:=ry;exact SeqAt.EqAt.str_list _ _ p.isList (by omega)
     | _=>cases f1
    | true =>
     have q':aI X.K H a' xs':=by unfold iU at q';rwa [x4 rfl]at q'
     obtain⟨_,_,p,_⟩:=I.tuple q'
     cases y with
     | non=>cases ry;exact SeqAt.EqAt.none_tuple p (by omega)
     | int _=>obtain⟨tk,rfl⟩:=ry;exact SeqAt.EqAt.int_tuple _ _ p (by omega)
     | str _=>obtain⟨tk,rfl⟩:=ry;exact SeqAt.EqAt.str_tuple _ _ p (by omega)
     | _=>cases f1
  ·cases ry
   rcases id h2 with ⟨f2,rfl⟩ | ⟨a',t',xs',ds',rfl,rfl,q',r'⟩
   ·refine⟨false,by simp,?_⟩
    cases t with
    | false =>
     have q:aT X.K H a xs:=by unfold iU at q;rwa [xV xU]at q
     obtain⟨_,_,p,_⟩:=I.list q
     cases x with
     | non=>cases rx;exact SeqAt.EqAt.list_none p.isList (by omega)
     | int _=>obtain⟨tk,rfl⟩:=rx;exact SeqAt.EqAt.list_int _ _ p.isList (by omega)
     | str _=>obtain⟨tk,rfl⟩:=rx;exact SeqAt.EqAt.list_str _ _ p.isList (by omega)
     | _=>cases f2
    | true =>
     have q:aI X.K H a xs:=by unfold iU at q;rwa [x4 rfl]at q
     obtain⟨_,_,p,_⟩:=I.tuple q
     cases x with
     | non=>cases rx;exact SeqAt.EqAt.tuple_none p (by omega)
     | int _=>obtain⟨tk,rfl⟩:=rx;exact SeqAt.EqAt.tuple_int _ _ p (by omega)
     | str _=>obtain⟨tk,rfl⟩:=rx;exact SeqAt.EqAt.tuple_str _ _ p (by omega)
     | _=>cases f2
   ·cases rx
    by_cases hab:a=a'
    ·subst hab
     exact⟨true,by rw[RD.inj I h1 h2];simp,SeqAt.EqAt.same _⟩
    ·obtain⟨k,hk,hr⟩:=qU I n (A:=A) (by omega) h1 h2 (fun hu'=>ih hu')
     exact⟨k,hk,.of_refs hab hr⟩
end
inductive w4 (K:PySem.W.Frag) (n:Nat) (neg:Bool) (x y:V) (H:Hp) (Q:VK):Prop
 | mk (a b:Addr) (d e:Dt) (e1:x=.ref a) (e2:y=.ref b) (r1:RD K H (n+1) x d) (r2:RD K H (n+1) y e) (h:∀ k:Bool,(k=true↔d=e)->Q (.bl (if neg then !k else k)) H):w4 K n neg x y H Q
def uD (K:PySem.W.Frag)(n:Nat)(neg:Bool):R2:=fun x y H Q=>w4 K n neg x y H Q
section
variable {X:Cx}
theorem uk (n:Nat)(hu:X.A.units+n<cLine):fW X (compareOp .Eq) (uD X.K n false):=by
 intro pins s σ H x y v u Q I rx ry h;obtain⟨a,b,d,e,rfl,rfl,h1,h2,q⟩:=h;cases rx;cases ry;obtain⟨k,hk,hr⟩:=qU I n (A:=X.A) hu h1 h2 (fun hu'=>mP I n hu');exact hr _ _ _ _ ⟨.bl k,H,I,rfl,q k hk⟩
theorem qy (n:Nat)(hu:X.A.units+n<cLine):fW X (compareOp .NotEq) (uD X.K n true):=by
 intro pins s σ H x y v u Q I rx ry h;obtain⟨a,b,d,e,rfl,rfl,h1,h2,q⟩:=h;cases rx;cases ry;obtain⟨k,hk,hr⟩:=qV I n (A:=X.A) hu h1 h2 (fun hu'=>mP I n hu');exact hr _ _ _ _ ⟨.bl (!k),H,I,rfl,q k hk⟩
end
open PySem PySem.Spec PyProof.Rows PySem.Calls
theorem rX:typeLookup (.type "list_reverseiterator") "__len__" = pure none:=by rw[typeLookup_type,builtinLookup_eq_fast];kernel_rfl
theorem qr:typeLookup (.type "list_reverseiterator") "__length_hint__" = pure (some (.builtin "list_reverseiterator.__length_hint__")):=by rw[typeLookup_type,builtinLookup_eq_fast];kernel_rfl
section
variable {prog:Program}{w:World}{A:Around}{E:Value->Shared->Prop}{s:Shared}{r d:Addr}{items:Array Value}
theorem qj {Q:Bool->Shared->Prop}(hT:s.TypeIs (.ref r) "list_reverseiterator")(h:Q false s):wpAny (model prog w) A (Builtin.List.listLengthHint (.ref r)) Q E s:=by
 unfold Builtin.List.listLengthHint;refine xO (wpAny_specialOf hT rX ?_)
 wp_delta
 refine zp (fun hab=>absurd hab (by decide +kernel)) (fun _=>?_);refine zp (fun hab=>absurd hab (by decide +kernel)) (fun _=>?_);refine xO (wpAny_specialOf hT qr ?_);generalize hid:("list_reverseiterator.__length_hint__" : String)=id0
 wp_delta
 rw[show splitId id0=some ("list_reverseiterator","__length_hint__") from by subst hid;decide +kernel];subst hid;refine xO (wpAny_isInstance (T:="list_reverseiterator") (b:=true) hT (by rw[isSubtype_type];kernel_rfl) ?_);refine zp (fun hab=>absurd hab (by decide)) (fun _=>?_);refine zp (fun _=>?_) (fun hab=>absurd (by decide +kernel) hab);refine zp (fun hab=>absurd hab (by decide +kernel)) (fun _=>?_);exact xR h
theorem mS {R:Result->Shared->Prop}(hh:A.handled=none)(hit:s.heap.IsRevIter r d ((items.size:Int)-1))(hl:s.heap.IsList d items)(hrd:d≠r)(S:Addr)(hSr:S≠r)(hSd:S≠d)(res:Value)(c0:Nat)(hS:s.heap.get? S=some { cls:=.type "list",data:=.seq #[] c0 })
  (hR:∀ h' tk acc' c',(∀ b o,b≠S->b≠r->s.heap.get? b=some o->h'.get? b=some o)->h'.get? S=some { cls:=.type "list",dict:=none,data:=.seq acc' c',slots:=#[] }->ItemsOf (fun i v=>items[items.size-1-i]? = some v) acc' items.size->R (.ok (.ret res)) { s with heap:=h',toks:=tk }) (hn:items.size<=sizeLine) :
  wpAny (model prog w) A.in1 (Builtin.List.listExtendWith (.ref S) (.ref r) res)
   (fun fin s'=>match fin with | .done f=>R (.ok f) s' | .again c'=>c'.quiet=true/\codeAny (model prog w) A c' R s') (fun e s'=>R (.error e) s') s:=by
 have hSf:S∉[r,d]:=by simp only[ya,List.not_mem_nil,or_false,not_or];exact⟨hSr,hSd⟩
 have W:=Walks.listRev (prog:=prog) (w:=w) (A:=A.in1) hh r d hrd items;have hT:s.TypeIs (.ref r) "list_reverseiterator":=hit.typeIs;unfold Builtin.List.listExtendWith;refine xO (wpAny_typeOf (T:="list_reverseiterator") hT ?_)
 have h1:Builtin.List.listSameRef (.ref S) (.ref r)=false:=by simp[Builtin.List.listSameRef,hSr]
 have h2:(Value.type "list_reverseiterator" == Value.type "list")=false:=by decide
 have h3:(Value.type "list_reverseiterator" == Value.type "tuple")=false:=by decide
 simp only[h1,h2,h3,Bool.or_false,zc,if_false];refine xO (wpAny_pyIter_revIter hit ?_);refine xO (yZ (qj hT ?_));refine zp (fun hab=>absurd hab (by decide +kernel)) (fun _=>xR ⟨ze PySem.F.plain_extend_loop _,?_⟩);refine codeAny_extend_loopS W.toS hn S hSf res items.size 0 _ #[] c0 rfl (yg _) ⟨yg _,by simpa using hit,hl⟩ hS (ItemsOf.nil _) fun s' acc' c' hm hS' hacc=>?_;rw[Moved.eq_with hm];refine hR s'.heap s'.toks acc' c' (fun b o hb hbr e=>hm.heap b o (fun hmem=>?_) e) hS' hacc
 ·rcases ya.mp hmem with e' | hmem
  ·exact hb e'
  ·exact hbr (x6.mp hmem)
theorem j2 {Q:Value->Shared->Prop}(hh:A.handled=none)(hit:s.heap.IsRevIter r d ((items.size:Int)-1))(hl:s.heap.IsList d items)(hrd:d≠r)(hn:items.size<=sizeLine)
  (hQ:∀ h' tk acc' c',(∀ b o,b≠r->s.heap.get? b=some o->h'.get? b=some o)->h'.get? s.heap.objs.size=some { cls:=.type "list",dict:=none,data:=.seq acc' c',slots:=#[] }->ItemsOf (fun i v=>items[items.size-1-i]? = some v) acc' items.size->Q (.ref s.heap.objs.size) { s with heap:=h',toks:=tk }) :
  wpAny (model prog w) A (call (.type "list") [.ref r]) Q E s:=by
 refine callType_codes (Q₁:=fun obj s1=>obj=.ref s.heap.objs.size/\s1={ s with heap:=s.heap.push { cls:=.type "list",data:=.seq #[] } }) PySem.F.called_list (PySem.F.typeCall_list_1 _) PySem.F.entry_list_init (code_list_new _ ⟨rfl,rfl⟩) fun obj s1 h1=>?_;obtain⟨rfl,rfl⟩:=h1;have hS:(s.heap.push { cls:=.type "list",data:=.seq #[] }).get? s.heap.objs.size=some { cls:=.type "list",data:=.seq #[] }:=Heap.get?_push_size _ rfl
 have hr:r<s.heap.objs.size:=by obtain⟨o,e,_⟩:=hit;exact xQ e
 have hd:d<s.heap.objs.size:=by obtain⟨o,e,_⟩:=hl;exact xQ e
 refine⟨⟨_,hS,rfl⟩,PySem.F.args_list_init_2 _ _,?_⟩
 show wpAny _ _ (do let old <-Builtin.List.listItems (.ref s.heap.objs.size);Builtin.List.listUpdate (.ref s.heap.objs.size) (fun _=>#[]);letGo old.toList.reverse;Builtin.List.listExtendWith (.ref s.heap.objs.size) (.ref r) .none) _ _ _
 refine xO ?_;unfold Builtin.List.listItems;refine xO (yI hS rfl (xR ?_))
 show wpAny _ _ (updateSeq s.heap.objs.size (fun _=>#[]) >>= fun _=>letGo (#[]:Array Value).toList.reverse >>= fun _=>Builtin.List.listExtendWith (.ref s.heap.objs.size) (.ref r) .none) _ _ _
 refine xO (yW hS rfl ?_);have hS2:=Heap.get?_update_self (Obj.mapSeq (fun _=>(#[]:Array Value))) hS rfl
 have oth:∀ b o,s.heap.get? b=some o->((s.heap.push { cls:=.type "list",data:=.seq #[] }).update s.heap.objs.size (Obj.mapSeq (fun _=>(#[]:Array Value)))).get? b=some o :=
  fun b o e=>(Heap.get?_update_other _ _ (yi (xQ e))).trans (Heap.get?_push_of_some _ e)
 refine xO (zu ?_);refine mS (A:=A.in1) hh (hit.at fun o e=>oth _ _ e) (hl.at fun o e=>oth _ _ e) hrd s.heap.objs.size (yi hr) (yi hd) .none _ hS2 (fun h' tk acc' c' hk hS' hacc=>?_) hn;exact⟨rfl,hQ h' tk acc' c' (fun b o hb e=>hk b o (x5 (xQ e)) hb (oth b o e)) hS' hacc⟩
end
def rc (K:PySem.W.Frag)(te:TE):TE:=fun σ H Q=>te σ H fun x H1=>∃ a xs,x=.ref a/\aT K H1 a xs/\∀ l,H1 l=none->Q (.ref l) (aH H1 l (.lst xs.reverse))
theorem ny {X:Cx}{e:Expr}{te:TE}{p p2 pos pos2:Pos}(hc:X.calm=true)(he:PE X e te)(hg:Gl X "list")(hm:X.mg "list" = none)(hg2:Gl X "reversed")(hm2:X.mg "reversed" = none)
  (hs:starEach [e] X.env=[(false,eval e X.env)]:=by rfl)
  (hs2:starEach [.Call (.Name "reversed" p2) [e] [] pos2] X.env=[(false,eval (.Call (.Name "reversed" p2) [e] [] pos2) X.env)]:=by rfl) :
  PE X (.Call (.Name "list" p) [.Call (.Name "reversed" p2) [e] [] pos2] [] pos) (rc X.K te):=by
 intro pins s σ H Q I h;refine yJ (dr I hg hm boot_list ?_ (by decide) (by decide));refine yp ?_ hs2 rfl;rw[hs2];refine spliced_cons (yJ (dr I hg2 hm2 boot_reversed ?_ (by decide) (by decide)));refine yp ?_ hs rfl;rw[hs];refine spliced_cons (aU (he pins s σ H _ I h) fun u s1 ⟨x,H1,I1,rx,a,xs,ex,hq,q⟩=>spliced_nil ?_);subst ex;cases rx;obtain⟨its,rv,pl,hz⟩:=I1.list hq;refine call_reversed_list pl.isList (spliced_nil ?_)
 have hlt:a<s1.heap.objs.size:=by obtain⟨o,n,e,_⟩:=pl;exact xQ e
 have hl:=rv.length;refine j2 (r:=s1.heap.objs.size) (d:=a) (items:=its.toArray) (I1.ok.hd hc) ⟨_,Heap.get?_push_size _ rfl,rfl,rfl⟩ (pl.isList.at fun o e=>Heap.get?_push_of_some _ e) (x5 hlt) (by rw[xW];omega) fun h' tk acc' c' hk hS hacc=>?_
 have sz:(s1.heap.push (revObj a ((its.toArray.size:Int)-1))).objs.size=s1.heap.objs.size+1:=by rw[yq]
 have hge:s1.heap.objs.size<=(s1.heap.push (revObj a ((its.toArray.size:Int)-1))).objs.size:=by rw[sz];exact Nat.le_succ _
 have rr:Vals xs.reverse acc'.toList:=jo (by have:=hacc.1;simp at this;simp;omega) fun i y v e1 e2=>by
  have hv:=hacc.2 i v (by rw[<-Array.getElem?_toList];exact e2)
  have hi:i<xs.length:=by have:=(List.getElem?_eq_some_iff.mp e1).1;simpa using this
  rw[List.getElem?_reverse hi]at e1;obtain⟨u,eu,ru⟩:=rv.get e1
  have hv':its[its.length-1-i]? = some v:=by simpa using hv
  rw[hl]at eu;rw[eu]at hv';cases hv';exact ru
 refine⟨.ref _,_,I1.laid (t':=tk) (a:=(s1.heap.push (revObj a ((its.toArray.size:Int)-1))).objs.size) (o:=.lst xs.reverse) (fun b o e=>hk b o (x5 (xQ e)) (Heap.get?_push_of_some _ e)) hge ⟨by rw[List.length_reverse];exact hz,acc'.toList,c',rr,by simpa using hS⟩,rfl,q _ (I1.hok.fresh hge)⟩
end L2
namespace Wz
open PySem L2
def d5 (c:Int):Int:=if c<0 then -c else c
def d6 (ns:List Int)(k:Int):Int:=if k<(ns.length:Int) then ns.getD k.toNat 0 else 0
def j6 (k c:Int):Int :=
 let left:=d5 c
 let number:=(k*(1+left*1234567891%2147483646)+left/2147483646)%2147483647
 if left%5=4 then number+997852516353 else number
def ax (P:Program)(w:World)(K:PySem.W.Frag)(mg:Str->Option Value)(base:Heap)(x:Str)(k:Nat)(ps:List Str)(sp:Sp):Prop :=
 ∃ (f:Addr)(fd:FuncData),a9 P w K mg base dD k f fd ps sp/\mg x=some (.ref f)/\PySem.W.keepIn K (.ref f)=true/\dR K fd ps []
theorem ba {X:Cx}{x:Str}{k:Nat}{ps:List Str}{sp:Sp}{e:Expr}{es:List Expr}{t:TA}{p pos:Pos}(C:ax X.prog X.w X.K X.mg X.base x k ps sp)(hr:bJ k X.A)(hg:Gl X x)(ha:PA X (e::es) t)
  (hdb:(x == ("__debug__" : Str))=false:=by decide) (he:starEach (e::es) X.env=(false,eval e X.env)::starEach es X.env:=by rfl) (hpl:(backTo pos (starEach es X.env)).any (·.1)=false:=by rfl) :
  PE X (.Call (.Name x p) (e::es) [] pos) (qZ sp [] E0 t):=by
 obtain⟨f,fd,G,hm,hk,hb⟩:=C;exact oA G hr hg hm hk hb .nil fY ha hdb he hpl
theorem fC {X:Cx}(K:PySem.W.Frag)(hK:X.K=K:=by rfl):u3 X (vz K):=by subst hK;exact aB
def cP (H:Hp)(l:Addr)(ps:List (Int×Int)):Prop:=∃ as:List Addr,H l=some (.lst (as.map V.ref))/\Paired (fun a (p:Int×Int)=>H a=some (.tup [.int p.1,.int p.2])) as ps
theorem cP.mono {H H':Hp}{l:Addr}{ps:List (Int×Int)}(r:cP H l ps)(s:ay H H'):cP H' l ps:=by
 obtain⟨as,h,p⟩:=r;exact⟨as,s _ _ h,Paired.mapP p fun a q z=>s _ _ z⟩
theorem af {H:Hp}{l:Addr}{o:HO}(h:H l=none):ay H (aH H l o):=fun b u e=>by rw[ak (aL e h)];exact e
theorem bF {H H':Hp}{l:Addr}{o:HO}(s:ay H H')(h:H l=none):ay H (aH H' l o):=fun b u e=>by rw[ak (aL e h)];exact s b u e
theorem cg {α β:Type}{F:α->β->Prop}:∀ {l:List α}{m:List β}{i:Nat}{a:α},Paired F l m->l[i]? = some a->∃ b,m[i]? = some b/\F a b
 | _,_,_,_,.nil,h=>by simp at h
 | _,_,0,_,.cons r _,h=>by simp at h;subst h;exact⟨_,rfl,r⟩
 | _,_,i+1,a,.cons _ t,h=>by
  obtain⟨b,e1,e2⟩:=cg (i:=i) (a:=a) t (by simpa using h);exact⟨b,by simpa using e1,e2⟩
theorem bf {α β:Type}{F:α->β->Prop}:∀ {l l':List α}{m m':List β},Paired F l m->Paired F l' m'->Paired F (l++l') (m++m')
 | _,_,_,_,.nil,s=>s
 | _,_,_,_,.cons r t,s=>.cons r (bf t s)
theorem fk {α β:Type}{F:α->β->Prop}:∀ {l:List α}{m:List β},Paired F l m->Paired F l.reverse m.reverse
 | _,_,.nil=>.nil
 | _,_,.cons r t=>by
  rw[List.reverse_cons,List.reverse_cons];exact bf (fk t) (.cons r .nil)
theorem bB {α β:Type}{f:α->β}{l:List α}{i:Nat}{y:β}(h:(l.map f)[i]? = some y):∃ x,l[i]? = some x/\y=f x:=by
 rw[List.getElem?_map]at h
 cases e:l[i]? with
 | none=>rw[e]at h;cases h
 | some x=>rw[e]at h;exact⟨x,rfl,(ye h).symm⟩
theorem cO {te:TE}{a:Addr}{D:fL}{σ:St}{H:Hp}(h:te σ H fun y H2=>∃ ys,H2 a=some (.lst ys)/\ys.length<sizeLine/\D.nx σ (aH H2 a (.lst (ys++[y])))):sA mw te a D σ H:=by
 unfold sA mw;dsimp only;rw[x4 rfl];exact h
inductive ll (K:PySem.W.Frag) (vs:List V) (H:Hp) (Q:VK) (E_:XK):Prop
 | mk (a:Addr) (ns:List Int) (k:Int) (h_0:vs=[.ref a,.int k]) (h_1:aT K H a (ns.map V.int)) (h_2:0<=k) (h_3:Q (.int (d6 ns k)) H):ll K vs H Q E_
inductive iz (vs:List V) (H:Hp) (Q:VK) (E_:XK):Prop
 | mk (c:Int) (h_0:vs=[.int c]) (h_1:Q (.int (d5 c)) H):iz vs H Q E_
inductive gV (vs:List V) (H:Hp) (Q:VK) (E_:XK):Prop
 | mk (c m b:Int) (h_0:vs=[.int c,.int m,.int b]) (h_1:(0<=m/\m<=1000)) (h_2:(0<b/\b<1073741824)) (h_3:∀ (l:Addr)(ds:List Int),H l=none->(∀ d∈ds,0<=d/\d<b)->(ds.length:Int)<=m->Q (.ref l) (aH H l (.lst (ds.map V.int)))):gV vs H Q E_
inductive gW (vs:List V) (H:Hp) (Q:VK) (E_:XK):Prop
 | mk (k c:Int) (h_0:vs=[.int k,.int c]) (h_1:(0<=k/\k<=1000000)) (h_2:Q (.int (j6 k c)) H):gW vs H Q E_
inductive gY (K:PySem.W.Frag) (vs:List V) (H:Hp) (Q:VK) (E_:XK):Prop
 | mk (l:Addr) (xs:List V) (h_0:vs=[.ref l]) (h_1:aT K H l xs) (h_2:∀ l',H l'=none->Q (.ref l') (aH H l' (.lst xs.reverse))):gY K vs H Q E_
inductive mq (K:PySem.W.Frag) (vs:List V) (H:Hp) (Q:VK) (E_:XK):Prop
 | mk (a:Addr) (ns:List Int) (h_0:vs=[.ref a]) (h_1:aT K H a (ns.map V.int)) (h_2:ns.length<=63) (h_3:∀ H',Q (.bl true) H'):mq K vs H Q E_
theorem ni {σ:St}{H:Hp}{Q:Option Int->Hp->Prop}(h:Q none H):oK σ H Q:=h
end Wz
namespace L2
open PySem PySem.Spec PyProof.Rows
def sG (g B:Heap)(e:Addr)(c:Value)(od:Option Addr)(fl:Value):Prop :=
 ∃ oe us T oT ts,g.get? e=some oe/\(oe.cls=c/\oe.dict=od)/\oe.data=.fields us/\us[1]? = some (.ref T)/\B.get? T=none/\T≠e/\g.get? T=some oT/\oT.data=.fields ts/\ts[3]? = some fl
def gr (B:Heap)(l:List Env)(e:Addr)(c:Value)(od:Option Addr)(g:Heap):Prop:=B.StaysIn g/\B.get? e=none/\g.FunFrames B l/\sG g B e c od .none
def sF (B:Heap)(l:List Env)(e:Addr)(c:Value)(od:Option Addr)(L:Addr)(g:Heap):Prop:=B.StaysIn g/\B.get? e=none/\g.FunFrames B l/\sG g B e c od (rawInt L)
theorem rK (f:Array Value->Array Value)(o:Obj):(Obj.mapFields f o).dict=o.dict:=by
 unfold Obj.mapFields;split<;>rfl
theorem gr.obj {B g:Heap}{l:List Env}{e:Addr}{c:Value}{od:Option Addr}(x:gr B l e c od g):∃ ob us,g.get? e=some ob/\ob.cls=c/\ob.dict=od/\ob.data=.fields us:=by
 obtain⟨_,_,_,oe,us,_,_,_,he,hc,hd,_⟩:=x;exact⟨oe,us,he,hc.1,hc.2,hd⟩
section
variable {M:Model}{A:Around}{E:Value->Shared->Prop}{s:Shared}{B:Heap}{env:Env}{outer:List Env}{L e:Addr}{od:Option Addr}{c:Value}
def vT (g g':Heap):Prop:=∀ b o,g.get? b=some o->(∀ us,o.data≠.fields us)->∃ sl,g'.get? b=some { o with slots:=sl }
theorem qc {oe:Obj}{us:Array Value}{head:Value}{hn:Bool}{Q:Unit->Shared->Prop}(fr:A.frames=some (env::outer))(hl:s.heap.FunFrames B (env::outer))(hf:env.frame=some L)
  (he:s.heap.get? e=some oe) (hk:B.StaysIn s.heap) (hb:B.get? e=none) (hd:oe.data=.fields us) (h1:1<us.size)
  (h:∀ g,B.StaysIn g->g.FunFrames B (env::outer)->sG g B e oe.cls oe.dict (rawInt L)->vT s.heap g->Q () { s with heap:=g }) :
  wpAny M A (do let a <-frameOf env;let pl <-entryPlaceOf L hn;let b <-EntryCells.newEntry head a .none (rawInt L) .none pl;setField (.ref e) 1 b) Q E s:=by
 have hne:e∉(env::outer).filterMap (·.frame):=fun z=>by
  obtain⟨_,o,ho,nf⟩:=hl.mem z;rw[he]at ho;cases ho;exact nf us hd
 refine xO (wpAny_frameOf_fun fr hl hf fun g1 sl1=>xO (wpAny_entryPlaceOf fun pl hpl=>?_));unfold EntryCells.newEntry newFields;refine xO (yN ?_ (hpl.sizeOk5 _ _ _ _ _));have e1:g1.get? e=some oe:=(sl1.2.1 e hne).trans he;have k1:B.StaysIn g1:=fun b o q=>(sl1.2.1 b fun z=>by rw[(hl.mem z).1]at q;cases q).trans (hk b o q);generalize hob:({ cls:=.type "traceback",dict:=none,data:=.fields ([head,.ref L,.none,rawInt L,.none]++(if pl.isEmpty then List.replicate 6 Value.none else pl)).toArray }:Obj)=ob
 have obd:ob.data=.fields ([head,.ref L,.none,rawInt L,.none]++(if pl.isEmpty then List.replicate 6 Value.none else pl)).toArray:=by rw[<-hob]
 have e2:=Heap.get?_push_of_some (h:=g1) ob e1;refine wpAny_setField e2 hd h1 ?_;have ne:g1.objs.size≠e:=yi (xQ e1);have d3:=zq hd (·.setIfInBounds 1 (Value.ref g1.objs.size));have e3:=Heap.get?_update_self (Obj.mapFields (·.setIfInBounds 1 (Value.ref g1.objs.size))) e2 (Obj.isFreed_of_fields d3)
 have keep:∀ b o,b≠e->g1.get? b=some o->((g1.push ob).update e (Obj.mapFields (·.setIfInBounds 1 (Value.ref g1.objs.size)))).get? b=some o:=fun b o n q=>by
  rw[Heap.get?_update_other _ _ (yo n)];exact Heap.get?_push_of_some _ q
 have nr:∀ b o,s.heap.get? b=some o->(∀ vs,o.data≠.fields vs)->b≠e:=fun b o q nf z=>by
  rw[z,he]at q;cases q;exact nf us hd
 refine h _ (fun b o q=>keep b o (fun z=>by rw[z,hb]at q;cases q) (k1 b o q)) (hl.of_keeps fun b o q nf=>?_) ?_ fun b o q nf=>?_
 ·obtain⟨sl,z⟩:=sl1.2.2 b o q
  exact⟨_,keep b _ (nr b o q nf) z,rfl⟩
 ·refine⟨_,_,g1.objs.size,ob,_,e3,⟨Obj.cls_mapFields _ _,rK _ _⟩,d3,by simp[h1],k1.fresh,ne,?_,obd,by first | (simp;done) | (rcases hpl with rfl | ⟨_,_,_,_,_,_,_,rfl⟩<;>simp)⟩
  rw[Heap.get?_update_other _ _ (yo ne)];exact Heap.get?_push_size g1 (by rw[<-hob];rfl)
 ·obtain⟨sl,z⟩:=sl1.2.2 b o q
  exact⟨sl,keep b _ (nr b o q nf) z⟩
theorem l6 {oe:Obj}{us:Array Value}{Q:Unit->Shared->Prop}(fr:A.frames=some (env::outer))(hl:s.heap.FunFrames B (env::outer))(hf:env.frame=some L)
  (he:s.heap.get? e=some oe) (hk:B.StaysIn s.heap) (hb:B.get? e=none) (hd:oe.data=.fields us) (h1:us[1]? = some .none)
  (h:∀ g,B.StaysIn g->g.FunFrames B (env::outer)->sG g B e oe.cls oe.dict (rawInt L)->vT s.heap g->Q () { s with heap:=g }):wpAny M A (noteFrame (.ref e) env) Q E s:=by
 unfold noteFrame;simp only[hf];refine xO (yk he hd h1 ?_);rw[xV (by decide)];exact qc fr hl hf he hk hb hd (Array.getElem?_eq_some_iff.mp h1).1 h
theorem jK {Q:Unit->Shared->Prop}(fr:A.frames=some (env::outer))(hl:s.heap.FunFrames B (env::outer))(hf:env.frame=some L)(ht:sG s.heap B e c od .none)(hk:B.StaysIn s.heap)(hb:B.get? e=none)
  (h:∀ g,B.StaysIn g->g.FunFrames B (env::outer)->sG g B e c od (rawInt L)->vT s.heap g->Q () { s with heap:=g }):wpAny M A (noteFrame (.ref e) env) Q E s:=by
 obtain⟨oe,us,T,oT,ts,he,⟨rfl,rfl⟩,hd,h1,nT,ne,hT,dT,h3⟩:=ht;unfold noteFrame;simp only[hf];refine xO (yk he hd h1 ?_);rw[x4 (show (Value.ref T != Value.none)=true by simp)];refine xO (yk hT dT h3 ?_);rw[xV (show ¬((Value.none == rawInt L)=true) by simp[rawInt])];refine xO (wpAny_setField hT dT (Array.getElem?_eq_some_iff.mp h3).1 ?_);have ot:∀ b,b≠T->(s.heap.update T (Obj.mapFields (·.setIfInBounds 3 Value.none))).get? b=s.heap.get? b:=fun b z=>Heap.get?_update_other _ _ (yo z)
 have nr:∀ b o,s.heap.get? b=some o->(∀ vs,o.data≠.fields vs)->b≠T:=fun b o q nf z=>by
  rw[z,hT]at q;cases q;exact nf ts dT
 refine qc fr (hl.of_keeps fun b o q nf=>⟨o,(ot b (nr b o q nf)).trans q,rfl⟩) hf ((ot e (yo ne)).trans he) (fun b o q=>(ot b fun z=>by rw[z,nT]at q;cases q).trans (hk b o q)) hb hd (Array.getElem?_eq_some_iff.mp h1).1 fun g a1 a2 a3 a4=>h g a1 a2 a3 fun b o q nf=>?_;exact a4 b o ((ot b (nr b o q nf)).trans q) nf
theorem i7 {l:List Env}{fl:Value}{Q:Unit->Shared->Prop}(hk:B.StaysIn s.heap)(hl:s.heap.FunFrames B l)(ht:sG s.heap B e c od fl)
  (h:∀ g,B.StaysIn g->g.FunFrames B l->sG g B e c od .none->s.heap.UpToSlots g->Q () { s with heap:=g }):wpAny M A (setFlight (.ref e) none) Q E s:=by
 obtain⟨oe,us,T,oT,ts,he,hc,hd,h1,nT,ne,hT,dT,h3⟩:=ht;have z3:3<ts.size:=(Array.getElem?_eq_some_iff.mp h3).1;have ot:∀ b,b≠T->(s.heap.update T (Obj.mapFields (·.setIfInBounds 3 ((none:Option Addr).elim Value.none fun f=>rawInt f)))).get? b=s.heap.get? b:=fun b z=>Heap.get?_update_other _ _ (yo z)
 have nr:∀ b o,s.heap.get? b=some o->(∀ vs,o.data≠.fields vs)->b≠T:=fun b o q nf z=>by
  rw[z,hT]at q;cases q;exact nf ts dT
 unfold setFlight;refine xO (yk he hd h1 ?_);rw[x4 (show (Value.ref T != Value.none)=true by simp)];refine wpAny_setField hT dT z3 (h _ (fun b o q=>(ot b fun z=>by rw[z,nT]at q;cases q).trans (hk b o q)) (hl.of_keeps fun b o q nf=>⟨o,(ot b (nr b o q nf)).trans q,rfl⟩) ?_ fun b o q nf=>⟨o.slots,(ot b (nr b o q nf)).trans q⟩);exact⟨oe,us,T,_,_,(ot e (yo ne)).trans he,hc,hd,h1,nT,ne,Heap.get?_update_self _ hT (Obj.isFreed_of_fields (zq dT _)),zq dT _,by simp[z3]⟩
theorem qW {g g' g'':Heap}(a:vT g g')(b:g'.UpToSlots g''):g.UpToSlots g'':=fun x o q nf=>by
 obtain⟨sl,z⟩:=a x o q nf;obtain⟨sl2,z2⟩:=b x _ z nf;exact⟨sl2,z2⟩
theorem kT {oe:Obj}{us:Array Value}{Q:Unit->Shared->Prop}(fr:A.frames=some (env::outer))(hf:env.frame=some L)(hk:B.StaysIn s.heap)(hl:s.heap.FunFrames B (env::outer))
  (he:s.heap.get? e=some oe) (hb:B.get? e=none) (hd:oe.data=.fields us) (h1:us[1]? = some .none)
  (hq:∀ g,gr B outer e oe.cls oe.dict g->s.heap.UpToSlots g->Q () { s with heap:=g }):wpAny M A (leaving env (.ref e)) Q E s:=by
 unfold leaving;refine xO (l6 fr hl hf he hk hb hd h1 fun g a1 a2 a3 a4=>?_);exact i7 (s:={ s with heap:=g }) a1 a2 a3 fun g2 b1 b2 b3 b4=>hq g2 ⟨b1,hb,b2.2.2,b3⟩ (qW a4 b4)
theorem m5 {Q:Unit->Shared->Prop}(fr:A.frames=some (env::outer))(hf:env.frame=some L)(fl:gr B (env::outer) e c od s.heap)
  (hq:∀ g,gr B outer e c od g->s.heap.UpToSlots g->Q () { s with heap:=g }):wpAny M A (leaving env (.ref e)) Q E s:=by
 obtain⟨f1,f2,f3,f4⟩:=fl;unfold leaving;refine xO (jK fr f3 hf f4 f1 f2 fun g a1 a2 a3 a4=>?_);exact i7 (s:={ s with heap:=g }) a1 a2 a3 fun g2 b1 b2 b3 b4=>hq g2 ⟨b1,f2,b2.2.2,b3⟩ (qW a4 b4)
theorem pC {Q:Unit->Shared->Prop}(fr:A.frames=some (env::outer))(hf:env.frame=some L)(fl:gr B (env::outer) e c od s.heap)
  (hq:∀ g,sF B (env::outer) e c od L g->s.heap.UpToSlots g->Q () { s with heap:=g }):wpAny M A (noteFrame (.ref e) env) Q E s:=by
 obtain⟨f1,f2,f3,f4⟩:=fl;exact jK fr f3 hf f4 f1 f2 fun g a1 a2 a3 a4=>hq g ⟨a1,f2,a2,a3⟩ a4
theorem uf {l:List Env}{Q:Unit->Shared->Prop}(hh:sF B l e c od L s.heap)(hq:∀ g,gr B l e c od g->s.heap.UpToSlots g->Q () { s with heap:=g }):wpAny M A (setFlight (.ref e) none) Q E s:=by
 obtain⟨f1,f2,f3,f4⟩:=hh;exact i7 f1 f3 f4 fun g a1 a2 a3 a4=>hq g ⟨a1,f2,a2,a3⟩ a4
theorem kS {l:List Env}{Q:Unit->Shared->Prop}(hh:gr B l e c od s.heap)(hq:∀ g,gr B l e c od g->s.heap.UpToSlots g->Q () { s with heap:=g }):wpAny M A (setFlight (.ref e) none) Q E s:=by
 obtain⟨f1,f2,f3,f4⟩:=hh;exact i7 f1 f3 f4 fun g a1 a2 a3 a4=>hq g ⟨a1,f2,a2,a3⟩ a4
end
abbrev wu:List Value:=[.type "ValueError",.type "Exception",.type "BaseException",.type "object"]
def wx (C t:Addr)(od:Option Addr):Obj:={ cls:=.ref C,dict:=od,data:=.fields #[.ref t,.none,.none,.none,.bool false,.none] }
abbrev dL (K:PySem.W.Frag)(C:Addr):Prop:=PySem.W.excIn K C wu "ValueError.__new__" = true
theorem rO {K:PySem.W.Frag}{h:Heap}{C:Addr}(X:K.In h)(q:dL K C) :
  ∃ bm N nm qn bs hdct sn sub ab col dd k0 k1 k2 k3 k5 mN,h.get? C=some (excClassObj nm qn C N bs bm hdct sn sub ab col dd k0 k1 k2 k3 k5 "ValueError.__new__")/\h.Ns N mN/\mN "__init__" = none/\OwnTail h wu bm:=by
 have q:PySem.W.excIn K C wu "ValueError.__new__" = true:=q;unfold PySem.W.excIn at q;split at q
 ·rename_i dd cd sl ho
  split at q
  ·rename_i C' bm k0 k1 k2 k3 n k5 hm hs
   simp only[y0,zz,Bool.not_eq_true']at q;obtain⟨⟨⟨⟨⟨rfl,rfl⟩,hdel⟩,ht⟩,hok⟩,hni⟩:=q;obtain⟨nm,bs,mro,ns,qn,hd,sn,sub,ab,col,del⟩:=cd;dsimp only at hm hdel hok hni;subst hm hdel
   have hsl:sl = #[k0,k1,k2,k3,some (.builtin "ValueError.__new__"),k5]:=by
    obtain⟨l⟩:=sl;simp only at hs;rw[hs]
   subst hsl;exact⟨bm,ns,nm,qn,bs,hd,sn,sub,ab,col,dd,k0,k1,k2,k3,k5,_,X _ _ ho,.of_isNs (PySem.W.isNs_of_in X hok),PySem.W.nsMap_none_of_in X hok hni,PySem.W.tail_of_in X ht⟩
  ·cases q
 ·cases q
theorem aX.has {P:Program}{w:World}{H:Hp}{h:Heap}{a:Addr}{o:HO}(x:aX P w H h a o):∃ u,h.get? a=some u:=by
 cases o with
 | lst xs=>obtain⟨_,_,_,_,e⟩:=x;exact⟨_,e⟩
 | tup xs=>obtain⟨_,_,_,u,e,_⟩:=x;exact⟨u,e⟩
 | dK kvs=>obtain⟨_,_,_,_,o,_,_,e,_⟩:=x;exact⟨o,e⟩
 | dT kvs=>obtain⟨_,_,_,_,o,_,_,e,_⟩:=x;exact⟨o,e⟩
 | set S n=>obtain⟨o,_,_,_,e,_⟩:=x;exact⟨o,e⟩
 | ins C dx fs=>obtain⟨_,_,_,e,_⟩:=x;exact⟨_,e⟩
 | own y=>exact x
 | xd fs=>obtain⟨_,⟨o,_,_,e,_⟩,_⟩:=x;exact⟨o,e⟩
 | rng lo hi=>obtain⟨_,_,_,e⟩:=x;exact⟨_,e⟩
 | frz ob u=>obtain⟨e,_⟩:=x;exact⟨ob,e⟩
 | tbl ps=>exact⟨_,(show h.get? a=some _ from x)⟩
 | met f y=>exact⟨_,(show h.get? a=some _ from x)⟩
 | ext φ=>obtain⟨_,e,_⟩:=x;exact e
def hW (P:Program)(w:World):mG:=fun outer H s E e s'=>∃ (ea C:Addr)(od:Option Addr)(H':Hp)(B:Heap),e=.ref ea/\gr B outer ea (.ref C) od s'.heap/\Un (fB outer) [] H H' s.heap s'.heap/\eQ P w H' s'.heap/\s'.os=s.os/\AllBare s'.gens /\
 (∀ b o,s.heap.get? b=some o->b∉fB outer->∃ o',B.get? b=some o')/\(∀ b o,H' b=some o->∃ o',B.get? b=some o')/\E (.ref C) od H'
theorem ri {fs:List Addr}{H H':Hp}{h h1 h2 B:Heap}(u:Un fs [] H H' h h1)(b1:B.StaysIn h1)(b2:B.StaysIn h2)(hb:∀ b o,h.get? b=some o->b∉fs->∃ o',B.get? b=some o')(sl:∀ b o,b∈fs->h.get? b=some o->H b=none->∃ sl,h2.get? b=some { o with slots:=sl })(th:∀ b o,b∈fs->h.get? b=some o->∃ o',h2.get? b=some o'):Un fs [] H H' h h2:=by
 have eq:∀ b o,h.get? b=some o->b∉fs->h2.get? b=h1.get? b:=fun b o e hf=>by
  obtain⟨o',e'⟩:=hb b o e hf;rw[b1 b o' e',b2 b o' e']
 refine⟨fun b o e n hf hx=>(eq b o e hf).trans (u.keep b o e n hf hx),fun b o e n hf hx=>sl b o hf e n,u.free,fun b o e hx=>?_,u.tups,u.frzs,u.tbls⟩
 by_cases hf:b∈fs
 ·exact th b o hf e
 ·rw[eq b o e hf];exact u.there b o e hx
theorem mY {P:Program}{w:World}{H:Hp}{h1 h2 B:Heap}(x:eQ P w H h1)(b1:B.StaysIn h1)(b2:B.StaysIn h2)(hb:∀ b o,H b=some o->∃ o',B.get? b=some o'):eQ P w H h2:=fun a o e =>
 (x a o e).stay (fun b u hc q=>by
  have:∃ o',B.get? b=some o':=by
   rcases hc with z | z
   ·rw[z];exact hb a o e
   ·exact hb b _ z
  obtain⟨o',e'⟩:=this;rw[b1 b o' e']at q;rw[<-q]
  exact b2 b o' e') (fun _ q=>q) fun _ _ q=>q
def sE (X:Cx)(E:XK):Prop:=∀ (pins:List (Addr×Obj))(σ:St)(H:Hp)(s:Shared)(ea C t:Addr)(od:Option Addr),am X pins σ H s->s.heap.get? ea=some (wx C t od)->H ea=none->X.s₀.heap.get? ea=none->E (.ref C) od H->X.xe (.ref ea) s
section
variable {P:Program}{w:World}{K:PySem.W.Frag}{mg:Str->Option Value}{base:Heap}{N:List Str}{qual:Str}{sc:Scope}{f:Addr}{cd:Value}{A:Around}{outer:List Env}{s0:Shared}{H0:Hp}{E:XK}
theorem gA:sE (ju (hW P w) P w K mg base N qual sc f cd A outer s0 H0 E) E:=by
 intro pins σ H s ea C t od I hx hn hs hE
 let X:Cx:=ju (hW P w) P w K mg base N qual sc f cd A outer s0 H0 E
 show wpAny _ _ (leaving _ _) _ _ _
 have hstk:(X.A.frames:Option (List Env))=some (X.env::outer):=I.ok.frames
 have frS:fB X.stack=X.env.locals::fB outer:=by unfold fB;rfl
 let B:Heap:=PySem.W.hideAll s.heap (ea::fB X.stack)
 have hkb:B.StaysIn s.heap:=fun b o q=>PySem.W.of_hideAll _ q;have inB:∀ b o,s.heap.get? b=some o->b≠ea->b∉fB X.stack->B.get? b=some o:=fun b o e ne hf=>PySem.W.hideAll_get _ e (fun z=>(ya.mp z).elim ne hf);have hl:s.heap.FunFrames B (X.env::outer):=PySem.W.funFrames_hide I.stack fun env he a hf=>xY _ (List.mem_filterMap.mpr ⟨env,he,hf⟩);refine kT (s:=s) hstk rfl hkb hl hx (PySem.W.hideAll_none _ xZ) rfl rfl fun h2 fl ups=>?_;have ltl:∀ b o,s0.heap.get? b=some o->b≠X.env.locals:=fun b o e=>x5 (yc (xQ e) I.ok.above)
 have h0B:∀ b o,s0.heap.get? b=some o->b∉fB outer->∃ o',B.get? b=some o':=fun b o e hf=>by
  obtain⟨o',e'⟩:=I.base.there b o e (by intro z;exact absurd (show b∈([]:List Addr) from z) (by simp));refine⟨o',inB b o' e' (fun z=>?_) ?_⟩
  ·have hs':s0.heap.get? ea=none:=hs
   rw[z,hs']at e;cases e
  ·rw[frS]
   intro z;rcases ya.mp z with z | z
   ·exact ltl b o e z
   ·exact hf z
 have trB:∀ b o,H b=some o->∃ o',B.get? b=some o':=fun b o e=>by
  obtain⟨u,q⟩:=(I.hok b o e).has;exact⟨u,inB b u q (fun z=>by rw[z,hn]at e;cases e) fun z=>by rw[I.stkFree b z]at e;cases e⟩
 have noEx:∀ b,b∉X.ex:=fun b z=>absurd (show b∈([]:List Addr) from z) (by simp)
 have slot2:∀ b o,b∈fB outer->s0.heap.get? b=some o->H0 b=none->∃ sl,h2.get? b=some { o with slots:=sl }:=fun b o hf e n=>by
  obtain⟨sl,e1⟩:=I.base.slot b o e n hf (noEx b);obtain⟨_,o2,ho2,hnf⟩:=I.ok.funs.mem hf
  have e2:o2=o:=by
   have:s0.heap.get? b=some o2:=ho2;rw[e]at this;exact (ye this).symm
  subst e2;obtain⟨sl2,e3⟩:=ups b _ e1 hnf;exact⟨sl2,e3⟩
 refine⟨ea,C,od,H,B,rfl,fl,?_,mY I.hok hkb fl.1 trB,I.os,I.bare,h0B,trB,hE⟩;refine ri (h1:=s.heap) I.base hkb fl.1 h0B (fun b o hf e n=>?_) fun b o hf e=>?_
 ·exact slot2 b o hf e n
 ·obtain⟨sl,q⟩:=slot2 b o hf e (I.ok.frf b hf)
  exact⟨_,q⟩
theorem lc:cW (hW P w) (ju (hW P w) P w K mg base N qual sc f cd A outer s0 H0 E) E:=by
 intro pins σ H s e s' I hc;obtain⟨ea,C,od,H',B,rfl,fl,un,hok,os,bare,hsB,trB,hE⟩:=hc
 let X:Cx:=ju (hW P w) P w K mg base N qual sc f cd A outer s0 H0 E
 show wpAny _ _ (leaving _ _) _ _ _
 have hstk:(X.A.frames:Option (List Env))=some (X.env::outer):=I.ok.frames
 have frS:fB X.stack=X.env.locals::fB outer:=by unfold fB;rfl
 refine m5 hstk rfl fl fun h2 fl2 ups=>?_;have ltl:∀ b o,s0.heap.get? b=some o->b≠X.env.locals:=fun b o e=>x5 (yc (xQ e) I.ok.above);have noEx:∀ b,b∉X.ex:=fun b z=>absurd (show b∈([]:List Addr) from z) (by simp)
 have h0B:∀ b o,s0.heap.get? b=some o->b∉fB outer->∃ o',B.get? b=some o':=fun b o e hf=>by
  obtain⟨o',e'⟩:=I.base.there b o e (noEx b);refine hsB b o' e' ?_;rw[frS];intro z;rcases ya.mp z with z | z
  ·exact ltl b o e z
  ·exact hf z
 have unS:Un (fB outer) [] H0 H' s0.heap s'.heap:=by
  have u1:Un (fB outer) [] H0 H s0.heap s.heap:=I.base;refine⟨fun b o e n hf hx=>?_,fun b o e n hf hx=>?_,fun b o e n hx=>?_,fun b o e hx=>?_,fun b xs q=>un.tups b xs (u1.tups b xs q),fun b o u q=>un.frzs b o u (u1.frzs b o u q),fun b ps q=>?_⟩
  ·refine un.keep b o (u1.keep b o e n hf hx) (u1.free b o e n hx) ?_ hx
   rw[frS];intro z;rcases ya.mp z with z | z
   ·exact ltl b o e z
   ·exact hf z
  ·obtain⟨sl,e1⟩:=u1.slot b o e n hf hx
   obtain⟨sl2,e2⟩:=un.slot b _ e1 (u1.free b o e n hx) (by rw[frS];exact xY _ hf) hx;exact⟨sl2,e2⟩
  ·obtain⟨o',e'⟩:=u1.there b o e hx
   exact un.free b o' e' (u1.free b o e n hx) hx
  ·obtain⟨o',e'⟩:=u1.there b o e hx
   exact un.there b o' e' hx
  ·obtain⟨m1,e1⟩:=u1.tbls b ps q
   obtain⟨m2,e2⟩:=un.tbls b _ e1;exact⟨m1++m2,by rw[e2,Array.append_assoc]⟩
 have slot2:∀ b o,b∈fB outer->s0.heap.get? b=some o->H0 b=none->∃ sl,h2.get? b=some { o with slots:=sl }:=fun b o hf e n=>by
  obtain⟨sl,e1⟩:=unS.slot b o e n hf (by simp);obtain⟨_,o2,ho2,hnf⟩:=I.ok.funs.mem hf
  have e2:o2=o:=by
   have:s0.heap.get? b=some o2:=ho2;rw[e]at this;exact (ye this).symm
  subst e2;obtain⟨sl2,e3⟩:=ups b _ e1 hnf;exact⟨sl2,e3⟩
 refine⟨ea,C,od,H',B,rfl,fl2,?_,mY hok fl.1 fl2.1 trB,os.trans I.os,bare,h0B,trB,hE⟩;refine ri (h1:=s'.heap) unS fl.1 fl2.1 h0B (fun b o hf e n=>slot2 b o hf e n) fun b o hf e=>?_;obtain⟨sl,q⟩:=slot2 b o hf e (I.ok.frf b hf);exact⟨_,q⟩
end
theorem am.fresh0 {X:Cx}{pins:List (Addr×Obj)}{σ:St}{H:Hp}{s:Shared}{a:Addr}(I:am X pins σ H s)(hx:a∉X.ex)(h:s.heap.get? a=none):X.s₀.heap.get? a=none:=by
 cases e:X.s₀.heap.get? a with
 | none=>rfl
 | some o =>
  obtain⟨o',q⟩:=I.base.there a o e hx;rw[h]at q;cases q
theorem am.unheld {X:Cx}{pins:List (Addr×Obj)}{σ:St}{H:Hp}{s:Shared}{a:Addr}(I:am X pins σ H s)(h:s.heap.get? a=none):H a=none:=by
 cases e:H a with
 | none=>rfl
 | some o =>
  obtain⟨u,q⟩:=(I.hok a o e).has;rw[h]at q;cases q
def uK (te:TE)(C:Addr)(E:XK):TS:=fun _ σ H=>te σ H fun _ H1=>E (.ref C) none H1
theorem gQ {X:Cx}{C:Addr}{E:XK}{x:Str}{e:Expr}{te:TE}{np cpos pos:Pos}(q:dL X.K C)(hfl:sE X E)(hex:X.ex=[])(hh:X.A.handled=none)(hg:Gl X x)(hm:X.mg x=some (.ref C))(he:PE X e te)
  (hdb:(x == ("__debug__" : Str))=false:=by decide) (hs:starEach [e] X.env=[(false,eval e X.env)]:=by rfl) :
  PS X (.Raise (some (.Call (.Name x np) [e] [] cpos)) none pos) (uK te C E):=by
 intro pins s σ H D I h;obtain⟨bm,N,nm,qn,bs,hdct,sn,sub,ab,col,dd,k0,k1,k2,k3,k5,mN,hC,hN,hni,T⟩:=rO I.ok.mod.kin q
 refine wpAny_Raise_call_subT (C:=C) (nm:=nm) (q:=qn) (N:=N) (bs:=bs) (bm:=bm) (hdct:=hdct) (sn:=sn) (sub:=sub) (ab:=ab) (col:=col) (dd:=dd) (k0:=k0) (k1:=k1) (k2:=k2) (k3:=k3) (k5:=k5)
  PySem.F.excBase_ValueError (mN:=mN) (T.hasType PySem.F.excBase_ValueError.hasBase) hh (by rw[hs];rfl) hni (gF I hg hm ⟨rfl,?_⟩ hdb)
 rw[hs];refine Calls.evalArgs_plain (Calls.spliced_cons (aU (he pins s σ H _ I h) fun u s1 ⟨v,H1,I1,rv,q1⟩=>Calls.spliced_nil ?_));refine⟨rfl,(show 1<=sizeLine by decide),I1.bk _ _ hC,hN.keeps I1.bk,T.keeps I1.bk,fun h' ea hx=>?_⟩;obtain⟨t,hea,_,_⟩:=hx.there;exact hfl pins σ H1 { s1 with heap:=h' } ea C t none (I1.kept (t':=s1.toks) hx.keeps) hea (I1.unheld hx.new) (I1.fresh0 (by rw[hex];simp) hx.new) q1
def tI (X:Cx)(pins:List (Addr×Obj))(σ:St)(H:Hp)(ea C:Addr)(od:Option Addr)(B:Heap)(s':Shared):Prop:=H ea=none/\∀ h2,gr B X.stack ea (.ref C) od h2->s'.heap.UpToSlots h2->am X pins σ H { s' with heap:=h2 }
theorem rV {X:Cx}{pins:List (Addr×Obj)}{σ:St}{H H':Hp}{s s':Shared}{ea C:Addr}{od:Option Addr}{B:Heap}(I:am X pins σ H s)(fl:gr B X.stack ea (.ref C) od s'.heap)(un:Un (fB X.stack) [] H H' s.heap s'.heap)(hok:eQ X.prog X.w H' s'.heap)(os:s'.os=s.os)(bare:AllBare s'.gens)
  (hsB:∀ b o,s.heap.get? b=some o->b∉fB X.stack->∃ o',B.get? b=some o') (trB:∀ b o,H' b=some o->∃ o',B.get? b=some o'):tI X pins σ H' ea C od B s':=by
 refine⟨?_,fun h2 fl2 ups=>?_⟩
 ·cases e:H' ea with
  | none=>rfl
  | some o =>
   obtain⟨o',q⟩:=trB ea o e;rw[fl.2.1]at q;cases q
 have slot2:∀ b o,b∈fB X.stack->s.heap.get? b=some o->H b=none->∃ sl,h2.get? b=some { o with slots:=sl }:=fun b o hf e n=>by
  obtain⟨sl,e1⟩:=un.slot b o e n hf (by simp);obtain⟨_,o2,ho2,hnf⟩:=I.stack.mem hf
  have e2:o2=o:=by
   have:s.heap.get? b=some o2:=ho2;rw[e]at this;exact (ye this).symm
  subst e2;obtain⟨sl2,e3⟩:=ups b _ e1 hnf;exact⟨sl2,e3⟩
 refine I.call' (ch:=[]) (s':={ s' with heap:=h2 }) os ?_ (mY hok fl.1 fl2.1 trB) bare fun b z=>absurd z (by simp);refine ri (h1:=s'.heap) un fl.1 fl2.1 hsB (fun b o hf e n=>slot2 b o hf e n) fun b o hf e=>?_;obtain⟨sl,q⟩:=slot2 b o hf e (I.stkFree b hf);exact⟨_,q⟩
def Cx.marked (X:Cx)(ea:Addr)(oe:Obj):Cx:={ X with A:=X.A.mark (some (.ref ea)),calm:=false,xe:=fun _ _=>False,pn:=(ea,oe)::X.pn }
theorem am.marked {X:Cx}{pins:List (Addr×Obj)}{σ:St}{H:Hp}{s:Shared}{ea:Addr}{oe:Obj}{us:Array Value}(I:am X pins σ H s)(he:s.heap.get? ea=some oe)(hd:oe.data=.fields us)(hn:H ea=none):am (X.marked ea oe) pins σ H s:=by
 refine⟨⟨I.ok.mod,I.ok.kind,I.ok.glob,I.ok.blt,I.ok.above,I.ok.inj,I.ok.has,I.ok.cab,fun z=>(by cases z),I.ok.frames,I.ok.stk,I.ok.exf,I.ok.bs,I.ok.bsz,I.ok.noex,I.ok.exfs,I.ok.funs,I.ok.frf⟩,I.os,I.bare,I.base,I.loc,I.cell,I.free,I.freeC,fun p hp=>?_,I.hok,I.len⟩;rcases ya.mp (show p∈(ea,oe)::(X.pn++pins) from hp) with z | z
 ·subst z
  refine⟨he,hn,fun z=>?_,fun z=>?_,fun v z=>?_⟩
  ·obtain⟨m,⟨o,es,ep,ho,hdd,_⟩,_⟩:=I.loc
   have z:ea=X.env.locals:=z;rw[<-z,he]at ho;cases ho;rw[hd]at hdd;cases hdd
  ·obtain⟨_,o,ho,nf⟩:=I.funs.mem z
   rw[he]at ho;cases ho;exact nf us hd
  ·have z:oe.data=.cell v:=z
   rw[hd]at z;cases z
 ·exact I.pin p z
theorem am.unmarked {X:Cx}{pins:List (Addr×Obj)}{σ:St}{H:Hp}{s:Shared}{ea:Addr}{oe:Obj}(ok:X.Ok)(I:am (X.marked ea oe) pins σ H s):am X pins σ H s :=
 ⟨ok,I.os,I.bare,I.base,I.loc,I.cell,I.free,I.freeC,fun p hp=>I.pin p (show p∈(ea,oe)::(X.pn++pins) from xY _ hp),I.hok,I.len⟩
theorem SP.unmarked {X:Cx}{pins:List (Addr×Obj)}{D:fL}{f:Flow}{s':Shared}{ea:Addr}{oe:Obj}(ok:X.Ok)(h:SP (X.marked ea oe) pins D f s'):SP X pins D f s':=by
 cases f with
 | next=>obtain⟨σ',H',I,q⟩:=h;exact⟨σ',H',I.unmarked ok,q⟩
 | brk=>obtain⟨σ',H',I,q⟩:=h;exact⟨σ',H',I.unmarked ok,q⟩
 | cont=>obtain⟨σ',H',I,q⟩:=h;exact⟨σ',H',I.unmarked ok,q⟩
 | ret u=>obtain⟨v,σ',H',I,r,q⟩:=h;exact⟨v,σ',H',I.unmarked ok,r,q⟩
def vS (X:Cx)(hdl:List ExceptHandler)(th:Value->Option Addr->TS):Prop:=∀ (pins:List (Addr×Obj))(σ:St)(H:Hp)(D:fL)(ea C:Addr)(od:Option Addr)(B:Heap)(s':Shared)(h:Heap),tI X pins σ H ea C od B s'->gr B X.stack ea (.ref C) od h->s'.heap.UpToSlots h->th (.ref C) od D σ H ->
 wpAny (model X.prog X.w) X.A (handleBy (.ref ea) X.env hdl) (SP X pins D) X.xe { s' with heap:=h }
theorem je {X:Cx}{y:Str}{C1:Addr}{b0:Stmt}{suite:List Stmt}{t1:TS}{th:Value->Option Addr->TS}{np pos:Pos}{rest:List ExceptHandler}(hg:Gl X y)(hm:X.mg y=some (.ref C1))(hs:∀ ea oe,mH (X.marked ea oe) (b0::suite) t1)(hr:vS X rest th)
  (hdb:(y == ("__debug__" : Str))=false:=by decide):vS X (.ExceptHandler (some (.Name y np)) none (b0::suite) pos::rest) (fun cls od D σ H=>∃ b,PySem.W.exmOne X.K cls (.ref C1)=some b/\if b=true then t1 D σ H else th cls od D σ H):=by
 intro pins σ H D ea C od B s' h ld fl ups ht;obtain⟨b,hb,ht⟩:=ht;have I:=ld.2 h fl ups;obtain⟨ob,us,hob,hobc,hobd,hobf⟩:=fl.obj;have Im:=I.marked (ea:=ea) hob hobf ld.1
 have LT:PySem.W.Looks (model X.prog X.w) h (typeOf (.ref ea)) (.ref C):=by
  rw[<-hobc];exact (PySem.W.Looks.ld hob).andThen .now
 refine wpAny_handleBy_cons (codeAny_handlers_test (gF (X:=X.marked ea ob) Im hg hm ?_ hdb)) (by intro z;cases z);refine (PySem.W.exm_one (K:=X.K) I.kIn LT hb).here ?_
 cases b with
 | true =>
  rw[x4 rfl]at ht;refine codeAny_handlers_suite ?_;refine kS fl fun h6 fl6 ups6=>?_;obtain⟨oe,us6,hoe,hoec,hoed,hoef⟩:=fl6.obj;have I6:=(ld.2 h6 fl6 (ups.trans ups6)).marked (ea:=ea) hoe hoef ld.1;exact yh (hs ea oe pins _ σ H D I6 ht) (fun f s2 hq=>hq.unmarked I.ok) fun _ _ z=>z.elim
 | false =>
  rw[xV xU]at ht;exact hr pins σ H D ea C od B s' h ld fl ups ht
theorem qI {X:Cx}:vS X [] (fun _ _ _ _ _=>False):=fun _ _ _ _ _ _ _ _ _ _ _ _ _ h=>h.elim
theorem dS.okX {P:Program}{w:World}{K:PySem.W.Frag}{mg:Str->Option Value}{base:Heap}{x qual:Str}{st:Stmt}{f:Addr}{fd:FuncData}{N ps:List Str}{k:Nat}{sp:Sp}(F:dS K x qual st f fd)(S:aC N ps (ah st))(len:∀ vs H Q E,sp vs H Q E->vs.length=ps.length)
  (hbody:∀ (cdv:Value)(A:Around)(outer:List Env)(s:Shared)(H:Hp)(vs:List V)(Q:VK)(E:XK),bJ k (A.deeper (envOfC qual (ah st) s.heap.objs.size f cdv))->sp vs H Q E ->
   ∃ t,mH (ju (hW P w) P w K mg base N qual (ah st) f cdv A outer s H E) (cz st) t/\t { nx:=fun _ H'=>Q .non H',rt:=Q } (gZ N vs) H):a9 P w K mg base (hW P w) (k+1) f fd ps sp:=by
 obtain⟨oc,od,kV,doc,pm,an,cdv,ct,osl,rfl,lk,hcd⟩:=F.ex;exact sI lk hcd S len fun A outer s H vs Q E hr hsp=>hbody cdv A outer s H vs Q E hr hsp
def PJ (X:Cx)(es:List Expr)(t:TA):Prop:=∀ (out:Str)(m:Nat)(pins:List (Addr×Obj))(s:Shared)(σ:St)(H:Hp)(Q:VK),out.length<=1000*m->m+es.length<=100->am X pins σ H s->t σ H (fun _ H'=>∀ x:Str,Q (.str x) H')->wpAny (model X.prog X.w) X.A (joinParts out (evalEach es X.env)) (EP X pins σ Q) X.xe s
theorem qM {X:Cx}:PJ X [] kj:=by
 intro out m pins s σ H Q ho hm I h;refine joinParts_nil ⟨.str out,H,I.tok _,⟨_,rfl⟩,h out⟩ ?_;exact yA ho (yA (Nat.mul_le_mul_left 1000 (show m<=100 by simpa using hm)) (by decide))
def tJ (te:TE)(t:TA):TA:=fun σ H Q=>te σ H fun x H1=>∃ y:Str,x=.str y/\y.length<=1000/\t σ H1 Q
theorem gO {X:Cx}{e:Expr}{es:List Expr}{te:TE}{t:TA}(he:PE X e te)(h:PJ X es t):PJ X (e::es) (tJ te t):=by
 intro out m pins s σ H Q ho hm I hq
 show wpAny _ _ (joinParts out (eval e X.env::evalEach es X.env)) _ _ s
 refine joinParts_cons (aU (he pins s σ H _ I hq) fun u s1 ⟨x,H1,I1,rx,y,ex,hy,q1⟩=>?_);subst ex;obtain⟨tk,rfl⟩:=rx
 have hl:(out++y).length<=1000*(m+1):=by rw[strLen_append];omega
 rw[yt]at hm;refine⟨yA hl (yA (Nat.mul_le_mul_left 1000 (show m+1<=100 by omega)) (by decide)),?_⟩;exact h (out++y) (m+1) pins s1 σ H1 Q hl (by omega) I1 q1
def xE (t:TA):TE:=fun σ H Q=>t σ H fun _ H'=>∀ x:Str,Q (.str x) H'
theorem oB {X:Cx}{e1 e2:Expr}{es:List Expr}{t:TA}{pos:Pos}(h:PJ X (e1::e2::es) t)(hn:(e1::e2::es).length<=100:=by decide):PE X (.JoinedStr (e1::e2::es) pos) (xE t):=by
 intro pins s σ H Q I hq;refine JoinedStr_many ?_;exact h Str.empty 0 pins s σ H Q (by show 0<=_;exact yg _) (by simpa using hn) I hq
end L2
namespace Wz
open PySem L2
def aP (P:Program)(w:World)(K:PySem.W.Frag)(mg:Str->Option Value)(base:Heap)(CX:mG)(C:Addr)(m:Str)(k:Nat)(ps:List Str)(sp:Sp):Prop :=
 ∃ (f:Addr)(fd:FuncData),a9 P w K mg base CX k f fd ps sp/\rC K C m f/\dR K fd ps []
def i6 (P:Program)(w:World)(K:PySem.W.Frag)(mg:Str->Option Value)(base:Heap)(x:Str)(k:Nat)(ps:List Str)(sp:Sp):Prop :=
 ∃ (f:Addr)(fd:FuncData),a9 P w K mg base (hW P w) k f fd ps sp/\mg x=some (.ref f)/\PySem.W.keepIn K (.ref f)=true/\dR K fd ps []
section
variable {X:Cx}{CX:mG}{k:Nat}{C:Addr}{ps:List Str}{sp:Sp}{E:XK}{m x:Str}{p pos apos:Pos}{e o:Expr}{es:List Expr}{ta:TE}{t:TA}
theorem gP {pl:Sem Bool}(M:aP X.prog X.w X.K X.mg X.base CX C m k ps sp)(he:PE X o ta)(c:nX X.K C)(hr:bJ k X.A)(hx:cW CX X E)(ha:PA X (e::es) t)
  (hst:starEach (e::es) X.env=(false,eval e X.env)::starEach es X.env:=by rfl) (hpl:(backTo pos (starEach es X.env)).any (·.1)=false:=by rfl)
  (ht:eval (.Call (.Attribute o m apos) (e::es) [] pos) X.env=(do
   let ov <-eval o X.env
   standAt apos.atName
   let (f,first) <-holding [ov] (getMethod ov m pl)
   callWith pos f first (backTo pos (starEach (e::es) X.env)) (backToKw pos (keywordEach [] X.env))):=by rfl) :
  PE X (.Call (.Attribute o m apos) (e::es) [] pos) (mv C m sp [] E ta t):=by
 obtain⟨f,fd,G,hm,hb⟩:=M;exact sf he c hm G hr hb .nil hx ha hst hpl ht
theorem qN {pl:Sem Bool}(M:aP X.prog X.w X.K X.mg X.base CX C m k ps sp)(he:PE X o ta)(c:nX X.K C)(hr:bJ k X.A)(hx:cW CX X E)
  (ht:eval (.Call (.Attribute o m apos) [] [] pos) X.env=(do
   let ov <-eval o X.env
   standAt apos.atName
   let (f,first) <-holding [ov] (getMethod ov m pl)
   callWith pos f first (backTo pos (starEach [] X.env)) (backToKw pos (keywordEach [] X.env))):=by rfl) :
  PE X (.Call (.Attribute o m apos) [] [] pos) (mv C m sp [] E ta kj):=by
 obtain⟨f,fd,G,hm,hb⟩:=M;exact qH he c hm G hr hb .nil hx ht
theorem uB (M:i6 X.prog X.w X.K X.mg X.base x k ps sp)(hr:bJ k X.A)(hg:Gl X x)(hx:cW (hW X.prog X.w) X E)(ha:PA X (e::es) t)
  (hdb:(x == ("__debug__" : Str))=false:=by decide) (he:starEach (e::es) X.env=(false,eval e X.env)::starEach es X.env:=by rfl) (hpl:(backTo pos (starEach es X.env)).any (·.1)=false:=by rfl) :
  PE X (.Call (.Name x p) (e::es) [] pos) (qZ sp [] E t):=by
 obtain⟨f,fd,G,hm,hk,hb⟩:=M;exact oA G hr hg hm hk hb .nil hx ha hdb he hpl
end
theorem ve {A:Around}{k n:Nat}(hr:bJ k A)(h:n<=200):A.units+n<cLine:=by have:=hr.un;omega
end Wz
namespace L2
open PySem PySem.Spec PyProof.Rows
theorem vt {X:Cx}{P:Program}{w:World}:cW (hW P w) X (fun _ _ _=>False):=by
 intro pins σ H s e s' I hc;obtain⟨ea,C,od,H',B,rfl,fl,un,hok,os,bare,hsB,trB,hE⟩:=hc;exact hE.elim
def Cx.tried (X:Cx)(pins:List (Addr×Obj))(E:Value->Shared->Prop):Cx:={ X with xe:=E,pn:=X.pn++pins }
theorem am.tried {X:Cx}{pins:List (Addr×Obj)}{σ:St}{H:Hp}{s:Shared}{E:Value->Shared->Prop}(I:am X pins σ H s):am (X.tried pins E) [] σ H s :=
 ⟨⟨I.ok.mod,I.ok.kind,I.ok.glob,I.ok.blt,I.ok.above,I.ok.inj,I.ok.has,I.ok.cab,I.ok.hd,I.ok.frames,I.ok.stk,I.ok.exf,I.ok.bs,I.ok.bsz,I.ok.noex,I.ok.exfs,I.ok.funs,I.ok.frf⟩,I.os,I.bare,I.base,I.loc,I.cell,I.free,I.freeC,fun p hp=>I.pin p (by
  have hp:p∈(X.pn++pins)++[]:=hp
  rwa [List.append_nil]at hp),I.hok,I.len⟩
theorem am.untried {X:Cx}{pins qins:List (Addr×Obj)}{σ:St}{H:Hp}{s:Shared}{E:Value->Shared->Prop}(I:am (X.tried pins E) qins σ H s):am X pins σ H s :=
 ⟨⟨I.ok.mod,I.ok.kind,I.ok.glob,I.ok.blt,I.ok.above,I.ok.inj,I.ok.has,I.ok.cab,I.ok.hd,I.ok.frames,I.ok.stk,I.ok.exf,I.ok.bs,I.ok.bsz,I.ok.noex,I.ok.exfs,I.ok.funs,I.ok.frf⟩,I.os,I.bare,I.base,I.loc,I.cell,I.free,I.freeC,fun p hp=>I.pin p (by
  show p∈(X.pn++pins)++qins
  exact List.mem_append_left _ hp),I.hok,I.len⟩
def wF (K:PySem.W.Frag)(n:Nat):R2:=fun x y H Q=>xq x y H Q\/uD K n true x y H Q
theorem uo {X:Cx}(n:Nat)(hu:X.A.units+n<cLine):fW X (compareOp .NotEq) (wF X.K n):=by
 intro pins s σ H x y v u Q I rx ry h;rcases h with h | h
 ·exact qx pins s σ H x y v u Q I rx ry h
 ·exact qy n hu pins s σ H x y v u Q I rx ry h
theorem am.turned2 {X:Cx}{pins:List (Addr×Obj)}{σ:St}{H:Hp}{s:Shared}{h':Heap}{t':Nat}{e it:Addr}(I:am X pins σ H s)(k:∀ b o,b≠e->b≠it->s.heap.get? b=some o->h'.get? b=some o)(fe:eX X pins H e)(fi:eX X pins H it):am X pins σ H { s with heap:=h',toks:=t' }:=by
 obtain⟨e0,e1,e2,e3,e4,e5⟩:=fe;obtain⟨i0,i1,i2,i3,i4,i5⟩:=fi;have nit:∀ b u,H b=some u->b≠e/\b≠it:=fun b u q=>⟨(fun z=>by rw[z,e0]at q;cases q),(fun z=>by rw[z,i0]at q;cases q)⟩
 have nn:∀ b,b∉[e,it]->b≠e/\b≠it:=fun b hb=>by simpa using hb
 refine I.step (g':=s.gens) (d':=s.drawn) (ch:=[e,it]) (fun b hb=>?_) (fun b o _ _ hc q _=>k b o (nn b hc).1 (nn b hc).2 q) (fun b o _ _ hc q _=>⟨o.slots,k b o (nn b hc).1 (nn b hc).2 q⟩) (fun _ _ _ _ n=>n)
  (fun b o hc q=>⟨o,k b o (nn b hc).1 (nn b hc).2 q⟩) (fun _ _ q=>q) (fun _ _ _ q=>q) (fun b ps q=>⟨#[],by rw[q];simp⟩) (fun m hm=>?_) (fun b u q=>?_) I.bare
 ·have hb:b=e\/b=it:=by simpa using hb
  rcases hb with rfl | rfl
  ·exact⟨e3,e1,e4,e5⟩
  ·exact⟨i3,i1,i4,i5⟩
 ·obtain⟨o,es,ep,ho,r⟩:=hm
  exact⟨o,es,ep,k _ o (yo e1) (yo i1) ho,r⟩
 ·refine (I.hok b u q).stay (fun c v hc z=>k c v ?_ ?_ z) (fun _ z=>z) fun _ _ z=>z
  ·rcases hc with z | z
   ·rw[z];exact (nit b u q).1
   ·exact (nit c _ z).1
  ·rcases hc with z | z
   ·rw[z];exact (nit b u q).2
   ·exact (nit c _ z).2
theorem o0 {X:Cx}:dE X (.builtin "len") (fun xs H Q=>∃ p S n,xs=[.ref p]/\H p=some (.set S n)/\Q (.int n) H):=by
 intro pins s σ H xs us Q I r h;obtain⟨p,S,n,rfl,hp,q⟩:=h;obtain⟨u,rfl,rx⟩:=eL r;cases rx;obtain⟨o,es,ep,t,ho,hex,hd,_,_,hb,hf,hn⟩:=(show s.heap.SetOf (intKind X.prog X.w) p S n from I.hok p _ hp);subst hn;refine call_len_set ho hex hd hf ?_ ⟨.int es.size,H,I.tok _,⟨_,rfl⟩,q⟩;have:es.size<4096:=hb;omega
theorem j3 (elt t0 i0:Expr)(c0:List Expr)(t1 i1:Expr)(c1:List Expr)(scope:Scope)(pos:Pos)(it acc:Value)(env:Env) :
  compTurn (.ListComp elt [⟨t0,i0,c0,0⟩,⟨t1,i1,c1,0⟩] scope pos) 0 it acc env=(do
   standAt i0.pos
   match <-pyNext it with
   | none=>pure (.done .next)
   | some v =>
    letOwnedTupleGo t0 it v
    assign t0 env v
    let mut ok:=true
    for c in c0 do
     if ok then ok <-isTrue c env (eval c env)
    if ok then
     let x <-eval i1 env
     standAt i1.pos
     let x <-foldedSetIterable i1 env x
     let it1 <-holding [x] (pyIter x)
     let _ <-runOwn (.compStart (.ListComp elt [⟨t0,i0,c0,0⟩,⟨t1,i1,c1,0⟩] scope pos) 1 it1 acc env) env
     again (.compLoop (.ListComp elt [⟨t0,i0,c0,0⟩,⟨t1,i1,c1,0⟩] scope pos) 0 it acc env)
    else
     again (.compLoop (.ListComp elt [⟨t0,i0,c0,0⟩,⟨t1,i1,c1,0⟩] scope pos) 0 it acc env)):=by rfl
theorem j4 (elt t0 i0:Expr)(c0:List Expr)(t1 i1:Expr)(c1:List Expr)(scope:Scope)(pos:Pos)(it acc:Value)(env:Env) :
  compTurn (.ListComp elt [⟨t0,i0,c0,0⟩,⟨t1,i1,c1,0⟩] scope pos) 1 it acc env=(do
   standAt i1.pos
   match <-pyNext it with
   | none=>pure (.done .next)
   | some v =>
    letOwnedTupleGo t1 it v
    assign t1 env v
    let mut ok:=true
    for c in c1 do
     if ok then ok <-isTrue c env (eval c env)
    if ok then
     (do let _ <-call (.builtin "list.append") [acc,<-eval elt env])
    again (.compLoop (.ListComp elt [⟨t0,i0,c0,0⟩,⟨t1,i1,c1,0⟩] scope pos) 1 it acc env)):=by rfl
section
variable {prog:Program}{w:World}{A:Around}{R:Result->Shared->Prop}{s:Shared}{elt t0 i0 t1 i1:Expr}{c0 c1:List Expr}{scope:Scope}{pos:Pos}{it acc:Value}{env:Env}
theorem fM (I:Nat->Shared->Prop)
  (turn:∀ n s,I n s->wpAny (model prog w) A (pyNext it) (fun r s₁=>match r with
   | none=>R (.ok .next) s₁
   | some v=>wpAny (model prog w) A (letOwnedTupleGo t1 it v) (fun _ s₁'=>wpAny (model prog w) A (assign t1 env v) (fun _ s₂ =>
     wpAny (model prog w) A (forIn c1 true fun c r=>if r=true then do let ok <-isTrue c env (eval c env);pure (ForInStep.yield ok) else pure (ForInStep.yield r)) (fun ok s₃ =>
      if ok=true then wpAny (model prog w) A (eval elt env) (fun x s₄ =>
       wpAny (model prog w) A (call (.builtin "list.append") [acc,x]) (fun _ s₅=>∃ m,m<n/\I m s₅) (fun _ _=>False) s₄) (fun _ _=>False) s₃
      else ∃ m,m<n/\I m s₃) (fun _ _=>False) s₂) (fun _ _=>False) s₁') (fun _ _=>False) s₁) (fun _ _=>False) s)
  (n:Nat) (h:I n s) :
  codeAny (model prog w) A (.compLoop (.ListComp elt [⟨t0,i0,c0,0⟩,⟨t1,i1,c1,0⟩] scope pos) 1 it acc env) R s:=by
 refine codeAny_loop rfl I (fun n s hI=>?_) n h
 show wpAny _ A ((compTurn (.ListComp elt [⟨t0,i0,c0,0⟩,⟨t1,i1,c1,0⟩] scope pos) 1 it acc env).onRaise (fun x=>do noteFrame x env;theTreesLotGoes x)) _ _ s
 refine wpAny_noted ?_;rw[j4];refine xO (wpAny_standAt (xO (yh (turn n s hI) (fun r s₁ h₁=>?_) fun _ _ h'=>h'.elim)))
 cases r with
 | none=>exact xR h₁
 | some v =>
  refine xO (yh h₁ (fun _ s₁' h₁'=>?_) fun _ _ h'=>h'.elim);refine xO (yh h₁' (fun _ s₂ h₂=>xO (yh h₂ (fun ok s₃ h₃=>?_) fun _ _ h'=>h'.elim)) fun _ _ h'=>h'.elim)
  cases ok with
  | false=>exact xR ⟨rfl,h₃⟩
  | true =>
   exact xO (xO (yh h₃ (fun x s₄ h₄=>xO (yh h₄ (fun _ s₅ h₅=>xR (xR ⟨rfl,h₅⟩)) fun _ _ h'=>h'.elim)) fun _ _ h'=>h'.elim))
theorem e6 (hs:∀ x,foldedSetIterable i1 env x=pure x)(I:Nat->Shared->Prop)
  (turn:∀ n s,I n s->wpAny (model prog w) A (pyNext it) (fun r s₁=>match r with
   | none=>R (.ok .next) s₁
   | some v=>wpAny (model prog w) A (letOwnedTupleGo t0 it v) (fun _ s₁'=>wpAny (model prog w) A (assign t0 env v) (fun _ s₂ =>
     wpAny (model prog w) A (forIn c0 true fun c r=>if r=true then do let ok <-isTrue c env (eval c env);pure (ForInStep.yield ok) else pure (ForInStep.yield r)) (fun ok s₃ =>
      if ok=true then wpAny (model prog w) A (eval i1 env) (fun x s₄ =>
       wpAny (model prog w) A (pyIter x) (fun it1 s₅=>codeAny (model prog w) A (.compStart (.ListComp elt [⟨t0,i0,c0,0⟩,⟨t1,i1,c1,0⟩] scope pos) 1 it1 acc env) (fun r s₆=>r=.ok .next/\∃ m,m<n/\I m s₆) s₅) (fun _ _=>False) s₄) (fun _ _=>False) s₃
      else ∃ m,m<n/\I m s₃) (fun _ _=>False) s₂) (fun _ _=>False) s₁') (fun _ _=>False) s₁) (fun _ _=>False) s)
  (n:Nat) (h:I n s) :
  codeAny (model prog w) A (.compLoop (.ListComp elt [⟨t0,i0,c0,0⟩,⟨t1,i1,c1,0⟩] scope pos) 0 it acc env) R s:=by
 refine codeAny_loop rfl I (fun n s hI=>?_) n h
 show wpAny _ A ((compTurn (.ListComp elt [⟨t0,i0,c0,0⟩,⟨t1,i1,c1,0⟩] scope pos) 0 it acc env).onRaise (fun x=>do noteFrame x env;theTreesLotGoes x)) _ _ s
 refine wpAny_noted ?_;rw[j3];refine xO (wpAny_standAt (xO (yh (turn n s hI) (fun r s₁ h₁=>?_) fun _ _ h'=>h'.elim)))
 cases r with
 | none=>exact xR h₁
 | some v =>
  refine xO (yh h₁ (fun _ s₁' h₁'=>?_) fun _ _ h'=>h'.elim);refine xO (yh h₁' (fun _ s₂ h₂=>xO (yh h₂ (fun ok s₃ h₃=>?_) fun _ _ h'=>h'.elim)) fun _ _ h'=>h'.elim)
  cases ok with
  | false=>exact xR ⟨rfl,h₃⟩
  | true =>
   refine xO (yh h₃ (fun x s₄ h₄=>?_) fun _ _ h'=>h'.elim);refine xO (wpAny_standAt (xO (wpAny_of_eq (hs x) ?_)));refine xO (yZ (yh h₄ (fun it1 s₅ h₅=>?_) fun _ _ h'=>h'.elim));refine xO (wpAny_runOwn (zy h₅ fun r s₆ h₆=>?_));obtain⟨rfl,h₆⟩:=h₆;exact xR ⟨rfl,h₆⟩
theorem e7
  (h0:codeAny (model prog w) A (.compLoop (.ListComp elt [⟨t0,i0,c0,0⟩,⟨t1,i1,c1,0⟩] scope pos) 1 it acc env) R s)
  (h:wpAny (model prog w) A (pyIter it) (fun it' s'=>codeAny (model prog w) A (.compLoop (.ListComp elt [⟨t0,i0,c0,0⟩,⟨t1,i1,c1,0⟩] scope pos) 1 it' acc env) R s')
   (notedBy (model prog w) A env fun x s'=>R (.error x) s') s) :
  codeAny (model prog w) A (.compStart (.ListComp elt [⟨t0,i0,c0,0⟩,⟨t1,i1,c1,0⟩] scope pos) 1 it acc env) R s:=by
 refine codeAny_of_tree ?_
 show wpAny _ _ ((compStart (.ListComp elt [⟨t0,i0,c0,0⟩,⟨t1,i1,c1,0⟩] scope pos) 1 it acc env).onRaise (fun x=>do noteFrame x env;standAt theWindowsPlace)) _ _ s
 refine wpAny_notedAt ?_;unfold compStart
 show wpAny _ _ (ask >>= _) _ _ s
 refine xO (wpAny_askSetting (wpAny_ite ?_));split
 ·first
   | exact xO (xR (xR (And.intro rfl h0)))
   | exact xR (And.intro rfl h0)
 ·first
   | exact xO (wpAny_rule (xO (wpAny_standAt (xO (yh h (fun it' s' h'=>xR (And.intro rfl h')) fun _ _ x=>x)))))
   | (refine xO (wpAny_rule ?_);show wpAny _ _ (standAt i1.pos >>= _) _ _ s;exact xO (wpAny_standAt (xO (yh h (fun it' s' h'=>xR (And.intro rfl h')) fun _ _ x=>x))))
end
theorem mO {Y:Cx}{P:List (Addr×Obj)}{σ:St}{H:Hp}{s:Shared}{elt t0 i0 t1 i1:Expr}{c0 c1:List Expr}{sc:Scope}{pos:Pos}{it a:Addr}{fp:List Addr}{tn:Nat->Heap->Prop}{J:It}{g:TG}{tt:TT}{te:TE}{nx:St->Hp->Prop}{rt:VK}{bk ct:St->Hp->Prop}
  (hc:Y.calm=true) (hxe:Y.xe=fun _ _=>False) (I:am Y P σ H s) (T:lG Y.prog Y.w Y.K t1 J fp it tn) (st:tn 0 s.heap) (f:∀ b∈fp,eX Y P H b) (hL:iH J g (sA tt te a) ⟨nx,rt,bk,ct⟩ σ H) (hg:PG Y t1 g) (ht:u7 Y c1 tt) (he:PE Y elt te) :
  codeAny (model Y.prog Y.w) Y.A (.compLoop (.ListComp elt [⟨t0,i0,c0,0⟩,⟨t1,i1,c1,0⟩] sc pos) 1 (.ref it) (.ref a) Y.env) (fun r s'=>r=.ok .next/\∃ σ' H',am Y P σ' H' s'/\nx σ' H') s:=by
 obtain⟨W,⟨m0,w0⟩,turn⟩:=hL;have stat:∀ {H':Hp},(∀ b∈fp,H' b=none)->∀ b∈fp,eX Y P H' b:=fun {H'} hn b hb=>⟨hn b hb,(f b hb).2⟩;refine fM (fun n s'=>∃ i σ' H',am Y P σ' H' s'/\tn i s'.heap/\(∀ b∈fp,H' b=none)/\W i n σ' H') ?_ m0 ⟨0,_,_,I,st,fun b hb=>(f b hb).1,w0⟩;rintro n s6 ⟨i,σ6,H6,I6,st6,fr6,w6⟩;rcases turn i n σ6 H6 w6 with ⟨stop,qn⟩ | ⟨go,Nx,hN,step⟩
 ·refine aU (T.done Y rfl rfl rfl hc i P s6 σ6 H6 _ I6 (stat fr6) st6 stop) fun r s7 ⟨hr,I7⟩=>?_
  subst hr;exact⟨rfl,σ6,H6,I7,qn⟩
 ·refine aU (T.item Y rfl rfl rfl hc i P s6 σ6 H6 _ I6 (stat fr6) st6 go) fun r s7 ⟨u,hr,h7⟩=>?_
  subst hr;refine aU h7 fun _ s8 ⟨x,H8,I8,r8,y8,st8,fr8⟩=>?_;have I8':=I8.pinned (stat fr8) (T.obj _ _ st8);have hgx:=hg _ s8 σ6 H8 x u _ I8' r8 (step x H8 y8);rw[hxe]at hgx;refine aU hgx fun _ s9 ⟨σ9,H9,I9,q9⟩=>?_
  have again:∀ {s':Shared}{σ7:St}{H7:Hp},am Y (P++gi fp s8.heap) σ7 H7 s'->Nx σ7 H7->∃ m,m<n/\∃ i σ' H',am Y P σ' H' s'/\tn i s'.heap/\(∀ b∈fp,H' b=none)/\W i m σ' H':=fun {s' σ7 H7} I7 n7=>by
   obtain⟨m',hm,w7⟩:=hN σ7 H7 n7;refine⟨m',hm,i+1,σ7,H7,I7.unpinned,T.keep _ _ _ st8 fun b hb o e=>(I7.pin (b,o) (yb _ (yb _ (bK hb e)))).1,fun b hb=>?_,w7⟩;obtain⟨o,e,d⟩:=T.obj _ _ st8 b hb;exact (I7.pin (b,o) (yb _ (yb _ (bK hb e)))).2.1
  have htx:=ht _ s9 σ9 H9 _ I9 q9;rw[hxe]at htx;refine aU htx fun ok s10 ⟨H10,I10,q10⟩=>?_
  cases ok with
  | false =>
   rw[xV xU]at q10 ⊢;exact again I10 q10
  | true =>
   rw[x4 rfl]at q10 ⊢;have hex:=he _ s10 σ9 H10 _ I10 q10;rw[hxe]at hex;refine aU hex fun y s11 ⟨yv,H11,I11,ry,ys,hys,hlen,q11⟩=>?_;exact aU (iI (X:=Y) I11 hys hlen ry) fun _ s12 I12=>again I12 q11
def uL (tt0:TT)(wi1:TI)(g1:TG)(tt1:TT)(te:TE)(a:Addr):TS:=fun D σ H=>tt0 σ H fun b H1=>if b=true then wi1 σ H1 fun J1 H2=>iH J1 g1 (sA tt1 te a) { nx:=D.nx,rt:=fun _ _=>False } σ H2 else D.nx σ H1
def uG (wi:TI)(g0:TG)(tt0:TT)(wi1:TI)(g1:TG)(tt1:TT)(te:TE)(src:List (Option Nat)):TE:=fun σ H Q=>wi σ H fun J H1=>∀ a,H1 a=none ->
 iH J g0 (uL tt0 wi1 g1 tt1 te a) { nx:=fun _ H'=>Q (.ref a) H',rt:=fun _ _=>False } (ga src σ) (aH H1 a (.lst []))
theorem qD {X:Cx}{elt tg iter t1 i1:Expr}{ifs c1:List Expr}{sc so:Scope}{pos:Pos}{N':List Str}{src:List (Option Nat)}{wi wi1:TI}{g g1:TG}{tt tt1:TT}{te:TE}{N:List Str}(hso:X.env.scope=so)(hXN:X.N=N)(S:nY so sc N N' src)(hc:X.calm=true)(hi:PI X tg iter wi)
  (hb:∀ (cl:List (Str×Addr))(C:Addr)(s:Shared)(H:Hp)(ex:List Addr),PG (cX X sc cl C N' s H ex) tg g/\u7 (cX X sc cl C N' s H ex) ifs tt/\PI (cX X sc cl C N' s H ex) t1 i1 wi1/\PG (cX X sc cl C N' s H ex) t1 g1/\u7 (cX X sc cl C N' s H ex) c1 tt1/\PE (cX X sc cl C N' s H ex) elt te)
  (hs:∀ x,foldedSetIterable iter X.env x=pure x:=by intro _;rfl) (hs1:∀ env x,foldedSetIterable i1 env x=pure x:=by intro _ _;rfl):PE X (.ListComp elt [⟨tg,iter,ifs,0⟩,⟨t1,i1,c1,0⟩] sc pos) (uG wi g tt wi1 g1 tt1 te src):=by
 subst hXN;intro pins s σ H Q I h
 obtain⟨cl,hcl,q1,q3⟩:=jt (sc:=sc) (env:=X.env) fun y hy hf=>by
  have:=S.fre y hy hf;rw[<-hso]at this;exact I.ok.has y.1 this
 rw[eval_ListComp];refine wpAny_comprehension_free (use:=none) rfl hs hcl S.kind S.loc (aU (hi pins s σ H _ I h) fun v s1 h1=>aU h1 fun itv s2 h2=>?_);obtain⟨it,fp,tn,J,H2,e,I2,T,st2,f2,hR⟩:=h2;subst e;refine yN ?_
 have I3:am X pins σ (aH H2 s2.heap.objs.size (.lst [])) { s2 with heap:=s2.heap.push { cls:=.type "list",dict:=none,data:=.seq ([]:List Value).toArray } } :=
  I2.laid (t':=s2.toks) (fun b u q=>Heap.get?_push_of_some _ q) (xT _) ⟨yg _,[],0,.nil,Heap.get?_push_size _ rfl⟩
 have hfr:=I2.hok.fresh (xT s2.heap.objs.size);obtain⟨W,⟨m0,w0⟩,turn⟩:=hR _ hfr
 have flt:∀ b∈fp,b<s2.heap.objs.size:=fun b hb=>by obtain⟨o,e,_⟩:=T.obj _ _ st2 b hb;exact xQ e
 generalize hs3:({ s2 with heap:=s2.heap.push { cls:=.type "list",dict:=none,data:=.seq ([]:List Value).toArray } }:Shared)=s3 at I3 ⊢
 have e3:s3.heap=s2.heap.push { cls:=.type "list",dict:=none,data:=.seq ([]:List Value).toArray }:=by rw[<-hs3]
 have sz3:s3.heap.objs.size=s2.heap.objs.size+1:=by rw[e3,yq]
 have hf3:∀ b∈fp,eX X pins (aH H2 s2.heap.objs.size (.lst [])) b:=fun b hb=>⟨by rw[ak (x5 (flt b hb))];exact (f2 b hb).1,(f2 b hb).2⟩
 have flt3:∀ b∈fp,b<s3.heap.objs.size:=fun b hb=>by rw[sz3];exact zw (flt b hb)
 have st3:tn 0 s3.heap:=T.keep _ _ _ st2 fun b _ o e=>by rw[e3];exact Heap.get?_push_of_some _ e
 refine wpAny_newFunctionEnv S.nocell (by intro y hy;simp at hy) (fun h4 hns4 hsb4=>?_) S.kind;have kp4:∀ b o,s3.heap.get? b=some o->h4.get? b=some o:=fun b o e=>hsb4.extBut b o (x5 (xQ e)) (Heap.get?_push_of_some _ e);have I4:=lM (h':=h4) I3 hso S q1 q3 hf3 flt3 (by simpa using hns4) kp4 (s3.toks+([]:List (Str×Value)).length);have st4:tn 0 h4:=T.keep _ _ _ st3 fun b _ o e=>kp4 b o e;generalize hC:s3.heap.objs.size=C at I4 hns4 hsb4 ⊢;obtain⟨hg,ht,hi1,hg1,ht1,he⟩:=hb cl C s3 (aH H2 s2.heap.objs.size (.lst [])) fp
 let Y:Cx:=cX X sc cl C N' s3 (aH H2 s2.heap.objs.size (.lst [])) fp
 have loop:∀ s5:Shared,s5={ s3 with heap:=h4,toks:=s3.toks+([]:List (Str×Value)).length }->codeAny (model X.prog X.w) X.A (.compLoop (.ListComp elt [⟨tg,iter,ifs,0⟩,⟨t1,i1,c1,0⟩] sc pos) 0 (.ref it) (.ref s2.heap.objs.size) (compEnvC sc cl C X.env))
   (compPost (model X.prog X.w) X.A X.xe none (EP X pins σ Q) (.ref s2.heap.objs.size) C) s5:=by
  rintro s5 rfl
  have stat:∀ {H':Hp},(∀ b∈fp,H' b=none)->∀ b∈fp,eX Y [] H' b:=fun {H'} hn b hb=>by
   obtain⟨f0,f1,f2',f3,f4,f5⟩:=hf3 b hb;refine⟨hn b hb,?_,fun z=>?_,.inl hb,fun x c e=>f4 x c (q1 x c e),fun p hp=>absurd (show p∈([]:List (Addr×Obj)) from hp) (by simp)⟩
   ·show b≠C
    rw[<-hC];exact x5 (flt3 b hb)
   ·have z:b∈fB X.stack:=z
    rcases ya.mp (I3.stkSub b z) with y | y
    ·exact f1 y
    ·exact f2' y
  refine e6 (fun x=>hs1 _ x) (fun n s'=>∃ i σ' H',am Y [] σ' H' s'/\tn i s'.heap/\(∀ b∈fp,H' b=none)/\W i n σ' H') ?_ m0 ⟨0,_,_,I4,st4,fun b hb=>(hf3 b hb).1,w0⟩;rintro n s6 ⟨i,σ6,H6,I6,st6,fr6,w6⟩;rcases turn i n σ6 H6 w6 with ⟨stop,qn⟩ | ⟨go,Nx,hN,step⟩
  ·refine aU (T.done Y rfl rfl rfl hc i [] s6 σ6 H6 _ I6 (stat fr6) st6 stop) fun r s7 ⟨hr,I7⟩=>?_
   subst hr;obtain⟨m,hn,_⟩:=id I7.loc;refine⟨m,hn,fun h' hsb=>?_⟩
   have neC:∀ b o,s3.heap.get? b=some o->b≠C:=fun b o e=>by rw[<-hC];exact x5 (xQ e)
   have freeC:H6 C=none:=I7.free
   have un:Un (fB X.stack) fp (aH H2 s2.heap.objs.size (.lst [])) H6 s3.heap h' :=
    ⟨fun b o e n hb hx=>(hsb.2 b (neC b o e)).trans (I7.base.keep b o e n hb hx),fun b o e n hb hx=>by
      obtain⟨sl,q⟩:=I7.base.slot b o e n hb hx
      exact⟨sl,(hsb.2 b (neC b o e)).trans q⟩,I7.base.free,fun b o e hx=>by
      obtain⟨o',q⟩:=I7.base.there b o e hx
      exact⟨o',(hsb.2 b (neC b o e)).trans q⟩,I7.base.tups,I7.base.frzs,I7.base.tbls⟩
   have hok:eQ X.prog X.w H6 h':=fun b ob e=>by
    refine (I7.hok b ob e).stay (fun c w' hc' q=>(hsb.2 c ?_).trans q) (fun _ q=>q) fun _ _ q=>q;rintro rfl;rcases hc' with z | z
    ·rw[<-z,freeC]at e;cases e
    ·rw[freeC]at z;cases z
   have J7:am X pins σ H6 { s7 with heap:=h' }:=I3.call' (ch:=fp) (s':={ s7 with heap:=h' }) I7.os un hok I7.bare fun b hb=>⟨(hf3 b hb).2.2.2.1,(hf3 b hb).2.1,(hf3 b hb).2.2.2.2.1,(hf3 b hb).2.2.2.2.2⟩;exact⟨.ref s2.heap.objs.size,H6,J7,rfl,qn⟩
  ·refine aU (T.item Y rfl rfl rfl hc i [] s6 σ6 H6 _ I6 (stat fr6) st6 go) fun r s7 ⟨u,hr,h7⟩=>?_
   subst hr;refine aU h7 fun _ s8 ⟨x,H8,I8,r8,y8,st8,fr8⟩=>?_;have I8':=I8.pinned (stat fr8) (T.obj _ _ st8);refine aU (hg _ s8 σ6 H8 x u _ I8' r8 (step x H8 y8)) fun _ s9 ⟨σ9,H9,I9,q9⟩=>?_
   have again:∀ {s':Shared}{σ7:St}{H7:Hp},am Y ([]++gi fp s8.heap) σ7 H7 s'->Nx σ7 H7->∃ m,m<n/\∃ i σ' H',am Y [] σ' H' s'/\tn i s'.heap/\(∀ b∈fp,H' b=none)/\W i m σ' H':=fun {s' σ7 H7} I7 n7=>by
    obtain⟨m',hm,w7⟩:=hN σ7 H7 n7;refine⟨m',hm,i+1,σ7,H7,I7.unpinned,T.keep _ _ _ st8 fun b hb o e=>(I7.pin (b,o) (yb _ (yb _ (bK hb e)))).1,fun b hb=>?_,w7⟩;obtain⟨o,e,d⟩:=T.obj _ _ st8 b hb;exact (I7.pin (b,o) (yb _ (yb _ (bK hb e)))).2.1
   refine aU (ht _ s9 σ9 H9 _ I9 q9) fun ok s10 ⟨H10,I10,q10⟩=>?_
   cases ok with
   | false =>
    rw[xV xU]at q10 ⊢;exact again I10 q10
   | true =>
    rw[x4 rfl]at q10 ⊢;refine aU (hi1 _ s10 σ9 H10 _ I10 q10) fun x1 s11 h11=>aU h11 fun it1 s12 h12=>?_;obtain⟨ia,fp1,tn1,J1,H12,e1,I12,T1,st12,f12,hR1⟩:=h12;subst e1;have inner:=mO (Y:=Y) (t0:=tg) (i0:=iter) (c0:=ifs) (i1:=i1) (sc:=sc) (pos:=pos) hc rfl I12 T1 st12 f12 hR1 hg1 ht1 he;have inner':=zy inner (R':=fun r s₆=>r=.ok .next/\∃ m,m<n/\∃ i σ' H',am Y [] σ' H' s₆/\tn i s₆.heap/\(∀ b∈fp,H' b=none)/\W i m σ' H') fun r s6 ⟨er,σ7,H7,I7,n7⟩=>⟨er,again I7 n7⟩;exact e7 inner' (T1.self _ 0 _ _ _ st12 inner')
 exact codeAny_compStart_list (loop _ rfl) (T.self _ 0 _ _ _ st4 (loop _ rfl))
end L2
namespace Qs
open PySem PySem.W PyProof.Rows
structure xJ (n:Nat)(lt:Nat->Nat->Bool):Prop where
 irr:∀ i,lt i i=false
 tot:∀ i j,i<n->j<n->i≠j->lt i j=true\/lt j i=true
 tr:∀ i j k,lt i j=true->lt j k=true->lt i k=true
def ask {α:Type}(lt:Nat->Nat->Bool):KasT α->α
 | .ret a=>a
 | .ask i j k=>ask lt (k (lt i j))
def wY {α:Type}(n:Nat)(lt:Nat->Nat->Bool):KasT α->Prop
 | .ret _=>True
 | .ask i j k=>i<n/\j<n/\wY n lt (k (lt i j))
def xM {α:Type}(n:Nat)(lt:Nat->Nat->Bool)(t:KasT α)(R:α->Prop):Prop:=wY n lt t/\R (ask lt t)
section
variable {n:Nat}{lt:Nat->Nat->Bool}{p:Array Nat}
def Pm (n:Nat)(p:Array Nat):Prop:=p.Perm (List.toArray (List.range n))
def Up (lt:Nat->Nat->Bool)(p:Array Nat)(k:Nat):Prop:=∀ i j,i<j->j<k->lt (p.getD i 0) (p.getD j 0)=true
def Dn (lt:Nat->Nat->Bool)(p:Array Nat)(k:Nat):Prop:=∀ i j,i<j->j<k->lt (p.getD j 0) (p.getD i 0)=true
end
def xm (p q:Int×Int):Bool:=decide (p.1<q.1\/(p.1=q.1/\p.2<q.2))
def xz (ps:List (Int×Int))(i j:Nat):Bool:=xm (ps.getD i (0,0)) (ps.getD j (0,0))
def tM (h:Heap)(v:Value)(p:Int×Int):Prop:=∃ (b:Addr)(o:Obj)(n:Nat)(t u:Tok),v=.ref b/\h.get? b=some o/\o.cls=.type "tuple"/\o.data=.seq #[.int p.1 t,.int p.2 u] n
section
variable {prog:Program}{w:World}{A:Around}{E:Value->Shared->Prop}{s:Shared}
def wg (vs:List Value)(ps:List (Int×Int))(out:List Value):Prop:=∃ ix:List Nat,ix.Perm (List.range vs.length)/\out=ix.map (fun i=>vs.getD i Value.none)/\(ix.map fun i=>ps.getD i (0,0)).Pairwise (fun a b=>xm a b=true)
end
def xa (h:Heap)(d:Addr)(es:Array DictEntry)(ep:Nat):Prop:=∃ o,h.get? d=some o/\o.ExactDict/\o.data=.dict es ep
end Qs
namespace Wz
open PySem PySem.Spec PyProof.Rows L2
theorem mW {α:Type}(d:α)(l:List α):(List.range l.length).map (fun i=>l.getD i d)=l:=by
 apply List.ext_getElem?
 intro i;rw[List.getElem?_map]
 by_cases hi:i<l.length
 ·rw[List.getElem?_range hi];simp[hi]
 ·rw[List.getElem?_eq_none (by simp;omega),List.getElem?_eq_none (by omega)];rfl
end Wz
namespace L2
open PySem PySem.Spec PyProof.Rows
theorem re {wi1:TI}{g1:TG}{tt1:TT}{te:TE}{a:Addr}{D:fL}{σ:St}{H:Hp}(h:wi1 σ H fun J1 H2=>iH J1 g1 (sA tt1 te a) { nx:=D.nx,rt:=fun _ _=>False } σ H2):uL mw wi1 g1 tt1 te a D σ H:=by
 unfold uL mw;dsimp only;rw[x4 rfl];exact h
end L2
namespace Wz
open PySem L2
theorem rR {i j c:Int}(hi:0<=i/\i<100)(hj:0<=j/\j<100)(h:j6 i c=j6 j c):i=j:=by
 have ht0:0<=d5 c*1234567891%2147483646:=yT _ (by decide);have ht1:d5 c*1234567891%2147483646<2147483646:=yK _ (by decide);unfold j6 at h;dsimp only at h;generalize d5 c*1234567891%2147483646=t0 at *;generalize d5 c/2147483646=q at *
 have h2:(i*(1+t0)+q)%2147483647=(j*(1+t0)+q)%2147483647:=by
  by_cases e:d5 c%5=4
  ·rw[x4 e,x4 e]at h;omega
  ·rw[xV e,xV e]at h;exact h
 have h3:(2147483647:Int) ∣ (i-j)*(1+t0):=by
  have h5:=Int.dvd_of_emod_eq_zero (Int.emod_eq_emod_iff_emod_sub_eq_zero.mp h2)
  have e:i*(1+t0)+q-(j*(1+t0)+q)=(i-j)*(1+t0):=by rw[Int.sub_mul];omega
  rw[e]at h5;exact h5
 have key:∀ d:Nat,d<100->d≠0->Nat.gcd 2147483647 d=1:=by decide +kernel
 by_cases hij:i=j
 ·exact hij
 exfalso
 have h6:2147483647 ∣ (i-j).natAbs*(1+t0).natAbs:=by
  have:=Int.natAbs_dvd_natAbs.mpr h3;rw[Int.natAbs_mul]at this;exact this
 have h7:2147483647 ∣ (1+t0).natAbs:=Nat.Coprime.dvd_of_dvd_mul_left (key _ (by omega) (by omega)) h6;have:=Nat.le_of_dvd (by omega) h7;omega
end Wz
namespace L2
open PySem PySem.Spec PyProof.Rows
theorem sH (xs:List V):j5 xs (some 1) none=xs.drop 1:=by
 unfold j5;rw[show HT.sIx xs.length 0 (some 1)=min 1 xs.length from HT.sIx_nat _ _ 1,HT.sIx_none]
 by_cases h:xs=[]
 ·subst h;rfl
 ·have:0<xs.length:=List.length_pos_iff.mpr h
  rw[show min 1 xs.length=1 by omega,List.take_of_length_le (by rw[yx];omega)]
open PySem PySem.Spec PyProof.Rows PySem.Calls
section
variable {X:Cx}{pins:List (Addr×Obj)}{σ:St}{H H':Hp}{s:Shared}
theorem am.grown {h':Heap}{t':Nat}(I:am X pins σ H s)(k:∀ b u,s.heap.get? b=some u->h'.get? b=some u)(old:∀ b u,s.heap.get? b=some u->H b=none->H' b=none)(sm:∀ b o,H b=some o->H' b=some o)
  (new:∀ b o,H' b=some o->H b=none->aX X.prog X.w H' h' b o):am X pins σ H' { s with heap:=h',toks:=t' }:=by
 refine I.un ⟨fun b u q _ _ _=>k b u q,fun b u q _ _ _=>⟨u.slots,k b u q⟩,fun b u q n _=>old b u q n,fun b u q _=>⟨u,k b u q⟩,fun b xs q=>sm _ _ q,fun b u xs q=>sm _ _ q,fun b ps q=>⟨#[],by rw[sm _ _ q];simp⟩⟩ fun b u e=>?_
 cases hb:H b with
 | none=>exact new b u e hb
 | some v =>
  have:=sm _ _ hb;rw[this]at e;cases e;exact (I.hok b _ hb).stay (fun c v _ q=>k c v q) (fun c q=>sm _ _ q) fun c xs q=>sm _ _ q
end
theorem sC:typeLookup (.type "zip") "__len__" = pure none:=by rw[typeLookup_type,builtinLookup_eq_fast];kernel_rfl
theorem ro:typeLookup (.type "zip") "__length_hint__" = pure none:=by rw[typeLookup_type,builtinLookup_eq_fast];kernel_rfl
abbrev rB (h:Heap)(z TI TO:Addr)(f0:Value)(b:Bool):Prop :=
 h.get? z=some { cls:=.type "zip",dict:=none,data:=.fields #[f0,.bool b,.bool false,.ref TI,.ref TO],slots:=#[] }
section
variable {prog:Program}{w:World}{A:Around}{E:Value->Shared->Prop}{s:Shared}
theorem lE {a:Addr}{Q:Option Obj->Shared->Prop}(h:Q (s.heap.get? a) s):wpAny (model prog w) A (loadIfAlive a) Q E s:=fun Γ p _=>by
 unfold loadIfAlive;rw[Sem.wp_loadIfAlive];exact xR (M:=model prog w) (A:=A) (E:=E) h Γ p (by assumption)
theorem lZ {z TI TO T:Addr}{b:Bool}{o:Obj}{Q:Bool->Shared->Prop}(hz:rB s.heap z TI TO (rawInt T) b)(hT:s.heap.get? T=some o)
  (hQ:∀ h',rB h' z TI TO (rawInt T) true->Heap.SameBut z s.heap h'->Q false { s with heap:=h' }):wpAny (model prog w) A (Builtin.SmallTypes.ownedTupleIsFree (.ref z)) Q E s:=by
 unfold Builtin.SmallTypes.ownedTupleIsFree;refine xO (yk hz rfl (x:=rawInt T) rfl ?_)
 show wpAny _ _ (loadIfAlive T >>= _) _ _ _
 refine xO (lE ?_);rw[hT]
 show wpAny _ _ (field (.ref z) 1 >>= _) _ _ _
 refine xO (yk hz rfl (x:=.bool b) rfl ?_)
 cases b with
 | true=>exact xO (xR (xR (hQ _ hz (by exact⟨rfl,fun _ _=>rfl⟩))))
 | false=>exact xO (wpAny_setField_rec hz (by simp) fun h1 hz1 hs1=>xR (hQ _ hz1 hs1))
end
def gd (H:Hp):List Addr->List (V×V)->Hp
 | [],_=>H
 | _,[]=>H
 | t::ts,p::ps=>aH (gd H ts ps) t (.tup [p.1,p.2])
theorem jC {H:Hp}:∀ {ts:List Addr}{ps:List (V×V)}{b:Addr},b∉ts->gd H ts ps b=H b
 | [],_,_,_=>rfl
 | _::_,[],_,_=>rfl
 | t::ts,p::ps,b,h=>by
  show aH (gd H ts ps) t _ b=_
  rw[ak (fun e=>h (by rw[e];exact xZ))];exact jC fun m=>h (xY _ m)
theorem ox {H:Hp}:∀ {ts:List Addr}{ps:List (V×V)}{b:Addr}{o:HO},ts.Nodup->b∈ts->gd H ts ps b=some o->H b=none->∃ j:Nat,∃ p,ts[j]? = some b/\ps[j]? = some p/\o=.tup [p.1,p.2]
 | [],_,_,_,_,h,_,_=>nomatch h
 | _::_,[],_,_,_,_,e,n=>by rw[show gd H (_::_) []=H from rfl,n]at e;cases e
 | t::ts,p::ps,b,o,nd,h,e,n=>by
  by_cases hb:b=t
  ·subst hb
   rw[show gd H (b::ts) (p::ps)=aH (gd H ts ps) b (.tup [p.1,p.2]) from rfl,aa]at e;exact⟨0,p,rfl,rfl,(ye e).symm⟩
  ·rw[show gd H (t::ts) (p::ps)=aH (gd H ts ps) t (.tup [p.1,p.2]) from rfl,ak hb]at e
   obtain⟨j,q,e1,e2,e3⟩:=ox (yV.mp nd).2 ((ya.mp h).resolve_left hb) e n;exact⟨j+1,q,e1,e2,e3⟩
theorem jD {H:Hp}:∀ {ts:List Addr}{ps:List (V×V)},ts.Nodup->ts.length=ps.length->Paired (fun t (p:V×V)=>gd H ts ps t=some (.tup [p.1,p.2])) ts ps
 | [],[],_,_=>.nil
 | [],_::_,_,h=>by simp at h
 | _::_,[],_,h=>by simp at h
 | t::ts,p::ps,nd,h=>by
  refine .cons (show aH (gd H ts ps) t (.tup [p.1,p.2]) t=_ from aa) ?_;have hn:=yV.mp nd
  have key:∀ {us:List Addr}{qs:List (V×V)}{R S:Addr->V×V->Prop},(∀ u∈us,∀ q,R u q->S u q)->Paired R us qs->Paired S us qs:=fun {us qs R S} hRS pr=>by
   induction pr with
   | nil=>exact .nil
   | cons r _ ih=>exact .cons (hRS _ xZ _ r) (ih fun u hu=>hRS u (xY _ hu))
  refine key (R:=fun t (p:V×V)=>gd H ts ps t=some (.tup [p.1,p.2])) (fun u hu q e=>?_) (jD (H:=H) hn.2 (by simpa using h))
  show aH (gd H ts ps) t _ u=_
  rw[ak (fun z=>hn.1 (by rw[<-z];exact hu))];exact e
end L2
namespace Wz
open PySem L2
theorem lJ (xs:List V)(n:Nat):j5 xs (some (n:Int)) none=xs.drop n:=by
 unfold j5;rw[HT.sIx_nat,HT.sIx_none]
 by_cases h:n<=xs.length
 ·rw[Nat.min_eq_left h,List.take_of_length_le (by rw[yx];exact xT _)]
 ·rw[Nat.min_eq_right (by omega),List.drop_length,List.drop_of_length_le (by omega)];simp
end Wz
namespace L2
open PySem PySem.Spec PyProof.Rows
theorem o9 {X:Cx}(hc:X.calm=true):dE X (.builtin "sum") (fun xs H Q=>∃ (p:Addr)(ns:List Int),xs=[.ref p]/\aT X.K H p (ns.map V.int)/\Q (.int ns.sum) H):=by
 intro pins s σ H xs us Q I r h;obtain⟨p,ns,rfl,hq,q⟩:=h;obtain⟨u,rfl,rx⟩:=eL r;cases rx;obtain⟨its,rv,pl,hz⟩:=I.list hq;have hl:=rv.length;rw[xP]at hl;refine call_sum_walkG (ig (xs:=ns.map V.int) I (I.ok.hd hc) pl fun I' St s2 hs2 hI W st kp fin=>?_)
 have val:∀ (i:Nat)(v:Value),its.toArray[i]? = some v->∃ t,v=.int (ns.getD i 0) t:=fun i v e=>by
  have e:its[i]? = some v:=by simpa using e
  have hi:i<ns.length:=by have:=(List.getElem?_eq_some_iff.mp e).1;omega
  obtain⟨u,eu,ru⟩:=rv.get (i:=i) (x:=V.int ns[i]) (by rw[List.getElem?_map,List.getElem?_eq_getElem hi];rfl);rw[e]at eu;cases eu;obtain⟨t,rfl⟩:=ru;exact⟨t,by rw[List.getD_eq_getElem?_getD,List.getElem?_eq_getElem hi];rfl⟩
 have hlt:p<s.heap.objs.size:=by obtain⟨o,n,e,_⟩:=pl;exact xQ e
 refine⟨I',_,_,_,_,St,(fun i=>ns.getD i 0),rfl,W,st,fun b hb=>?_,val,fun h' tk t' k=>⟨.int _,H,fin h' tk k,⟨t',rfl⟩,?_⟩⟩
 ·rcases ya.mp hb with z | z
  ·rw[z,hI,hs2];exact zj _
  ·rw[x6.mp z,hs2];exact zw hlt
 ·rw[preSum_getD,<-hl,yy];exact q
theorem sg {X:Cx}{pos:Pos}(K:PySem.W.Frag){es:List Expr}{k:Nat}{t:rq}{n:Nat}(hc:X.calm=true)(h:u6 X es t)(hK:X.K=K:=by rfl)
  (hn:(assignEach es X.env).length=n:=by rfl) (hst:(assignEach es X.env).findIdx? (·.1)=none:=by rfl):PG X (.Tuple es k pos) (vd K n t):=by
 subst hK;exact uA hc h hn hst
end L2
namespace Wz
open PySem L2
theorem mj {HH:Hp}{q t:Addr}{ds:List Addr}{ps:List (Int×Int)}{a b:Int}(h1:HH q=some (.lst (ds.map V.ref)))(h2:Paired (fun b (e:Int×Int)=>HH b=some (.tup [.int e.1,.int e.2])) ds ps)(ht:HH t=none) :
  cP (aH (aH HH t (.tup [.int a,.int b])) q (.lst (ds.map V.ref++[V.ref t]))) q (ps++[(a,b)]):=by
 refine⟨ds++[t],by rw[aa,x8];rfl,?_⟩;exact bf (Paired.mapP h2 fun b e y=>by rw[ak (sN y h1 (by intro u;cases u))];exact (af ht) _ _ y) (.cons (by rw[ak ((aL h1 ht).symm),aa]) .nil)
end Wz
namespace L2
open PySem
theorem bJ.m {j k:Nat}{A:Around}(r:bJ k A)(h:j<=k:=by decide):bJ j A:=r.mono h
theorem b9 {X:Cx}{e:Expr}{t:TE}(h:PE X e t)(hs:starEach [e] X.env=(false,eval e X.env)::starEach [] X.env:=by rfl):PA X [e] (g9 t kj):=aF h a8 hs
theorem dX {X:Cx}{e e2:Expr}{t t2:TE}(h:PE X e t)(h2:PE X e2 t2)(hs:starEach [e,e2] X.env=(false,eval e X.env)::starEach [e2] X.env:=by rfl)(hs2:starEach [e2] X.env=(false,eval e2 X.env)::starEach [] X.env:=by rfl):PA X [e,e2] (g9 t (g9 t2 kj)):=aF h (aF h2 a8 hs2) hs
theorem sP {X:Cx}{e e2 e3:Expr}{t t2 t3:TE}(h:PE X e t)(h2:PE X e2 t2)(h3:PE X e3 t3)(hs:starEach [e,e2,e3] X.env=(false,eval e X.env)::starEach [e2,e3] X.env:=by rfl)(hs2:starEach [e2,e3] X.env=(false,eval e2 X.env)::starEach [e3] X.env:=by rfl)(hs3:starEach [e3] X.env=(false,eval e3 X.env)::starEach [] X.env:=by rfl):PA X [e,e2,e3] (g9 t (g9 t2 (g9 t3 kj))):=aF h (aF h2 (aF h3 a8 hs3) hs2) hs
theorem aK {X:Cx}{pos:Pos}(i:Nat){x:Str}{e:Expr}{te:TE}{pos':Pos}(hN:X.N.Nodup)(he:PE X e te)(hi:X.N[i]? = some x:=by rfl)(hx:tK X.env.scope x:=by first | exact Or.inl rfl | exact Or.inr rfl)(hs:swapsWith e (some (.Name x pos')) pos.line X.env=pure false:=by rfl)(hf:X.fn x=true\/X.env.scope.names.lookup x=some .local:=by first | exact .inl rfl | exact .inr rfl | assumption) :
  PS X (.Assign [.Name x pos'] e pos) (uF te (iL i)):=cY hN hi hx he hs hf
theorem jd {X:Cx}{pos:Pos}(i:Nat){x:Str}(hN:X.N.Nodup)(hi:X.N[i]? = some x:=by rfl)(hx:tK X.env.scope x:=by first | exact Or.inl rfl | exact Or.inr rfl)(hf:X.fn x=true\/X.env.scope.names.lookup x=some .local:=by first | exact .inl rfl | exact .inr rfl | assumption):PG X (.Name x pos) (iL i):=lg hN hi hx hf
theorem pe {so sc:Scope}{N N':List Str}{src:List (Option Nat)}(a:sc.kind=.function:=by rfl)(b:∀ y∈sc.names,y.2≠.cell:=by decide +kernel)(c:∀ y∈sc.names,y.2=.local->sc.names.lookup y.1=some .local:=by decide +kernel)(d:∀ y∈sc.names,y.2=.free->so.names.lookup y.1=some .cell\/so.names.lookup y.1=some .free:=by decide +kernel)(e:N'.Nodup:=by decide +kernel)(f:src.length=N'.length:=by rfl)
  (g:∀ p∈N'.zip src,(match p.2 with | none=>true | some j=>decide (N[j]? = some p.1/\sc.names.lookup p.1=some .free))=true:=by decide +kernel):nY so sc N N' src:=⟨a,b,c,d,e,f,g⟩
theorem gC {N P:List Str}{sc:Scope}(a:sc.kind=.function:=by rfl)(b:sc.isCoroutine=false:=by rfl)(c:sc.isGenerator=false:=by rfl)(d:N.Nodup:=by decide +kernel)(e:N.take P.length=P:=by rfl)(f:∀ x∈P,sc.names.lookup x=some .local\/sc.names.lookup x=some .cell:=by decide +kernel)(g:∀ y∈sc.names,y.2≠.free:=by decide +kernel):aC N P sc:=⟨a,b,c,d,e,f,g⟩
end L2
namespace Wz
open PySem L2
def aY (K:PySem.W.Frag)(x:Str)(st:Stmt):Prop:=∃ (f:Addr)(fd:FuncData),PySem.W.nsIn K mainGlobals x=some (some (.ref f))/\dS K x x st f fd
theorem fact_mk {K:PySem.W.Frag}{x:Str}{st:Stmt}{f:Addr}{oc:Value}{od an:Option Addr}{osl:Array (Option Value)}{kV doc pm cdv ct:Value}(a:PySem.W.nsIn K mainGlobals x=some (some (.ref f)))(l:K.lookup f=some ⟨oc,od,.func (PySem.W.fnOf x x (db st) (cz st) (ah st) .none kV doc pm an cdv ct),osl⟩)
  (c:PySem.W.codeIn K cdv x=true) (k:PySem.W.keepIn K (.ref f)=true):aY K x st:=⟨f,_,a,qg l c k⟩
def dZ (K:PySem.W.Frag)(C:Addr)(m q:Str)(st:Stmt):Prop:=∃ (f:Addr)(fd:FuncData),PySem.W.findIn K (.ref C) m=some (some (.ref f))/\PySem.W.isFn K (.ref f)=true/\dS K m q st f fd
theorem mfact_mk {K:PySem.W.Frag}{C:Addr}{m q:Str}{st:Stmt}{f:Addr}{oc:Value}{od an:Option Addr}{osl:Array (Option Value)}{kV doc pm cdv ct:Value}(a:PySem.W.findIn K (.ref C) m=some (some (.ref f)))(i:PySem.W.isFn K (.ref f)=true)(l:K.lookup f=some ⟨oc,od,.func (PySem.W.fnOf m q (db st) (cz st) (ah st) .none kV doc pm an cdv ct),osl⟩)
  (c:PySem.W.codeIn K cdv q=true) (k:PySem.W.keepIn K (.ref f)=true):dZ K C m q st:=⟨f,_,a,i,qg l c k⟩
section
variable {P:Program}{w:World}{K:PySem.W.Frag}{h base:Heap}{mg:Str->Option Value}{x m q:Str}{st:Stmt}{k:Nat}{ps:List Str}{sp:Sp}{C:Addr}{CX:mG}
theorem vY {n:Nat}{P:List Value->Prop}(h:∀ (a:Value)(vs:List Value),vs.length=n->P (a::vs)):∀ us:List Value,us.length=n+1->P us
 | a::vs,e=>h a vs (Nat.succ.inj e)
theorem vX {P:List Value->Prop}(h:P []):∀ us:List Value,us.length=0->P us
 | [],_=>h
theorem j7 (X:K.In h)(G:h.Ns mainGlobals mg)(F:aY K x st)(ok:∀ f fd,dS K x x st f fd->a9 P w K mg base dD k f fd ps sp)
  (hb:∀ (kV doc pm:Value)(an:Option Addr)(cdv ct:Value)(us:List Value),us.length=ps.length->bindArgs (PySem.W.fnOf x x (db st) (cz st) (ah st) .none kV doc pm an cdv ct) ⟨us,[]⟩=pure (ps.zip us):=by intro _ _ _ _ _ _;(repeat refine vY fun _=>?_);exact vX rfl):ax P w K mg base x k ps sp:=by
 obtain⟨f,fd,a,g⟩:=F;exact⟨f,fd,ok f fd g,yP X G a,g.kp,g.binds hb⟩
theorem xB (X:K.In h)(G:h.Ns mainGlobals mg)(F:aY K x st)(ok:∀ f fd,dS K x x st f fd->a9 P w K mg base (hW P w) k f fd ps sp)
  (hb:∀ (kV doc pm:Value)(an:Option Addr)(cdv ct:Value)(us:List Value),us.length=ps.length->bindArgs (PySem.W.fnOf x x (db st) (cz st) (ah st) .none kV doc pm an cdv ct) ⟨us,[]⟩=pure (ps.zip us):=by intro _ _ _ _ _ _;(repeat refine vY fun _=>?_);exact vX rfl):i6 P w K mg base x k ps sp:=by
 obtain⟨f,fd,a,g⟩:=F;exact⟨f,fd,ok f fd g,yP X G a,g.kp,g.binds hb⟩
theorem rY (F:dZ K C m q st)(ok:∀ f fd,dS K m q st f fd->a9 P w K mg base CX k f fd ps sp)
  (hb:∀ (kV doc pm:Value)(an:Option Addr)(cdv ct:Value)(us:List Value),us.length=ps.length->bindArgs (PySem.W.fnOf m q (db st) (cz st) (ah st) .none kV doc pm an cdv ct) ⟨us,[]⟩=pure (ps.zip us):=by intro _ _ _ _ _ _;(repeat refine vY fun _=>?_);exact vX rfl):aP P w K mg base CX C m k ps sp:=by
 obtain⟨f,fd,a,i,g⟩:=F;exact⟨f,fd,ok f fd g,⟨a,i,g.kp⟩,g.binds hb⟩
end
end Wz
namespace L2
open PySem PySem.Spec PyProof.Rows
theorem sj {X:Cx}{tg:Expr}(K:PySem.W.Frag){l:Expr}{tl:TE}(hl:PE X l tl)(hK:X.K=K:=by rfl):PI X tg l (vi K tl):=by subst hK;exact jS hl
end L2
namespace PySem
open Sem (wp)
section
variable {M:Model}{A:Around}{E:Value->Shared->Prop}{s:Shared}{env:Env}
def uS (M:Model)(A:Around)(E:Value->Shared->Prop)(use:Option (Value->Sem Unit))(Q:Value->Shared->Prop)(acc:Value)(C:Addr)(fr:Option Addr)(r:Result)(s':Shared):Prop :=
 match r,use with
 | .ok _,none=>∃ m,s'.heap.Ns C m/\∀ h',Heap.SameBut C s'.heap h'->Q acc { s' with heap:=h' }
 | .ok _,some u=>wpAny M A (u acc) (fun _ s''=>∃ m,s''.heap.Ns C m/\∀ h',Heap.SameBut C s''.heap h'->Q .none { s'' with heap:=h' }) E s'
 | .error x,_=>∃ m,s'.heap.Ns C m/\∀ h',Heap.SameBut C s'.heap h'->∀ cenv:Env,cenv.frame=fr->wpAny M A (passOn "comprehension.variables-let-go" x cenv:Sem Value) (fun _ _=>False) E { s' with heap:=h' }
end
end PySem
namespace L2
open PySem PySem.Spec PyProof.Rows
def lF (CX:mG)(X:Cx)(σ:St)(E:XK):Prop:=∀ (pins:List (Addr×Obj))(H:Hp)(s:Shared)(e:Value)(s':Shared),am X pins σ H s->CX X.stack H s E e s'->X.xe e s'
def xi (X:Cx)(pins:List (Addr×Obj))(E:St->XK)(e:Value)(s':Shared):Prop:=∃ (σ:St)(H:Hp)(ea C:Addr)(od:Option Addr)(B:Heap),e=.ref ea/\tI X pins σ H ea C od B s'/\gr B X.stack ea (.ref C) od s'.heap/\σ.length=X.N.length/\E σ (.ref C) od H
theorem qA {X:Cx}{pins:List (Addr×Obj)}{E:St->XK}(σ:St):lF (hW X.prog X.w) (X.tried pins (xi X pins E)) σ (E σ):=by
 intro qins H s e s' I hc;obtain⟨ea,C,od,H',B,rfl,fl,un,hok,os,bare,hsB,trB,hE⟩:=hc;exact⟨σ,H',ea,C,od,B,rfl,rV I.untried fl un hok os bare hsB trB,fl,I.len,hE⟩
theorem oF {X:Cx}{b0:Stmt}{bs:List Stmt}{hd0:ExceptHandler}{hdl:List ExceptHandler}{tb:(St->XK)->TS}{th:Value->Option Addr->TS}{pos:Pos}
  (hst:X.stack=X.env::X.outer) (hfr:X.env.frame=some X.env.locals) (hb:∀ pins E,mH (X.tried pins (xi X pins E)) (b0::bs) (tb E)) (hh:vS X (hd0::hdl) th) :
  PS X (.Try (b0::bs) (hd0::hdl) [] [] pos) (fun D σ H=>tb (fun σ' cls od H2=>th cls od D σ' H2) D σ H):=by
 intro pins s σ H D I h;refine wpAny_Try_except ?_;refine yh (hb pins _ [] s σ H D I.tried h) (fun f s1 hq=>?_) fun e s' hx=>?_
 ·cases f with
  | next=>obtain⟨σ',H',I1,q⟩:=hq;exact wpAny_execs_nil ⟨σ',H',I1.untried,q⟩
  | brk=>obtain⟨σ',H',I1,q⟩:=hq;exact⟨σ',H',I1.untried,q⟩
  | cont=>obtain⟨σ',H',I1,q⟩:=hq;exact⟨σ',H',I1.untried,q⟩
  | ret u=>obtain⟨v,σ',H',I1,r,q⟩:=hq;exact⟨v,σ',H',I1.untried,r,q⟩
 ·obtain⟨σ',H',ea,C,od,B,rfl,ld,fl,hl,hE⟩:=hx
  have fl':=fl;rw[hst]at fl';refine pC (by rw[I.ok.frames,hst]) hfr fl' fun h4 held ups4=>?_;refine uf held fun h5 fl5 ups5=>?_;rw[<-hst]at fl5;exact hh pins σ' H' D ea C od B s' h5 ld fl5 (ups4.trans ups5) hE
end L2
namespace Wz
open PySem L2
theorem qO {X:Cx}{k:Nat}{C:Addr}{ps:List Str}{sp:Sp}{E:St->XK}{m:Str}{pos apos:Pos}{e o:Expr}{es:List Expr}{ta:TE}{t:TA}{pl:Sem Bool}(M:aP X.prog X.w X.K X.mg X.base (hW X.prog X.w) C m k ps sp)(ho:PE X o ta)(c:nX X.K C)(hr:bJ k X.A)(hx:∀ σ,lF (hW X.prog X.w) X σ (E σ))(ha:PA X (e::es) t)
  (hst:starEach (e::es) X.env=(false,eval e X.env)::starEach es X.env:=by rfl) (hpl:(backTo pos (starEach es X.env)).any (·.1)=false:=by rfl)
  (ht:eval (.Call (.Attribute o m apos) (e::es) [] pos) X.env=(do
   let ov <-eval o X.env
   standAt apos.atName
   let (f,first) <-holding [ov] (getMethod ov m pl)
   callWith pos f first (backTo pos (starEach (e::es) X.env)) (backToKw pos (keywordEach [] X.env))):=by rfl) :
  PE X (.Call (.Attribute o m apos) (e::es) [] pos) (fun σ H Q=>mv C m sp [] (E σ) ta t σ H Q):=by
 obtain⟨f,fd,F,hm,hb⟩:=M;intro pins s σ H Q I h;refine PySem.W.methodCall_KW (pl:=pl) (aU (ho pins s σ H _ I h) fun u s1 ⟨x,H1,I1,rx,a,dx,fs,ex,ea,l,q⟩=>?_) ht;subst ex;obtain rfl:u=Value.ref a:=rx;refine gc I1 ea c hm l ?_;refine PySem.W.callWith_K (first:=[.ref a]) (h₀:=X.base) I.ok.mod.kin hm.kp (aU (ha pos pins s1 σ H1 _ I1 q) fun us s2 ⟨vs,H2,I2,r,q2⟩=>⟨I2.kIn,?_⟩) hst hpl;have r2:Vals ((.ref a::vs)++[]) ((.ref a::us)++[]):=Vals.append (show Vals (V.ref a::vs) (Value.ref a::us) from .cons rfl r) .nil
 have hl:((.ref a::us)++[]:List Value).length=ps.length:=by rw[<-r2.length];exact F.len _ _ _ _ q2
 refine wpAny_call (zy (F.run X.A X.stack s2 H2 ⟨.ref a::us,[]⟩ ((.ref a::us)++[]) ((.ref a::vs)++[]) Q (E σ) hr I2.env0 (hb s2 (.ref a::us) I2.kIn hl) r2 q2) fun r s' hq=>?_)
 cases r with
 | error e=>exact hx σ pins H2 s2 e s' I2 hq
 | ok fl =>
  cases fl with
  | ret u=>exact I2.after hq
  | next=>exact False.elim hq
  | brk=>exact False.elim hq
  | cont=>exact False.elim hq
end Wz
set_option maxRecDepth 1000000
set_option maxHeartbeats 8000000
namespace Wz
open PySem L2
theorem gm {P:St->Hp->Prop}{G:Prop}(C:St->Hp->Prop)(main:(∀ σ HH,C σ HH->P σ HH)->G)(key:∀ σ HH,C σ HH->P σ HH):G:=main key
end Wz
set_option maxRecDepth 1000000
set_option maxHeartbeats 8000000
namespace Wz
open PySem PySem.Spec PyProof.Rows L2 PySem.SetTable
section
variable {X:Cx}
theorem hZ:∀ (l acc:List Int),acc.Nodup->(l.foldl step_dedup acc).length<=acc.length+l.length/\((l.foldl step_dedup acc).length=acc.length+l.length↔(acc++l).Nodup)
 | [],acc,nd=>by simp[nd]
 | x::l,acc,nd=>by
  rw[List.foldl_cons]
  by_cases hx:x∈acc
  ·have e:step_dedup acc x=acc:=by unfold step_dedup;rw[x4 (by simpa using hx)]
   rw[e];obtain⟨h1,h2⟩:=hZ l acc nd;rw[yt];refine⟨by omega,⟨fun z=>by omega,fun z=>?_⟩⟩;rw[zx]at z;exact absurd rfl (z.2.2 x hx x xZ)
  ·have e:step_dedup acc x=acc++[x]:=by unfold step_dedup;rw[xV (by simpa using hx)]
   rw[e];obtain⟨h1,h2⟩:=hZ l (acc++[x]) (zx.mpr ⟨nd,by simp,fun a ha b hb z=>hx (by rw[<-x6.mp hb,<-z];exact ha)⟩);rw[x3,yr]at h1 h2;rw[yt,show acc.length+(l.length+1)=acc.length+1+l.length by omega,h2,zv];exact⟨h1,Iff.rfl⟩
theorem o8 (hc:X.calm=true):dE X (.type "set") (fun xs H Q=>∃ (p:Addr)(ns:List Int),xs=[.ref p]/\aT X.K H p (ns.map V.int)/\ns.length<=1000/\∀ l S (n:Nat),H l=none->n<=ns.length->(n=ns.length↔ns.Nodup)->Q (.ref l) (aH H l (.set S n))):=by
 intro pins s σ H xs us Q I r h;obtain⟨p,ns,rfl,hq,hz,q⟩:=h;obtain⟨u,rfl,rx⟩:=eL r;cases rx;obtain⟨its,rv,pl,_⟩:=I.list hq;have hl:=rv.length;rw[xP]at hl;refine call_set_list (I.ok.hd hc) pl.isList (ns:=ns) (by simpa using gD rv) (by rw[xW,<-hl];exact Nat.lt_of_le_of_lt (Nat.succ_le_succ hz) (by decide)) fun h' tk hS hk=>?_
 have en:(firstMet (fun i=>ns.getD i 0) its.toArray.size)=ns.foldl step_dedup []:=by
  unfold firstMet;rw[xW,<-hl,mW]
 rw[en]at hS;obtain⟨d1,d2⟩:=hZ ns [] List.nodup_nil;refine⟨.ref s.heap.objs.size,_,I.laid (t':=tk) (o:=.set _ (ns.foldl step_dedup []).length) (fun b u e=>hk b u (xQ e) e) (xT _) (show aX X.prog X.w _ _ _ (.set _ (ns.foldl step_dedup []).length) from hS),rfl,q _ _ _ (I.hok.fresh (xT _)) (by simpa using d1) (by simpa using d2)⟩
end
open PySem L2
structure xv (K:PySem.W.Frag)(mg:Str->Option Value)(o:Addr):Prop where
 e:dL K o
 m:mg "Same" = some (.ref o)
 x:PySem.W.exmOne K (.ref o) (.ref o)=some true
def sR (a b c d:Int):List (Int×Int):=[(a,b),(c,d),(a,c),(b,d),(a,d),(b,c)]
inductive jk (co:Addr) (vs:List V) (H:Hp) (Q:VK) (E:XK):Prop
 | mk (a b c d:Int) (h_0:vs=[.int a,.int b,.int c,.int d]) (h_1:([a,b,c,d].Nodup->∀ (l:Addr)(H':Hp),H l=none->ay H H'->cP H' l (sR a b c d)->Q (.ref l) H')) (h_2:(¬ [a,b,c,d].Nodup->∀ H',ay H H'->E (.ref co) none H')):jk co vs H Q E
end Wz
namespace Tm
open PySem PyProof.Rows
def el (xs:Array Keyed)(i:Nat):Keyed:=xs.getD i (.none,.none)
structure xL (P:Program)(w:World)(A:Around)(s:Shared)(κ:SortKind)(a0:Array Keyed)(lt:Keyed->Keyed->Bool):Prop where
 cmp:∀ {x y:Keyed}{E:Value->Shared->Prop}{Q:Bool->Prop},x∈a0->y∈a0->Q (lt x y)->wpAny (model P w) A (keyLt' κ x.1 y.1) (fun b s'=>s'=s/\Q b) E s
 irr:∀ x,lt x x=false
 tr:∀ x y z,lt x y=true->lt y z=true->lt x z=true
 tot:∀ x y,x∈a0->y∈a0->x≠y->lt x y=true\/lt y x=true
 nd:a0.toList.Nodup
structure xu (κ:SortKind)(a0:Array Keyed)(st:SortSt):Prop where
 pm:(arrOf st).Perm a0
 fl:failedOf st=none
 kd:kindOf st=κ
section
variable {P:Program}{w:World}{A:Around}{E:Value->Shared->Prop}{s:Shared}{κ:SortKind}{a0:Array Keyed}{lt:Keyed->Keyed->Bool}{st:SortSt}
def Up (lt:Keyed->Keyed->Bool)(xs:Array Keyed)(lo hi:Nat):Prop:=∀ i j,lo<=i->i<j->j<hi->lt (el xs i) (el xs j)=true
def Dn (lt:Keyed->Keyed->Bool)(xs:Array Keyed)(lo hi:Nat):Prop:=∀ i j,lo<=i->i<j->j<hi->lt (el xs j) (el xs i)=true
def xK (xs ys:Array Keyed)(lo hi:Nat):Prop:=∀ i,i<lo\/hi<=i->el ys i=el xs i
def xy (st st':SortSt):Prop:=pendingOf st'=pendingOf st/\gallopOf st'=gallopOf st
end
def vW:Bool->Keyed->Array Keyed->Nat->Nat->Nat->StateT SortSt Sem (Option Nat):=sortPriv% PySem.Builtin.gallop
def Bf (lt:Keyed->Keyed->Bool)(left:Bool)(key:Keyed)(xs:Array Keyed)(b i:Nat):Bool:=if left=true then lt (el xs (b+i)) key else !lt key (el xs (b+i))
def Fn (R:Keyed->Keyed->Prop)(T r:List Keyed):Prop:=r.Perm T/\r.Pairwise R
structure J (R:Keyed->Keyed->Prop)(T out ra rb:List Keyed):Prop where
 pm:(out++(ra++rb)).Perm T
 so:out.Pairwise R
 oa:∀ x,x∈out->∀ y,y∈ra->R x y
 ob:∀ x,x∈out->∀ y,y∈rb->R x y
 sa:ra.Pairwise R
 sb:rb.Pairwise R
 la:∀ x,x∈rb->∀ z,ra.getLast? = some z->R x z
def vm:Array Keyed->Array Keyed->StateT SortSt Sem (Array Keyed):=sortPriv% PySem.Builtin.mergeLo
def rA:Nat->StateT SortSt Sem Unit:=sortPriv% PySem.Builtin.setMinGallop
structure xN (a0:Array Keyed)(lt:Keyed->Keyed->Bool)(a b:Array Keyed):Prop where
 ma:∀ i,i<a.size->el a i∈a0
 mb:∀ i,i<b.size->el b i∈a0
 ne:∀ i j,i<a.size->j<b.size->el a i≠el b j
 ua:Up lt a 0 a.size
 ub:Up lt b 0 b.size
 za:0<a.size
 zb:0<b.size
 h0:lt (el b 0) (el a 0)=true
 hl:lt (el b (b.size-1)) (el a (a.size-1))=true
def ay (st st':SortSt):Prop:=arrOf st'=arrOf st/\failedOf st'=failedOf st/\kindOf st'=kindOf st/\pendingOf st'=pendingOf st
def Jl (lt:Keyed->Keyed->Bool)(a b:Array Keyed)(out:Array Keyed)(ia ib:Nat):Prop:=J (fun x y=>lt x y=true) (a.toList++b.toList) out.toList (a.toList.drop ia) (b.toList.drop ib)
def Sl (lt:Keyed->Keyed->Bool)(a b:Array Keyed)(n:Nat)(r:Option (Array Keyed))(out:Array Keyed)(ia ib:Nat):Prop :=
 (∃ q,r=some q/\Fn (fun x y=>lt x y=true) (a.toList++b.toList) q.toList)\/(r=none/\Jl lt a b out ia ib/\ia+1<a.size/\ib<b.size/\n<=out.size)
def vk:Array Keyed->Array Keyed->StateT SortSt Sem (Array Keyed):=sortPriv% PySem.Builtin.mergeHi
def Jh (lt:Keyed->Keyed->Bool)(a b:Array Keyed)(out:Array Keyed)(na nb:Nat):Prop:=J (fun x y=>lt y x=true) (a.toList++b.toList) out.toList (b.toList.take nb).reverse (a.toList.take na).reverse
def Sh (lt:Keyed->Keyed->Bool)(a b:Array Keyed)(n:Nat)(r:Option (Array Keyed))(out:Array Keyed)(na nb:Nat):Prop :=
 (∃ q,r=some q/\Fn (fun x y=>lt x y=true) (a.toList++b.toList) q.toList)\/(r=none/\Jh lt a b out na nb/\0<na/\na<a.size/\1<nb/\nb<=b.size/\n<=out.size)
def back (q:Nat)(m arr:Array Keyed):Array Keyed:=m.toList.zipIdx.foldl (fun a (p,j)=>a.setIfInBounds (q+j) p) arr
def Ch (lt:Keyed->Keyed->Bool)(xs:Array Keyed):Nat->List (Nat×Nat×Nat)->Nat->Prop
 | f,[],u=>f=u
 | f,t::r,u=>t.1=f/\1<=t.2.1/\Up lt xs f (f+t.2.1)/\Ch lt xs (f+t.2.1) r u
end Tm
namespace Qs
open PySem PySem.W PyProof.Rows
open Classical in
noncomputable def dec (h:Heap) (v:Value):Int×Int:=if z:∃ p,tM h v p then choose z else (0,0)
end Qs
namespace L2
open PySem PySem.Spec PyProof.Rows
inductive vx (K:PySem.W.Frag) (n:Nat) (neg:Bool) (x:V) (y:V) (H:Hp) (Q:VK):Prop
 | mk (p:Addr) (as:List Addr) (d:Dt) (ds:List Dt) (h_0:y=.ref p) (h_1:(aT K H p (as.map V.ref)\/aI K H p (as.map V.ref))) (h_2:RD K H n x d) (h_3:Paired (fun (a:Addr)(e:Dt)=>RD K H n (.ref a) e) as ds) (h_4:∀ k:Bool,(k=true↔d∈ds)->Q (.bl (if neg then !k else k)) H):vx K n neg x y H Q
section
variable {X:Cx}
open Classical in
theorem kQ {pins:List (Addr×Obj)}{σ:St}{H:Hp}{s:Shared}{n:Nat}{A:Around}{x:V}{v:Value}{d:Dt}(I:am X pins σ H s)(hu:A.units+n<cLine+1)(rx:aD x v)(hx:RD X.K H n x d) :
  ∀ {as:List Addr}{ds:List Dt}{us:List Value},Paired (fun (a:Addr)(e:Dt)=>RD X.K H n (.ref a) e) as ds->Vals (as.map V.ref) us ->
  (∀ u∈us,SeqAt.EqAt A s u v (decide (∃ a,u=.ref a/\RD X.K H n (.ref a) d)))/\(us.any (fun u=>decide (∃ a,u=.ref a/\RD X.K H n (.ref a) d))=true↔d∈ds)
 | _,_,us,.nil,r=>by
  cases r;exact⟨(fun u hu=>(by cases hu)),(by simp)⟩
 | a::as,e::ds,us,.cons he hp,r=>by
  cases r with
  | cons r1 r2 =>
   rename_i u us
   cases r1;obtain⟨ih1,ih2⟩:=kQ I hu rx hx hp r2;obtain⟨k,hk,ek⟩:=mP I n hu he hx (show aD (.ref a) (.ref a) from rfl) rx
   have kk:decide (∃ b,Value.ref a=.ref b/\RD X.K H n (.ref b) d)=k:=by
    by_cases z:e=d
    ·rw[hk.mpr z]
     exact xX ⟨a,rfl,z▸he⟩
    ·have:k=false:=by cases k with
      | false=>rfl
      | true=>exact absurd (hk.mp rfl) z
     rw[this];refine xS fun ⟨b,eb,hb⟩=>z ?_;cases eb;exact RD.inj I he hb
   refine⟨fun w hw=>?_,?_⟩
   ·rcases ya.mp hw with rfl | hw
    ·rw[kk];exact ek
    ·exact ih1 w hw
   ·rw[zm,kk,Bool.or_eq_true,ih2,ya,hk]
    exact⟨fun z=>z.imp (fun y=>y.symm) id,fun z=>z.imp (fun y=>y.symm) id⟩
end
def mE (x:Str):Prop:=x.cps.all (· < 128)=true
def uR (x:Str):It :=
 ⟨fun i _=>i<x.cps.toList.length,fun i H v H'=>H'=H/\∃ c,x.cps.toList[i]? = some c/\v=.str ⟨#[c]⟩,fun i _=>x.cps.toList.length<=i⟩
theorem rg {P:Program}{w:World}{K:PySem.W.Frag}{tg:Expr}(x:Str)(t:Tok)(it:Addr):lG P w K tg (uR x) [it] it (fun i h=>h.IsStrIter it "str_ascii_iterator" x t i) where
 mem:=by simp
 obj:=fun i h st b hb=>by
  have e:b=it:=by simpa using hb
  subst e;obtain⟨o,e,c,d⟩:=st;exact⟨o,e,fun v z=>by rw[d]at z;cases z⟩
 keep:=fun i h h' ⟨o,e,r⟩ k=>⟨o,k it (by simp) o e,r⟩
 item:=by
  intro X hP hw hK hc i pins s σ H E I hf st hg;subst hP hw hK;have hg:i<x.cps.toList.length:=hg;obtain⟨f0,f1,f2,f3,f4,f5⟩:=hf it (by simp)
  have hx:x.cps[i]? = some x.cps.toList[i]:=by simp
  refine wpAny_pyNext_ascii_item st hx fun h' st' sb=>?_;have I1:am X pins σ H { s with heap:=h',toks:=s.toks+1 }:=I.turned (t':=s.toks+1) (fun b o hb e=>(sb.2 b hb).trans e) f0 f1 f3 f4 f5;obtain⟨o,e,c,d⟩:=id st';exact⟨_,rfl,lL (s:={ s with heap:=h',toks:=s.toks+1 }) e c d (by decide) ⟨.str ⟨#[x.cps.toList[i]]⟩,H,I1,⟨_,rfl⟩,⟨rfl,_,List.getElem?_eq_getElem hg,rfl⟩,st',fun b hb=>(hf b hb).1⟩⟩
 done:=by
  intro X hP hw hK hc i pins s σ H E I hf st hg;subst hP hw hK;have hg:x.cps.toList.length<=i:=hg;obtain⟨f0,f1,f2,f3,f4,f5⟩:=hf it (by simp);refine wpAny_pyNext_ascii_end (I.ok.hd hc) st (by rw[Array.getElem?_eq_none];simpa using hg) fun h' eb=>⟨rfl,I.turned (t':=s.toks) (fun b o hb e=>eb b o hb e) f0 f1 f3 f4 f5⟩
 self:=fun _ _ _ _ _ st h=>wpAny_pyIter_striter_ascii st h
def wz (t:TE):TI:=fun σ H R=>t σ H fun v H1=>∃ x,v=.str x/\mE x/\R (uR x) H1
theorem qK {X:Cx}{tg l:Expr}{tl:TE}(hl:PE X l tl):PI X tg l (wz tl):=by
 intro pins s σ H R I h;refine aU (hl pins s σ H _ I h) fun v s1 ⟨y,H1,I1,r1,x,e,ha,q⟩=>?_;subst e;obtain⟨t,rfl⟩:=r1;refine wpAny_pyIter_ascii ha ?_;refine⟨s1.heap.objs.size,[s1.heap.objs.size],_,_,H1,rfl,I1.kept (t':=s1.toks) fun b o e=>Heap.get?_push_of_some _ e,rg x t _,⟨_,Heap.get?_push_size _ rfl,rfl,rfl⟩,fun b hb=>?_,q⟩
 have e:b=s1.heap.objs.size:=by simpa using hb
 subst e;exact I1.fpOk (xT _) (I1.hok.fresh (xT _))
theorem rP {x:Str}{g:TG}{tb:TS}{D:fL}{σ:St}{H:Hp}(Pv:Nat->St->Hp->Prop)(h0:Pv 0 σ H)
  (hs:∀ i c σ H,x.cps.toList[i]? = some c->Pv i σ H->g (.str ⟨#[c]⟩) σ H fun σ2 H2=>tb { D with nx:=Pv (i+1),ct:=Pv (i+1),bk:=D.nx } σ2 H2) (hd:∀ σ H,Pv x.cps.toList.length σ H->D.nx σ H) :
  ∃ W:Nat->Nat->St->Hp->Prop,(∃ m,W 0 m σ H)/\∀ i m σ H,W i m σ H ->
   ((uR x).stop i H/\D.nx σ H)\/((uR x).go i H/\∃ N:St->Hp->Prop,(∀ σ' H',N σ' H'->∃ m',m'<m/\W (i+1) m' σ' H')/\∀ v H',(uR x).yld i H v H'->g v σ H' fun σ2 H2=>tb { D with nx:=N,ct:=N,bk:=D.nx } σ2 H2):=by
 generalize hl:x.cps.toList.length=n at hd;refine⟨fun i m σ H=>m=n-i/\i<=n/\Pv i σ H,⟨n,by simp,yg _,h0⟩,?_⟩;rintro i m σ H ⟨rfl,hi,p⟩
 by_cases hlt:i<n
 ·refine .inr ⟨show i<x.cps.toList.length by omega,Pv (i+1),fun σ' H' p'=>⟨n-(i+1),by omega,rfl,hlt,p'⟩,fun v H' y=>?_⟩
  obtain⟨e,c,hc,e2⟩:=y;subst e e2;exact hs i c σ _ hc p
 ·have e:i=n:=by omega
  subst e;exact .inl ⟨show x.cps.toList.length<=i by omega,hd σ H p⟩
theorem jR {X:Cx}{x:Str}{v:V}{pos:Pos}(hg:Gl X x)(hm:∃ u,X.mg x=some u/\aD v u)(hd:(x == ("__debug__" : Str))=false:=by decide):PE X (.Name x pos) (tC v):=by
 obtain⟨u,hm,r⟩:=hm;exact oC hg hm r hd
end L2
namespace Wz
open PySem L2
theorem kH {te:TE}{Qf:Hp->Prop}{x:Str}{q:Addr}{f:Nat->Bool}{rest:L2.St}{H:Hp}(hq:H q=none)(hlen:x.cps.toList.length<=1000)
  (ht:∀ (c:Nat)(HK:Hp)(Q':VK),ay H HK->(∀ H5,ay HK H5->Q' (.bl (f c)) H5)->te (some (.str ⟨#[c]⟩)::rest) HK Q') (k:∀ (HK:Hp),ay H HK->HK q=some (.lst ((x.cps.toList.map f).map V.bl))->Qf HK) :
  iH (uR x) (iL 0) (sA mw te q) { nx:=fun _ H'=>Qf H',rt:=fun _ _=>False } (none::rest) (aH H q (.lst [])):=by
 refine rP (fun i σ HK=>∃ v:Option V,σ=v::rest/\ay H HK/\HK q=some (.lst (((x.cps.toList.take i).map f).map V.bl))) ⟨none,rfl,af hq,aa⟩ ?_ ?_
 ·rintro i c σ HK hi ⟨v,rfl,t1,hq2⟩
  have hil:i<x.cps.toList.length:=(List.getElem?_eq_some_iff.mp hi).1;refine cO (ht c HK _ t1 fun H5 s5=>⟨_,s5 _ _ hq2,by rw[xP,xP,yu];exact cx (by omega),_,rfl,bF (t1.trans s5) hq,?_⟩);rw[aa,yH,hi,yz,x8,x8];rfl
 ·rintro σ HK ⟨v,rfl,t1,hq2⟩
  rw[yy]at hq2;exact k HK t1 hq2
theorem ii {K:PySem.W.Frag}{te:TE}{Qf:Hp->Prop}{lr q:Addr}{α:Type}(g:α->V){rs:List α}{f:α->V}{rest:L2.St}{H:Hp}(hq:H q=none)(h1:H lr=some (.lst (rs.map g)))(hlen:rs.length<=1000)
  (ht:∀ (r:α)(HK:Hp)(Q':VK),r∈rs->ay H HK->(∀ H5,ay HK H5->Q' (f r) H5)->te (some (g r)::rest) HK Q') (k:∀ (HK:Hp),ay H HK->HK q=some (.lst (rs.map f))->Qf HK) :
  iH (tH K lr) (iL 0) (sA mw te q) { nx:=fun _ H'=>Qf H',rt:=fun _ _=>False } (none::rest) (aH H q (.lst [])):=by
 refine bZ (K:=K) (a:=lr) (xs:=rs.map g) (fun i σ HK=>∃ v:Option V,σ=v::rest/\ay H HK/\HK q=some (.lst ((rs.take i).map f))) ⟨none,rfl,af hq,aa⟩ (fun i σ HK _ ⟨_,_,s2,_⟩=>aT.of (s2 _ _ h1)) ?_ ?_
 ·rintro i y σ HK hi ⟨v,rfl,t1,hq2⟩
  obtain⟨r,hr0,rfl⟩:=bB hi;have hil:i<rs.length:=(List.getElem?_eq_some_iff.mp hr0).1;refine cO (ht r HK _ (yj hr0) t1 fun H5 s5=>⟨_,s5 _ _ hq2,by rw[xP,yu];exact cx (by omega),_,rfl,bF (t1.trans s5) hq,?_⟩);rw[aa,yH,hr0,yz,x8];rfl
 ·rintro σ HK ⟨v,rfl,t1,hq2⟩
  rw[xP,yy]at hq2;exact k HK t1 hq2
def tS (x:Str):List Nat:=x.cps.toList
theorem oh (x:Str):x.length=(tS x).length:=by unfold tS;rw[yX];rfl
theorem og (x y:Str):tS (x++y)=tS x++tS y:=by
 show (x.cps++y.cps).toList=_
 rw[Array.toList_append];rfl
theorem tN {x:Str}(h:∀ c∈tS x,c<128):mE x:=by
 unfold mE;rw[<-Array.all_toList,y7];exact fun c hc=>xX (h c hc)
end Wz
namespace L2
open PySem PySem.Spec PyProof.Rows
section
variable {prog:Program}{w:World}{A:Around}{E:Value->Shared->Prop}{s:Shared}
theorem cD {it t:Addr}{i:Nat}{xs:Array Value}{x:Value}{Q:Value->Shared->Prop}(hI:s.heap.IsTupleIter it t i)(hT:s.heap.IsTuple t xs)(hx:xs[i]? = some x)
  (k:∀ h',h'.IsTupleIter it t (i+1)->Heap.SameBut it s.heap h'->Q x { s with heap:=h' }):wpAny (model prog w) A (Builtin.SmallTypes.nextOf (.ref it)) Q E s:=by
 obtain⟨ot,et,_,m,dt⟩:=hT;obtain⟨oi,ei,ci,di⟩:=id hI;unfold Builtin.SmallTypes.nextOf;refine xO (wpAny_callSpecial?_slot (name:=Str.ofString "__next__") hI.typeIs zf (y6 zf hI.typeIs F.entry_tuple_iterator_next ?_ (F.args_tuple_iterator_next_1 _)))
 show wpAny _ _ (field (.ref it) 0 >>= _) _ _ s
 refine xO (yk ei di (x:=.ref t) rfl ?_)
 show wpAny _ _ (if (Value.ref t == Value.none)=true then _ else _) _ _ s
 rw[xV (by exact xU)]
 show wpAny _ _ (field (.ref it) 1 >>= _) _ _ s
 refine xO (yk ei di (x:=.int i 0) rfl ?_)
 show wpAny _ _ (seqItems? (.ref t) >>= _) _ _ s
 refine xO (yI et dt ?_);simp only[zh,hx];refine xO (wpAny_setField ei di (by simp) (xR ⟨x,rfl,xR (k _ ⟨_,Heap.get?_update_self _ ei (Obj.isFreed_of_fields (zq di _)),(Obj.cls_mapFields ..).trans ci,?_⟩ (Heap.SameBut.update ..))⟩));rw[zq di];simp[rawInt]
theorem ik {it t:Addr}{i:Nat}{xs:Array Value}{Q:Value->Shared->Prop}(hh:A.handled=none)(hI:s.heap.IsTupleIter it t i)(hT:s.heap.IsTuple t xs)(hx:xs[i]? = none)
  (k:∀ h' e,Heap.ExtBut it s.heap h'->(∃ o,h'.get? e=some o/\o.cls=.type "StopIteration")->E (.ref e) { s with heap:=h' }):wpAny (model prog w) A (Builtin.SmallTypes.nextOf (.ref it)) Q E s:=by
 obtain⟨ot,et,_,m,dt⟩:=hT;obtain⟨oi,ei,ci,di⟩:=id hI;unfold Builtin.SmallTypes.nextOf;refine xO (wpAny_callSpecial?_slot (name:=Str.ofString "__next__") hI.typeIs zf (y6 zf hI.typeIs F.entry_tuple_iterator_next ?_ (F.args_tuple_iterator_next_1 _)))
 show wpAny _ _ (field (.ref it) 0 >>= _) _ _ s
 refine xO (yk ei di (x:=.ref t) rfl ?_)
 show wpAny _ _ (if (Value.ref t == Value.none)=true then _ else _) _ _ s
 rw[xV (by exact xU)]
 show wpAny _ _ (field (.ref it) 1 >>= _) _ _ s
 refine xO (yk ei di (x:=.int i 0) rfl ?_)
 show wpAny _ _ (seqItems? (.ref t) >>= _) _ _ s
 refine xO (yI et dt ?_);simp only[zh,hx];refine xO (wpAny_rule (xO (wpAny_setField ei di (by simp) ?_)))
 show wpAny _ _ (newExc (.type "StopIteration") [] >>= _) _ _ _
 refine xO ?_;simp only[newExc,newTuple];refine xO (yN ?_ (by size_fits));refine xO (m:=firstArgMember _ _) (wpAny_of_eq (a:=Value.none) (by first | rfl | (simp only[firstArgMember];rfl)) ?_);refine yN ?_ (by size_fits);simp only[raiseNew];refine xO (wpAny_handled ?_)
 first | rw[show A.in1.handled=none from hh] | rw[hh]
 exact xO (xR (wpAny_throw (k _ _ (((Heap.SameBut.update ..).extBut.push _).push _) ⟨_,Heap.get?_push_size _ rfl,rfl⟩)))
end
theorem va {prog:Program}{w:World}{A:Around}(hh:A.handled=none)(it t:Addr)(hne:t≠it)(xs:Array Value) :
  Draws prog w A it [it,t] xs.size (fun i v=>xs[i]? = some v) (fun i h=>h.IsTupleIter it t i/\h.IsTuple t xs) where
 live:=fun _ _ st=>by obtain⟨⟨o,e,_⟩,_⟩:=st;exact⟨o,e⟩
 frame:=fun _ _ _ st k=>⟨st.1.at fun o e=>k it (by simp) o e,st.2.at fun o e=>k t (by simp) o e⟩
 item:=fun i s Q E hi st k=>cD st.1 st.2 (x:=xs[i]) (by simp[hi]) fun h' st' sb=>k _ h' s.toks (by simp[hi]) ⟨st',st.2.extBut sb.extBut hne⟩ sb
 done:=fun s Q E st k=>ik hh st.1 st.2 (by simp) k
theorem lO (t:Addr)(xs:Array Value):Meets (Builtin.«enumerate.__new__» ⟨[.type "enumerate",.ref t],[]⟩) (fun _ R s=>s.heap.IsTuple t xs /\
   R (.ok (.ret (.ref (s.heap.push { cls:=.type "tuple_iterator",data:=.fields #[.ref t,.int 0 0] }).objs.size)))
    { s with heap:=(s.heap.push { cls:=.type "tuple_iterator",data:=.fields #[.ref t,.int 0 0] }).push { cls:=.type "enumerate",data:=.fields #[.none,.bool false,.ref s.heap.objs.size,rawInt 0,.none,.none] } }) :=
 .of_wp fun prog w A R s h=>by
  obtain⟨hp,g,d,tk,os⟩:=s;obtain⟨hT,h⟩:=h;have su:=sub_enumerate;have hT2:Heap.IsTuple (Shared.heap ⟨hp,g,d,tk,os⟩) t xs:=hT;obtain⟨ot,et,ct,m,dt⟩:=id hT
  wp_walk using AutoSeq1.wpAny_loadPart' et
  refine wpAny_stack_any fun st=>xR ?_;split
  ·rename_i c _ _ _ _ _
   cases (c == Value.type "enumerate")<;>(wp_walk using AutoSeq1.wpAny_loadPart' et,zn hT2;exact⟨_,rfl,h⟩)
  ·wp_walk using AutoSeq1.wpAny_loadPart' et,zn hT2
   exact⟨_,rfl,h⟩
section
variable {prog:Program}{w:World}{A:Around}{E:Value->Shared->Prop}{s:Shared}
theorem mM {t:Addr}{xs:Array Value}{Q:Value->Shared->Prop}(hT:s.heap.IsTuple t xs)
  (k:∀ h',IsEnum h' (s.heap.objs.size+1) s.heap.objs.size 0 .none->h'.IsTupleIter s.heap.objs.size t 0->(∀ b o,s.heap.get? b=some o->h'.get? b=some o)->Q (.ref (s.heap.objs.size+1)) { s with heap:=h' }) :
  wpAny (model prog w) A (call (.type "enumerate") [.ref t]) Q E s:=by
 refine callType_new F.called_enumerate (by decide) (F.typeCall_enumerate_1 _) (F.newCall_enumerate_1 _) (fun obj=>F.args_object_init_2 obj _) F.entry_enumerate_new (lO t xs) ⟨hT,?_⟩;obtain⟨oi,eoi⟩:∃ oi:Obj,oi={ cls:=.type "tuple_iterator",data:=.fields #[.ref t,.int 0 0] }:=⟨_,rfl⟩
 show _/\_
 rw[<-eoi];have sz:(s.heap.push oi).objs.size=s.heap.objs.size+1:=yq ..;have he:=Heap.get?_push_size (s.heap.push oi) (o:={ cls:=.type "enumerate",data:=.fields #[.none,.bool false,.ref s.heap.objs.size,rawInt 0,.none,.none] }) rfl;rw[sz]at he ⊢;refine⟨⟨_,he,rfl⟩,k _ he ⟨oi,Heap.get?_push_of_some _ (Heap.get?_push_size _ (by rw[eoi];rfl)),by rw[eoi],by rw[eoi];rfl⟩ fun b o e=>Heap.get?_push_of_some _ (Heap.get?_push_of_some _ e)⟩
end
def pV (K:PySem.W.Frag)(t:Addr):It :=
 ⟨fun i H=>∃ xs x,aI K H t xs/\xs[i]? = some x,fun i H y H'=>∃ T x,H T=none/\y=.ref T/\H'=aH H T (.tup [.int i,x])/\∀ xs,aI K H t xs->xs[i]? = some x,fun i H=>∃ xs,aI K H t xs/\xs.length<=i⟩
theorem nN {P:Program}{w:World}{K:PySem.W.Frag}{elts:List Expr} {kk}{pos:Pos}(e it t:Addr)(hne:e≠it):lG P w K (.Tuple elts kk pos) (pV K t) [e,it] e (fun i h=>(∃ old,IsEnum h e it (i:Nat) old)/\h.IsTupleIter it t i) where
 mem:=by simp
 obj:=fun i h st b hb=>by
  obtain⟨⟨old,he⟩,⟨o,eo,c,d⟩⟩:=st
  have hb:b=e\/b=it:=by simpa using hb
  rcases hb with rfl | rfl
  ·exact⟨_,he,fun v z=>by cases z⟩
  ·exact⟨o,eo,fun v z=>by rw[d]at z;cases z⟩
 keep:=fun i h h' st k=>⟨st.1.elim fun old he=>⟨old,k e (by simp) _ he⟩,st.2.at fun o x=>k it (by simp) o x⟩
 item:=by
  intro X hP hw hK hc i pins s σ H E I hf st hg;subst hP hw hK;obtain⟨xs,x,hq,hx⟩:=hg;obtain⟨its,rv,p,hz⟩:=I.tuple hq;have p:s.heap.IsTuple t its.toArray:=p;obtain⟨u,hu,ru⟩:=rv.get hx;obtain⟨⟨old,he⟩,hit⟩:=st;have fe:=hf e (by simp);have fi:=hf it (by simp);have lte:e<s.heap.objs.size:=xQ he
  have lti:it<s.heap.objs.size:=by obtain⟨_,q,_⟩:=id hit;exact xQ q
  have net:e≠t:=fun z=>by
   obtain⟨o,eo,c,_⟩:=id p;rw[<-z,he]at eo;cases eo;simp at c
  have nit:t≠it:=fun z=>by
   obtain⟨o,eo,c,_⟩:=id p;obtain⟨o2,eo2,c2,_⟩:=id hit;rw[z,eo2]at eo;cases eo;rw[c2]at c;simp at c
  have hil:i<its.toArray.size:=by have:=(List.getElem?_eq_some_iff.mp hu).1;simpa using this
  refine wpAny_pyNext_enum_itemD (va (A:=X.A.in1) (I.ok.hd hc) it t nit its.toArray) he ⟨hit,p⟩ hil hne (by simp[hne,net]) fun y h' tk hy ho hit' hT hsz hk=>⟨.ref s.heap.objs.size,rfl,?_⟩
  have ey:y=u:=by
   have hy:its.toArray[i]? = some y:=hy
   have hy:its[i]? = some y:=by simpa using hy
   rw[hu]at hy;exact (ye hy).symm
  subst ey;refine wpAny_letOwnedTupleGo_enum (s:={ s with heap:=h',toks:=tk+1 }) ho fun h2 he2 sb2=>?_;have hfr:H s.heap.objs.size=none:=I.hok.fresh (xT _)
  have IL:am X pins σ (aH H s.heap.objs.size (.tup [.int i,x])) { s with heap:=s.heap.push { cls:=.type "tuple",data:=.seq #[.int i tk,y] },toks:=s.toks } :=
   I.laid (fun b o q=>Heap.get?_push_of_some _ q) (xT _) ⟨by show 2<=sizeLine;decide,[.int i tk,y],.cons ⟨_,rfl⟩ (.cons ru .nil),⟨_,Heap.get?_push_size _ rfl,rfl,_,rfl⟩⟩
  have fp':∀ b,b<s.heap.objs.size->eX X pins H b->eX X pins (aH H s.heap.objs.size (.tup [.int i,x])) b:=fun b hb ⟨f0,f1,f2,f3,f4,f5⟩=>⟨by rw[ak (x5 hb)];exact f0,f1,f2,f3,f4,f5⟩
  have I2:am X pins σ (aH H s.heap.objs.size (.tup [.int i,x])) { s with heap:=h2,toks:=tk+1 }:=IL.turned2 (t':=tk+1) (h':=h2) (fun b o n1 n2 q=>by
   refine (sb2.2 b n1).trans ?_
   show h'.get? b=some o
   by_cases hb:b=s.heap.objs.size
   ·subst hb
    have q:(s.heap.push { cls:=.type "tuple",data:=.seq #[.int i tk,y] }).get? s.heap.objs.size=some o:=q;rw[Heap.get?_push_size _ rfl]at q;cases q;exact hT
   ·have q:(s.heap.push { cls:=.type "tuple",data:=.seq #[.int i tk,y] }).get? b=some o:=q
    refine hk b o n1 n2 ?_;rw[Heap.get?_push_ne _ _ _ hb]at q
    exact q) (fp' e lte fe) (fp' it lti fi)
  refine⟨.ref s.heap.objs.size,_,I2,rfl,⟨s.heap.objs.size,x,hfr,rfl,rfl,fun ys hy=>by rw[I.tuple_inj hy hq];exact hx⟩,⟨⟨_,by simpa using he2⟩,hit'.1.at fun o q=>(sb2.2 it (yo hne)).trans q⟩,fun b hb=>?_⟩
  have hb':b=e\/b=it:=by simpa using hb
  rcases hb' with rfl | rfl
  ·exact (fp' _ lte fe).1
  ·exact (fp' _ lti fi).1
 done:=by
  intro X hP hw hK hc i pins s σ H E I hf st hg;subst hP hw hK;obtain⟨xs,hq,hx⟩:=hg;obtain⟨its,rv,p,hz⟩:=I.tuple hq;have p:s.heap.IsTuple t its.toArray:=p;obtain⟨⟨old,he⟩,hit⟩:=st;obtain⟨f0,f1,f2,f3,f4,f5⟩:=hf it (by simp)
  have nit:t≠it:=fun z=>by
   obtain⟨o,eo,c,_⟩:=id p;obtain⟨o2,eo2,c2,_⟩:=id hit;rw[z,eo2]at eo;cases eo;rw[c2]at c;simp at c
  have hl:=rv.length;unfold pyNext;refine xO (wpAny_attempt (wpAny_callSpecial?_slot (name:=Str.ofString "__next__") (T:="enumerate") ⟨_,he,rfl⟩ F.slot_enumerate_next (y6 F.slot_enumerate_next (T:="enumerate") ⟨_,he,rfl⟩ F.entry_enumerate_next ?_ (F.args_enumerate_next_1 _))))
  show wpAny _ _ (field (.ref e) 2 >>= _) _ _ _
  refine xO (yk he rfl (x:=.ref it) rfl ?_);refine xO (ik (A:=X.A.in1) (I.ok.hd hc) hit p (by simp;omega) fun h' x eb hx=>?_);obtain⟨o,ho,co⟩:=hx;refine xO (wpAny_isInstance (T:="StopIteration") (b:=true) ⟨o,ho,co⟩ isSubtype_stop ?_);exact xR ⟨rfl,I.turned (t':=s.toks) (fun b o hb q=>eb b o hb q) f0 f1 f3 f4 f5⟩
 self:=fun _ _ _ _ _ st h=>st.1.elim fun old he=>wpAny_pyIter_enum he h
def tX (K:PySem.W.Frag)(t:TA):TI:=fun σ H R=>t σ H fun vs H1=>∃ l,vs=[.ref l]/\(∃ xs,aI K H1 l xs)/\R (pV K l) H1
theorem qJ {X:Cx}{elts:List Expr} {kk}{tpos:Pos}{a:Expr}{ta:TA}{p pos:Pos}(hg:Gl X "enumerate")(hm:X.mg "enumerate" = none)(ha:PA X [a] ta)
  (he:starEach [a] X.env=(false,eval a X.env)::starEach [] X.env:=by rfl) (hpl:(backTo pos (starEach [] X.env)).any (·.1)=false:=by rfl):PI X (.Tuple elts kk tpos) (.Call (.Name "enumerate" p) [a] [] pos) (tX X.K ta):=by
 intro pins s σ H R I h;refine yJ (dr I hg hm boot_enumerate ?_ (by decide) (by decide));refine yp (aU (ha pos pins s σ H _ I h) fun us s1 ⟨vs,H1,I1,r1,l,e1,⟨xs,hq⟩,q⟩=>?_) he hpl;subst e1;obtain⟨u,rfl,rx⟩:=eL r1;cases rx;obtain⟨its,rv,pl,hz⟩:=I1.tuple hq;refine mM (show s1.heap.IsTuple l its.toArray from pl) fun h' hE hI hk=>?_;have I2:am X pins σ H1 { s1 with heap:=h',toks:=s1.toks }:=I1.kept hk;refine wpAny_pyIter_enum (s:={ s1 with heap:=h' }) hE ?_;refine⟨s1.heap.objs.size+1,[s1.heap.objs.size+1,s1.heap.objs.size],_,_,H1,rfl,I2,nN _ _ l (Nat.succ_ne_self _),⟨⟨_,hE⟩,hI⟩,fun b hb=>?_,q⟩
 have hb:b=s1.heap.objs.size+1\/b=s1.heap.objs.size:=by simpa using hb
 rcases hb with rfl | rfl
 ·exact I1.fpOk (Nat.le_succ _) (I1.hok.fresh (Nat.le_succ _))
 ·exact I1.fpOk (xT _) (I1.hok.fresh (xT _))
theorem pj {K:PySem.W.Frag}{a:Addr}{xs:List V}{g:TG}{tb:TS}{D:fL}{σ:St}{H:Hp}(Pv:Nat->St->Hp->Prop)(h0:Pv 0 σ H)(hl:∀ i σ H,i<=xs.length->Pv i σ H->aI K H a xs)
  (hs:∀ i x σ H T,xs[i]? = some x->Pv i σ H->H T=none->g (.ref T) σ (aH H T (.tup [.int i,x])) fun σ2 H2=>tb { D with nx:=Pv (i+1),ct:=Pv (i+1),bk:=D.nx } σ2 H2) (hd:∀ σ H,Pv xs.length σ H->D.nx σ H) :
  ∃ W:Nat->Nat->St->Hp->Prop,(∃ m,W 0 m σ H)/\∀ i m σ H,W i m σ H ->
   ((pV K a).stop i H/\D.nx σ H)\/((pV K a).go i H/\∃ N:St->Hp->Prop,(∀ σ' H',N σ' H'->∃ m',m'<m/\W (i+1) m' σ' H')/\∀ x H',(pV K a).yld i H x H'->g x σ H' fun σ2 H2=>tb { D with nx:=N,ct:=N,bk:=D.nx } σ2 H2):=by
 refine⟨fun i m σ H=>m=xs.length-i/\i<=xs.length/\Pv i σ H,⟨xs.length,by simp,yg _,h0⟩,?_⟩;rintro i m σ H ⟨rfl,hi,p⟩;have q:=hl i σ H hi p
 by_cases hlt:i<xs.length
 ·refine .inr ⟨⟨xs,xs[i],q,by simp[hlt]⟩,Pv (i+1),fun σ' H' p'=>⟨xs.length-(i+1),by omega,rfl,hlt,p'⟩,fun y H' z=>?_⟩
  obtain⟨T,x,hT,e1,e2,hx⟩:=z;subst e1 e2;exact hs i x σ _ T (hx xs q) p hT
 ·have e:i=xs.length:=by omega
  subst e;exact .inl ⟨⟨xs,q,xT _⟩,hd σ H p⟩
open PySem PySem.Spec PyProof.Rows PySem.Calls
section
variable {prog:Program}{w:World}{A:Around}{E:Value->Shared->Prop}{s:Shared}
theorem mD {z TI TO i1 i2 l1 l2:Addr}{k1 k2:Nat}{xs ys:Array Value}{x y a b:Value}{Q:Value->Shared->Prop}(D:ZipApart z TI TO i1 i2 l1 l2)
  (hz:IsZip s.heap z TI TO .none) (hTI:IsPair s.heap TI (.ref i1) (.ref i2)) (hTO:IsPair s.heap TO a b)
  (h1:s.heap.IsTupleIter i1 l1 k1) (h2:s.heap.IsTupleIter i2 l2 k2) (hl1:s.heap.IsTuple l1 xs) (hl2:s.heap.IsTuple l2 ys) (hx:xs[k1]? = some x) (hy:ys[k2]? = some y)
  (k:∀ h',IsZip h' z TI TO (rawInt s.heap.objs.size)->IsPair h' TO x y->h'.IsTupleIter i1 l1 (k1+1)->h'.IsTupleIter i2 l2 (k2+1)->IsPair h' s.heap.objs.size x y->h'.objs.size=s.heap.objs.size+1 ->
   (∀ c o,c≠z->c≠TO->c≠i1->c≠i2->s.heap.get? c=some o->h'.get? c=some o)->Q (.ref s.heap.objs.size) { s with heap:=h' }) :
  wpAny (model prog w) A (Builtin.«zip.__next__» ⟨[.ref z],[]⟩) (fun fin s'=>∃ v,fin=.done (.ret v)/\Q v s') E s:=by
 show wpAny _ _ (field (.ref z) 2 >>= _) _ _ _
 refine xO (yk hz rfl (x:=.bool false) rfl ?_)
 show wpAny _ _ (field (.ref z) 3 >>= _) _ _ _
 refine xO (yk hz rfl (x:=.ref TI) rfl (xO (yI hTI rfl ?_)))
 show wpAny _ _ (Builtin.SmallTypes.ownedTupleIsFree (.ref z) >>= _) _ _ _
 refine xO ?_;unfold Builtin.SmallTypes.ownedTupleIsFree;refine xO (yk hz rfl (x:=.none) rfl (xR ?_));simp only[if_true];refine xO (wpAny_rule (xO (yk hz rfl (x:=.ref TO) rfl (xO (wpAny_setField_rec hz (by simp) fun g1 z1 b1=>?_)))))
 replace z1:IsZip g1 z TI TO .ellipsis:=z1
 refine xO ?_;simp only[List.zipIdx_cons,List.zipIdx_nil,List.forIn_cons,List.forIn_nil];refine xO (xO (wpAny_onRaise ?_))
 show wpAny _ _ (Builtin.SmallTypes.nextOf (.ref i1) >>= _) _ _ _
 refine xO (cD (h1.extBut b1.extBut D.i1z) (hl1.extBut b1.extBut D.l1z) hx fun g2 t2 b2=>xR ?_);have o2:IsPair g2 TO a b:=b2.extBut _ _ D.TOi1 (b1.extBut _ _ D.TOz hTO);refine xO (yI o2 rfl (xO (wpAny_updateSeq_pair o2 fun g3 o3 b3=>?_)))
 replace o3:IsPair g3 TO x b:=o3
 refine xO (zu (xR (xO (xO (wpAny_onRaise ?_)))))
 show wpAny _ _ (Builtin.SmallTypes.nextOf (.ref i2) >>= _) _ _ _
 refine xO (cD (((h2.extBut b1.extBut D.i2z).extBut b2.extBut D.i12.symm).extBut b3.extBut D.TOi2.symm) (((hl2.extBut b1.extBut D.l2z).extBut b2.extBut D.l2i1).extBut b3.extBut D.l2TO) hy fun g4 t4 b4=>xR ?_);have o4:IsPair g4 TO x b:=b4.extBut _ _ D.TOi2 o3;refine xO (yI o4 rfl (xO (wpAny_updateSeq_pair o4 fun g5 o5 b5=>?_)))
 replace o5:IsPair g5 TO x y:=o5
 refine xO (zu (xR (xR (xO (yI o5 rfl (xO (wpAny_newTuple ?_)))))))
 have sz:g5.objs.size=s.heap.objs.size:=by rw[b5.1,b4.1,b3.1,b2.1,b1.1]
 have z5:IsZip g5 z TI TO .ellipsis:=b5.extBut _ _ D.TOz.symm (b4.extBut _ _ D.i2z.symm (b3.extBut _ _ D.TOz.symm (b2.extBut _ _ D.i1z.symm z1)));have p1:g5.IsTupleIter i1 l1 (k1+1):=((t2.extBut b3.extBut D.TOi1.symm).extBut b4.extBut D.i12).extBut b5.extBut D.TOi1.symm;have p2:g5.IsTupleIter i2 l2 (k2+1):=t4.extBut b5.extBut D.TOi2.symm;have lz:z<g5.objs.size:=xQ z5
 show wpAny _ _ (Builtin.SmallTypes.ownedTupleHandOut (.ref z) (.ref g5.objs.size) >>= _) _ _ _
 refine xO ?_;unfold Builtin.SmallTypes.ownedTupleHandOut;have z6:IsZip (g5.push { cls:=.type "tuple",data:=.seq #[x,y] }) z TI TO .ellipsis:=Heap.get?_push_of_some _ z5;refine xO (wpAny_setField_rec z6 (by simp) fun g7 z7 b7=>?_)
 replace z7:IsZip g7 z TI TO (rawInt g5.objs.size):=z7
 refine wpAny_setField_rec z7 (by simp) fun g8 z8 b8=>?_
 replace z8:IsZip g8 z TI TO (rawInt g5.objs.size):=z8
 have up:∀ c o,c≠z->g5.get? c=some o->g8.get? c=some o:=fun c o c1 e=>b8.extBut _ _ c1 (b7.extBut _ _ c1 (Heap.get?_push_of_some _ e));have t8:IsPair g8 g5.objs.size x y:=b8.extBut _ _ (yi lz) (b7.extBut _ _ (yi lz) (Heap.get?_push_size _ rfl))
 have e8:g8.objs.size=g5.objs.size+1:=by rw[b8.1,b7.1,yq]
 rw[sz]at z8 t8 e8;refine xR ⟨_,rfl,?_⟩
 show Q (.ref g5.objs.size) _
 rw[sz];exact k g8 z8 (up _ _ D.TOz o5) (p1.at fun o e=>up _ o D.i1z e) (p2.at fun o e=>up _ o D.i2z e) t8 e8 fun c o c1 c2 c3 c4 e=>up c o c1 (b5.extBut _ _ c2 (b4.extBut _ _ c4 (b3.extBut _ _ c2 (b2.extBut _ _ c3 (b1.extBut _ _ c1 e)))))
theorem nU {z TI TO i1 i2 l1 l2:Addr}{k1 k2:Nat}{xs ys:Array Value}{x y a b:Value}{Q:Option Value->Shared->Prop}(D:ZipApart z TI TO i1 i2 l1 l2)
  (hz:IsZip s.heap z TI TO .none) (hTI:IsPair s.heap TI (.ref i1) (.ref i2)) (hTO:IsPair s.heap TO a b)
  (h1:s.heap.IsTupleIter i1 l1 k1) (h2:s.heap.IsTupleIter i2 l2 k2) (hl1:s.heap.IsTuple l1 xs) (hl2:s.heap.IsTuple l2 ys) (hx:xs[k1]? = some x) (hy:ys[k2]? = some y)
  (k:∀ h',IsZip h' z TI TO (rawInt s.heap.objs.size)->IsPair h' TO x y->h'.IsTupleIter i1 l1 (k1+1)->h'.IsTupleIter i2 l2 (k2+1)->IsPair h' s.heap.objs.size x y->h'.objs.size=s.heap.objs.size+1 ->
   (∀ c o,c≠z->c≠TO->c≠i1->c≠i2->s.heap.get? c=some o->h'.get? c=some o)->Q (some (.ref s.heap.objs.size)) { s with heap:=h' }) :
  wpAny (model prog w) A (pyNext (.ref z)) Q E s:=by
 have ty:s.TypeIs (.ref z) "zip":=⟨_,hz,rfl⟩;unfold pyNext;exact xO (wpAny_attempt (wpAny_callSpecial?_slot (name:=Str.ofString "__next__") ty zr (y6 zr ty F.entry_zip_next (mD D hz hTI hTO h1 h2 hl1 hl2 hx hy fun h' a1 a2 a3 a4 a5 a6 a7=>xR (k h' a1 a2 a3 a4 a5 a6 a7)) (F.args_zip_next_1 _))))
abbrev pU (h:Heap)(a:Addr):Heap:=h.push { cls:=.type "tuple_iterator",data:=.fields #[.ref a,.int 0 0] }
abbrev v3 (h:Heap)(a b:Addr):Heap:=(pU (pU h a) b).push { cls:=.type "tuple",data:=.seq #[.ref h.objs.size,.ref (pU h a).objs.size] }
abbrev wa (h:Heap)(a b:Addr):Heap:=(v3 h a b).push { cls:=.type "tuple",data:=.seq #[.none,.none] }
abbrev uP (h:Heap)(a b:Addr):Heap:=(wa h a b).push { cls:=.type "zip",data:=.fields #[.none,.bool false,.bool false,.ref (pU (pU h a) b).objs.size,.ref (v3 h a b).objs.size] }
theorem m9 (a b:Addr)(xs ys:Array Value):Meets (Builtin.«zip.__new__» ⟨[.type "zip",.ref a,.ref b],[]⟩) (fun _ R s=>s.heap.IsTuple a xs/\s.heap.IsTuple b ys/\R (.ok (.ret (.ref (wa s.heap a b).objs.size))) { s with heap:=uP s.heap a b }) :=
 .of_wp fun prog w A R s h=>by
  obtain⟨hp,g,d,tk,os⟩:=s;obtain⟨ha,hb,h⟩:=h;have su:=sub_zip;have ta:Heap.IsTuple (Shared.heap ⟨hp,g,d,tk,os⟩) a xs:=ha;have tb:Heap.IsTuple (Shared.heap ⟨pU hp a,g,d,tk,os⟩) b ys:=Heap.IsTuple.at hb fun o e=>Heap.get?_push_of_some _ e
  wp_walk using zn ta,zn tb
  exact⟨_,rfl,h⟩
theorem pb {a b:Addr}{xs ys:Array Value}{Q:Value->Shared->Prop}(ha:s.heap.IsTuple a xs)(hb:s.heap.IsTuple b ys)
  (k:∀ h',IsZip h' (s.heap.objs.size+4) (s.heap.objs.size+2) (s.heap.objs.size+3) .none->IsPair h' (s.heap.objs.size+2) (.ref s.heap.objs.size) (.ref (s.heap.objs.size+1)) ->
   IsPair h' (s.heap.objs.size+3) .none .none->h'.IsTupleIter s.heap.objs.size a 0->h'.IsTupleIter (s.heap.objs.size+1) b 0->h'.objs.size=s.heap.objs.size+5 ->
   (∀ c o,s.heap.get? c=some o->h'.get? c=some o)->Q (.ref (s.heap.objs.size+4)) { s with heap:=h' }) :
  wpAny (model prog w) A (call (.type "zip") [.ref a,.ref b]) Q E s:=by
 refine callType_new F.called_zip (by decide) (F.typeCall_zip_2 _ _) (F.newCall_zip_2 _ _) (fun obj=>F.args_object_init_3 obj _ _) F.entry_zip_new (m9 a b xs ys) ⟨ha,hb,?_⟩;have e1:(pU s.heap a).objs.size=s.heap.objs.size+1:=yq ..
 have e2:(pU (pU s.heap a) b).objs.size=s.heap.objs.size+2:=by rw[yq,e1]
 have e3:(v3 s.heap a b).objs.size=s.heap.objs.size+3:=by rw[yq,e2]
 have e4:(wa s.heap a b).objs.size=s.heap.objs.size+4:=by rw[yq,e3]
 have e5:(uP s.heap a b).objs.size=s.heap.objs.size+5:=by rw[yq,e4]
 have g5:(uP s.heap a b).get? (wa s.heap a b).objs.size=some _:=Heap.get?_push_size _ rfl;have g4:(uP s.heap a b).get? (v3 s.heap a b).objs.size=some _:=Heap.get?_push_of_some _ (Heap.get?_push_size _ rfl);have g3:(uP s.heap a b).get? (pU (pU s.heap a) b).objs.size=some _:=Heap.get?_push_of_some _ (Heap.get?_push_of_some _ (Heap.get?_push_size _ rfl));have g2:(uP s.heap a b).get? (pU s.heap a).objs.size=some _:=Heap.get?_push_of_some _ (Heap.get?_push_of_some _ (Heap.get?_push_of_some _ (Heap.get?_push_size _ rfl)));have g1:(uP s.heap a b).get? s.heap.objs.size=some _:=Heap.get?_push_of_some _ (Heap.get?_push_of_some _ (Heap.get?_push_of_some _ (Heap.get?_push_of_some _ (Heap.get?_push_size _ rfl))))
 show _/\_
 rw[e2,e3,e4]at g5;rw[e1,e2]at g3;rw[e3]at g4;rw[e1]at g2;rw[e4];exact⟨⟨_,g5,rfl⟩,k _ g5 g3 g4 ⟨_,g1,rfl,rfl⟩ ⟨_,g2,rfl,rfl⟩ e5 fun c o e=>Heap.get?_push_of_some _ (Heap.get?_push_of_some _ (Heap.get?_push_of_some _ (Heap.get?_push_of_some _ (Heap.get?_push_of_some _ e))))⟩
theorem nQ {z TI TO i1 i2 l1 l2 T:Addr}{k1 k2:Nat}{b:Bool}{oT:Obj}{xs ys:Array Value}{x y:Value}{Q:Value->Shared->Prop}(D:ZipApart z TI TO i1 i2 l1 l2)
  (hz:rB s.heap z TI TO (rawInt T) b) (hT:s.heap.get? T=some oT) (hTI:IsPair s.heap TI (.ref i1) (.ref i2))
  (h1:s.heap.IsTupleIter i1 l1 k1) (h2:s.heap.IsTupleIter i2 l2 k2) (hl1:s.heap.IsTuple l1 xs) (hl2:s.heap.IsTuple l2 ys) (hx:xs[k1]? = some x) (hy:ys[k2]? = some y)
  (hQ:∀ h',rB h' z TI TO (rawInt T) true->h'.IsTupleIter i1 l1 (k1+1)->h'.IsTupleIter i2 l2 (k2+1)->IsPair h' s.heap.objs.size x y->h'.objs.size=s.heap.objs.size+1 ->
   (∀ c o,c≠z->c≠i1->c≠i2->s.heap.get? c=some o->h'.get? c=some o)->Q (.ref s.heap.objs.size) { s with heap:=h' }) :
  wpAny (model prog w) A (Builtin.«zip.__next__» ⟨[.ref z],[]⟩) (fun fin s'=>∃ v,fin=.done (.ret v)/\Q v s') E s:=by
 show wpAny _ _ (field (.ref z) 2 >>= _) _ _ _
 refine xO (yk hz rfl (x:=.bool false) rfl ?_)
 show wpAny _ _ (field (.ref z) 3 >>= _) _ _ _
 refine xO (yk hz rfl (x:=.ref TI) rfl ?_);refine xO (yI hTI rfl ?_)
 show wpAny _ _ (Builtin.SmallTypes.ownedTupleIsFree (.ref z) >>= _) _ _ _
 refine xO (lZ hz hT fun h₁ hz₁ hs₁=>?_);simp only[zc,if_false];refine xO ?_;simp only[List.forIn_toArray,List.forIn_cons,List.forIn_nil];refine xO (xO (yZ ?_))
 show wpAny _ _ (Builtin.SmallTypes.nextOf (.ref i1) >>= _) _ _ _
 refine xO (cD (h1.extBut hs₁.extBut D.i1z) (hl1.extBut hs₁.extBut D.l1z) hx fun h₂ h1₂ hs₂=>xR (xR ?_));refine xO (xO (yZ ?_))
 show wpAny _ _ (Builtin.SmallTypes.nextOf (.ref i2) >>= _) _ _ _
 refine xO (cD ((h2.extBut hs₁.extBut D.i2z).extBut hs₂.extBut D.i12.symm) ((hl2.extBut hs₁.extBut D.l2z).extBut hs₂.extBut D.l2i1) hy fun h₄ h2₄ hs₄=>xR (xR (xR ?_)));refine xO (wpAny_newTuple ?_ (by show 2<=sizeLine;decide))
 have hsz:h₄.objs.size=s.heap.objs.size:=by rw[hs₄.1,hs₂.1,hs₁.1]
 refine xR ⟨_,rfl,?_⟩
 show Q (.ref h₄.objs.size) _
 rw[hsz];have up:∀ {c:Addr}{o:Obj},h₄.get? c=some o->(h₄.push { cls:=.type "tuple",data:=.seq #[x,y] }).get? c=some o:=fun e=>Heap.get?_push_of_some _ e;refine hQ _ (up (hs₄.extBut _ _ D.i2z.symm (hs₂.extBut _ _ D.i1z.symm hz₁))) ((h1₂.extBut hs₄.extBut D.i12).at fun o e=>up e) (h2₄.at fun o e=>up e) ?_ (by rw[yq,hsz]) fun c o c1 c2 c3 e=>up (hs₄.extBut _ _ c3 (hs₂.extBut _ _ c2 (hs₁.extBut _ _ c1 e)));rw[<-hsz];exact Heap.get?_push_size _ rfl
theorem pR {z TI TO i1 i2 l1 l2 T:Addr}{k1 k2:Nat}{b:Bool}{oT:Obj}{xs ys:Array Value}{x:Value}{Q:Fin->Shared->Prop}(hh:A.handled=none)(D:ZipApart z TI TO i1 i2 l1 l2)
  (hz:rB s.heap z TI TO (rawInt T) b) (hT:s.heap.get? T=some oT) (hTI:IsPair s.heap TI (.ref i1) (.ref i2))
  (h1:s.heap.IsTupleIter i1 l1 k1) (h2:s.heap.IsTupleIter i2 l2 k2) (hl1:s.heap.IsTuple l1 xs) (hl2:s.heap.IsTuple l2 ys) (hx:xs[k1]? = some x) (hy:ys[k2]? = none)
  (hE:∀ h' e,(∀ c o,c≠z->c≠i1->c≠i2->s.heap.get? c=some o->h'.get? c=some o)->(∃ o,h'.get? e=some o/\o.cls=.type "StopIteration")->E (.ref e) { s with heap:=h' }) :
  wpAny (model prog w) A (Builtin.«zip.__next__» ⟨[.ref z],[]⟩) Q E s:=by
 show wpAny _ _ (field (.ref z) 2 >>= _) _ _ _
 refine xO (yk hz rfl (x:=.bool false) rfl ?_)
 show wpAny _ _ (field (.ref z) 3 >>= _) _ _ _
 refine xO (yk hz rfl (x:=.ref TI) rfl ?_);refine xO (yI hTI rfl ?_)
 show wpAny _ _ (Builtin.SmallTypes.ownedTupleIsFree (.ref z) >>= _) _ _ _
 refine xO (lZ hz hT fun h₁ hz₁ hs₁=>?_);simp only[zc,if_false];refine xO ?_;simp only[List.forIn_toArray,List.forIn_cons,List.forIn_nil];refine xO (xO (yZ ?_))
 show wpAny _ _ (Builtin.SmallTypes.nextOf (.ref i1) >>= _) _ _ _
 refine xO (cD (h1.extBut hs₁.extBut D.i1z) (hl1.extBut hs₁.extBut D.l1z) hx fun h₂ h1₂ hs₂=>xR (xR ?_));refine xO (xO (yZ ?_))
 show wpAny _ _ (Builtin.SmallTypes.nextOf (.ref i2) >>= _) _ _ _
 refine xO (ik hh ((h2.extBut hs₁.extBut D.i2z).extBut hs₂.extBut D.i12.symm) ((hl2.extBut hs₁.extBut D.l2z).extBut hs₂.extBut D.l2i1) hy fun h₄ e hs₄ he=>?_);exact hE h₄ e (fun c o c1 c2 c3 x=>hs₄ _ _ c3 (hs₂.extBut _ _ c2 (hs₁.extBut _ _ c1 x))) he
theorem lW {z TI TO i1 i2 l1 l2 T:Addr}{k1 k2:Nat}{b:Bool}{oT:Obj}{xs ys:Array Value}{x y:Value}{Q:Option Value->Shared->Prop}(D:ZipApart z TI TO i1 i2 l1 l2)
  (hz:rB s.heap z TI TO (rawInt T) b) (hT:s.heap.get? T=some oT) (hTI:IsPair s.heap TI (.ref i1) (.ref i2))
  (h1:s.heap.IsTupleIter i1 l1 k1) (h2:s.heap.IsTupleIter i2 l2 k2) (hl1:s.heap.IsTuple l1 xs) (hl2:s.heap.IsTuple l2 ys) (hx:xs[k1]? = some x) (hy:ys[k2]? = some y)
  (hQ:∀ h',rB h' z TI TO (rawInt T) true->h'.IsTupleIter i1 l1 (k1+1)->h'.IsTupleIter i2 l2 (k2+1)->IsPair h' s.heap.objs.size x y->h'.objs.size=s.heap.objs.size+1 ->
   (∀ c o,c≠z->c≠i1->c≠i2->s.heap.get? c=some o->h'.get? c=some o)->Q (some (.ref s.heap.objs.size)) { s with heap:=h' }) :
  wpAny (model prog w) A (pyNext (.ref z)) Q E s:=by
 have hTy:s.TypeIs (.ref z) "zip":=⟨_,hz,rfl⟩;unfold pyNext
 exact xO (wpAny_attempt (wpAny_callSpecial?_slot (name:=Str.ofString "__next__") hTy zr
  (y6 zr hTy F.entry_zip_next
   (nQ D hz hT hTI h1 h2 hl1 hl2 hx hy fun h' a1 a3 a4 a5 a6 a7=>xR (hQ h' a1 a3 a4 a5 a6 a7)) (F.args_zip_next_1 _))))
theorem nh {z TI TO i1 i2 l1 l2 T:Addr}{k1 k2:Nat}{b:Bool}{oT:Obj}{xs ys:Array Value}{x:Value}{Q:Option Value->Shared->Prop}(hh:A.handled=none)(D:ZipApart z TI TO i1 i2 l1 l2)
  (hz:rB s.heap z TI TO (rawInt T) b) (hT:s.heap.get? T=some oT) (hTI:IsPair s.heap TI (.ref i1) (.ref i2))
  (h1:s.heap.IsTupleIter i1 l1 k1) (h2:s.heap.IsTupleIter i2 l2 k2) (hl1:s.heap.IsTuple l1 xs) (hl2:s.heap.IsTuple l2 ys) (hx:xs[k1]? = some x) (hy:ys[k2]? = none)
  (hQ:∀ h',(∀ c o,c≠z->c≠i1->c≠i2->s.heap.get? c=some o->h'.get? c=some o)->Q none { s with heap:=h' }):wpAny (model prog w) A (pyNext (.ref z)) Q E s:=by
 have hTy:s.TypeIs (.ref z) "zip":=⟨_,hz,rfl⟩;unfold pyNext
 refine xO (wpAny_attempt (wpAny_callSpecial?_slot (name:=Str.ofString "__next__") hTy zr
  (y6 zr hTy F.entry_zip_next (pR hh D hz hT hTI h1 h2 hl1 hl2 hx hy fun h' e hk he=>?_) (F.args_zip_next_1 _))))
 obtain⟨o,ho,hc⟩:=he;refine xO (wpAny_isInstance (T:="StopIteration") (b:=true) ⟨o,ho,hc⟩ isSubtype_stop ?_);exact xR (hQ _ hk)
theorem pS {R:Result->Shared->Prop}{z TI TO i1 i2 l1 l2 S:Addr}{xs ys:Array Value}(hh:A.handled=none)(D:ZipApart z TI TO i1 i2 l1 l2)(hxy:ys.size<xs.size)(hn:ys.size<=sizeLine)(res:Value)
  (hS1:S≠z) (hS2:S≠i1) (hS3:S≠i2) (hS4:S≠l1) (hS5:S≠l2) (hS6:S≠TI) :
  ∀ (k i:Nat)(s:Shared)(acc:List Addr)(arr:Array Value)(c:Nat)(T:Addr)(b:Bool),arr=(acc.map Value.ref).toArray->ys.size-i=k->i<=ys.size->rB s.heap z TI TO (rawInt T) b->T∈acc->IsPair s.heap TI (.ref i1) (.ref i2) ->
  s.heap.IsTupleIter i1 l1 i->s.heap.IsTupleIter i2 l2 i->s.heap.IsTuple l1 xs->s.heap.IsTuple l2 ys->s.heap.get? S=some { cls:=.type "list",dict:=none,data:=.seq arr c,slots:=#[] }->acc.length=i ->
  (∀ (j:Nat)(t:Addr),acc[j]? = some t->∃ x y,xs[j]? = some x/\ys[j]? = some y/\IsPair s.heap t x y)->(∀ t∈acc,t≠z/\t≠i1/\t≠i2/\t≠S)->acc.Nodup->(∀ t∈acc,t<s.heap.objs.size) ->
  (∀ (h':Heap)(acc':List Addr)(c':Nat),(∀ b o,b≠S->b≠z->b≠i1->b≠i2->s.heap.get? b=some o->h'.get? b=some o)->h'.get? S=some { cls:=.type "list",dict:=none,data:=.seq (acc'.map Value.ref).toArray c',slots:=#[] }->acc'.length=ys.size->acc'.Nodup ->
   (∀ t∈acc',t∈acc\/s.heap.objs.size<=t)->(∀ (j:Nat)(t:Addr),acc'[j]? = some t->∃ x y,xs[j]? = some x/\ys[j]? = some y/\IsPair h' t x y)->(∀ t∈acc',t≠S)->R (.ok (.ret res)) { s with heap:=h' }) ->
  codeAny (model prog w) A (.builtin "list.extend.loop" ⟨[.ref S,.ref z,res],[]⟩) R s:=by
 intro k
 induction k with
 | zero =>
  intro i s acc arr c T b harr hk hi hz hT hTI h1 h2 hl1 hl2 hS hlen hacc hap nd hlt hR
  have hin:i=ys.size:=by omega
  obtain⟨oT,hoT⟩:∃ o,s.heap.get? T=some o:=by
   obtain⟨j,hj⟩:=List.getElem?_of_mem hT;obtain⟨_,_,_,_,p⟩:=hacc j T hj;exact⟨_,p⟩
  refine zt F.entry_extend_loop ?_;rw[y2 y4 _]
  show wpAny _ A.in1 (pyNext (.ref z) >>= _) _ _ s
  refine xO (nh (A:=A.in1) hh D hz hoT hTI h1 h2 hl1 hl2 (Array.getElem?_eq_getElem (by omega)) (Array.getElem?_eq_none (by omega)) fun h' hk'=>?_);refine xR (hR h' acc c (fun b o _ b1 b2 b3 e=>hk' b o b1 b2 b3 e) (by rw[<-harr];exact hk' _ _ hS1 hS2 hS3 hS) (by omega) nd (fun t ht=>.inl ht) (fun j t e=>?_) fun t ht=>(hap t ht).2.2.2);obtain⟨x,y,e1,e2,p⟩:=hacc j t e;have ha:=hap t (yj e);exact⟨x,y,e1,e2,hk' _ _ ha.1 ha.2.1 ha.2.2.1 p⟩
 | succ k ih =>
  intro i s acc arr c T b harr hk hi hz hT hTI h1 h2 hl1 hl2 hS hlen hacc hap nd hlt hR
  obtain⟨oT,hoT⟩:∃ o,s.heap.get? T=some o:=by
   obtain⟨j,hj⟩:=List.getElem?_of_mem hT;obtain⟨_,_,_,_,p⟩:=hacc j T hj;exact⟨_,p⟩
  refine zt F.entry_extend_loop ?_;rw[y2 y4 _]
  show wpAny _ A.in1 (pyNext (.ref z) >>= _) _ _ s
  have ex:xs[i]? = some xs[i]:=Array.getElem?_eq_getElem (by omega);have ey:ys[i]? = some ys[i]:=Array.getElem?_eq_getElem (by omega);refine xO (lW (A:=A.in1) D hz hoT hTI h1 h2 hl1 hl2 ex ey fun h' z' i1' i2' pn sz keep=>?_);have hS':=keep _ _ hS1 hS2 hS3 hS
  show wpAny _ A.in1 (updateSeq S (·.push (.ref s.heap.objs.size)) >>= _) _ _ _
  refine xO ?_
  have hsa:arr.size=i:=by rw[harr];simp[hlen]
  obtain⟨h2',eh2⟩:∃ h2',h2'=h'.update S (Obj.mapSeq (·.push (Value.ref s.heap.objs.size))):=⟨_,rfl⟩
  have up:∀ b o,b≠S->h'.get? b=some o->h2'.get? b=some o:=fun b o hb e=>by rw[eh2];exact (Heap.get?_update_other _ _ (fun z=>hb z.symm)).trans e
  have hSn:S<s.heap.objs.size:=xQ hS;have hzlt:z<s.heap.objs.size:=xQ hz
  have hi1lt:i1<s.heap.objs.size:=by obtain⟨_,e,_⟩:=h1;exact xQ e
  have hi2lt:i2<s.heap.objs.size:=by obtain⟨_,e,_⟩:=h2;exact xQ e
  have sz2:h2'.objs.size=s.heap.objs.size+1:=by rw[eh2,Heap.size_update,sz]
  refine yW hS' rfl (xR ⟨ze y4 _,?_⟩) (by rw[hsa];omega) (by show (arr.push _).size<=sizeLine+1;rw[Array.size_push,hsa];omega);rw[<-eh2];have kp:∀ b o,b≠S->b≠z->b≠i1->b≠i2->s.heap.get? b=some o->h2'.get? b=some o:=fun b o b0 b1 b2 b3 e=>up b o b0 (keep b o b1 b2 b3 e)
  refine ih (i+1) { s with heap:=h2' } (acc++[s.heap.objs.size]) (arr.push (.ref s.heap.objs.size)) _ T true (by rw[harr];simp) (by omega) (by omega) (up _ _ hS1.symm z') (List.mem_append_left _ hT) (kp _ _ hS6.symm D.TIz D.TIi1 D.TIi2 hTI) (i1'.at fun o e=>up _ _ hS2.symm e) (i2'.at fun o e=>up _ _ hS3.symm e)
   (hl1.at fun o e=>kp _ _ hS4.symm D.l1z D.l1i1 D.l1i2 e) (hl2.at fun o e=>kp _ _ hS5.symm D.l2z D.l2i1 D.l2i2 e) (by show h2'.get? S=_;rw[eh2];exact Heap.get?_update_self _ hS' rfl) (by simp[hlen]) (fun j t e=>?_) (fun t ht=>?_) ?_ (fun t ht=>?_) fun h3 acc' c' k3 s3 l3 n3 m3 p3 f3=>?_
  ·rw[List.getElem?_append]at e
   split at e
   ·obtain⟨x,y,e1,e2,p⟩:=hacc j t e
    have ha:=hap t (yj e);exact⟨x,y,e1,e2,kp _ _ ha.2.2.2 ha.1 ha.2.1 ha.2.2.1 p⟩
   ·rename_i hj
    have hj0:j=i:=by
     have:=(List.getElem?_eq_some_iff.mp e).1;simp at this;omega
    subst hj0;rw[hlen,Nat.sub_self]at e;cases e;exact⟨_,_,ex,ey,up _ _ (yi hSn) pn⟩
  ·rcases ym.mp ht with q | q
   ·exact hap t q
   ·rw[x6.mp q];exact⟨yi hzlt,yi hi1lt,yi hi2lt,yi hSn⟩
  ·refine zx.mpr ⟨nd,by simp,fun a ha b hb=>?_⟩
   rw[x6.mp hb];exact x5 (hlt a ha)
  ·show t<h2'.objs.size
   rw[sz2];rcases ym.mp ht with q | q
   ·exact zw (hlt t q)
   ·rw[x6.mp q];exact zj _
  ·refine hR h3 acc' c' (fun b o b0 b1 b2 b3 e=>k3 b o b0 b1 b2 b3 (kp b o b0 b1 b2 b3 e)) s3 l3 n3 (fun t ht=>?_) p3 f3
   rcases m3 t ht with q | q
   ·rcases ym.mp q with q | q
    ·exact .inl q
    ·rw[x6.mp q];exact .inr (xT _)
   ·right;have q:h2'.objs.size<=t:=q;omega
theorem nV {R:Result->Shared->Prop}{z TI TO i1 i2 l1 l2 S:Addr}{xs ys:Array Value}(hh:A.handled=none)(D:ZipApart z TI TO i1 i2 l1 l2)(hxy:ys.size<xs.size)(h0:0<ys.size)(hn:ys.size<=sizeLine)(res:Value)
  (hS1:S≠z) (hS2:S≠i1) (hS3:S≠i2) (hS4:S≠l1) (hS5:S≠l2) (hS6:S≠TI) (hS7:S≠TO) {a b:Value} {c:Nat} (hz:IsZip s.heap z TI TO .none) (hTI:IsPair s.heap TI (.ref i1) (.ref i2)) (hTO:IsPair s.heap TO a b)
  (h1:s.heap.IsTupleIter i1 l1 0) (h2:s.heap.IsTupleIter i2 l2 0) (hl1:s.heap.IsTuple l1 xs) (hl2:s.heap.IsTuple l2 ys) (hS:s.heap.get? S=some { cls:=.type "list",dict:=none,data:=.seq #[] c,slots:=#[] })
  (hR:∀ (h':Heap)(acc':List Addr)(c':Nat),(∀ b o,b≠S->b≠z->b≠TO->b≠i1->b≠i2->s.heap.get? b=some o->h'.get? b=some o)->h'.get? S=some { cls:=.type "list",dict:=none,data:=.seq (acc'.map Value.ref).toArray c',slots:=#[] }->acc'.length=ys.size->acc'.Nodup ->
   (∀ t∈acc',s.heap.objs.size<=t)->(∀ (j:Nat)(t:Addr),acc'[j]? = some t->∃ x y,xs[j]? = some x/\ys[j]? = some y/\IsPair h' t x y)->R (.ok (.ret res)) { s with heap:=h' }) :
  codeAny (model prog w) A (.builtin "list.extend.loop" ⟨[.ref S,.ref z,res],[]⟩) R s:=by
 refine zt F.entry_extend_loop ?_;rw[y2 y4 _]
 show wpAny _ A.in1 (pyNext (.ref z) >>= _) _ _ s
 have ex:xs[0]? = some xs[0]:=Array.getElem?_eq_getElem (by omega);have ey:ys[0]? = some ys[0]:=Array.getElem?_eq_getElem (by omega);refine xO (nU (A:=A.in1) D hz hTI hTO h1 h2 hl1 hl2 ex ey fun h' z' _ i1' i2' pn sz keep=>?_);have hS':=keep _ _ hS1 hS7 hS2 hS3 hS
 show wpAny _ A.in1 (updateSeq S (·.push (.ref s.heap.objs.size)) >>= _) _ _ _
 refine xO ?_;obtain⟨h2',eh2⟩:∃ h2',h2'=h'.update S (Obj.mapSeq (·.push (Value.ref s.heap.objs.size))):=⟨_,rfl⟩
 have up:∀ b o,b≠S->h'.get? b=some o->h2'.get? b=some o:=fun b o hb e=>by rw[eh2];exact (Heap.get?_update_other _ _ (fun z=>hb z.symm)).trans e
 have hSn:S<s.heap.objs.size:=xQ hS;have hzlt:z<s.heap.objs.size:=xQ hz
 have hi1lt:i1<s.heap.objs.size:=by obtain⟨_,e,_⟩:=h1;exact xQ e
 have hi2lt:i2<s.heap.objs.size:=by obtain⟨_,e,_⟩:=h2;exact xQ e
 have sz2:h2'.objs.size=s.heap.objs.size+1:=by rw[eh2,Heap.size_update,sz]
 refine yW hS' rfl (xR ⟨ze y4 _,?_⟩) (yg _) (by show (1:Nat)<=sizeLine+1;omega);rw[<-eh2];have kp:∀ b o,b≠S->b≠z->b≠TO->b≠i1->b≠i2->s.heap.get? b=some o->h2'.get? b=some o:=fun b o b0 b1 b2 b3 b4 e=>up b o b0 (keep b o b1 b2 b3 b4 e)
 refine pS hh D hxy hn res hS1 hS2 hS3 hS4 hS5 hS6 (ys.size-1) 1 { s with heap:=h2' } [s.heap.objs.size] #[.ref s.heap.objs.size] _ s.heap.objs.size false rfl (by omega) (by omega) (up _ _ hS1.symm z') xZ (kp _ _ hS6.symm D.TIz D.TITO D.TIi1 D.TIi2 hTI) (i1'.at fun o e=>up _ _ hS2.symm e) (i2'.at fun o e=>up _ _ hS3.symm e)
  (hl1.at fun o e=>kp _ _ hS4.symm D.l1z D.l1TO D.l1i1 D.l1i2 e) (hl2.at fun o e=>kp _ _ hS5.symm D.l2z D.l2TO D.l2i1 D.l2i2 e) (by show h2'.get? S=_;rw[eh2];exact Heap.get?_update_self _ hS' rfl) rfl (fun j t e=>?_) (fun t ht=>?_) (by simp) (fun t ht=>?_) fun h3 acc' c' k3 s3 l3 n3 m3 p3 f3=>?_
 ·cases j with
  | zero=>cases e;exact⟨_,_,ex,ey,up _ _ (yi hSn) pn⟩
  | succ j=>simp at e
 ·rw[x6.mp ht];exact⟨yi hzlt,yi hi1lt,yi hi2lt,yi hSn⟩
 ·show t<h2'.objs.size
  rw[sz2,x6.mp ht];exact zj _
 ·refine hR h3 acc' c' (fun b o b0 b1 b2 b3 b4 e=>k3 b o b0 b1 b3 b4 (kp b o b0 b1 b2 b3 b4 e)) s3 l3 n3 (fun t ht=>?_) p3
  rcases m3 t ht with q | q
  ·rw[x6.mp q];exact xT _
  ·have q:h2'.objs.size<=t:=q;omega
theorem js {Q:Value->Shared->Prop}{z TI TO i1 i2 l1 l2:Addr}{xs ys:Array Value}(hh:A.handled=none)(D:ZipApart z TI TO i1 i2 l1 l2)(hxy:ys.size<xs.size)(h0:0<ys.size)(hn:ys.size<=sizeLine){a b:Value}
  (hz:IsZip s.heap z TI TO .none) (hTI:IsPair s.heap TI (.ref i1) (.ref i2)) (hTO:IsPair s.heap TO a b)
  (h1:s.heap.IsTupleIter i1 l1 0) (h2:s.heap.IsTupleIter i2 l2 0) (hl1:s.heap.IsTuple l1 xs) (hl2:s.heap.IsTuple l2 ys)
  (hQ:∀ (h':Heap)(acc':List Addr)(c':Nat),(∀ b o,b≠z->b≠TO->b≠i1->b≠i2->s.heap.get? b=some o->h'.get? b=some o)->h'.get? s.heap.objs.size=some { cls:=.type "list",dict:=none,data:=.seq (acc'.map Value.ref).toArray c',slots:=#[] }->acc'.length=ys.size->acc'.Nodup ->
   (∀ t∈acc',s.heap.objs.size<t)->(∀ (j:Nat)(t:Addr),acc'[j]? = some t->∃ x y,xs[j]? = some x/\ys[j]? = some y/\IsPair h' t x y)->Q (.ref s.heap.objs.size) { s with heap:=h' }) :
  wpAny (model prog w) A (call (.type "list") [.ref z]) Q E s:=by
 refine callType_codes (Q₁:=fun obj s1=>obj=.ref s.heap.objs.size/\s1={ s with heap:=s.heap.push { cls:=.type "list",data:=.seq #[] } }) PySem.F.called_list (PySem.F.typeCall_list_1 _) PySem.F.entry_list_init (code_list_new _ ⟨rfl,rfl⟩) fun obj s1 he=>?_;obtain⟨rfl,rfl⟩:=he;have hS:(s.heap.push { cls:=.type "list",data:=.seq #[] }).get? s.heap.objs.size=some { cls:=.type "list",data:=.seq #[] }:=Heap.get?_push_size _ rfl;refine⟨⟨_,hS,rfl⟩,PySem.F.args_list_init_2 _ _,?_⟩
 show wpAny _ _ (do let old <-Builtin.List.listItems (.ref s.heap.objs.size);Builtin.List.listUpdate (.ref s.heap.objs.size) (fun _=>#[]);letGo old.toList.reverse;Builtin.List.listExtendWith (.ref s.heap.objs.size) (.ref z) .none) _ _ _
 refine xO ?_;unfold Builtin.List.listItems;refine xO (yI hS rfl (xR ?_))
 show wpAny _ _ (updateSeq s.heap.objs.size (fun _=>#[]) >>= fun _=>letGo (#[]:Array Value).toList.reverse >>= fun _=>Builtin.List.listExtendWith (.ref s.heap.objs.size) (.ref z) .none) _ _ _
 refine xO (yW hS rfl ?_);have hS2:=Heap.get?_update_self (Obj.mapSeq (fun _=>(#[]:Array Value))) hS rfl
 have oth:∀ b o,s.heap.get? b=some o->((s.heap.push { cls:=.type "list",data:=.seq #[] }).update s.heap.objs.size (Obj.mapSeq (fun _=>(#[]:Array Value)))).get? b=some o :=
  fun b o e=>(Heap.get?_update_other _ _ (yi (xQ e))).trans (Heap.get?_push_of_some _ e)
 have szz:((s.heap.push { cls:=.type "list",data:=.seq #[] }).update s.heap.objs.size (Obj.mapSeq (fun _=>(#[]:Array Value)))).objs.size=s.heap.objs.size+1:=by rw[Heap.size_update,yq]
 refine xO (zu ?_);generalize (s.heap.push { cls:=.type "list",data:=.seq #[] }).update s.heap.objs.size (Obj.mapSeq (fun _=>(#[]:Array Value)))=g at hS2 oth szz ⊢;have zlt:z≠s.heap.objs.size:=x5 (xQ hz);have hT:Shared.TypeIs { s with heap:=g } (.ref z) "zip":=⟨_,oth _ _ hz,rfl⟩;unfold Builtin.List.listExtendWith;refine xO (wpAny_typeOf (T:="zip") hT ?_)
 have q1:Builtin.List.listSameRef (.ref s.heap.objs.size) (.ref z)=false:=by simp[Builtin.List.listSameRef,zlt.symm]
 have q2:(Value.type "zip" == Value.type "list")=false:=by decide
 have q3:(Value.type "zip" == Value.type "tuple")=false:=by decide
 simp only[q1,q2,q3,Bool.or_false,zc,if_false];refine xO (wpAny_pyIter_zip (oth _ _ hz) ?_);refine xO (yZ ?_);unfold Builtin.List.listLengthHint;refine xO (wpAny_specialOf hT sC ?_)
 show wpAny _ _ (specialOf (Value.ref z) (Str.ofString "__length_hint__") >>= _) _ _ _
 refine xO (wpAny_specialOf hT ro ?_);refine xR ?_
 show wpAny _ _ (rule "list.extend.makes-room" >>= fun _=>Builtin.List.listTouch (.ref s.heap.objs.size) >>= fun _ =>
  again (.builtin "list.extend.loop" ⟨[.ref s.heap.objs.size,.ref z,.none],[]⟩)) _ _ _
 refine xO (wpAny_rule ?_);refine xO ?_
 show wpAny _ _ (updateSeq s.heap.objs.size (·.push .none) >>= fun _=>updateSeq s.heap.objs.size (·.pop)) _ _ _
 refine xO (yW hS2 rfl ?_);have hS₂:=Heap.get?_update_self (Obj.mapSeq (·.push Value.none)) hS2 rfl;refine yW hS₂ rfl ?_;have hS₃:=Heap.get?_update_self (Obj.mapSeq (·.pop)) hS₂ rfl
 have oth2:∀ b o,s.heap.get? b=some o->((g.update s.heap.objs.size (Obj.mapSeq (·.push Value.none))).update s.heap.objs.size (Obj.mapSeq (·.pop))).get? b=some o :=
  fun b o e=>(Heap.get?_update_other _ _ (yi (xQ e))).trans ((Heap.get?_update_other _ _ (yi (xQ e))).trans (oth b o e))
 have szz2:((g.update s.heap.objs.size (Obj.mapSeq (·.push Value.none))).update s.heap.objs.size (Obj.mapSeq (·.pop))).objs.size=s.heap.objs.size+1:=by rw[Heap.size_update,Heap.size_update,szz]
 generalize (g.update s.heap.objs.size (Obj.mapSeq (·.push Value.none))).update s.heap.objs.size (Obj.mapSeq (·.pop))=g2 at hS₃ oth2 szz2 ⊢
 have li1:i1≠s.heap.objs.size:=by obtain⟨_,e,_⟩:=h1;exact x5 (xQ e)
 have li2:i2≠s.heap.objs.size:=by obtain⟨_,e,_⟩:=h2;exact x5 (xQ e)
 have ll1:l1≠s.heap.objs.size:=by obtain⟨_,e,_⟩:=hl1;exact x5 (xQ e)
 have ll2:l2≠s.heap.objs.size:=by obtain⟨_,e,_⟩:=hl2;exact x5 (xQ e)
 refine xR ⟨ze y4 _,?_⟩;refine nV (A:=A.in1) (s:={ s with heap:=g2 }) (S:=s.heap.objs.size) hh D hxy h0 hn .none zlt.symm li1.symm li2.symm ll1.symm ll2.symm (yi (xQ hTI)) (yi (xQ hTO)) (oth2 _ _ hz) (oth2 _ _ hTI) (oth2 _ _ hTO) (h1.at fun o e=>oth2 _ _ e) (h2.at fun o e=>oth2 _ _ e) (hl1.at fun o e=>oth2 _ _ e) (hl2.at fun o e=>oth2 _ _ e) hS₃ fun h' acc' c' k3 s3 l3 n3 m3 p3=>?_;refine⟨rfl,hQ h' acc' c' (fun b o b1 b2 b3 b4 e=>k3 b o (x5 (xQ e)) b1 b2 b3 b4 (oth2 b o e)) s3 l3 n3 (fun t ht=>?_) p3⟩;have:=m3 t ht;have this:g2.objs.size<=t:=this;omega
end
def pP (K:PySem.W.Frag)(t:TA):TE:=fun σ H Q=>t σ H fun vs H1=>∃ (a b:Addr)(xs ys:List V),vs=[.ref a,.ref b]/\aI K H1 a xs/\aI K H1 b ys/\ys.length<xs.length/\0<ys.length /\
 ∀ (l:Addr)(ts:List Addr)(H':Hp),H1 l=none->(∀ c o,H1 c=some o->H' c=some o)->H' l=some (.lst (ts.map V.ref))->Paired (fun t (p:V×V)=>H' t=some (.tup [p.1,p.2])) ts (xs.zip ys)->Q (.ref l) H'
theorem mf {X:Cx}{e:Expr}{es:List Expr}{t:TA}{p p2 pos pos2:Pos}(hc:X.calm=true)(ha:PA X (e::es) t)(hg:Gl X "list")(hm:X.mg "list" = none)(hg2:Gl X "zip")(hm2:X.mg "zip" = none)
  (he:starEach (e::es) X.env=(false,eval e X.env)::starEach es X.env:=by rfl) (hpl:(backTo pos2 (starEach es X.env)).any (·.1)=false:=by rfl)
  (hs2:starEach [.Call (.Name "zip" p2) (e::es) [] pos2] X.env=[(false,eval (.Call (.Name "zip" p2) (e::es) [] pos2) X.env)]:=by rfl) :
  PE X (.Call (.Name "list" p) [.Call (.Name "zip" p2) (e::es) [] pos2] [] pos) (pP X.K t):=by
 intro pins s σ H Q I h;refine yJ (dr I hg hm boot_list ?_ (by decide) (by decide));refine yp ?_ hs2 rfl;rw[hs2];refine spliced_cons (yJ (dr I hg2 hm2 boot_zip ?_ (by decide) (by decide)));refine yp (aU (ha pos2 pins s σ H _ I h) fun us s1 ⟨vs,H1,I1,r1,a,b,xs,ys,ev,hqa,hqb,hlt,h0,q⟩=>?_) he hpl;subst ev;obtain⟨u1,u2,rfl,ru1,ru2⟩:=r1.two;cases ru1;cases ru2;obtain⟨ita,rva,pla,hza⟩:=I1.tuple hqa;obtain⟨itb,rvb,plb,hzb⟩:=I1.tuple hqb;have la:=rva.length;have lb:=rvb.length;have pla:s1.heap.IsTuple a ita.toArray:=pla;have plb:s1.heap.IsTuple b itb.toArray:=plb
 have lta:a<s1.heap.objs.size:=by obtain⟨o,e,_⟩:=id pla;exact xQ e
 have ltb:b<s1.heap.objs.size:=by obtain⟨o,e,_⟩:=id plb;exact xQ e
 refine pb pla plb fun h1 z1 t1 t2 i1 i2 sz k1=>spliced_nil ?_;refine js (s:={ s1 with heap:=h1 }) (I1.ok.hd hc) (zipApart_new lta ltb) (by simpa using (show itb.length<ita.length by omega)) (by simpa using (show 0<itb.length by omega)) (by simpa using (show itb.length<=sizeLine by omega)) z1 t1 t2 i1 i2 (Heap.IsTuple.at pla fun o e=>k1 _ _ e) (Heap.IsTuple.at plb fun o e=>k1 _ _ e) fun h' ts c' k2 s2 l2 n2 m2 p2=>?_
 have l2:ts.length=itb.length:=by simpa using l2
 have m2:∀ t∈ts,h1.objs.size<t:=m2;have s2:h'.get? h1.objs.size=some { cls:=.type "list",dict:=none,data:=.seq (ts.map Value.ref).toArray c',slots:=#[] }:=s2
 have kk:∀ c o,s1.heap.get? c=some o->h'.get? c=some o:=fun c o e=>by
  have hc:c<s1.heap.objs.size:=xQ e;exact k2 c o (x5 (yc hc (Nat.le_add_right _ _))) (x5 (yc hc (Nat.le_add_right _ _))) (x5 hc) (x5 (yc hc (Nat.le_add_right _ _))) (k1 c o e)
 have ln:h1.objs.size∉ts:=fun hm=>zd _ (m2 _ hm)
 have lz:(xs.zip ys).length=ts.length:=by rw[List.length_zip];omega
 have out:∀ c,c<s1.heap.objs.size->aH (gd H1 ts (xs.zip ys)) h1.objs.size (.lst (ts.map V.ref)) c=H1 c:=fun c hc=>by
  have hne:c≠h1.objs.size:=by omega
  have hnm:c∉ts:=fun hm=>by have:=m2 c hm;omega
  rw[ak hne,jC hnm]
 refine⟨.ref h1.objs.size,aH (gd H1 ts (xs.zip ys)) h1.objs.size (.lst (ts.map V.ref)),?_,rfl,?_⟩
 ·refine I1.grown kk (fun c u e n=>by rw[out c (xQ e)];exact n) (fun c o e=>by rw[out c (I1.hok c o e).lt];exact e) fun c o e n=>?_
  by_cases hb:c=h1.objs.size
  ·subst hb
   rw[aa]at e;cases e;refine⟨by rw[xP];omega,ts.map Value.ref,c',?_,s2⟩
   exact jo (by simp) fun i y v e1 e2=>by
    rw[List.getElem?_map]at e1 e2
    cases hts:ts[i]? with
    | none=>rw[hts]at e1;cases e1
    | some t=>rw[hts]at e1 e2;cases e1;cases e2;exact rfl
  ·rw[ak hb]at e
   by_cases hm:c∈ts
   ·obtain⟨j,pp,e1,e2,rfl⟩:=ox n2 hm e n
    obtain⟨x,y,ex,ey,ip⟩:=p2 j c e1;obtain⟨f1,f2⟩:=List.getElem?_zip_eq_some.mp e2;obtain⟨v1,g1,w1⟩:=rva.get f1;obtain⟨v2,g2,w2⟩:=rvb.get f2
    have ex:ita[j]? = some x:=by simpa using ex
    have ey:itb[j]? = some y:=by simpa using ey
    rw[ex]at g1;cases g1;rw[ey]at g2;cases g2;exact⟨(show 2<=sizeLine by decide),[x,y],.cons w1 (.cons w2 .nil),⟨_,ip,rfl,_,rfl⟩⟩
   ·rw[jC hm,n]at e;cases e
 ·refine q _ ts _ (I1.hok.fresh (by omega)) (fun c o e=>by rw[out c (I1.hok c o e).lt];exact e) aa ?_
  have pr:=jD (H:=H1) n2 lz.symm
  have key:∀ {us:List Addr}{qs:List (V×V)}{R S:Addr->V×V->Prop},(∀ u∈us,∀ q,R u q->S u q)->Paired R us qs->Paired S us qs:=fun {us qs R S} hRS pr=>by
   induction pr with
   | nil=>exact .nil
   | cons r _ ih=>exact .cons (hRS _ xZ _ r) (ih fun u hu=>hRS u (xY _ hu))
  exact key (fun u hu q e=>by rw[ak (fun z=>ln (by rw[<-z];exact hu))];exact e) pr
theorem sv {X:Cx}(K:PySem.W.Frag)(hK:X.K=K:=by rfl):vU X (vC K):=by subst hK;exact nJ
end L2
namespace Wz
open PySem L2
inductive aJ where
 | pair (a b:Int)
 | line (gs:List Int)
 | star (gs:List Int)
 | all (gs:List Int)
 | quad (a b c d:Int)
def aJ.word:aJ->Str
 | .pair _ _=>"pair"
 | .line _=>"line"
 | .star _=>"star"
 | .all _=>"all"
 | .quad _ _ _ _=>"quad"
def aJ.gs:aJ->List Int
 | .pair a b=>[a,b]
 | .line g=>g
 | .star g=>g
 | .all g=>g
 | .quad a b c d=>[a,b,c,d]
def aJ.isP:aJ->Bool
 | .pair _ _=>true
 | _=>false
def gv:List Int->List (Int×Int)
 | []=>[]
 | g::gs=>gs.map (fun o=>(g,o))++gv gs
def aJ.row:aJ->List (Int×Int)
 | .pair a b=>[(a,b)]
 | .line g=>g.zip (g.drop 1)
 | .star g=>(g.drop 1).map fun o=>(g.headD 0,o)
 | .all g=>gv g
 | .quad a b c d=>sR a b c d
def aJ.Ok (f:aJ):Prop:=2<=f.gs.length/\f.gs.length<=60/\∀ a b c d,f=.quad a b c d->[a,b,c,d].Nodup
def fV (H:Hp)(p:Addr):aJ->Prop
 | .pair a b=>H p=some (.tup [.str "pair",.int a,.int b])
 | f=>∃ q,H p=some (.tup [.str f.word,.ref q])/\H q=some (.tup (f.gs.map V.int))
theorem fV.of {H:Hp}{p q:Addr}{f:aJ}(n:f.isP=false)(h1:H p=some (.tup [.str f.word,.ref q]))(h2:H q=some (.tup (f.gs.map V.int))):fV H p f:=by
 cases f<;>first | exact⟨q,h1,h2⟩ | cases n
theorem fV.hd {H:Hp}{p:Addr}{f:aJ}(h:fV H p f):∃ xs,H p=some (.tup (.str f.word::xs)):=by
 cases f with
 | pair a b=>exact⟨_,h⟩
 | _=>obtain⟨q,e,_⟩:=h;exact⟨_,e⟩
theorem aJ.nw (f:aJ):f.word≠"back"/\f.word≠"row"/\f.word≠"name":=by
 cases f<;>(dsimp only[aJ.word];refine⟨?_,?_,?_⟩<;>decide +kernel)
theorem jE:∀ g:List Int,2*(gv g).length=g.length*(g.length-1)
 | []=>rfl
 | a::g=>by
  have ih:=jE g
  show 2*(g.map (fun o=>(a,o))++gv g).length=_
  rw[x3,xP,Nat.mul_add,ih,yt]
  cases hn:g.length with
  | zero=>rfl
  | succ m =>
   show 2*(m+1)+(m+1)*m=(m+1+1)*(m+1)
   rw[Nat.mul_comm 2,<-Nat.mul_add,Nat.add_comm 2,Nat.mul_comm]
theorem aJ.rl {f:aJ}(ok:f.Ok):f.row.length<=2000:=by
 have ok:=ok.2.1
 cases f with
 | pair a b=>show (1:Nat)<=2000;decide
 | line g=>show (g.zip (g.drop 1)).length<=2000;rw[List.length_zip];have:g.length<=60:=ok;omega
 | star g=>show ((g.drop 1).map _).length<=2000;rw[xP,yx];have:g.length<=60:=ok;omega
 | all g =>
  have h:=jE g;have:g.length<=60:=ok;have:=Nat.mul_le_mul this (show g.length-1<=59 by omega)
  show (gv g).length<=2000
  omega
 | quad a b c d=>show (6:Nat)<=2000;decide
theorem RD.succ {K:PySem.W.Frag}{H:Hp}:∀ {n:Nat}{v:V}{d:Dt},RD K H n v d->RD K H (n+1) v d
 | 0,_,_,h=>.inl h
 | _+1,_,_,.inl h=>.inl h
 | _+1,_,_,.inr ⟨a,t,xs,ds,e1,e2,q,p⟩=>.inr ⟨a,t,xs,ds,e1,e2,q,Paired.mapP p fun _ _ z=>RD.succ z⟩
theorem il {g:List V}(n:Nat)(hn:0<n)(hg:0<g.length):¬ (HT.sIx g.length 0 (some (n:Int))=0/\HT.sIx g.length g.length none=g.length):=by
 rw[HT.sIx_nat];omega
theorem gK {α β:Type}{R:Addr->β->Prop}{f:α->β}:∀ {ts:List Addr}{ps:List α},Paired R ts (ps.map f)->Paired (fun t p=>R t (f p)) ts ps
 | [],[],_=>.nil
 | [],_::_,h=>nomatch h
 | _::_,[],h=>nomatch h
 | _::_,_::_,.cons a b=>.cons a (gK b)
theorem rp (a b:List Int):(a.map V.int).zip (b.map V.int)=(a.zip b).map fun p=>(V.int p.1,V.int p.2):=by
 rw[List.zip_map];rfl
structure BA where
 dx:Addr
 d1:Addr
 d2:Addr
 d3:Addr
def kN (a b c:V):List (Str×V):=[("figures",a),("lengths",b),("rows",c)]
theorem wv:¬ (("figures" : Str)="lengths"):=by decide +kernel
theorem xj:¬ (("figures" : Str)="rows"):=by decide +kernel
theorem xk:¬ (("lengths" : Str)="rows"):=by decide +kernel
theorem lH {a b c:V}:cE "rows" c (cE "lengths" b (cE "figures" a []))=kN a b c:=by
 unfold kN;simp only[cE];rw[xV wv];simp only[cE];rw[xV xj,xV xk]
theorem tP {a b:V}:cE "lengths" b (cE "figures" a [])=([("figures",a),("lengths",b)]:List (Str×V)):=by
 simp only[cE];rw[xV wv]
theorem jr {a b c:V}:(kN a b c).lookup ("figures" : Str)=some a:=by
 rw[<-lH,aW,xV xj,aW,xV wv,aW,x4 rfl]
theorem eY {a b c:V}{m:Str}(q:¬ m="figures"/\¬ m="lengths"/\¬ m="rows"):(kN a b c).lookup m=none:=by
 rw[<-lH,aW,xV q.2.2,aW,xV q.2.1,aW,xV q.1];rfl
inductive ls (vs:List V) (H:Hp) (Q:VK) (E_:XK):Prop
 | mk (p:Addr) (f:aJ) (h_0:vs=[.ref p]) (h_1:fV H p f) (h_2:f.Ok) (h_3:Q (.int f.row.length) H):ls vs H Q E_
inductive lv (vs:List V) (H:Hp) (Q:VK) (E_:XK):Prop
 | mk (p:Addr) (f:aJ) (h_0:vs=[.ref p]) (h_1:fV H p f) (h_2:f.Ok) (h_3:∀ (l:Addr)(H':Hp),H l=none->ay H H'->cP H' l f.row->Q (.ref l) H'):lv vs H Q E_
inductive jm (vs:List V) (H:Hp) (Q:VK) (E_:XK):Prop
 | mk (d:Int) (h_0:vs=[.int d]) (h_1:0<=d) (h_2:∀ (l:Addr)(rs:List Int),H l=none->2<=rs.length->rs.length<=60->(∀ r∈rs,0<=r/\r<12)->Q (.ref l) (aH H l (.lst (rs.map V.int)))):jm vs H Q E_
inductive lA (vs:List V) (H:Hp) (Q:VK) (E_:XK):Prop
 | mk (d c:Int) (h_0:vs=[.int d,.int c]) (h_1:0<=d) (h_2:∀ (p:Addr)(f:aJ)(H':Hp),H p=none->ay H H'->fV H' p f->f.Ok->Q (.ref p) H'):lA vs H Q E_
structure wU (K:PySem.W.Frag)(mg:Str->Option Value)(ck:Addr):Prop where
 cl:nX K ck
 nF:d4 K ck "figures"
 nL:d4 K ck "lengths"
 nR:d4 K ck "rows"
 mF:mg "FigureBook" = some (.ref ck)
end Wz
namespace Qs
open PySem PySem.W PyProof.Rows
abbrev Q4:=Int×Int×Int×Int
def q0:Q4:=(0,0,0,0)
def xA (p q:Q4):Bool:=decide (p.1<q.1\/(p.1=q.1/\(p.2.1<q.2.1\/(p.2.1=q.2.1/\(p.2.2.1<q.2.2.1\/(p.2.2.1=q.2.2.1/\p.2.2.2<q.2.2.2))))))
def xx (h:Heap)(v:Value)(p:Q4):Prop:=∃ (b:Addr)(o:Obj)(n:Nat)(t1 t2 t3 t4:Tok),v=.ref b/\h.get? b=some o/\o.cls=.type "tuple"/\o.data=.seq #[.int p.1 t1,.int p.2.1 t2,.int p.2.2.1 t3,.int p.2.2.2 t4] n
open Classical in
noncomputable def decQ (h:Heap) (v:Value):Q4:=if z:∃ p,xx h v p then choose z else q0
def vV (vs:List Value)(ps:List Q4)(out:List Value):Prop:=∃ ix:List Nat,ix.Perm (List.range vs.length)/\out=ix.map (fun i=>vs.getD i Value.none)/\(ix.map fun i=>ps.getD i q0).Pairwise (fun a b=>xA a b=true)
end Qs
namespace L2
open PySem PySem.Spec PyProof.Rows
def oX (lo:Int)(n:Nat):It:=⟨fun i _=>i<n,fun i H x H'=>H'=H/\x=.int (lo+(i:Nat)*2),fun i _=>n<=i⟩
theorem my {P:Program}{w:World}{K:PySem.W.Frag}{tg:Expr}(it:Addr)(lo:Int)(n:Nat):lG P w K tg (oX lo n) [it] it (fun i h=>IsRangeIter h it (lo+(i:Nat)*2) ((n:Int)-(i:Nat)) 2) where
 mem:=by simp
 obj:=fun i h st b hb=>by
  have e:b=it:=by simpa using hb
  subst e
  exact⟨_,st,fun v z=>by
   have z':Data.fields _=Data.cell v:=z
   cases z'⟩
 keep:=fun i h h' st k=>k it (by simp) _ st
 item:=by
  intro X hP hw hK hc i pins s σ H E I hf st hg;subst hP hw hK;obtain⟨f0,f1,f2,f3,f4,f5⟩:=hf it (by simp);have W:=Walks.range (prog:=X.prog) (w:=X.w) (I.ok.hd hc) it lo 2 n;refine W.item i s _ _ hg st fun v h' tk hv st' kk=>?_;obtain⟨t,rfl⟩:=hv;have I1:am X pins σ H { s with heap:=h',toks:=tk }:=I.turned (fun b o hb e=>kk b o (by simpa using hb) e) f0 f1 f3 f4 f5;exact⟨_,rfl,lL (s:={ s with heap:=h',toks:=tk }) (n:="range_iterator") st' rfl rfl (by decide) ⟨.int (lo+(i:Nat)*2),H,I1,⟨t,rfl⟩,⟨rfl,rfl⟩,st',fun b hb=>(hf b hb).1⟩⟩
 done:=by
  intro X hP hw hK hc i pins s σ H E I hf st hg;subst hP hw hK;obtain⟨f0,f1,f2,f3,f4,f5⟩:=hf it (by simp);exact wpAny_pyNext_range_end (I.ok.hd hc) st (by have:n<=i:=hg;omega) fun h' eb=>⟨rfl,I.turned (t':=s.toks) (fun b o hb e=>eb b o hb e) f0 f1 f3 f4 f5⟩
 self:=fun _ _ _ _ _ st h=>wpAny_pyIter_rangeiter st h
section
variable {X:Cx}{tg:Expr}
def vh (ta:TA):TI:=fun σ H R=>ta σ H fun vs H1=>∃ i j:Int,vs=[.int i,.int j,.int 2]/\(-(2 ^ 40)<=i/\i<2 ^ 40/\-(2 ^ 40)<=j/\j<2 ^ 40)/\R (oX i (Builtin.Range.rangeSize i j 2).toNat) H1
theorem dO (a b:Int):Builtin.Range.rangeSize a b 2=if a<b then (b-a-1)/2+1 else 0:=by
 unfold Builtin.Range.rangeSize;rw[x4 (by decide)]
theorem pN {a b:Int}(h1 : -(2 ^ 40)<=a)(h2:a<2 ^ 40)(h3 : -(2 ^ 40)<=b)(h4:b<2 ^ 40):Builtin.Range.small a b 2=true:=by
 unfold Builtin.Range.small;rw[dO];simp only[Builtin.Range.rangeFitsLong,y0,Bool.or_eq_true,decide_eq_true_eq,zz,show (2:Int)>0 by decide,if_true];split<;>omega
theorem pL {pins:List (Addr×Obj)}{σ:St}{H:Hp}{s:Shared}{R:It->Hp->Prop}{E:Value->Shared->Prop}{lo hi:Int}{t u v:Tok}{tk:Nat}(I:am X pins σ H s)(h1 : -(2 ^ 40)<=lo)(h2:lo<2 ^ 40)(h3 : -(2 ^ 40)<=hi)(h4:hi<2 ^ 40)
  (q:R (oX lo (Builtin.Range.rangeSize lo hi 2).toNat) H):wpAny (model X.prog X.w) X.A (pyIter (.ref s.heap.objs.size)) (wf X pins σ tg R) E { s with heap:=s.heap.push { cls:=.type "range",data:=.fields #[.int lo t,.int hi u,.int 2 v] },toks:=tk }:=by
 refine wpAny_pyIter_range (IsRange.new ..) (pN h1 h2 h3 h4) ?_;have I1:am X pins σ H { s with heap:=s.heap.push { cls:=.type "range",data:=.fields #[.int lo t,.int hi u,.int 2 v] },toks:=tk }:=I.kept fun b o e=>Heap.get?_push_of_some _ e
 refine⟨(s.heap.push { cls:=.type "range",data:=.fields #[.int lo t,.int hi u,.int 2 v] }).objs.size,[(s.heap.push { cls:=.type "range",data:=.fields #[.int lo t,.int hi u,.int 2 v] }).objs.size],_,_,H,rfl,
  I1.kept (t':=tk) fun b o e=>Heap.get?_push_of_some _ e,my _ lo (Builtin.Range.rangeSize lo hi 2).toNat,?_,fun b hb=>?_,q⟩
 ·have e1:lo+((0:Nat):Int)*2=lo:=by simp
  have e2:(((Builtin.Range.rangeSize lo hi 2).toNat:Nat):Int)-((0:Nat):Int)=Builtin.Range.rangeSize lo hi 2:=by rw[dO];split<;>omega
  show IsRangeIter _ _ (lo+((0:Nat):Int)*2) ((((Builtin.Range.rangeSize lo hi 2).toNat:Nat):Int)-((0:Nat):Int)) 2
  rw[e1,e2];exact Heap.get?_push_size _ rfl
 ·have e:b=(s.heap.push { cls:=.type "range",data:=.fields #[.int lo t,.int hi u,.int 2 v] }).objs.size:=by simpa using hb
  subst e;exact I1.fpOk (xT _) (I1.hok.fresh (xT _))
theorem pI {a b c:Expr}{ta:TA}{p pos:Pos}(hg:Gl X "range")(hm:X.mg "range" = none)(ha:PA X [a,b,c] ta)(hs:starEach [a,b,c] X.env=[(false,eval a X.env),(false,eval b X.env),(false,eval c X.env)]:=by rfl)(hs2:starEach [b,c] X.env=[(false,eval b X.env),(false,eval c X.env)]:=by rfl) :
  PI X tg (.Call (.Name "range" p) [a,b,c] [] pos) (vh ta):=by
 intro pins s σ H R I h;refine Call_ (dr I hg hm boot_range (yp (aU (ha pos pins s σ H _ I h) fun us s1 ⟨vs,H1,I1,r1,q1⟩=>?_) (by rw[hs,hs2]) (by rw[hs2];rfl)));obtain⟨i,j,e,⟨q1,q2,q3,q4⟩,q⟩:=q1;subst e
 cases r1 with
 | cons r rr =>
  cases rr with
  | cons r' rr =>
   cases rr with
   | cons r'' rr =>
    cases rr;obtain⟨t,rfl⟩:=r;obtain⟨t',rfl⟩:=r';obtain⟨t'',rfl⟩:=r'';exact call_range_3 (by decide) (pL I1 q1 q2 q3 q4 q)
end
theorem mV {lo:Int}{n:Nat}{g:TG}{tb:TS}{D:fL}{σ:St}{H:Hp}(Pv:Nat->St->Hp->Prop)(h0:Pv 0 σ H)
  (hs:∀ i σ H,i<n->Pv i σ H->g (.int (lo+(i:Nat)*2)) σ H fun σ2 H2=>tb { D with nx:=Pv (i+1),ct:=Pv (i+1),bk:=D.nx } σ2 H2) (hd:∀ σ H,Pv n σ H->D.nx σ H) :
  ∃ W:Nat->Nat->St->Hp->Prop,(∃ m,W 0 m σ H)/\∀ i m σ H,W i m σ H ->
   ((oX lo n).stop i H/\D.nx σ H)\/((oX lo n).go i H/\∃ N:St->Hp->Prop,(∀ σ' H',N σ' H'->∃ m',m'<m/\W (i+1) m' σ' H')/\∀ x H',(oX lo n).yld i H x H'->g x σ H' fun σ2 H2=>tb { D with nx:=N,ct:=N,bk:=D.nx } σ2 H2):=by
 refine⟨fun i m σ H=>m=n-i/\i<=n/\Pv i σ H,⟨n,by simp,yg _,h0⟩,?_⟩;rintro i m σ H ⟨rfl,hi,p⟩
 by_cases hlt:i<n
 ·refine .inr ⟨hlt,Pv (i+1),fun σ' H' p'=>⟨n-(i+1),by omega,rfl,hlt,p'⟩,fun x H' y=>?_⟩
  obtain⟨e,y⟩:=y;subst e y;exact hs i σ _ hlt p
 ·have e:i=n:=by omega
  subst e;exact .inl ⟨xT _,hd σ H p⟩
section
variable {prog:Program}{w:World}{A:Around}{R:Result->Shared->Prop}{I:Addr}{fp wr:List Addr}{n:Nat}{P:Nat->Value->Prop}{St:Nat->Heap->Prop}
abbrev vj (I S:Addr)(d:Value):Code:=.builtin "max.loop" ⟨[.ref I,.none,.ref S],[("default",d)]⟩
theorem pD (W:Walks prog w A.in1 I fp wr n P St)(bt:Nat->Nat->Bool)(cmp:CmpOf prog w A.in1 .Gt P bt)(d:Value)(S:Addr)(nS:S∉fp) :
  ∀ (m j:Nat)(s:Shared)(v:Value)(c:Nat),m+(j+1)=n->St (j+1) s.heap->P (argBest bt j) v ->
  s.heap.get? S=some { cls:=.type "list",dict:=none,data:=.seq #[v,v] c,slots:=#[] } ->
  (∀ u h' tk,P (argBest bt (n-1)) u->(∀ b o,b∉wr->b≠S->s.heap.get? b=some o->h'.get? b=some o)->R (.ok (.ret u)) { s with heap:=h',toks:=tk })->codeAny (model prog w) A (vj I S d) R s:=by
 have nW:S∉wr:=fun z=>nS (W.sub _ z)
 have nm:(toString "max"++toString ".loop" : String)="max.loop":=by decide
 intro m
 induction m with
 | zero =>
  intro j s v c e st pv hS k
  have e:j+1=n:=by omega
  refine zt F.entry_max_loop ?_;rw[y2 y9 _]
  show wpAny _ A.in1 (seqItems? (.ref S) >>= _) _ _ s
  refine xO (yI hS rfl ?_)
  show wpAny _ A.in1 (tryCatch (pyNext (.ref I)) _ >>= _) _ _ s
  refine xO (wpAny_tryCatch (W.done s _ _ (e▸st) fun h1 t1 k1=>?_));have hS1:=k1 S _ nW hS
  show wpAny _ A.in1 (updateSeq S (fun _=>#[]) >>= _) _ _ _
  refine xO (yW hS1 rfl (xO (zu (xR ?_))));exact k v _ t1 (by rw[<-e];exact pv) fun b o b1 b2 z=>(Heap.get?_update_other _ _ (yo b2)).trans (k1 b o b1 z)
 | succ m ih =>
  intro j s v c e st pv hS k;refine zt F.entry_max_loop ?_;rw[y2 y9 _]
  show wpAny _ A.in1 (seqItems? (.ref S) >>= _) _ _ s
  refine xO (yI hS rfl ?_)
  show wpAny _ A.in1 (tryCatch (pyNext (.ref I)) _ >>= _) _ _ s
  refine xO (wpAny_tryCatch (W.item (j+1) s _ _ (by omega) st fun u h1 t1 pu st1 k1=>?_));have hS1:=k1 S _ nW hS
  show wpAny _ A.in1 (tryCatch (holding [u,u] (richCompare .Gt u v >>= _)) _ >>= _) _ _ _
  refine xO (wpAny_tryCatch (yZ (xO (cmp (j+1) (argBest bt j) u v _ _ _ pu pv ?_))));refine xO (yZ (yF ?_));refine xO (zu (xR ?_))
  cases q:bt (j+1) (argBest bt j) with
  | true =>
   simp only[if_true];refine xO (yW hS1 rfl (xO (zu ?_)));rw[nm];refine xR ⟨ze y9 _,ih (j+1) _ u _ (by omega) (W.frame _ _ _ st1 fun b hb o z=>(Heap.get?_update_other _ _ (fun y:S=b=>nS (by rw[y];exact hb))).trans z) (by simp only[argBest,q,if_true];exact pu) (Heap.get?_update_self _ hS1 rfl) fun u2 h2 t2 p2 k2=>?_⟩;exact k u2 h2 t2 p2 fun b o b1 b2 z=>k2 b o b1 b2 ((Heap.get?_update_other _ _ (yo b2)).trans (k1 b o b1 z))
  | false =>
   simp only[zc,if_false];refine xO (zu ?_);rw[nm];refine xR ⟨ze y9 _,ih (j+1) _ v c (by omega) st1 (by simp only[argBest,q,zc,if_false];exact pv) hS1 fun u2 h2 t2 p2 k2=>?_⟩;exact k u2 h2 t2 p2 fun b o b1 b2 z=>k2 b o b1 b2 (k1 b o b1 z)
theorem m8 (W:Walks prog w A.in1 I fp wr n P St)(bt:Nat->Nat->Bool)(cmp:CmpOf prog w A.in1 .Gt P bt)(d:Value)(S:Addr)(nS:S∉fp){s:Shared}{c:Nat}(st:St 0 s.heap)
  (hS:s.heap.get? S=some { cls:=.type "list",dict:=none,data:=.seq #[] c,slots:=#[] })
  (k0:n=0->∀ h' tk,(∀ b o,b∉wr->b≠S->s.heap.get? b=some o->h'.get? b=some o)->R (.ok (.ret d)) { s with heap:=h',toks:=tk })
  (k:0<n->∀ u h' tk,P (argBest bt (n-1)) u->(∀ b o,b∉wr->b≠S->s.heap.get? b=some o->h'.get? b=some o)->R (.ok (.ret u)) { s with heap:=h',toks:=tk }):codeAny (model prog w) A (vj I S d) R s:=by
 have nW:S∉wr:=fun z=>nS (W.sub _ z)
 have nm:(toString "max"++toString ".loop" : String)="max.loop":=by decide
 refine zt F.entry_max_loop ?_;rw[y2 y9 _]
 show wpAny _ A.in1 (seqItems? (.ref S) >>= _) _ _ s
 refine xO (yI hS rfl ?_)
 show wpAny _ A.in1 (tryCatch (pyNext (.ref I)) _ >>= _) _ _ s
 by_cases n0:n=0
 ·refine xO (wpAny_tryCatch (W.done s _ _ (n0▸st) fun h1 t1 k1=>?_))
  exact xO (wpAny_rule (xR (k0 n0 _ t1 fun b o b1 b2 z=>k1 b o b1 z)))
 ·refine xO (wpAny_tryCatch (W.item 0 s _ _ (by omega) st fun u h1 t1 pu st1 k1=>?_))
  have hS1:=k1 S _ nW hS
  show wpAny _ A.in1 (updateSeq S (fun _=>#[u,u]) >>= _) _ _ _
  refine xO (yW hS1 rfl ?_);rw[nm];refine xR ⟨ze y9 _,pD W bt cmp d S nS (n-1) 0 _ u _ (by omega) (W.frame _ _ _ st1 fun b hb o z=>(Heap.get?_update_other _ _ (fun y:S=b=>nS (by rw[y];exact hb))).trans z) pu (Heap.get?_update_self _ hS1 rfl) fun u2 h2 t2 p2 k2=>?_⟩;exact k (by omega) u2 h2 t2 p2 fun b o b1 b2 z=>k2 b o b1 b2 ((Heap.get?_update_other _ _ (yo b2)).trans (k1 b o b1 z))
end
theorem p9 (a d:Value):checkBuiltinCall "max" ⟨[a],[("default",d)]⟩=pure ():=by kernel_rfl
section
variable {prog:Program}{w:World}{A:Around}{E:Value->Shared->Prop}{s:Shared}
theorem o7 {x d:Value}{Q:Value->Shared->Prop}
  (h:wpAny (model prog w) A.in1 (pyIter x) (fun it s2=>∃ I fp wr n P St bt,it=.ref I/\Walks prog w A.in1 I fp wr n P St/\St 0 s2.heap/\(∀ b∈fp,b<s2.heap.objs.size)/\CmpOf prog w A.in1 .Gt P bt /\
   (n=0->∀ h' tk,(∀ b o,b∉wr->s2.heap.get? b=some o->h'.get? b=some o)->Q d { s2 with heap:=h',toks:=tk }) /\
   (0<n->∀ v h' tk,P (argBest bt (n-1)) v->(∀ b o,b∉wr->s2.heap.get? b=some o->h'.get? b=some o)->Q v { s2 with heap:=h',toks:=tk })) E s) :
  wpAny (model prog w) A (call (.builtin "max") [x] [("default",d)]) Q E s:=by
 have nm:(toString "max"++toString ".loop" : String)="max.loop":=by decide
 refine wpAny_call (codeAny_call_builtin F.plain_max F.entry_max (wpAny_of_eq (p9 x d) ?_))
 show wpAny _ A.in1 (Builtin.Builtins.bindParams "max" ["key","default"] 0 ⟨[],[("default",d)]⟩ >>= _) _ _ s
 refine xO (wpAny_of_eq (show Builtin.Builtins.bindParams "max" ["key","default"] 0 ⟨[],[("default",d)]⟩=pure [none,some d] from rfl) ?_);refine xO (xR (xO (yh h (fun it s2 h2=>?_) fun _ _ e=>e)));obtain⟨I,fp,wr,n,P,St,bt,rfl,W,st,lt,cmp,k0,k⟩:=h2;refine xO (yN ?_);have nS:s2.heap.objs.size∉fp:=fun z=>zd _ (lt _ z);rw[nm];refine xR ⟨ze y9 _,m8 W bt cmp d s2.heap.objs.size nS (W.frame _ _ _ st fun b _ o e=>Heap.get?_push_of_some _ e) (Heap.get?_push_size _ rfl) (fun n0 h' tk hk=>?_) fun n0 v h' tk pv hk=>?_⟩
 ·exact k0 n0 h' tk fun b o b1 e=>hk b o b1 (x5 (xQ e)) (Heap.get?_push_of_some _ e)
 ·exact k n0 v h' tk pv fun b o b1 e=>hk b o b1 (x5 (xQ e)) (Heap.get?_push_of_some _ e)
end
def vJ (K:PySem.W.Frag)(ta:TA)(d:Int):TE:=fun σ H Q=>ta σ H fun vs H1=>∃ (l:Addr)(ns:List Int),vs=[.ref l]/\aT K H1 l (ns.map V.int)/\(ns=[]->Q (.int d) H1)/\∀ M,M∈ns->(∀ a∈ns,a<=M)->Q (.int M) H1
theorem se {X:Cx}{a:Expr}{ta:TA}{d:Int}{p pos cp kp:Pos}{cj:Nat}(hc:X.calm=true)(hg:Gl X "max")(hm:X.mg "max" = none)(ha:PA X [a] ta)
  (he:backTo pos (starEach [a] X.env)=(false,eval a X.env)::backTo pos (starEach [] X.env):=by rfl) (hplain:(backTo pos (starEach [a] X.env)).any (·.1)=false:=by rfl)
  (hall:(backToKw pos (keywordEach [⟨some "default",.Constant (.int d) cj cp,kp⟩] X.env)).all (·.1.isSome)=true:=by rfl) (hkw:(backToKw pos (keywordEach [⟨some "default",.Constant (.int d) cj cp,kp⟩] X.env)).any (·.1.isNone)=false:=by rfl) :
  PE X (.Call (.Name "max" p) [a] [⟨some "default",.Constant (.int d) cj cp,kp⟩] pos) (vJ X.K ta d):=by
 intro pins s σ H Q I h;refine yJ (dr I hg hm boot_max ?_ (by decide) (by decide));refine callWith_kw (aU (ha pos pins s σ H _ I h) fun us s1 ⟨vs,H1,I1,r1,l,ns,e1,hq,q0,q⟩=>?_) he hplain hall hkw;subst e1;obtain⟨u,rfl,rx⟩:=eL r1;cases rx;refine kws_cons (wpAny_Constant_int (kws_nil ?_));have I2:am X pins σ H1 { s1 with toks:=s1.toks+1 }:=I1.tok _;obtain⟨its,rv,pl,hz⟩:=I2.list hq;have hl:=rv.length;rw[xP]at hl
 show wpAny _ _ (call (.builtin "max") [.ref l] [("default",.int d s1.toks)]) _ _ _
 refine o7 (ig (xs:=ns.map V.int) I2 (I2.ok.hd hc) pl fun I' St s2 hs2 hI W st kp fin=>?_)
 have val:∀ (i:Nat)(v:Value),its.toArray[i]? = some v->∃ t,v=.int (ns.getD i 0) t:=fun i v e=>by
  have e:its[i]? = some v:=by simpa using e
  have hi:i<ns.length:=by have:=(List.getElem?_eq_some_iff.mp e).1;omega
  obtain⟨u,eu,ru⟩:=rv.get (i:=i) (x:=V.int ns[i]) (by rw[List.getElem?_map,List.getElem?_eq_getElem hi];rfl);rw[e]at eu;cases eu;obtain⟨t,rfl⟩:=ru;exact⟨t,by rw[List.getD_eq_getElem?_getD,List.getElem?_eq_getElem hi];rfl⟩
 have hlt:l<s1.heap.objs.size:=by obtain⟨o,n,e,_⟩:=pl;exact xQ e
 refine⟨I',_,_,_,_,St,_,rfl,W,st,fun b hb=>?_,CmpOf.ints_gt (fun i=>ns.getD i 0) val,fun n0 h' tk k=>?_,fun n0 v h' tk hv k=>?_⟩
 ·rcases ya.mp hb with z | z
  ·rw[z,hI,hs2];exact zj _
  ·rw[x6.mp z,hs2];exact zw hlt
 ·exact⟨.int d,H1,fin h' tk k,⟨_,rfl⟩,q0 (List.eq_nil_of_length_eq_zero (by omega))⟩
 ·obtain⟨t,rfl⟩:=val _ _ hv
  obtain⟨h1,h2⟩:=argBest_gt (fun i=>ns.getD i 0) (its.length-1);refine⟨.int _,H1,fin h' tk k,⟨t,rfl⟩,q _ ?_ fun a ha=>?_⟩
  ·rw[List.getD_eq_getElem?_getD,List.getElem?_eq_getElem (by omega)];exact List.getElem_mem _
  ·obtain⟨j,hj⟩:=List.getElem?_of_mem ha
   have hjl:j<ns.length:=(List.getElem?_eq_some_iff.mp hj).1;have:=h2 j (by omega);rw[show ns.getD j 0=a by rw[List.getD_eq_getElem?_getD,hj];rfl]at this;exact this
theorem i8 {P:Program}{w:World}{K:PySem.W.Frag}{mg:Str->Option Value}{base:Heap}{CX:mG}{k:Nat}{f:Addr}{fd:FuncData}{ps:List Str}{sp:Sp}(no:∀ vs H Q E,¬ sp vs H Q E):a9 P w K mg base CX k f fd ps sp :=
 ⟨fun vs H Q E h=>(no vs H Q E h).elim,fun A outer s H args us vs Q E hr e0 hb r h=>(no vs H Q E h).elim⟩
def wM (te:TE):TE:=fun σ H Q=>te σ H fun x H1=>∃ z:Str,x=.str z/\z.length<=1000/\∀ y:Str,y.length<=1000->Q (.str y) H1
theorem qF {X:Cx}{e:Expr}{te:TE}{pos:Pos}(he:PE X e te):PE X (.FormattedValue e (-1) none pos) (wM te):=by
 intro pins s σ H Q I h;refine FormattedValue_plain (aU (he pins s σ H _ I h) fun u s1 ⟨x,H1,I1,rx,z,ex,hz,q⟩=>?_);subst ex;obtain⟨tk,rfl⟩:=rx;have sl:sizeLine=16777216:=yG;exact wpAny_formatField_str ⟨.str z,H1,I1,⟨_,rfl⟩,q z hz⟩ ⟨.str z,H1,I1.tok _,⟨_,rfl⟩,q z hz⟩ (by omega)
theorem dH {X:Cx}(hc:X.calm=true):dE X (.type "list") (fun xs H Q=>∃ (p:Addr)(kvs:List (bV×V))(ns:List Str),xs=[.ref p]/\H p=some (.dK kvs)/\kvs.map (·.1)=ns.map Sum.inr/\∀ l,H l=none->Q (.ref l) (aH H l (.lst (ns.map V.str)))):=by
 intro pins s σ H xs us Q I r h;obtain⟨p,kvs,ns,rfl,hH,hk,q⟩:=h;obtain⟨u,rfl,rx⟩:=eL r;cases rx;obtain⟨hz,lo,vs,rel,dd⟩:=(show aX X.prog X.w H s.heap p (.dK kvs) from I.hok p _ hH);obtain⟨ep,hat⟩:=dd.dictAt
 have hlk:kvs.length=ns.length:=by have:=y1 List.length hk;simpa using this
 have hlv:kvs.length=vs.length:=x9 rel;refine PySem.W.kdl_call (PySem.W.kdl_dict (knd:=bp X.prog X.w) (kvs:=vs) (ep:=ep) lo) (I.ok.hd hc) hat (by rw[<-hlv];exact hz) fun h' tk acc c' kp e hacc=>?_
 have hal:acc.toList.length=vs.length:=by rw[yX];exact hacc.1
 have rI:Vals (ns.map V.str) acc.toList:=jo (by rw[xP,hal];omega) fun i x v e1 e2=>by
  obtain⟨k,y,hx,hks⟩:=hacc.2 i v (by rw[<-Array.getElem?_toList];exact e2)
  have e3:(vs.map (·.1))[i]? = some k:=by rw[List.getElem?_map,hx];rfl
  rw[<-rel.keys,hk,List.getElem?_map]at e3;rw[List.getElem?_map]at e1
  cases en:ns[i]? with
  | none=>rw[en]at e1;cases e1
  | some n =>
   rw[en]at e1 e3;have e1':V.str n=x:=ye e1;subst e1';have e4:(Sum.inr n:bV)=k:=ye e3;subst e4;have hks:Value.isStrOf n v=true:=hks
   cases v<;>first
    | (have hks:=eq_of_beq hks;subst hks;exact⟨_,rfl⟩)
    | (cases hks;done)
 refine⟨.ref s.heap.objs.size,_,I.laid (t':=tk) kp (xT _) (show aX X.prog X.w _ h' _ (.lst (ns.map V.str)) from ⟨by rw[xP,<-hlk];exact hz,acc.toList,c',rI,by simpa using e⟩),rfl,q _ (I.hok.fresh (xT _))⟩
section
variable {X:Cx}
open Classical in
theorem pG (n:Nat)(hu:X.A.units+n<cLine):fW X (compareOp .NotIn) (vx X.K n true):=by
 intro pins s σ H x y v u Q I rx ry h;obtain⟨p,as,d,ds,rfl,hq,hx,hp,q⟩:=h;cases ry
 have hu':X.A.in1.units+n<cLine+1:=by show X.A.units+1+n<cLine+1;omega
 rcases hq with hq | hq
 ·obtain⟨its,r,pl,hz⟩:=I.list hq
  obtain⟨h1,h2⟩:=kQ I hu' rx hx hp r;refine SeqAt.notIn_listAt _ pl.isList (fun w hw=>h1 w (by simpa using hw)) ⟨.bl _,H,I,rfl,?_⟩;rw[List.any_toArray];exact q _ h2
 ·obtain⟨its,r,pl,hz⟩:=I.tuple hq
  obtain⟨h1,h2⟩:=kQ I hu' rx hx hp r;refine SeqAt.notIn_tupleAt _ pl (fun w hw=>h1 w (by simpa using hw)) ⟨.bl _,H,I,rfl,?_⟩;rw[List.any_toArray];exact q _ h2
open Classical in
theorem n9 {pins:List (Addr×Obj)}{σ:St}{H:Hp}{s:Shared}{n:Nat}(I:am X pins σ H s){d:Dt}(e:Value->Bool)(he:∀ a:Addr,e (.ref a)=true↔RD X.K H n (.ref a) d) :
  ∀ {as:List Addr}{ds:List Dt}{us:List Value},Paired (fun (a:Addr)(e:Dt)=>RD X.K H n (.ref a) e) as ds->Vals (as.map V.ref) us->us.countP e=ds.countP (fun x=>decide (x=d))
 | _,_,us,.nil,r=>by cases r;rfl
 | a::as,c::ds,us,.cons hc hp,r=>by
  cases r with
  | cons r1 r2 =>
   cases r1;rw[List.countP_cons,List.countP_cons,n9 I e he hp r2]
   congr 1
   by_cases z:c=d
   ·rw[x4 ((he a).mpr (z▸hc)),x4 (xX z)]
   ·rw[xV (fun q=>z (RD.inj I hc ((he a).mp q))),xV (fun q=>z (yS q))]
def wK (K:PySem.W.Frag)(n:Nat)(to te:TE):TE:=fun σ H Q=>to σ H fun x H1=>∃ p:Addr,x=.ref p/\(∃ xs,H1 p=some (.tup xs))/\te σ H1 fun y H2=>∃ (as:List Addr)(d:Dt)(ds:List Dt),H2 p=some (.tup (as.map V.ref))/\RD K H2 n y d/\Paired (fun (a:Addr)(e:Dt)=>RD K H2 n (.ref a) e) as ds/\∀ c:Nat,(∀ f:Dt->Bool,(∀ x,f x=true↔x=d)->c=ds.countP f)->Q (.int c) H2
open Classical in
theorem ux (K:PySem.W.Frag)(n:Nat){o e:Expr}{to te:TE}{apos cpos:Pos}(hu:X.A.units+n<cLine)(ho:PE X o to)(he:PE X e te)(hK:X.K=K:=by rfl)(hbase:attributeBase o "count" X.env (eval o X.env)=eval o X.env:=by rfl)
  (hfew:((backTo cpos (starEach [e] X.env)).all (fun x=>!x.1)&&(backToKw cpos (keywordEach [] X.env)).all (fun x=>x.1.isSome)&&decide ([e].length+([]:List Keyword).length+(if ([]:List Keyword).isEmpty then 0 else 1)<30))=true:=by rfl)
  (hline:(apos.endLine == cpos.line)=true:=by rfl) (hs:starEach [e] X.env=(false,eval e X.env)::starEach [] X.env:=by rfl) (hplain:(backTo cpos (starEach [] X.env)).any (·.1)=false:=by rfl) :
  PE X (.Call (.Attribute o "count" apos) [e] [] cpos) (wK K n to te):=by
 subst hK;intro pins s σ H Q I h;refine wpAny_Call_method_late hbase hfew hline rfl (aU (ho pins s σ H _ I h) fun v s1 ⟨x,H1,I1,r1,p,ex,⟨xs,hp⟩,q1⟩=>?_);subst ex;cases r1;obtain⟨_,_,_,ob,e1,c1,m1,d1⟩:=(show aX X.prog X.w H1 s1.heap p (.tup xs) from I1.hok p _ hp);refine⟨"tuple","tuple.count",PySem.F.plainAttrs_tuple,PySem.F.slot_tuple_count,PySem.F.type_tuple_count,⟨ob,e1,c1⟩,fun a z=>?_,?_⟩
 ·cases z;exact⟨ob,e1,(Prod.mk.inj d1).2⟩
 rw[hs];refine Calls.callWith_builtin (by show (false||(backTo cpos (starEach [] X.env)).any (·.1))=false;rw[hplain]<;>rfl) (Calls.evalArgs_plain ?_);have hA:=aF he a8 hs cpos pins s1 σ H1 (fun vs H2=>match vs with | [y]=>(∃ (as:List Addr)(d:Dt)(ds:List Dt),H2 p=some (.tup (as.map V.ref))/\RD X.K H2 n y d/\Paired (fun (a:Addr)(e:Dt)=>RD X.K H2 n (.ref a) e) as ds/\∀ c:Nat,(∀ f:Dt->Bool,(∀ x,f x=true↔x=d)->c=ds.countP f)->Q (.int c) H2) | _=>False) I1 ?_
 ·rw[hs]at hA
  refine aU hA fun us s2 ⟨vs,H2,I2,r2,q0⟩=>?_
  obtain⟨y,rfl⟩:∃ y,vs=[y]:=by
   match vs,q0 with
   | [y],_=>exact⟨y,rfl⟩
   | [],q=>exact q.elim
   | _::_::_,q=>exact q.elim
  obtain⟨as,d,ds,hp2,hy,hpr,q⟩:=q0;obtain⟨u,rfl,ru⟩:=eL r2;obtain⟨its,r,pl,hz⟩:=I2.tuple (aI.of hp2)
  have hu':X.A.in1.units+n<cLine+1:=by show X.A.units+1+n<cLine+1;omega
  obtain⟨h1,h2⟩:=kQ I2 hu' ru hy hpr r;have pl:s2.heap.IsTuple p its.toArray:=pl;obtain⟨⟨cls,dd,data,sl⟩,hoo,hcc,m,hdd⟩:=id pl;simp only at hcc hdd;subst hcc hdd;have e2:=n9 I2 (fun u=>decide (∃ a,u=.ref a/\RD X.K H2 n (.ref a) d)) (fun a=>by rw[decide_eq_true_eq];exact⟨fun ⟨b,eb,hb⟩=>by cases eb;exact hb,fun h=>⟨a,rfl,h⟩⟩) hpr r;refine call_meets F.slot_tuple_count ⟨_,hoo,rfl⟩ F.entry_tuple_count (F.args_tuple_count_2 _ _) (SeqAt.tuple_countAt p its.toArray m dd sl u (fun u=>decide (∃ a,u=.ref a/\RD X.K H2 n (.ref a) d))) ⟨hoo,fun w hw=>h1 w (by simpa using hw),?_⟩;refine⟨.int (its.toArray.toList.countP (fun u=>decide (∃ a,u=.ref a/\RD X.K H2 n (.ref a) d)):Nat),H2,I2.tok _,⟨_,rfl⟩,q _ fun f hf=>?_⟩
  show its.countP _=_
  rw[e2]
  exact List.countP_congr fun x _=>by rw[decide_eq_true_eq,hf]
 ·show te σ H1 _
  exact q1
end
end L2
namespace Wz
open PySem L2
inductive ai where
 | pl (f:aJ)
 | row (fs:List ai)
 | back (f:ai)
 | name (w:Str)
def ai.word:ai->Str
 | .pl f=>f.word
 | .row _=>"row"
 | .back _=>"back"
 | .name _=>"name"
def aJ.dt:aJ->Dt
 | .pair a b=>.sq true [.at (.str "pair"),.at (.int a),.at (.int b)]
 | f=>.sq true [.at (.str f.word),.sq true (f.gs.map fun g=>.at (.int g))]
mutual
def ai.dt:ai->Dt
 | .pl f=>f.dt
 | .row fs=>.sq true [.at (.str "row"),.sq true (ai.dtL fs)]
 | .back f=>.sq true [.at (.str "back"),f.dt]
 | .name w=>.sq true [.at (.str "name"),.at (.str w)]
def ai.dtL:List ai->List Dt
 | []=>[]
 | f::fs=>f.dt::ai.dtL fs
end
mutual
def ai.names:ai->List Str
 | .pl _=>[]
 | .row fs=>ai.namesL fs
 | .back f=>f.names
 | .name w=>[w]
def ai.namesL:List ai->List Str
 | []=>[]
 | f::fs=>f.names++ai.namesL fs
end
mutual
def ai.len (e:Str->Nat):ai->Nat
 | .pl f=>f.row.length
 | .row fs=>ai.lenL e fs
 | .back f=>f.len e
 | .name w=>e w
def ai.lenL (e:Str->Nat):List ai->Nat
 | []=>0
 | f::fs=>f.len e+ai.lenL e fs
end
mutual
def ai.rowF (e:Str->List (Int×Int)):ai->List (Int×Int)
 | .pl f=>f.row
 | .row fs=>ai.rowL e fs
 | .back f=>(f.rowF e).reverse
 | .name w=>e w
def ai.rowL (e:Str->List (Int×Int)):List ai->List (Int×Int)
 | []=>[]
 | f::fs=>f.rowF e++ai.rowL e fs
end
def aO:Nat->Hp->Addr->ai->Prop
 | 0,_,_,_=>False
 | _+1,H,p,.pl f=>fV H p f/\f.Ok
 | _+1,H,p,.name w=>H p=some (.tup [.str "name",.str w])/\w.length<=100
 | n+1,H,p,.back f=>∃ q,H p=some (.tup [.str "back",.ref q])/\aO n H q f
 | n+1,H,p,.row fs=>∃ t as,H p=some (.tup [.str "row",.ref t])/\H t=some (.tup (as.map V.ref))/\fs.length<=100/\Paired (aO n H) as fs
theorem aO.mono {H H':Hp}(s:∀ b xs,H b=some (.tup xs)->H' b=some (.tup xs)):∀ {n:Nat}{p:Addr}{f:ai},aO n H p f->aO n H' p f
 | 0,_,_,h=>h
 | n+1,p,.pl f,h=>by
  refine⟨?_,h.2⟩;have h:=h.1
  cases f with
  | pair a b=>exact s _ _ h
  | _=>obtain⟨q,e1,e2⟩:=h;exact⟨q,s _ _ e1,s _ _ e2⟩
 | n+1,p,.name w,h=>⟨s _ _ h.1,h.2⟩
 | n+1,p,.back f,h=>by
  obtain⟨q,e1,e2⟩:=h;exact⟨q,s _ _ e1,aO.mono s e2⟩
 | n+1,p,.row fs,h=>by
  obtain⟨t,as,e1,e2,hl,e3⟩:=h;exact⟨t,as,s _ _ e1,s _ _ e2,hl,Paired.mapP e3 fun _ _ z=>aO.mono s z⟩
theorem aO.hd {n:Nat}{H:Hp}{p:Addr}{f:ai}(h:aO n H p f):∃ xs,H p=some (.tup (.str f.word::xs)):=by
 cases n with
 | zero=>exact h.elim
 | succ n =>
  cases f with
  | pl f=>exact h.1.hd
  | name w=>exact⟨_,h.1⟩
  | back f=>obtain⟨q,e,_⟩:=h;exact⟨_,e⟩
  | row fs=>obtain⟨t,as,e,_⟩:=h;exact⟨_,e⟩
theorem RD.up {K:PySem.W.Frag}{H:Hp}{n m:Nat}{v:V}{d:Dt}(h:RD K H n v d)(e:n<=m):RD K H m v d:=by
 induction e with
 | refl=>exact h
 | step _ ih=>exact RD.succ ih
theorem qf {K:PySem.W.Frag}{H:Hp}{p:Addr}{f:aJ}(h:fV H p f):RD K H 2 (.ref p) f.dt:=by
 have intsP:∀ (gs:List Int),Paired (RD K H 0) (gs.map V.int) (gs.map fun g=>.at (.int g)):=fun gs=>by
  induction gs with
  | nil=>exact .nil
  | cons g gs ih=>exact .cons ⟨rfl,rfl⟩ ih
 cases f with
 | pair a b=>exact RD.tup (aI.of h) (.cons (RD.flat rfl 1) (.cons (RD.flat rfl 1) (.cons (RD.flat rfl 1) .nil)))
 | _ =>
  obtain⟨q,e1,e2⟩:=h;exact RD.tup (aI.of e1) (.cons (RD.flat rfl 1) (.cons (RD.tup (aI.of e2) (intsP _)) .nil))
theorem aO.rd {K:PySem.W.Frag}{H:Hp}:∀ {n:Nat}{p:Addr}{f:ai},aO n H p f->RD K H (2*n) (.ref p) f.dt
 | 0,_,_,h=>h.elim
 | n+1,p,.pl f,h=>RD.up (show RD K H 2 (.ref p) (ai.pl f).dt by rw[ai.dt];exact qf h.1) (by omega)
 | n+1,p,.name w,h=>RD.up (n:=1) (by rw[ai.dt];exact RD.tup (aI.of h.1) (.cons (RD.flat rfl 0) (.cons (RD.flat rfl 0) .nil))) (by omega)
 | n+1,p,.back f,h=>by
  obtain⟨q,e1,e2⟩:=h;refine RD.up (n:=2*n+1) ?_ (by omega);rw[ai.dt];exact RD.tup (aI.of e1) (.cons (RD.flat rfl _) (.cons (aO.rd e2) .nil))
 | n+1,p,.row fs,h=>by
  obtain⟨t,as,e1,e2,_,e3⟩:=h;refine RD.up (n:=2*n+2) ?_ (by omega);rw[ai.dt];refine RD.tup (aI.of e1) (.cons (RD.flat rfl _) (.cons (RD.tup (aI.of e2) ?_) .nil))
  have key:∀ {as:List Addr}{fs:List ai},Paired (aO n H) as fs->Paired (RD K H (2*n)) (as.map V.ref) (ai.dtL fs):=fun {as fs} pr=>by
   induction pr with
   | nil=>rw[ai.dtL];exact .nil
   | cons a _ ih=>rw[ai.dtL];exact .cons (aO.rd a) ih
  exact key e3
theorem oq:∀ fs:List ai,ai.dtL fs=fs.map ai.dt
 | []=>by rw[ai.dtL];rfl
 | f::fs=>by rw[ai.dtL,oq fs];rfl
theorem lN (e:Str->Nat):∀ fs:List ai,ai.lenL e fs=(fs.map (ai.len e)).sum
 | []=>by rw[ai.lenL];rfl
 | f::fs=>by rw[ai.lenL,lN e fs];rfl
theorem jI:∀ fs:List ai,ai.namesL fs=fs.flatMap ai.names
 | []=>by rw[ai.namesL];rfl
 | f::fs=>by rw[ai.namesL,jI fs];rfl
theorem jU (e:Str->List (Int×Int)):∀ fs:List ai,ai.rowL e fs=fs.flatMap (ai.rowF e)
 | []=>by rw[ai.rowL];rfl
 | f::fs=>by rw[ai.rowL,jU e fs];rfl
theorem aJ.dt_hd (f:aJ):∃ t,f.dt=.sq true (.at (.str f.word)::t):=by cases f<;>exact⟨_,rfl⟩
theorem ai.dt_hd (f:ai):∃ t,f.dt=.sq true (.at (.str f.word)::t):=by
 cases f with
 | pl f=>obtain⟨t,e⟩:=f.dt_hd;exact⟨t,by rw[ai.dt];exact e⟩
 | row fs=>exact⟨_,by rw[ai.dt];rfl⟩
 | back f=>exact⟨_,by rw[ai.dt];rfl⟩
 | name w=>exact⟨_,by rw[ai.dt];rfl⟩
theorem ai.dt_word {f g:ai}(h:f.dt=g.dt):f.word=g.word:=by
 obtain⟨t,e⟩:=f.dt_hd;obtain⟨u,e2⟩:=g.dt_hd;rw[e,e2]at h;injection h with _ h;injection h with h _;injection h with h;exact V.str.inj h
theorem jz:∀ {a b:List Int},(a.map fun g=>Dt.at (.int g))=(b.map fun g=>Dt.at (.int g))->a=b
 | [],[],_=>rfl
 | [],_::_,h=>by cases h
 | _::_,[],h=>by cases h
 | x::a,y::b,h=>by
  rw[yf,yf]at h;injection h with h1 h2;injection h1 with h1;rw[V.int.inj h1,jz h2]
theorem aJ.dt_inj {f g:aJ}(h:f.dt=g.dt):f=g:=by
 obtain⟨t,e⟩:=f.dt_hd;obtain⟨u,e2⟩:=g.dt_hd
 have hw:f.word=g.word:=by
  have h2:=h;rw[e,e2]at h2;injection h2 with _ h2;injection h2 with h2 _;injection h2 with h2;exact V.str.inj h2
 have ne:∀ {a b:Str},a=b->a≠b->False:=fun h n=>n h
 cases f<;>cases g<;>first
  | (dsimp only[aJ.word]at hw;exact (ne hw (by decide +kernel)).elim)
  | (simp only[aJ.dt,aJ.gs]at h
     injection h with _ h;injection h with _ h;injection h with h h2
     first
    | (injection h with h;injection h2 with h2 _;injection h2 with h2;rw[V.int.inj h,V.int.inj h2];done)
    | (injection h with _ h;rw[jz h];done)
    | (injection h with _ h;have h:=jz h;injection h with h1 h;injection h with h2 h;injection h with h3 h;injection h with h4 h;subst h1 h2 h3 h4;rfl))
mutual
theorem ai.dt_inj:∀ (f g:ai),f.dt=g.dt->f=g
 | .pl f,g,h=>by
  have w:=ai.dt_word h
  cases g with
  | pl g=>rw[ai.dt,ai.dt]at h;rw[aJ.dt_inj h]
  | row _=>exact absurd w f.nw.2.1
  | back _=>exact absurd w f.nw.1
  | name _=>exact absurd w f.nw.2.2
 | .row fs,g,h=>by
  have w:=ai.dt_word h
  cases g with
  | pl g=>exact absurd w.symm g.nw.2.1
  | row gs =>
   rw[ai.dt,ai.dt]at h;injection h with _ h;injection h with _ h;injection h with h _;injection h with _ h;rw[ai.dtL_inj fs gs h]
  | back _=>exact absurd (show ("row" : Str)="back" from w) (by decide +kernel)
  | name _=>exact absurd (show ("row" : Str)="name" from w) (by decide +kernel)
 | .back f,g,h=>by
  have w:=ai.dt_word h
  cases g with
  | pl g=>exact absurd w.symm g.nw.1
  | row gs=>exact absurd (show ("back" : Str)="row" from w) (by decide +kernel)
  | back g =>
   rw[ai.dt,ai.dt]at h;injection h with _ h;injection h with _ h;injection h with h _;rw[ai.dt_inj f g h]
  | name _=>exact absurd (show ("back" : Str)="name" from w) (by decide +kernel)
 | .name z,g,h=>by
  have w:=ai.dt_word h
  cases g with
  | pl g=>exact absurd w.symm g.nw.2.2
  | row gs=>exact absurd (show ("name" : Str)="row" from w) (by decide +kernel)
  | back g=>exact absurd (show ("name" : Str)="back" from w) (by decide +kernel)
  | name y =>
   rw[ai.dt,ai.dt]at h;injection h with _ h;injection h with _ h;injection h with h _;injection h with h;rw[V.str.inj h]
theorem ai.dtL_inj:∀ (fs gs:List ai),ai.dtL fs=ai.dtL gs->fs=gs
 | [],[],_=>rfl
 | [],_::_,h=>by rw[ai.dtL,ai.dtL]at h;cases h
 | _::_,[],h=>by rw[ai.dtL,ai.dtL]at h;cases h
 | f::fs,g::gs,h=>by
  rw[ai.dtL,ai.dtL]at h;injection h with h1 h2;rw[ai.dt_inj f g h1,ai.dtL_inj fs gs h2]
end
open Classical in
noncomputable def likeStep (acc:List ai) (f:ai):List ai:=if f∈acc then acc else acc++[f]
open Classical in
noncomputable def once (fs:List ai):List ai:=fs.foldl likeStep []
open Classical in
theorem jP:∀ (fs acc:List ai),acc.Nodup->(fs.foldl likeStep acc).Nodup/\(∀ f,f∈fs.foldl likeStep acc↔f∈acc\/f∈fs)
 | [],acc,h=>⟨h,fun f=>by simp⟩
 | g::fs,acc,h=>by
  rw[List.foldl_cons]
  have st:(likeStep acc g).Nodup/\∀ f,f∈likeStep acc g↔f∈acc\/f=g:=by
   unfold likeStep;split
   ·rename_i m
    exact⟨h,fun f=>⟨.inl,fun z=>z.elim id fun e=>e▸m⟩⟩
   ·rename_i m
    refine⟨zx.mpr ⟨h,by simp,fun a ha b hb e=>m (by rw[x6.mp hb]at e;exact e▸ha)⟩,fun f=>by simp⟩
  obtain⟨i1,i2⟩:=jP fs (likeStep acc g) st.1;refine⟨i1,fun f=>?_⟩;rw[i2,st.2,ya];constructor
  ·rintro ((a | a) | a)
   ·exact .inl a
   ·exact .inr (.inl a)
   ·exact .inr (.inr a)
  ·rintro (a | a | a)
   ·exact .inl (.inl a)
   ·exact .inl (.inr a)
   ·exact .inr a
theorem r6 (fs:List ai):(once fs).Nodup:=(jP fs [] List.nodup_nil).1
theorem gJ {fs:List ai}{f:ai}:f∈once fs↔f∈fs:=by
 have:=(jP fs [] List.nodup_nil).2 f;unfold once;simpa using this
open Classical in
theorem ow (len:ai->Nat)(f:ai):∀ us:List ai,us.Nodup->(us.map fun u=>(if f=u then 1 else 0)*len u).sum=if f∈us then len f else 0
 | [],_=>rfl
 | u::us,h=>by
  have nd:=yV.mp h;rw[yf,zg,ow len f us nd.2]
  by_cases e:f=u
  ·subst e
   rw[x4 rfl,xV nd.1,x4 xZ];omega
  ·rw[xV e]
   by_cases m:f∈us
   ·rw[x4 m,x4 (xY _ m)];omega
   ·rw[xV m,xV (fun z=>(ya.mp z).elim e m)];omega
open Classical in
theorem kx (len:ai->Nat){us:List ai}(nd:us.Nodup):∀ fs:List ai,(∀ f∈fs,f∈us)->(us.map fun u=>fs.countP (fun f=>decide (f=u))*len u).sum=(fs.map len).sum
 | [],_=>by
  have:∀ us:List ai,(us.map fun u=>([]:List ai).countP (fun f=>decide (f=u))*len u).sum=0:=fun us=>by
   induction us with
   | nil=>rfl
   | cons u us ih=>rw[yf,zg,ih];simp
  rw[this];rfl
 | f::fs,h=>by
  have ih:=kx len nd fs fun g hg=>h g (xY _ hg);have hs:=ow len f us nd;rw[x4 (h f xZ)]at hs
  have e:(us.map fun u=>(f::fs).countP (fun f=>decide (f=u))*len u)=us.map fun u=>fs.countP (fun f=>decide (f=u))*len u+(if f=u then 1 else 0)*len u:=by
   refine List.map_congr_left fun u _=>?_;rw[List.countP_cons,Nat.add_mul]
   by_cases z:f=u
   ·rw[x4 z,x4 (xX z)]
   ·rw[xV z,xV (fun q=>z (yS q))]
  have add:∀ (us:List ai)(a b:ai->Nat),(us.map fun u=>a u+b u).sum=(us.map a).sum+(us.map b).sum:=fun us a b=>by
   induction us with
   | nil=>rfl
   | cons u us i2=>rw[yf,yf,yf,zg,zg,zg,i2];omega
  rw[e,add,ih,hs,yf,zg];omega
def gE (c:Nat):Bool:=decide (97<=c/\c<123)
theorem qq (c:Nat):(!(Builtin.Str.occurrences (Str.ofString "abcdefghijklmnopqrstuvwxyz") ⟨#[c]⟩ 0 (Str.ofString "abcdefghijklmnopqrstuvwxyz").length 1).isEmpty)=gE c:=by
 rw[StrLaws.found_one]
 have e:(Str.ofString "abcdefghijklmnopqrstuvwxyz").cps.toList=(List.range 26).map (·+97):=by decide +kernel
 rw[e];unfold gE;rw[decide_eq_decide,yB];constructor
 ·rintro⟨k,hk,rfl⟩
  have:=zi.mp hk;omega
 ·intro h
  exact⟨c-97,zi.mpr (by omega),by omega⟩
def kindsL:List Str:=["pair","line","star","all","quad","row","back","name"]
def m4 (z:Str):Bool:=!decide (z∈kindsL)&&decide (1<=z.length/\z.length<=12)&&z.cps.toList.all gE
theorem kR (z:Str):∀ xs:List Str,sJ (V.str z) (xs.map V.str)=decide (z∈xs)
 | []=>rfl
 | x::xs=>by
  have ih:=kR z xs;unfold sJ at ih ⊢;rw[yf,zm,ih]
  by_cases e:z=x
  ·subst e
   rw[show mQ (V.str z) (V.str z)=true by simp[mQ],xX xZ];rfl
  ·rw[show mQ (V.str x) (V.str z)=false by simp[mQ];exact fun q=>e q.symm]
   rw[Bool.false_or];exact decide_eq_decide.mpr ⟨fun q=>xY _ q,fun q=>(ya.mp q).resolve_left e⟩
theorem ky (xs:List Str):(xs.map V.str).all fX=true:=y7.mpr fun v hv=>by obtain⟨x,_,rfl⟩:=yB.mp hv;rfl
structure BE where
 w:Str
 f:ai
 n:Nat
 r:List (Int×Int)
 p:Addr
 l:Addr
def f9 (bs:List BE)(w:Str):Option BE:=bs.find? fun e=>decide (e.w=w)
def gw (bs:List BE)(w:Str):Nat:=match f9 bs w with | some e=>e.n | none=>0
def rG (bs:List BE)(w:Str):List (Int×Int):=match f9 bs w with | some e=>e.r | none=>[]
def c5 (e:BE):Bool:=decide (e.n<=2000)
theorem bE (g:BE->V)(w:Str):∀ bs:List BE,eP (bs.map fun e=>((Sum.inr e.w:bV),g e)) (Sum.inr w)=(f9 bs w).map g
 | []=>rfl
 | e::bs=>by
  have ih:=bE g w bs;unfold eP f9 at ih ⊢;rw[yf,List.find?_cons,List.find?_cons]
  by_cases z:e.w=w
  ·rw[show decide ((Sum.inr e.w:bV)=Sum.inr w)=true from xX (by rw[z]),xX z]
   rfl
  ·rw[show decide ((Sum.inr e.w:bV)=Sum.inr w)=false from xS (fun q=>z (Sum.inr.inj q)),xS z]
   exact ih
theorem cy {bs:List BE}{w:Str}{e:BE}(h:f9 bs w=some e):e∈bs/\e.w=w:=by
 unfold f9 at h;have:=List.find?_some (p:=fun e:BE=>decide (e.w=w)) h;exact⟨List.mem_of_find?_eq_some h,yS this⟩
theorem cQ {bs:List BE}{w:Str}:f9 bs w=none↔w∉bs.map (·.w):=by
 unfold f9;rw[List.find?_eq_none];constructor
 ·intro h m
  obtain⟨e,he,rfl⟩:=yB.mp m;exact h e he (xX rfl)
 ·intro h e he q
  exact h (yB.mpr ⟨e,he,yS q⟩)
theorem oZ {bs:List BE}{w:Str}{e:BE}(nd:(bs.map (·.w)).Nodup)(h:f9 bs w=some e)(s:e.n<=2000):f9 (bs.filter c5) w=some e:=by
 induction bs with
 | nil=>cases h
 | cons x bs ih =>
  have nd2:=yV.mp (show (x.w::bs.map (·.w)).Nodup from nd);unfold f9 at h ih ⊢;rw[List.find?_cons]at h
  by_cases z:x.w=w
  ·rw[xX z]at h
   cases h;rw[List.filter_cons_of_pos (by unfold c5;exact xX s),List.find?_cons,xX z]
  ·rw[xS z]at h
   rw[List.filter_cons];split
   ·rw[List.find?_cons,xS z];exact ih nd2.2 h
   ·exact ih nd2.2 h
structure eN (C:Addr)(H:Hp)(b:Addr)(A:BA)(bs:List BE):Prop where
 ob:H b=some (.ins C A.dx (kN (.ref A.d1) (.ref A.d2) (.ref A.d3)))
 f1:H A.d1=some (.dK (bs.map fun e=>(Sum.inr e.w,V.ref e.p)))
 f2:H A.d2=some (.dK (bs.map fun e=>(Sum.inr e.w,V.int e.n)))
 f3:H A.d3=some (.dK ((bs.filter c5).map fun e=>(Sum.inr e.w,V.ref e.l)))
 fg:∀ e∈bs,aO 9 H e.p e.f
 rw:∀ e∈bs,e.n<=2000->cP H e.l e.r/\e.r.length=e.n
 nd:(bs.map (·.w)).Nodup
 ln:bs.length<=100
 d12:A.d1≠A.d2
 d13:A.d1≠A.d3
 d23:A.d2≠A.d3
theorem eN.mono {C:Addr}{H H':Hp}{b:Addr}{A:BA}{bs:List BE}(x:eN C H b A bs)(s:ay H H'):eN C H' b A bs :=
 ⟨s _ _ x.ob,s _ _ x.f1,s _ _ x.f2,s _ _ x.f3,fun e he=>(x.fg e he).mono fun _ _ z=>s _ _ z,fun e he h=>⟨(x.rw e he h).1.mono s,(x.rw e he h).2⟩,x.nd,x.ln,x.d12,x.d13,x.d23⟩
theorem mL {a b c:V}:(kN a b c).lookup ("lengths" : Str)=some b:=by
 rw[<-lH,aW,xV xk,aW,x4 rfl]
theorem pZ {a b c:V}:(kN a b c).lookup ("rows" : Str)=some c:=by
 rw[<-lH,aW,x4 rfl]
def aZ (bs:List BE)(f:ai):Prop:=∀ w∈f.names,w∈bs.map (·.w)
theorem aO.rds {K:PySem.W.Frag}{H:Hp}{n:Nat}{as:List Addr}{fs:List ai}(hn:n<=9)(h:Paired (aO n H) as fs):Paired (fun (a:Addr)(e:Dt)=>RD K H 18 (.ref a) e) as (ai.dtL fs):=by
 induction h with
 | nil=>rw[ai.dtL];exact .nil
 | cons a _ ih=>rw[ai.dtL];exact .cons (RD.up a.rd (by omega)) ih
theorem aO.up {H:Hp}:∀ {n:Nat}{p:Addr}{f:ai},aO n H p f->aO (n+1) H p f
 | 0,_,_,h=>h.elim
 | n+1,p,.pl f,h=>h
 | n+1,p,.name w,h=>h
 | n+1,p,.back f,h=>by
  obtain⟨q,e1,e2⟩:=h;exact⟨q,e1,aO.up e2⟩
 | n+1,p,.row fs,h=>by
  obtain⟨t,as,e1,e2,fl,pr⟩:=h;exact⟨t,as,e1,e2,fl,Paired.mapP pr fun _ _ z=>aO.up z⟩
theorem aO.le {H:Hp}{n m:Nat}{p:Addr}{f:ai}(h:aO n H p f)(hl:n<=m):aO m H p f:=by
 induction hl with
 | refl=>exact h
 | step _ ih=>exact ih.up
theorem vP (w:Str):decide (V.str (ai.name w).word=V.str "back")=false:=by show decide (V.str (Str.ofString "name")=V.str (Str.ofString "back"))=false;decide +kernel
theorem vQ (w:Str):decide (V.str (ai.name w).word=V.str "row")=false:=by show decide (V.str (Str.ofString "name")=V.str (Str.ofString "row"))=false;decide +kernel
theorem oO (w:Str):decide (V.str (ai.name w).word=V.str "name")=true:=by show decide (V.str (Str.ofString "name")=V.str (Str.ofString "name"))=true;decide +kernel
theorem oM (f:ai):decide (V.str (ai.back f).word=V.str "back")=true:=by show decide (V.str (Str.ofString "back")=V.str (Str.ofString "back"))=true;decide +kernel
theorem oN (f:ai):decide (V.str (ai.back f).word=V.str "name")=false:=by show decide (V.str (Str.ofString "back")=V.str (Str.ofString "name"))=false;decide +kernel
theorem oS (fs:List ai):decide (V.str (ai.row fs).word=V.str "back")=false:=by show decide (V.str (Str.ofString "row")=V.str (Str.ofString "back"))=false;decide +kernel
theorem rj (fs:List ai):decide (V.str (ai.row fs).word=V.str "row")=true:=by show decide (V.str (Str.ofString "row")=V.str (Str.ofString "row"))=true;decide +kernel
theorem oU (fs:List ai):decide (V.str (ai.row fs).word=V.str "name")=false:=by show decide (V.str (Str.ofString "row")=V.str (Str.ofString "name"))=false;decide +kernel
theorem oP (f:aJ):decide (V.str (ai.pl f).word=V.str "back")=false:=xS (fun z=>f.nw.1 (V.str.inj z))
theorem oR (f:aJ):decide (V.str (ai.pl f).word=V.str "row")=false:=xS (fun z=>f.nw.2.1 (V.str.inj z))
theorem oQ (f:aJ):decide (V.str (ai.pl f).word=V.str "name")=false:=xS (fun z=>f.nw.2.2 (V.str.inj z))
noncomputable def ai.inner:ai->List ai
 | .back f=>[f]
 | .row fs=>once fs
 | _=>[]
theorem fD {bs:List BE}{fs:List ai}:aZ bs (.row fs)↔∀ f∈fs,aZ bs f:=by
 unfold aZ;rw[ai.names,jI];constructor
 ·exact fun h f hf w hw=>h w (List.mem_flatMap.mpr ⟨f,hf,hw⟩)
 ·intro h w hw
  obtain⟨f,hf,hw⟩:=List.mem_flatMap.mp hw;exact h f hf w hw
theorem d9 {bs:List BE}{f:ai}:aZ bs (.back f)↔aZ bs f:=by
 unfold aZ;rw[ai.names]
theorem dq {bs:List BE}{w:Str}:aZ bs (.name w)↔w∈bs.map (·.w):=by
 unfold aZ;rw[ai.names];exact⟨fun h=>h w xZ,fun h v hv=>by rw[x6.mp hv];exact h⟩
theorem ql {bs:List BE}{f:aJ}:aZ bs (.pl f):=by
 unfold aZ;rw[ai.names]
 exact fun w hw=>by cases hw
theorem iM {bs:List BE}{f:ai}(n:∀ w,f≠.name w):aZ bs f↔∀ u∈f.inner,aZ bs u:=by
 cases f with
 | pl f=>exact⟨fun _ u hu=>(by cases hu),fun _=>ql⟩
 | name w=>exact absurd rfl (n w)
 | back f=>rw[d9];exact⟨fun h u hu=>by rw[x6.mp hu];exact h,fun h=>h f xZ⟩
 | row fs=>rw[fD];exact⟨fun h u hu=>h u (gJ.mp hu),fun h u hu=>h u (gJ.mpr hu)⟩
mutual
theorem ai.row_len {bs:List BE}(ok:∀ e∈bs,e.n<=2000->e.r.length=e.n):∀ f:ai,aZ bs f->f.len (gw bs)<=2000->(f.rowF (rG bs)).length=f.len (gw bs)
 | .pl f,_,_=>by rw[ai.rowF,ai.len]
 | .name w,k,h=>by
  rw[ai.rowF,ai.len];rw[ai.len]at h;unfold rG gw at *
  cases e:f9 bs w with
  | none=>exact absurd (dq.mp k) (cQ.mp e)
  | some x =>
   rw[e]at h;exact ok x (cy e).1 h
 | .back f,k,h=>by
  rw[ai.rowF,ai.len,List.length_reverse];rw[ai.len]at h;exact ai.row_len ok f (d9.mp k) h
 | .row fs,k,h=>by
  rw[ai.rowF,ai.len];rw[ai.len]at h;exact ai.row_lenL ok fs (fD.mp k) h
theorem ai.row_lenL {bs:List BE}(ok:∀ e∈bs,e.n<=2000->e.r.length=e.n):∀ fs:List ai,(∀ f∈fs,aZ bs f)->ai.lenL (gw bs) fs<=2000->(ai.rowL (rG bs) fs).length=ai.lenL (gw bs) fs
 | [],_,_=>by rw[ai.rowL,ai.lenL];rfl
 | f::fs,k,h=>by
  rw[ai.lenL]at h ⊢;rw[ai.rowL,x3,ai.row_len ok f (k f xZ) (by omega),ai.row_lenL ok fs (fun g hg=>k g (xY _ hg)) (by omega)]
end
theorem oy {e:Str->Nat}:∀ {fs:List ai}{f:ai},f∈fs->f.len e<=ai.lenL e fs
 | g::fs,f,h=>by
  rw[ai.lenL];rcases ya.mp h with rfl | h
  ·omega
  ·have:=oy (e:=e) h;omega
theorem ic {e:Str->Nat}:∀ (i:Nat)(fs:List ai),ai.lenL e (fs.take i)<=ai.lenL e fs
 | 0,fs=>by rw[List.take_zero,ai.lenL];exact yg _
 | _+1,[]=>xT _
 | i+1,f::fs=>by
  rw[List.take_succ_cons,ai.lenL,ai.lenL];have:=ic (e:=e) i fs;omega
open Classical in
noncomputable def cntF (fs:List ai) (u:ai):Nat:=fs.countP fun f=>decide (f=u)
theorem rH (len:ai->Nat)(fs:List ai):((once fs).map fun u=>cntF fs u*len u).sum=(fs.map len).sum:=kx len (r6 fs) fs fun f hf=>gJ.mpr hf
open Classical in
theorem tR {fs:List ai}{u:ai}{c:Nat}(h:∀ g:Dt->Bool,(∀ x,g x=true↔x=u.dt)->c=(ai.dtL fs).countP g):c=cntF fs u:=by
 rw[h (fun x=>decide (x=u.dt)) (fun x=>decide_eq_true_iff),oq,List.countP_map];unfold cntF;refine List.countP_congr fun f _=>?_
 show decide (f.dt=u.dt)=true↔decide (f=u)=true
 rw[decide_eq_true_iff,decide_eq_true_iff];exact⟨fun e=>ai.dt_inj _ _ e,fun e=>by rw[e]⟩
theorem tQ (fs:List ai)(u:ai):cntF fs u<=fs.length:=by unfold cntF;exact List.countP_le_length
open Classical in
theorem qv (fs:List ai):(once fs).length<=fs.length:=by
 have key:∀ (fs acc:List ai),(fs.foldl likeStep acc).length<=acc.length+fs.length:=fun fs=>by
  induction fs with
  | nil=>exact fun acc=>xT _
  | cons f fs ih =>
   intro acc;rw[List.foldl_cons];have:=ih (likeStep acc f)
   have:(likeStep acc f).length<=acc.length+1:=by unfold likeStep;split<;>simp
   rw[yt];omega
 have:=key fs [];unfold once;simpa using this
theorem ms:∀ l:List Nat,(l.map fun n:Nat=>(n:Int)).sum=((l.sum:Nat):Int)
 | []=>rfl
 | a::l=>by rw[yf,zg,zg,ms l];omega
inductive ly (vs:List V) (H:Hp) (Q:VK) (E_:XK):Prop
 | mk (z:Str) (h_0:vs=[.str z]) (h_1:mE z) (h_2:z.length<=900) (h_3:∀ H',ay H H'->Q (.bl (m4 z)) H'):ly vs H Q E_
inductive mo (vs:List V) (H:Hp) (Q:VK) (E_:XK):Prop
 | mk (p:Addr) (n:Nat) (f:ai) (h_0:vs=[.ref p]) (h_1:n<=9) (h_2:aO (n+1) H p f) (h_3:∀ (l:Addr)(as:List Addr)(H':Hp),H l=none->ay H H'->H' l=some (.lst (as.map V.ref))->Paired (aO n H') as f.inner->Q (.ref l) H'):mo vs H Q E_
inductive gT (C cU:Addr) (vs:List V) (H:Hp) (Q:VK) (E:XK):Prop
 | mk (b:Addr) (A:BA) (bs:List BE) (w:Str) (h_0:vs=[.ref b,.str w]) (h_1:eN C H b A bs) (h_2:w.length<=900) (h_3:∀ e,f9 bs w=some e->Q (.ref e.p) H) (h_4:f9 bs w=none->∀ H',ay H H'->E (.ref cU) none H'):gT C cU vs H Q E
inductive kG (C cU:Addr) (n:Nat) (vs:List V) (H:Hp) (Q:VK) (E:XK):Prop
 | mk (b p:Addr) (A:BA) (bs:List BE) (f:ai) (h_0:vs=[.ref b,.ref p]) (h_1:eN C H b A bs) (h_2:aO n H p f) (h_3:aZ bs f->∀ H',ay H H'->Q .non H') (h_4:¬ aZ bs f->∀ H',ay H H'->E (.ref cU) none H'):kG C cU n vs H Q E
def ND (H H':Hp):Prop:=∀ a o,H a=some o->(∀ kv,o≠HO.dK kv)->H' a=some o
theorem sM {H H':Hp}(s:ay H H'):ND H H':=fun a o e _=>s a o e
theorem kW {H:Hp}{d:Addr}{kv:List (bV×V)}{o:HO}(h:H d=some (.dK kv)):ND H (aH H d o):=fun a u e n=>by
 rw[ak (fun z=>by rw[z,h]at e;cases e;exact n _ rfl)];exact e
theorem ND.trans {H H' H2:Hp}(s:ND H H')(t:ND H' H2):ND H H2:=fun a o e n=>t a o (s a o e n) n
theorem aO.nd {H H':Hp}{n:Nat}{p:Addr}{f:ai}(h:aO n H p f)(s:ND H H'):aO n H' p f:=h.mono fun _ _ z=>s _ _ z fun _ q=>nomatch q
theorem cP.nd {H H':Hp}{l:Addr}{r:List (Int×Int)}(h:cP H l r)(s:ND H H'):cP H' l r:=by
 obtain⟨as,h1,p⟩:=h;exact⟨as,s _ _ h1 (fun _ q=>nomatch q),Paired.mapP p fun a q z=>s _ _ z fun _ q=>nomatch q⟩
structure vR (C:Addr)(H:Hp)(b:Addr)(A:BA)(bs:List BE):Prop where
 ob:H b=some (.ins C A.dx (kN (.ref A.d1) (.ref A.d2) (.ref A.d3)))
 f2:H A.d2=some (.dK (bs.map fun e=>(Sum.inr e.w,V.int e.n)))
theorem vR.mono {C:Addr}{H H':Hp}{b:Addr}{A:BA}{bs:List BE}(x:vR C H b A bs)(s:ay H H'):vR C H' b A bs:=⟨s _ _ x.ob,s _ _ x.f2⟩
structure uV (C:Addr)(H:Hp)(b:Addr)(A:BA)(bs:List BE):Prop where
 ob:H b=some (.ins C A.dx (kN (.ref A.d1) (.ref A.d2) (.ref A.d3)))
 f3:H A.d3=some (.dK ((bs.filter c5).map fun e=>(Sum.inr e.w,V.ref e.l)))
 rw:∀ e∈bs,e.n<=2000->cP H e.l e.r/\e.r.length=e.n
 nd:(bs.map (·.w)).Nodup
theorem uV.mono {C:Addr}{H H':Hp}{b:Addr}{A:BA}{bs:List BE}(x:uV C H b A bs)(s:ay H H'):uV C H' b A bs :=
 ⟨s _ _ x.ob,s _ _ x.f3,fun e he h=>⟨(x.rw e he h).1.mono s,(x.rw e he h).2⟩,x.nd⟩
theorem n6 {C:Addr}{H H':Hp}{b:Addr}{A:BA}{bs:List BE}{x:BE}(B:eN C H b A bs)(nd:ND H H')(hw:x.w∉bs.map (·.w))(f1:H' A.d1=some (.dK ((bs.map fun e=>((Sum.inr e.w:bV),V.ref e.p))++[(Sum.inr x.w,V.ref x.p)])))
  (f2:H' A.d2=some (.dK ((bs.map fun e=>((Sum.inr e.w:bV),V.int e.n))++[(Sum.inr x.w,V.int x.n)]))) (f3:H' A.d3=some (.dK (((bs.filter c5).map fun e=>((Sum.inr e.w:bV),V.ref e.l))++(if x.n<=2000 then [(Sum.inr x.w,V.ref x.l)] else []))))
  (fg:aO 9 H' x.p x.f) (rw':x.n<=2000->cP H' x.l x.r/\x.r.length=x.n) (ln:bs.length<=50):eN C H' b A (bs++[x]):=by
 refine⟨nd _ _ B.ob (fun _ q=>nomatch q),by rw[f1,x8];rfl,by rw[f2,x8];rfl,?_,?_,?_,?_,by rw[x3,yr];omega,B.d12,B.d13,B.d23⟩
 ·rw[f3,List.filter_append,x8]
  by_cases c:x.n<=2000
  ·rw[x4 c,List.filter_cons_of_pos (by unfold c5;exact xX c)];rfl
  ·rw[xV c,List.filter_cons_of_neg (by unfold c5;rw[xS c];decide)];rfl
 ·intro e he
  rcases ym.mp he with z | z
  ·exact (B.fg e z).nd nd
  ·rw[x6.mp z];exact fg
 ·intro e he h
  rcases ym.mp he with z | z
  ·exact⟨(B.rw e z h).1.nd nd,(B.rw e z h).2⟩
  ·rw[x6.mp z]at h ⊢;exact rw' h
 ·rw[x8]
  refine zx.mpr ⟨B.nd,by simp,fun a ha b hb e=>?_⟩;rw[List.map_singleton,x6]at hb;subst hb e;exact hw ha
inductive iy (C:Addr) (n:Nat) (vs:List V) (H:Hp) (Q:VK) (E_:XK):Prop
 | mk (b p:Addr) (A:BA) (bs:List BE) (f:ai) (h_0:vs=[.ref b,.ref p]) (h_1:vR C H b A bs) (h_2:aO n H p f) (h_3:aZ bs f) (h_4:∀ H',ay H H'->Q (.int (f.len (gw bs))) H'):iy C n vs H Q E_
inductive fK (C:Addr) (n:Nat) (vs:List V) (H:Hp) (Q:VK) (E_:XK):Prop
 | mk (b p:Addr) (A:BA) (bs:List BE) (f:ai) (h_0:vs=[.ref b,.ref p]) (h_1:uV C H b A bs) (h_2:aO n H p f) (h_3:aZ bs f) (h_4:f.len (gw bs)<=2000) (h_5:∀ (l:Addr)(H':Hp),H l=none->ay H H'->cP H' l (f.rowF (rG bs))->Q (.ref l) H'):fK C n vs H Q E_
inductive ji (C:Addr) (vs:List V) (H:Hp) (Q:VK) (E_:XK):Prop
 | mk (b dx:Addr) (h_0:vs=[.ref b]) (h_1:H b=some (.ins C dx [])) (h_2:∀ (A:BA)(H':Hp),(∀ a o,H a=some o->a≠b->H' a=some o)->eN C H' b A []->H A.d1=none->H A.d2=none->H A.d3=none->Q .non H'):ji C vs H Q E_
inductive fH (C:Addr) (vs:List V) (H:Hp) (Q:VK) (E_:XK):Prop
 | mk (b:Addr) (A:BA) (bs:List BE) (h_0:vs=[.ref b]) (h_1:eN C H b A bs) (h_2:∀ l,H l=none->Q (.ref l) (aH H l (.lst ((bs.map (·.w)).map V.str)))):fH C vs H Q E_
inductive DO where
 | done | bad | taken | unknown
open Classical in
noncomputable def defO (bs:List BE) (w:Str) (f:ai):DO:=if m4 w=false then .bad else if w∈bs.map (·.w) then .taken else if aZ bs f then .done else .unknown
def uX (C:Addr)(H:Hp)(b:Addr)(A:BA)(bs:List BE)(w:Str)(f:ai)(p:Addr)(R:Hp->Prop):Prop:=∀ (x:BE)(H':Hp),x.w=w->x.f=f->x.p=p->x.n=f.len (gw bs)->(x.n<=2000->x.r=f.rowF (rG bs))->eN C H' b A (bs++[x])->(∀ a o,H a=some o->a≠A.d1->a≠A.d2->a≠A.d3->H' a=some o)->R H'
inductive gU (C cU cB cT:Addr) (vs:List V) (H:Hp) (Q:VK) (E:XK):Prop
 | mk (b p:Addr) (A:BA) (bs:List BE) (w:Str) (f:ai) (h_0:vs=[.ref b,.str w,.ref p]) (h_1:eN C H b A bs) (h_2:aO 9 H p f) (h_3:mE w) (h_4:w.length<=900) (h_5:bs.length<=50)
  (h_6:defO bs w f=.done->uX C H b A bs w f p (Q .non)) (h_7:defO bs w f=.bad->∀ H',ay H H'->E (.ref cB) none H') (h_8:defO bs w f=.taken->∀ H',ay H H'->E (.ref cT) none H') (h_9:defO bs w f=.unknown->∀ H',ay H H'->E (.ref cU) none H'):gU C cU cB cT vs H Q E
structure uY (K:PySem.W.Frag)(mg:Str->Option Value)(cS cU ck cB cT kd:Addr):Prop extends xv K mg cS where
 f:wU K mg ck
 mp:∃ u,mg "MOST_PAIRS" = some u/\aD (.int 2000) u
 ml:∃ u,mg "LONGEST_NAME" = some u/\aD (.int 12) u
 mt:∃ u,mg "LETTERS" = some u/\aD (.str "abcdefghijklmnopqrstuvwxyz") u
 mkd:mg "KINDS" = some (.ref kd)
 kd:∃ (o:Obj)(its:Array Value)(n:Nat),K.lookup kd=some o/\o.cls=.type "tuple"/\o.data=.seq its n/\its.size<=sizeLine/\Vals (kindsL.map V.str) its.toList
 eU:dL K cU
 mU:mg "Unknown" = some (.ref cU)
 eB:dL K cB
 mB:mg "BadName" = some (.ref cB)
 eT:dL K cT
 mT:mg "Taken" = some (.ref cT)
 bb:PySem.W.exmOne K (.ref cB) (.ref cB)=some true
 tb:PySem.W.exmOne K (.ref cT) (.ref cB)=some false
 tt:PySem.W.exmOne K (.ref cT) (.ref cT)=some true
 ub:PySem.W.exmOne K (.ref cU) (.ref cB)=some false
 ut:PySem.W.exmOne K (.ref cU) (.ref cT)=some false
 uu:PySem.W.exmOne K (.ref cU) (.ref cU)=some true
def tF (P:Program)(w:World)(K:PySem.W.Frag)(mg:Str->Option Value)(base:Heap)(ck:Addr):Prop:=∃ (fI:Addr)(fd:FuncData),Mk K ck fI/\a9 P w K mg base dD 1 fI fd ["self"] (ji ck)/\dR K fd ["self"] []
theorem nu {X:Cx}{ck:Addr}{p pos:Pos}(M:tF X.prog X.w X.K X.mg X.base ck)(U:wU X.K X.mg ck)(hr:bJ 2 X.A)(hg:Gl X "FigureBook"):PE X (.Call (.Name "FigureBook" p) [] [] pos) (sV ck (ji ck) [] E0 kj):=by
 obtain⟨fI,fd,M,G,hb⟩:=M;exact qG M G hr hg U.mF hb .nil fY
end Wz
namespace L2
open PySem PySem.Spec PyProof.Rows
theorem bH {X:Cx} {x j p}{es:List Expr}{t:TA}(hr:PA X es t):PA X (.Constant (.str x) j p::es) (g9 (tC (.str x)) t):=aF ap hr rfl
theorem nM {es:List Expr}{p:Pos}{t:Option Expr}{n:Nat}{env:Env}:swapsWith (.List es p) t n env=pure false:=rfl
structure wZ (X:Cx)(ss:List Stmt)(t:TS):Prop where
 h:mH X ss t
structure QA (X:Cx)(es:List Expr)(t:TA):Prop where
 h:PA X es t
theorem qR {X:Cx}:QA X [] kj:=⟨a8⟩
theorem bW {X:Cx} {x j p}{es:List Expr}{t:TA}(hr:QA X es t):QA X (.Constant (.str x) j p::es) (g9 (tC (.str x)) t):=⟨bH hr.h⟩
theorem qS {X:Cx}(i:Nat){x:Str}{es es2:List Expr}{sl:Expr}{ta tb:TA}{ti:TE}{p1 p2 p3 p4 p5 p6 p7 p8:Pos}(hN:X.N.Nodup)(h1:QA X es ta)(h2:QA X es2 tb)(h3:PE X sl ti)(hp:nZ sl)(hv:PE X (.Name x p4) (sy i))(hi:X.N[i]? = some x:=by rfl)(hx:tK X.env.scope x:=by first | exact Or.inl rfl | exact Or.inr rfl)
  (hf:X.fn x=true\/X.env.scope.names.lookup x=some .local:=by first | exact .inl rfl | exact .inr rfl | assumption) :
  wZ X [.Assign [.Name x p1] (.List es p2) p3,.Return (some (.Subscript (.BinOp (.Name x p4) .Add (.List es2 p5) p6) sl p7)) p8] (vO (uF (uJ ta) (iL i)) (vM (uU (vy X.K) (uU uC (sy i) (uJ tb)) ti))) :=
 ⟨ae (aK i hN (bC h1.h) hi hx nM hf) (ag (aq (aA dc (aj k9 hv (bC h2.h)) h3 hp)))⟩
end L2
namespace Wz
open PySem L2
theorem pX {w:Str}{c:Nat}(a:mE w)(h:c<128):mE (w++⟨#[c]⟩):=by
 refine tN fun x hx=>?_;rw[og]at hx;rcases ym.mp hx with z | z
 ·unfold mE at a
  rw[<-Array.all_toList]at a;exact yS (y7.mp a x z)
 ·have:x=c:=by simpa [tS] using z
  omega
theorem qp {w:Str}{c:Nat}:(w++⟨#[c]⟩:Str).length=w.length+1:=by
 rw[oh,og,x3,<-oh];rfl
theorem ug {d:Int}(h0:0<=d)(h:d<26):∃ c,c<128/\rE (Str.cps "abcdefghijklmnopqrstuvwxyz").toList d=some c:=by
 have e:(Str.cps "abcdefghijklmnopqrstuvwxyz").toList=(List.range 26).map (·+97):=by decide +kernel
 obtain⟨n,rfl⟩:=Int.eq_ofNat_of_zero_le h0;refine⟨n+97,by omega,?_⟩;rw[e];refine av (j:=n) ?_;rw[List.getElem?_map,List.getElem?_range (by omega)];rfl
theorem e9 {b:Bool}{p q:Prop}(h1:b=true->p)(h2:b=false->q):if b=true then p else q:=by
 cases b
 ·exact aE (h2 rfl)
 ·exact aV (h1 rfl)
def l7:List Str:=["","pair","line","star","all","quad","row","back","name","abcdefghijklm","Hey","he y","hey1","hey_","(hey","hey\n"]
theorem ui {i:Int}(h0:0<=i)(h:i<16):∃ w,mE w/\w.length<=20/\rE (l7.map V.str) i=some (.str w):=by
 obtain⟨n,rfl⟩:=Int.eq_ofNat_of_zero_le h0;have hl:l7.length=16:=rfl
 have hn:n<l7.length:=by omega
 have ok:l7.all (fun w=>w.cps.all (· < 128)&&decide (w.length<=20))=true:=by decide +kernel
 have o:=y7.mp ok _ (List.getElem_mem hn);rw[y0]at o;refine⟨l7[n],o.1,yS o.2,av (j:=n) ?_⟩;rw[List.getElem?_map,List.getElem?_eq_getElem hn];rfl
theorem eh:∀ a b:List ai,ai.namesL (a++b)=ai.namesL a++ai.namesL b
 | [],b=>by rw[ai.namesL];rfl
 | f::a,b=>by rw[List.cons_append,ai.namesL,ai.namesL,eh a b,zv]
theorem lV (i:Nat)(fs:List ai):(ai.namesL (fs.take i)).length<=(ai.namesL fs).length:=by
 conv=>rhs;rw[<-List.take_append_drop i fs,eh,x3]
 omega
inductive nK (vs:List V) (H:Hp) (Q:VK) (E_:XK):Prop
 | mk (c:Int) (h_0:vs=[.int c]) (h_1:∀ (w:Str)(H':Hp),mE w->w.length<=20->ay H H'->Q (.str w) H'):nK vs H Q E_
inductive jj (vs:List V) (H:Hp) (Q:VK) (E_:XK):Prop
 | mk (w:Str) (h_0:vs=[.str w]) (h_1:mE w) (h_2:w.length<=900) (h_3:∀ H',ay H H'->Q (.bl (m4 w)) H'):jj vs H Q E_
def rL:DO->Str
 | .done=>"done"
 | .bad=>"BadName"
 | .taken=>"Taken"
 | .unknown=>"Unknown"
inductive lp (C:Addr) (vs:List V) (H:Hp) (Q:VK) (E_:XK):Prop
 | mk (b p:Addr) (A:BA) (bs:List BE) (w:Str) (f:ai) (h_0:vs=[.ref b,.str w,.ref p]) (h_1:eN C H b A bs) (h_2:aO 9 H p f) (h_3:mE w) (h_4:w.length<=900) (h_5:bs.length<=50)
  (h_6:defO bs w f=.done->uX C H b A bs w f p (Q (.str (rL .done)))) (h_7:defO bs w f≠.done->∀ H',ay H H'->Q (.str (rL (defO bs w f))) H'):lp C vs H Q E_
inductive jn (C:Addr) (vs:List V) (H:Hp) (Q:VK) (E_:XK):Prop
 | mk (b:Addr) (A:BA) (bs:List BE) (w:Str) (h_0:vs=[.ref b,.str w]) (h_1:eN C H b A bs) (h_2:w.length<=100) (h_3:∀ e,f9 bs w=some e->∀ H',ay H H'->Q (.ref e.p) H') (h_4:f9 bs w=none->∀ H',ay H H'->Q (.str "Unknown") H'):jn C vs H Q E_
inductive gX (vs:List V) (H:Hp) (Q:VK) (E_:XK):Prop
 | mk (p:Addr) (n:Nat) (f:ai) (h_0:vs=[.ref p]) (h_1:aO n H p f) (h_2:(∃ g,f=.pl g)\/∃ w,f=.name w) (h_3:∀ H' k,ay H H'->Q (.bl k) H'):gX vs H Q E_
inductive fJ (n:Nat) (vs:List V) (H:Hp) (Q:VK) (E_:XK):Prop
 | mk (p:Addr) (f:ai) (h_0:vs=[.ref p]) (h_1:aO n H p f) (h_2:f.names.length<=1000) (h_3:∀ (l:Addr)(H':Hp),H l=none->ay H H'->H' l=some (.lst (f.names.map V.str))->Q (.ref l) H'):fJ n vs H Q E_
def kK (H:Hp)(t:Addr)(x:ai×Nat):Prop:=∃ p,H t=some (.tup [.ref p,.int x.2])/\aO x.2 H p x.1
def hX (x:ai×Nat):Prop:=1<=x.2/\x.2<=7/\(x.2=1->(∃ g,x.1=.pl g)\/∃ w,x.1=.name w)
def sB (x:ai×Nat):Nat:=if x.2=1 then 20 else x.1.names.length
def jZ:List (ai×Nat)->Nat
 | []=>0
 | x::xs=>sB x+jZ xs
def rD (H:Hp)(s:Addr)(xs:List (ai×Nat)):Prop:=∃ ts:List Addr,H s=some (.lst (ts.map V.ref))/\Paired (kK H) ts xs
theorem kK.mono {H H':Hp}{t:Addr}{x:ai×Nat}(h:kK H t x)(s:∀ b ys,H b=some (.tup ys)->H' b=some (.tup ys)):kK H' t x:=by
 obtain⟨p,e1,e2⟩:=h;exact⟨p,s _ _ e1,e2.mono s⟩
theorem hJ:∀ a b:List (ai×Nat),jZ (a++b)=jZ a+jZ b
 | [],b=>by rw[List.nil_append,jZ];omega
 | x::a,b=>by rw[List.cons_append,jZ,jZ,hJ a b];omega
theorem hX.few {x:ai×Nat}(h:hX x):x.1.names.length<=sB x:=by
 unfold sB;split
 ·rename_i e
  rcases h.2.2 e with ⟨g,z⟩ | ⟨w,z⟩
  ·rw[z,ai.names];simp
  ·rw[z,ai.names];simp
 ·exact xT _
theorem iA:∀ xs:List (ai×Nat),(∀ x∈xs,hX x)->(ai.namesL (xs.map (·.1))).length<=jZ xs
 | [],_=>by rw[List.map_nil,ai.namesL];exact yg _
 | x::xs,h=>by
  have ih:=iA xs fun y hy=>h y (xY _ hy);have:=(h x xZ).few;rw[yf,ai.namesL,x3,jZ];omega
theorem qk {H:Hp}{ts:List Addr}{xs:List (ai×Nat)}(h:Paired (kK H) ts xs)(ok:∀ x∈xs,hX x):∃ ps:List Addr,Paired (fun t p=>∃ n:Int,H t=some (.tup [.ref p,.int n])) ts ps/\Paired (aO 7 H) ps (xs.map (·.1)):=by
 induction h with
 | nil=>exact⟨[],.nil,.nil⟩
 | cons a _ ih =>
  obtain⟨ps,p1,p2⟩:=ih fun x hx=>ok x (xY _ hx);obtain⟨p,e1,e2⟩:=a;exact⟨p::ps,.cons ⟨_,e1⟩ p1,.cons (e2.le (ok _ xZ).2.1) p2⟩
inductive lB (vs:List V) (H:Hp) (Q:VK) (E_:XK):Prop
 | mk (s nm:Addr) (d:Int) (ws:List Str) (xs:List (ai×Nat)) (h_0:vs=[.ref s,.int d,.ref nm]) (h_1:0<=d) (h_2:rD H s xs) (h_3:H nm=some (.lst (ws.map V.str))) (h_4:∀ w∈ws,w.length<=100) (h_5:ws.length<=100) (h_6:∀ x∈xs,hX x) (h_7:xs.length<=20)
  (h_8:∀ (ys:List (ai×Nat))(H':Hp),rD H' s ys->(∀ x∈ys,hX x)->ys.length<=xs.length+1->jZ ys<=jZ xs+20->(∀ a o,H a=some o->a≠s->H' a=some o)->Q .non H'):lB vs H Q E_
inductive lx (vs:List V) (H:Hp) (Q:VK) (E_:XK):Prop
 | mk (l nm:Addr) (c:Int) (ds:List Int) (ws:List Str) (h_0:vs=[.ref l,.int c,.ref nm]) (h_1:H l=some (.lst (ds.map V.int))) (h_2:∀ d∈ds,0<=d) (h_3:ds.length<=9) (h_4:H nm=some (.lst (ws.map V.str))) (h_5:∀ w∈ws,w.length<=100) (h_6:ws.length<=100)
  (h_7:∀ (p:Addr)(f:ai)(H':Hp),ay H H'->aO 9 H' p f->f.names.length<=200->Q (.ref p) H'):lx vs H Q E_
def pW (s:Addr)(H H':Hp):Prop:=∀ a o,H a=some o->a≠s->H' a=some o
theorem jB {s:Addr}{H H':Hp}(h:ay H H'):pW s H H':=fun a o e _=>h a o e
theorem pW.trans {s:Addr}{H H' H2:Hp}(h:pW s H H')(t:pW s H' H2):pW s H H2:=fun a o e n=>t a o (h a o e n) n
theorem ja {s:Addr}{H:Hp}{o:HO}:pW s H (aH H s o):=fun a u e n=>by rw[ak n];exact e
theorem pW.tup {s:Addr}{H H':Hp}{vs:List V}(h:pW s H H')(e:H s=some (.lst vs)):∀ b ys,H b=some (.tup ys)->H' b=some (.tup ys):=fun b ys z=>h b _ z fun q=>by rw[q,e]at z;cases z
theorem qY {H H':Hp}{s t:Addr}{ts:List Addr}{xs:List (ai×Nat)}{x:ai×Nat}(pr:Paired (kK H) ts xs)(up:∀ b ys,H b=some (.tup ys)->H' b=some (.tup ys))(hs:H' s=some (.lst (ts.map V.ref++[.ref t])))(it:kK H' t x):rD H' s (xs++[x]) :=
 ⟨ts++[t],by rw[hs,x8];rfl,bf (Paired.mapP pr fun _ _ z=>z.mono up) (.cons it .nil)⟩
theorem qu {xs:List (ai×Nat)}{x:ai×Nat}(h:∀ y∈xs,hX y)(hx:hX x):∀ y∈xs++[x],hX y:=fun y hy=>by
 rcases ym.mp hy with z | z
 ·exact h y z
 ·rw[x6.mp z];exact hx
theorem iQ (fs:List ai):∀ k:Nat,(ai.namesL (List.replicate k fs).flatten).length=k*(ai.namesL fs).length
 | 0=>by rw[List.replicate_zero,List.flatten_nil,ai.namesL,Nat.zero_mul];rfl
 | k+1=>by rw[yE,yR,eh,x3,iQ fs k,Nat.succ_mul,Nat.add_comm]
theorem iR {α β:Type}{F:α->β->Prop}{l:List α}{m:List β}(p:Paired F l m):∀ k:Nat,Paired F (List.replicate k l).flatten (List.replicate k m).flatten
 | 0=>.nil
 | k+1=>by rw[yE,yE,yR,yR];exact bf p (iR p k)
theorem ij {α β:Type}(f:α->β)(l:List α):∀ k:Nat,(List.replicate k (l.map f)).flatten=((List.replicate k l).flatten).map f
 | 0=>rfl
 | k+1=>by rw[yE,yE,yR,yR,x8,ij f l k]
theorem mz:∀ {xs:List (ai×Nat)},(∀ x∈xs,x.2=1)->jZ xs=20*xs.length
 | [],_=>rfl
 | x::xs,h=>by
  rw[jZ,mz fun y hy=>h y (xY _ hy),yt];unfold sB;rw[x4 (h x xZ)];omega
theorem jJ:∀ {xs:List (ai×Nat)},(∀ x∈xs,hX x)->(∀ x∈xs,x.2=1)->(ai.namesL (xs.map (·.1))).length<=xs.length
 | [],_,_=>by rw[List.map_nil,ai.namesL];exact xT _
 | x::xs,ok,h=>by
  have ih:=jJ (fun y hy=>ok y (xY _ hy)) fun y hy=>h y (xY _ hy);rw[yf,ai.namesL,x3,yt];rcases (ok x xZ).2.2 (h x xZ) with ⟨g,z⟩ | ⟨w,z⟩
  ·rw[z,ai.names];simp only[List.length_nil];omega
  ·rw[z,ai.names];simp only[yr];omega
theorem uO {xs:List (ai×Nat)}{k d:Nat}(ok:∀ x∈xs,hX x)(hd:2<=d)(hk:k=1\/(k<=20/\∀ x∈xs,x.2=1)):sB (.row (List.replicate k (xs.map (·.1))).flatten,d)<=jZ xs:=by
 unfold sB;rw[xV (show ¬ d=1 by omega)]
 show (ai.row _).names.length<=_
 rw[ai.names,iQ];rcases hk with rfl | ⟨hk,h1⟩
 ·rw[Nat.one_mul];exact iA xs ok
 ·rw[mz h1]
  exact Nat.mul_le_mul hk (jJ ok h1)
theorem qo {α:Type}(l:List α)(k:Nat):(List.replicate k l).flatten.length=k*l.length:=by
 rw[List.length_flatten,List.map_replicate,List.sum_replicate_nat]
abbrev pT:=Addr×Addr×(ai×Nat)
def tG (H:Hp)(u:pT):Prop:=H u.1=some (.tup [.ref u.2.1,.int u.2.2.2])/\aO u.2.2.2 H u.2.1 u.2.2.1
theorem tG.mono {H H':Hp}{u:pT}(h:tG H u)(s:∀ b ys,H b=some (.tup ys)->H' b=some (.tup ys)):tG H' u:=⟨s _ _ h.1,h.2.mono s⟩
theorem rS {H:Hp}{ts:List Addr}{xs:List (ai×Nat)}(h:Paired (kK H) ts xs):∃ us:List pT,ts=us.map (·.1)/\xs=us.map (·.2.2)/\∀ u∈us,tG H u:=by
 induction h with
 | nil=>exact⟨[],rfl,rfl,fun u hu=>nomatch hu⟩
 | cons a _ ih =>
  obtain⟨us,rfl,rfl,h⟩:=ih;obtain⟨p,e1,e2⟩:=a;exact⟨(_,p,_)::us,rfl,rfl,fun u hu=>(ya.mp hu).elim (fun e=>by rw[e];exact⟨e1,e2⟩) (h u)⟩
theorem jb {H:Hp}:∀ {us:List pT},(∀ u∈us,tG H u)->Paired (kK H) (us.map (·.1)) (us.map (·.2.2))
 | [],_=>.nil
 | u::us,h=>.cons ⟨_,(h u xZ).1,(h u xZ).2⟩ (jb fun v hv=>h v (xY _ hv))
theorem ou {H:Hp}{M:Nat}:∀ {us:List pT},(∀ u∈us,tG H u)->(∀ u∈us,u.2.2.2<=M)->Paired (aO M H) (us.map (·.2.1)) (us.map (·.2.2.1))
 | [],_,_=>.nil
 | u::us,h,k=>.cons ((h u xZ).2.le (k u xZ)) (ou (fun v hv=>h v (xY _ hv)) fun v hv=>k v (xY _ hv))
theorem oY {K:PySem.W.Frag}{te:TE}{Qf:Hp->Prop}{lr q:Addr}{α:Type}(g:α->V){rs:List α}{rest:L2.St}{H:Hp}(hq:H q=none)(h1:H lr=some (.lst (rs.map g)))(hlen:rs.length<=1000)
  (ht:∀ (r:α)(HK:Hp)(Q':VK),r∈rs->ay H HK->(∀ H5 b,ay HK H5->Q' (.bl b) H5)->te (some (g r)::rest) HK Q') (k:∀ (HK:Hp)(bs:List Bool),ay H HK->HK q=some (.lst (bs.map V.bl))->Qf HK) :
  iH (tH K lr) (iL 0) (sA mw te q) { nx:=fun _ H'=>Qf H',rt:=fun _ _=>False } (none::rest) (aH H q (.lst [])):=by
 refine bZ (K:=K) (a:=lr) (xs:=rs.map g) (fun i σ HK=>∃ (v:Option V)(bs:List Bool),σ=v::rest/\ay H HK/\HK q=some (.lst (bs.map V.bl))/\bs.length=i) ⟨none,[],rfl,af hq,aa,rfl⟩ (fun i σ HK _ ⟨_,_,_,s2,_⟩=>aT.of (s2 _ _ h1)) ?_ ?_
 ·rintro i y σ HK hi ⟨v,bs,rfl,t1,hq2,bl⟩
  obtain⟨r,hr0,rfl⟩:=bB hi;have hil:i<rs.length:=(List.getElem?_eq_some_iff.mp hr0).1;refine cO (ht r HK _ (yj hr0) t1 fun H5 b s5=>⟨_,s5 _ _ hq2,by rw[xP];exact cx (by omega),_,bs++[b],rfl,bF (t1.trans s5) hq,?_,by rw[x3,bl];rfl⟩);rw[aa,x8];rfl
 ·rintro σ HK ⟨v,bs,rfl,t1,hq2,_⟩
  exact k HK bs t1 hq2
theorem eN.updD {C:Addr}{H:Hp}{b dm:Addr}{A:BA}{bs:List BE}{kv:List (bV×V)}{o:HO}(B:eN C H b A bs)(h:H dm=some (.dK kv))(m1:dm≠A.d1)(m2:dm≠A.d2)(m3:dm≠A.d3):eN C (aH H dm o) b A bs:=by
 have nd:ND H (aH H dm o):=kW h;exact⟨nd _ _ B.ob (fun _ q=>nomatch q),by rw[ak (yo m1)];exact B.f1,by rw[ak (yo m2)];exact B.f2,by rw[ak (yo m3)];exact B.f3,fun e he=>(B.fg e he).nd nd,fun e he h=>⟨(B.rw e he h).1.nd nd,(B.rw e he h).2⟩,B.nd,B.ln,B.d12,B.d13,B.d23⟩
theorem kD {bs:List BE}{f:ai}:(f.names.map fun z=>decide (z∈bs.map (·.w))).all id=true↔aZ bs f:=by
 unfold aZ;rw[List.all_map,y7];exact⟨fun h w hw=>yS (h w hw),fun h w hw=>xX (h w hw)⟩
theorem pY {bs:List BE}{z:Str}{g:BE->V}:((f9 bs z).map g).isSome=decide (z∈bs.map (·.w)):=by
 cases e:f9 bs z with
 | none=>rw[xS (cQ.mp e)];rfl
 | some x=>rw[xX (yB.mpr ⟨x,(cy e).1,(cy e).2⟩)];rfl
theorem oJ {K:PySem.W.Frag}{H:Hp}{l:Addr}{ws:List Str}(h:H l=some (.lst (ws.map V.str))):RD K H 1 (.ref l) (.sq false (ws.map fun w=>.at (.str w))):=by
 refine RD.lst (aT.of h) ?_;clear h
 induction ws with
 | nil=>exact .nil
 | cons w ws ih=>exact .cons ⟨rfl,rfl⟩ ih
end Wz
namespace Wk43
open PySem L2 Wz
def hG (i:Nat):Stmt:=PySem.Challenge.pw_lastwaltz_k43_names_of_figures.main.body.getD i (.Pass ⟨0,0,0,0⟩)
structure xh (mg:Str->Option Value):Prop where
 len:mg "len" = none
 range:mg "range" = none
 isinstance:mg "isinstance" = none
 tuple:mg "tuple" = none
 list:mg "list" = none
 int:mg "int" = none
 bool:mg "bool" = none
 all:mg "all" = none
 any:mg "any" = none
 sorted:mg "sorted" = none
 reversed:mg "reversed" = none
 bset:mg "set" = none
 bmin:mg "min" = none
 bmax:mg "max" = none
 dict:mg "dict" = none
 zip:mg "zip" = none
 enumerate:mg "enumerate" = none
 sum:mg "sum" = none
 str:mg "str" = none
section
variable {P:Program}{w:World}{K:PySem.W.Frag}{mg:Str->Option Value}{base:Heap}{c:HX}{co cq ck f P0 P1 cB cT kd:Addr}{fd:FuncData}
abbrev dQ:Stmt:=hG 8
abbrev kU:List Str:=["row"]
theorem kg:aC kU ["row"] (ah dQ):=gC
abbrev eF:Stmt:=hG 9
abbrev lU:List Str:=["a","b","c","d"]
theorem li:aC lU ["a","b","c","d"] (ah eF):=gC
abbrev eA:Stmt:=hG 15
abbrev kE:List Str:=["word"]
theorem nH:aC kE ["word"] (ah eA):=gC
abbrev cH:Stmt:=hG 16
abbrev iW:List Str:=["figure","unlike","inner"]
theorem cF:aC iW ["figure"] (ah cH):=gC
abbrev cI:Stmt:=hG 17
abbrev iX:List Str:=["figure","many"]
theorem dW:aC iX ["figure"] (ah cI):=gC
abbrev b6:Stmt:=hG 18
abbrev ee:List Str:=["figure","guests"]
theorem f6:aC ee ["figure"] (ah b6):=gC
abbrev cm:Stmt:=d8 (hG 19) 0
abbrev gG:List Str:=["self"]
theorem gj:aC gG ["self"] (ah cm):=gC
abbrev bO:Stmt:=d8 (hG 19) 1
abbrev fN:List Str:=["self","word","figure"]
theorem fm:aC fN ["self","word","figure"] (ah bO):=gC
abbrev bX:Stmt:=d8 (hG 19) 2
abbrev gf:List Str:=["self"]
theorem fQ:aC gf ["self"] (ah bX):=gC
abbrev cr:Stmt:=d8 (hG 19) 3
abbrev gH:List Str:=["self","word"]
theorem gk:aC gH ["self","word"] (ah cr):=gC
abbrev bh:Stmt:=d8 (hG 19) 5
abbrev dM:List Str:=["self","figure","inner"]
theorem bS:aC dM ["self","figure"] (ah bh):=gC
abbrev bq:Stmt:=d8 (hG 19) 6
abbrev da:List Str:=["self","figure"]
theorem ft:aC da ["self","figure"] (ah bq):=gC
abbrev bP:Stmt:=d8 (hG 19) 7
abbrev fO:List Str:=["self","figure","row","inner"]
theorem bM:aC fO ["self","figure"] (ah bP):=gC
abbrev dw:Stmt:=hG 21
abbrev j8:List Str:=["_law_script","_law_k"]
theorem jV:aC j8 ["_law_script","_law_k"] (ah dw):=gC
abbrev fu:Stmt:=hG 22
abbrev nc:List Str:=["_law_cell"]
theorem mm:aC nc ["_law_cell"] (ah fu):=gC
abbrev eC:Stmt:=hG 23
abbrev lR:List Str:=["_law_cell","_law_many","_law_base","_law_left","_law_row","_law_count","_law_k","_law_now"]
theorem aQ:aC lR ["_law_cell","_law_many","_law_base"] (ah eC):=gC
abbrev eD:Stmt:=hG 24
abbrev lS:List Str:=["_law_k","_law_cell","_law_left","_law_turn","_law_number"]
theorem de:aC lS ["_law_k","_law_cell"] (ah eD):=gC
abbrev fw:Stmt:=hG 25
abbrev ng:List Str:=["_law_cell","_law_letters","_law_word_here","_law_drawn"]
theorem cR:aC ng ["_law_cell"] (ah fw):=gC
abbrev dg:Stmt:=hG 26
abbrev iP:List Str:=["_law_drawn","_law_many","_law_step"]
theorem df:aC iP ["_law_drawn"] (ah dg):=gC
abbrev cC:Stmt:=hG 27
abbrev fb:List Str:=["_law_drawn","_law_cell","_law_kind","_law_ranks_here","_law_first","_law_step","_law_guests"]
theorem bQ:aC fb ["_law_drawn","_law_cell"] (ah cC):=gC
abbrev eE:Stmt:=hG 28
abbrev lT:List Str:=["_law_figure_here"]
theorem lh:aC lT ["_law_figure_here"] (ah eE):=gC
abbrev bz:Stmt:=hG 29
abbrev cM:List Str:=["_law_shelf","_law_drawn","_law_names","_law_kind","_law_many","_law_parts","_law_deep","_law_part","_law_often"]
theorem aR:aC cM ["_law_shelf","_law_drawn","_law_names"] (ah bz):=gC
abbrev cN:Stmt:=hG 30
abbrev gI:List Str:=["_law_draws_here","_law_cell","_law_names","_law_shelf","_law_drawn"]
theorem dP:aC gI ["_law_draws_here","_law_cell","_law_names"] (ah cN):=gC
abbrev dy:Stmt:=hG 31
abbrev j9:List Str:=["_law_book","_law_word_here","_law_figure_here","_law_told"]
theorem bN:aC j9 ["_law_book","_law_word_here","_law_figure_here"] (ah dy):=gC
abbrev c8:Stmt:=hG 32
abbrev jH:List Str:=["_law_cell","_law_word_here","_law_words"]
theorem cZ:aC jH ["_law_cell"] (ah c8):=gC
abbrev dz:Stmt:=hG 33
abbrev ka:List Str:=["_law_book","_law_word_here","_law_found"]
theorem cA:aC ka ["_law_book","_law_word_here"] (ah dz):=gC
abbrev bR:Stmt:=hG 34
abbrev eK:List Str:=["_law_word_here","_law_letters"]
theorem dU:aC eK ["_law_word_here"] (ah bR):=gC
abbrev c6:Stmt:=hG 35
abbrev jG:List Str:=["_law_figure_here","_law_found","_law_part"]
theorem ce:aC jG ["_law_figure_here"] (ah c6):=gC
abbrev lC:Stmt:=hG 36
abbrev sL:List Str:=["_law_script","_law_book","_law_meant","_law_cell","_law_k","_law_word_here","_law_figure_here","_law_due","_law_found","_law_name"]
theorem cG:aC sL ["_law_script"] (ah lC):=gC
variable (T:xh mg)(UO:uY K mg co cq ck cB cT kd)
include T UO
theorem kf (F:dS K "turned_row" "turned_row" dQ f fd) : a9 P w K mg base dD 1 f fd ["row"] (gY K):=by
 refine F.ok kg (fun vs H Q E h=>?_) (fun cdv A outer s H vs Q E hr h=>?_)
 ·obtain⟨l,xs,rfl,_⟩:=h
  rfl
 ·obtain⟨l,xs,rfl,hS,k⟩:=h
  refine⟨_,ag (aq (ny rfl (pv 0) (by rfl) T.list (by rfl) T.reversed)),?_⟩;exact⟨_,rfl,l,xs,rfl,hS,k⟩
theorem k8 (F:dS K "quadrille" "quadrille" eF f fd) : a9 P w K mg base (hW P w) 2 f fd ["a","b","c","d"] (jk co):=by
 refine F.okX li (fun vs H Q E h=>?_) (fun cdv A outer s H vs Q E hr h=>?_)
 ·obtain⟨a,b,c,d,rfl,_⟩:=h
  rfl
 ·obtain⟨a,b,c',d,rfl,k1,k2⟩:=h
  have hu:=jy hr
  have two:(2:Nat)<=sizeLine:=by decide
  have four:(4:Nat)<=sizeLine:=by decide
  have six:(6:Nat)<=sizeLine:=by decide
  refine⟨_,ae (aG (ar oz (aN o0 (by rfl) T.len yQ (b9 (bG (o8 rfl) (by rfl) T.bset PyProof.Rows.boot_set (b9 (bC (aF (pv 0) (aF (pv 1) (aF (pv 2) (aF (pv 3) a8))))))))) (ac) (az _)) (ag (gQ UO.e gA rfl hr.hd rfl UO.m (ap))) (ao)) (
   ag (aq (bC (aF (bg (dX (pv 0) (pv 1))) (aF (bg (dX (pv 2) (pv 3))) (aF (bg (dX (pv 0) (pv 2))) (aF (bg (dX (pv 1) (pv 3))) (aF (bg (dX (pv 0) (pv 3))) (aF (bg (dX (pv 1) (pv 2))) a8))))))))),?_⟩
  refine⟨_,rfl,_,rfl,_,rfl,_,rfl,four,fun l hl=>?_⟩;have s1:=af (o:=.lst [V.int a,V.int b,V.int c',V.int d]) hl;refine⟨l,[a,b,c',d],rfl,aT.of aa,by show (4:Nat)<=1000;decide,fun q S n hq hn hnd=>?_⟩;have s2:=af (o:=.set S n) hq;refine⟨q,_,_,rfl,aa,_,_,rfl,rfl,_,rfl,?_⟩;have s12:=s1.trans s2;generalize aH (aH H l (.lst [V.int a,V.int b,V.int c',V.int d])) q (.set S n)=H2 at s12 ⊢;have hn:n<=4:=hn;have hnd:n=4↔[a,b,c',d].Nodup:=hnd
  by_cases nd:[a,b,c',d].Nodup
  ·rw[xS (by have:=hnd.mpr nd;omega)]
   refine aE ⟨_,rfl,_,rfl,two,fun t1 h1=>⟨_,rfl,_,rfl,two,fun t2 h2=>⟨_,rfl,_,rfl,two,fun t3 h3=>⟨_,rfl,_,rfl,two,fun t4 h4=>⟨_,rfl,_,rfl,two,fun t5 h5=>⟨_,rfl,_,rfl,two,fun t6 h6=>⟨six,fun lq hlq=>?_⟩⟩⟩⟩⟩⟩⟩;have g1:=af (o:=.tup [V.int a,V.int b]) h1;have g2:=af (o:=.tup [V.int c',V.int d]) h2;have g3:=af (o:=.tup [V.int a,V.int c']) h3;have g4:=af (o:=.tup [V.int b,V.int d]) h4;have g5:=af (o:=.tup [V.int a,V.int d]) h5;have g6:=af (o:=.tup [V.int b,V.int c']) h6;have g7:=af (o:=.lst [V.ref t1,V.ref t2,V.ref t3,V.ref t4,V.ref t5,V.ref t6]) hlq;have g67:=g6.trans g7;have g57:=g5.trans g67;have g47:=g4.trans g57;have g37:=g3.trans g47;have g27:=g2.trans g37;have g17:=g1.trans g27;refine k1 nd lq _ (s12.free (g1.free (g2.free (g3.free (g4.free (g5.free (g6.free hlq))))))) (s12.trans g17) ⟨[t1,t2,t3,t4,t5,t6],aa,?_⟩;exact .cons (g27 _ _ aa) (.cons (g37 _ _ aa) (.cons (g47 _ _ aa) (.cons (g57 _ _ aa) (.cons (g67 _ _ aa) (.cons (g7 _ _ aa) .nil)))))
  ·rw[xX (by have:n≠4:=fun z=>nd (hnd.mp z);omega)]
   exact aV (k2 nd H2 s12)
theorem nj (F:dS K "is_name" "is_name" eA f fd) : a9 P w K mg base dD 1 f fd ["word"] ly:=by
 refine F.ok nH (fun vs H Q E h=>?_) (fun cdv A outer s H vs Q E hr h=>?_)
 ·obtain⟨z,rfl,_⟩:=h
  rfl
 ·obtain⟨z,rfl,asc,len,k⟩:=h
  have hu:=jy hr;have sl:sizeLine=16777216:=yG
  have zl:z.length<=sizeLine:=by omega
  have hz:z.length=z.cps.toList.length:=by rw[yX];rfl
  refine⟨_,ae (aG (PW.pt (sQ (ar fE (pv 0) (oC (v:=.ref kd) (by rfl) UO.mkd rfl) rfl) (qQ (ir (qP md md (ac) (aN gy (by rfl) T.len yQ (b9 (pv 0))) (jR (by rfl) UO.ml)))))) (ag (aq (me))) (ao)) (
   ag (aq (aN (fz rfl) (by rfl) T.all PyProof.Rows.boot_all (b9 (ca (so:=ah eA) (N:=kE) (N':=["sign"]) (src:=[none]) rfl rfl pe rfl (qK (pv 0)) (fun cl C s2 H2 ex=>⟨jd 0 (show (["sign"]:List Str).Nodup by decide +kernel),bI,fF kF (pv 0) (jR (by rfl) UO.mt) rfl⟩)))))),?_⟩
  obtain⟨o,its,n,k1,k2,k3,k4,k5⟩:=UO.kd;refine⟨_,rfl,kd,kindsL.map V.str,rfl,.inr (.inr ⟨o,its,n,k1,k2,k3,k4,k5⟩),rfl,ky _,_,rfl,?_⟩;unfold m4 at k;rw[show (if false=true then !sJ (V.str z) (kindsL.map V.str) else sJ (V.str z) (kindsL.map V.str))=decide (z∈kindsL) from kR z kindsL]
  by_cases c1:z∈kindsL
  ·rw[xX c1]at k ⊢
   exact aV (k H (ay.refl _))
  rw[xS c1]at k ⊢;refine aE ⟨_,rfl,z,rfl,zl,_,_,rfl,rfl,_,rfl,?_⟩
  by_cases h1:1<=z.length
  ·rw[xX (show (1:Int)<=(z.length:Int) by omega)]
   refine aV ⟨_,_,rfl,rfl,_,rfl,?_⟩
   by_cases h2:z.length<=12
   ·rw[xX (show (z.length:Int)<=12 by omega)]
    rw[xX (show 1<=z.length/\z.length<=12 from ⟨h1,h2⟩)]at k;refine aE ⟨_,rfl,z,rfl,asc,fun q hq=>?_⟩;refine kH (f:=gE) hq (by omega) (fun c HK Q' sK kk=>?_) (fun H1 s1 hq1=>?_)
    ·refine⟨_,rfl,_,_,rfl,rfl,?_⟩
     rw[qq];exact kk HK (ay.refl _)
    refine⟨q,_,rfl,aT.of hq1,?_⟩;rw[show (z.cps.toList.map gE).all id=z.cps.toList.all gE by rw[List.all_map];rfl];exact k H1 s1
   ·rw[xS (show ¬ (z.length:Int)<=12 by omega)]
    rw[xS (show ¬ (1<=z.length/\z.length<=12) from fun q=>h2 q.2)]at k;exact aV (k H (ay.refl _))
  ·rw[xS (show ¬ (1:Int)<=(z.length:Int) by omega)]
   rw[xS (show ¬ (1<=z.length/\z.length<=12) from fun q=>h1 q.1)]at k;exact aE ⟨_,rfl,aV (k H (ay.refl _))⟩
theorem im (F:dS K "inner_figures" "inner_figures" cH f fd) : a9 P w K mg base dD 1 f fd ["figure"] mo:=by
 refine F.ok cF (fun vs H Q E h=>?_) (fun cdv A outer s H vs Q E hr h=>?_)
 ·obtain⟨p,n,f,rfl,_⟩:=h
  rfl
 ·obtain⟨p,n,f,rfl,hn,hf,k⟩:=h
  have sl:sizeLine=16777216:=yG
  refine⟨_,ae (aG (ar be (aA aB (pv 0) (ac) (fun _ _=>rfl)) (ap) (az _)) (ag (aq (bC (b9 (aA aB (pv 0) (ac) (fun _ _=>rfl)))))) (ao)) (
   ae (aG (ar qx (aA aB (pv 0) (ac) (fun _ _=>rfl)) (ap) (az _)) (ag (aq (bC a8))) (ao)) (
   ae (aK 1 cF.nd (bC a8)) (
   ae (dv yU rfl (jS (aA aB (pv 0) (ac) (fun _ _=>rfl))) (jd 2 cF.nd) (ag (aG (ar (pG 18 (ve hr (by decide))) (pv 2) (pv 1) rfl) (ag (bD (gL yn yC yD cv (pv 1) (b9 (pv 2))))) (ao)))) (
   ag (aq (pv 1)))))),?_⟩
  obtain⟨xs,hp⟩:=hf.hd;refine⟨_,rfl,p,_,0,_,rfl,rfl,aI.of hp,av (j:=0) rfl,rfl,_,rfl,?_⟩
  cases f with
  | pl f =>
   rw[oP];refine aE ⟨_,rfl,p,_,0,_,rfl,rfl,aI.of hp,av (j:=0) rfl,rfl,_,rfl,?_⟩;rw[oR];exact aV ⟨yg _,fun l hl=>k l [] _ hl (af hl) aa .nil⟩
  | name w =>
   rw[vP];refine aE ⟨_,rfl,p,_,0,_,rfl,rfl,aI.of hp,av (j:=0) rfl,rfl,_,rfl,?_⟩;rw[vQ];exact aV ⟨yg _,fun l hl=>k l [] _ hl (af hl) aa .nil⟩
  | back f =>
   obtain⟨q,e1,e2⟩:=hf;rw[oM];exact aV ⟨_,rfl,p,_,1,_,rfl,rfl,aI.of e1,rfl,by show (1:Nat)<=sizeLine;decide,fun l hl=>k l [q] _ hl (af hl) aa (.cons (e2.mono fun _ _ z=>af hl _ _ z) .nil)⟩
  | row fs =>
   obtain⟨t,as,e1,e2,fl,pr⟩:=hf;have al:=x9 pr;rw[oS];refine aE ⟨_,rfl,p,_,0,_,rfl,rfl,aI.of e1,rfl,rfl,_,rfl,?_⟩;rw[show decide (V.str (Str.ofString "row")=V.str (Str.ofString "row"))=true from xX rfl];refine aE ⟨yg _,fun l hl=>?_⟩;have s1:=af (o:=.lst []) hl;refine⟨_,rfl,p,_,1,_,rfl,rfl,aI.of (s1 _ _ e1),rfl,t,rfl,⟨_,aI.of (s1 _ _ e2)⟩,?_⟩
   refine gB (K:=K) (a:=t) (xs:=as.map V.ref) (fun i σ HK=>∃ (v:Option V)(bs:List Addr)(gs:List ai),σ=[some (.ref p),some (.ref l),v]/\ay H HK/\HK l=some (.lst (bs.map V.ref))/\Paired (aO n HK) bs gs/\gs=(fs.take i).foldl likeStep []/\gs.length<=i)
    ⟨none,[],[],rfl,s1,aa,.nil,rfl,xT _⟩ (fun i σ HK _ ⟨_,_,_,_,s2,_⟩=>aI.of (s2 _ _ e2)) ?_ ?_
   ·rintro i y σ HK hi ⟨v,bs,gs,rfl,s2,hl2,pg,eg,gl⟩
    obtain⟨b,hb,rfl⟩:=bB hi;have hil:=(List.getElem?_eq_some_iff.mp hb).1;obtain⟨g,hg,hB0⟩:=cg pr hb;have hB:aO n HK b g:=hB0.mono fun _ _ z=>s2 _ _ z;have bl:=x9 pg
    have rdP:Paired (fun (a:Addr)(e:Dt)=>RD K HK 18 (.ref a) e) bs (gs.map ai.dt):=by
     clear eg gl bl hl2
     induction pg with
     | nil=>exact .nil
     | cons a _ ih=>exact .cons (RD.up a.rd (by omega)) ih
    have es:(fs.take (i+1)).foldl likeStep []=likeStep gs g:=by rw[yH,hg,yz,List.foldl_append,eg];rfl
    refine⟨_,rfl,_,rfl,l,bs,g.dt,gs.map ai.dt,rfl,.inl (aT.of hl2),RD.up hB.rd (by omega),rdP,fun kb hkb=>⟨_,rfl,?_⟩⟩;have hkb:kb=true↔g∈gs:=hkb.trans ⟨fun z=>by obtain⟨u,hu,e⟩:=yB.mp z;rw[ai.dt_inj _ _ e]at hu;exact hu,fun z=>List.mem_map_of_mem (f:=ai.dt) z⟩
    cases kb with
    | true =>
     refine aE ⟨_,bs,gs,rfl,s2,hl2,pg,?_,by omega⟩;rw[es];unfold likeStep;rw[x4 (hkb.mp rfl)]
    | false =>
     refine aV ⟨_,rfl,.inl ⟨rfl,_,aT.of hl2⟩,_,rfl,l,_,_,rfl,rfl,hl2,by rw[xP];omega,?_⟩
     have up:∀ c xs,HK c=some (.tup xs)->aH HK l (.lst (bs.map V.ref++[.ref b])) c=some (.tup xs):=fun c xs e=>by rw[ak (fun z=>by rw[z,hl2]at e;cases e)];exact e
     refine⟨_,bs++[b],gs++[g],rfl,bF s2 hl,by rw[aa,x8];rfl,bf (Paired.mapP pg fun _ _ z=>z.mono up) (.cons (hB.mono up) .nil),?_,by rw[x3,yr];omega⟩;rw[es];unfold likeStep;rw[xV (fun z=>by have:=hkb.mpr z;cases this)]
   rintro σ HK ⟨v,bs,gs,rfl,s2,hl2,pg,eg,gl⟩;rw[xP,al,yy]at eg;subst eg;exact⟨_,rfl,k l bs HK hl s2 hl2 pg⟩
theorem iq (F:dS K "single_length" "single_length" cI f fd) : a9 P w K mg base dD 1 f fd ["figure"] ls:=by
 refine F.ok dW (fun vs H Q E h=>?_) (fun cdv A outer s H vs Q E hr h=>?_)
 ·obtain⟨p,f,rfl,_⟩:=h
  rfl
 ·obtain⟨p,f,rfl,hf,ok,k⟩:=h
  refine⟨_,ae (aG (ar be (aA aB (pv 0) (ac) (fun _ _=>rfl)) (ap) (az _)) (ag (aq (ac))) (ao)) (
   ae (aG (ar be (aA aB (pv 0) (ac) (fun _ _=>rfl)) (ap) (az _)) (ag (aq (ac))) (ao)) (
   ae (aK 1 dW.nd (aN bn (by rfl) T.len yQ (b9 (aA aB (pv 0) (ac) (fun _ _=>rfl))))) (
   ae (aG (ar be (aA aB (pv 0) (ac) (fun _ _=>rfl)) (ap) (az _)) (ag (aq (aj bc (aj fj (pv 1) (aj jQ (pv 1) (ac))) (ac)))) (ao)) (
   ag (aq (aN (o6 rfl) (by rfl) T.bmax PyProof.Rows.boot_max (dX (aj jQ (pv 1) (ac)) (ac)))))))),?_⟩
  obtain⟨xs,hp⟩:=hf.hd;refine⟨_,rfl,p,_,0,_,rfl,rfl,aI.of hp,av (j:=0) rfl,rfl,_,rfl,?_⟩;have o1:=ok.1;have o2:=ok.2.1
  cases f with
  | pair a b =>
   rw[xX (show V.str (aJ.pair a b).word=V.str "pair" from rfl)];exact aV k
  | quad a b c d =>
   rw[xS (fun z=>absurd (V.str.inj z) (by dsimp only[aJ.word];decide +kernel))];refine aE ⟨_,rfl,p,_,0,_,rfl,rfl,aI.of hp,av (j:=0) rfl,rfl,_,rfl,?_⟩;rw[xX (show V.str (aJ.quad a b c d).word=V.str "quad" from rfl)];exact aV k
  | line g =>
   obtain⟨q,e1,e2⟩:=hf;have g0:2<=g.length:=o1;rw[xS (fun z=>absurd (V.str.inj z) (by dsimp only[aJ.word];decide +kernel))];refine aE ⟨_,rfl,p,_,0,_,rfl,rfl,aI.of e1,rfl,rfl,_,rfl,?_⟩;rw[xS (fun z=>absurd (V.str.inj z) (by dsimp only[aJ.word];decide +kernel))];refine aE ⟨_,rfl,p,_,1,_,rfl,rfl,aI.of e1,rfl,q,_,rfl,.inr (aI.of e2),_,rfl,p,_,0,_,rfl,rfl,aI.of e1,rfl,rfl,_,rfl,?_⟩;rw[xS (fun z=>absurd (V.str.inj z) (by dsimp only[aJ.word];decide +kernel))];refine aE ⟨_,rfl,_,_,rfl,rfl,_,_,rfl,?_⟩
   have e:(if (0:Int)>(((aJ.line g).gs.map V.int).length:Nat)-1 then (0:Int) else (((aJ.line g).gs.map V.int).length:Nat)-1)=((aJ.line g).row.length:Nat):=by
    show (if (0:Int)>((g.map V.int).length:Nat)-1 then (0:Int) else ((g.map V.int).length:Nat)-1)=((g.zip (g.drop 1)).length:Nat)
    rw[xP,List.length_zip,yx,xV (by omega)];omega
   rw[e];exact k
  | star g =>
   obtain⟨q,e1,e2⟩:=hf;have g0:2<=g.length:=o1;rw[xS (fun z=>absurd (V.str.inj z) (by dsimp only[aJ.word];decide +kernel))];refine aE ⟨_,rfl,p,_,0,_,rfl,rfl,aI.of e1,rfl,rfl,_,rfl,?_⟩;rw[xS (fun z=>absurd (V.str.inj z) (by dsimp only[aJ.word];decide +kernel))];refine aE ⟨_,rfl,p,_,1,_,rfl,rfl,aI.of e1,rfl,q,_,rfl,.inr (aI.of e2),_,rfl,p,_,0,_,rfl,rfl,aI.of e1,rfl,rfl,_,rfl,?_⟩;rw[xS (fun z=>absurd (V.str.inj z) (by dsimp only[aJ.word];decide +kernel))];refine aE ⟨_,rfl,_,_,rfl,rfl,_,_,rfl,?_⟩
   have e:(if (0:Int)>(((aJ.star g).gs.map V.int).length:Nat)-1 then (0:Int) else (((aJ.star g).gs.map V.int).length:Nat)-1)=((aJ.star g).row.length:Nat):=by
    show (if (0:Int)>((g.map V.int).length:Nat)-1 then (0:Int) else ((g.map V.int).length:Nat)-1)=(((g.drop 1).map fun o=>(g.headD 0,o)).length:Nat)
    rw[xP,xP,yx,xV (by omega)];omega
   rw[e];exact k
  | all g =>
   obtain⟨q,e1,e2⟩:=hf;have g0:2<=g.length:=o1;have g1:g.length<=60:=o2;rw[xS (fun z=>absurd (V.str.inj z) (by dsimp only[aJ.word];decide +kernel))];refine aE ⟨_,rfl,p,_,0,_,rfl,rfl,aI.of e1,rfl,rfl,_,rfl,?_⟩;rw[xS (fun z=>absurd (V.str.inj z) (by dsimp only[aJ.word];decide +kernel))];refine aE ⟨_,rfl,p,_,1,_,rfl,rfl,aI.of e1,rfl,q,_,rfl,.inr (aI.of e2),_,rfl,p,_,0,_,rfl,rfl,aI.of e1,rfl,rfl,_,rfl,?_⟩;rw[xX (show V.str (aJ.all g).word=V.str "all" from rfl)];have lm:((aJ.all g).gs.map V.int).length=g.length:=xP ..;rw[lm];refine aV ⟨_,rfl,_,rfl,_,_,rfl,rfl,_,_,rfl,rfl,.inl ⟨by omega,by omega⟩,_,_,rfl,rfl,⟨by decide,by decide⟩,?_⟩
   have e:((g.length:Nat):Int)*((g.length:Nat)-1)/2=((gv g).length:Nat):=by
    have h:=jE g
    have h2:((2*(gv g).length:Nat):Int)=((g.length*(g.length-1):Nat):Int):=by rw[h]
    rw[Int.natCast_mul,Int.natCast_mul,Int.natCast_sub (by omega)]at h2;have h3:((g.length:Nat):Int)*((g.length:Nat)-1)=2*((gv g).length:Nat):=h2.symm;rw[h3];omega
   rw[e];exact k
theorem ke (F:dS K "single_row" "single_row" b6 f fd)(Cquadrille:i6 P w K mg base "quadrille" 2 ["a","b","c","d"] (jk co)) : a9 P w K mg base dD 3 f fd ["figure"] lv:=by
 refine F.ok f6 (fun vs H Q E h=>?_) (fun cdv A outer s H vs Q E hr h=>?_)
 ·obtain⟨p,f,rfl,_⟩:=h
  rfl
 ·obtain⟨p,f,rfl,hf,ok,k⟩:=h
  have two:(2:Nat)<=sizeLine:=by decide
  refine⟨_,ae (aG (ar be (aA aB (pv 0) (ac) (fun _ _=>rfl)) (ap) (az _)) (ag (aq (bC (b9 (bg (dX (aA aB (pv 0) (ac) (fun _ _=>rfl)) (aA aB (pv 0) (ac) (fun _ _=>rfl)))))))) (ao)) (
   ae (aK 1 f6.nd (aA aB (pv 0) (ac) (fun _ _=>rfl))) (
   ae (aG (ar be (aA aB (pv 0) (ac) (fun _ _=>rfl)) (ap) (az _)) (ag (aq (mf rfl (dX (pv 1) (gN nJ (pv 1) (jg (ac)) jf)) (by rfl) T.list (by rfl) T.zip))) (ao)) (
   ae (aG (ar be (aA aB (pv 0) (ac) (fun _ _=>rfl)) (ap) (az _)) (ag (aq (ca (so:=ah b6) (N:=ee) (N':=["other","guests"]) (src:=[none,some 1]) rfl rfl pe rfl (jS (gN nJ (pv 1) (jg (ac)) jf)) (fun cl C s2 H2 ex=>⟨jd 0 (show (["other","guests"]:List Str).Nodup by decide +kernel),bI,bg (dX (aA (fC K) (pv 1) (ac) (fun _ _=>rfl)) (pv 0))⟩)))) (ao)) (
   ae (aG (ar be (aA aB (pv 0) (ac) (fun _ _=>rfl)) (ap) (az _)) (ag (aq (qD (so:=ah b6) (N:=ee) (N':=["at","one","other","guests"]) (src:=[none,none,none,some 1]) rfl rfl pe rfl (qJ (by rfl) T.enumerate (b9 (pv 1))) (fun cl C s2 H2 ex=>⟨sg (n:=2) K rfl (mh (jd 0 (show (["at","one","other","guests"]:List Str).Nodup by decide +kernel)) (mh (jd 1 (show (["at","one","other","guests"]:List Str).Nodup by decide +kernel)) si)),bI,sj K (gN (sv K) (pv 3) (jg (aj bL (pv 0) (ac))) jf),jd 2 (show (["at","one","other","guests"]:List Str).Nodup by decide +kernel),bI,bg (dX (pv 1) (pv 2))⟩)))) (ao)) (
   ag (aq (uB Cquadrille hr.m rfl vt (aF (aA aB (pv 1) (ac) (fun _ _=>rfl)) (aF (aA aB (pv 1) (ac) (fun _ _=>rfl)) (aF (aA aB (pv 1) (ac) (fun _ _=>rfl)) (aF (aA aB (pv 1) (ac) (fun _ _=>rfl)) a8))))))))))),?_⟩
  obtain⟨xs,hp⟩:=hf.hd;refine⟨_,rfl,p,_,0,_,rfl,rfl,aI.of hp,av (j:=0) rfl,rfl,_,rfl,?_⟩;have o1:=ok.1;have o2:=ok.2.1
  cases f with
  | pair a b =>
   have hp:H p=some (.tup [.str "pair",.int a,.int b]):=hf;rw[xX (show V.str (aJ.pair a b).word=V.str "pair" from rfl)];refine aV ⟨_,rfl,p,_,1,_,rfl,rfl,aI.of hp,rfl,_,rfl,p,_,2,_,rfl,rfl,aI.of hp,rfl,two,fun t ht=>⟨by show (1:Nat)<=sizeLine;decide,fun l hl=>?_⟩⟩;have s1:=af (o:=.tup [.int a,.int b]) ht;exact k l _ (s1.free hl) (s1.trans (af hl)) ⟨[t],aa,.cons (af hl _ _ aa) .nil⟩
  | line g =>
   obtain⟨q,e1,e2⟩:=hf;have e2:H q=some (.tup (g.map V.int)):=e2;have g0:2<=g.length:=o1;have g1:g.length<=60:=o2;rw[xS (fun z=>absurd (V.str.inj z) (by dsimp only[aJ.word];decide +kernel))];refine aE ⟨_,rfl,p,_,1,_,rfl,rfl,aI.of e1,rfl,_,rfl,p,_,0,_,rfl,rfl,aI.of e1,rfl,rfl,_,rfl,?_⟩;rw[xX (show V.str (aJ.line g).word=V.str "line" from rfl)];refine aV ⟨_,rfl,_,rfl,_,rfl,ni ⟨q,_,rfl,aI.of e2,il 1 (by decide) (by rw[xP];omega),fun r hr1=>?_⟩⟩;rw[sH,<-List.map_drop];have s1:=af (o:=.tup ((g.drop 1).map V.int)) hr1;refine⟨q,r,_,_,rfl,aI.of (s1 _ _ e2),aI.of aa,by rw[xP,xP,yx];omega,by rw[xP,yx];omega,fun l ts H' hl s2 hl2 pr=>?_⟩;rw[rp]at pr;exact k l H' (s1.free hl) (s1.trans s2) ⟨ts,hl2,gK (f:=fun p:Int×Int=>(V.int p.1,V.int p.2)) (R:=fun t p=>H' t=some (.tup [p.1,p.2])) pr⟩
  | star g =>
   obtain⟨q,e1,e2⟩:=hf;have e2:H q=some (.tup (g.map V.int)):=e2;have g0:2<=g.length:=o1;have g1:g.length<=60:=o2;rw[xS (fun z=>absurd (V.str.inj z) (by dsimp only[aJ.word];decide +kernel))];refine aE ⟨_,rfl,p,_,1,_,rfl,rfl,aI.of e1,rfl,_,rfl,p,_,0,_,rfl,rfl,aI.of e1,rfl,rfl,_,rfl,?_⟩;rw[xS (fun z=>absurd (V.str.inj z) (by dsimp only[aJ.word];decide +kernel))];refine aE ⟨_,rfl,p,_,0,_,rfl,rfl,aI.of e1,rfl,rfl,_,rfl,?_⟩;rw[xX (show V.str (aJ.star g).word=V.str "star" from rfl)];refine aV ⟨_,rfl,_,rfl,ni ⟨q,_,rfl,aI.of e2,il 1 (by decide) (by rw[xP];omega),fun r hr1=>?_⟩⟩;rw[sH,<-List.map_drop];have s1:=af (o:=.tup ((g.drop 1).map V.int)) hr1;have hr2:aH H r (.tup ((g.drop 1).map V.int)) r=some (.tup ((g.drop 1).map V.int)):=aa;generalize aH H r (.tup ((g.drop 1).map V.int))=H1 at s1 hr2 ⊢;refine⟨r,rfl,⟨_,aI.of hr2⟩,fun l hl=>?_⟩
   have dl:(g.drop 1).length<=60:=by rw[yx];omega
   refine gB (K:=K) (a:=r) (xs:=(g.drop 1).map V.int) (fun i σ HK=>∃ (v:Option V),σ=[v,some (.ref q)]/\ay H1 HK/\cP HK l (((g.drop 1).take i).map fun o=>(g.headD 0,o)))
    ⟨none,rfl,af hl,⟨[],aa,.nil⟩⟩ (fun i σ HK _ ⟨_,_,s2,_⟩=>aI.of (s2 _ _ hr2)) ?_ ?_
   ·rintro i y σ HK hi ⟨v,rfl,s2,row⟩
    obtain⟨o,ho,rfl⟩:=bB hi;obtain⟨as,hl2,pr⟩:=row;have al:=x9 pr;rw[xP,yu]at al
    obtain⟨x0,gt,rfl⟩:∃ x0 gt,g=x0::gt:=by
     cases g with
     | nil=>simp at g0
     | cons x0 gt=>exact⟨x0,gt,rfl⟩
    refine cO ⟨_,rfl,q,_,0,_,rfl,rfl,aI.of (s2 _ _ (s1 _ _ e2)),av (j:=0) rfl,_,rfl,two,fun t ht=>?_⟩;have st:=af (o:=.tup [.int x0,.int o]) ht;refine⟨_,st _ _ hl2,by rw[xP];exact cx (by omega),_,rfl,bF (s2.trans st) hl,?_⟩;have:=mj (a:=x0) (b:=o) hl2 pr ht;rw[yH,ho,yz,x8];exact this
   rintro σ HK ⟨v,rfl,s2,row⟩;rw[xP,yy]at row;exact k l HK (s1.free hl) (s1.trans s2) row
  | all g =>
   obtain⟨q,e1,e2⟩:=hf;have e2:H q=some (.tup (g.map V.int)):=e2;have g0:2<=g.length:=o1;have g1:g.length<=60:=o2;have rl:=aJ.rl ok;have rl:(gv g).length<=2000:=rl;rw[xS (fun z=>absurd (V.str.inj z) (by dsimp only[aJ.word];decide +kernel))];refine aE ⟨_,rfl,p,_,1,_,rfl,rfl,aI.of e1,rfl,_,rfl,p,_,0,_,rfl,rfl,aI.of e1,rfl,rfl,_,rfl,?_⟩;rw[xS (fun z=>absurd (V.str.inj z) (by dsimp only[aJ.word];decide +kernel))];refine aE ⟨_,rfl,p,_,0,_,rfl,rfl,aI.of e1,rfl,rfl,_,rfl,?_⟩;rw[xS (fun z=>absurd (V.str.inj z) (by dsimp only[aJ.word];decide +kernel))];refine aE ⟨_,rfl,p,_,0,_,rfl,rfl,aI.of e1,rfl,rfl,_,rfl,?_⟩;rw[xX (show V.str (aJ.all g).word=V.str "all" from rfl)];refine aV ⟨_,rfl,q,rfl,⟨_,aI.of e2⟩,fun l hl=>?_⟩
   refine pj (K:=K) (a:=q) (xs:=g.map V.int) (fun i σ HK=>∃ (v0 v1 v2:Option V)(ps:List (Int×Int)),σ=[v0,v1,v2,some (.ref q)]/\ay H HK/\cP HK l ps/\ps++gv (g.drop i)=gv g)
    ⟨none,none,none,[],rfl,af hl,⟨[],aa,.nil⟩,rfl⟩ (fun i σ HK _ ⟨_,_,_,_,_,s2,_⟩=>aI.of (s2 _ _ e2)) ?_ ?_
   ·rintro i y σ HK T hi ⟨v0,v1,v2,ps,rfl,s2,row,ep⟩ hT
    obtain⟨x,hx,rfl⟩:=bB hi;have hil:=(List.getElem?_eq_some_iff.mp hx).1;have sT:=af (o:=.tup [.int (i:Int),.int x]) hT;have hTT:aH HK T (.tup [.int (i:Int),.int x]) T=some (.tup [.int (i:Int),.int x]):=aa;have row:=row.mono sT;have s2:=s2.trans sT;generalize aH HK T (.tup [.int (i:Int),.int x])=HK at hTT row s2 ⊢;refine⟨T,_,rfl,aI.of hTT,rfl,_,_,rfl,_,_,rfl,rfl,?_⟩
    have ed:g.drop i=x::g.drop (i+1):=by rw[List.drop_eq_getElem_cons hil,(List.getElem?_eq_some_iff.mp hx).2]
    rw[ed]at ep;have ep:ps++((g.drop (i+1)).map (fun o=>(x,o))++gv (g.drop (i+1)))=gv g:=ep;have epl:=y1 List.length ep;rw[x3,x3,xP]at epl;have ei:((i:Int)+1)=((i+1:Nat):Int):=rfl;refine re ⟨_,rfl,_,rfl,_,_,rfl,rfl,_,rfl,ni ⟨q,_,rfl,aI.of (s2 _ _ e2),il (i+1) (Nat.succ_pos _) (by rw[xP];omega),fun r hr1=>?_⟩⟩;rw[ei,lJ,<-List.map_drop];have s3:=af (o:=.tup ((g.drop (i+1)).map V.int)) hr1;have hr2:aH HK r (.tup ((g.drop (i+1)).map V.int)) r=some (.tup ((g.drop (i+1)).map V.int)):=aa;have row:=row.mono s3;have s3:=s2.trans s3
    have nrl:r≠l:=fun z=>by
     obtain⟨as,hl2,_⟩:=row;rw[<-z,hr2]at hl2;cases hl2
    generalize aH HK r (.tup ((g.drop (i+1)).map V.int))=H3 at row s3 hr2 ⊢;clear s2 hTT hr1;refine⟨r,rfl,⟨_,aI.of hr2⟩,?_⟩
    refine gB (K:=K) (a:=r) (xs:=(g.drop (i+1)).map V.int) (fun j σ H4=>∃ (v:Option V),σ=[some (.int (i:Int)),some (.int x),v,some (.ref q)]/\(∀ b o,H3 b=some o->b≠l->H4 b=some o)/\cP H4 l (ps++((g.drop (i+1)).take j).map fun o=>(x,o)))
     ⟨_,rfl,fun b o e _=>e,by simpa using row⟩ (fun j σ H4 _ ⟨_,_,s4,_⟩=>aI.of (s4 _ _ hr2 nrl)) ?_ ?_
    ·rintro j y σ H4 hj ⟨v,rfl,s4,row4⟩
     obtain⟨o,ho,rfl⟩:=bB hj;obtain⟨as,hl4,pr⟩:=row4;have al:=x9 pr;rw[x3,xP,yu]at al;refine cO ⟨_,rfl,_,rfl,two,fun t ht=>?_⟩;have st:=af (o:=.tup [.int x,.int o]) ht;refine⟨_,st _ _ hl4,by rw[xP];have sl:sizeLine=16777216:=yG;omega,_,rfl,fun b u e n=>?_,?_⟩
     ·rw[ak n];exact st _ _ (s4 b u e n)
     ·have:=mj (a:=x) (b:=o) hl4 pr ht
      rw[yH,ho,yz,x8,<-zv];exact this
    rintro σ H4 ⟨v,rfl,s4,row4⟩;rw[xP,yy]at row4;exact⟨_,_,_,_,rfl,fun b u e=>s4 b u (s3 b u e) (fun z=>by rw[z,hl]at e;cases e),row4,by rw[zv];exact ep⟩
   rintro σ HK ⟨v0,v1,v2,ps,rfl,s2,row,ep⟩;rw[xP,List.drop_length]at ep;have ep:ps++[]=gv g:=ep;rw[List.append_nil]at ep;rw[ep]at row;exact k l HK hl s2 row
  | quad a b c d =>
   obtain⟨q,e1,e2⟩:=hf;have e2:H q=some (.tup ([a,b,c,d].map V.int)):=e2;rw[xS (fun z=>absurd (V.str.inj z) (by dsimp only[aJ.word];decide +kernel))];refine aE ⟨_,rfl,p,_,1,_,rfl,rfl,aI.of e1,rfl,_,rfl,p,_,0,_,rfl,rfl,aI.of e1,rfl,rfl,_,rfl,?_⟩;rw[xS (fun z=>absurd (V.str.inj z) (by dsimp only[aJ.word];decide +kernel))];refine aE ⟨_,rfl,p,_,0,_,rfl,rfl,aI.of e1,rfl,rfl,_,rfl,?_⟩;rw[xS (fun z=>absurd (V.str.inj z) (by dsimp only[aJ.word];decide +kernel))];refine aE ⟨_,rfl,p,_,0,_,rfl,rfl,aI.of e1,rfl,rfl,_,rfl,?_⟩;rw[xS (fun z=>absurd (V.str.inj z) (by dsimp only[aJ.word];decide +kernel))];exact aE ⟨_,rfl,q,_,0,_,rfl,rfl,aI.of e2,rfl,_,rfl,q,_,1,_,rfl,rfl,aI.of e2,rfl,_,rfl,q,_,2,_,rfl,rfl,aI.of e2,rfl,_,rfl,q,_,3,_,rfl,rfl,aI.of e2,rfl,a,b,c,d,rfl,fun _ l H' hl s1 r1=>k l H' hl s1 r1,fun nn=>absurd (ok.2.2 a b c d rfl) nn⟩
theorem gg (F:dS K "__init__" "FigureBook.__init__" cm f fd) : a9 P w K mg base dD 1 f fd ["self"] (ji ck):=by
 refine F.ok gj (fun vs H Q E h=>?_) (fun cdv A outer s H vs Q E hr h=>?_)
 ·obtain⟨b,dx,rfl,_⟩:=h
  rfl
 ·obtain⟨b,dx,rfl,hb,k⟩:=h
  refine⟨_,ae (nB (pv 0) (gM) rfl) (
   ae (nB (pv 0) (gM) rfl) (
   ag (nB (pv 0) (gM) rfl))),?_⟩
  intro d1 h1;have n1:b≠d1:=aL hb h1;refine⟨_,rfl,b,ck,dx,[],rfl,(by rw[ak n1];exact hb),UO.f.cl,UO.f.nF,(by show 0<1000;decide),?_⟩;intro d2 h2
  have n2:b≠d2:=fun z=>by rw[<-z,aa]at h2;cases h2
  refine⟨_,rfl,b,ck,dx,_,rfl,(by rw[ak n2,aa]),UO.f.cl,UO.f.nL,(by show 1<1000;decide),?_⟩;intro d3 h3
  have n3:b≠d3:=fun z=>by rw[<-z,aa]at h3;cases h3
  refine⟨_,rfl,b,ck,dx,_,rfl,(by rw[ak n3,aa]),UO.f.cl,UO.f.nR,(by rw[tP];show 2<1000;decide),?_⟩;rw[lH]
  have h2':aH H d1 (.dK []) d2=none:=by rw[ak (yo n2)]at h2;exact h2
  have h3':aH (aH H d1 (.dK [])) d2 (.dK []) d3=none:=by
   rw[ak (yo n3)]at h3
   by_cases z:d3=d2
   ·rw[z,aa]at h3;cases h3
   ·rw[ak z,ak (yo n3)]at h3;rw[ak z];exact h3
  have s1:=af (o:=.dK []) h1;have s2:=af (o:=.dK []) h2';have s3:=af (o:=.dK []) h3'
  have keep:∀ a o,aH (aH (aH H d1 (.dK [])) d2 (.dK [])) d3 (.dK []) a=some o->a≠b->aH (aH (aH (aH (aH (aH H d1 (.dK [])) b (.ins ck dx (cE "figures" (.ref d1) []))) d2 (.dK [])) b (.ins ck dx (cE "lengths" (.ref d2) (cE "figures" (.ref d1) [])))) d3 (.dK [])) b (.ins ck dx (kN (.ref d1) (.ref d2) (.ref d3))) a=some o:=fun a o e n=>by
   rw[ak n]
   by_cases z3:a=d3
   ·rw[z3,aa]at e ⊢;exact e
   ·rw[ak z3]at e ⊢
    rw[ak n]
    by_cases z2:a=d2
    ·rw[z2,aa]at e ⊢;exact e
    ·rw[ak z2]at e ⊢
     rw[ak n];exact e
  have d12:d1≠d2:=fun z=>by rw[<-z,aa]at h2';cases h2'
  have d13:d1≠d3:=fun z=>by rw[<-z,s2 _ _ aa]at h3';cases h3'
  have d23:d2≠d3:=fun z=>by rw[<-z,aa]at h3';cases h3'
  refine k ⟨dx,d1,d2,d3⟩ _ (fun a o e n=>keep a o (s3 _ _ (s2 _ _ (s1 _ _ e))) n) ⟨aa,keep d1 _ (s3 _ _ (s2 _ _ aa)) (yo n1),keep d2 _ (s3 _ _ aa) (yo n2),keep d3 _ aa (yo n3),(fun e he=>nomatch he),(fun e he=>nomatch he),List.nodup_nil,yg _,d12,d13,d23⟩ h1 (s1.free h2') ((s1.trans s2).free h3')
theorem fc (F:dS K "define" "FigureBook.define" bO f fd)(Cis_name:ax P w K mg base "is_name" 1 ["word"] ly)(M_FigureBook_check_names:aP P w K mg base (hW P w) ck "check_names" 12 ["self","figure"] (kG ck cq 9))(M_FigureBook_length:aP P w K mg base dD ck "length" 12 ["self","figure"] (iy ck 9))(M_FigureBook_row_of:aP P w K mg base dD ck "row_of" 13 ["self","figure"] (fK ck 9)) : a9 P w K mg base (hW P w) 14 f fd ["self","word","figure"] (gU ck cq cB cT):=by
 refine F.okX fm (fun vs H Q E h=>?_) (fun cdv A outer s H vs Q E hr h=>?_)
 ·obtain⟨b,p,A,bs,w,f,rfl,_⟩:=h
  rfl
 ·obtain⟨b,p,A,bs,w,f,rfl,B,hf,asc,wl,bl,kd0,kd1,kd2,kd3⟩:=h
  have hu:=jy hr;have sl:sizeLine=16777216:=yG
  refine⟨_,ae (aG (ir (jT (ba Cis_name (hr.mono (by omega)) rfl (b9 (pv 1))))) (ag (gQ UO.eB gA rfl hr.hd rfl UO.mB (ap))) (ao)) (
   ae (aG (nD (nv hu (pv 1) (dN (pv 0) rfl))) (ag (gQ UO.eT gA rfl hr.hd rfl UO.mT (oB (gO ap (gO (qF (pv 1)) (gO ap qM)))))) (ao)) (
   ae (bD (gP M_FigureBook_check_names (pv 0) UO.f.cl (hr.mono (by omega)) lc (b9 (pv 2)))) (
   ae (jh hu (dN (pv 0) rfl) (pv 1) (pv 2) rfl) (
   ae (jh hu (dN (pv 0) rfl) (pv 1) (gP M_FigureBook_length (pv 0) UO.f.cl (hr.mono (by omega)) fY (b9 (pv 2))) rfl) (
   ag (aG (ar md (jc hu (dN (pv 0) rfl) (pv 1) (fun _ _=>rfl)) (jR (by rfl) UO.mp) (az _)) (ag (jh hu (dN (pv 0) rfl) (pv 1) (gP M_FigureBook_row_of (pv 0) UO.f.cl (hr.mono (by omega)) fY (b9 (pv 2))) rfl)) (ao))))))),?_⟩
  have nC:∀ {x y z:V},(kN x y z).lookup ("check_names" : Str)=none:=eY (by decide +kernel);have nL:∀ {x y z:V},(kN x y z).lookup ("length" : Str)=none:=eY (by decide +kernel);have nR:∀ {x y z:V},(kN x y z).lookup ("row_of" : Str)=none:=eY (by decide +kernel);refine⟨_,rfl,w,rfl,asc,wl,fun H1 s1=>⟨_,rfl,?_⟩⟩;unfold defO at kd0 kd1 kd2 kd3
  cases nm:m4 w with
  | false =>
   refine aV ?_;exact kd1 (by rw[x4 nm]) H1 s1
  | true =>
   rw[xV (by rw[nm];decide)]at kd0 kd1 kd2 kd3;have B1:=B.mono s1
   have g1:cf H1 A.d1 (.str w) ((f9 bs w).map fun e=>V.ref e.p):=by rw[<-bE];exact cf.k (k:=Sum.inr w) B1.f1
   refine aE ⟨_,rfl,_,rfl,b,ck,A.dx,_,_,rfl,B1.ob,UO.f.cl,UO.f.nF,jr,A.d1,_,rfl,g1,_,rfl,?_⟩
   cases e:f9 bs w with
   | some x =>
    have hm:w∈bs.map (·.w):=yB.mpr ⟨x,(cy e).1,(cy e).2⟩;exact aV ⟨_,rfl,by decide,_,rfl,w,rfl,by omega,fun y hy=>⟨y,rfl,hy,_,rfl,by decide,fun z=>kd2 (by rw[x4 hm]) H1 s1⟩⟩
   | none =>
    have hm:=cQ.mp e;rw[xV hm]at kd0 kd2 kd3;have hf1:aO 9 H1 p f:=hf.mono fun _ _ z=>s1 _ _ z;refine aE ⟨_,rfl,b,A.dx,_,rfl,B1.ob,nC,_,rfl,b,p,A,bs,f,rfl,B1,hf1,fun kn H2 s2=>?_,fun kn H2 s2=>kd3 (by rw[xV kn]) H2 (s1.trans s2)⟩;rw[x4 kn]at kd0;have B2:=B1.mono s2;have hf2:aO 9 H2 p f:=hf1.mono fun _ _ z=>s2 _ _ z;have s12:=s1.trans s2
    have e1:iT H2 A.d1 (.str w) (.ref p) (aH H2 A.d1 (.dK ((bs.map fun e=>((Sum.inr e.w:bV),V.ref e.p))++[(Sum.inr w,V.ref p)]))):=by
     have q:=iT.k (k:=Sum.inr w) (v:=V.ref p) B2.f1 (by rw[xP];omega)
     rwa [gR _ (by rw[bE,e];rfl)]at q
    refine⟨_,rfl,_,rfl,b,ck,A.dx,_,_,rfl,B2.ob,UO.f.cl,UO.f.nF,jr,_,rfl,A.d1,_,rfl,e1,?_⟩;generalize h3:aH H2 A.d1 (.dK ((bs.map fun e=>((Sum.inr e.w:bV),V.ref e.p))++[(Sum.inr w,V.ref p)]))=H3
    have n3:ND H2 H3:=by rw[<-h3];exact kW B2.f1
    have k3:∀ a o,H2 a=some o->a≠A.d1->H3 a=some o:=fun a o z n=>by rw[<-h3,ak n];exact z
    have f31:H3 A.d1=some (.dK ((bs.map fun e=>((Sum.inr e.w:bV),V.ref e.p))++[(Sum.inr w,V.ref p)])):=by rw[<-h3,aa]
    clear h3
    have ob3:=n3 _ _ B2.ob fun _ q=>nomatch q
    refine⟨_,rfl,b,A.dx,_,rfl,ob3,nL,_,rfl,b,p,A,bs,f,rfl,⟨ob3,k3 _ _ B2.f2 (yo B.d12)⟩,hf2.nd n3,kn,fun H4 s4=>?_⟩;have n4:=n3.trans (sM s4);have ob4:=s4 _ _ ob3;have f42:=s4 _ _ (k3 _ _ B2.f2 (yo B.d12))
    have e2:iT H4 A.d2 (.str w) (.int (f.len (gw bs))) (aH H4 A.d2 (.dK ((bs.map fun e=>((Sum.inr e.w:bV),V.int e.n))++[(Sum.inr w,V.int (f.len (gw bs)))]))):=by
     have q:=iT.k (k:=Sum.inr w) (v:=V.int (f.len (gw bs))) f42 (by rw[xP];omega)
     rwa [gR _ (by rw[bE,e];rfl)]at q
    refine⟨_,rfl,b,ck,A.dx,_,_,rfl,ob4,UO.f.cl,UO.f.nL,mL,_,rfl,A.d2,_,rfl,e2,?_⟩;generalize h5:aH H4 A.d2 (.dK ((bs.map fun e=>((Sum.inr e.w:bV),V.int e.n))++[(Sum.inr w,V.int (f.len (gw bs)))]))=H5;have n5:ND H2 H5:=n4.trans (by rw[<-h5];exact kW f42)
    have k5:∀ a o,H4 a=some o->a≠A.d2->H5 a=some o:=fun a o z n=>by rw[<-h5,ak n];exact z
    have f52:H5 A.d2=some (.dK ((bs.map fun e=>((Sum.inr e.w:bV),V.int e.n))++[(Sum.inr w,V.int (f.len (gw bs)))])):=by rw[<-h5,aa]
    clear h5
    have ob5:=n5 _ _ B2.ob fun _ q=>nomatch q
    have f51:=k5 _ _ (s4 _ _ f31) B.d12;have f53:=k5 _ _ (s4 _ _ (k3 _ _ B2.f3 (yo B.d13))) (yo B.d23)
    have g5:cf H5 A.d2 (.str w) (some (.int (f.len (gw bs)))):=by
     have q:=cf.k (k:=Sum.inr w) f52
     rwa [kI _ _ _ _ (by rw[bE,e];rfl),x4 rfl]at q
    refine⟨_,rfl,b,ck,A.dx,_,_,rfl,ob5,UO.f.cl,UO.f.nL,mL,_,rfl,A.d2,_,rfl,g5,_,_,rfl,rfl,_,rfl,?_⟩;have kd0:=kd0 rfl;have kp:∀ a o,H a=some o->a≠A.d1->a≠A.d2->H5 a=some o:=fun a o z m1 m2=>k5 _ _ (s4 _ _ (k3 _ _ (s12 _ _ z) m1)) m2
    by_cases c:f.len (gw bs)<=2000
    ·rw[xX (show ((f.len (gw bs):Nat):Int)<=2000 by omega)]
     have BR:uV ck H5 b A bs:=⟨ob5,f53,fun e he h=>⟨(B2.rw e he h).1.nd n5,(B2.rw e he h).2⟩,B.nd⟩;refine aV ⟨_,rfl,b,A.dx,_,rfl,ob5,nR,_,rfl,b,p,A,bs,f,rfl,BR,hf2.nd n5,kn,c,fun l H6 hl s6 row=>?_⟩;have f63:=s6 _ _ f53;have lf:((bs.filter c5).length)<=bs.length:=List.length_filter_le ..
     have vn:eP ((bs.filter c5).map fun e=>((Sum.inr e.w:bV),V.ref e.l)) (Sum.inr w)=none:=by
      rw[bE,cQ.mpr (fun z=>?_)]
      ·rfl
      ·obtain⟨u,hu,eu⟩:=yB.mp z
       exact hm (yB.mpr ⟨u,(List.mem_filter.mp hu).1,eu⟩)
     have e3:iT H6 A.d3 (.str w) (.ref l) (aH H6 A.d3 (.dK (((bs.filter c5).map fun e=>((Sum.inr e.w:bV),V.ref e.l))++[(Sum.inr w,V.ref l)]))):=by
      have q:=iT.k (k:=Sum.inr w) (v:=V.ref l) f63 (by rw[xP];omega)
      rwa [gR _ vn]at q
     refine⟨_,rfl,b,ck,A.dx,_,_,rfl,s6 _ _ ob5,UO.f.cl,UO.f.nR,pZ,_,rfl,A.d3,_,rfl,e3,?_⟩;have n7:ND H6 (aH H6 A.d3 (.dK (((bs.filter c5).map fun e=>((Sum.inr e.w:bV),V.ref e.l))++[(Sum.inr w,V.ref l)]))):=kW f63;have n7':=(n5.trans (sM s6)).trans n7;refine kd0 ⟨w,f,f.len (gw bs),f.rowF (rG bs),p,l⟩ _ rfl rfl rfl rfl (fun _=>rfl) ?_ (fun a o z m1 m2 m3=>by rw[ak m3];exact s6 _ _ (kp a o z m1 m2));refine n6 B2 n7' hm (by rw[ak B.d13];exact s6 _ _ f51) (by rw[ak B.d23];exact s6 _ _ f52) (by rw[aa];show some (HO.dK (_++_))=some (HO.dK (_++if f.len (gw bs)<=2000 then _ else _));rw[x4 c]) (hf2.nd n7') (fun _=>⟨row.nd n7,ai.row_len (fun e he h=>(B.rw e he h).2) f kn c⟩) bl
    ·rw[xS (show ¬ ((f.len (gw bs):Nat):Int)<=2000 by omega)]
     refine aE (kd0 ⟨w,f,f.len (gw bs),[],p,p⟩ _ rfl rfl rfl rfl (fun z=>absurd z c) ?_ (fun a o z m1 m2 _=>kp a o z m1 m2));exact n6 B2 n5 hm f51 f52 (by rw[f53];show some (HO.dK _)=some (HO.dK (_++if f.len (gw bs)<=2000 then _ else _));rw[xV c,List.append_nil]) (hf2.nd n5) (fun z=>absurd z c) bl
theorem fP (F:dS K "names" "FigureBook.names" bX f fd) : a9 P w K mg base dD 1 f fd ["self"] (fH ck):=by
 refine F.ok fQ (fun vs H Q E h=>?_) (fun cdv A outer s H vs Q E hr h=>?_)
 ·obtain⟨b,A,bs,rfl,_⟩:=h
  rfl
 ·obtain⟨b,A,bs,rfl,B,k⟩:=h
  refine⟨_,ag (aq (bG (dH rfl) (by rfl) T.list yY (b9 (dN (pv 0) rfl)))),?_⟩;exact⟨_,rfl,b,ck,A.dx,_,_,rfl,B.ob,UO.f.cl,UO.f.nF,jr,A.d1,_,bs.map (·.w),rfl,B.f1,by rw[yL,yL];rfl,fun l hl=>k l hl⟩
theorem gh (F:dS K "told" "FigureBook.told" cr f fd) : a9 P w K mg base (hW P w) 2 f fd ["self","word"] (gT ck cq):=by
 refine F.okX gk (fun vs H Q E h=>?_) (fun cdv A outer s H vs Q E hr h=>?_)
 ·obtain⟨b,A,bs,w,rfl,_⟩:=h
  rfl
 ·obtain⟨b,A,bs,w,rfl,B,wl,k1,k2⟩:=h
  have hu:=jy hr
  refine⟨_,ae (aG (nD (pH hu (pv 1) (dN (pv 0) rfl))) (ag (gQ UO.eU gA rfl hr.hd rfl UO.mU (oB (gO ap (gO (qF (pv 1)) qM))))) (ao)) (
   ag (aq (jc hu (dN (pv 0) rfl) (pv 1) (fun _ _=>rfl)))),?_⟩
  have g1:cf H A.d1 (.str w) ((f9 bs w).map fun e=>V.ref e.p):=by rw[<-bE];exact cf.k (k:=Sum.inr w) B.f1
  refine⟨_,rfl,_,rfl,b,ck,A.dx,_,_,rfl,B.ob,UO.f.cl,UO.f.nF,jr,A.d1,_,rfl,g1,_,rfl,?_⟩
  cases e:f9 bs w with
  | none =>
   exact aV ⟨_,rfl,by decide,_,rfl,w,rfl,by omega,fun y hy=>⟨y,rfl,hy,fun z=>k2 e H (ay.refl _)⟩⟩
  | some x =>
   rw[e]at g1;exact aE ⟨_,rfl,b,ck,A.dx,_,_,rfl,B.ob,UO.f.cl,UO.f.nF,jr,_,rfl,A.d1,_,rfl,g1,k1 x e⟩
theorem dC (F:dS K "check_names" "FigureBook.check_names" bh f fd)(Cinner_figures:ax P w K mg base "inner_figures" 1 ["figure"] mo)(M_FigureBook_told:aP P w K mg base (hW P w) ck "told" 2 ["self","word"] (gT ck cq)){n:Nat}(hn:n<=9)(M_FigureBook_check_names:aP P w K mg base (hW P w) ck "check_names" (n+3) ["self","figure"] (kG ck cq n)):a9 P w K mg base (hW P w) (n+3+1) f fd ["self","figure"] (kG ck cq (n+1)):=by
 refine F.okX bS (fun vs H Q E h=>?_) (fun cdv A outer s H vs Q E hr h=>?_)
 ·obtain⟨b,p,A,bs,f,rfl,_⟩:=h
  rfl
 ·obtain⟨b,p,A,bs,f,rfl,B,hf,k1,k2⟩:=h
  refine⟨_,ae (aG (ar be (aA aB (pv 1) (ac) (fun _ _=>rfl)) (ap) (az _)) (ag (bD (gP M_FigureBook_told (pv 0) UO.f.cl (hr.mono (by omega)) lc (b9 (aA aB (pv 1) (ac) (fun _ _=>rfl)))))) (ao)) (
   ag (dv PassesOwn.leaving rfl (cc (ba Cinner_figures (hr.mono (by omega)) rfl (b9 (pv 1)))) (jd 2 bS.nd) (ag (bD (gP M_FigureBook_check_names (pv 0) UO.f.cl (hr.mono (by omega)) lc (b9 (pv 2))))))),?_⟩
  obtain⟨xs,hp⟩:=hf.hd;refine⟨_,rfl,p,_,0,_,rfl,rfl,aI.of hp,av (j:=0) rfl,rfl,_,rfl,?_⟩;have nT:∀ {x y z:V},(kN x y z).lookup ("told" : Str)=none:=eY (by decide +kernel);have nC:∀ {x y z:V},(kN x y z).lookup ("check_names" : Str)=none:=eY (by decide +kernel)
  apply gm (fun σ HH=>HH=H/\σ=[some (.ref b),some (.ref p),none]/\∀ w,f=.name w->aZ bs f)
  ·intro rest
   cases f with
   | name w =>
    rw[oO];obtain⟨e1,wl⟩:=hf;refine aV ⟨_,rfl,b,A.dx,_,rfl,B.ob,nT,_,rfl,p,_,1,_,rfl,rfl,aI.of e1,rfl,b,A,bs,w,rfl,B,by omega,fun e he=>?_,fun he HX sX=>k2 (fun z=>cQ.mp he (dq.mp z)) HX sX⟩;exact rest _ _ ⟨rfl,rfl,fun _ _=>dq.mpr (yB.mpr ⟨e,(cy he).1,(cy he).2⟩)⟩
   | pl f=>rw[oQ];exact aE (rest _ _ ⟨rfl,rfl,fun w z=>by cases z⟩)
   | back f=>rw[oN];exact aE (rest _ _ ⟨rfl,rfl,fun w z=>by cases z⟩)
   | row fs=>rw[oU];exact aE (rest _ _ ⟨rfl,rfl,fun w z=>by cases z⟩)
  rintro σ HH ⟨rfl,rfl,hname⟩;refine⟨_,rfl,p,n,f,rfl,hn,hf,fun l as H1 hl s1 hl1 pr=>⟨l,rfl,⟨_,aT.of hl1⟩,?_⟩⟩;have al:=x9 pr
  refine bZ (K:=K) (a:=l) (xs:=as.map V.ref) (fun i σ HK=>∃ v:Option V,σ=[some (.ref b),some (.ref p),v]/\ay H1 HK/\∀ u∈f.inner.take i,aZ bs u)
   ⟨none,rfl,ay.refl _,fun u hu=>by simp at hu⟩ (fun i σ HK _ ⟨_,_,s2,_⟩=>aT.of (s2 _ _ hl1)) ?_ ?_
  ·rintro i y σ HK hi ⟨v,rfl,s2,kn⟩
   obtain⟨a,ha,rfl⟩:=bB hi;obtain⟨u,hu,hA⟩:=cg pr ha;have s12:=s1.trans s2;have B2:=B.mono s12;refine⟨_,rfl,b,A.dx,_,rfl,B2.ob,nC,_,rfl,b,a,A,bs,u,rfl,B2,hA.mono (fun _ _ z=>s2 _ _ z),fun ku H3 s3=>?_,fun nk H3 s3=>?_⟩
   ·refine⟨_,rfl,s2.trans s3,fun x hx=>?_⟩
    rw[yH,hu,yz]at hx;rcases ym.mp hx with z | z
    ·exact kn x z
    ·rw[x6.mp z];exact ku
   ·refine k2 (fun z=>nk ?_) H3 (s12.trans s3)
    by_cases q:∃ w,f=.name w
    ·obtain⟨w,rfl⟩:=q
     cases (show ([]:List ai)[i]? = some u from hu)
    ·exact (iM (fun w e=>q ⟨w,e⟩)).mp z u (yj hu)
  rintro σ HK ⟨v,rfl,s2,kn⟩;rw[xP,al,yy]at kn;refine k1 ?_ HK (s1.trans s2)
  by_cases q:∃ w,f=.name w
  ·obtain⟨w,e⟩:=q
   exact hname w e
  ·exact (iM (fun w e=>q ⟨w,e⟩)).mpr kn
theorem ff (F:dS K "length" "FigureBook.length" bq f fd)(Cinner_figures:ax P w K mg base "inner_figures" 1 ["figure"] mo)(Csingle_length:ax P w K mg base "single_length" 1 ["figure"] ls){n:Nat}(hn:n<=9)(M_FigureBook_length:aP P w K mg base dD ck "length" (n+3) ["self","figure"] (iy ck n)):a9 P w K mg base dD (n+3+1) f fd ["self","figure"] (iy ck (n+1)):=by
 refine F.ok ft (fun vs H Q E h=>?_) (fun cdv A outer s H vs Q E hr h=>?_)
 ·obtain⟨b,p,A,bs,f,rfl,_⟩:=h
  rfl
 ·obtain⟨b,p,A,bs,f,rfl,B,hf,kn,k⟩:=h
  have hu:=jy hr;have sl:sizeLine=16777216:=yG
  refine⟨_,ae (aG (ar be (aA aB (pv 1) (ac) (fun _ _=>rfl)) (ap) (az _)) (ag (aq (jc hu (dN (pv 0) rfl) (aA aB (pv 1) (ac) (fun _ _=>rfl)) (fun _ _=>rfl)))) (ao)) (
   ae (aG (ar be (aA aB (pv 1) (ac) (fun _ _=>rfl)) (ap) (az _)) (ag (aq (gP M_FigureBook_length (pv 0) UO.f.cl (hr.mono (by omega)) fY (b9 (aA aB (pv 1) (ac) (fun _ _=>rfl)))))) (ao)) (
   ae (aG (ar be (aA aB (pv 1) (ac) (fun _ _=>rfl)) (ap) (az _)) (ag (aq (aN (o9 rfl) (by rfl) T.sum PyProof.Rows.boot_sum (b9 (ca (so:=ah bq) (N:=da) (N':=["inner","self","figure"]) (src:=[none,some 0,some 1]) rfl rfl pe rfl (cc (ba Cinner_figures (hr.mono (by omega)) rfl (b9 (pv 1)))) (fun cl C s2 H2 ex=>⟨jd 0 (show (["inner","self","figure"]:List Str).Nodup by decide +kernel),bI,aj fj (ux K 18 (ve hr (by decide)) (aA (fC K) (pv 2) (ac) (fun _ _=>rfl)) (pv 0)) (gP M_FigureBook_length (pv 1) UO.f.cl (hr.mono (by omega)) fY (b9 (pv 0)))⟩)))))) (ao)) (
   ag (aq (ba Csingle_length (hr.mono (by omega)) rfl (b9 (pv 1))))))),?_⟩
  obtain⟨xs,hp⟩:=hf.hd;have nL:∀ {x y z:V},(kN x y z).lookup ("length" : Str)=none:=eY (by decide +kernel);refine⟨_,rfl,p,_,0,_,rfl,rfl,aI.of hp,av (j:=0) rfl,rfl,_,rfl,?_⟩
  cases f with
  | name w =>
   rw[oO];obtain⟨e1,wl⟩:=hf
   have g1:cf H A.d2 (.str w) ((f9 bs w).map fun e=>V.int e.n):=by rw[<-bE];exact cf.k (k:=Sum.inr w) B.f2
   cases e:f9 bs w with
   | none=>exact absurd (dq.mp kn) (cQ.mp e)
   | some x =>
    rw[e]at g1;refine aV ⟨_,rfl,b,ck,A.dx,_,_,rfl,B.ob,UO.f.cl,UO.f.nL,mL,_,rfl,p,_,1,_,rfl,rfl,aI.of e1,rfl,A.d2,_,rfl,g1,?_⟩;have:=k H (ay.refl _);rw[ai.len,show gw bs w=x.n by unfold gw;rw[e]]at this;exact this
  | pl f =>
   rw[oQ];refine aE ⟨_,rfl,p,_,0,_,rfl,rfl,aI.of hp,av (j:=0) rfl,rfl,_,rfl,?_⟩;rw[oP];refine aE ⟨_,rfl,p,_,0,_,rfl,rfl,aI.of hp,av (j:=0) rfl,rfl,_,rfl,?_⟩;rw[oR];have:=k H (ay.refl _);rw[ai.len]at this;exact aE ⟨_,rfl,p,f,rfl,hf.1,hf.2,this⟩
  | back f =>
   rw[oN];refine aE ⟨_,rfl,p,_,0,_,rfl,rfl,aI.of hp,av (j:=0) rfl,rfl,_,rfl,?_⟩;rw[oM];obtain⟨q,e1,e2⟩:=hf;rw[ai.len]at k;exact aV ⟨_,rfl,b,A.dx,_,rfl,B.ob,nL,_,rfl,p,_,1,_,rfl,rfl,aI.of e1,rfl,b,q,A,bs,f,rfl,B,e2,d9.mp kn,k⟩
  | row fs =>
   rw[oU];refine aE ⟨_,rfl,p,_,0,_,rfl,rfl,aI.of hp,av (j:=0) rfl,rfl,_,rfl,?_⟩;rw[oS];refine aE ⟨_,rfl,p,_,0,_,rfl,rfl,aI.of hp,av (j:=0) rfl,rfl,_,rfl,?_⟩;rw[rj];have hf0:=hf;obtain⟨t,as,e1,e2,fl,pr⟩:=hf;have al:=x9 pr;refine aV ⟨_,rfl,p,n,.row fs,rfl,hn,hf0,fun l us H1 hl s1 hl1 pu=>⟨l,rfl,⟨_,aT.of hl1⟩,fun q hq=>?_⟩⟩;have pu:Paired (aO n H1) us (once fs):=pu;have ul:=x9 pu;have B1:=B.mono s1;have olen:(once fs).length<=100:=yA (qv fs) fl
   refine bZ (K:=K) (a:=l) (xs:=us.map V.ref) (fun i σ HK=>∃ v:Option V,σ=[v,some (.ref b),some (.ref p)]/\ay H1 HK/\HK q=some (.lst ((((once fs).take i).map fun u=>((cntF fs u*u.len (gw bs):Nat):Int)).map V.int)))
    ⟨none,rfl,af hq,aa⟩ (fun i σ HK _ ⟨_,_,s2,_⟩=>aT.of (s2 _ _ hl1)) ?_ ?_
   ·rintro i y σ HK hi ⟨v,rfl,s2,hq2⟩
    obtain⟨a,ha,rfl⟩:=bB hi;obtain⟨u,hu,hA⟩:=cg pu ha;have s12:=s1.trans s2;have B2:=B.mono s12;have e2':=s12 _ _ e2;have prd:Paired (fun (a:Addr)(e:Dt)=>RD K HK 18 (.ref a) e) as (ai.dtL fs):=aO.rds hn (Paired.mapP pr fun _ _ z=>z.mono fun _ _ y=>s12 _ _ y);have hA2:aO n HK a u:=hA.mono fun _ _ z=>s2 _ _ z;have ku:aZ bs u:=fD.mp kn u (gJ.mp (yj hu));refine cO ⟨_,rfl,p,_,1,_,rfl,rfl,aI.of (s12 _ _ e1),rfl,t,rfl,⟨_,e2'⟩,_,rfl,as,u.dt,_,e2',RD.up hA2.rd (by omega),prd,fun c hc=>?_⟩;have hc:c=cntF fs u:=tR hc;have cle:=tQ fs u;refine⟨_,rfl,b,A.dx,_,rfl,B2.ob,nL,_,rfl,b,a,A,bs,u,rfl,B2,hA2,ku,fun H3 s3=>?_⟩;refine⟨_,_,rfl,rfl,.inl ⟨by omega,by omega⟩,_,s3 _ _ hq2,by rw[xP,xP,yu];omega,_,rfl,bF (s2.trans s3) hq,?_⟩;rw[aa,yH,hu,yz,x8,x8,hc,<-Int.natCast_mul];rfl
   rintro σ HK ⟨v,rfl,s2,hq2⟩;rw[xP,ul,yy]at hq2;refine⟨q,_,rfl,aT.of hq2,?_⟩;have:=k HK (s1.trans s2);rw[ai.len,lN,<-rH,<-ms,yL]at this;exact this
theorem fh (F:dS K "row_of" "FigureBook.row_of" bP f fd)(Cturned_row:ax P w K mg base "turned_row" 1 ["row"] (gY K))(Csingle_row:ax P w K mg base "single_row" 3 ["figure"] lv){n:Nat}(hn:n<=9)(M_FigureBook_row_of:aP P w K mg base dD ck "row_of" (n+4) ["self","figure"] (fK ck n)):a9 P w K mg base dD (n+4+1) f fd ["self","figure"] (fK ck (n+1)):=by
 refine F.ok bM (fun vs H Q E h=>?_) (fun cdv A outer s H vs Q E hr h=>?_)
 ·obtain⟨b,p,A,bs,f,rfl,_⟩:=h
  rfl
 ·obtain⟨b,p,A,bs,f,rfl,B,hf,kn,lt,k⟩:=h
  have hu:=jy hr;have sl:sizeLine=16777216:=yG
  refine⟨_,ae (aG (ar be (aA aB (pv 1) (ac) (fun _ _=>rfl)) (ap) (az _)) (ag (aq (bG kO (by rfl) T.list yY (b9 (jc hu (dN (pv 0) rfl) (aA aB (pv 1) (ac) (fun _ _=>rfl)) (fun _ _=>rfl)))))) (ao)) (
   ae (aG (ar be (aA aB (pv 1) (ac) (fun _ _=>rfl)) (ap) (az _)) (ag (aq (ba Cturned_row (hr.mono (by omega)) rfl (b9 (gP M_FigureBook_row_of (pv 0) UO.f.cl (hr.mono (by omega)) fY (b9 (aA aB (pv 1) (ac) (fun _ _=>rfl)))))))) (ao)) (
   ae (aG (ar be (aA aB (pv 1) (ac) (fun _ _=>rfl)) (ap) (az _)) (ae (aK 2 bM.nd (bC a8)) (
   ae (dv yU rfl (jS (aA aB (pv 1) (ac) (fun _ _=>rfl))) (jd 3 bM.nd) (ag (bD (gL yn PySem.F.slot_list_extend PySem.F.type_list_extend pE (pv 2) (b9 (gP M_FigureBook_row_of (pv 0) UO.f.cl (hr.mono (by omega)) fY (b9 (pv 3)))))))) (
   ag (aq (pv 2))))) (ao)) (
   ag (aq (ba Csingle_row (hr.mono (by omega)) rfl (b9 (pv 1))))))),?_⟩
  obtain⟨xs,hp⟩:=hf.hd;have nL:∀ {x y z:V},(kN x y z).lookup ("row_of" : Str)=none:=eY (by decide +kernel);have okr:∀ e∈bs,e.n<=2000->e.r.length=e.n:=fun e he h=>(B.rw e he h).2;refine⟨_,rfl,p,_,0,_,rfl,rfl,aI.of hp,av (j:=0) rfl,rfl,_,rfl,?_⟩
  cases f with
  | name w =>
   rw[oO];obtain⟨e1,wl⟩:=hf
   cases e:f9 bs w with
   | none=>exact absurd (dq.mp kn) (cQ.mp e)
   | some x =>
    rw[ai.len,show gw bs w=x.n by unfold gw;rw[e]]at lt
    have g1:cf H A.d3 (.str w) (((f9 (bs.filter c5) w).map fun e=>V.ref e.l)):=by rw[<-bE];exact cf.k (k:=Sum.inr w) B.f3
    rw[oZ B.nd e lt]at g1;obtain⟨⟨as,hl,pr⟩,rl⟩:=B.rw x (cy e).1 lt;refine aV ⟨_,rfl,b,ck,A.dx,_,_,rfl,B.ob,UO.f.cl,UO.f.nR,pZ,_,rfl,p,_,1,_,rfl,rfl,aI.of e1,rfl,A.d3,_,rfl,g1,x.l,_,rfl,.inl (aT.of hl),fun l2 h2=>?_⟩;refine k l2 _ h2 (af h2) ?_;rw[ai.rowF,show rG bs w=x.r by unfold rG;rw[e]];exact⟨as,aa,Paired.mapP pr fun _ _ z=>af h2 _ _ z⟩
  | pl f =>
   rw[oQ];refine aE ⟨_,rfl,p,_,0,_,rfl,rfl,aI.of hp,av (j:=0) rfl,rfl,_,rfl,?_⟩;rw[oP];refine aE ⟨_,rfl,p,_,0,_,rfl,rfl,aI.of hp,av (j:=0) rfl,rfl,_,rfl,?_⟩;rw[oR];rw[ai.rowF]at k;exact aE ⟨_,rfl,p,f,rfl,hf.1,hf.2,k⟩
  | back f =>
   rw[oN];refine aE ⟨_,rfl,p,_,0,_,rfl,rfl,aI.of hp,av (j:=0) rfl,rfl,_,rfl,?_⟩;rw[oM];obtain⟨q,e1,e2⟩:=hf;rw[ai.len]at lt;rw[ai.rowF]at k;refine aV ⟨_,rfl,b,A.dx,_,rfl,B.ob,nL,_,rfl,p,_,1,_,rfl,rfl,aI.of e1,rfl,b,q,A,bs,f,rfl,B,e2,d9.mp kn,lt,fun l H1 hl s1 row=>?_⟩;obtain⟨as,hl1,pr⟩:=row;refine⟨l,_,rfl,aT.of hl1,fun l2 h2=>k l2 _ (s1.free h2) (s1.trans (af h2)) ?_⟩;rw[<-List.map_reverse];exact⟨as.reverse,aa,fk (Paired.mapP pr fun _ _ z=>af h2 _ _ z)⟩
  | row fs =>
   rw[oU];refine aE ⟨_,rfl,p,_,0,_,rfl,rfl,aI.of hp,av (j:=0) rfl,rfl,_,rfl,?_⟩;rw[oS];refine aE ⟨_,rfl,p,_,0,_,rfl,rfl,aI.of hp,av (j:=0) rfl,rfl,_,rfl,?_⟩;rw[rj];obtain⟨t,as,e1,e2,fl,pr⟩:=hf;have al:=x9 pr;rw[ai.len]at lt;rw[ai.rowF,jU]at k;have kn:=fD.mp kn;refine aV ⟨yg _,fun l hl=>?_⟩;have s1:=af (o:=.lst []) hl;refine⟨_,rfl,p,_,1,_,rfl,rfl,aI.of (s1 _ _ e1),rfl,t,rfl,⟨_,aI.of (s1 _ _ e2)⟩,?_⟩
   refine gB (K:=K) (a:=t) (xs:=as.map V.ref) (fun i σ HK=>∃ v:Option V,σ=[some (.ref b),some (.ref p),some (.ref l),v]/\ay H HK/\cP HK l ((fs.take i).flatMap (ai.rowF (rG bs))))
    ⟨none,rfl,s1,⟨[],aa,.nil⟩⟩ (fun i σ HK _ ⟨_,_,s2,_⟩=>aI.of (s2 _ _ e2)) ?_ ?_
   ·rintro i y σ HK hi ⟨v,rfl,s2,row⟩
    obtain⟨a,ha,rfl⟩:=bB hi;obtain⟨u,hu,hA⟩:=cg pr ha;have um:=yj hu;have ul:=oy (e:=gw bs) um;have B2:=B.mono s2;obtain⟨cs,hl2,pc⟩:=id row;refine⟨_,rfl,.inl ⟨rfl,_,aT.of hl2⟩,_,rfl,b,A.dx,_,rfl,B2.ob,nL,_,rfl,b,a,A,bs,u,rfl,B2,hA.mono (fun _ _ z=>s2 _ _ z),kn u um,by omega,fun l3 H3 hl3 s3 row3=>?_⟩;obtain⟨ds,hl4,pd⟩:=row3;have hl2':=s3 _ _ hl2;have rl1:=x9 pc;have rl2:=x9 pd
    have len1:=ai.row_lenL okr (fs.take i) (fun g hg=>kn g (List.mem_of_mem_take hg)) (by
     have:=ic (e:=gw bs) i fs
     omega)
    rw[jU]at len1;have len2:=ai.row_len okr u (kn u um) (by omega);have lle:=ic (e:=gw bs) i fs;refine⟨l,l3,_,_,rfl,rfl,hl2',hl4,by rw[xP,xP];omega,?_⟩;refine⟨_,rfl,bF (s2.trans s3) hl,?_⟩;rw[yH,hu,yz,List.flatMap_append,List.flatMap_singleton,<-x8]
    have up:∀ c xs,H3 c=some (.tup xs)->aH H3 l (.lst ((cs++ds).map V.ref)) c=some (.tup xs):=fun c xs e=>by rw[ak (fun z=>by rw[z,hl2']at e;cases e)];exact e
    exact⟨cs++ds,aa,bf (Paired.mapP pc fun _ _ z=>up _ _ (s3 _ _ z)) (Paired.mapP pd fun _ _ z=>up _ _ z)⟩
   rintro σ HK ⟨v,rfl,s2,row⟩;rw[xP,al,yy]at row;exact⟨_,rfl,k l HK hl s2 row⟩
theorem jL (F:dS K "_law_cell_at" "_law_cell_at" dw f fd) : a9 P w K mg base dD 1 f fd ["_law_script","_law_k"] (ll K):=by
 refine F.ok jV (fun vs H Q E h=>?_) (fun cdv A outer s H vs Q E hr h=>?_)
 ·obtain⟨a,ns,k,rfl,_⟩:=h
  rfl
 ·obtain⟨a,ns,i,rfl,hS,hi,k⟩:=h
  refine⟨_,ae (aG (ar oz (pv 1) (aN bn (by rfl) T.len yQ (aF (pv 0) a8)) (az _)) (ag (aq (aA dc (pv 0) (pv 1) (fun _ _=>rfl)))) ao) (ag (aq ac)),?_⟩;refine⟨_,rfl,_,rfl,a,_,rfl,.inl hS,_,_,rfl,rfl,_,rfl,?_⟩;unfold d6 at k;rw[xP]
  by_cases hc:i<(ns.length:Int)
  ·rw[x4 hc]at k
   rw[xX hc];refine aV ⟨_,rfl,_,rfl,a,_,_,_,rfl,rfl,hS,?_,k⟩;have e:i=((i.toNat:Nat):Int):=(Int.toNat_of_nonneg hi).symm
   have hl:i.toNat<ns.length:=by omega
   rw[e];refine av ?_;rw[List.getElem?_map,List.getD_eq_getElem?_getD,zh,List.getElem?_eq_getElem hl];rfl
  ·rw[xV hc]at k
   rw[xS hc];exact aE k
theorem l8 (F:dS K "_law_size" "_law_size" fu f fd) : a9 P w K mg base dD 1 f fd ["_law_cell"] iz:=by
 refine F.ok mm (fun vs H Q E h=>?_) (fun cdv A outer s H vs Q E hr h=>?_)
 ·obtain⟨c,rfl,_⟩:=h
  rfl
 ·obtain⟨c,rfl,k⟩:=h
  refine⟨_,ae (aG (ar oz (pv 0) ac (az _)) (ag (aq (vw uN (pv 0)))) ao) (ag (aq (pv 0))),?_⟩;refine⟨_,rfl,_,_,rfl,rfl,_,rfl,?_⟩;unfold d5 at k
  by_cases hc:c<0
  ·rw[x4 hc]at k
   rw[xX hc];exact aV ⟨_,rfl,_,rfl,k⟩
  ·rw[xV hc]at k
   rw[xS hc];exact aE ⟨_,rfl,k⟩
theorem kX (F:dS K "_law_draws" "_law_draws" eC f fd)(bA:ax P w K mg base "_law_size" 1 ["_law_cell"] iz) : a9 P w K mg base dD 2 f fd ["_law_cell","_law_many","_law_base"] gV:=by
 refine F.ok aQ (fun vs H Q E h=>?_) (fun cdv A outer s H vs Q E hr h=>?_)
 ·obtain⟨c,m,b,rfl,_⟩:=h
  rfl
 ·obtain⟨c,m,b,rfl,⟨m0,m1⟩,⟨b0,b1⟩,k⟩:=h
  refine⟨_,ae (cY (i:=3) aQ.nd rfl (Or.inl rfl) (ba bA hr rfl (aF (pv 0) a8)))
   (ae (cY (i:=4) aQ.nd rfl (Or.inl rfl) (bC a8))
   (ae (aG (ar vq (pv 3) (aj qz ac ac) (az _))
    (ae (cY (i:=3) aQ.nd rfl (Or.inl rfl) (aj jQ (pv 3) (aj qz ac ac)))
    (ae (cY (i:=5) aQ.nd rfl (Or.inl rfl) (aj aS (pv 3) (aj bL (pv 1) ac)))
    (ae (cY (i:=3) aQ.nd rfl (Or.inl rfl) (aj bc (pv 3) (aj bL (pv 1) ac)))
    (ae (dv yU rfl (fG rfl T.range (aF (pv 5) a8)) (lg (i:=6) aQ.nd rfl (Or.inl rfl))
     (ae (bD (gL yn yC yD cv (pv 4) (aF (aj aS (pv 3) (pv 2)) a8)))
     (ag (cY (i:=3) aQ.nd rfl (Or.inl rfl) (aj bc (pv 3) (pv 2))))))
    (ag (aq (pv 4)))))))
    ao)
   (ae (cY (i:=7) aQ.nd rfl (Or.inl rfl) (aj bL (aj aS (pv 3) ac) ac))
   (ae (dv yU rfl (fG rfl T.range (aF (aj aS (pv 3) (aj bL (pv 1) ac)) a8)) (lg (i:=6) aQ.nd rfl (Or.inl rfl))
     (ae (cY (i:=7) aQ.nd rfl (Or.inl rfl) (aj aS (aj fj (pv 7) ac) ac))
     (ag (bD (gL yn yC yD cv (pv 4) (aF (aj aS (aj bc (aj aS (aj fj (pv 7) ac) ac) ac) (pv 2)) a8))))))
   (ag (aq (pv 4))))))),?_⟩
  refine⟨_,rfl,_,rfl,by show 0<=sizeLine;exact yg _,fun l hl=>?_⟩
  have big:(10:Int) ^ (18:Int).toNat=1000000000000000000:=by decide
  have room:∀ ds:List Int,(ds.length:Int)<=1000->(ds.map V.int).length<sizeLine:=fun ds h=>by rw[xP];exact cx (by omega)
  have app:∀ (ds:List Int)(z:Int),aH (aH H l (.lst (ds.map V.int))) l (.lst (ds.map V.int++[V.int z]))=aH H l (.lst ((ds++[z]).map V.int)):=fun ds z=>by rw[lD,x8];rfl
  have inb:∀ (ds:List Int)(z:Int),(∀ d∈ds,0<=d/\d<b)->∀ d∈ds++[z%b],0<=d/\d<b:=fun ds z h d hd=>by
   rcases ym.mp hd with hd | hd
   ·exact h d hd
   ·rw[x6.mp hd];exact⟨yT _ (by omega),yK _ b0⟩
  refine⟨_,rfl,_,_,rfl,rfl,⟨by decide,by decide,by decide⟩,_,_,rfl,rfl,_,rfl,?_⟩;refine wA (fun _=>?_) (fun _=>?_)
  ·refine⟨_,rfl,_,_,rfl,rfl,⟨by decide,by decide,by decide⟩,_,_,rfl,rfl,?_⟩
   refine⟨_,rfl,_,rfl,_,_,rfl,rfl,_,_,rfl,rfl,by show (0:Int)<m+1;omega,?_⟩;refine⟨_,rfl,_,rfl,_,_,rfl,rfl,_,_,rfl,rfl,⟨by show (0:Int)<m+1;omega,by show m+1<1073741824;omega⟩,?_⟩;have cb:=yK (d5 c-(10:Int) ^ (18:Int).toNat) (show 0<m+1 by omega);have cn:=yT (d5 c-(10:Int) ^ (18:Int).toNat) (show m+1≠0 by omega)
   refine⟨_,rfl,_,rfl,by omega,by omega,fA (n:=((d5 c-(10:Int) ^ (18:Int).toNat)%(m+1)).toNat) (fun i σ H2=>∃ (z:Int)(v:Option V)(ds:List Int),σ=[some (.int c),some (.int m),some (.int b),some (.int z),some (.ref l),some (.int ((d5 c-(10:Int) ^ (18:Int).toNat)%(m+1))),v,none]/\H2=aH H l (.lst (ds.map V.int))/\ds.length=i/\∀ d∈ds,0<=d/\d<b)
    ⟨_,none,[],rfl,rfl,rfl,fun _ z=>nomatch z⟩ ?_ ?_⟩
   ·rintro i σ H2 hi ⟨z,v,ds,rfl,rfl,hlen,hds⟩
    refine⟨_,rfl,.inl ⟨rfl,_,aT.of aa⟩,_,rfl,_,rfl,_,_,rfl,rfl,b0,l,_,_,rfl,rfl,aa,room ds (by omega),?_⟩;refine⟨_,rfl,_,rfl,_,_,rfl,rfl,⟨b0,b1⟩,?_⟩;exact⟨_,_,ds++[z%b],rfl,app ds _,by rw[x3,hlen];rfl,inb ds z hds⟩
   ·rintro σ H2 ⟨z,v,ds,rfl,rfl,hlen,hds⟩
    exact⟨_,rfl,k l ds hl hds (by omega)⟩
  ·refine⟨_,rfl,_,_,rfl,rfl,by show (0:Int)<2147483629;decide,_,_,rfl,rfl,?_⟩
   have cb:=yK (d5 c) (show 0<m+1 by omega);have cn:=yT (d5 c) (show m+1≠0 by omega);refine⟨_,rfl,_,rfl,_,_,rfl,rfl,_,_,rfl,rfl,by show (0:Int)<m+1;omega,?_⟩
   refine⟨_,rfl,by omega,by omega,fA (n:=(d5 c%(m+1)).toNat) (fun i σ H2=>∃ (z:Int)(v:Option V)(ds:List Int),σ=[some (.int c),some (.int m),some (.int b),some (.int (d5 c)),some (.ref l),none,v,some (.int z)]/\H2=aH H l (.lst (ds.map V.int))/\ds.length=i/\∀ d∈ds,0<=d/\d<b)
    ⟨_,none,[],rfl,rfl,rfl,fun _ z=>nomatch z⟩ ?_ ?_⟩
   ·rintro i σ H2 hi ⟨z,v,ds,rfl,rfl,hlen,hds⟩
    refine⟨_,rfl,_,_,rfl,rfl,.inr ⟨by decide,by decide⟩,_,_,rfl,rfl,by show (0:Int)<2147483647;decide,?_⟩;refine⟨_,rfl,.inl ⟨rfl,_,aT.of aa⟩,_,rfl,_,_,rfl,rfl,.inr ⟨by decide,by decide⟩,_,_,rfl,rfl,by show (0:Int)<998244353;decide,_,_,rfl,rfl,⟨by decide,by decide⟩,_,rfl,_,_,rfl,rfl,b0,l,_,_,rfl,rfl,aa,room ds (by omega),?_⟩;exact⟨_,_,ds++[_],rfl,app ds _,by rw[x3,hlen];rfl,inb ds _ hds⟩
   ·rintro σ H2 ⟨z,v,ds,rfl,rfl,hlen,hds⟩
    exact⟨_,rfl,k l ds hl hds (by omega)⟩
theorem kY (F:dS K "_law_guest" "_law_guest" eD f fd)(bA:ax P w K mg base "_law_size" 1 ["_law_cell"] iz) : a9 P w K mg base dD 2 f fd ["_law_k","_law_cell"] gW:=by
 refine F.ok de (fun vs H Q E h=>?_) (fun cdv A outer s H vs Q E hr h=>?_)
 ·obtain⟨k,c,rfl,_⟩:=h
  rfl
 ·obtain⟨i,c,rfl,⟨i0,i1⟩,k⟩:=h
  refine⟨_,ae (cY (i:=2) de.nd rfl (Or.inl rfl) (ba bA hr rfl (aF (pv 1) a8)))
   (ae (cY (i:=3) de.nd rfl (Or.inl rfl) (aj bL ac (aj aS (aj fj (pv 2) ac) ac)))
   (ae (cY (i:=4) de.nd rfl (Or.inl rfl) (aj aS (aj bL (aj fj (pv 0) (pv 3)) (aj qw (pv 2) ac)) ac))
   (ae (aG (ar be (aj aS (pv 2) ac) ac (az _)) (ag (aq (aj bL (pv 4) ac))) ao)
   (ag (aq (pv 4)))))),?_⟩
  refine⟨_,rfl,_,rfl,?_⟩;refine⟨_,rfl,_,_,rfl,rfl,.inr ⟨by decide,by decide⟩,_,_,rfl,rfl,by show (0:Int)<2147483646;decide,_,_,rfl,rfl,?_⟩;refine⟨_,rfl,_,rfl,_,_,rfl,rfl,.inl ⟨by show (-(2 ^ 64):Int)<i;omega,by show i<(2 ^ 64:Int);omega⟩,_,rfl,_,_,rfl,rfl,⟨by decide,by decide⟩,_,_,rfl,rfl,_,_,rfl,rfl,by show (0:Int)<2147483647;decide,?_⟩;refine⟨_,rfl,_,_,rfl,rfl,by show (0:Int)<5;decide,rfl,_,rfl,?_⟩;unfold j6 at k;dsimp only at k
  by_cases hc:d5 c%5=4
  ·rw[x4 hc]at k
   rw[xX (show V.int (d5 c%5)=V.int 4 by rw[hc])];exact aV ⟨_,rfl,_,_,rfl,rfl,k⟩
  ·rw[xV hc]at k
   rw[xS (show ¬ V.int (d5 c%5)=V.int 4 from fun z=>hc (by injection z))];exact aE ⟨_,rfl,k⟩
theorem l9 (F:dS K "_law_word" "_law_word" fw f fd)(cu:ax P w K mg base "_law_draws" 2 ["_law_cell","_law_many","_law_base"] gV) : a9 P w K mg base dD 3 f fd ["_law_cell"] nK:=by
 refine F.ok cR (fun vs H Q E h=>?_) (fun cdv A outer s H vs Q E hr h=>?_)
 ·obtain⟨c,rfl,_⟩:=h
  rfl
 ·obtain⟨c,rfl,k⟩:=h
  have sl:sizeLine=16777216:=yG
  refine⟨_,ae (aK 1 cR.nd (ap)) (
   ae (aK 2 cR.nd (ap)) (
   ae (dv yU rfl (cc (ba cu hr.m rfl (sP (pv 0) (ac) (ac)))) (jd 3 cR.nd) (ag (aK 2 cR.nd (aj nq (pv 2) (aA tZ (pv 1) (pv 3) (fun _ _=>rfl)))))) (
   ae (aG (ar fE (pv 2) (bC (bH (bH (bH (bH (bH (bH (bH (bH (bH (a8))))))))))) rfl) (ag (aq (ap))) (ao)) (
   ag (aq (pv 2)))))),?_⟩
  refine⟨_,rfl,c,12,26,rfl,⟨by decide,by decide⟩,⟨by decide,by decide⟩,fun l ds hl hd hn=>⟨l,rfl,⟨_,aT.of aa⟩,?_⟩⟩;have s1:=af (o:=.lst (ds.map V.int)) hl
  refine bZ (K:=K) (a:=l) (xs:=ds.map V.int) (fun i σ HK=>∃ (v:Option V)(w:Str),σ=[some (.int c),some (.str "abcdefghijklmnopqrstuvwxyz"),some (.str w),v]/\ay (aH H l (.lst (ds.map V.int))) HK/\mE w/\w.length=i)
   ⟨none,_,rfl,ay.refl _,by unfold mE;decide +kernel,by decide +kernel⟩ (fun i σ HK _ ⟨_,_,_,s2,_⟩=>aT.of (s2 _ _ aa)) ?_ ?_
  ·rintro i y σ HK hi ⟨v,w,rfl,s2,aw,lw⟩
   obtain⟨d,hd1,rfl⟩:=bB hi;have hil:=(List.getElem?_eq_some_iff.mp hd1).1;obtain⟨d0,d1⟩:=hd d (yj hd1);obtain⟨c2,hc,e⟩:=ug d0 d1;refine⟨_,rfl,_,rfl,_,rfl,_,d,c2,rfl,rfl,by rw[sl];decide +kernel,e,w,_,rfl,rfl,?_,?_⟩
   ·show w.length+1<=sizeLine
    omega
   exact⟨_,_,rfl,s2,pX aw hc,by rw[qp,lw]⟩
  rintro σ HK ⟨v,w,rfl,s2,aw,lw⟩;rw[xP]at lw;refine⟨_,rfl,by rw[sl];decide,fun l2 hl2=>⟨l2,_,rfl,.inl (aT.of aa),rfl,rfl,_,rfl,?_⟩⟩;have s3:=(s1.trans s2).trans (af (o:=.lst (["","pair","line","star","all","quad","row","back","name"].map fun x=>V.str (Str.ofString x))) hl2);refine e9 (fun _=>?_) (fun _=>?_)
  ·exact k _ _ (by unfold mE;decide +kernel) (by decide +kernel) s3
  ·exact⟨_,rfl,k w _ aw (by omega) s3⟩
theorem k6 (F:dS K "_law_ranks" "_law_ranks" dg f fd) : a9 P w K mg base dD 1 f fd ["_law_drawn"] jm:=by
 refine F.ok df (fun vs H Q E h=>?_) (fun cdv A outer s H vs Q E hr h=>?_)
 ·obtain⟨d,rfl,_⟩:=h
  rfl
 ·obtain⟨d,rfl,d0,k⟩:=h
  refine⟨_,ae (aK 1 df.nd (aj bL (ac) (aj aS (pv 0) (ac)))) (
   ae (aG (ar sO (aj aS (aj bc (pv 0) (ac)) (ac)) (ac) (az _)) (ag (aK 1 df.nd (aj bL (ac) (aj aS (aj bc (pv 0) (ac)) (ac))))) (ao)) (
   ae (aK 2 df.nd (aj aS (aj bc (pv 0) (ac)) (ac))) (
   ag (aq (ca (so:=ah dg) (N:=iP) (N':=["_law_k","_law_drawn","_law_step"]) (src:=[none,some 0,some 2]) rfl rfl pe rfl (fG (by rfl) T.range (b9 (pv 1))) (fun cl C s2 H2 ex=>⟨jd 0 (show (["_law_k","_law_drawn","_law_step"]:List Str).Nodup by decide +kernel),bI,aj aS (aj bL (aj bc (pv 1) (ac)) (aj fj (pv 2) (pv 0))) (ac)⟩)))))),?_⟩
  have em:∀ z m:Int,0<m->0<=z%m/\z%m<m:=fun z m h=>⟨yT _ (by omega),yK _ h⟩;refine⟨_,rfl,_,_,rfl,rfl,by show (0:Int)<6;decide,_,_,rfl,rfl,?_⟩;refine⟨_,rfl,_,_,rfl,rfl,⟨by decide,by decide⟩,_,_,rfl,rfl,by show (0:Int)<61;decide,_,_,rfl,rfl,_,rfl,?_⟩;have a1:=em d 6 (by decide)
  apply gm (fun σ HH=>HH=H/\∃ m:Nat,σ=[some (.int d),some (.int (m:Int)),none]/\2<=m/\m<=60)
  ·intro rest
   by_cases c1:d/6%61>54
   ·rw[xX c1]
    have a2:=em (d/366) 53 (by decide);refine aV ⟨_,rfl,_,_,rfl,rfl,⟨by decide,by decide⟩,_,_,rfl,rfl,by show (0:Int)<53;decide,_,_,rfl,rfl,?_⟩;exact rest _ _ ⟨rfl,(8+d/366%53).toNat,by rw[Int.toNat_of_nonneg (by omega)];rfl,by omega,by omega⟩
   ·rw[xS c1]
    exact aE (rest _ _ ⟨rfl,(2+d%6).toNat,by rw[Int.toNat_of_nonneg (by omega)];rfl,by omega,by omega⟩)
  rintro σ HH ⟨rfl,m,rfl,m0,m1⟩;have a3:=em (d/366) 6 (by decide);refine⟨_,rfl,_,_,rfl,rfl,⟨by decide,by decide⟩,_,_,rfl,rfl,by show (0:Int)<6;decide,?_⟩;refine⟨_,rfl,(m:Int),rfl,by omega,by omega,fun l hl=>?_⟩
  refine fA (n:=m) (fun i σ H2=>∃ (v:Option V)(xs:List Int),σ=[v,some (.int d),some (.int (d/366%6))]/\xs.length=i/\(∀ r∈xs,0<=r/\r<12)/\H2=aH HH l (.lst (xs.map V.int)))
   ⟨none,[],rfl,rfl,(fun _ z=>nomatch z),rfl⟩ ?_ ?_
  ·rintro i σ H2 hi ⟨v,xs,rfl,hx,hr2,rfl⟩
   refine cO ⟨_,rfl,_,_,rfl,rfl,⟨by decide,by decide⟩,_,rfl,_,rfl,_,_,rfl,rfl,.inl ⟨by omega,by omega⟩,_,_,rfl,rfl,_,_,rfl,rfl,by show (0:Int)<12;decide,_,aa,by rw[xP];exact cx (by omega),?_⟩;refine⟨_,xs++[(d/2196+d/366%6*(0+(i:Int)))%12],rfl,by rw[x3,hx];rfl,fun r hr3=>?_,?_⟩
   ·rcases ym.mp hr3 with z | z
    ·exact hr2 r z
    ·rw[x6.mp z];exact em _ 12 (by decide)
   ·rw[lD,x8]
    rfl
  rintro σ H2 ⟨v,xs,rfl,hx,hr2,rfl⟩;exact k l xs hl (by omega) (by omega) hr2
theorem kZ (F:dS K "_law_plain" "_law_plain" cC f fd)(eS:ax P w K mg base "_law_ranks" 1 ["_law_drawn"] jm)(bd:ax P w K mg base "_law_guest" 2 ["_law_k","_law_cell"] gW) : a9 P w K mg base dD 3 f fd ["_law_drawn","_law_cell"] lA:=by
 refine F.ok bQ (fun vs H Q E h=>?_) (fun cdv A outer s H vs Q E hr h=>?_)
 ·obtain⟨d,c,rfl,_⟩:=h
  rfl
 ·obtain⟨d,c,rfl,d0,k⟩:=h
  have two:(2:Nat)<=sizeLine:=by decide
  have three:(3:Nat)<=sizeLine:=by decide
  have em:∀ z m:Int,0<m->0<=z%m/\z%m<m:=fun z m h=>⟨yT _ (by omega),yK _ h⟩
  refine⟨_,ae (aK 2 bQ.nd (aj aS (pv 0) (ac))) (
   ae (aK 3 bQ.nd (ba eS hr.m rfl (b9 (aj bc (pv 0) (ac))))) (
   ae (aG (ar be (pv 2) (ac) (az _)) (ag (aq (bg (sP (ap) (ba bd hr.m rfl (dX (aA dc (pv 3) (ac) (fun _ _=>rfl)) (pv 1))) (ba bd hr.m rfl (dX (aA dc (pv 3) (ac) (fun _ _=>rfl)) (pv 1))))))) (ao)) (
   ae (aG (ar be (pv 2) (ac) (az _)) (ae (aK 4 bQ.nd (aj aS (aj bc (pv 0) (ac)) (ac))) (
   ae (aK 5 bQ.nd (aj bL (ac) (aj aS (aj bc (pv 0) (ac)) (ac)))) (
   ag (aq (bg (dX (ap) (bG cL (by rfl) T.tuple PyProof.Rows.boot_tuple (b9 (ca (so:=ah cC) (N:=fb) (N':=["_law_k","_law_cell","_law_first","_law_step"]) (src:=[none,some 1,some 4,some 5]) rfl rfl pe rfl (fG (by rfl) T.range (b9 (ac))) (fun cl C s2 H2 ex=>⟨jd 0 (show (["_law_k","_law_cell","_law_first","_law_step"]:List Str).Nodup by decide +kernel),bI,ba bd hr.m rfl (dX (aj aS (aj bL (pv 2) (aj fj (pv 3) (pv 0))) (ac)) (pv 1))⟩)))))))))) (ao)) (
   ae (aK 6 bQ.nd (bG cL (by rfl) T.tuple PyProof.Rows.boot_tuple (b9 (ca (so:=ah cC) (N:=fb) (N':=["_law_rank","_law_cell"]) (src:=[none,some 1]) rfl rfl pe rfl (cc (pv 3)) (fun cl C s2 H2 ex=>⟨jd 0 (show (["_law_rank","_law_cell"]:List Str).Nodup by decide +kernel),bI,ba bd hr.m rfl (dX (pv 0) (pv 1))⟩))))) (
   ag (aq (bg (dX (aA dc (bC (sP (ap) (ap) (ap))) (aj jQ (pv 2) (ac)) (fun _ _=>rfl)) (pv 6))))))))),?_⟩
  refine⟨_,rfl,_,_,rfl,rfl,by show (0:Int)<5;decide,?_⟩;refine⟨_,rfl,_,_,rfl,rfl,⟨by decide,by decide⟩,d/5,rfl,by omega,fun lr rs hlr r0 r1 rb=>?_⟩;have s1:=af (o:=.lst (rs.map V.int)) hlr;have h1:aH H lr (.lst (rs.map V.int)) lr=some (.lst (rs.map V.int)):=aa;generalize aH H lr (.lst (rs.map V.int))=H1 at s1 h1 ⊢;refine⟨_,rfl,rfl,_,rfl,?_⟩
  by_cases c0:d%5=0
  ·rw[xX (y1 V.int c0)]
   obtain⟨x,y,rt,rfl⟩:∃ x y rt,rs=x::y::rt:=by
    match rs,r0 with
    | x::y::rt,_=>exact⟨x,y,rt,rfl⟩
   have bx:=rb x (by simp);have bY:=rb y (by simp);refine aV ⟨_,rfl,lr,_,0,_,rfl,rfl,aT.of h1,av (j:=0) rfl,_,rfl,x,c,rfl,⟨bx.1,by omega⟩,_,rfl,lr,_,1,_,rfl,rfl,aT.of h1,av (j:=1) rfl,_,rfl,y,c,rfl,⟨bY.1,by omega⟩,three,fun t ht=>?_⟩;exact k t (.pair _ _) _ (s1.free ht) (s1.trans (af ht)) aa ⟨by show (2:Nat)<=2;decide,by show (2:Nat)<=60;decide,fun _ _ _ _ z=>by cases z⟩
  rw[xS (fun z=>c0 (V.int.inj z))];refine aE ⟨_,rfl,rfl,_,rfl,?_⟩
  by_cases c4:d%5=4
  ·rw[xX (y1 V.int c4)]
   have a1:=em (d/5) 12 (by decide);have a2:=em (d/60) 3 (by decide);refine aV ⟨_,rfl,_,_,rfl,rfl,⟨by decide,by decide⟩,_,_,rfl,rfl,by show (0:Int)<12;decide,?_⟩;refine⟨_,rfl,_,_,rfl,rfl,⟨by decide,by decide⟩,_,_,rfl,rfl,by show (0:Int)<3;decide,_,_,rfl,rfl,?_⟩;refine⟨4,rfl,by decide,by decide,fun l hl=>?_⟩
   refine fA (n:=4) (fun i σ H2=>∃ (v:Option V),σ=[v,some (.int c),some (.int (d/5%12)),some (.int (1+d/60%3))]/\H2=aH H1 l (.lst (((List.range i).map fun j:Nat=>j6 ((d/5%12+(1+d/60%3)*(0+(j:Int)))%12) c).map V.int)))
    ⟨none,rfl,rfl⟩ ?_ ?_
   ·rintro i σ H2 hi ⟨v,rfl,rfl⟩
    have a3:=em (d/5%12+(1+d/60%3)*(0+(i:Int))) 12 (by decide);refine cO ⟨_,rfl,_,rfl,_,rfl,_,_,rfl,rfl,.inl ⟨by omega,by omega⟩,_,_,rfl,rfl,_,_,rfl,rfl,by show (0:Int)<12;decide,_,rfl,_,c,rfl,⟨a3.1,by omega⟩,_,aa,by rw[xP,xP,List.length_range];exact cx (by omega),?_⟩;refine⟨_,rfl,?_⟩;rw[lD,List.range_succ,x8,x8];rfl
   rintro σ H2 ⟨v,rfl,rfl⟩;have s2:=af (o:=.lst (((List.range 4).map fun j:Nat=>j6 ((d/5%12+(1+d/60%3)*(0+(j:Int)))%12) c).map V.int)) hl;refine⟨l,_,rfl,.inl ⟨aT.of aa,fun q hq=>?_⟩⟩;have s3:=af (o:=.tup (((List.range 4).map fun j:Nat=>j6 ((d/5%12+(1+d/60%3)*(0+(j:Int)))%12) c).map V.int)) hq;refine⟨two,fun p hp=>?_⟩;have s4:=af (o:=.tup [.str "quad",.ref q]) hp
   have nd:∀ i j:Int,0<=i->i<4->0<=j->j<4->i≠j->j6 ((d/5%12+(1+d/60%3)*(0+i))%12) c≠j6 ((d/5%12+(1+d/60%3)*(0+j))%12) c:=fun i j i0 i1 j0 j1 n e=>by
    have bi:=em (d/5%12+(1+d/60%3)*(0+i)) 12 (by decide);have bj:=em (d/5%12+(1+d/60%3)*(0+j)) 12 (by decide);have:=rR (by omega) (by omega) e;obtain⟨st,est⟩:∃ st,st=d/60%3:=⟨_,rfl⟩;rw[<-est]at this a2
    have:st=0\/st=1\/st=2:=by omega
    rcases this with rfl | rfl | rfl<;>omega
   have s12:=s1.trans s2;refine k p (.quad _ _ _ _) _ (s12.free (s3.free hp)) (s12.trans (s3.trans s4)) ⟨q,aa,s4 _ _ aa⟩ ⟨by show (2:Nat)<=4;decide,by show (4:Nat)<=60;decide,fun a b c' d' z=>?_⟩;cases z;simp only[yV,ya,List.not_mem_nil,or_false,not_or,List.nodup_nil,and_true,not_false_eq_true];exact⟨⟨nd 0 1 (by decide) (by decide) (by decide) (by decide) (by decide),nd 0 2 (by decide) (by decide) (by decide) (by decide) (by decide),nd 0 3 (by decide) (by decide) (by decide) (by decide) (by decide)⟩,⟨nd 1 2 (by decide) (by decide) (by decide) (by decide) (by decide),nd 1 3 (by decide) (by decide) (by decide) (by decide) (by decide)⟩,nd 2 3 (by decide) (by decide) (by decide) (by decide) (by decide)⟩
  rw[xS (fun z=>c4 (V.int.inj z))];refine aE ⟨_,rfl,lr,rfl,⟨_,aT.of h1⟩,fun l hl=>?_⟩
  refine bZ (K:=K) (a:=lr) (xs:=rs.map V.int) (fun i σ H2=>∃ (v:Option V),σ=[v,some (.int c)]/\ay H1 H2/\H2 l=some (.lst (((rs.take i).map fun r=>j6 r c).map V.int)))
   ⟨none,rfl,af hl,aa⟩ (fun i σ H2 _ ⟨_,_,s2,_⟩=>aT.of (s2 _ _ h1)) ?_ ?_
  ·rintro i y σ H2 hi ⟨v,rfl,s2,hl2⟩
   obtain⟨r,hr3,rfl⟩:=bB hi;have br:=rb r (yj hr3);refine cO ⟨_,rfl,_,rfl,r,c,rfl,⟨br.1,by omega⟩,_,hl2,by rw[xP,xP,yu];exact cx (by omega),?_⟩;refine⟨_,rfl,bF s2 hl,?_⟩;rw[aa,yH,hr3,yz,x8,x8];rfl
  rintro σ H2 ⟨v,rfl,s2,hl2⟩;rw[xP,yy]at hl2;refine⟨l,_,rfl,.inl ⟨aT.of hl2,fun q hq=>?_⟩⟩;have s3:=af (o:=.tup ((rs.map fun r=>j6 r c).map V.int)) hq;have hq3:aH H2 q (.tup ((rs.map fun r=>j6 r c).map V.int)) q=some (.tup ((rs.map fun r=>j6 r c).map V.int)):=aa;have s13:=s1.trans (s2.trans s3);generalize aH H2 q (.tup ((rs.map fun r=>j6 r c).map V.int))=H3 at s13 hq3 ⊢;refine⟨three,fun lw hlw=>?_⟩;have s4:=af (o:=.lst [.str "line",.str "star",.str "all"]) hlw;have a5:=em d 5 (by decide)
  have fin:∀ (f:aJ),f.isP=false->f.gs=rs.map (fun r=>j6 r c)->(∀ a b c d,f≠.quad a b c d)->∀ p,aH H3 lw (.lst [.str "line",.str "star",.str "all"]) p=none->Q (.ref p) (aH (aH H3 lw (.lst [.str "line",.str "star",.str "all"])) p (.tup [.str f.word,.ref q])):=fun f fp fg fq p hp=>by
   have s5:=af (o:=.tup [.str f.word,.ref q]) hp;refine k p f _ (s13.free (s4.free hp)) (s13.trans (s4.trans s5)) (fV.of fp aa (s5 _ _ (s4 _ _ (by rw[fg];exact hq3)))) ⟨?_,?_,fun a b c d z=>absurd z (fq a b c d)⟩
   ·rw[fg,xP];exact r0
   ·rw[fg,xP];exact r1
  obtain⟨z,ez⟩:∃ z,z=d%5:=⟨_,rfl⟩;rw[<-ez]at a5 c0 c4
  have c3:z=1\/z=2\/z=3:=by omega
  refine⟨_,rfl,_,_,rfl,rfl,?_⟩;rw[<-ez];rcases c3 with rfl | rfl | rfl
  ·exact⟨lw,_,_,_,rfl,rfl,aT.of aa,av (j:=0) rfl,_,rfl,two,fun p hp=>fin (.line (rs.map fun r=>j6 r c)) rfl rfl (fun _ _ _ _ z=>by cases z) p hp⟩
  ·exact⟨lw,_,_,_,rfl,rfl,aT.of aa,av (j:=1) rfl,_,rfl,two,fun p hp=>fin (.star (rs.map fun r=>j6 r c)) rfl rfl (fun _ _ _ _ z=>by cases z) p hp⟩
  ·exact⟨lw,_,_,_,rfl,rfl,aT.of aa,av (j:=2) rfl,_,rfl,two,fun p hp=>fin (.all (rs.map fun r=>j6 r c)) rfl rfl (fun _ _ _ _ z=>by cases z) p hp⟩
theorem k7 (F:dS K "_law_small" "_law_small" eE f fd) : a9 P w K mg base dD 1 f fd ["_law_figure_here"] gX:=by
 refine F.ok lh (fun vs H Q E h=>?_) (fun cdv A outer s H vs Q E hr h=>?_)
 ·obtain⟨p,n,f,rfl,_⟩:=h
  rfl
 ·obtain⟨p,n,f,rfl,hf,pn,k⟩:=h
  have two:(2:Nat)<=sizeLine:=by decide
  cases n with
  | zero=>exact hf.elim
  | succ n =>
  refine⟨_,ag (aq ((vv (fF fE (aA aB (pv 0) (ac) (fun _ _=>rfl)) (bg (dX (ap) (ap))) rfl) (nz (fF oz (aN bn (by rfl) T.len yQ (b9 (aA aB (pv 0) (ac) (fun _ _=>rfl)))) (ac) (az _)))))),?_⟩;obtain⟨xs,hp⟩:=hf.hd;refine⟨_,rfl,p,_,0,_,rfl,rfl,aI.of hp,av (j:=0) rfl,two,fun t ht=>⟨t,_,rfl,.inr (.inl (Rd.of aa)),rfl,rfl,_,rfl,?_⟩⟩;have s1:=af (o:=.tup [.str "pair",.str "name"]) ht;rcases pn with ⟨g,rfl⟩ | ⟨w,rfl⟩
  ·cases g with
   | pair a b=>exact aV (k _ _ s1)
   | quad a b c d =>
    obtain⟨q,e1,e2⟩:=hf.1;exact e9 (fun _=>k _ _ s1) (fun _=>⟨_,rfl,p,_,1,_,rfl,rfl,aI.of (s1 _ _ e1),rfl,q,_,rfl,.inr (aI.of (s1 _ _ e2)),_,_,rfl,rfl,k _ _ s1⟩)
   | line g =>
    obtain⟨q,e1,e2⟩:=hf.1;exact e9 (fun _=>k _ _ s1) (fun _=>⟨_,rfl,p,_,1,_,rfl,rfl,aI.of (s1 _ _ e1),rfl,q,_,rfl,.inr (aI.of (s1 _ _ e2)),_,_,rfl,rfl,k _ _ s1⟩)
   | star g =>
    obtain⟨q,e1,e2⟩:=hf.1;exact e9 (fun _=>k _ _ s1) (fun _=>⟨_,rfl,p,_,1,_,rfl,rfl,aI.of (s1 _ _ e1),rfl,q,_,rfl,.inr (aI.of (s1 _ _ e2)),_,_,rfl,rfl,k _ _ s1⟩)
   | all g =>
    obtain⟨q,e1,e2⟩:=hf.1;exact e9 (fun _=>k _ _ s1) (fun _=>⟨_,rfl,p,_,1,_,rfl,rfl,aI.of (s1 _ _ e1),rfl,q,_,rfl,.inr (aI.of (s1 _ _ e2)),_,_,rfl,rfl,k _ _ s1⟩)
  ·exact aV (k _ _ s1)
theorem jO (F:dS K "_law_wrapped" "_law_wrapped" bz f fd)(eV:ax P w K mg base "_law_small" 1 ["_law_figure_here"] gX) : a9 P w K mg base dD 4 f fd ["_law_shelf","_law_drawn","_law_names"] lB:=by
 refine F.ok aR (fun vs H Q E h=>?_) (fun cdv A outer s H vs Q E hr h=>?_)
 ·obtain⟨s,nm,d,ws,xs,rfl,_⟩:=h
  rfl
 ·obtain⟨s,nm,d,ws,xs,rfl,d0,sh,hn,wl,wn,ok,xl,k⟩:=h
  have two:(2:Nat)<=sizeLine:=by decide
  have sl:sizeLine=16777216:=yG
  refine⟨_,ae (aK 3 aR.nd (aj aS (pv 1) (ac))) (
   ae (aG (PW.pt (nE (ar be (pv 3) (ac) (az _)) (oG (mi (pv 2) (fun _=>rfl))))) (ae (bD (gL yn yC yD cv (pv 0) (b9 (bg (dX (bg (dX (ap) (aA dc (pv 2) (aj aS (aj bc (pv 1) (ac)) (aN bn (by rfl) T.len yQ (b9 (pv 2)))) (fun _ _=>rfl)))) (ac)))))) (
   ag (oE))) (ao)) (
   ae (aK 4 aR.nd (aj bL (ac) (aj aS (aj bc (pv 1) (ac)) (ac)))) (
   ae (aG (ar be (pv 3) (ac) (az _)) (ag (aK 4 aR.nd (ac))) (ao)) (
   ae (aK 5 aR.nd (gN sr (pv 0) (jg (aj jQ (aN bn (by rfl) T.len yQ (b9 (pv 0))) (aN (kt rfl) (by rfl) T.bmin PyProof.Rows.boot_min (dX (pv 4) (aN bn (by rfl) T.len yQ (b9 (pv 0))))))) jf)) (
   ae (aK 6 aR.nd (aj bL (ac) (se rfl (by rfl) T.bmax (b9 (ca (so:=ah bz) (N:=cM) (N':=["_law_part"]) (src:=[none]) rfl rfl pe rfl (cc (pv 5)) (fun cl C s2 H2 ex=>⟨jd 0 (show (["_law_part"]:List Str).Nodup by decide +kernel),bI,aA (fC K) (pv 0) (ac) (fun _ _=>rfl)⟩)))))) (
   ae (aG (ar sO (pv 6) (ac) (az _)) (ag (oE)) (ao)) (
   ae (dv yU rfl (cc (pv 5)) (jd 7 aR.nd) (ag (bD (uv yn PySem.F.slot_list_pop PySem.F.type_list_pop uh (pv 0))))) (
   ag (aG (ar be (pv 3) (ac) (az _)) (ag (bD (gL yn yC yD cv (pv 0) (b9 (bg (dX (bg (dX (ap) (aA aB (aA dc (pv 5) (ac) (fun _ _=>rfl)) (ac) (fun _ _=>rfl)))) (pv 6))))))) (ae (aK 8 aR.nd (ac)) (
   ae (aG (PW.pt (nE (ar be (pv 6) (ac) (az _)) (nE (ar be (aj aS (aj bc (pv 1) (ac)) (ac)) (ac) (az _)) (oG (jT (aN (fz rfl) (by rfl) T.all PyProof.Rows.boot_all (b9 (ca (so:=ah bz) (N:=cM) (N':=["_law_part"]) (src:=[none]) rfl rfl pe rfl (cc (pv 5)) (fun cl C s2 H2 ex=>⟨jd 0 (show (["_law_part"]:List Str).Nodup by decide +kernel),bI,ba eV hr.m rfl (b9 (aA (fC K) (pv 0) (ac) (fun _ _=>rfl)))⟩))))))))) (ag (aK 8 aR.nd (aj bL (ac) (aj aS (aj bc (pv 1) (ac)) (ac))))) (ao)) (
   ag (bD (gL yn yC yD cv (pv 0) (b9 (bg (dX (bg (dX (ap) (bG cL (by rfl) T.tuple PyProof.Rows.boot_tuple (b9 (aj uq (ca (so:=ah bz) (N:=cM) (N':=["_law_part"]) (src:=[none]) rfl rfl pe rfl (cc (pv 5)) (fun cl C s2 H2 ex=>⟨jd 0 (show (["_law_part"]:List Str).Nodup by decide +kernel),bI,aA (fC K) (pv 0) (ac) (fun _ _=>rfl)⟩)) (pv 8)))))) (pv 6)))))))))))))))))),?_⟩
  obtain⟨ts,h1,pr⟩:=sh;obtain⟨us,rfl,rfl,hU⟩:=rS pr;rw[yL]at h1;have h1:H s=some (.lst (us.map fun u=>V.ref u.1)):=h1;rw[xP]at xl;refine⟨_,rfl,_,_,rfl,rfl,by show (0:Int)<4;decide,?_⟩;refine⟨_,rfl,rfl,_,rfl,?_⟩
  apply gm (fun σ HH=>H=HH/\σ=[some (.ref s),some (.int d),some (.ref nm),some (.int (d%4)),none,none,none,none,none])
  ·intro rest
   refine e9 (fun _=>?_) (fun _=>aE (rest _ _ ⟨rfl,rfl⟩));refine⟨_,rfl,!(ws.map V.str).isEmpty,.inl ⟨_,aT.of hn,rfl⟩,?_⟩;refine e9 (fun ne=>?_) (fun _=>rest _ _ ⟨rfl,rfl⟩)
   have wpos:0<ws.length:=by cases ws with | nil=>cases ne | cons _ _=>exact Nat.succ_pos _
   have i0:0<=d/4%(ws.length:Int):=yT _ (by omega);have i1:d/4%(ws.length:Int)<ws.length:=yK _ (by omega);obtain⟨j,hj⟩:=Int.eq_ofNat_of_zero_le i0
   have hjl:j<ws.length:=by omega
   have hwj:=List.getElem?_eq_getElem hjl;refine⟨_,rfl,.inl ⟨rfl,_,aT.of h1⟩,_,rfl,_,rfl,_,_,rfl,rfl,⟨by decide,by decide⟩,_,rfl,nm,_,rfl,.inl (aT.of hn),_,_,rfl,rfl,by show (0:Int)<_;rw[xP];omega,nm,_,j,.str ws[j],rfl,by rw[xP,hj],aT.of hn,av (j:=j) (by rw[List.getElem?_map,hwj];rfl),two,fun p hp=>⟨two,fun t ht=>?_⟩⟩;have s1:=af (o:=.tup [.str "name",.str ws[j]]) hp;have s2:=s1.trans (af (o:=.tup [.ref p,.int 1]) ht);refine⟨s,_,_,rfl,rfl,s2 _ _ h1,by rw[xP];omega,?_⟩
   have ts':t≠s:=fun z=>by rw[z,s1 _ _ h1]at ht;cases ht
   have kp:=(jB (s:=s) s2).trans (ja (o:=.lst ((us.map fun u=>V.ref u.1)++[.ref t])));have up:=kp.tup h1
   have hp2:aH (aH (aH H p (.tup [.str "name",.str ws[j]])) t (.tup [.ref p,.int 1])) s (.lst ((us.map fun u=>V.ref u.1)++[.ref t])) p=some (.tup [.str "name",.str ws[j]]):=by
    rw[ak (fun z=>by rw[z,h1]at hp;cases hp)];exact af ht _ _ aa
   refine k (us.map (·.2.2)++[(.name ws[j],1)]) _ (qY (jb hU) up (by rw[aa,yL];rfl) ⟨p,by rw[ak ts',aa];rfl,show aO 1 _ p (.name ws[j]) from ⟨hp2,wl _ (List.getElem_mem hjl)⟩⟩) (qu ok ⟨xT _,by show 1<=7;decide,fun _=>.inr ⟨_,rfl⟩⟩) (by rw[x3,yr];exact xT _) (by rw[hJ];exact xT _) kp
  rintro σ HH ⟨rfl,rfl⟩;have n0:∀ x:Int,0<=x%3/\x%3<3:=fun x=>⟨yT _ (by decide),yK _ (by decide)⟩;refine⟨_,rfl,_,_,rfl,rfl,⟨by decide,by decide⟩,_,_,rfl,rfl,by show (0:Int)<3;decide,_,_,rfl,rfl,?_⟩;refine⟨_,rfl,rfl,_,rfl,?_⟩
  apply gm (fun σ HH=>∃ mn:Int,H=HH/\σ=[some (.ref s),some (.int d),some (.ref nm),some (.int (d%4)),some (.int mn),none,none,none,none]/\1<=mn/\mn<=3)
  ·intro rest
   have:=n0 (d/4);refine e9 ?tt fun c=>rest _ _ ⟨1+d/4%3,rfl,rfl,by omega,by omega⟩;exact fun _=>rest [some (.ref s),some (.int d),some (.ref nm),some (.int (d%4)),some (.int 1),none,none,none,none] H ⟨1,rfl,rfl,by decide,by decide⟩
  rintro σ HH ⟨mn,rfl,rfl,mn1,mn3⟩;refine⟨_,rfl,_,rfl,s,_,rfl,.inl (aT.of h1),_,rfl,_,rfl,s,_,rfl,.inl (aT.of h1),_,_,rfl,_,_,rfl,rfl,_,rfl,s,_,rfl,aT.of h1,fun q hq=>?_⟩
  obtain⟨j,ej,jl,jl3⟩:∃ j:Nat,(((us.map fun u=>V.ref u.1).length:Int)-(if ((us.map fun u=>V.ref u.1).length:Int)<mn then ((us.map fun u=>V.ref u.1).length:Int) else mn))=(j:Int)/\j<=us.length/\us.length<=j+3:=by
   rw[xP];split
   ·exact⟨0,by omega,yg _,by omega⟩
   ·exact⟨us.length-mn.toNat,by omega,by omega,by omega⟩
  rw[ej,lJ,<-List.map_drop]
  have hqs:q≠s:=fun z=>by rw[z,h1]at hq;cases hq
  have s1:=af (o:=.lst ((us.drop j).map fun u=>V.ref u.1)) hq;have hq1:aH H q (.lst ((us.drop j).map fun u=>V.ref u.1)) q=some (.lst ((us.drop j).map fun u=>V.ref u.1)):=aa;generalize aH H q (.lst ((us.drop j).map fun u=>V.ref u.1))=H1 at s1 hq1 ⊢
  have dl:(us.drop j).length<=3:=by rw[yx];omega
  have du:∀ u∈us.drop j,u∈us:=fun u hu=>List.mem_of_mem_drop hu;refine⟨_,rfl,q,rfl,⟨_,aT.of hq1⟩,fun c hc=>?_⟩;refine ii (fun u:pT=>V.ref u.1) (rs:=us.drop j) (f:=fun u=>.int u.2.2.2) hc hq1 (by omega) (fun u HK Q' hu sK kk=>⟨_,rfl,u.1,_,1,_,rfl,rfl,aI.of (sK _ _ (s1 _ _ (hU u (du u hu)).1)),rfl,kk HK (ay.refl _)⟩) (fun H2 s2 hc2=>?_);have s12:=s1.trans s2;have back:∀ H',ay H H'->Q .non H':=fun H' s=>k _ H' ⟨us.map (·.1),by rw[yL];exact s _ _ h1,jb fun u hu=>(hU u hu).mono fun _ _ z=>s _ _ z⟩ ok (Nat.le_succ _) (Nat.le_add_right _ _) (jB s);refine⟨c,(us.drop j).map (fun u=>(u.2.2.2:Int)),rfl,aT.of (by rw[hc2,yL];rfl),fun _=>?_,fun M hM hle=>?_⟩
  ·exact⟨_,_,rfl,rfl,_,rfl,_,_,rfl,rfl,_,rfl,aV (back _ s12)⟩
  refine⟨_,_,rfl,rfl,_,rfl,_,_,rfl,rfl,_,rfl,e9 (fun _=>back _ s12) (fun c7=>?_)⟩;obtain⟨u0,hu0,rfl⟩:=yB.mp hM;generalize eM:u0.2.2.2=M at *
  have M7:M<=6:=by have:=of_decide_eq_false c7;omega
  have hle:∀ u∈us.drop j,u.2.2.2<=M:=fun u hu=>by have:=hle _ (List.mem_map_of_mem (f:=fun u:pT=>(u.2.2.2:Int)) hu);omega
  have okU:∀ u∈us,hX u.2.2:=fun u hu=>ok _ (List.mem_map_of_mem (f:=fun u:pT=>u.2.2) hu)
  have M1:1<=M:=by have:=(okU u0 (du _ hu0)).1;omega
  have hs2:=s12 _ _ h1;have hq2:=s2 _ _ hq1;refine⟨_,rfl,q,rfl,⟨_,aT.of hq2⟩,?_⟩
  refine bZ (K:=K) (a:=q) (xs:=(us.drop j).map fun u=>V.ref u.1) (fun i σ HK=>∃ v:Option V,σ=[some (.ref s),some (.int d),some (.ref nm),some (.int (d%4)),some (.int mn),some (.ref q),some (.int (1+M)),v,none]/\pW s H2 HK/\HK s=some (.lst ((us.take (us.length-i)).map fun u=>V.ref u.1)))
   ⟨none,rfl,jB (ay.refl _),by rw[Nat.sub_zero,yy];exact hs2⟩ (fun i σ HK _ ⟨_,_,kp,_⟩=>aT.of (kp _ _ hq2 hqs)) ?_ ?_
  ·rintro i y σ HK hi ⟨v,rfl,kp,hs⟩
   have hil:=(List.getElem?_eq_some_iff.mp hi).1;rw[xP,yx]at hil
   have hlt:us.length-i-1<us.length:=by omega
   refine⟨_,rfl,.inl ⟨rfl,_,aT.of hs⟩,s,_,V.ref us[us.length-i-1].1,rfl,rfl,hs,?_,_,rfl,kp.trans ja,?_⟩
   ·rw[xP,yu,Nat.min_eq_left (by omega),List.getElem?_map,List.getElem?_take_of_lt (by omega),List.getElem?_eq_getElem hlt];rfl
   ·rw[aa,<-List.map_dropLast,List.dropLast_eq_take,List.take_take,yu]
    congr 4
    omega
  rintro σ H3 ⟨v,rfl,kp,hs3⟩;rw[xP,yx,show us.length-(us.length-j)=j by omega]at hs3;have hq3:=kp _ _ hq2 hqs;have kp:pW s H H3:=(jB s12).trans kp;have up3:=kp.tup h1;have hU3:∀ u∈us,tG H3 u:=fun u hu=>(hU u hu).mono up3;have tU:∀ u∈us.take j,u∈us:=fun u hu=>List.mem_of_mem_take hu
  have wt:jZ (us.map (·.2.2))=jZ ((us.take j).map (·.2.2))+jZ ((us.drop j).map (·.2.2)):=by rw[<-hJ,<-x8,List.take_append_drop]
  have tlen:(us.take j).length<=us.length:=by rw[yu];omega
  clear hq2 hs2 hc2 back
  have fin:∀ (f:ai)(H4:Hp)(p t:Addr),ay H3 H4->H4 t=some (.tup [.ref p,.int (1+M)])->aO (M+1) H4 p f->sB (f,M+1)<=jZ ((us.drop j).map (·.2.2))->Q .non (aH H4 s (.lst (((us.take j).map fun u=>V.ref u.1)++[.ref t]))):=fun f H4 p t s4 ht hf hw=>by
   have hs4:=s4 _ _ hs3
   have ts':t≠s:=fun z=>by rw[z,hs4]at ht;cases ht
   have kp4:pW s H3 (aH H4 s (.lst (((us.take j).map fun u=>V.ref u.1)++[.ref t]))):=(jB s4).trans ja;have up4:=(ja (s:=s) (H:=H4) (o:=.lst (((us.take j).map fun u=>V.ref u.1)++[.ref t]))).tup hs4;refine k ((us.take j).map (·.2.2)++[(f,M+1)]) _ (qY (jb fun u hu=>hU3 u (tU u hu)) (kp4.tup hs3) (by rw[aa,yL];rfl) ⟨p,up4 _ _ (by rw[ht,show (1+(M:Int))=((M+1:Nat):Int) by omega]),hf.mono up4⟩) (qu (fun x hx=>?_) ⟨by show 1<=M+1;omega,by show M+1<=7;omega,fun z=>by have z:M+1=1:=z;omega⟩) (by rw[x3,yr,xP,xP];omega) (by rw[hJ,wt];show _+(sB (f,M+1)+0)<=_;omega) (kp.trans kp4);obtain⟨u,hu,rfl⟩:=yB.mp hx;exact okU u (tU u hu)
  refine⟨_,rfl,rfl,_,rfl,?_⟩;refine e9 (fun _=>?_) (fun _=>?_)
  ·cases ed:us.drop j with
   | nil=>rw[ed]at hu0;cases hu0
   | cons u ur =>
    have um:u∈us.drop j:=by rw[ed];exact xZ
    have hU:=hU3 u (du u um);rw[ed]at hq3;refine⟨_,rfl,.inl ⟨rfl,_,aT.of hs3⟩,_,rfl,q,_,0,_,rfl,rfl,aT.of hq3,av (j:=0) rfl,u.1,_,0,_,rfl,rfl,aI.of hU.1,av (j:=0) rfl,two,fun p hp=>⟨_,rfl,two,fun t ht=>?_⟩⟩;have s4:=(af (o:=.tup [.str "back",.ref u.2.1]) hp).trans (af (o:=.tup [.ref p,.int (1+M)]) ht);refine⟨s,_,_,rfl,rfl,s4 _ _ hs3,by rw[xP];omega,fin (.back u.2.2.1) _ p t s4 aa ⟨u.2.1,af ht _ _ aa,(hU.2.le (hle u um)).mono fun _ _ z=>s4 _ _ z⟩ ?_⟩;have:=(okU u (du u um)).few;rw[ed,yf,jZ];unfold sB at *;rw[xV (show ¬ (M+1=1) by omega)]
    show (ai.back _).names.length<=_
    rw[ai.names];omega
  ·have nt:∀ x:Int,0<=x%20/\x%20<20:=fun x=>⟨yT _ (by decide),yK _ (by decide)⟩
   refine⟨_,rfl,rfl,_,rfl,?_⟩
   apply gm (fun σ HH=>∃ n:Nat,ay H3 HH/\σ=[some (.ref s),some (.int d),some (.ref nm),some (.int (d%4)),some (.int mn),some (.ref q),some (.int (1+M)),v,some (.int n)]/\(n=1\/(n<=20/\∀ x∈(us.drop j).map (·.2.2),x.2=1)))
   ·intro rest
    refine e9 ?tw1 fun _=>aE (rest _ _ ⟨1,ay.refl _,rfl,.inl rfl⟩);intro c2
    have M1':M=1:=by have:=V.int.inj (yS c2);omega
    have one:∀ x∈(us.drop j).map (·.2.2),x.2=1:=fun x hx=>by
     obtain⟨u,hu,rfl⟩:=yB.mp hx;have:=hle u hu;have:=(okU u (du u hu)).1;omega
    refine⟨_,rfl,_,_,rfl,rfl,⟨by decide,by decide⟩,_,_,rfl,rfl,by show (0:Int)<5;decide,rfl,_,rfl,?_⟩;refine e9 ?tw2 fun _=>aE (rest _ _ ⟨1,ay.refl _,rfl,.inl rfl⟩);intro _;refine⟨_,rfl,q,rfl,⟨_,aT.of hq3⟩,fun c hc=>?_⟩;refine oY (fun u:pT=>V.ref u.1) (rs:=us.drop j) hc hq3 (by omega) (fun u HK Q' hu sK kk=>?_) (fun H4 bs s4 hc4=>?_)
    ·have hU:=(hU3 u (du u hu)).mono fun _ _ z=>sK _ _ z
     exact⟨_,rfl,u.1,_,0,_,rfl,rfl,aI.of hU.1,av (j:=0) rfl,u.2.1,_,_,rfl,hU.2,(okU u (du u hu)).2.2 (one _ (List.mem_map_of_mem (f:=fun u:pT=>u.2.2) hu)),fun H5 b s5=>kk H5 b s5⟩
    refine⟨c,bs,rfl,aT.of hc4,_,rfl,e9 ?tw3 fun _=>rest _ _ ⟨1,s4,rfl,.inl rfl⟩⟩;intro _;refine⟨_,rfl,_,_,rfl,rfl,⟨by decide,by decide⟩,_,_,rfl,rfl,by show (0:Int)<20;decide,_,_,rfl,rfl,?_⟩;have:=nt (d/60);obtain⟨n,en⟩:=Int.eq_ofNat_of_zero_le this.1;rw[en];exact rest [some (.ref s),some (.int d),some (.ref nm),some (.int (d%4)),some (.int mn),some (.ref q),some (.int (1+M)),v,some (.int (1+n))] H4 ⟨1+n,s4,by rw[Int.natCast_add];rfl,.inr ⟨by omega,one⟩⟩
   rintro σ H4 ⟨n,s4,rfl,hn⟩;have hq4:=s4 _ _ hq3;refine⟨_,rfl,.inl ⟨rfl,_,aT.of (s4 _ _ hs3)⟩,_,rfl,q,rfl,⟨_,aT.of hq4⟩,fun c hc=>?_⟩;refine ii (fun u:pT=>V.ref u.1) (rs:=us.drop j) (f:=fun u=>.ref u.2.1) hc hq4 (by omega) (fun u HK Q' hu sK kk=>⟨_,rfl,u.1,_,0,_,rfl,rfl,aI.of (sK _ _ (s4 _ _ (hU3 u (du u hu)).1)),av (j:=0) rfl,kk HK (ay.refl _)⟩) (fun H5 s5 hc5=>?_)
   have n20:n<=20:=by rcases hn with z | z<;>omega
   have fl:(us.drop j).length*n<=3*20:=Nat.mul_le_mul dl n20;refine⟨_,rfl,c,n,_,rfl,rfl,hc5,by omega,by omega,by rw[xP,zh];omega,fun l hl=>?_⟩;rw[zh,ij (fun u:pT=>V.ref u.2.1)];refine⟨l,_,rfl,.inl ⟨aT.of aa,fun t2 ht2=>⟨two,fun p hp=>⟨_,rfl,two,fun t ht=>?_⟩⟩⟩⟩;have s6:=(s4.trans s5).trans (((af hl).trans (af ht2)).trans ((af hp).trans (af (o:=.tup [.ref p,.int (1+M)]) ht)));refine⟨s,_,_,rfl,rfl,s6 _ _ hs3,by rw[xP];omega,fin (.row (List.replicate n ((us.drop j).map (·.2.2.1))).flatten) _ p t s6 aa ⟨t2,(List.replicate n ((us.drop j).map (·.2.1))).flatten,af ht _ _ aa,((af hp).trans (af ht)) _ _ (by rw[aa,ij,yL];rfl),by rw[qo,xP,Nat.mul_comm];omega,iR (ou (fun u hu=>(hU3 u (du u hu)).mono fun _ _ z=>s6 _ _ z) hle) n⟩ ?_⟩;have:=uO (k:=n) (d:=M+1) (fun x hx=>?_) (by omega) hn
   ·rw[yL]at this;exact this
   obtain⟨u,hu,rfl⟩:=yB.mp hx;exact okU u (du u hu)
theorem kc (F:dS K "_law_figure" "_law_figure" cN f fd)(eR:ax P w K mg base "_law_plain" 3 ["_law_drawn","_law_cell"] lA)(dJ:ax P w K mg base "_law_wrapped" 4 ["_law_shelf","_law_drawn","_law_names"] lB)(bd:ax P w K mg base "_law_guest" 2 ["_law_k","_law_cell"] gW) : a9 P w K mg base dD 5 f fd ["_law_draws_here","_law_cell","_law_names"] lx:=by
 refine F.ok dP (fun vs H Q E h=>?_) (fun cdv A outer s H vs Q E hr h=>?_)
 ·obtain⟨l,nm,c,ds,ws,rfl,_⟩:=h
  rfl
 ·obtain⟨l,nm,c,ds,ws,rfl,hl,d0,dl,hn,wl,wn,k⟩:=h
  have two:(2:Nat)<=sizeLine:=by decide
  have sl:sizeLine=16777216:=yG
  refine⟨_,ae (aK 3 dP.nd (bC a8)) (
   ae (dv yU rfl (cc (pv 0)) (jd 4 dP.nd) (ag (aG (ar be (aj aS (pv 4) (ac)) (ac) (az _)) (ag (bD (gL yn yC yD cv (pv 3) (b9 (bg (dX (ba eR hr.m rfl (dX (aj bc (pv 4) (ac)) (pv 1))) (ac))))))) (ag (bD (ba dJ hr.m rfl (sP (pv 3) (aj bc (pv 4) (ac)) (pv 2)))))))) (
   ae (aG (ir (mi (pv 3) (fun _=>rfl))) (ag (aq (bg (dX (ap) (bg (dX (ba bd hr.m rfl (dX (ac) (pv 1))) (ba bd hr.m rfl (dX (ac) (pv 1))))))))) (ao)) (
   ae (aG (ar be (aN bn (by rfl) T.len yQ (b9 (pv 3))) (ac) (az _)) (ag (aq (aA aB (aA dc (pv 3) (ac) (fun _ _=>rfl)) (ac) (fun _ _=>rfl)))) (ao)) (
   ag (aq (bg (dX (ap) (bG cL (by rfl) T.tuple PyProof.Rows.boot_tuple (b9 (ca (so:=ah cN) (N:=gI) (N':=["_law_part"]) (src:=[none]) rfl rfl pe rfl (cc (pv 3)) (fun cl C s2 H2 ex=>⟨jd 0 (show (["_law_part"]:List Str).Nodup by decide +kernel),bI,aA (fC K) (pv 0) (ac) (fun _ _=>rfl)⟩))))))))))),?_⟩
  refine⟨yg _,fun s hs=>⟨_,rfl,l,rfl,⟨_,aT.of (af hs _ _ hl)⟩,?_⟩⟩
  refine bZ (K:=K) (a:=l) (xs:=ds.map V.int) (fun i σ HK=>∃ (v:Option V)(xs:List (ai×Nat)),σ=[some (.ref l),some (.int c),some (.ref nm),some (.ref s),v]/\ay H HK/\rD HK s xs/\(∀ x∈xs,hX x)/\xs.length<=i/\jZ xs<=20*i)
   ⟨none,[],rfl,af hs,⟨[],aa,.nil⟩,(fun x hx=>nomatch hx),xT _,xT _⟩ (fun i σ HK _ ⟨_,_,_,s2,_⟩=>aT.of (s2 _ _ hl)) ?_ ?_
  ·rintro i y σ HK hi ⟨v,xs,rfl,s2,sh,ok,xl,xw⟩
   obtain⟨d,hd,rfl⟩:=bB hi;have hil:=(List.getElem?_eq_some_iff.mp hd).1;have dd:=d0 d (yj hd);obtain⟨ts,h1,pr⟩:=id sh;have tl:=x9 pr;refine⟨_,rfl,_,_,rfl,rfl,by show (0:Int)<2;decide,rfl,_,rfl,?_⟩;refine e9 (fun _=>?_) (fun _=>?_)
   ·refine⟨_,rfl,.inl ⟨rfl,_,aT.of h1⟩,_,rfl,_,_,rfl,rfl,⟨by decide,by decide⟩,_,rfl,_,c,rfl,by omega,fun p f H1 hp s3 fa fo=>⟨two,fun t ht=>?_⟩⟩
    have h2:=af (o:=.tup [.ref p,.int 1]) ht _ _ (s3 _ _ h1);refine⟨s,_,_,rfl,rfl,h2,by rw[xP];omega,?_⟩
    have up:∀ b ys,H1 b=some (.tup ys)->aH (aH H1 t (.tup [.ref p,.int 1])) s (.lst (ts.map V.ref++[.ref t])) b=some (.tup ys):=fun b ys e=>by
     rw[ak (fun z=>by rw[z,s3 _ _ h1]at e;cases e)];exact af ht _ _ e
    have ts':t≠s:=fun z=>by rw[z,s3 _ _ h1]at ht;cases ht
    refine⟨_,xs++[(.pl f,1)],rfl,bF ((s2.trans s3).trans (af ht)) hs,⟨ts++[t],by rw[aa,x8];rfl,bf (Paired.mapP pr fun _ _ z=>z.mono fun b ys e=>up b ys (s3 _ _ e)) (.cons ⟨p,by rw[ak ts',aa];rfl,aO.mono (n:=1) up (show aO 1 H1 p (.pl f) from ⟨fa,fo⟩)⟩ .nil)⟩,fun x hx=>?_,by rw[x3,yr];omega,by rw[hJ];show jZ xs+(20+0)<=_;omega⟩;rcases ym.mp hx with z | z
    ·exact ok x z
    ·rw[x6.mp z];exact⟨xT _,by show 1<=7;decide,fun _=>.inl ⟨f,rfl⟩⟩
   ·refine⟨_,rfl,_,rfl,_,_,rfl,rfl,⟨by decide,by decide⟩,_,rfl,s,nm,_,ws,xs,rfl,by omega,sh,s2 _ _ hn,wl,wn,ok,by omega,fun ys H' sh' ok' yl yw kp=>?_⟩
    exact⟨_,ys,rfl,fun a o e=>kp a o (s2 _ _ e) (aL e hs),sh',ok',by omega,by omega⟩
  rintro σ HK ⟨v,xs,rfl,s2,sh,ok,xl,xw⟩;obtain⟨ts,h1,pr⟩:=sh;have tl:=x9 pr;rw[xP]at xl xw;have nw:=iA xs ok
  cases pr with
  | nil =>
   refine⟨_,rfl,false,.inl ⟨_,aT.of h1,rfl⟩,?_⟩;refine aV ⟨_,rfl,0,c,rfl,⟨by decide,by decide⟩,_,rfl,1,c,rfl,⟨by decide,by decide⟩,two,fun q hq=>⟨two,fun p hp=>?_⟩⟩;refine k p (.pl (.line [j6 0 c,j6 1 c])) _ (s2.trans ((af hq).trans (af hp))) (aO.le (n:=1) ⟨⟨q,aa,af hp _ _ aa⟩,⟨by show (2:Nat)<=2;decide,by show (2:Nat)<=60;decide,fun _ _ _ _ z=>by cases z⟩⟩ (by decide)) (by rw[ai.names];exact yg _)
  | cons a pr2 =>
   rename_i t x ts2 xs2
   refine⟨_,rfl,true,.inl ⟨_,aT.of h1,rfl⟩,?_⟩;refine aE ⟨_,rfl,s,_,rfl,.inl (aT.of h1),rfl,_,rfl,?_⟩;refine e9 (fun _=>?_) (fun _=>?_)
   ·obtain⟨p,e1,e2⟩:=a
    have o:=ok x xZ;have:=o.2.1;have f1:=o.few;rw[jZ]at xw;exact⟨_,rfl,s,_,0,_,rfl,rfl,aT.of h1,av (j:=0) rfl,t,_,0,_,rfl,rfl,aI.of e1,av (j:=0) rfl,k p x.1 HK s2 (e2.le (by omega)) (by omega)⟩
   ·obtain⟨ps,p1,p2⟩:=qk (.cons a pr2) ok
    have pl:=x9 p1;have pl2:=x9 p2;refine⟨_,rfl,s,rfl,⟨_,aT.of h1⟩,fun q hq=>?_⟩
    refine bZ (K:=K) (a:=s) (xs:=(t::ts2).map V.ref) (fun i σ H2=>∃ v:Option V,σ=[v]/\ay HK H2/\H2 q=some (.lst ((ps.take i).map V.ref)))
     ⟨none,rfl,af hq,aa⟩ (fun i σ H2 _ ⟨_,_,s3,_⟩=>aT.of (s3 _ _ h1)) ?_ ?_
    ·rintro i y σ H2 hi ⟨v,rfl,s3,hq2⟩
     obtain⟨u,hu,rfl⟩:=bB hi;obtain⟨p,hp,n,e⟩:=cg p1 hu;refine cO ⟨_,rfl,u,_,0,_,rfl,rfl,aI.of (s3 _ _ e),av (j:=0) rfl,_,hq2,by rw[xP,yu];omega,_,rfl,bF s3 hq,?_⟩;rw[aa,yH,hp,yz,x8];rfl
    rintro σ H2 ⟨v,rfl,s3,hq2⟩;rw[xP,pl,yy]at hq2;refine⟨q,_,rfl,.inl ⟨aT.of hq2,fun t2 ht2=>⟨two,fun p hp=>?_⟩⟩⟩;have s4:=s3.trans ((af (o:=.tup (ps.map V.ref)) ht2).trans (af (o:=.tup [.str "row",.ref t2]) hp));refine k p (.row ((x::xs2).map (·.1))) _ (s2.trans s4) (aO.le (n:=8) ⟨t2,ps,aa,af hp _ _ aa,?_,Paired.mapP p2 fun _ _ z=>z.mono fun _ _ e=>s4 _ _ e⟩ (by decide)) (by rw[ai.names];omega);rw[xP];omega
theorem jM (F:dS K "_law_defined" "_law_defined" dy f fd)(M_FigureBook_define:aP P w K mg base (hW P w) ck "define" 14 ["self","word","figure"] (gU ck cq cB cT)) : a9 P w K mg base dD 15 f fd ["_law_book","_law_word_here","_law_figure_here"] (lp ck):=by
 refine F.ok bN (fun vs H Q E h=>?_) (fun cdv A outer s H vs Q E hr h=>?_)
 ·obtain⟨b,p,A,bs,w,f,rfl,_⟩:=h
  rfl
 ·obtain⟨b,p,A,bs,w,f,rfl,B,hf,asc,wl,bl,k1,k2⟩:=h
  refine⟨_,ae (aK 3 bN.nd (ap)) (
   ae (oF rfl rfl (fun pins E=>ag (bD (qO M_FigureBook_define (pv 0) UO.f.cl hr.m qA (dX (pv 1) (pv 2))))) (je rfl UO.mB (fun ea oe=>ag (aK 3 bN.nd (ap))) (je rfl UO.mT (fun ea oe=>ag (aK 3 bN.nd (ap))) (je rfl UO.mU (fun ea oe=>ag (aK 3 bN.nd (ap))) qI)))) (
   ag (aq (pv 3)))),?_⟩
  have nT:∀ {x y z:V},(kN x y z).lookup ("define" : Str)=none:=eY (by decide +kernel);refine⟨_,rfl,b,A.dx,_,rfl,B.ob,nT,_,rfl,_,rfl,b,p,A,bs,w,f,rfl,B,hf,asc,wl,bl,fun hd x H1 e1 e2 e3 e4 e5 B1 kp=>?_,fun hd H1 s1=>?_,fun hd H1 s1=>?_,fun hd H1 s1=>?_⟩
  ·exact⟨_,rfl,k1 hd x H1 e1 e2 e3 e4 e5 B1 kp⟩
  ·have:=k2 (by rw[hd];simp) H1 s1
   rw[hd]at this;exact⟨_,UO.bb,aV ⟨_,rfl,this⟩⟩
  ·have:=k2 (by rw[hd];simp) H1 s1
   rw[hd]at this;exact⟨_,UO.tb,aE ⟨_,UO.tt,aV ⟨_,rfl,this⟩⟩⟩
  ·have:=k2 (by rw[hd];simp) H1 s1
   rw[hd]at this;exact⟨_,UO.ub,aE ⟨_,UO.ut,aE ⟨_,UO.uu,aV ⟨_,rfl,this⟩⟩⟩⟩
theorem iZ (F:dS K "_law_odd_word" "_law_odd_word" c8 f fd)(f7:ax P w K mg base "_law_word" 3 ["_law_cell"] nK) : a9 P w K mg base dD 4 f fd ["_law_cell"] nK:=by
 refine F.ok cZ (fun vs H Q E h=>?_) (fun cdv A outer s H vs Q E hr h=>?_)
 ·obtain⟨c,rfl,_⟩:=h
  rfl
 ·obtain⟨c,rfl,k⟩:=h
  have sl:sizeLine=16777216:=yG;have em:∀ z m:Int,0<m->0<=z%m/\z%m<m:=fun z m h=>⟨yT _ (by omega),yK _ h⟩
  refine⟨_,ae (aK 1 cZ.nd (ba f7 hr.m rfl (b9 (aj bc (pv 0) (ac))))) (
   ae (aG (ar be (aj aS (pv 0) (ac)) (ac) (az _)) (by with_reducible exact wZ.h (by with_unfolding_all exact qS 2 cZ.nd (bW (bW (bW (bW (bW (bW (bW (bW (bW (bW (bW (bW (qR))))))))))))) (bW (bW (bW (bW (qR))))) (aj aS (aj bc (pv 0) (ac)) (ac)) (fun _ _=>rfl) (pv 2))) (ao)) (
   ae (aG (ar be (aj aS (pv 0) (ac)) (ac) (az _)) (ag (aq (ap))) (ao)) (
   ag (aq (pv 1))))),?_⟩
  refine⟨_,rfl,_,_,rfl,rfl,⟨by decide,by decide⟩,c/8,rfl,fun w H1 aw lw s1=>?_⟩;refine⟨_,rfl,_,_,rfl,rfl,by show (0:Int)<8;decide,rfl,_,rfl,?_⟩;refine e9 (fun _=>?_) (fun _=>?_)
  ·refine⟨by rw[sl];decide,fun l1 h1=>?_⟩
   have t1:=s1.trans (af (o:=.lst ((l7.take 12).map V.str)) h1);refine⟨_,rfl,by rw[sl];decide,fun l2 h2=>?_⟩;have t2:=t1.trans (af (o:=.lst ((l7.drop 12).map V.str)) h2);refine⟨l1,l2,_,_,rfl,rfl,af h2 _ _ aa,aa,by rw[sl];decide,fun l3 h3=>?_⟩;have t3:=t2.trans (af (o:=.lst (l7.map V.str)) h3);have b:=em (c/8) 16 (by decide);obtain⟨u,au,lu,e⟩:=ui b.1 b.2;exact⟨_,rfl,_,_,rfl,rfl,⟨by decide,by decide⟩,_,_,rfl,rfl,by show (0:Int)<16;decide,l3,_,_,_,rfl,rfl,aT.of aa,e,k u _ au lu t3⟩
  refine⟨_,rfl,_,_,rfl,rfl,by show (0:Int)<8;decide,rfl,_,rfl,?_⟩;refine e9 (fun _=>?_) (fun _=>?_)
  ·exact k _ _ (by unfold mE;decide +kernel) (by decide +kernel) s1
  ·exact⟨_,rfl,k w _ aw lw s1⟩
theorem jN (F:dS K "_law_told_of" "_law_told_of" dz f fd)(M_FigureBook_told:aP P w K mg base (hW P w) ck "told" 2 ["self","word"] (gT ck cq)) : a9 P w K mg base dD 3 f fd ["_law_book","_law_word_here"] (jn ck):=by
 refine F.ok cA (fun vs H Q E h=>?_) (fun cdv A outer s H vs Q E hr h=>?_)
 ·obtain⟨b,A,bs,w,rfl,_⟩:=h
  rfl
 ·obtain⟨b,A,bs,w,rfl,B,wl,k1,k2⟩:=h
  refine⟨_,ae (aK 2 cA.nd (uy)) (
   ae (oF rfl rfl (fun pins E=>ag (aK 2 cA.nd (qO M_FigureBook_told (pv 0) UO.f.cl hr.m qA (b9 (pv 1))))) (je rfl UO.mU (fun ea oe=>ag (aK 2 cA.nd (ap))) qI)) (
   ag (aq (pv 2)))),?_⟩
  have nT:∀ {x y z:V},(kN x y z).lookup ("told" : Str)=none:=eY (by decide +kernel);refine⟨_,rfl,b,A.dx,_,rfl,B.ob,nT,_,rfl,b,A,bs,w,rfl,B,by omega,fun e he=>?_,fun he H1 s1=>?_⟩
  ·exact⟨_,rfl,k1 e he H (ay.refl _)⟩
  ·exact⟨_,UO.uu,aV ⟨_,rfl,k2 he H1 s1⟩⟩
theorem io (F:dS K "_law_word_good" "_law_word_good" bR f fd) : a9 P w K mg base dD 1 f fd ["_law_word_here"] jj:=by
 refine F.ok dU (fun vs H Q E h=>?_) (fun cdv A outer s H vs Q E hr h=>?_)
 ·obtain⟨z,rfl,_⟩:=h
  rfl
 ·obtain⟨z,rfl,asc,len,k⟩:=h
  have sl:sizeLine=16777216:=yG
  have zl:z.length<=sizeLine:=by omega
  have hz:z.length=z.cps.toList.length:=by rw[yX];rfl
  refine⟨_,ae (aK 1 dU.nd (ap)) (
   ae (aG (ar fE (pv 0) (bC (bH (bH (bH (bH (bH (bH (bH (bH (a8)))))))))) rfl) (ag (aq (me))) (ao)) (
   ag (aq ((qB (qC md md (ac) (aN gy (by rfl) T.len yQ (b9 (pv 0))) (ac)) (nz (aN (fz rfl) (by rfl) T.all PyProof.Rows.boot_all (b9 (ca (so:=ah bR) (N:=eK) (N':=["_law_sign","_law_letters"]) (src:=[none,some 1]) rfl rfl pe rfl (qK (pv 0)) (fun cl C s2 H2 ex=>⟨jd 0 (show (["_law_sign","_law_letters"]:List Str).Nodup by decide +kernel),bI,fF kF (pv 0) (pv 1) rfl⟩)))))))))),?_⟩
  refine⟨_,rfl,by rw[sl];decide,fun l1 h1=>⟨l1,kindsL.map V.str,rfl,.inl (aT.of aa),rfl,ky _,_,rfl,?_⟩⟩;have t1:=af (o:=.lst (kindsL.map V.str)) h1;unfold m4 at k;rw[show (if false=true then !sJ (V.str z) (kindsL.map V.str) else sJ (V.str z) (kindsL.map V.str))=decide (z∈kindsL) from kR z kindsL]
  by_cases c1:z∈kindsL
  ·rw[xX c1]at k ⊢
   exact aV (k _ t1)
  rw[xS c1]at k ⊢;refine aE ⟨_,rfl,z,rfl,zl,_,_,rfl,rfl,_,rfl,?_⟩
  by_cases h1:1<=z.length
  ·rw[xX (show (1:Int)<=(z.length:Int) by omega)]
   refine aV ⟨_,_,rfl,rfl,_,rfl,?_⟩
   by_cases h2:z.length<=12
   ·rw[xX (show (z.length:Int)<=12 by omega)]
    rw[xX (show 1<=z.length/\z.length<=12 from ⟨h1,h2⟩)]at k;refine aV ⟨_,rfl,z,rfl,asc,fun q hq=>?_⟩;refine kH (f:=gE) hq (by omega) (fun c HK Q' sK kk=>?_) (fun H1 s1 hq1=>?_)
    ·refine⟨_,rfl,_,rfl,_,_,rfl,rfl,?_⟩
     rw[qq];exact kk HK (ay.refl _)
    refine⟨q,_,rfl,aT.of hq1,?_⟩;rw[show (z.cps.toList.map gE).all id=z.cps.toList.all gE by rw[List.all_map];rfl];exact k H1 (t1.trans s1)
   ·rw[xS (show ¬ (z.length:Int)<=12 by omega)]
    rw[xS (show ¬ (1<=z.length/\z.length<=12) from fun q=>h2 q.2)]at k;exact aE (k _ t1)
  ·rw[xS (show ¬ (1:Int)<=(z.length:Int) by omega)]
   rw[xS (show ¬ (1<=z.length/\z.length<=12) from fun q=>h1 q.1)]at k;exact aE ⟨_,rfl,aE (k _ t1)⟩
theorem iY (F:dS K "_law_names_of" "_law_names_of" c6 f fd){n:Nat}(hn:n<=9)(bv:ax P w K mg base "_law_names_of" (n+1) ["_law_figure_here"] (fJ n)):a9 P w K mg base dD (n+1+1) f fd ["_law_figure_here"] (fJ (n+1)):=by
 refine F.ok ce (fun vs H Q E h=>?_) (fun cdv A outer s H vs Q E hr h=>?_)
 ·obtain⟨p,f,rfl,_⟩:=h
  rfl
 ·obtain⟨p,f,rfl,hf,nl,k⟩:=h
  have sl:sizeLine=16777216:=yG
  refine⟨_,ae (aG (ar be (aA aB (pv 0) (ac) (fun _ _=>rfl)) (ap) (az _)) (ag (aq (bC (b9 (aA aB (pv 0) (ac) (fun _ _=>rfl)))))) (ao)) (
   ae (aG (ar be (aA aB (pv 0) (ac) (fun _ _=>rfl)) (ap) (az _)) (ag (aq (ba bv (hr.mono (by omega)) rfl (b9 (aA aB (pv 0) (ac) (fun _ _=>rfl)))))) (ao)) (
   ae (aK 1 ce.nd (bC a8)) (
   ae (aG (ar be (aA aB (pv 0) (ac) (fun _ _=>rfl)) (ap) (az _)) (ag (dv yU rfl (jS (aA aB (pv 0) (ac) (fun _ _=>rfl))) (jd 2 ce.nd) (ag (aK 1 ce.nd (aj k9 (pv 1) (ba bv (hr.mono (by omega)) rfl (b9 (pv 2)))))))) (ao)) (
   ag (aq (pv 1)))))),?_⟩
  obtain⟨xs,hp⟩:=hf.hd;refine⟨_,rfl,p,_,0,_,rfl,rfl,aI.of hp,av (j:=0) rfl,rfl,_,rfl,?_⟩
  cases f with
  | name w =>
   rw[oO];obtain⟨e1,wl⟩:=hf;exact aV ⟨_,rfl,p,_,1,_,rfl,rfl,aI.of e1,rfl,by show (1:Nat)<=sizeLine;decide,fun l hl=>k l _ hl (af hl) aa⟩
  | pl f =>
   rw[oQ];refine aE ⟨_,rfl,p,_,0,_,rfl,rfl,aI.of hp,av (j:=0) rfl,rfl,_,rfl,?_⟩;rw[oP];refine aE ⟨yg _,fun l hl=>?_⟩;have s1:=af (o:=.lst []) hl;refine⟨_,rfl,p,_,0,_,rfl,rfl,aI.of (s1 _ _ hp),av (j:=0) rfl,rfl,_,rfl,?_⟩;rw[oR];exact aE ⟨_,rfl,k l _ hl s1 aa⟩
  | back f =>
   rw[oN];refine aE ⟨_,rfl,p,_,0,_,rfl,rfl,aI.of hp,av (j:=0) rfl,rfl,_,rfl,?_⟩;rw[oM];obtain⟨q,e1,e2⟩:=hf;rw[ai.names]at nl k;exact aV ⟨_,rfl,p,_,1,_,rfl,rfl,aI.of e1,rfl,q,f,rfl,e2,nl,k⟩
  | row fs =>
   rw[oU];refine aE ⟨_,rfl,p,_,0,_,rfl,rfl,aI.of hp,av (j:=0) rfl,rfl,_,rfl,?_⟩;rw[oS];refine aE ⟨yg _,fun l0 hl0=>?_⟩;have s1:=af (o:=.lst []) hl0;refine⟨_,rfl,p,_,0,_,rfl,rfl,aI.of (s1 _ _ hp),av (j:=0) rfl,rfl,_,rfl,?_⟩;rw[rj];obtain⟨t,as,e1,e2,fl,pr⟩:=hf;have al:=x9 pr;rw[ai.names]at nl k;refine aV ⟨_,rfl,p,_,1,_,rfl,rfl,aI.of (s1 _ _ e1),rfl,t,rfl,⟨_,aI.of (s1 _ _ e2)⟩,?_⟩
   refine gB (K:=K) (a:=t) (xs:=as.map V.ref) (fun i σ HK=>∃ (v:Option V)(l:Addr),σ=[some (.ref p),some (.ref l),v]/\ay H HK/\H l=none/\HK l=some (.lst ((ai.namesL (fs.take i)).map V.str)))
    ⟨none,l0,rfl,s1,hl0,aa⟩ (fun i σ HK _ ⟨_,_,_,s2,_⟩=>aI.of (s2 _ _ e2)) ?_ ?_
   ·rintro i y σ HK hi ⟨v,l,rfl,s2,hl,hl2⟩
    obtain⟨a,ha,rfl⟩:=bB hi;obtain⟨u,hu,hA⟩:=cg pr ha
    have nt:ai.namesL (fs.take (i+1))=ai.namesL (fs.take i)++u.names:=by rw[yH,hu,yz,eh,ai.namesL,ai.namesL,List.append_nil]
    have nt2:=lV (i+1) fs;have nt3:=y1 List.length nt;rw[x3]at nt3;refine⟨_,rfl,_,rfl,a,u,rfl,hA.mono (fun _ _ z=>s2 _ _ z),by omega,fun l3 H3 hl3 s3 h3=>?_⟩;refine⟨l,l3,_,_,rfl,rfl,s3 _ _ hl2,h3,by rw[xP,xP];omega,fun l4 h4=>?_⟩;refine⟨_,l4,rfl,(s2.trans s3).trans (af h4),(s2.trans s3).free h4,?_⟩;rw[aa,nt,x8]
   rintro σ HK ⟨v,l,rfl,s2,hl,hl2⟩;rw[xP,al,yy]at hl2;exact⟨_,rfl,k l HK hl s2 hl2⟩
theorem uj (F:dS K "law" "law" lC f fd)(cJ:ax P w K mg base "_law_cell_at" 1 ["_law_script","_law_k"] (ll K))(MF:tF P w K mg base ck)(bA:ax P w K mg base "_law_size" 1 ["_law_cell"] iz)(cu:ax P w K mg base "_law_draws" 2 ["_law_cell","_law_many","_law_base"] gV)(dh:ax P w K mg base "_law_odd_word" 4 ["_law_cell"] nK)(dY:ax P w K mg base "_law_figure" 5 ["_law_draws_here","_law_cell","_law_names"] lx)(cV:ax P w K mg base "_law_word_good" 1 ["_law_word_here"] jj)(bv:ax P w K mg base "_law_names_of" 10 ["_law_figure_here"] (fJ 9))(dI:ax P w K mg base "_law_defined" 15 ["_law_book","_law_word_here","_law_figure_here"] (lp ck))(cK:ax P w K mg base "_law_told_of" 3 ["_law_book","_law_word_here"] (jn ck))(M_FigureBook_names:aP P w K mg base dD ck "names" 1 ["self"] (fH ck)) : a9 P w K mg base dD 16 f fd ["_law_script"] (mq K):=by
 refine F.ok cG (fun vs H Q E h=>?_) (fun cdv A outer s H vs Q E hr h=>?_)
 ·obtain⟨a,ns,rfl,_⟩:=h
  rfl
 ·obtain⟨a,ns,rfl,hS,hlen,k⟩:=h
  have hu:=jy hr
  have two:(2:Nat)<=sizeLine:=by decide
  have sl:sizeLine=16777216:=yG
  refine⟨_,ae (aK 1 cG.nd (nu MF UO.f hr.m rfl)) (
   ae (aK 2 cG.nd gM) (
   ae (aK 3 cG.nd (ba cJ hr.m rfl (dX (pv 0) (ac)))) (
   ae (dv yU rfl (pI (by rfl) T.range (sP (ac) (aN (kt rfl) (by rfl) T.bmin PyProof.Rows.boot_min (dX (aN bn (by rfl) T.len yQ (b9 (pv 0))) (ac))) (ac))) (jd 4 cG.nd) (ae (aK 5 cG.nd (ba dh hr.m rfl (b9 (ba bA hr.m rfl (b9 (aA dc (pv 0) (pv 4) (fun _ _=>rfl))))))) (
   ae (aK 6 cG.nd (ba dY hr.m rfl (sP (ba cu hr.m rfl (sP (ba cJ hr.m rfl (dX (pv 0) (aj bL (pv 4) (ac)))) (ac) (ac))) (pv 3) (aj k9 (bG (dH rfl) (by rfl) T.list yY (b9 (pv 2))) (bC (dX (ap) (pv 5))))))) (
   ae (aK 7 cG.nd (ap)) (
   ae (aG (ir (jT (ba cV hr.m rfl (b9 (pv 5))))) (ag (aK 7 cG.nd (ap))) (ag (aG (nD (nv hu (pv 5) (pv 2))) (ag (aK 7 cG.nd (ap))) (ag (aG (ir (jT (aN (fz rfl) (by rfl) T.all PyProof.Rows.boot_all (b9 (ca (so:=ah lC) (N:=sL) (N':=["_law_name","_law_meant"]) (src:=[none,some 2]) rfl rfl pe rfl (cc (ba bv hr.m rfl (b9 (pv 6)))) (fun cl C s2 H2 ex=>⟨jd 0 (show (["_law_name","_law_meant"]:List Str).Nodup by decide +kernel),bI,uw (nv hu (pv 0) (pv 1))⟩)))))) (ag (aK 7 cG.nd (ap))) (ao)))))) (
   ae (aG (ar qx (ba dI hr.m rfl (sP (pv 1) (pv 5) (pv 6))) (pv 7) (az _)) (ag (aq (me))) (ao)) (
   ae (aG (ar be (pv 7) (ap) (az _)) (ag (jh hu (pv 2) (pv 5) (pv 6) rfl)) (ao)) (
   ae (aK 8 cG.nd (qN M_FigureBook_names (pv 1) UO.f.cl hr.m fY)) (
   ae (aG (PW.pt (sQ (ir (jT (aN p0 (by rfl) T.isinstance PyProof.Rows.boot_isinstance (aF (pv 8) (aF (sd (v:=.ty "list") (by rfl) T.list yY rfl) a8))))) (qQ (ar (qy 1 (ve hr (by decide))) (pv 8) (bG (dH rfl) (by rfl) T.list yY (b9 (pv 2))) (az _))))) (ag (aq (me))) (ao)) (
   ae (bD (gL yn yC yD cv (pv 8) (b9 (ap)))) (
   ag (dv yU rfl (cc (aj k9 (bG (dH rfl) (by rfl) T.list yY (b9 (pv 2))) (bC (dX (ap) (pv 5))))) (jd 9 cG.nd) (ag (aG (ar (uo 18 (ve hr (by decide))) (ba cK hr.m rfl (dX (pv 1) (pv 9))) (qE hu (pv 2) (pv 9) (ap) ⟨rfl,rfl,rfl,rfl⟩) (az _)) (ag (aq (me))) (ao))))))))))))))) (
   ag (aq ((qB (fF (uk 1 (ve hr (by decide))) (qN M_FigureBook_names (nu MF UO.f hr.m rfl) UO.f.cl hr.m fY) (bC a8) (az _)) (nz (fF be (ba cK hr.m rfl (dX (nu MF UO.f hr.m rfl) (ap))) (ap) (az _)))))))))),?_⟩
  intro b dx nx ndx nex;refine⟨b,dx,rfl,aa,fun A H1 kp B1 n1 n2 n3=>⟨rfl,?_⟩⟩
  have s0:ay H (aH (aH H dx (.own b)) b (.ins ck dx [])):=fun c o e=>by rw[ak (aL e nx),ak (aL e ndx)];exact e
  have s1:ay H H1:=fun c o e=>kp c o (s0 c o e) (aL e nx);intro dm hdm;have t1:=af (o:=.dK []) hdm
  have m1:dm≠A.d1:=fun z=>by rw[z,B1.f1]at hdm;cases hdm
  have m2:dm≠A.d2:=fun z=>by rw[z,B1.f2]at hdm;cases hdm
  have m3:dm≠A.d3:=fun z=>by rw[z,B1.f3]at hdm;cases hdm
  have d1n:H A.d1=none:=s0.free n1;have d2n:H A.d2=none:=s0.free n2;have d3n:H A.d3=none:=s0.free n3;have dmn:H dm=none:=s1.free hdm;refine⟨_,rfl,a,ns,1,rfl,(s1.trans t1).seq hS,by decide,?_⟩;refine⟨_,rfl,a,_,rfl,.inl ((s1.trans t1).seq hS),_,_,rfl,_,_,rfl,?_,?_⟩
  ·rw[xP];split<;>refine⟨by decide,by decide,by omega,by omega⟩
  generalize er:(Builtin.Range.rangeSize 2 _ 2).toNat=n;rw[xP]at er
  have nb:n<=14/\∀ i,i<n->2+2*i<ns.length:=by
   rw[dO]at er;split at er
   ·split at er<;>(constructor;omega;intro i hi;omega)
   ·constructor;omega;intro i hi;omega
  refine mV (fun i σ HK=>∃ (bs:List BE)(v4 v5 v6 v7 v8 v9:Option V),σ=[some (.ref a),some (.ref b),some (.ref dm),some (.int (d6 ns 1)),v4,v5,v6,v7,v8,v9]/\ay H HK/\eN ck HK b A bs/\HK dm=some (.dK (bs.map fun e=>(Sum.inr e.w,V.ref e.p)))/\bs.length<=i/\∀ e∈bs,e.w.length<=20)
   ⟨[],none,none,none,none,none,none,rfl,s1.trans t1,B1.mono t1,aa,xT _,fun e he=>nomatch he⟩ ?_ ?_
  ·rintro i σ H2 hi ⟨bs,v4,v5,v6,v7,v8,v9,rfl,s2,B2,hm2,bl,bw⟩
   have ki:=nb.2 i hi
   have bl14:bs.length<=13:=by omega
   have hk:(2:Int)+(i:Nat)*2=((2+2*i:Nat):Int):=by omega
   refine⟨_,rfl,_,rfl,a,_,_,.int ns[2+2*i],rfl,rfl,s2.seq hS,by rw[hk];exact av (j:=2+2*i) (by rw[List.getElem?_map,List.getElem?_eq_getElem ki];rfl),_,rfl,_,rfl,fun w H3 asc wl s3=>?_⟩;have s23:=s2.trans s3;have hm3:=s3 _ _ hm2;refine⟨_,rfl,_,rfl,_,_,rfl,rfl,a,ns,_,rfl,s23.seq hS,by omega,_,9,4392000,rfl,⟨by decide,by decide⟩,⟨by decide,by decide⟩,fun l1 ds hl1 dps dln=>?_⟩;have q1:=af (o:=.lst (ds.map V.int)) hl1;have hm4:=q1 _ _ hm3;refine⟨_,rfl,_,rfl,dm,_,bs.map (·.w),rfl,hm4,by rw[yL,yL];rfl,fun l2 hl2=>?_⟩;have q2:=af (o:=.lst ((bs.map (·.w)).map V.str)) hl2;refine⟨_,rfl,by show (2:Nat)<=sizeLine;decide,fun l3 hl3=>?_⟩;have q3:=af (o:=.lst [.str "lost",.str w]) hl3;refine⟨l2,l3,_,_,rfl,rfl,q3 _ _ aa,aa,by rw[xP,xP];show bs.length+2<=sizeLine;omega,fun l4 hl4=>?_⟩;have q4:=af (o:=.lst ((bs.map (·.w)).map V.str++[.str "lost",.str w])) hl4
   have ewl:(bs.map fun e=>e.w).map V.str++[.str "lost",.str w]=(bs.map (·.w)++[("lost" : Str),w]).map V.str:=by rw[x8];rfl
   have q234:=q2.trans (q3.trans q4);refine⟨l1,l4,_,ds,bs.map (·.w)++[("lost" : Str),w],rfl,q234 _ _ aa,fun d hd=>(dps d hd).1,by omega,by rw[aa,ewl],fun z hz=>?_,by rw[x3,xP];show bs.length+2<=100;omega,fun p f H5 s5 hf fn=>?_⟩
   ·rcases ym.mp hz with z | z
    ·obtain⟨e,he,rfl⟩:=yB.mp z
     have:=bw e he;omega
    ·rcases ya.mp z with rfl | z
     ·decide
     ·rw[x6.mp z];omega
   have s35:ay H3 H5:=q1.trans (q234.trans s5);have B5:=B2.mono (s3.trans s35);have hm5:=s35 _ _ hm3;have s5:=s23.trans s35
   have g5:cf H5 dm (.str w) ((f9 bs w).map fun e=>V.ref e.p):=by rw[<-bE];exact cf.k (k:=Sum.inr w) hm5
   apply gm (fun σ HH=>ay H5 HH/\σ=[some (.ref a),some (.ref b),some (.ref dm),some (.int (d6 ns 1)),some (.int (2+(i:Nat)*2)),some (.str w),some (.ref p),some (.str (rL (defO bs w f))),v8,v9])
   ·intro rest
    refine⟨_,rfl,w,rfl,asc,by omega,fun H6 s6=>⟨_,rfl,?_⟩⟩
    by_cases nm:m4 w=true
    ·rw[nm]
     have g6:cf H6 dm (.str w) ((f9 bs w).map fun e=>V.ref e.p):=by rw[<-bE];exact cf.k (k:=Sum.inr w) (s6 _ _ hm5)
     refine aE ⟨_,rfl,_,rfl,dm,_,rfl,g6,_,rfl,?_⟩;rw[pY]
     by_cases hw:w∈bs.map (·.w)
     case neg =>
      rw[xS hw];refine aE ⟨_,rfl,p,f,rfl,hf.mono (fun _ _ z=>s6 _ _ z),by omega,fun l5 H7 hl5 s7 hl7=>⟨l5,rfl,⟨_,aT.of hl7⟩,fun c hc=>?_⟩⟩;have hm7:=s7 _ _ (s6 _ _ hm5);refine ii (fun z:Str=>V.str z) (rs:=f.names) (f:=fun z=>.bl (decide (z∈bs.map (·.w)))) hc hl7 (by omega) (fun z HK Q' hz sK kk=>?_) (fun H8 s8 hc8=>?_)
      ·have gz:cf HK dm (.str z) ((f9 bs z).map fun e=>V.ref e.p):=by rw[<-bE];exact cf.k (k:=Sum.inr z) (sK _ _ hm7)
       refine⟨_,rfl,_,rfl,dm,_,rfl,gz,?_⟩;rw[pY];exact kk HK (ay.refl _)
      refine⟨c,f.names.map fun z=>decide (z∈bs.map (·.w)),rfl,aT.of (by rw[hc8,yL];rfl),_,rfl,?_⟩;have s68:=s6.trans (s7.trans s8)
      by_cases kn:aZ bs f
      case pos =>
       rw[kD.mpr kn];refine aE (rest _ _ ⟨s68,?_⟩);unfold defO;rw[xV (by rw[nm];decide),xV hw,x4 kn];rfl
      case neg =>
       rw[show (f.names.map fun z=>decide (z∈bs.map (·.w))).all id=false from Bool.eq_false_iff.mpr fun z=>kn (kD.mp z)];refine aV (rest [some (.ref a),some (.ref b),some (.ref dm),some (.int (d6 ns 1)),some (.int (2+(i:Nat)*2)),some (.str w),some (.ref p),some (.str "Unknown"),v8,v9] H8 ⟨s68,?_⟩);unfold defO;rw[xV (by rw[nm];decide),xV hw,xV kn];rfl
     case pos =>
      rw[xX hw];refine aV (rest [some (.ref a),some (.ref b),some (.ref dm),some (.int (d6 ns 1)),some (.int (2+(i:Nat)*2)),some (.str w),some (.ref p),some (.str "Taken"),v8,v9] H6 ⟨s6,?_⟩);unfold defO;rw[xV (by rw[nm];decide),x4 hw];rfl
    ·rw[Bool.not_eq_true]at nm
     rw[nm];refine aV (rest [some (.ref a),some (.ref b),some (.ref dm),some (.int (d6 ns 1)),some (.int (2+(i:Nat)*2)),some (.str w),some (.ref p),some (.str "BadName"),v8,v9] H6 ⟨s6,?_⟩);unfold defO;rw[x4 nm];rfl
   rintro σ H6 ⟨s6,rfl⟩;have B6:=B5.mono s6;have hm6:=s6 _ _ hm5;have hf6:aO 9 H6 p f:=hf.mono fun _ _ z=>s6 _ _ z;have s6:=s5.trans s6
   apply gm (fun σ HH=>∃ bs':List BE,σ=[some (.ref a),some (.ref b),some (.ref dm),some (.int (d6 ns 1)),some (.int (2+(i:Nat)*2)),some (.str w),some (.ref p),some (.str (rL (defO bs w f))),v8,v9]/\ay H HH/\eN ck HH b A bs'/\HH dm=some (.dK (bs'.map fun e=>(Sum.inr e.w,V.ref e.p)))/\bs'.length<=i+1/\∀ e∈bs',e.w.length<=20)
   ·intro rest
    have dn:∀ o:DO,decide (V.str (rL o)=V.str (rL o))=true:=fun o=>xX rfl;refine⟨_,rfl,_,rfl,_,rfl,b,p,A,bs,w,f,rfl,B6,hf6,asc,by omega,by omega,?dd,fun hd H7 s7=>⟨_,rfl,rfl,_,rfl,?_⟩⟩
    rotate_left
    ·rw[dn]
     refine aE ⟨_,rfl,rfl,_,rfl,?_⟩
     have e1:decide (V.str (rL (defO bs w f))=V.str "done")=false:=by
      revert hd;generalize defO bs w f=o;intro hd
      cases o with
      | done=>exact absurd rfl hd
      | bad=>show decide (V.str (Str.ofString "BadName")=V.str (Str.ofString "done"))=false;decide +kernel
      | taken=>show decide (V.str (Str.ofString "Taken")=V.str (Str.ofString "done"))=false;decide +kernel
      | unknown=>show decide (V.str (Str.ofString "Unknown")=V.str (Str.ofString "done"))=false;decide +kernel
     rw[e1];exact aE (rest _ _ ⟨bs,rfl,s6.trans s7,B6.mono s7,s7 _ _ hm6,by omega,bw⟩)
    intro hd x H7 xw xf xp xn xr B7 kp;refine⟨_,rfl,rfl,_,rfl,?_⟩;rw[hd,dn];refine aE ⟨_,rfl,rfl,_,rfl,?_⟩;rw[show decide (V.str (rL .done)=V.str "done")=true from xX rfl];have hm7:=kp _ _ hm6 m1 m2 m3
    have hw:w∉bs.map (·.w):=by
     intro z;unfold defO at hd;split at hd
     ·cases hd
     ·first | cases hd | (rw[x4 z]at hd;cases hd)
    have e1:iT H7 dm (.str w) (.ref p) (aH H7 dm (.dK ((bs.map fun e=>((Sum.inr e.w:bV),V.ref e.p))++[(Sum.inr w,V.ref p)]))):=by
     have q:=iT.k (k:=Sum.inr w) (v:=V.ref p) hm7 (by rw[xP];omega)
     rwa [gR _ (by rw[bE,cQ.mpr hw];rfl)]at q
    refine aV ⟨_,rfl,_,rfl,_,rfl,dm,_,rfl,e1,?_⟩;have s7:ay H H7:=fun c o e=>kp c o (s6 _ _ e) (aL e d1n) (aL e d2n) (aL e d3n);refine rest _ _ ⟨bs++[x],by rw[hd],bF s7 dmn,B7.updD hm7 m1 m2 m3,by rw[aa,x8];subst xw xp;rfl,by rw[x3,yr];omega,fun e he=>?_⟩;rcases ym.mp he with z | z
    ·exact bw e z
    ·rw[x6.mp z,xw];exact wl
   rintro σ H7 ⟨cs,rfl,s7,B7,hm7,cl,cw⟩;refine⟨_,rfl,b,A.dx,_,rfl,B7.ob,eY (by decide +kernel),b,A,cs,rfl,B7,fun l hl=>?_⟩;have t8:=af (o:=.lst ((cs.map (·.w)).map V.str)) hl;have hl8:aH H7 l (.lst ((cs.map (·.w)).map V.str)) l=some (.lst ((cs.map (·.w)).map V.str)):=aa;generalize aH H7 l (.lst ((cs.map (·.w)).map V.str))=H8 at t8 hl8 ⊢
   have keys:(cs.map fun e=>((Sum.inr e.w:bV),V.ref e.p)).map (·.1)=(cs.map (·.w)).map Sum.inr:=by rw[yL,yL];rfl
   refine⟨_,rfl,_,_,_,true,rfl,gu.lst hl8,rfl,_,rfl,aE ⟨_,rfl,_,rfl,dm,_,cs.map (·.w),rfl,t8 _ _ hm7,keys,fun l2 hl2=>?_⟩⟩;have t9:=af (o:=.lst ((cs.map (·.w)).map V.str)) hl2;refine⟨l,l2,_,_,rfl,rfl,RD.succ (oJ (t9 _ _ hl8)),RD.succ (oJ aa),fun bb hbb=>⟨_,rfl,?_⟩⟩;rw[show (if true=true then !bb else bb)=false by rw[hbb.mpr rfl];rfl];refine aE ⟨_,rfl,.inl ⟨rfl,_,aT.of (t9 _ _ hl8)⟩,l,_,_,rfl,rfl,t9 _ _ hl8,by rw[xP,xP];omega,?_⟩;have t10:=bF (o:=.lst ((cs.map (·.w)).map V.str++[.str "lost"])) (t8.trans t9) hl;generalize aH _ l (.lst ((cs.map (·.w)).map V.str++[.str "lost"]))=H10 at t10 ⊢;refine⟨_,rfl,dm,_,cs.map (·.w),rfl,t10 _ _ hm7,keys,fun l3 hl3=>⟨_,rfl,two,fun l4 hl4=>?_⟩⟩;have t3:=af (o:=.lst ((cs.map (·.w)).map V.str)) hl3;have t4:=af (o:=.lst [.str "lost",.str w]) hl4;refine⟨l3,l4,_,_,rfl,rfl,t4 _ _ aa,aa,by rw[xP,xP];show cs.length+2<=sizeLine;omega,fun l5 hl5=>?_⟩;have t5:=af (o:=.lst ((cs.map (·.w)).map V.str++[.str "lost",.str w])) hl5
   have h5:aH (aH (aH H10 l3 (.lst ((cs.map (·.w)).map V.str))) l4 (.lst [.str "lost",.str w])) l5 (.lst ((cs.map (·.w)).map V.str++[.str "lost",.str w])) l5=some (.lst ((cs.map (·.w)++[("lost" : Str),w]).map V.str)):=by rw[aa,x8];rfl
   have tt:=t10.trans (t3.trans (t4.trans t5));generalize aH (aH (aH H10 l3 (.lst ((cs.map (·.w)).map V.str))) l4 (.lst [.str "lost",.str w])) l5 (.lst ((cs.map (·.w)).map V.str++[.str "lost",.str w]))=H11 at h5 tt ⊢;refine⟨l5,rfl,⟨_,aT.of h5⟩,?_⟩;have B11:=B7.mono tt;have hm11:=tt _ _ hm7
   refine bZ (K:=K) (a:=l5) (xs:=(cs.map (·.w)++[("lost" : Str),w]).map V.str) (fun j σ HK=>∃ v:Option V,σ=[some (.ref a),some (.ref b),some (.ref dm),some (.int (d6 ns 1)),some (.int (2+(i:Nat)*2)),some (.str w),some (.ref p),some (.str (rL (defO bs w f))),some (.ref l),v]/\ay H11 HK)
    ⟨v9,rfl,ay.refl _⟩ (fun j σ HK _ ⟨_,_,s⟩=>aT.of (s _ _ h5)) ?_ ?_
   ·rintro j y σ HK hj ⟨v,rfl,sK⟩
    obtain⟨z,hz,rfl⟩:=bB hj
    have zl:z.length<=100:=by
     rcases ym.mp (yj hz) with q | q
     ·obtain⟨e,he,rfl⟩:=yB.mp q
      have:=cw e he;omega
     ·rcases ya.mp q with rfl | q
      ·decide
      ·rw[x6.mp q];omega
    refine⟨_,rfl,_,rfl,b,A,cs,z,rfl,B11.mono sK,zl,fun e he HX sX=>?_,fun he HX sX=>?_⟩
    ·have sKX:=sK.trans sX
     have gz:cf HX dm (.str z) ((f9 cs z).map fun e=>V.ref e.p):=by rw[<-bE];exact cf.k (k:=Sum.inr z) (sKX _ _ hm11)
     rw[he]at gz;have rd:RD K HX 18 (.ref e.p) e.f.dt:=((B11.mono sKX).fg e (cy he).1).rd;have rd:=RD.succ rd;refine⟨_,rfl,dm,rfl,.inl ⟨_,.inl (sKX _ _ hm11)⟩,_,rfl,_,gz,.inr ⟨e.p,e.p,_,_,rfl,rfl,rd,rd,fun bb hbb=>⟨_,rfl,?_⟩⟩⟩;rw[show (if true=true then !bb else bb)=false by rw[hbb.mpr rfl];rfl];exact aE ⟨_,rfl,sKX⟩
    ·have sKX:=sK.trans sX
     have gz:cf HX dm (.str z) ((f9 cs z).map fun e=>V.ref e.p):=by rw[<-bE];exact cf.k (k:=Sum.inr z) (sKX _ _ hm11)
     rw[he]at gz;refine⟨_,rfl,dm,rfl,.inl ⟨_,.inl (sKX _ _ hm11)⟩,_,rfl,_,gz,.inl ⟨rfl,_,rfl,?_⟩⟩;exact aE ⟨_,rfl,sKX⟩
   rintro σ HK ⟨v,rfl,sK⟩;exact⟨cs,_,_,_,_,_,_,rfl,(s7.trans tt).trans sK,B11.mono sK,sK _ _ hm11,cl,cw⟩
  rintro σ H7 ⟨cs,v4,v5,v6,v7,v8,v9,rfl,s7,B7,hm7,cl,cw⟩;intro b2 dx2 nx2 ndx2 nex2;refine⟨b2,dx2,rfl,aa,fun A2 H8 kp2 B8 _ _ _=>⟨rfl,?_⟩⟩;refine⟨b2,A2.dx,_,rfl,B8.ob,eY (by decide +kernel),b2,A2,[],rfl,B8,fun ln hln=>⟨yg _,fun le hle=>?_⟩⟩;refine⟨ln,le,_,_,rfl,rfl,RD.lst (aT.of ((af hle) _ _ aa)) .nil,RD.lst (aT.of aa) .nil,fun bb hbb=>?_⟩;rw[show (if false=true then !bb else bb)=true from hbb.mpr rfl];refine⟨_,rfl,aV ?_⟩;intro b3 dx3 nx3 ndx3 nex3;refine⟨b3,dx3,rfl,aa,fun A3 H9 kp3 B9 _ _ _=>⟨rfl,?_⟩⟩;refine⟨b3,A3,[],"hey",rfl,B9,by decide,(fun e he=>nomatch he),fun he HX sX=>⟨rfl,?_⟩⟩;exact k _
end
theorem all_mk2 {l:PySem.W.OpenLaw}{w:World}{K:PySem.W.Frag}{h:Heap}{mg:Str->Option Value}{fa:Addr}{co cq ck cB cT kd t1 t2 t3:Addr}(X:K.In h)(G:h.Ns mainGlobals mg)(hfa:mg "law" = some (.ref fa))(n_co:PySem.W.nsIn K mainGlobals "Same" = some (some (.ref co)))(n_ck:PySem.W.nsIn K mainGlobals "FigureBook" = some (some (.ref ck)))(n_mp:PySem.W.nsIn K mainGlobals "MOST_PAIRS" = some (some (.int 2000 t1)))(kpg:PySem.W.plainGet K ck Str.empty=true)(khd:PySem.W.hasDictIn K ck=true)(kpo:PySem.W.plainOver K ck=true)(ksa:PySem.W.findIn K (.ref ck) "__setattr__" = some (some (.builtin "object.__setattr__")))(kna_figures:PySem.W.findIn K (.ref ck) "figures" = some none)(kna_lengths:PySem.W.findIn K (.ref ck) "lengths" = some none)(kna_rows:PySem.W.findIn K (.ref ck) "rows" = some none)(kmk:PySem.W.makesIn K ck=true)(kkc:PySem.W.keepIn K (.ref ck)=true)(e_co:dL K co)(x_oo:PySem.W.exmOne K (.ref co) (.ref co)=some true)(n_cq:PySem.W.nsIn K mainGlobals "Unknown" = some (some (.ref cq)))(n_cB:PySem.W.nsIn K mainGlobals "BadName" = some (some (.ref cB)))(n_cT:PySem.W.nsIn K mainGlobals "Taken" = some (some (.ref cT)))(n_ml:PySem.W.nsIn K mainGlobals "LONGEST_NAME" = some (some (.int 12 t2)))(n_mt:PySem.W.nsIn K mainGlobals "LETTERS" = some (some (.str "abcdefghijklmnopqrstuvwxyz" t3)))(n_kd:PySem.W.nsIn K mainGlobals "KINDS" = some (some (.ref kd)))(kdo:∃ (o:Obj)(its:Array Value)(n:Nat),K.lookup kd=some o/\o.cls=.type "tuple"/\o.data=.seq its n/\its.size<=sizeLine/\L2.Vals (Wz.kindsL.map L2.V.str) its.toList)(e_cq:dL K cq)(e_cB:dL K cB)(e_cT:dL K cT)(x_bb:PySem.W.exmOne K (.ref cB) (.ref cB)=some true)(x_tb:PySem.W.exmOne K (.ref cT) (.ref cB)=some false)(x_tt:PySem.W.exmOne K (.ref cT) (.ref cT)=some true)(x_ub:PySem.W.exmOne K (.ref cq) (.ref cB)=some false)(x_ut:PySem.W.exmOne K (.ref cq) (.ref cT)=some false)(x_uu:PySem.W.exmOne K (.ref cq) (.ref cq)=some true)(fR:aY K "_law_cell_at" dw)(dF:dZ K ck "__init__" "FigureBook.__init__" cm)(jp:aY K "_law_size" fu)(iB:aY K "_law_draws" eC)(jq:aY K "_law_word" fw)(eW:aY K "_law_odd_word" c8)(iE:aY K "_law_ranks" dg)(iC:aY K "_law_guest" eD)(iD:aY K "_law_plain" cC)(iF:aY K "_law_small" eE)(fU:aY K "_law_wrapped" bz)(gn:aY K "_law_figure" cN)(eI:aY K "_law_word_good" bR)(dk:aY K "_law_names_of" c6)(kl:aY K "is_name" eA)(eG:aY K "inner_figures" cH)(dG:dZ K ck "told" "FigureBook.told" cr)(bu:dZ K ck "check_names" "FigureBook.check_names" bh)(eJ:aY K "single_length" cI)(bT:dZ K ck "length" "FigureBook.length" bq)(gq:aY K "turned_row" dQ)(iG:aY K "quadrille" eF)(gp:aY K "single_row" b6)(bU:dZ K ck "row_of" "FigureBook.row_of" bP)(c9:dZ K ck "define" "FigureBook.define" bO)(fS:aY K "_law_defined" dy)(fT:aY K "_law_told_of" dz)(dj:dZ K ck "names" "FigureBook.names" bX)(sD:aY K "law" lC)(tm:PySem.W.nsIn K mainGlobals "len" = some none)(oV:PySem.W.nsIn K mainGlobals "range" = some none)(hV:PySem.W.nsIn K mainGlobals "isinstance" = some none)(oW:PySem.W.nsIn K mainGlobals "tuple" = some none)(rn:PySem.W.nsIn K mainGlobals "list" = some none)(tj:PySem.W.nsIn K mainGlobals "int" = some none)(rk:PySem.W.nsIn K mainGlobals "bool" = some none)(sZ:PySem.W.nsIn K mainGlobals "all" = some none)(tf:PySem.W.nsIn K mainGlobals "any" = some none)(mC:PySem.W.nsIn K mainGlobals "sorted" = some none)(jY:PySem.W.nsIn K mainGlobals "reversed" = some none)(tu:PySem.W.nsIn K mainGlobals "set" = some none)(tq:PySem.W.nsIn K mainGlobals "min" = some none)(tp:PySem.W.nsIn K mainGlobals "max" = some none)(rm:PySem.W.nsIn K mainGlobals "dict" = some none)(tD:PySem.W.nsIn K mainGlobals "zip" = some none)(iS:PySem.W.nsIn K mainGlobals "enumerate" = some none)(tz:PySem.W.nsIn K mainGlobals "sum" = some none)(tw:PySem.W.nsIn K mainGlobals "str" = some none) :
  ∃ fd:FuncData,(∀ (s:Shared)(v:Value),BindsTo s fd ⟨[v],[]⟩ [("_law_script",v)])/\∀ base:Heap,K.In base->base.Ns mainGlobals mg->a9 l.prog w K mg base dD 16 fa fd ["_law_script"] (mq K):=by
 have T:xh mg:=⟨yd X G tm,yd X G oV,yd X G hV,yd X G oW,yd X G rn,yd X G tj,yd X G rk,yd X G sZ,yd X G tf,yd X G mC,yd X G jY,yd X G tu,yd X G tq,yd X G tp,yd X G rm,yd X G tD,yd X G iS,yd X G tz,yd X G tw⟩;have UO:uY K mg co cq ck cB cT kd:=⟨⟨e_co,yP X G n_co,x_oo⟩,⟨⟨kpg,khd,kpo,ksa⟩,kna_figures,kna_lengths,kna_rows,yP X G n_ck⟩,⟨_,yP X G n_mp,⟨_,rfl⟩⟩,⟨_,yP X G n_ml,⟨_,rfl⟩⟩,⟨_,yP X G n_mt,⟨_,rfl⟩⟩,yP X G n_kd,kdo,e_cq,yP X G n_cq,e_cB,yP X G n_cB,e_cT,yP X G n_cT,x_bb,x_tb,x_tt,x_ub,x_ut,x_uu⟩;obtain⟨f_FigureBook_init,gb,a_FigureBook_init,i_FigureBook_init,G_FigureBook_init⟩:=dF;obtain⟨f_law,tW,a_law,G_law⟩:=sD;have e:=hfa.symm.trans (yP X G a_law);cases e;refine⟨tW,?_,fun base _ _=>?_⟩
 ·obtain⟨_,_,_,_,_,_,_,_,_,rfl,_,_⟩:=G_law.ex
  exact fun s v=>.of_eq rfl
 ·have cJ:ax l.prog w K mg base "_law_cell_at" 1 ["_law_script","_law_k"] (ll K):=j7 X G fR fun _ _ h=>jL T UO h
  have MF:tF l.prog w K mg base ck:=⟨f_FigureBook_init,gb,⟨kmk,a_FigureBook_init,i_FigureBook_init,kkc⟩,gg T UO G_FigureBook_init ,(G_FigureBook_init.binds (ps:=["self"]) (by intro _ _ _ _ _ _;(repeat refine vY fun _=>?_);exact vX rfl))⟩;have bA:ax l.prog w K mg base "_law_size" 1 ["_law_cell"] iz:=j7 X G jp fun _ _ h=>l8 T UO h;have cu:ax l.prog w K mg base "_law_draws" 2 ["_law_cell","_law_many","_law_base"] gV:=j7 X G iB fun _ _ h=>kX T UO h bA;have f7:ax l.prog w K mg base "_law_word" 3 ["_law_cell"] nK:=j7 X G jq fun _ _ h=>l9 T UO h cu;have dh:ax l.prog w K mg base "_law_odd_word" 4 ["_law_cell"] nK:=j7 X G eW fun _ _ h=>iZ T UO h f7;have eS:ax l.prog w K mg base "_law_ranks" 1 ["_law_drawn"] jm:=j7 X G iE fun _ _ h=>k6 T UO h;have bd:ax l.prog w K mg base "_law_guest" 2 ["_law_k","_law_cell"] gW:=j7 X G iC fun _ _ h=>kY T UO h bA;have eR:ax l.prog w K mg base "_law_plain" 3 ["_law_drawn","_law_cell"] lA:=j7 X G iD fun _ _ h=>kZ T UO h eS bd;have eV:ax l.prog w K mg base "_law_small" 1 ["_law_figure_here"] gX:=j7 X G iF fun _ _ h=>k7 T UO h;have dJ:ax l.prog w K mg base "_law_wrapped" 4 ["_law_shelf","_law_drawn","_law_names"] lB:=j7 X G fU fun _ _ h=>jO T UO h eV;have dY:ax l.prog w K mg base "_law_figure" 5 ["_law_draws_here","_law_cell","_law_names"] lx:=j7 X G gn fun _ _ h=>kc T UO h eR dJ bd;have cV:ax l.prog w K mg base "_law_word_good" 1 ["_law_word_here"] jj:=j7 X G eI fun _ _ h=>io T UO h
  have R_law_names_of:∀ n:Nat,n<=9->ax l.prog w K mg base "_law_names_of" (n+1) ["_law_figure_here"] (fJ n):=by
   intro n
   induction n with
   | zero=>exact fun _=>j7 X G dk fun _ _ _=>i8 (by intro _ _ _ _ h;cases h;exact (show False from ‹aO 0 _ _ _›))
   | succ n ih=>exact fun hn=>j7 X G dk fun _ _ h=>iY T UO h (by omega) (ih (by omega))
  have bv:ax l.prog w K mg base "_law_names_of" 10 ["_law_figure_here"] (fJ 9):=R_law_names_of 9 (xT _);have Cis_name:ax l.prog w K mg base "is_name" 1 ["word"] ly:=j7 X G kl fun _ _ h=>nj T UO h;have Cinner_figures:ax l.prog w K mg base "inner_figures" 1 ["figure"] mo:=j7 X G eG fun _ _ h=>im T UO h;have M_FigureBook_told:aP l.prog w K mg base (hW l.prog w) ck "told" 2 ["self","word"] (gT ck cq):=rY dG fun _ _ h=>gh T UO h
  have R_FigureBook_check_names:∀ n:Nat,n<=9->aP l.prog w K mg base (hW l.prog w) ck "check_names" (n+3) ["self","figure"] (kG ck cq n):=by
   intro n
   induction n with
   | zero=>exact fun _=>rY bu fun _ _ _=>i8 (by intro _ _ _ _ h;cases h;exact (show False from ‹aO 0 _ _ _›))
   | succ n ih=>exact fun hn=>rY bu fun _ _ h=>dC T UO h Cinner_figures M_FigureBook_told (by omega) (ih (by omega))
  have M_FigureBook_check_names:aP l.prog w K mg base (hW l.prog w) ck "check_names" 12 ["self","figure"] (kG ck cq 9):=R_FigureBook_check_names 9 (xT _);have Csingle_length:ax l.prog w K mg base "single_length" 1 ["figure"] ls:=j7 X G eJ fun _ _ h=>iq T UO h
  have R_FigureBook_length:∀ n:Nat,n<=9->aP l.prog w K mg base dD ck "length" (n+3) ["self","figure"] (iy ck n):=by
   intro n
   induction n with
   | zero=>exact fun _=>rY bT fun _ _ _=>i8 (by intro _ _ _ _ h;cases h;exact (show False from ‹aO 0 _ _ _›))
   | succ n ih=>exact fun hn=>rY bT fun _ _ h=>ff T UO h Cinner_figures Csingle_length (by omega) (ih (by omega))
  have M_FigureBook_length:aP l.prog w K mg base dD ck "length" 12 ["self","figure"] (iy ck 9):=R_FigureBook_length 9 (xT _);have Cturned_row:ax l.prog w K mg base "turned_row" 1 ["row"] (gY K):=j7 X G gq fun _ _ h=>kf T UO h;have Cquadrille:i6 l.prog w K mg base "quadrille" 2 ["a","b","c","d"] (jk co):=xB X G iG fun _ _ h=>k8 T UO h;have Csingle_row:ax l.prog w K mg base "single_row" 3 ["figure"] lv:=j7 X G gp fun _ _ h=>ke T UO h Cquadrille
  have R_FigureBook_row_of:∀ n:Nat,n<=9->aP l.prog w K mg base dD ck "row_of" (n+4) ["self","figure"] (fK ck n):=by
   intro n
   induction n with
   | zero=>exact fun _=>rY bU fun _ _ _=>i8 (by intro _ _ _ _ h;cases h;exact (show False from ‹aO 0 _ _ _›))
   | succ n ih=>exact fun hn=>rY bU fun _ _ h=>fh T UO h Cturned_row Csingle_row (by omega) (ih (by omega))
  have M_FigureBook_row_of:aP l.prog w K mg base dD ck "row_of" 13 ["self","figure"] (fK ck 9):=R_FigureBook_row_of 9 (xT _);have M_FigureBook_define:aP l.prog w K mg base (hW l.prog w) ck "define" 14 ["self","word","figure"] (gU ck cq cB cT):=rY c9 fun _ _ h=>fc T UO h Cis_name M_FigureBook_check_names M_FigureBook_length M_FigureBook_row_of;have dI:ax l.prog w K mg base "_law_defined" 15 ["_law_book","_law_word_here","_law_figure_here"] (lp ck):=j7 X G fS fun _ _ h=>jM T UO h M_FigureBook_define;have cK:ax l.prog w K mg base "_law_told_of" 3 ["_law_book","_law_word_here"] (jn ck):=j7 X G fT fun _ _ h=>jN T UO h M_FigureBook_told;have M_FigureBook_names:aP l.prog w K mg base dD ck "names" 1 ["self"] (fH ck):=rY dj fun _ _ h=>fP T UO h;exact uj T UO G_law cJ MF bA cu dh dY cV bv dI cK M_FigureBook_names
theorem walk {l:PySem.W.OpenLaw}{q:Program}{loose:List Str}{XP:(Str->Option Value)->Heap->Prop}{YP:World->Heap->Prop}{d:DefRec}{K:Params->PySem.W.Frag}(hn:l.most=some 63)(hdf:d.params.defaults=[])
  (hY:∀ (w:World)(h:Heap),YP w h->(K w.params).In h)
  (F:∀ (w:World)(mg:Str->Option Value)(fa:Addr)(h:Heap),(K w.params).In h->h.Ns mainGlobals mg->mg d.name=some (.ref fa) ->
   ∃ fd:FuncData,(∀ (s:Shared)(u:Value),BindsTo s fd ⟨[u],[]⟩ [("_law_script",u)])/\∀ base:Heap,(K w.params).In base->base.Ns mainGlobals mg->a9 l.prog w (K w.params) mg base dD 16 fa fd ["_law_script"] (mq (K w.params))) :
  PySem.W.WalkO q loose XP YP l.row.toRowW d [] (fun f vs=>PySem.call f vs) :=
 L2.walk_of (n:=63) (k:=16) (x:="_law_script") (CX:=fun _=>dD) (sp:=fun w=>mq (K w.params)) hn (by decide) hdf ⟨rfl,by decide,by decide⟩ hY F (fun _ _ a ns hl _ hS=>⟨a,ns,rfl,hS,hl,fun _=>rfl⟩) fun _ _ _ _ _ z=>z
end Wk43
namespace PySem.W.Fast
def tw3081571191606593919:=0
def tw8768284294397289877:=0
def tw14108921652468872410:=0
def tw13317540592597073565:=0
def tw11603903274631418517:=0
def tw6250357782943214235:=0
def tw5321126917566945721:=0
def tw9041020948965251472:=0
def tw6947777485912338093:=0
def tw6088102084024619600:=0
def tw13856488342257236776:=0
def tw15698288757969004273:=0
def tw4206200772352045435:=0
def tw2287718530635349433:=0
def tw8382374143656799916:=0
def tw10185060955025083373:=0
def tw6633861982450897285:=0
def tw1564823091454727957:=0
def tw12892215813764409080:=0
def tw15777805041480979411:=0
def tw689180361490571368:=0
def tw7066958298908161654:=0
def tw4327299810921851485:=0
def tw3965759984954935609:=0
def tw16951856226855297105:=0
def tw14659541075019411307:=0
def tw8970126347372713108:=0
def tw6151737431195533433:=0
def tw15252893688902353150:=0
def tw3170823646789331231:=0
def tw2942873325936908735:=0
def tw13728036061759063608:=0
def tw12128026635683940453:=0
def tw6012864729148445417:=0
def tw9005566173122103397:=0
def tw17804555142133913240:=0
def tw17371586471418450768:=0
def tw17006501280897606944:=0
def tw16115735543488769:=0
def tw5449521007990823859:=0
def tw5500754904307862133:=0
def tw6742599491722215345:=0
def tw3647299211857634760:=0
def tw9102880042640398846:=0
def tw8710097484519967651:=0
def tw7795030617830191614:=0
def tw5933106652124385816:=0
def tw15557276722264026572:=0
def tw5001501289123041636:=0
def tw16580508684295252775:=0
def tw5794076479783361354:=0
def tw6721779538338411066:=0
def tw1419982783697964111:=0
def tw13768871320785065450:=0
def tw6817072717381025297:=0
def tw7142888583315122591:=0
def tw2919626601544589259:=0
def tw8206051501833356314:=0
def tw9115144037859776019:=0
def tw3576811787274567337:=0
def tw4062646009297080639:=0
def tw13317563497837536742:=0
def tw4963646018415051890:=0
def tw4955267389211336426:=0
def tw6986585424622503758:=0
def tw7792041284714289446:=0
def tw12877131459809513739:=0
def tw7867855785717861795:=0
def tw759970779998050204:=0
def tw15793894979849176361:=0
def tw13178868110745216899:=0
def tw16141038779499727992:=0
def tw7462477978298911091:=0
def tw4993100517185553041:=0
def tw1854170289699845440:=0
def tw4704181261415828452:=0
def tw1250198671673448513:=0
def tw3442954167304244734:=0
def tw2928287136382743163:=0
def tw11063920099311402701:=0
def tw6872875430314066402:=0
def tw10819738367331281515:=0
def tw11404648750662439785:=0
def tw15434676546575181546:=0
def tw11299324896920310121:=0
def tw3882194827754372574:=0
def tw15694783195303042366:=0
def tw3120532888113398919:=0
def tw9225768122389842234:=0
def tw6891857918256264916:=0
def tw15481178760963554442:=0
def tw6460432838437080763:=0
def tw257921365411896584:=0
def tw7892217019296855887:=0
def tw15905829070422947982:=0
def tw4599775596950687471:=0
def tw7448521219287527535:=0
def tw17397873898742353490:=0
def tw17229586444223201972:=0
def tw3664864763356740258:=0
def tw2088295644685507836:=0
def tw3855197226461230567:=0
def tw4668040858802082572:=0
def tw3415404207869566890:=0
def tw6872454024844951741:=0
def tw16395455833628462515:=0
def tw2382870506784699955:=0
def tw4782002067647033181:=0
def tw15538378616862229971:=0
def tw18348869036707208665:=0
def tw10697065395104604184:=0
def tw17381553924185055429:=0
def tw17083204387989290530:=0
def tw2154227671696445845:=0
def tw15848722807673101648:=0
def tw1788341157180460660:=0
def tw13624652175831464990:=0
def tw7887433766039910524:=0
def tw3014542712575569865:=0
def tw12801782672275849726:=0
def tw18083711228431410258:=0
def tw18267375010581748874:=0
def tw5885541684297528312:=0
def tw987248840796410623:=0
def tw11707446046605308034:=0
def tw2075509320197073482:=0
def tw12050829024483878981:=0
def tw5431101310360917065:=0
def tw3661196678671734240:=0
def tw15910790720107958736:=0
def tw17255293647383157864:=0
def tw9663123751329708531:=0
def tw7774909001737815277:=0
def tw14430247852551470986:=0
def tw1746052302813209924:=0
def tw361557122879398533:=0
def tw2149752952886321392:=0
def tw12107919609114468725:=0
def tw12958399514828981066:=0
def tw13266482662704633726:=0
def tw16084369702853516657:=0
def tw1977630226739739459:=0
def tw3892671472407274814:=0
def tw4282911209894312631:=0
def tw5644062189191282654:=0
def tw15775341510058613464:=0
def tw8704828574519061989:=0
def tw4257209803026908888:=0
def tw5792348514498139874:=0
def tw10078298044691282194:=0
def tw17446705030788534116:=0
def tw16440057933926431672:=0
def tw13315599745674848548:=0
def tw10621168016862204903:=0
end PySem.W.Fast
open PySem PySem.W PyProof.Rows
set_option maxRecDepth 100000 in
set_option maxHeartbeats 0 in
theorem PySem.Challenge.cw_lastwaltz_k43_names_of_figures_holds : PySem.Challenge.rw_lastwaltz_k43_names_of_figures.Holds := by
 w_on;o_law;k_head;(case hw=>w_witness2)
 k_fill
 refine Wk43.walk (l:=PySem.Challenge.rw_lastwaltz_k43_names_of_figures) rfl rfl (fun w h Y=>PySem.W.kIn_of Y) ?F
 case F =>
  intro w mg fa h KX G hmg;refine' Wk43.all_mk2 KX G hmg ?n_co ?n_ck ?n_mp ?kpg ?khd ?kpo ?ksa ?kna_figures ?kna_lengths ?kna_rows ?kmk ?kkc ?e_co ?x_oo ?n_cq ?n_cB ?n_cT ?n_ml ?n_mt ?n_kd ?kdo ?e_cq ?e_cB ?e_cT ?x_bb ?x_tb ?x_tt ?x_ub ?x_ut ?x_uu ?fR ?dF ?jp ?iB ?jq ?eW ?iE ?iC ?iD ?iF ?fU ?gn ?eI ?dk ?kl ?eG ?dG ?bu ?eJ ?bT ?gq ?iG ?gp ?bU ?c9 ?fS ?fT ?dj ?sD ?tm ?oV ?hV ?oW ?rn ?tj ?rk ?sZ ?tf ?mC ?jY ?tu ?tq ?tp ?rm ?tD ?iS ?tz ?tw
  (case n_co=>k_is)
  (case n_ck=>k_is)
  (case n_mp=>k_is)
  (case e_co=>kernel_rfl)
  (case x_oo=>kernel_rfl)
  (case n_cq=>k_is)
  (case n_cB=>k_is)
  (case n_cT=>k_is)
  (case n_ml=>k_is)
  (case n_mt=>k_is)
  (case n_kd=>k_is)
  (case kdo=>exact⟨_,_,_,rfl,rfl,rfl,by decide,.cons ⟨_,rfl⟩ (.cons ⟨_,rfl⟩ (.cons ⟨_,rfl⟩ (.cons ⟨_,rfl⟩ (.cons ⟨_,rfl⟩ (.cons ⟨_,rfl⟩ (.cons ⟨_,rfl⟩ (.cons ⟨_,rfl⟩ .nil)))))))⟩)
  (case e_cq=>kernel_rfl)
  (case e_cB=>kernel_rfl)
  (case e_cT=>kernel_rfl)
  (case x_bb=>kernel_rfl)
  (case x_tb=>kernel_rfl)
  (case x_tt=>kernel_rfl)
  (case x_ub=>kernel_rfl)
  (case x_ut=>kernel_rfl)
  (case x_uu=>kernel_rfl)
  all_goals first | (refine' Wz.fact_mk ?a ?l ?c ?k;(case a=>k_is);(case l=>k_is);(case c=>k_is);(case k=>k_is)) | (refine' Wz.mfact_mk ?a ?i ?l ?c ?k;(case a=>k_is);(case i=>k_is);(case l=>k_is);(case c=>k_is);(case k=>k_is)) | k_is
