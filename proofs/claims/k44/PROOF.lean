import PyProof.Rows.All
import Wide.All
import OpenK.AllK
import Wide.FinOn
import Lean
import PyProof.EqAt
import PyProof.EqKinds
import PyProof.TupleCall
import PyProof.NeData
import PyProof.DictItems
import PyProof.JoinWalk
import PyProof.CallStr
import OpenK.KOwn
import KE.KTryMore
import PyProof.EnumMake
import KE.KLam
import KE.KNestM
import KE.KEqDict
import PyProof.Conv_int
import PyProof.StrWalks
import PyProof.StrCalls2
import PyProof.StrLawsIn
import PySem.Challenge.RW_lastwaltz_k44_figures_in_figures
set_option Elab.async false
set_option linter.all false
set_option maxRecDepth 100000
set_option maxHeartbeats 4000000
theorem z4:type_of% @PySem.wpAny_bind:=@PySem.wpAny_bind
theorem z9:type_of% @List.length_map:=@List.length_map
theorem Aa:type_of% @PySem.Heap.lt_size:=@PySem.Heap.lt_size
theorem Ab:type_of% @decide_eq_false:=@decide_eq_false
theorem Ac:type_of% @PySem.wpAny_pure:=@PySem.wpAny_pure
theorem Ad:type_of% @Nat.le_refl:=@Nat.le_refl
theorem Ae:type_of% @Bool.false_ne_true:=@Bool.false_ne_true
theorem Af:type_of% @decide_eq_true:=@decide_eq_true
theorem Ag:type_of% @if_neg:=@if_neg
theorem Ah:type_of% @List.map_append:=@List.map_append
theorem Ai:type_of% @if_pos:=@if_pos
theorem Aj:type_of% @List.size_toArray:=@List.size_toArray
theorem Ak:type_of% @List.mem_cons_of_mem:=@List.mem_cons_of_mem
theorem Al:type_of% @Nat.ne_of_lt:=@Nat.ne_of_lt
theorem Am:type_of% @List.mem_cons_self:=@List.mem_cons_self
theorem An:type_of% @List.length_append:=@List.length_append
theorem Ao:type_of% @PySem.Paired.length:=@PySem.Paired.length
theorem Ap:type_of% @List.mem_singleton:=@List.mem_singleton
theorem Aq:type_of% @List.mem_cons:=@List.mem_cons
theorem Ar:type_of% @List.mem_append_right:=@List.mem_append_right
theorem As:type_of% @Nat.lt_of_lt_of_le:=@Nat.lt_of_lt_of_le
theorem At:type_of% @Option.some.inj:=@Option.some.inj
theorem Au:type_of% @Nat.zero_le:=@Nat.zero_le
theorem Av:type_of% @List.length_take:=@List.length_take
theorem Aw:type_of% @PySem.W.mg_none_of:=@PySem.W.mg_none_of
theorem Ax:type_of% @List.mem_of_getElem?:=@List.mem_of_getElem?
theorem Ay:type_of% @PySem.F.plainAttrs_list:=@PySem.F.plainAttrs_list
theorem Az:type_of% @List.map_cons:=@List.map_cons
theorem AA:type_of% @PySem.wpAny_mono:=@PySem.wpAny_mono
theorem AB:type_of% @List.take_add_one:=@List.take_add_one
theorem AC:type_of% @List.take_length:=@List.take_length
theorem AD:type_of% @PySem.F.slot_list_append:=@PySem.F.slot_list_append
theorem AE:type_of% @PySem.F.type_list_append:=@PySem.F.type_list_append
theorem AF:type_of% @List.length_singleton:=@List.length_singleton
theorem AG:type_of% @Nat.ne_of_gt:=@Nat.ne_of_gt
theorem AH:type_of% @List.mem_map:=@List.mem_map
theorem AI:type_of% @List.length_drop:=@List.length_drop
theorem AJ:type_of% @List.mem_append:=@List.mem_append
theorem AK:type_of% @Ne.symm:=@Ne.symm
theorem AL:type_of% @Option.toList_some:=@Option.toList_some
theorem AM:type_of% @PyProof.Rows.callWith_type1:=@PyProof.Rows.callWith_type1
theorem AN:type_of% @PySem.wpAny_field:=@PySem.wpAny_field
theorem AO:type_of% @PySem.PassesOwn.never:=@PySem.PassesOwn.never
theorem AQ:type_of% @PySem.sizeLine_eq:=@PySem.sizeLine_eq
theorem AR:type_of% @PySem.Heap.size_push:=@PySem.Heap.size_push
theorem AS:type_of% @List.map_map:=@List.map_map
theorem AT:type_of% @List.length_cons:=@List.length_cons
theorem AU:type_of% @PyProof.Rows.boot_tuple:=@PyProof.Rows.boot_tuple
theorem AV:type_of% @PySem.wpAny_Call_Name_kw:=@PySem.wpAny_Call_Name_kw
theorem AW:type_of% @PySem.boot_len:=@PySem.boot_len
theorem AX:type_of% @Nat.le_trans:=@Nat.le_trans
theorem AY:type_of% @List.replicate_succ:=@List.replicate_succ
theorem AZ:type_of% @PySem.wpAny_truthy_bool:=@PySem.wpAny_truthy_bool
theorem A0:type_of% @PySem.wpAny_newObj_type:=@PySem.wpAny_newObj_type
theorem A1:type_of% @PySem.wpAny_seqItems:=@PySem.wpAny_seqItems
theorem A3:type_of% @congrArg:=@congrArg
theorem A4:type_of% @List.lookup_cons:=@List.lookup_cons
theorem A5:type_of% @PySem.W.mg_of:=@PySem.W.mg_of
theorem A6:type_of% @PySem.W.kia_one:=@PySem.W.kia_one
theorem A7:type_of% @Int.emod_lt_of_pos:=@Int.emod_lt_of_pos
theorem A8:type_of% @List.flatten_cons:=@List.flatten_cons
theorem A9:type_of% @of_decide_eq_true:=@of_decide_eq_true
theorem Ba:type_of% @List.mem_map_of_mem:=@List.mem_map_of_mem
theorem Bb:type_of% @List.nodup_cons:=@List.nodup_cons
theorem Bc:type_of% @Bool.and_eq_true:=@Bool.and_eq_true
theorem Bd:type_of% @List.not_mem_nil:=@List.not_mem_nil
theorem Be:type_of% @PySem.wpAny_updateSeq:=@PySem.wpAny_updateSeq
theorem Bg:type_of% @Int.emod_nonneg:=@Int.emod_nonneg
theorem Bh:type_of% @PySem.wpAny_holding:=@PySem.wpAny_holding
theorem Bi:type_of% @PySem.Around.under_plainId:=@PySem.Around.under_plainId
theorem Bj:type_of% @Array.length_toList:=@Array.length_toList
theorem Bk:type_of% @PySem.mem_of_lookup:=@PySem.mem_of_lookup
theorem Bl:type_of% @PySem.F.plain_extend_loop:=@PySem.F.plain_extend_loop
theorem Bm:type_of% @PySem.wpAny_call_entry:=@PySem.wpAny_call_entry
theorem Bn:type_of% @List.all_eq_true:=@List.all_eq_true
theorem Bo:type_of% @PySem.F.plain_max_loop:=@PySem.F.plain_max_loop
theorem Bp:type_of% @PyProof.Rows.boot_isinstance:=@PyProof.Rows.boot_isinstance
theorem Bq:type_of% @List.take_of_length_le:=@List.take_of_length_le
theorem Br:type_of% @PyProof.Rows.boot_list:=@PyProof.Rows.boot_list
theorem Bs:type_of% @Bool.false_eq_true:=@Bool.false_eq_true
theorem Bt:type_of% @List.append_nil:=@List.append_nil
theorem Bu:type_of% @Nat.lt_irrefl:=@Nat.lt_irrefl
theorem Bv:type_of% @PySem.plainId_quiet:=@PySem.plainId_quiet
theorem Bw:type_of% @PySem.F.slot_tuple_iterator_next:=@PySem.F.slot_tuple_iterator_next
theorem Bx:type_of% @List.sum_cons:=@List.sum_cons
theorem By:type_of% @Int.toNat_natCast:=@Int.toNat_natCast
theorem Bz:type_of% @List.append_assoc:=@List.append_assoc
theorem BB:type_of% @Nat.lt_succ_of_lt:=@Nat.lt_succ_of_lt
theorem BC:type_of% @List.nodup_append:=@List.nodup_append
theorem BD:type_of% @List.mem_range:=@List.mem_range
theorem BF:type_of% @Nat.lt_succ_self:=@Nat.lt_succ_self
theorem BG:type_of% @Nat.le_add_right:=@Nat.le_add_right
theorem BH:type_of% @beq_eq_false_iff_ne:=@beq_eq_false_iff_ne
theorem BI:type_of% @List.any_cons:=@List.any_cons
theorem BJ:type_of% @PySem.wpAny_standAt:=@PySem.wpAny_standAt
theorem BL:type_of% @PySem.wpAny_pyIter_tuple:=@PySem.wpAny_pyIter_tuple
theorem BM:type_of% @PySem.wpAny_ite_split:=@PySem.wpAny_ite_split
theorem BN:type_of% @PySem.Obj.data_mapFields:=@PySem.Obj.data_mapFields
theorem BO:type_of% @PySem.F.slot_zip_next:=@PySem.F.slot_zip_next
theorem BP:type_of% @PySem.codeAny_builtin:=@PySem.codeAny_builtin
theorem BQ:type_of% @PySem.wpAny_letGo:=@PySem.wpAny_letGo
theorem BS:type_of% @PySem.codeAny_mono:=@PySem.codeAny_mono
theorem BU:type_of% @List.nodup_nil:=@List.nodup_nil
namespace L2
open PySem PySem.Spec PyProof.Rows
abbrev cv:=Sum Int Str
def mS:cv->Value->Bool
 | .inl k,v=>Value.isInt k v
 | .inr x,v=>Value.isStrOf x v
def yO (w:World):cv->Int
 | .inl k=>hashInt k
 | .inr x=>hashStr w x
theorem bJ:∀ {k:cv}{v:Value},mS k v=true->(∃ i t,k=Sum.inl i/\v=Value.int i t)\/(∃ x t,k=Sum.inr x/\v=Value.str x t)
 | .inl i,v,h=>by
  obtain⟨t,e⟩:=Value.isInt_shape (k:=i) (v:=v) h;exact .inl ⟨i,t,rfl,e⟩
 | .inr x,v,h=>by
  obtain⟨t,e⟩:=Value.isStrOf_shape (x:=x) (v:=v) h;exact .inr ⟨x,t,rfl,e⟩
theorem rV (i:Int)(t:Tok):mS (.inl i) (.int i t)=true:=by simp[mS,Value.isInt]
theorem rW (x:Str)(t:Tok):mS (.inr x) (.str x t)=true:=by simp[mS,Value.isStrOf]
theorem wm (a b:Int):decide ((Sum.inl a:cv)=Sum.inl b)=(a == b):=by
 by_cases e:a=b
 ·subst e;simp
 ·have h:¬ (Sum.inl a:cv)=Sum.inl b:=fun q=>e (Sum.inl.inj q)
  rw[Ab h];exact (BH.mpr e).symm
theorem wu (a b:Str):decide ((Sum.inr a:cv)=Sum.inr b)=decide (a=b):=by
 by_cases e:a=b
 ·subst e;simp
 ·have h:¬ (Sum.inr a:cv)=Sum.inr b:=fun q=>e (Sum.inr.inj q)
  rw[Ab h,Ab e]
theorem wo (a:Int)(b:Str):decide ((Sum.inl a:cv)=Sum.inr b)=false:=Ab (fun q=>nomatch q)
theorem wq (a:Str)(b:Int):decide ((Sum.inr a:cv)=Sum.inl b)=false:=Ab (fun q=>nomatch q)
def bZ (prog:Program)(w:World):PySem.KeyKind prog w cv where
 is:=mS
 hash:=yO w
 inj:=fun v a b ha hb=>by
  rcases bJ ha with ⟨i,t,rfl,rfl⟩ | ⟨x,t,rfl,rfl⟩
  ·rcases bJ hb with ⟨j,u,rfl,e⟩ | ⟨y,u,rfl,e⟩
   ·injection e with e1 _;rw[e1]
   ·exact nomatch e
  ·rcases bJ hb with ⟨j,u,rfl,e⟩ | ⟨y,u,rfl,e⟩
   ·exact nomatch e
   ·injection e with e1 _;rw[e1]
 byValue:=fun k v h=>by
  rcases bJ h with ⟨i,t,rfl,rfl⟩ | ⟨x,t,rfl,rfl⟩<;>rfl
 pyHash:=fun hv h=>by
  rcases bJ hv with ⟨i,t,rfl,rfl⟩ | ⟨x,t,rfl,rfl⟩
  ·exact wpAny_pyHash_int h
  ·exact wpAny_pyHash_str h
 eqBool:=fun hu hv h=>by
  rcases bJ hu with ⟨i,t,rfl,rfl⟩ | ⟨x,t,rfl,rfl⟩
  ·rcases bJ hv with ⟨j,u,rfl,rfl⟩ | ⟨y,u,rfl,rfl⟩
   ·rw[wm]at h;exact wpAny_eqBool_int h
   ·rw[wo]at h;exact SeqAt.EqAt.int_str i t y u _ _ _ _ h
  ·rcases bJ hv with ⟨j,u,rfl,rfl⟩ | ⟨y,u,rfl,rfl⟩
   ·rw[wq]at h;exact SeqAt.EqAt.str_int x t j u _ _ _ _ h
   ·rw[wu]at h;exact wpAny_eqBool_str h
 «strs»:=fun k x t v h=>by
  rcases bJ h with ⟨i,u,rfl,e⟩ | ⟨y,u,rfl,e⟩
  ·exact nomatch e
  ·injection e with e1 _
   subst e1;cases v<;>rfl
theorem oE (prog:Program)(w:World)(i:Int)(t:Tok):(bZ prog w).is (.inl i) (.int i t)=true:=rV i t
theorem oF (prog:Program)(w:World)(x:Str)(t:Tok):(bZ prog w).is (.inr x) (.str x t)=true:=rW x t
inductive V where
 | non | bl (b:Bool) | int (i:Int) | str (x:Str) | byt (b:Array UInt8) | flt (b:UInt64) | ref (a:Addr) | ty (n:String)
 deriving DecidableEq
def aO:V->Value->Prop
 | .non,u=>u=Value.none
 | .bl b,u=>u=Value.bool b
 | .int i,u=>∃ t,u=Value.int i t
 | .str x,u=>∃ t,u=Value.str x t
 | .byt b,u=>∃ t,u=Value.bytes b t
 | .flt b,u=>∃ t,u=Value.float b t
 | .ref a,u=>u=Value.ref a
 | .ty n,u=>u=Value.type n
abbrev Vals:List V->List Value->Prop:=Paired aO
theorem Vals.length {xs:List V}{us:List Value}(r:Vals xs us):xs.length=us.length:=Ao r
theorem Vals.get:∀ {xs:List V}{us:List Value}{i:Nat}{x:V},Vals xs us->xs[i]? = some x->∃ u,us[i]? = some u/\aO x u
 | _,_,_,_,.nil,e=>by simp at e
 | _,_,0,_,.cons r _,e=>by simp at e;subst e;exact⟨_,rfl,r⟩
 | _,_,i+1,x,.cons _ t,e=>by
  obtain⟨u,h1,h2⟩:=Vals.get (i:=i) (x:=x) t (by simpa using e);exact⟨u,by simpa using h1,h2⟩
theorem Vals.append:∀ {xs ys:List V}{us ws:List Value},Vals xs us->Vals ys ws->Vals (xs++ys) (us++ws)
 | _,_,_,_,.nil,s=>s
 | _,_,_,_,.cons r t,s=>.cons r (Vals.append t s)
theorem Vals.take:∀ {xs:List V}{us:List Value}(n:Nat),Vals xs us->Vals (xs.take n) (us.take n)
 | _,_,0,_=>.nil
 | _,_,_+1,.nil=>.nil
 | _,_,n+1,.cons r t=>.cons r (Vals.take n t)
theorem Vals.drop:∀ {xs:List V}{us:List Value}(n:Nat),Vals xs us->Vals (xs.drop n) (us.drop n)
 | _,_,0,r=>r
 | _,_,_+1,.nil=>.nil
 | _,_,n+1,.cons _ t=>Vals.drop n t
def hV:Option V->Option Value->Prop
 | some v,some u=>aO v u
 | none,none=>True
 | _,_=>False
def KV {κ:Type}:List (κ×V)->List (κ×Value)->Prop:=Paired fun (p:κ×V)(q:κ×Value)=>p.1=q.1/\aO p.2 q.2
def kV:cv->V
 | .inl i=>.int i
 | .inr x=>.str x
inductive HO where
 | lst (xs:List V)
 | tup (xs:List V)
 | dK (kvs:List (cv×V)) | dT (kvs:List (List cv×V))
 | set (S:Int->Bool) (n:Nat)
 | ins (C dx:Addr) (fs:List (Str×V))
 | own (x:Addr)
 | xd (fs:List (Str×V))
 | met (f x:Addr)
 | rng (lo hi:Int)
 | frz (o:Obj) (u:HO)
 | tbl (ps:Array Value)
 | ext (φ:Heap->Prop)
abbrev Hp:=Addr->Option HO
def aD (H:Hp)(a:Addr)(o:HO):Hp:=fun b=>if b=a then some o else H b
theorem aa {H:Hp}{a:Addr}{o:HO}:aD H a o a=some o:=by unfold aD;rw[Ai rfl]
theorem ap {H:Hp}{a b:Addr}{o:HO}(h:b≠a):aD H a o b=H b:=by unfold aD;rw[Ag h]
theorem og {H:Hp}{a:Addr}{o u:HO}:aD (aD H a o) a u=aD H a u:=by
 funext b;unfold aD;split<;>rfl
theorem vB {H:Hp}{a b:Addr}{o u:HO}(h:H a=some o)(h':H b=some u)(d:o≠u):a≠b:=by
 intro e;subst e;rw[h]at h';exact d (At h')
theorem aH {H:Hp}{a b:Addr}{o:HO}(h:H a=some o)(h':H b=none):a≠b:=by
 intro e;subst e;rw[h]at h';cases h'
def iD (h:Heap)(a:Addr)(items:Array Value):Prop:=∃ o,h.get? a=some o/\o.cls=.type "tuple"/\∃ n,(o.data,o.dict)=(Data.seq items n,(none:Option Addr))
theorem iD.old {h:Heap}{a:Addr}{items:Array Value}(x:iD h a items):IsTup h a items:=let ⟨o,e,c,n,d⟩:=x;⟨o,e,c,n,(Prod.mk.inj d).1⟩
theorem iD.new (h:Heap)(items:Array Value):iD (h.push { cls:=.type "tuple",data:=.seq items }) h.objs.size items:=⟨_,Heap.get?_push_size _ rfl,rfl,_,rfl⟩
section
variable (P:Program)(w:World)
def bv (H:Hp)(h:Heap)(a:Addr):HO->Prop
 | .lst xs=>xs.length<=sizeLine/\∃ (its:List Value)(n:Nat),Vals xs its/\h.get? a=some { cls:=.type "list",data:=.seq its.toArray n }
 | .tup xs=>xs.length<=sizeLine/\∃ its:List Value,Vals xs its/\iD h a its.toArray
 | .dK kvs=>kvs.length<=sizeLine/\(a == sysModules)=false/\∃ vs,KV kvs vs/\h.DictOf (bZ P w) a vs
 | .dT kvs=>kvs.length<=sizeLine/\(a == sysModules)=false/\∃ xs:List (List cv×Addr×Value),
   Paired (fun (p:List cv×V)(q:List cv×Addr×Value)=>p.1=q.1/\H q.2.1=some (.tup (p.1.map kV))/\aO p.2 q.2.2) kvs xs /\
   ∃ o es ep,h.get? a=some o/\o.ExactDict/\o.data=.dict es ep/\es.toList=xs.map (entryOfKey (tupleKind (bZ P w)))/\(xs.map (·.1)).Nodup
 | .set S n=>h.SetOf (intKind P w) a S n
 | .ins C dx fs=>H dx=some (.own a)/\fs.length<=1000/\dx≠a/\h.get? a=some (PySem.W.instObj C dx) /\
   ∃ mA,h.Ns1 dx mA/\(∀ f,hV (fs.lookup f) (mA f))/\PySem.Within mA (fs.map (·.1))
 | .own _=>∃ o,h.get? a=some o
 | .xd fs=>∃ mA,h.Ns1 a mA/\∀ f,hV (fs.lookup f) (mA f)
 | .rng lo hi=>∃ t u v,h.get? a=some { cls:=.type "range",data:=.fields #[.int lo t,.int hi u,.int 1 v] }
 | .frz o u=>h.get? a=some o/\bv H h a u
 | .tbl ps=>h.get? a=some { cls:=.none,data:=.fields ps }
 | .met f x=>h.get? a=some (PySem.W.methodObj (.ref f) (.ref x))
 | .ext φ=>φ h/\(∃ o,h.get? a=some o)/\∀ h1 h2:Heap,φ h1->(∀ o,h1.get? a=some o->h2.get? a=some o)->φ h2
def f8 (H:Hp)(h:Heap):Prop:=∀ a o,H a=some o->bv P w H h a o
end
section
variable {P:Program}{w:World}{H H':Hp}{h h':Heap}{a:Addr}{o:HO}
theorem bv.lt (x:bv P w H h a o):a<h.objs.size:=by
 cases o with
 | lst xs=>obtain⟨_,_,_,_,e⟩:=x;exact Aa e
 | tup xs=>obtain⟨_,_,_,p⟩:=x;exact p.old.lt
 | dK kvs=>obtain⟨_,_,_,_,o,_,_,e,_⟩:=x;exact Aa e
 | dT kvs=>obtain⟨_,_,_,_,o,_,_,e,_⟩:=x;exact Aa e
 | set S n=>obtain⟨o,_,_,_,e,_⟩:=x;exact Aa e
 | ins C dx fs=>obtain⟨_,_,_,e,_⟩:=x;exact Aa e
 | own y=>obtain⟨_,e⟩:=x;exact Aa e
 | xd fs=>obtain⟨_,⟨_,_,_,e,_⟩,_⟩:=x;exact Aa e
 | rng lo hi=>obtain⟨_,_,_,e⟩:=x;exact Aa e
 | frz ob u=>obtain⟨e,_⟩:=x;exact Aa e
 | tbl ps=>exact Aa (show h.get? a=some _ from x)
 | met f y=>exact Aa (show h.get? a=some _ from x)
 | ext φ=>obtain⟨_,⟨_,e⟩,_⟩:=x;exact Aa e
theorem Paired.mapP {α β:Type}{F G:α->β->Prop}:∀ {l₁:List α}{l₂:List β},Paired F l₁ l₂->(∀ a b,F a b->G a b)->Paired G l₁ l₂
 | _,_,.nil,_=>.nil
 | _,_,.cons r t,f=>.cons (f _ _ r) (Paired.mapP t f)
theorem bv.stay (x:bv P w H h a o)(k:∀ b u,(b=a\/H b=some (.own a))->h.get? b=some u->h'.get? b=some u)
  (ho:∀ b,H b=some (.own a)->H' b=some (.own a)) (ht:∀ b xs,H b=some (.tup xs)->H' b=some (.tup xs)):bv P w H' h' a o:=by
 induction o with
 | lst xs=>obtain⟨z,its,n,r,e⟩:=x;exact⟨z,its,n,r,k _ _ (.inl rfl) e⟩
 | tup xs=>obtain⟨z,its,r,ob,e,c⟩:=x;exact⟨z,its,r,ob,k _ _ (.inl rfl) e,c⟩
 | dK kvs=>obtain⟨z,y,vs,r,ob,es,ep,e,c⟩:=x;exact⟨z,y,vs,r,ob,es,ep,k _ _ (.inl rfl) e,c⟩
 | dT kvs =>
  obtain⟨z,y,xs,r,ob,es,ep,e,c⟩:=x;exact⟨z,y,xs,Paired.mapP r fun p q z=>⟨z.1,ht _ _ z.2.1,z.2.2⟩,ob,es,ep,k _ _ (.inl rfl) e,c⟩
 | set S n=>obtain⟨ob,es,ep,t,e,c⟩:=x;exact⟨ob,es,ep,t,k _ _ (.inl rfl) e,c⟩
 | ins C dx fs =>
  obtain⟨d,z,ne,e,mA,⟨od,es,ep,e2,c⟩,r⟩:=x;exact⟨ho _ d,z,ne,k _ _ (.inl rfl) e,mA,⟨od,es,ep,k _ _ (.inr d) e2,c⟩,r⟩
 | own y=>obtain⟨ob,e⟩:=x;exact⟨ob,k _ _ (.inl rfl) e⟩
 | xd fs=>obtain⟨mA,⟨od,es,ep,e,c⟩,r⟩:=x;exact⟨mA,⟨od,es,ep,k _ _ (.inl rfl) e,c⟩,r⟩
 | rng lo hi=>obtain⟨t,u,v,e⟩:=x;exact⟨t,u,v,k _ _ (.inl rfl) e⟩
 | frz ob u ih=>obtain⟨e,q⟩:=x;exact⟨k _ _ (.inl rfl) e,ih q⟩
 | tbl ps =>
  have e:h.get? a=some { cls:=.none,data:=.fields ps }:=x
  show h'.get? a=some { cls:=.none,data:=.fields ps }
  exact k a _ (.inl rfl) e
 | met f y =>
  have e:h.get? a=some (PySem.W.methodObj (.ref f) (.ref y)):=x
  show h'.get? a=some (PySem.W.methodObj (.ref f) (.ref y))
  exact k a _ (.inl rfl) e
 | ext φ=>obtain⟨p,⟨o,e⟩,st⟩:=x;exact⟨st _ _ p fun o q=>k _ _ (.inl rfl) q,⟨o,k _ _ (.inl rfl) e⟩,st⟩
theorem f8.lt (x:f8 P w H h)(e:H a=some o):a<h.objs.size:=(x a o e).lt
theorem f8.fresh (x:f8 P w H h)(e:h.objs.size<=a):H a=none:=by
 cases q:H a with
 | none=>rfl
 | some u=>exact absurd (As (x.lt q) e) (Bu _)
theorem f8.kept (x:f8 P w H h)(k:∀ b u,h.get? b=some u->h'.get? b=some u):f8 P w H h':=fun a o e =>
 (x a o e).stay (fun b u _ q=>k b u q) (fun _ q=>q) fun _ _ q=>q
theorem f8.laid (x:f8 P w H h)(k:∀ b u,h.get? b=some u->h'.get? b=some u)(hp:h.objs.size<=a)(new:bv P w (aD H a o) h' a o):f8 P w (aD H a o) h':=fun b u e=>by
 have hn:=x.fresh hp
 by_cases hb:b=a
 ·subst hb;rw[aa]at e;cases e;exact new
 ·rw[ap hb]at e
  exact (x b u e).stay (fun c v _ q=>k c v q) (fun c q=>by rw[ap (aH q hn)];exact q) fun c xs q=>by rw[ap (aH q hn)];exact q
end
def Rd (H:Hp)(a:Addr)(u:HO):Prop:=H a=some u\/∃ o,H a=some (.frz o u)
theorem Rd.of {H:Hp}{a:Addr}{u:HO}(h:H a=some u):Rd H a u:=.inl h
theorem Rd.ok {P:Program}{w:World}{H:Hp}{h:Heap}{a:Addr}{u:HO}(r:Rd H a u)(x:f8 P w H h):bv P w H h a u:=by
 rcases r with r | ⟨o,r⟩
 ·exact x a u r
 ·obtain⟨_,q⟩:=x a _ r
  exact q
def xc:Option HO->Prop
 | some (.lst _)=>True
 | some (.dK _)=>True
 | some (.dT _)=>True
 | some (.set _ _)=>True
 | some (.ins _ _ _)=>True
 | some (.ext _)=>True
 | _=>False
section
variable {P:Program}{w:World}{H:Hp}{h h':Heap}{x e:Addr}{o':HO}
theorem f8.write (ok:f8 P w H h)(mu:xc (H x))(he:e=x\/H e=some (.own x))(k:∀ b u,b≠e->h.get? b=some u->h'.get? b=some u)(heo:∃ u,h'.get? e=some u)
  (new:bv P w (aD H x o') h' x o'):f8 P w (aD H x o') h':=fun b u q=>by
 have nown:∀ c y,H c=some (.own y)->c≠x:=fun c y r z=>by subst z;rw[r]at mu;exact mu
 have ntup:∀ c xs,H c=some (.tup xs)->c≠x:=fun c xs r z=>by subst z;rw[r]at mu;exact mu
 by_cases hb:b=x
 ·subst hb;rw[aa]at q;cases q;exact new
 ·rw[ap hb]at q
  by_cases hbe:b=e
  ·have q':H b=some (.own x):=by
    rcases he with z | z
    ·exact absurd (hbe.trans z) hb
    ·rw[hbe];exact z
   rw[q]at q';cases q';obtain⟨v,hv⟩:=heo;exact⟨v,by rw[hbe];exact hv⟩
  ·refine (ok b u q).stay (fun c v hc r=>k c v ?_ r) (fun c r=>by rw[ap (nown c b r)];exact r) fun c xs r=>by rw[ap (ntup c xs r)];exact r
   rcases hc with rfl | hc
   ·exact hbe
   ·rintro rfl
    rcases he with z | z
    ·exact nown c b hc z
    ·rw[hc]at z;cases z;exact hb rfl
end
structure Un (fs ex:List Addr)(H H':Hp)(h h':Heap):Prop where
 keep:∀ b o,h.get? b=some o->H b=none->b∉fs->b∉ex->h'.get? b=some o
 slot:∀ b o,h.get? b=some o->H b=none->b∈fs->b∉ex->∃ sl,h'.get? b=some { o with slots:=sl }
 free:∀ b o,h.get? b=some o->H b=none->b∉ex->H' b=none
 there:∀ b o,h.get? b=some o->b∉ex->∃ o',h'.get? b=some o'
 tups:∀ b xs,H b=some (.tup xs)->H' b=some (.tup xs)
 frzs:∀ b o u,H b=some (.frz o u)->H' b=some (.frz o u)
 tbls:∀ b ps,H b=some (.tbl ps)->∃ more,H' b=some (.tbl (ps++more))
section
variable {fs fs' ex ex':List Addr}{H H1 H2:Hp}{h h1 h2 h':Heap}{a x e:Addr}{o:HO}
theorem Un.any (u:Un fs ex H H1 h h1){b:Addr}{ob:Obj}(q:h.get? b=some ob)(n:H b=none)(hx:b∉ex):∃ sl,h1.get? b=some { ob with slots:=sl }:=by
 by_cases hb:b∈fs
 ·exact u.slot b ob q n hb hx
 ·exact⟨ob.slots,u.keep b ob q n hb hx⟩
theorem Un.kept (k:∀ b u,h.get? b=some u->h'.get? b=some u):Un fs ex H H h h' :=
 ⟨fun b ob q _ _ _=>k b ob q,fun b ob q _ _ _=>⟨ob.slots,k b ob q⟩,fun _ _ _ n _=>n,fun b ob q _=>⟨ob,k b ob q⟩,fun _ _ q=>q,fun _ _ _ q=>q,fun _ ps q=>⟨#[],by rw[q];simp⟩⟩
theorem Un.refl:Un fs ex H H h h:=Un.kept fun _ _ q=>q
theorem Un.laid (k:∀ b u,h.get? b=some u->h'.get? b=some u)(hp:h.objs.size<=a)(hn:H a=none):Un fs ex H (aD H a o) h h' where
 keep:=fun b u q _ _ _=>k b u q
 slot:=fun b u q _ _ _=>⟨u.slots,k b u q⟩
 free:=fun b u q n _=>by rw[ap (Al (As (Aa q) hp))];exact n
 there:=fun b u q _=>⟨u,k b u q⟩
 tups:=fun b xs q=>by rw[ap (aH q hn)];exact q
 frzs:=fun b u xs q=>by rw[ap (aH q hn)];exact q
 tbls:=fun b ps q=>⟨#[],by rw[ap (aH q hn),q];simp⟩
theorem Un.write (mu:xc (H x))(he:e=x\/H e=some (.own x))(k:∀ b u,b≠e->h.get? b=some u->h'.get? b=some u)(heo:∃ u,h'.get? e=some u):Un fs ex H (aD H x o) h h':=by
 have hx:∀ b,H b=none->b≠x:=fun b n z=>by subst z;rw[n]at mu;exact mu
 have hb:∀ b,H b=none->b≠e:=fun b n z=>by
  subst z;rcases he with r | r
  ·exact hx b n r
  ·rw[n]at r;cases r
 have hm:∀ b u,H b=some u->¬ xc (some u)->b≠x:=fun b u q nm z=>by subst z;rw[q]at mu;exact nm mu
 refine⟨fun b u q n _ _=>k b u (hb b n) q,fun b u q n _ _=>⟨u.slots,k b u (hb b n) q⟩,fun b u q n _=>by rw[ap (hx b n)];exact n,fun b u q _=>?_,
  fun b xs q=>by rw[ap (hm b _ q fun z=>z)];exact q,fun b u xs q=>by rw[ap (hm b _ q fun z=>z)];exact q,fun b ps q=>⟨#[],by rw[ap (hm b _ q fun z=>z),q];simp⟩⟩
 by_cases hbe:b=e
 ·subst hbe;exact heo
 ·exact⟨u,k b u hbe q⟩
end
def yo (h:Heap)(H:Hp):List Addr:=(List.range h.objs.size).filter fun a=>(H a).isSome
def m9 (h:Heap)(H:Hp):Heap:=PySem.W.hideAll h (yo h H)
theorem rR (h:Heap)(H:Hp):(m9 h H).objs.size=h.objs.size:=PySem.W.hideAll_size _ _
theorem tf {h:Heap}{H:Hp}{b:Addr}{o:Obj}(e:h.get? b=some o)(n:H b=none):(m9 h H).get? b=some o :=
 PySem.W.hideAll_get _ e fun hm=>by
  have q:(H b).isSome=true:=(List.mem_filter.mp hm).2;rw[n]at q;simp at q
theorem u4 {h:Heap}{H:Hp}{b:Addr}{o:Obj}(e:(m9 h H).get? b=some o):h.get? b=some o/\H b=none:=by
 have e':h.get? b=some o:=PySem.W.of_hideAll (yo h H) e;refine⟨e',?_⟩
 cases q:H b with
 | none=>rfl
 | some x =>
  have hm:b∈yo h H:=List.mem_filter.mpr ⟨BD.mpr (Aa e'),by simp[q]⟩;have z:(m9 h H).get? b=none:=PySem.W.hideAll_none (yo h H) hm;rw[z]at e;cases e
structure Mod (K:PySem.W.Frag)(mg:Str->Option Value)(base:Heap):Prop where
 kin:K.In base
 glob:base.Ns mainGlobals mg
 blt:∃ mb,base.Ns builtinsNs mb/\∀ x:Str,x≠"__name__"->mb x=bootBuiltins x
 nolimit:base.NoLimit
structure Cx where
 prog:Program
 w:World
 K:PySem.W.Frag
 mg:Str->Option Value
 base:Heap
 A:Around
 N:List Str
 s₀:Shared
 H₀:Hp
 env:Env
 outer:List Env
 stack:List Env
 ex:List Addr
 fn:Str->Bool
 calm:Bool
 pn:List (Addr×Obj)
 xe:Value->Shared->Prop
def gu (l:List Env):List Addr:=l.filterMap (·.frame)
abbrev Cx.fs (X:Cx):List Addr:=gu X.outer
def yE (sc:Scope)(x:Str):Prop:=sc.names.lookup x=some .local\/sc.names.lookup x=some .cell\/sc.names.lookup x=some .free
def wU (sc:Scope)(x:Str):Prop:=sc.names.lookup x=some .local\/sc.names.lookup x=some .cell
def yx (env:Env)(h:Heap)(m:Str->Option Value)(x:Str)(u:Value):Prop :=
 (env.kindOf x=some .local/\m x=some u)\/((env.kindOf x=some .cell\/env.kindOf x=some .free)/\∃ c,env.cells.lookup x=some c/\h.IsCell c (some u))
structure Cx.Ok (X:Cx):Prop where
 mod:Mod X.K X.mg X.base
 kind:X.env.scope.kind=.function
 glob:X.env.globals=mainGlobals
 blt:X.env.builtins=builtinsNs
 above:X.s₀.heap.objs.size<=X.env.locals
 inj:∀ x y c,X.env.cells.lookup x=some c->X.env.cells.lookup y=some c->x=y
 has:∀ x,(X.env.kindOf x=some .cell\/X.env.kindOf x=some .free)->∃ c,X.env.cells.lookup x=some c
 cab:∀ x c,X.fn x=true->X.env.cells.lookup x=some c->X.s₀.heap.objs.size<=c
 hd:X.calm=true->X.A.handled=none
 frames:X.A.frames=some X.stack
 stk:X.stack=X.outer\/(X.stack=X.env::X.outer/\X.env.frame=some X.env.locals)
 exf:∀ b∈X.ex,b≠X.env.locals/\∀ x c,X.env.cells.lookup x=some c->c≠b
 bs:∀ b o,X.base.get? b=some o->X.s₀.heap.get? b=some o/\X.H₀ b=none
 bsz:X.base.objs.size<=X.s₀.heap.objs.size
 noex:∀ b o,X.base.get? b=some o->b∉X.ex
 exfs:∀ b∈X.ex,b∉X.fs
 funs:X.s₀.heap.FunFrames X.base X.outer
 frf:∀ b∈X.fs,X.H₀ b=none
structure az (X:Cx)(pins:List (Addr×Obj))(σ:List (Option V))(H:Hp)(s:Shared):Prop where
 ok:X.Ok
 os:s.os=X.s₀.os
 bare:AllBare s.gens
 base:Un X.fs X.ex X.H₀ H X.s₀.heap s.heap
 loc:∃ m,s.heap.Ns X.env.locals m/\∀ (i:Nat)(x:Str)(v:V),X.N[i]? = some x->σ[i]? = some (some v)->yE X.env.scope x->∃ u,aO v u/\yx X.env s.heap m x u
 cell:∀ x c,X.env.cells.lookup x=some c->∃ v,s.heap.IsCell c v
 free:H X.env.locals=none
 freeC:∀ x c,X.env.cells.lookup x=some c->H c=none
 pin:∀ p∈X.pn++pins,s.heap.get? p.1=some p.2/\H p.1=none/\p.1≠X.env.locals/\p.1∉X.fs/\∀ v,p.2.data≠.cell v
 hok:f8 X.prog X.w H s.heap
 len:σ.length=X.N.length
section
variable {X:Cx}{pins:List (Addr×Obj)}{σ:List (Option V)}{H H':Hp}{s:Shared}{h':Heap}
theorem Cx.Ok.nofr (ok:X.Ok){b:Addr}{o:Obj}(e:X.base.get? b=some o):b∉X.fs:=fun hb=>by
 have:=(ok.funs.mem hb).1;rw[e]at this;cases this
theorem az.bs (I:az X pins σ H s):∀ b o,X.base.get? b=some o->s.heap.get? b=some o/\H b=none:=fun b o e =>
 ⟨I.base.keep b o (I.ok.bs b o e).1 (I.ok.bs b o e).2 (I.ok.nofr e) (I.ok.noex b o e),I.base.free b o (I.ok.bs b o e).1 (I.ok.bs b o e).2 (I.ok.noex b o e)⟩
theorem az.bk (I:az X pins σ H s):∀ b o,X.base.get? b=some o->s.heap.get? b=some o:=fun b o e=>(I.bs b o e).1
theorem az.mod (I:az X pins σ H s):Mod X.K X.mg X.base:=I.ok.mod
theorem az.kIn (I:az X pins σ H s):X.K.In s.heap:=I.ok.mod.kin.keeps I.bk
theorem az.lt (I:az X pins σ H s):X.env.locals<s.heap.objs.size:=let ⟨_,hn,_⟩:=I.loc;hn.lt
theorem az.sz (I:az X pins σ H s):X.s₀.heap.objs.size<=s.heap.objs.size:=AX I.ok.above (Nat.le_of_lt I.lt)
theorem az.nofs (I:az X pins σ H s){a:Addr}(h:s.heap.objs.size<=a):a∉X.fs:=fun hb=>by
 obtain⟨_,o,ho,_⟩:=I.ok.funs.mem hb;exact absurd (As (Aa ho) (AX I.sz h)) (Bu _)
theorem az.cne (I:az X pins σ H s):∀ x c,X.env.cells.lookup x=some c->c≠X.env.locals:=fun x c e z=>by
 obtain⟨v,o,ho,hd⟩:=I.cell x c e;obtain⟨m,⟨o',es,ep,ho',hd',_⟩,_⟩:=I.loc;rw[z,ho']at ho;cases ho;rw[hd']at hd;cases hd
theorem az.funs (I:az X pins σ H s):s.heap.FunFrames X.base X.outer:=by
 have all:∀ (l:List Env),(∀ b∈gu l,b∈X.fs)->X.s₀.heap.FunFrames X.base l->s.heap.FunFrames X.base l:=by
  intro l
  induction l with
  | nil=>intro _ _;trivial
  | cons env r ih =>
   intro hs hl;obtain⟨hk,⟨L,o,hf,hn,ho,hd⟩,hr⟩:=hl;have hL:L∈X.fs:=hs L (by unfold gu;rw[List.filterMap_cons,hf];exact Am);obtain⟨sl,e⟩:=I.base.slot L o ho (I.ok.frf L hL) hL fun z=>I.ok.exfs L z hL;exact⟨hk,⟨L,_,hf,hn,e,hd⟩,ih (fun b hb=>hs b (by unfold gu;rw[List.filterMap_cons,hf];exact Ak _ hb)) hr⟩
 exact all X.outer (fun _ hb=>hb) I.ok.funs
theorem az.stack (I:az X pins σ H s):s.heap.FunFrames X.base X.stack:=by
 rcases I.ok.stk with e | ⟨e,hf⟩
 ·rw[e];exact I.funs
 ·rw[e]
  obtain⟨m,hn,_⟩:=I.loc;refine .cons (by rw[I.ok.kind];decide) hf hn ?_ I.funs;exact Heap.get?_none_of_le (AX I.ok.bsz I.ok.above)
theorem az.stkSub (I:az X pins σ H s):∀ b∈gu X.stack,b∈X.env.locals::X.fs:=fun b hb=>by
 rcases I.ok.stk with e | ⟨e,hf⟩
 ·rw[e]at hb;exact Ak _ hb
 ·rw[e]at hb
  unfold gu at hb;rw[List.filterMap_cons,hf]at hb;exact hb
theorem az.stkFree (I:az X pins σ H s):∀ b∈gu X.stack,H b=none:=fun b hb=>by
 rcases Aq.mp (I.stkSub b hb) with e | hb
 ·rw[e];exact I.free
 ·obtain⟨_,o,ho,_⟩:=I.ok.funs.mem hb
  exact I.base.free b o ho (I.ok.frf b hb) fun z=>I.ok.exfs b z hb
theorem az.step {g':Array GenState}{t':Nat}{d':Drawn}{ch:List Addr}(I:az X pins σ H s)
  (hch:∀ b∈ch,(b∈X.ex\/X.s₀.heap.objs.size<=b)/\b≠X.env.locals/\(∀ x c,X.env.cells.lookup x=some c->c≠b)/\∀ p∈X.pn++pins,p.1≠b)
  (keep:∀ b o,b≠X.env.locals->b∉X.fs->b∉ch->s.heap.get? b=some o->H b=none->h'.get? b=some o)
  (slot:∀ b o,b≠X.env.locals->b∈X.fs->b∉ch->s.heap.get? b=some o->H b=none->∃ sl,h'.get? b=some { o with slots:=sl }) (free:∀ b o,b∉ch->s.heap.get? b=some o->H b=none->H' b=none)
  (there:∀ b o,b∉ch->s.heap.get? b=some o->∃ o',h'.get? b=some o')
  (tups:∀ b xs,H b=some (.tup xs)->H' b=some (.tup xs)) (frzs:∀ b o u,H b=some (.frz o u)->H' b=some (.frz o u)) (tbls:∀ b ps,H b=some (.tbl ps)->∃ more,H' b=some (.tbl (ps++more)))
  (ns:∀ m,s.heap.Ns X.env.locals m->h'.Ns X.env.locals m) (hok:f8 X.prog X.w H' h') (hg:AllBare g') :
  az X pins σ H' { s with heap:=h',gens:=g',drawn:=d',toks:=t' }:=by
 have neL:∀ b o,X.s₀.heap.get? b=some o->b≠X.env.locals:=fun b o e=>Al (As (Aa e) I.ok.above)
 have neC:∀ b o,X.s₀.heap.get? b=some o->b∉X.ex->b∉ch:=fun b o e hx hb=>by
  rcases (hch b hb).1 with z | z
  ·exact hx z
  ·exact absurd (As (Aa e) z) (Bu _)
 have cellK:∀ x c,X.env.cells.lookup x=some c->∀ v,s.heap.IsCell c v->h'.IsCell c v:=fun x c e v ⟨o,ho,hd⟩=>by
  have nch:c∉ch:=fun z=>(hch c z).2.2.1 x c e rfl
  by_cases hc:c∈X.fs
  ·obtain⟨sl,q⟩:=slot c o (I.cne x c e) hc nch ho (I.freeC x c e)
   exact⟨_,q,hd⟩
  ·exact⟨o,keep c o (I.cne x c e) hc nch ho (I.freeC x c e),hd⟩
 refine⟨I.ok,I.os,hg,⟨fun b o e n hb hx=>?_,fun b o e n hb hx=>?_,fun b o e n hx=>?_,fun b o e hx=>?_,fun b xs e=>tups b xs (I.base.tups b xs e),fun b o xs e=>frzs b o xs (I.base.frzs b o xs e),fun b ps e=>?_⟩,?_,fun x c e=>?_,?_,fun x c e=>?_,fun p hp=>?_,hok,I.len⟩
 ·exact keep b o (neL b o e) hb (neC b o e hx) (I.base.keep b o e n hb hx) (I.base.free b o e n hx)
 ·obtain⟨sl,e1⟩:=I.base.slot b o e n hb hx
  obtain⟨sl',e2⟩:=slot b _ (neL b o e) hb (neC b o e hx) e1 (I.base.free b o e n hx);exact⟨sl',e2⟩
 ·obtain⟨o',e1⟩:=I.base.there b o e hx
  exact free b o' (neC b o e hx) e1 (I.base.free b o e n hx)
 ·obtain⟨o',e1⟩:=I.base.there b o e hx
  exact there b o' (neC b o e hx) e1
 ·obtain⟨m1,e1⟩:=I.base.tbls b ps e
  obtain⟨m2,e2⟩:=tbls b _ e1;exact⟨m1++m2,by rw[e2,Array.append_assoc]⟩
 ·obtain⟨m,hn,hl⟩:=I.loc
  refine⟨m,ns m hn,fun i x v e1 e2 e3=>?_⟩;obtain⟨u,r,l⟩:=hl i x v e1 e2 e3;refine⟨u,r,?_⟩;rcases l with l | ⟨k,c,e,z⟩
  ·exact .inl l
  ·exact .inr ⟨k,c,e,cellK x c e _ z⟩
 ·obtain⟨v,z⟩:=I.cell x c e
  exact⟨v,cellK x c e v z⟩
 ·obtain⟨m,⟨o,_,_,ho,_⟩,_⟩:=I.loc
  exact free _ o (fun z=>(hch _ z).2.1 rfl) ho I.free
 ·obtain⟨v,o,ho,hd⟩:=I.cell x c e
  exact free c o (fun z=>(hch c z).2.2.1 x c e rfl) ho (I.freeC x c e)
 ·obtain⟨e,n,ne,nf,d⟩:=I.pin p hp
  have nch:p.1∉ch:=fun z=>(hch p.1 z).2.2.2 p hp rfl;exact⟨keep p.1 p.2 ne nf nch e n,free p.1 p.2 nch e n,ne,nf,d⟩
theorem az.un {t':Nat}(I:az X pins σ H s)(u:Un X.fs [] H H' s.heap h')(hok:f8 X.prog X.w H' h'):az X pins σ H' { s with heap:=h',toks:=t' }:=by
 obtain⟨m,⟨o,es,ep,ho,r⟩,_⟩:=id I.loc;obtain⟨sl,hL⟩:=u.any ho I.free (by simp)
 exact I.step (g':=s.gens) (d':=s.drawn) (ch:=[]) (fun _ z=>nomatch z) (fun b o _ hb _ e n=>u.keep b o e n hb (by simp)) (fun b o _ hb _ e n=>u.slot b o e n hb (by simp)) (fun b o _ e n=>u.free b o e n (by simp)) (fun b o _ e=>u.there b o e (by simp)) u.tups u.frzs u.tbls (fun m' hm=>by
  obtain⟨o',es',ep',ho',r'⟩:=hm;rw[ho]at ho';cases ho'
  exact⟨_,es',ep',hL,r'⟩) hok I.bare
theorem az.call {g':Array GenState}{t':Nat}{d':Drawn}{ch:List Addr}(I:az X pins σ H s)(u:Un (gu X.stack) ch H H' s.heap h')(hok:f8 X.prog X.w H' h')(hg:AllBare g')
  (hch:∀ b∈ch,(b∈X.ex\/X.s₀.heap.objs.size<=b)/\b≠X.env.locals/\(∀ x c,X.env.cells.lookup x=some c->c≠b)/\∀ p∈X.pn++pins,p.1≠b) :
  az X pins σ H' { s with heap:=h',gens:=g',drawn:=d',toks:=t' }:=by
 obtain⟨m,⟨o,es,ep,ho,r⟩,_⟩:=id I.loc;obtain⟨sl,hL⟩:=u.any ho I.free fun z=>(hch _ z).2.1 rfl
 exact I.step (ch:=ch) hch (fun b o hL hb hc e n=>u.keep b o e n (fun z=>(Aq.mp (I.stkSub b z)).elim hL hb) hc) (fun b o _ _ hc e n=>u.any e n hc) (fun b o hc e n=>u.free b o e n hc) (fun b o hc e=>u.there b o e hc) u.tups u.frzs u.tbls (fun m' hm=>by
  obtain⟨o',es',ep',ho',r'⟩:=hm;rw[ho]at ho';cases ho'
  exact⟨_,es',ep',hL,r'⟩) hok hg
theorem az.turned {t':Nat}{it:Addr}(I:az X pins σ H s)(k:∀ b o,b≠it->s.heap.get? b=some o->h'.get? b=some o)(hn:H it=none)(hL:it≠X.env.locals)
  (h1:it∈X.ex\/X.s₀.heap.objs.size<=it) (h2:∀ x c,X.env.cells.lookup x=some c->c≠it) (h3:∀ p∈X.pn++pins,p.1≠it):az X pins σ H { s with heap:=h',toks:=t' }:=by
 have nit:∀ b u,H b=some u->b≠it:=fun b u e z=>by rw[z,hn]at e;cases e
 refine I.step (g':=s.gens) (d':=s.drawn) (ch:=[it]) (fun b hb=>?_) (fun b o _ _ hc e _=>k b o (fun z=>hc (by simp[z])) e) (fun b o _ _ hc e _=>⟨o.slots,k b o (fun z=>hc (by simp[z])) e⟩) (fun _ _ _ _ n=>n)
  (fun b o hc e=>⟨o,k b o (fun z=>hc (by simp[z])) e⟩) (fun _ _ e=>e) (fun _ _ _ e=>e) (fun b ps e=>⟨#[],by rw[e];simp⟩) (fun m hm=>?_) (fun b u e=>?_) I.bare
 ·have e:b=it:=by simpa using hb
  subst e;exact⟨h1,hL,h2,h3⟩
 ·obtain⟨o,es,ep,ho,r⟩:=hm
  exact⟨o,es,ep,k _ o (AK hL) ho,r⟩
 ·refine (I.hok b u e).stay (fun c v hc q=>k c v ?_ q) (fun _ q=>q) fun _ _ q=>q
  rcases hc with z | z
  ·rw[z];exact nit b u e
  ·exact nit c _ z
theorem az.tok (I:az X pins σ H s)(t:Nat):az X pins σ H { s with toks:=t }:=I.un (h':=s.heap) (t':=t) Un.refl I.hok
theorem az.kept {t':Nat}(I:az X pins σ H s)(k:∀ b u,s.heap.get? b=some u->h'.get? b=some u):az X pins σ H { s with heap:=h',toks:=t' }:=I.un (Un.kept k) (I.hok.kept k)
theorem az.laid {a:Addr}{o:HO}{t':Nat}(I:az X pins σ H s)(k:∀ b u,s.heap.get? b=some u->h'.get? b=some u)(hp:s.heap.objs.size<=a)(new:bv X.prog X.w (aD H a o) h' a o) :
  az X pins σ (aD H a o) { s with heap:=h',toks:=t' }:=I.un (Un.laid k hp (I.hok.fresh hp)) (I.hok.laid k hp new)
theorem az.write {x e:Addr}{o:HO}{t':Nat}(I:az X pins σ H s)(mu:xc (H x))(he:e=x\/H e=some (.own x))(k:∀ b u,b≠e->s.heap.get? b=some u->h'.get? b=some u)(heo:∃ u,h'.get? e=some u)
  (new:bv X.prog X.w (aD H x o) h' x o):az X pins σ (aD H x o) { s with heap:=h',toks:=t' }:=I.un (Un.write mu he k heo) (I.hok.write mu he k heo new)
theorem az.pins_of {pins':List (Addr×Obj)}(I:az X pins σ H s)(h:∀ p∈pins',s.heap.get? p.1=some p.2/\H p.1=none/\p.1≠X.env.locals/\p.1∉X.fs/\∀ v,p.2.data≠.cell v):az X pins' σ H s :=
 ⟨I.ok,I.os,I.bare,I.base,I.loc,I.cell,I.free,I.freeC,fun p hp=>(AJ.mp hp).elim (fun z=>I.pin p (List.mem_append_left _ z)) (h p),I.hok,I.len⟩
theorem oP {N:List Str}(hN:N.Nodup){i j:Nat}{x:Str}(a:N[i]? = some x)(b:N[j]? = some x):i=j:=by
 obtain⟨h1,e1⟩:=List.getElem?_eq_some_iff.mp a;obtain⟨h2,e2⟩:=List.getElem?_eq_some_iff.mp b;exact (List.getElem_inj hN).mp (e1.trans e2.symm)
theorem mZ {M:Model}{A:Around}{E:Value->Shared->Prop}{i:Nat}{x:Str}{v:V}{u:Value}{Q:Unit->Shared->Prop}(I:az X pins σ H s)(hN:X.N.Nodup)(hi:X.N[i]? = some x)(hx:wU X.env.scope x)(r:aO v u)
  (h:∀ s',az X pins (σ.set i (some v)) H s'->(∃ a,Heap.SameBut a s.heap s'.heap/\(a=X.env.locals\/X.env.cells.lookup x=some a))->Q () s') (hf:X.fn x=true\/X.env.scope.names.lookup x=some .local:=by first | exact .inl rfl | exact .inr rfl | assumption):wpAny M A (storeName X.env x u) Q E s:=by
 obtain⟨m,hn,hl⟩:=id I.loc
 have hcls:(X.env.scope.kind == .class||(X.env.scope.kind == .module&&X.env.locals != X.env.globals))=false:=by rw[I.ok.kind];rfl
 have hiσ:i<σ.length:=by rw[I.len];exact (List.getElem?_eq_some_iff.mp hi).1
 have cne:=I.cne
 have tracked:∀ {a:Addr}{h':Heap},(∃ o,s.heap.get? a=some o/\H a=none)->Heap.SameBut a s.heap h'->f8 X.prog X.w H h':=fun {a h'} ha hs b ob e=>by
  obtain⟨_,_,hfree⟩:=ha;refine (I.hok b ob e).stay (fun c w' hc q=>(hs.2 c ?_).trans q) (fun _ q=>q) fun _ _ q=>q;rintro rfl;rcases hc with rfl | hc
  ·rw[hfree]at e;cases e
  ·rw[hfree]at hc;cases hc
 rcases hx with hk | hk
 ·refine wpAny_storeName_local hk hn (fun h' hn' hs=>?_) hcls
  obtain⟨oL,_,_,hoL,_⟩:=id hn;refine h _ ⟨I.ok,I.os,I.bare,⟨fun b o e n hb hx=>?_,fun b o e n hb hx=>?_,I.base.free,fun b o e hx=>?_,I.base.tups,I.base.frzs,I.base.tbls⟩,⟨_,hn',fun j y v' e1 e2 e3=>?_⟩,fun y c e=>?_,I.free,I.freeC,fun p hp=>?_,tracked ⟨oL,hoL,I.free⟩ hs,by simpa using I.len⟩ ⟨_,hs,.inl rfl⟩
  ·exact (hs.2 b (Al (As (Aa e) I.ok.above))).trans (I.base.keep b o e n hb hx)
  ·obtain⟨sl,e1⟩:=I.base.slot b o e n hb hx
   exact⟨sl,(hs.2 b (Al (As (Aa e) I.ok.above))).trans e1⟩
  ·obtain⟨o',e1⟩:=I.base.there b o e hx
   exact⟨o',(hs.2 b (Al (As (Aa e) I.ok.above))).trans e1⟩
  ·by_cases hj:j=i
   ·subst hj
    rw[hi]at e1;cases e1;rw[List.getElem?_set_self hiσ]at e2;cases e2;exact⟨u,r,.inl ⟨hk,by simp⟩⟩
   ·rw[List.getElem?_set_ne (AK hj)]at e2
    obtain⟨u',r',q⟩:=hl j y v' e1 e2 e3;refine⟨u',r',?_⟩;rcases q with ⟨k,e⟩ | ⟨k,c,e,z⟩
    ·refine .inl ⟨k,?_⟩
     have:y≠x:=fun e=>hj (oP hN e1 (e▸hi));simp[this,e]
    ·exact .inr ⟨k,c,e,z.sameBut hs (cne y c e)⟩
  ·obtain⟨w',z⟩:=I.cell y c e
   exact⟨w',z.sameBut hs (cne y c e)⟩
  ·obtain⟨e,n,ne,nf,d⟩:=I.pin p hp
   exact⟨(hs.2 p.1 ne).trans e,n,ne,nf,d⟩
 ·have hfn:X.fn x=true:=by
   rcases hf with z | z
   ·exact z
   ·rw[z]at hk;cases hk
  obtain⟨c,hc⟩:=I.ok.has x (.inl hk);obtain⟨w',z⟩:=I.cell x c hc;refine wpAny_storeName_cell I.ok.kind hk hc z (fun h' hc' hs=>?_);obtain⟨oc,hoc,hocd⟩:=id z;refine h { s with heap:=h' } ⟨I.ok,I.os,I.bare,⟨fun b o e n hb hx=>?_,fun b o e n hb hx=>?_,I.base.free,fun b o e hx=>?_,I.base.tups,I.base.frzs,I.base.tbls⟩,⟨m,hn.sameBut hs (AK (cne x c hc)),fun j y v' e1 e2 e3=>?_⟩,fun y c' e=>?_,I.free,I.freeC,fun p hp=>?_,tracked ⟨oc,hoc,I.freeC x c hc⟩ hs,by simpa using I.len⟩ ⟨c,hs,.inr hc⟩
  ·exact (hs.2 b (Al (As (Aa e) (I.ok.cab x c hfn hc)))).trans (I.base.keep b o e n hb hx)
  ·obtain⟨sl,e1⟩:=I.base.slot b o e n hb hx
   exact⟨sl,(hs.2 b (Al (As (Aa e) (I.ok.cab x c hfn hc)))).trans e1⟩
  ·obtain⟨o',e1⟩:=I.base.there b o e hx
   exact⟨o',(hs.2 b (Al (As (Aa e) (I.ok.cab x c hfn hc)))).trans e1⟩
  ·by_cases hj:j=i
   ·subst hj
    rw[hi]at e1;cases e1;rw[List.getElem?_set_self hiσ]at e2;cases e2;exact⟨u,r,.inr ⟨.inl hk,c,hc,hc'⟩⟩
   ·rw[List.getElem?_set_ne (AK hj)]at e2
    obtain⟨u',r',q⟩:=hl j y v' e1 e2 e3;refine⟨u',r',?_⟩;rcases q with q | ⟨k,c',e,z'⟩
    ·exact .inl q
    ·refine .inr ⟨k,c',e,z'.sameBut hs ?_⟩
     rintro rfl;exact hj (oP hN e1 (I.ok.inj _ _ _ e hc▸hi))
  ·by_cases hcc:c'=c
   ·subst hcc;exact⟨_,hc'⟩
   ·obtain⟨w2,z2⟩:=I.cell y c' e
    exact⟨w2,z2.sameBut hs hcc⟩
  ·obtain⟨e,n,ne,nf,d⟩:=I.pin p hp
   refine⟨(hs.2 p.1 ?_).trans e,n,ne,nf,d⟩;intro q;rw[q,hoc]at e;have q':oc=p.2:=At e;exact d w' (by rw[<-q'];exact hocd)
theorem ph {M:Model}{A:Around}{E:Value->Shared->Prop}{i:Nat}{x:Str}{v:V}{u:Value}{Q:Unit->Shared->Prop}(I:az X pins σ H s)(hN:X.N.Nodup)(hi:X.N[i]? = some x)(hx:wU X.env.scope x)(r:aO v u)
  (h:∀ s',az X pins (σ.set i (some v)) H s'->Q () s') (hf:X.fn x=true\/X.env.scope.names.lookup x=some .local:=by first | exact .inl rfl | exact .inr rfl | assumption):wpAny M A (storeName X.env x u) Q E s :=
 mZ I hN hi hx r (fun s' I' _=>h s' I') hf
theorem az.call' {s':Shared}{ch:List Addr}(I:az X pins σ H s)(ho:s'.os=s.os)(u:Un (gu X.stack) ch H H' s.heap s'.heap)(hok:f8 X.prog X.w H' s'.heap)(hg:AllBare s'.gens)
  (hch:∀ b∈ch,(b∈X.ex\/X.s₀.heap.objs.size<=b)/\b≠X.env.locals/\(∀ x c,X.env.cells.lookup x=some c->c≠b)/\∀ p∈X.pn++pins,p.1≠b):az X pins σ H' s':=by
 obtain⟨h',g',d',t',o'⟩:=s';have e:o'=s.os:=ho;subst e;exact I.call (g':=g') (t':=t') (d':=d') u hok hg hch
end
abbrev XK:=Value->Option Addr->Hp->Prop
abbrev St:=List (Option V)
abbrev VK:=V->Hp->Prop
abbrev TE:=St->Hp->VK->Prop
abbrev TT:=St->Hp->(Bool->Hp->Prop)->Prop
abbrev TA:=St->Hp->(List V->Hp->Prop)->Prop
structure hJ where
 nx:St->Hp->Prop
 rt:VK
 bk:St->Hp->Prop:=fun _ _=>False
 ct:St->Hp->Prop:=fun _ _=>False
abbrev TS:=hJ->St->Hp->Prop
def EP (X:Cx)(pins:List (Addr×Obj))(σ:St)(Q:VK)(u:Value)(s':Shared):Prop:=∃ v H',az X pins σ H' s'/\aO v u/\Q v H'
def TP (X:Cx)(pins:List (Addr×Obj))(σ:St)(Q:Bool->Hp->Prop)(b:Bool)(s':Shared):Prop:=∃ H',az X pins σ H' s'/\Q b H'
def AP (X:Cx)(pins:List (Addr×Obj))(σ:St)(Q:List V->Hp->Prop)(us:List Value)(s':Shared):Prop:=∃ vs H',az X pins σ H' s'/\Vals vs us/\Q vs H'
def SP (X:Cx)(pins:List (Addr×Obj))(D:hJ)(f:Flow)(s':Shared):Prop :=
 match f with
 | .next=>∃ σ' H',az X pins σ' H' s'/\D.nx σ' H'
 | .brk=>∃ σ' H',az X pins σ' H' s'/\D.bk σ' H'
 | .cont=>∃ σ' H',az X pins σ' H' s'/\D.ct σ' H'
 | .ret u=>∃ v σ' H',az X pins σ' H' s'/\aO v u/\D.rt v H'
def PE (X:Cx)(e:Expr)(t:TE):Prop :=
 ∀ (pins:List (Addr×Obj))(s:Shared)(σ:St)(H:Hp)(Q:VK),az X pins σ H s->t σ H Q->wpAny (model X.prog X.w) X.A (eval e X.env) (EP X pins σ Q) X.xe s
def PT (X:Cx)(e:Expr)(t:TT):Prop :=
 ∀ (pins:List (Addr×Obj))(s:Shared)(σ:St)(H:Hp)(Q:Bool->Hp->Prop),az X pins σ H s->t σ H Q->wpAny (model X.prog X.w) X.A (isTrue e X.env (eval e X.env)) (TP X pins σ Q) X.xe s
def PW (X:Cx)(e:Expr)(t:TT):Prop :=
 ∀ (whole:Sem Value)(pins:List (Addr×Obj))(s:Shared)(σ:St)(H:Hp)(Q:Bool->Hp->Prop),az X pins σ H s->t σ H Q->wpAny (model X.prog X.w) X.A (isTrue e X.env whole) (TP X pins σ Q) X.xe s
theorem PW.pt {X:Cx}{e:Expr}{t:TT}(h:PW X e t):PT X e t:=h _
def PA (X:Cx)(es:List Expr)(t:TA):Prop :=
 ∀ (pos:Pos)(pins:List (Addr×Obj))(s:Shared)(σ:St)(H:Hp)(Q:List V->Hp->Prop),az X pins σ H s->t σ H Q->wpAny (model X.prog X.w) X.A (spliced (backTo pos (starEach es X.env))) (AP X pins σ Q) X.xe s
def PS (X:Cx)(st:Stmt)(t:TS):Prop :=
 ∀ (pins:List (Addr×Obj))(s:Shared)(σ:St)(H:Hp)(D:hJ),az X pins σ H s->t D σ H->wpAny (model X.prog X.w) X.A (exec st X.env) (SP X pins D) X.xe s
def pO (X:Cx)(st:List Stmt)(t:TS):Prop :=
 ∀ (pins:List (Addr×Obj))(s:Shared)(σ:St)(H:Hp)(D:hJ),az X pins σ H s->t D σ H->wpAny (model X.prog X.w) X.A (execs st X.env) (SP X pins D) X.xe s
theorem bf {α:Type}{t:Sem α}{Q Q':α->Shared->Prop}{M:Model}{A:Around}{E:Value->Shared->Prop}{s:Shared}(h:wpAny M A t Q E s)(hQ:∀ a s,Q a s->Q' a s):wpAny M A t Q' E s:=AA h hQ fun _ _ x=>x
section
variable {X:Cx}
inductive TV (i:Nat) (σ:St) (H:Hp) (Q:VK):Prop
 | mk (v:V) (e:σ[i]? = some (some v)) (h:Q v H):TV i σ H Q
def yb (i:Nat):TE:=fun σ H Q=>TV i σ H Q
def tC (v:V):TE:=fun _ H Q=>Q v H
theorem wF {i:Nat}{x:Str}{pos:Pos}(hN:X.N[i]? = some x)(hv:yE X.env.scope x)(hd:(x == ("__debug__" : Str))=false:=by decide)(hcd:(x == ("__classdict__" : Str))=false:=by decide):PE X (.Name x pos) (yb i):=by
 intro pins s σ H Q I h;obtain⟨v,e,h⟩:=h;obtain⟨m,hn,hl⟩:=I.loc;obtain⟨u,r,l⟩:=hl i x v hN e hv;have fin:EP X pins σ Q u s:=⟨v,H,I,r,h⟩;rcases l with ⟨hk,hm⟩ | ⟨hk,c,hc,hcell⟩
 ·exact wpAny_Name (wpAny_loadName_local I.ok.kind hk hn hm fin) hd
 ·rcases hk with hk | hk
  ·exact wpAny_Name (wpAny_loadName_cell I.ok.kind hk hc hcell fin) hd
  ·exact wpAny_Name (wpAny_loadName_free I.ok.kind hk hc hcell fin hcd) hd
theorem af {i j pos}:PE X (.Constant (.int i) j pos) (tC (.int i)):=fun _ _ _ H _ I h=>wpAny_Constant_int ⟨.int i,H,I.tok _,⟨_,rfl⟩,h⟩
theorem eR {b j pos}:PE X (.Constant (.bool b) j pos) (tC (.bl b)):=fun _ _ _ H _ I h=>Constant_bool ⟨.bl b,H,I,rfl,h⟩
theorem gD {j pos}:PE X (.Constant .none j pos) (tC .non):=fun _ _ _ H _ I h=>Constant_none ⟨.non,H,I,rfl,h⟩
theorem aj {x j pos}:PE X (.Constant (.str x) j pos) (tC (.str x)):=fun _ _ _ H _ I h=>Calls.Constant_str ⟨.str x,H,I.tok _,⟨_,rfl⟩,h⟩
def Gl (X:Cx)(x:Str):Prop:=X.env.kindOf x=some .globalImplicit
theorem jd {E:Value->Shared->Prop}{pins:List (Addr×Obj)}{s:Shared}{σ:St}{H:Hp}{x:Str}{u:Value}{pos:Pos}{Q:Value->Shared->Prop}(I:az X pins σ H s)(hg:Gl X x)(hm:X.mg x=some u)(h:Q u s)
  (hd:(x == ("__debug__" : Str))=false:=by decide):wpAny (model X.prog X.w) X.A (eval (.Name x pos) X.env) Q E s :=
 Calls.Name_function_global I.ok.kind hg (Calls.loadGlobal_global (by rw[I.ok.glob];exact I.mod.glob.keeps I.bk) hm h) hd
theorem dD {E:Value->Shared->Prop}{pins:List (Addr×Obj)}{s:Shared}{σ:St}{H:Hp}{x:Str}{u:Value}{pos:Pos}{Q:Value->Shared->Prop}(I:az X pins σ H s)(hg:Gl X x)(hm:X.mg x=none)(hv:bootBuiltins x=some u)(h:Q u s)
  (hn:x≠"__name__":=by decide) (hd:(x == ("__debug__" : Str))=false:=by decide):wpAny (model X.prog X.w) X.A (eval (.Name x pos) X.env) Q E s:=by
 obtain⟨mb,h1,h2⟩:=I.mod.blt;exact Calls.Name_function_global I.ok.kind hg (Calls.loadGlobal_builtin (by rw[I.ok.glob];exact I.mod.glob.keeps I.bk) hm (by rw[I.ok.blt];exact h1.keeps I.bk) ((h2 x hn).trans hv) h) hd
theorem ri {x:Str}{v:V}{u:Value}{pos:Pos}(hg:Gl X x)(hm:X.mg x=some u)(r:aO v u)(hd:(x == ("__debug__" : Str))=false:=by decide):PE X (.Name x pos) (tC v) :=
 fun _ _ _ H _ I h=>jd I hg hm ⟨v,H,I,r,h⟩ hd
theorem kL {x:Str}{v:V}{u:Value}{pos:Pos}(hg:Gl X x)(hm:X.mg x=none)(hv:bootBuiltins x=some u)(r:aO v u)(hn:x≠"__name__":=by decide)(hd:(x == ("__debug__" : Str))=false:=by decide):PE X (.Name x pos) (tC v) :=
 fun _ _ _ H _ I h=>dD I hg hm hv ⟨v,H,I,r,h⟩ hn hd
variable {a b:Expr}{ta tb:TE}{pos:Pos}
def PC (X:Cx)(op:CmpOp)(a b:Expr)(t:TE):Prop :=
 ∀ (pins:List (Addr×Obj))(s:Shared)(σ:St)(H:Hp)(Q:VK),az X pins σ H s->t σ H Q ->
  wpAny (model X.prog X.w) X.A (eval a X.env) (fun v s₁=>wpAny (model X.prog X.w) X.A (eval b X.env) (fun u s₂=>wpAny (model X.prog X.w) X.A (compareOp op v u) (EP X pins σ Q) X.xe s₂) X.xe s₁) X.xe s
theorem oO (b:Expr){op:CmpOp}(h:op≠.In)(h2:op≠.NotIn):behindInMarks op b=false:=by
 have e1:(op == CmpOp.In)=false:=by cases op<;>first | rfl | exact absurd rfl h
 have e2:(op == CmpOp.NotIn)=false:=by cases op<;>first | rfl | exact absurd rfl h2
 cases b<;>simp[behindInMarks,e1,e2]
def y6 (ta:TE):TE:=fun σ H Q=>ta σ H fun x H1=>Q (.bl (decide (x=.non))) H1
theorem aO.none_iff {x:V}{v:Value}(r:aO x v):(v == Value.none)=decide (x=.non):=by
 cases x with
 | non=>cases r;rfl
 | bl _=>cases r;rfl
 | int _=>obtain⟨t,rfl⟩:=r;rfl
 | str _=>obtain⟨t,rfl⟩:=r;rfl
 | byt _=>obtain⟨t,rfl⟩:=r;rfl
 | flt _=>obtain⟨t,rfl⟩:=r;rfl
 | ref _=>cases r;rfl
 | ty _=>cases r;rfl
theorem qq {j pos'}(ha:PE X a ta):PC X .Is a (.Constant .none j pos') (y6 ta):=by
 intro pins s σ H Q I h;refine bf (ha pins s σ H _ I h) fun v s1 ⟨x,H1,I1,r1,q1⟩=>?_;exact Constant_none (is_none_gen ⟨.bl _,H1,I1,by rw[r1.none_iff];rfl,q1⟩)
inductive yB (Q:Bool->Hp->Prop) (x:V) (H:Hp):Prop
 | mk (c:Bool) (e:x=.bl c) (h:Q c H):yB Q x H
def tB (t:TE):TT:=fun σ H Q=>t σ H fun x H1=>yB Q x H1
theorem wC {op:CmpOp}{t:TE}(h:PC X op a b t)(h1:behindInMarks op b=false:=by first | exact oO _ (by decide) (by decide) | rfl):PE X (.Compare a [op] [b] pos) t:=fun pins s σ H Q I hw=>wpAny_Compare1 (h pins s σ H Q I hw) h1
theorem lV {op:CmpOp}{t:TE}(h:PC X op a b t)(h1:behindInMarks op b=false:=by first | exact oO _ (by decide) (by decide) | rfl):PT X (.Compare a [op] [b] pos) (tB t):=by
 intro pins s σ H Q I hw;refine wpAny_isTrue_Compare1 (bf (h pins s σ H _ I hw) fun v s1 h1=>bf h1 fun u s2 h2=>bf h2 fun c s3 ⟨x,H1,I1,r1,q1⟩=>?_) h1;obtain⟨d,rfl,q⟩:=q1;cases r1;exact AZ ⟨H1,I1,q⟩
theorem fb {e:Expr}{t:TE}(h:PE X e t)(he:∀ whole,isTrue e X.env whole=(do let v <-whole;standAt e.pos;holding [v] (truthy v)):=by intro _;rfl):PT X e (tB t):=by
 intro pins s σ H Q I hw;refine isTrue_plain (bf (h pins s σ H _ I hw) fun v s1 ⟨x,H1,I1,r1,q1⟩=>?_) (he _);obtain⟨d,rfl,q⟩:=q1;cases r1;exact AZ ⟨H1,I1,q⟩
variable {tA tB':TT}{rest:List Expr}
def yW (t u:TT):TT:=fun σ H Q=>t σ H fun c H1=>if c=true then u σ H1 Q else Q false H1
def zR (t u:TT):TT:=fun σ H Q=>t σ H fun c H1=>if c=true then Q true H1 else u σ H1 Q
def y9 (t:TT):TT:=fun σ H Q=>t σ H fun c H1=>Q (!c) H1
theorem gY (ha:PT X a tA):PW X (.BoolOp .And [a] pos) tA:=by
 intro wh pins s σ H Q I h;refine isTrue_and (bf (ha pins s σ H Q I h) fun c s1 e=>?_)
 cases c with
 | true=>exact isTrue_and_nil e
 | false=>exact e
theorem nK (ha:PT X a tA):PW X (.BoolOp .Or [a] pos) tA:=by
 intro wh pins s σ H Q I h;refine isTrue_or (bf (ha pins s σ H Q I h) fun c s1 e=>?_)
 cases c with
 | false=>exact isTrue_or_nil e
 | true=>exact e
theorem iO (ha:PT X a tA)(hb:PW X (.BoolOp .And (b::rest) pos) tB'):PW X (.BoolOp .And (a::b::rest) pos) (yW tA tB'):=by
 intro wh pins s σ H Q I h;refine isTrue_and (bf (ha pins s σ H _ I h) fun c s1 ⟨H1,I1,q1⟩=>?_)
 cases c with
 | true=>exact hb wh pins s1 σ H1 Q I1 q1
 | false=>exact⟨H1,I1,q1⟩
theorem o7 (ha:PT X a tA)(hb:PW X (.BoolOp .Or (b::rest) pos) tB'):PW X (.BoolOp .Or (a::b::rest) pos) (zR tA tB'):=by
 intro wh pins s σ H Q I h;refine isTrue_or (bf (ha pins s σ H _ I h) fun c s1 ⟨H1,I1,q1⟩=>?_)
 cases c with
 | true=>exact⟨H1,I1,q1⟩
 | false=>exact hb wh pins s1 σ H1 Q I1 q1
theorem fL (ha:PT X a tA):PT X (.UnaryOp .Not a pos) (y9 tA):=by
 intro pins s σ H Q I h;exact isTrue_not (ha pins s σ H (fun c H1=>Q (!c) H1) I h)
def xS (ta tb:TE):TE:=fun σ H Q=>ta σ H fun x H1=>∃ c,x=.bl c/\if c=true then tb σ H1 Q else Q (.bl false) H1
def zc (ta tb:TE):TE:=fun σ H Q=>ta σ H fun x H1=>∃ c,x=.bl c/\if c=true then Q (.bl true) H1 else tb σ H1 Q
def xY (ta:TE):TE:=fun σ H Q=>ta σ H fun x H1=>∃ c,x=.bl c/\Q (.bl (!c)) H1
theorem jS {op}{t:TE}(h:PE X a t):PE X (.BoolOp op [a] pos) t:=fun pins s σ H Q I hw=>BoolOp_one (h pins s σ H Q I hw)
theorem nI (ha:PE X a ta)(hb:PE X (.BoolOp .And (b::rest) pos) tb):PE X (.BoolOp .And (a::b::rest) pos) (xS ta tb):=by
 intro pins s σ H Q I h;refine BoolOp_and (bf (ha pins s σ H _ I h) fun v s1 ⟨x,H1,I1,r1,q1⟩=>?_);obtain⟨c,rfl,q1⟩:=q1;cases r1;refine AZ ?_
 cases c with
 | true=>exact hb pins s1 σ H1 Q I1 q1
 | false=>exact⟨.bl false,H1,I1,rfl,q1⟩
theorem vD (ha:PE X a ta)(hb:PE X (.BoolOp .Or (b::rest) pos) tb):PE X (.BoolOp .Or (a::b::rest) pos) (zc ta tb):=by
 intro pins s σ H Q I h;refine BoolOp_or (bf (ha pins s σ H _ I h) fun v s1 ⟨x,H1,I1,r1,q1⟩=>?_);obtain⟨c,rfl,q1⟩:=q1;cases r1;refine AZ ?_
 cases c with
 | false=>exact hb pins s1 σ H1 Q I1 q1
 | true=>exact⟨.bl true,H1,I1,rfl,q1⟩
theorem wE (ha:PE X a ta):PE X (.UnaryOp .Not a pos) (xY ta):=by
 intro pins s σ H Q I h;refine UnaryOp_ (bf (ha pins s σ H _ I h) fun v s1 ⟨x,H1,I1,r1,q1⟩=>?_);obtain⟨c,rfl,q1⟩:=q1;cases r1;exact not_of (AZ ⟨.bl (!c),H1,I1,rfl,q1⟩)
def zQ (t:TT)(ta tb:TE):TE:=fun σ H Q=>t σ H fun c H1=>if c=true then ta σ H1 Q else tb σ H1 Q
theorem tQ {c:Expr}(hc:PT X c tA)(ha:PE X a ta)(hb:PE X b tb):PE X (.IfExp c a b pos) (zQ tA ta tb):=by
 intro pins s σ H Q I h;refine wpAny_IfExp (bf (hc pins s σ H _ I h) fun d s1 ⟨H1,I1,q1⟩=>?_)
 cases d with
 | true=>exact ha pins s1 σ H1 Q I1 q1
 | false=>exact hb pins s1 σ H1 Q I1 q1
end
def aR (K:PySem.W.Frag)(H:Hp)(a:Addr)(xs:List V):Prop :=
 Rd H a (.lst xs) \/
  ∃ (o:Obj)(its:Array Value)(n:Nat),K.lookup a=some o/\o.cls=.type "list"/\o.dict=none/\o.data=.seq its n/\its.size<=sizeLine/\Vals xs its.toList
def aG (K:PySem.W.Frag)(H:Hp)(a:Addr)(xs:List V):Prop :=
 Rd H a (.tup xs) \/
  ∃ (o:Obj)(its:Array Value)(n:Nat),K.lookup a=some o/\o.cls=.type "tuple"/\o.data=.seq its n/\its.size<=sizeLine/\Vals xs its.toList
def yF:Value->Option V
 | .none=>some .non
 | .bool b=>some (.bl b)
 | .int i _=>some (.int i)
 | .str x _=>some (.str x)
 | .bytes b _=>some (.byt b)
 | .float b _=>some (.flt b)
 | .ref a=>some (.ref a)
 | .type n=>some (.ty n)
 | _=>none
theorem aO.abs {x:V}{u:Value}(r:aO x u):yF u=some x:=by
 cases x with
 | non=>cases r;rfl
 | bl _=>cases r;rfl
 | int _=>obtain⟨t,rfl⟩:=r;rfl
 | str _=>obtain⟨t,rfl⟩:=r;rfl
 | byt _=>obtain⟨t,rfl⟩:=r;rfl
 | flt _=>obtain⟨t,rfl⟩:=r;rfl
 | ref _=>cases r;rfl
 | ty _=>cases r;rfl
theorem aO.inj {x y:V}{u:Value}(r:aO x u)(q:aO y u):x=y:=At (r.abs.symm.trans q.abs)
theorem Vals.inj:∀ {xs ys:List V}{us:List Value},Vals xs us->Vals ys us->xs=ys
 | _,_,_,.nil,.nil=>rfl
 | _,_,_,.cons r t,.cons r' t'=>by rw[r.inj r',Vals.inj t t']
section
variable {X:Cx}{pins:List (Addr×Obj)}{σ:St}{H:Hp}{s:Shared}{a:Addr}{xs ys:List V}
theorem aR.of {K:PySem.W.Frag}(h:H a=some (.lst xs)):aR K H a xs:=.inl (.inl h)
theorem aG.of {K:PySem.W.Frag}(h:H a=some (.tup xs)):aG K H a xs:=.inl (.inl h)
theorem az.list (I:az X pins σ H s)(h:aR X.K H a xs):∃ its:List Value,Vals xs its/\PlainL s.heap a its.toArray/\xs.length<=sizeLine:=by
 rcases h with h | ⟨o,its,n,hk,hc,hd,hs,hz,r⟩
 ·obtain⟨z,its,n,r,e⟩:=h.ok I.hok
  exact⟨its,r,⟨_,n,e,rfl,rfl,rfl⟩,z⟩
 ·refine⟨its.toList,r,⟨o,n,I.kIn a o hk,hc,hd,by simpa using hs⟩,?_⟩
  have e:=r.length;simp only[Bj]at e;omega
theorem az.tuple (I:az X pins σ H s)(h:aG X.K H a xs):∃ its:List Value,Vals xs its/\IsTup s.heap a its.toArray/\xs.length<=sizeLine:=by
 rcases h with h | ⟨o,its,n,hk,hc,hs,hz,r⟩
 ·obtain⟨z,its,r,p⟩:=h.ok I.hok
  exact⟨its,r,p.old,z⟩
 ·refine⟨its.toList,r,⟨o,I.kIn a o hk,hc,n,by simpa using hs⟩,?_⟩
  have e:=r.length;simp only[Bj]at e;omega
theorem az.list_inj (I:az X pins σ H s)(h:aR X.K H a xs)(h':aR X.K H a ys):xs=ys:=by
 obtain⟨its,r,⟨o,n,e,_,_,d⟩,_⟩:=I.list h;obtain⟨its',r',⟨o',n',e',_,_,d'⟩,_⟩:=I.list h';rw[e]at e';cases e';rw[d]at d';injection d' with d1 _
 have:its=its':=by simpa using A3 Array.toList d1
 subst this;exact r.inj r'
theorem az.tuple_inj (I:az X pins σ H s)(h:aG X.K H a xs)(h':aG X.K H a ys):xs=ys:=by
 obtain⟨its,r,⟨o,e,_,n,d⟩,_⟩:=I.tuple h;obtain⟨its',r',⟨o',e',_,n',d'⟩,_⟩:=I.tuple h';rw[e]at e';cases e';rw[d]at d';injection d' with d1 _
 have:its=its':=by simpa using A3 Array.toList d1
 subst this;exact r.inj r'
end
abbrev Cx.wish (X:Cx)(E:Value->Shared->Prop):Cx:={ X with xe:=E }
abbrev Cx.nox (X:Cx):Cx:=X.wish fun _ _=>False
theorem Cx.Ok.wish {X:Cx}(ok:X.Ok)(E:Value->Shared->Prop):(X.wish E).Ok :=
 ⟨ok.mod,ok.kind,ok.glob,ok.blt,ok.above,ok.inj,ok.has,ok.cab,ok.hd,ok.frames,ok.stk,ok.exf,ok.bs,ok.bsz,ok.noex,ok.exfs,ok.funs,ok.frf⟩
theorem Cx.Ok.unwish {X:Cx}{E:Value->Shared->Prop}(ok:(X.wish E).Ok):X.Ok :=
 ⟨ok.mod,ok.kind,ok.glob,ok.blt,ok.above,ok.inj,ok.has,ok.cab,ok.hd,ok.frames,ok.stk,ok.exf,ok.bs,ok.bsz,ok.noex,ok.exfs,ok.funs,ok.frf⟩
section
variable {X:Cx}{pins:List (Addr×Obj)}{σ:St}{H:Hp}{s:Shared}{E:Value->Shared->Prop}
theorem az.wish (I:az X pins σ H s)(E:Value->Shared->Prop):az (X.wish E) pins σ H s:=⟨I.ok.wish E,I.os,I.bare,I.base,I.loc,I.cell,I.free,I.freeC,I.pin,I.hok,I.len⟩
theorem az.unwish (I:az (X.wish E) pins σ H s):az X pins σ H s:=⟨I.ok.unwish,I.os,I.bare,I.base,I.loc,I.cell,I.free,I.freeC,I.pin,I.hok,I.len⟩
theorem SP.unwish {D:hJ}{f:Flow}{s':Shared}(h:SP (X.wish E) pins D f s'):SP X pins D f s':=by
 cases f with
 | next=>obtain⟨σ',H',I,q⟩:=h;exact⟨σ',H',I.unwish,q⟩
 | brk=>obtain⟨σ',H',I,q⟩:=h;exact⟨σ',H',I.unwish,q⟩
 | cont=>obtain⟨σ',H',I,q⟩:=h;exact⟨σ',H',I.unwish,q⟩
 | ret u=>obtain⟨v,σ',H',I,r,q⟩:=h;exact⟨v,σ',H',I.unwish,r,q⟩
theorem pO.nox {st:List Stmt}{t:TS}(h:pO X.nox st t):pO X st t:=fun pins s σ H D I hw =>
 AA (h pins s σ H D (I.wish _) hw) (fun _ _ q=>q.unwish) fun _ _ z=>False.elim z
end
section
variable {X:Cx}{st:Stmt}{rest:List Stmt}{t u:TS}{e:Expr}{te:TE}{pos:Pos}
def xX:TS:=fun D σ H=>D.nx σ H
def ze (t u:TS):TS:=fun D σ H=>t { D with nx:=u D } σ H
theorem ak:pO X [] xX:=fun _ _ σ H _ I h=>wpAny_execs_nil ⟨σ,H,I,h⟩
theorem ae (h1:PS X st t)(h2:pO X rest u):pO X (st::rest) (ze t u):=by
 intro pins s σ H D I h;refine wpAny_execs_cons (bf (h1 pins s σ H { D with nx:=u D } I h) fun f s1 q=>?_)
 cases f with
 | next =>
  obtain⟨σ',H',I',q⟩:=q;exact h2 pins s1 σ' H' D I' q
 | ret v=>exact q
 | brk=>exact q
 | cont=>exact q
theorem ag (h1:PS X st t):pO X [st] t:=by
 intro pins s σ H D I h;refine wpAny_execs_cons (bf (h1 pins s σ H D I h) fun f s1 q=>?_)
 cases f with
 | next=>exact wpAny_execs_nil q
 | ret v=>exact q
 | brk=>exact q
 | cont=>exact q
theorem az.quiet {pins:List (Addr×Obj)}{σ:St}{H:Hp}{s:Shared}(I:az X pins σ H s):interactive X.env=false:=by simp[interactive,I.ok.kind]
def xV (te:TE):TS:=fun D σ H=>te σ H fun _ H1=>D.nx σ H1
theorem bz (he:PE X e te)(hs:swapsWith e none pos.line X.env=pure false:=by rfl):PS X (.Expr e pos) (xV te):=by
 intro pins s σ H D I h;exact wpAny_Expr_any (bf (he pins s σ H _ I h) fun v s1 ⟨x,H1,I1,r1,q1⟩=>⟨σ,H1,I1,q1⟩) I.quiet hs
def zd (te:TE):TS:=fun D σ H=>te σ H D.rt
theorem am (he:PE X e te):PS X (.Return (some e) pos) (zd te):=by
 intro pins s σ H D I h;exact wpAny_Return_some (bf (he pins s σ H _ I h) fun v s1 ⟨x,H1,I1,r1,q1⟩=>⟨x,σ,H1,I1,r1,q1⟩)
def ya:TS:=fun D _ H=>D.rt .non H
theorem rk:PS X (.Return none pos) ya:=fun _ _ σ H _ I h=>wpAny_Return_none ⟨.non,σ,H,I,rfl,h⟩
def y4 (c:TT)(t u:TS):TS:=fun D σ H=>c σ H fun b H1=>if b=true then t D σ H1 else u D σ H1
theorem aF {c:Expr}{a b:List Stmt}{tc:TT}(hc:PT X c tc)(ha:pO X a t)(hb:pO X b u):PS X (.If c a b pos) (y4 tc t u):=by
 intro pins s σ H D I h;refine wpAny_If (bf (hc pins s σ H _ I h) fun d s1 ⟨H1,I1,q1⟩=>?_)
 cases d with
 | true=>exact ha pins s1 σ H1 D I1 q1
 | false=>exact hb pins s1 σ H1 D I1 q1
end
abbrev TG:=V->St->Hp->(St->Hp->Prop)->Prop
abbrev uC:=List V->St->Hp->(St->Hp->Prop)->Prop
def PG (X:Cx)(target:Expr)(t:TG):Prop :=
 ∀ (pins:List (Addr×Obj))(s:Shared)(σ:St)(H:Hp)(v:V)(u:Value)(Q:St->Hp->Prop),az X pins σ H s->aO v u->t v σ H Q ->
  wpAny (model X.prog X.w) X.A (assign target X.env u) (fun _ s'=>∃ σ' H',az X pins σ' H' s'/\Q σ' H') X.xe s
def xh (X:Cx)(ts:List Expr)(t:uC):Prop :=
 ∀ (pins:List (Addr×Obj))(s:Shared)(σ:St)(H:Hp)(vs:List V)(us:List Value)(Q:St->Hp->Prop),az X pins σ H s->Vals vs us->t vs σ H Q ->
  wpAny (model X.prog X.w) X.A (assignInOrder ((assignEach ts X.env).map (·.2)) us) (fun _ s'=>∃ σ' H',az X pins σ' H' s'/\Q σ' H') X.xe s
section
variable {X:Cx}{pos:Pos}
def iu (i:Nat):TG:=fun v σ H Q=>Q (σ.set i (some v)) H
theorem kM {i:Nat}{x:Str}(hN:X.N.Nodup)(hi:X.N[i]? = some x)(hx:wU X.env.scope x)(hf:X.fn x=true\/X.env.scope.names.lookup x=some .local:=by first | exact .inl rfl | exact .inr rfl | assumption):PG X (.Name x pos) (iu i):=by
 intro pins s σ H v u Q I r h;exact wpAny_assign_Name (ph I hN hi hx r (fun s' I'=>⟨_,H,I',h⟩) hf)
def yK:uC:=fun vs σ H Q=>vs=[]/\Q σ H
inductive GC (t:TG) (u:uC) (vs:List V) (σ:St) (H:Hp) (Q:St->Hp->Prop):Prop
 | mk (v:V) (r:List V) (e:vs=v::r) (h:t v σ H fun σ' H'=>u r σ' H' Q):GC t u vs σ H Q
def xo (t:TG)(u:uC):uC:=fun vs σ H Q=>GC t u vs σ H Q
theorem gV:xh X [] yK:=by
 intro pins s σ H vs us Q I r h;obtain⟨e,h⟩:=h;subst e;cases r;exact assignInOrder_nil ⟨σ,H,I,h⟩
theorem ca {e:Expr}{es:List Expr}{t:TG}{u:uC}(h1:PG X e t)(h2:xh X es u)
  (hs:(assignEach (e::es) X.env).map (·.2)=assign e X.env::(assignEach es X.env).map (·.2):=by rfl):xh X (e::es) (xo t u):=by
 intro pins s σ H vs us Q I r h;obtain⟨v,vr,e1,h⟩:=h;subst e1
 cases r with
 | cons r rr =>
  rw[hs];refine assignInOrder_cons (bf (h1 pins s σ H _ _ _ I r h) fun _ s1 ⟨σ1,H1,I1,q1⟩=>?_);exact h2 pins s1 σ1 H1 _ _ Q I1 rr q1
inductive GT (K:PySem.W.Frag) (n:Nat) (t:uC) (v:V) (σ:St) (H:Hp) (Q:St->Hp->Prop):Prop
 | mk (a:Addr) (xs:List V) (e:v=.ref a) (q:aG K H a xs) (l:xs.length=n) (h:t xs σ H Q):GT K n t v σ H Q
def xq (K:PySem.W.Frag)(n:Nat)(t:uC):TG:=fun v σ H Q=>GT K n t v σ H Q
theorem jT {es:List Expr}{k:Nat}{t:uC}{n:Nat}(hc:X.calm=true)(h:xh X es t)
  (hn:(assignEach es X.env).length=n:=by rfl) (hst:(assignEach es X.env).findIdx? (·.1)=none:=by rfl):PG X (.Tuple es k pos) (xq X.K n t):=by
 intro pins s σ H v u Q I r hw;obtain⟨a,xs,e1,hq,hl,hw⟩:=hw;subst e1;cases r;obtain⟨its,rv,ht,hz⟩:=I.tuple hq;refine assign_Tuple_tuple (I.ok.hd hc) ht (by simp[hn,<-hl,rv.length]) hst fun h' hx=>?_;have I1:az X pins σ H { s with heap:=h' }:=I.kept (t':=s.toks) fun b o e=>hx b o (Al (Aa e)) e;exact h pins _ σ H xs _ Q I1 (by simpa using rv) hw
def wI (te:TE)(g:TG):TS:=fun D σ H=>te σ H fun x H1=>g x σ H1 D.nx
theorem tZ {tg e:Expr}{te:TE}{g:TG}(he:PE X e te)(hg:PG X tg g)(hs:swapsWithSole [tg] e pos.line X.env=pure false:=by rfl)(hw:swappedStores [tg] e X.env=pure none:=by rfl)
  (h1:(assignEach [tg] X.env).map (·.2)=[assign tg X.env]:=by rfl):PS X (.Assign [tg] e pos) (wI te g):=by
 intro pins s σ H D I h;refine wpAny_Assign_stores (bf (he pins s σ H _ I h) fun v s1 ⟨x,H1,I1,r1,q1⟩=>?_) hs hw;rw[h1];exact bf (hg pins s1 σ H1 x v _ I1 r1 q1) fun _ s2 q=>q
theorem dE {i:Nat}{x:Str}{e:Expr}{te:TE}{pos':Pos}(hN:X.N.Nodup)(hi:X.N[i]? = some x)(hx:wU X.env.scope x)(he:PE X e te)(hs:swapsWith e (some (.Name x pos')) pos.line X.env=pure false:=by rfl)(hf:X.fn x=true\/X.env.scope.names.lookup x=some .local:=by first | exact .inl rfl | exact .inr rfl | assumption) :
  PS X (.Assign [.Name x pos'] e pos) (wI te (iu i)):=by
 intro pins s σ H D I h;refine wpAny_Assign_Name (bf (he pins s σ H _ I h) fun v s1 ⟨y,H1,I1,r1,q1⟩=>?_) hs;exact ph I1 hN hi hx r1 (fun s2 I2=>⟨_,H1,I2,q1⟩) hf
end
structure It where
 go:Nat->Hp->Prop
 yld:Nat->Hp->V->Hp->Prop
 stop:Nat->Hp->Prop
def eE (X:Cx)(pins:List (Addr×Obj))(H:Hp)(b:Addr):Prop :=
 H b=none/\b≠X.env.locals/\b∉X.fs/\(b∈X.ex\/X.s₀.heap.objs.size<=b)/\(∀ x c,X.env.cells.lookup x=some c->c≠b)/\∀ p∈X.pn++pins,p.1≠b
theorem az.fpOk {X:Cx}{pins:List (Addr×Obj)}{σ:St}{H H':Hp}{s:Shared}{b:Addr}(I:az X pins σ H s)(hb:s.heap.objs.size<=b)(hn:H' b=none):eE X pins H' b:=by
 refine⟨hn,AG (As I.lt hb),I.nofs hb,.inr (AX I.sz hb),fun x c e z=>?_,fun p hp z=>?_⟩
 ·obtain⟨v,q⟩:=I.cell x c e
  exact absurd (As q.lt (by rw[z];exact hb)) (Bu _)
 ·exact absurd (As (Aa (I.pin p hp).1) (by rw[z];exact hb)) (Bu _)
structure oo (P:Program)(w:World)(K:PySem.W.Frag)(tg:Expr)(J:It)(fp:List Addr)(it:Addr)(tn:Nat->Heap->Prop):Prop where
 mem:it∈fp
 obj:∀ i h,tn i h->∀ b∈fp,∃ o,h.get? b=some o/\∀ v,o.data≠.cell v
 keep:∀ i h h',tn i h->(∀ b∈fp,∀ o,h.get? b=some o->h'.get? b=some o)->tn i h'
 item:∀ (X:Cx),X.prog=P->X.w=w->X.K=K->X.calm=true->∀ (i:Nat)(pins:List (Addr×Obj))(s:Shared)(σ:St)(H:Hp)(E:Value->Shared->Prop),az X pins σ H s->(∀ b∈fp,eE X pins H b)->tn i s.heap->J.go i H ->
  wpAny (model P w) X.A (pyNext (.ref it)) (fun r s1=>∃ u,r=some u /\
   wpAny (model P w) X.A (letOwnedTupleGo tg (.ref it) u) (fun _ s2=>∃ x H',az X pins σ H' s2/\aO x u/\J.yld i H x H'/\tn (i+1) s2.heap/\∀ b∈fp,H' b=none) E s1) E s
 done:∀ (X:Cx),X.prog=P->X.w=w->X.K=K->X.calm=true->∀ (i:Nat)(pins:List (Addr×Obj))(s:Shared)(σ:St)(H:Hp)(E:Value->Shared->Prop),az X pins σ H s->(∀ b∈fp,eE X pins H b)->tn i s.heap->J.stop i H ->
  wpAny (model P w) X.A (pyNext (.ref it)) (fun r s1=>r=none/\az X pins σ H s1) E s
 self:∀ (A:Around)(i:Nat)(s:Shared)(Q:Value->Shared->Prop)(E:Value->Shared->Prop),tn i s.heap->Q (.ref it) s->wpAny (model P w) A (pyIter (.ref it)) Q E s
abbrev TI:=St->Hp->(It->Hp->Prop)->Prop
def zo (X:Cx)(pins:List (Addr×Obj))(σ:St)(tg:Expr)(R:It->Hp->Prop)(itv:Value)(s2:Shared):Prop :=
 ∃ (it:Addr)(fp:List Addr)(tn:Nat->Heap->Prop)(J:It)(H':Hp),itv=.ref it/\az X pins σ H' s2/\oo X.prog X.w X.K tg J fp it tn/\tn 0 s2.heap/\(∀ b∈fp,eE X pins H' b)/\R J H'
def PI (X:Cx)(tg iter:Expr)(wi:TI):Prop :=
 ∀ (pins:List (Addr×Obj))(s:Shared)(σ:St)(H:Hp)(R:It->Hp->Prop),az X pins σ H s->wi σ H R ->
  wpAny (model X.prog X.w) X.A (eval iter X.env) (fun v s1=>wpAny (model X.prog X.w) X.A (pyIter v) (zo X pins σ tg R) X.xe s1) X.xe s
theorem qU {M:Model}{A:Around}{E:Value->Shared->Prop}{s:Shared}{tg:Expr}{it:Addr}{u:Value}{o:Obj}{n:String}{vs:Array Value}{Q:Unit->Shared->Prop}(ho:s.heap.get? it=some o)(hc:o.cls=.type n)(hd:o.data=.fields vs)
  (hn:["enumerate","zip","dict_itemiterator","dict_reverseitemiterator","odict_iterator","itertools.zip_longest","itertools.pairwise"].contains n=false) (hQ:Q () s):wpAny M A (letOwnedTupleGo tg (.ref it) u) Q E s:=by
 unfold letOwnedTupleGo
 cases tg<;>first
  | exact Ac hQ
  | (cases u<;>first
    | exact Ac hQ
    | (refine z4 (wpAny_load ho ?_)
       rw[hc,hd]
       show wpAny M A (if (["enumerate","zip","dict_itemiterator","dict_reverseitemiterator","odict_iterator","itertools.zip_longest","itertools.pairwise"].contains n&&vs[0]? == some (rawInt _))=true then _ else _) Q E s
       rw[Ag (by intro h;rw[hn,Bool.false_and]at h;cases h)]
       exact Ac hQ))
def vU (K:PySem.W.Frag)(a:Addr):It :=
 ⟨fun i H=>∃ xs x,aR K H a xs/\xs[i]? = some x,fun i H x H'=>H'=H/\∀ xs,aR K H a xs->xs[i]? = some x,fun i H=>∃ xs,aR K H a xs/\xs.length<=i⟩
def w9 (K:PySem.W.Frag)(a:Addr):It :=
 ⟨fun i H=>∃ xs x,aG K H a xs/\xs[i]? = some x,fun i H x H'=>H'=H/\∀ xs,aG K H a xs->xs[i]? = some x,fun i H=>∃ xs,aG K H a xs/\xs.length<=i⟩
def vv (lo:Int)(n:Nat):It:=⟨fun i _=>i<n,fun i H x H'=>H'=H/\x=.int (lo+i),fun i _=>n<=i⟩
theorem sD {P:Program}{w:World}{K:PySem.W.Frag}{tg:Expr}(a it:Addr):oo P w K tg (vU K a) [it] it (fun i h=>h.IsListIter it a i) where
 mem:=by simp
 obj:=fun i h st b hb=>by
  have e:b=it:=by simpa using hb
  subst e;obtain⟨o,e,c,d⟩:=st;exact⟨o,e,fun v z=>by rw[d]at z;cases z⟩
 keep:=fun i h h' st k=>st.at fun o e=>k it (by simp) o e
 item:=by
  intro X hP hw hK hc i pins s σ H E I hf st hg;subst hP hw hK;obtain⟨xs,x,hq,hx⟩:=hg;obtain⟨its,rv,p,hz⟩:=I.list hq;obtain⟨u,hu,ru⟩:=rv.get hx;obtain⟨f0,f1,f2,f3,f4,f5⟩:=hf it (by simp);refine wpAny_pyNext_list_item st p.isList (x:=u) (by simpa using hu) fun h' st' sb=>?_;have I1:az X pins σ H { s with heap:=h' }:=I.turned (t':=s.toks) (fun b o hb e=>(sb.2 b hb).trans e) f0 f1 f3 f4 f5;obtain⟨o,e,c,d⟩:=id st';exact⟨u,rfl,qU (s:={ s with heap:=h' }) e c d (by decide) ⟨x,H,I1,ru,⟨rfl,fun ys hy=>by rw[I.list_inj hy hq];exact hx⟩,st',fun b hb=>(hf b hb).1⟩⟩
 done:=by
  intro X hP hw hK hc i pins s σ H E I hf st hg;subst hP hw hK;obtain⟨xs,hq,hx⟩:=hg;obtain⟨its,rv,p,hz⟩:=I.list hq;obtain⟨f0,f1,f2,f3,f4,f5⟩:=hf it (by simp);have hl:=rv.length;exact wpAny_pyNext_list_end (I.ok.hd hc) st p.isList (by simp;omega) fun h' eb=>⟨rfl,I.turned (t':=s.toks) (fun b o hb e=>eb b o hb e) f0 f1 f3 f4 f5⟩
 self:=fun _ _ _ _ _ st h=>wpAny_pyIter_listiter st h
theorem qB {P:Program}{w:World}{K:PySem.W.Frag}{tg:Expr}(a it:Addr):oo P w K tg (w9 K a) [it] it (fun i h=>h.IsTupleIter it a i) where
 mem:=by simp
 obj:=fun i h st b hb=>by
  have e:b=it:=by simpa using hb
  subst e;obtain⟨o,e,c,d⟩:=st;exact⟨o,e,fun v z=>by rw[d]at z;cases z⟩
 keep:=fun i h h' st k=>st.at fun o e=>k it (by simp) o e
 item:=by
  intro X hP hw hK hc i pins s σ H E I hf st hg;subst hP hw hK;obtain⟨xs,x,hq,hx⟩:=hg;obtain⟨its,rv,p,hz⟩:=I.tuple hq;obtain⟨u,hu,ru⟩:=rv.get hx;obtain⟨f0,f1,f2,f3,f4,f5⟩:=hf it (by simp);refine wpAny_pyNext_tuple_item st (show s.heap.IsTuple a its.toArray from p) (x:=u) (by simpa using hu) fun h' st' sb=>?_;have I1:az X pins σ H { s with heap:=h' }:=I.turned (t':=s.toks) (fun b o hb e=>(sb.2 b hb).trans e) f0 f1 f3 f4 f5;obtain⟨o,e,c,d⟩:=id st';exact⟨u,rfl,qU (s:={ s with heap:=h' }) e c d (by decide) ⟨x,H,I1,ru,⟨rfl,fun ys hy=>by rw[I.tuple_inj hy hq];exact hx⟩,st',fun b hb=>(hf b hb).1⟩⟩
 done:=by
  intro X hP hw hK hc i pins s σ H E I hf st hg;subst hP hw hK;obtain⟨xs,hq,hx⟩:=hg;obtain⟨its,rv,p,hz⟩:=I.tuple hq;obtain⟨f0,f1,f2,f3,f4,f5⟩:=hf it (by simp);have hl:=rv.length;exact wpAny_pyNext_tuple_end (I.ok.hd hc) st (show s.heap.IsTuple a its.toArray from p) (by simp;omega) fun h' eb=>⟨rfl,I.turned (t':=s.toks) (fun b o hb e=>eb b o hb e) f0 f1 f3 f4 f5⟩
 self:=fun _ _ _ _ _ st h=>wpAny_pyIter_tupleiter st h
theorem qA {P:Program}{w:World}{K:PySem.W.Frag}{tg:Expr}(it:Addr)(lo:Int)(n:Nat):oo P w K tg (vv lo n) [it] it (fun i h=>IsRangeIter h it (lo+(i:Nat)*1) ((n:Int)-(i:Nat)) 1) where
 mem:=by simp
 obj:=fun i h st b hb=>by
  have e:b=it:=by simpa using hb
  subst e
  exact⟨_,st,fun v z=>by
   have z':Data.fields _=Data.cell v:=z
   cases z'⟩
 keep:=fun i h h' st k=>k it (by simp) _ st
 item:=by
  intro X hP hw hK hc i pins s σ H E I hf st hg;subst hP hw hK;obtain⟨f0,f1,f2,f3,f4,f5⟩:=hf it (by simp);have W:=Walks.range (prog:=X.prog) (w:=X.w) (I.ok.hd hc) it lo 1 n;refine W.item i s _ _ hg st fun v h' tk hv st' kk=>?_;obtain⟨t,rfl⟩:=hv;have I1:az X pins σ H { s with heap:=h',toks:=tk }:=I.turned (fun b o hb e=>kk b o (by simpa using hb) e) f0 f1 f3 f4 f5;refine⟨_,rfl,qU (s:={ s with heap:=h',toks:=tk }) (n:="range_iterator") st' rfl rfl (by decide) ⟨.int (lo+i),H,I1,⟨t,?_⟩,⟨rfl,rfl⟩,st',fun b hb=>(hf b hb).1⟩⟩;rw[Int.mul_one]
 done:=by
  intro X hP hw hK hc i pins s σ H E I hf st hg;subst hP hw hK;obtain⟨f0,f1,f2,f3,f4,f5⟩:=hf it (by simp);exact wpAny_pyNext_range_end (I.ok.hd hc) st (by have:n<=i:=hg;omega) fun h' eb=>⟨rfl,I.turned (t':=s.toks) (fun b o hb e=>eb b o hb e) f0 f1 f3 f4 f5⟩
 self:=fun _ _ _ _ _ st h=>wpAny_pyIter_rangeiter st h
section
variable {X:Cx}{tg:Expr}
inductive zi (K:PySem.W.Frag) (R:It->Hp->Prop) (x:V) (H:Hp):Prop
 | mk (a:Addr) (e:x=.ref a) (q:∃ xs,aR K H a xs) (h:R (vU K a) H):zi K R x H
def xt (K:PySem.W.Frag)(tl:TE):TI:=fun σ H R=>tl σ H fun x H1=>zi K R x H1
def xy (K:PySem.W.Frag)(tl:TE):TI:=fun σ H R=>tl σ H fun x H1=>∃ a,x=.ref a/\(∃ xs,aG K H1 a xs)/\R (w9 K a) H1
theorem bR {l:Expr}{tl:TE}(hl:PE X l tl):PI X tg l (xt X.K tl):=by
 intro pins s σ H R I h;refine bf (hl pins s σ H _ I h) fun v s1 ⟨x,H1,I1,r1,q1⟩=>?_;obtain⟨a,e,⟨xs,hq⟩,q⟩:=q1;subst e;cases r1;obtain⟨its,rv,p,hz⟩:=I1.list hq;refine wpAny_pyIter_list p.isList ?_;refine⟨s1.heap.objs.size,[s1.heap.objs.size],_,_,H1,rfl,I1.kept (t':=s1.toks) fun b o e=>Heap.get?_push_of_some _ e,sD a _,⟨_,Heap.get?_push_size _ rfl,rfl,rfl⟩,fun b hb=>?_,q⟩
 have e:b=s1.heap.objs.size:=by simpa using hb
 subst e;exact I1.fpOk (Ad _) (I1.hok.fresh (Ad _))
theorem jU {l:Expr}{tl:TE}(hl:PE X l tl):PI X tg l (xy X.K tl):=by
 intro pins s σ H R I h;refine bf (hl pins s σ H _ I h) fun v s1 ⟨x,H1,I1,r1,q1⟩=>?_;obtain⟨a,e,⟨xs,hq⟩,q⟩:=q1;subst e;cases r1;obtain⟨its,rv,p,hz⟩:=I1.tuple hq;refine BL (show s1.heap.IsTuple a its.toArray from p) ?_;refine⟨s1.heap.objs.size,[s1.heap.objs.size],_,_,H1,rfl,I1.kept (t':=s1.toks) fun b o e=>Heap.get?_push_of_some _ e,qB a _,⟨_,Heap.get?_push_size _ rfl,rfl,rfl⟩,fun b hb=>?_,q⟩
 have e:b=s1.heap.objs.size:=by simpa using hb
 subst e;exact I1.fpOk (Ad _) (I1.hok.fresh (Ad _))
theorem o8 {pins:List (Addr×Obj)}{σ:St}{H:Hp}{s:Shared}{R:It->Hp->Prop}{E:Value->Shared->Prop}{lo hi:Int}{t u v:Tok}{tk:Nat}(I:az X pins σ H s)(h1 : -(2 ^ 62)<=lo)(h2:lo<2 ^ 62)(h3 : -(2 ^ 62)<=hi)(h4:hi<2 ^ 62)
  (q:R (vv lo (hi-lo).toNat) H):wpAny (model X.prog X.w) X.A (pyIter (.ref s.heap.objs.size)) (zo X pins σ tg R) E { s with heap:=s.heap.push { cls:=.type "range",data:=.fields #[.int lo t,.int hi u,.int 1 v] },toks:=tk }:=by
 refine wpAny_pyIter_range (IsRange.new ..) (small_one h1 h2 h3 h4) ?_;have I1:az X pins σ H { s with heap:=s.heap.push { cls:=.type "range",data:=.fields #[.int lo t,.int hi u,.int 1 v] },toks:=tk }:=I.kept fun b o e=>Heap.get?_push_of_some _ e
 refine⟨(s.heap.push { cls:=.type "range",data:=.fields #[.int lo t,.int hi u,.int 1 v] }).objs.size,[(s.heap.push { cls:=.type "range",data:=.fields #[.int lo t,.int hi u,.int 1 v] }).objs.size],_,_,H,rfl,
  I1.kept (t':=tk) fun b o e=>Heap.get?_push_of_some _ e,qA _ lo (hi-lo).toNat,?_,fun b hb=>?_,q⟩
 ·have e1:lo+((0:Nat):Int)*1=lo:=by simp
  have e2:(((hi-lo).toNat:Nat):Int)-((0:Nat):Int)=Builtin.Range.rangeSize lo hi 1:=by rw[rangeSize_one];split<;>omega
  show IsRangeIter _ _ (lo+((0:Nat):Int)*1) ((((hi-lo).toNat:Nat):Int)-((0:Nat):Int)) 1
  rw[e1,e2];exact Heap.get?_push_size _ rfl
 ·have e:b=(s.heap.push { cls:=.type "range",data:=.fields #[.int lo t,.int hi u,.int 1 v] }).objs.size:=by simpa using hb
  subst e;exact I1.fpOk (Ad _) (I1.hok.fresh (Ad _))
def xu (ta:TA):TI:=fun σ H R=>ta σ H fun vs H1=>∃ j:Int,vs=[.int j]/\-(2 ^ 62)<=j/\j<2 ^ 62/\R (vv 0 j.toNat) H1
def xv (ta:TA):TI:=fun σ H R=>ta σ H fun vs H1=>∃ i j:Int,vs=[.int i,.int j]/\(-(2 ^ 62)<=i/\i<2 ^ 62/\-(2 ^ 62)<=j/\j<2 ^ 62)/\R (vv i (j-i).toNat) H1
theorem dW {a:Expr}{ta:TA}{p pos:Pos}(hg:Gl X "range")(hm:X.mg "range" = none)(ha:PA X [a] ta)(hs:starEach [a] X.env=[(false,eval a X.env)]:=by rfl):PI X tg (.Call (.Name "range" p) [a] [] pos) (xu ta):=by
 intro pins s σ H R I h;refine Call_ (dD I hg hm boot_range (AM (bf (ha pos pins s σ H _ I h) fun us s1 ⟨vs,H1,I1,r1,q1⟩=>?_) hs rfl));obtain⟨j,e,q1,q2,q⟩:=q1;subst e
 cases r1 with
 | cons r rr =>
  cases rr;obtain⟨t,rfl⟩:=r;exact call_range_1 (o8 I1 (by omega) (by omega) q1 q2 (by simpa using q))
theorem ss {a b:Expr}{ta:TA}{p pos:Pos}(hg:Gl X "range")(hm:X.mg "range" = none)(ha:PA X [a,b] ta)(hs:starEach [a,b] X.env=[(false,eval a X.env),(false,eval b X.env)]:=by rfl)(hs2:starEach [b] X.env=[(false,eval b X.env)]:=by rfl) :
  PI X tg (.Call (.Name "range" p) [a,b] [] pos) (xv ta):=by
 intro pins s σ H R I h;refine Call_ (dD I hg hm boot_range (AM (bf (ha pos pins s σ H _ I h) fun us s1 ⟨vs,H1,I1,r1,q1⟩=>?_) (by rw[hs,hs2]) (by rw[hs2];rfl)));obtain⟨i,j,e,⟨q1,q2,q3,q4⟩,q⟩:=q1;subst e
 cases r1 with
 | cons r rr =>
  cases rr with
  | cons r' rr =>
   cases rr;obtain⟨t,rfl⟩:=r;obtain⟨t',rfl⟩:=r';exact call_range_2 (o8 I1 q1 q2 q3 q4 q)
def y3 (wi:TI)(g:TG)(tb:TS):TS:=fun D σ H=>wi σ H fun J H1=>∃ W:Nat->Nat->St->Hp->Prop,(∃ m,W 0 m σ H1)/\∀ i m σ H,W i m σ H ->
 (J.stop i H/\D.nx σ H)\/(J.go i H/\∃ N:St->Hp->Prop,(∀ σ' H',N σ' H'->∃ m',m'<m/\W (i+1) m' σ' H')/\∀ x H',J.yld i H x H'->g x σ H' fun σ2 H2=>tb { D with nx:=N,ct:=N,bk:=D.nx } σ2 H2)
def gE (fp:List Addr)(h:Heap):List (Addr×Obj):=fp.filterMap fun b=>(h.get? b).map fun o=>(b,o)
theorem bP {fp:List Addr}{h:Heap}{b:Addr}{o:Obj}(hb:b∈fp)(e:h.get? b=some o):(b,o)∈gE fp h:=List.mem_filterMap.mpr ⟨b,hb,by rw[e];rfl⟩
theorem si {fp:List Addr}{h:Heap}{p:Addr×Obj}(hp:p∈gE fp h):p.1∈fp/\h.get? p.1=some p.2:=by
 obtain⟨b,hb,e⟩:=List.mem_filterMap.mp hp
 cases q:h.get? b with
 | none=>rw[q]at e;cases e
 | some o =>
  rw[q]at e;have e':(b,o)=p:=At e;subst e';exact⟨hb,q⟩
theorem az.pinned {pins:List (Addr×Obj)}{σ:St}{H:Hp}{s:Shared}{fp:List Addr}(I:az X pins σ H s)(hf:∀ b∈fp,eE X pins H b)(ho:∀ b∈fp,∃ o,s.heap.get? b=some o/\∀ v,o.data≠.cell v):az X (pins++gE fp s.heap) σ H s :=
 I.pins_of fun p hp=>(AJ.mp hp).elim (fun z=>I.pin p (Ar _ z)) fun z=>by
  obtain⟨hb,e⟩:=si z;obtain⟨f0,f1,f2,_⟩:=hf p.1 hb;obtain⟨o,e',d⟩:=ho p.1 hb;rw[e]at e';cases e';exact⟨e,f0,f1,f2,d⟩
theorem az.unpinned {pins pl:List (Addr×Obj)}{σ:St}{H:Hp}{s:Shared}(I:az X (pins++pl) σ H s):az X pins σ H s:=I.pins_of fun p hp=>I.pin p (Ar _ (List.mem_append_left _ hp))
theorem cx {iter:Expr}{body:List Stmt}{wi:TI}{g:TG}{tb:TS}{pos:Pos}(hp:PassesOwn (model X.prog X.w) X.A X.env X.xe)(hc:X.calm=true)(hi:PI X tg iter wi)(hg:PG X tg g)(hb:pO X body tb)
  (hs:∀ x,foldedSetIterable iter X.env x=pure x:=by intro _;rfl):PS X (.For tg iter body [] pos) (y3 wi g tb):=by
 intro pins s σ H D I h;refine wpAny_For (bf (hi pins s σ H _ I h) fun v s1 h1=>bf h1 fun itv s2 h2=>?_) hs;obtain⟨it,fp,tn,J,H2,e,I2,T,st2,f2,W,⟨m0,w0⟩,turn⟩:=h2;subst e;have stat:∀ {H':Hp},(∀ b∈fp,H' b=none)->∀ b∈fp,eE X pins H' b:=fun hn b hb=>⟨hn b hb,(f2 b hb).2⟩;refine codeAny_forLoop_any (fun n s'=>∃ i σ' H',az X pins σ' H' s'/\tn i s'.heap/\(∀ b∈fp,H' b=none)/\W i n σ' H') ?_ m0 ⟨0,σ,H2,I2,st2,fun b hb=>(f2 b hb).1,w0⟩;rintro n s3 ⟨i,σ3,H3,I3,st3,fr3,w3⟩;rcases turn i n σ3 H3 w3 with ⟨stop,qn⟩ | ⟨go,N,hN,step⟩
 ·refine wpAny_passesOwn hp (bf (T.done X rfl rfl rfl hc i pins s3 σ3 H3 X.xe I3 (stat fr3) st3 stop) fun r s4 ⟨hr,I4⟩=>?_)
  subst hr;exact wpAny_execs_nil ⟨σ3,H3,I4,qn⟩
 ·refine wpAny_passesOwn hp (bf (T.item X rfl rfl rfl hc i pins s3 σ3 H3 X.xe I3 (stat fr3) st3 go) fun r s4 ⟨u,hr,h4⟩=>?_)
  subst hr;refine wpAny_passesOwn hp (bf h4 fun _ s5 ⟨x,H5,I5,r5,y5,st5,fr5⟩=>?_);have I5':=I5.pinned (stat fr5) (T.obj _ _ st5);refine wpAny_passesOwn hp (bf (hg _ s5 σ3 H5 x u _ I5' r5 (step x H5 y5)) fun _ s6 ⟨σ6,H6,I6,q6⟩=>?_);refine wpAny_passesOwn hp (bf (hb _ s6 σ6 H6 _ I6 q6) fun f s7 q7=>?_)
  have again:∀ {σ7:St}{H7:Hp},az X (pins++gE fp s5.heap) σ7 H7 s7->N σ7 H7->∃ m,m<n/\∃ i σ' H',az X pins σ' H' s7/\tn i s7.heap/\(∀ b∈fp,H' b=none)/\W i m σ' H':=fun {σ7 H7} I7 n7=>by
   obtain⟨m',hm,w7⟩:=hN σ7 H7 n7;refine⟨m',hm,i+1,σ7,H7,I7.unpinned,T.keep _ _ _ st5 fun b hb o e=>(I7.pin (b,o) (Ar _ (Ar _ (bP hb e)))).1,fun b hb=>?_,w7⟩;obtain⟨o,e,d⟩:=T.obj _ _ st5 b hb;exact (I7.pin (b,o) (Ar _ (Ar _ (bP hb e)))).2.1
  cases f with
  | next=>obtain⟨σ7,H7,I7,n7⟩:=q7;exact again I7 n7
  | cont=>obtain⟨σ7,H7,I7,n7⟩:=q7;exact again I7 n7
  | brk=>obtain⟨σ7,H7,I7,q7⟩:=q7;exact⟨σ7,H7,I7.unpinned,q7⟩
  | ret v=>obtain⟨x7,σ7,H7,I7,r7,q7⟩:=q7;exact⟨x7,σ7,H7,I7.unpinned,r7,q7⟩
end
theorem bU {K:PySem.W.Frag}{a:Addr}{xs:List V}{g:TG}{tb:TS}{D:hJ}{σ:St}{H:Hp}(Pv:Nat->St->Hp->Prop)(h0:Pv 0 σ H)(hl:∀ i σ H,i<=xs.length->Pv i σ H->aR K H a xs)
  (hs:∀ i x σ H,xs[i]? = some x->Pv i σ H->g x σ H fun σ2 H2=>tb { D with nx:=Pv (i+1),ct:=Pv (i+1),bk:=D.nx } σ2 H2) (hd:∀ σ H,Pv xs.length σ H->D.nx σ H) :
  ∃ W:Nat->Nat->St->Hp->Prop,(∃ m,W 0 m σ H)/\∀ i m σ H,W i m σ H ->
   ((vU K a).stop i H/\D.nx σ H)\/((vU K a).go i H/\∃ N:St->Hp->Prop,(∀ σ' H',N σ' H'->∃ m',m'<m/\W (i+1) m' σ' H')/\∀ x H',(vU K a).yld i H x H'->g x σ H' fun σ2 H2=>tb { D with nx:=N,ct:=N,bk:=D.nx } σ2 H2):=by
 refine⟨fun i m σ H=>m=xs.length-i/\i<=xs.length/\Pv i σ H,⟨xs.length,by simp,Au _,h0⟩,?_⟩;rintro i m σ H ⟨rfl,hi,p⟩;have q:=hl i σ H hi p
 by_cases hlt:i<xs.length
 ·refine .inr ⟨⟨xs,xs[i],q,by simp[hlt]⟩,Pv (i+1),fun σ' H' p'=>⟨xs.length-(i+1),by omega,rfl,hlt,p'⟩,fun x H' y=>?_⟩
  obtain⟨e,y⟩:=y;subst e;exact hs i x σ _ (y xs q) p
 ·have e:i=xs.length:=by omega
  subst e;exact .inl ⟨⟨xs,q,Ad _⟩,hd σ H p⟩
theorem gR {K:PySem.W.Frag}{a:Addr}{xs:List V}{g:TG}{tb:TS}{D:hJ}{σ:St}{H:Hp}(Pv:Nat->St->Hp->Prop)(h0:Pv 0 σ H)(hl:∀ i σ H,i<=xs.length->Pv i σ H->aG K H a xs)
  (hs:∀ i x σ H,xs[i]? = some x->Pv i σ H->g x σ H fun σ2 H2=>tb { D with nx:=Pv (i+1),ct:=Pv (i+1),bk:=D.nx } σ2 H2) (hd:∀ σ H,Pv xs.length σ H->D.nx σ H) :
  ∃ W:Nat->Nat->St->Hp->Prop,(∃ m,W 0 m σ H)/\∀ i m σ H,W i m σ H ->
   ((w9 K a).stop i H/\D.nx σ H)\/((w9 K a).go i H/\∃ N:St->Hp->Prop,(∀ σ' H',N σ' H'->∃ m',m'<m/\W (i+1) m' σ' H')/\∀ x H',(w9 K a).yld i H x H'->g x σ H' fun σ2 H2=>tb { D with nx:=N,ct:=N,bk:=D.nx } σ2 H2):=by
 refine⟨fun i m σ H=>m=xs.length-i/\i<=xs.length/\Pv i σ H,⟨xs.length,by simp,Au _,h0⟩,?_⟩;rintro i m σ H ⟨rfl,hi,p⟩;have q:=hl i σ H hi p
 by_cases hlt:i<xs.length
 ·refine .inr ⟨⟨xs,xs[i],q,by simp[hlt]⟩,Pv (i+1),fun σ' H' p'=>⟨xs.length-(i+1),by omega,rfl,hlt,p'⟩,fun x H' y=>?_⟩
  obtain⟨e,y⟩:=y;subst e;exact hs i x σ _ (y xs q) p
 ·have e:i=xs.length:=by omega
  subst e;exact .inl ⟨⟨xs,q,Ad _⟩,hd σ H p⟩
theorem dc {lo:Int}{n:Nat}{g:TG}{tb:TS}{D:hJ}{σ:St}{H:Hp}(Pv:Nat->St->Hp->Prop)(h0:Pv 0 σ H)
  (hs:∀ i σ H,i<n->Pv i σ H->g (.int (lo+i)) σ H fun σ2 H2=>tb { D with nx:=Pv (i+1),ct:=Pv (i+1),bk:=D.nx } σ2 H2) (hd:∀ σ H,Pv n σ H->D.nx σ H) :
  ∃ W:Nat->Nat->St->Hp->Prop,(∃ m,W 0 m σ H)/\∀ i m σ H,W i m σ H ->
   ((vv lo n).stop i H/\D.nx σ H)\/((vv lo n).go i H/\∃ N:St->Hp->Prop,(∀ σ' H',N σ' H'->∃ m',m'<m/\W (i+1) m' σ' H')/\∀ x H',(vv lo n).yld i H x H'->g x σ H' fun σ2 H2=>tb { D with nx:=N,ct:=N,bk:=D.nx } σ2 H2):=by
 refine⟨fun i m σ H=>m=n-i/\i<=n/\Pv i σ H,⟨n,by simp,Au _,h0⟩,?_⟩;rintro i m σ H ⟨rfl,hi,p⟩
 by_cases hlt:i<n
 ·refine .inr ⟨hlt,Pv (i+1),fun σ' H' p'=>⟨n-(i+1),by omega,rfl,hlt,p'⟩,fun x H' y=>?_⟩
  obtain⟨e,y⟩:=y;subst e y;exact hs i σ _ hlt p
 ·have e:i=n:=by omega
  subst e;exact .inl ⟨Ad _,hd σ H p⟩
abbrev R2:=V->V->Hp->VK->Prop
def iT (X:Cx)(f:Value->Value->Sem Value)(r:R2):Prop :=
 ∀ (pins:List (Addr×Obj))(s:Shared)(σ:St)(H:Hp)(x y:V)(v u:Value)(Q:VK),az X pins σ H s->aO x v->aO y u->r x y H Q ->
  wpAny (model X.prog X.w) X.A (f v u) (EP X pins σ Q) X.xe s
def yD (X:Cx)(f:Value->Sem Value)(r:V->Hp->VK->Prop):Prop :=
 ∀ (pins:List (Addr×Obj))(s:Shared)(σ:St)(H:Hp)(x:V)(v:Value)(Q:VK),az X pins σ H s->aO x v->r x H Q ->
  wpAny (model X.prog X.w) X.A (f v) (EP X pins σ Q) X.xe s
def eI (X:Cx)(f:Value)(r:List V->Hp->VK->Prop):Prop :=
 ∀ (pins:List (Addr×Obj))(s:Shared)(σ:St)(H:Hp)(xs:List V)(us:List Value)(Q:VK),az X pins σ H s->Vals xs us->r xs H Q ->
  wpAny (model X.prog X.w) X.A (call f us) (EP X pins σ Q) X.xe s
def yC (X:Cx)(r:V->Hp->(Bool->Hp->Prop)->Prop):Prop :=
 ∀ (pins:List (Addr×Obj))(s:Shared)(σ:St)(H:Hp)(x:V)(v:Value)(Q:Bool->Hp->Prop),az X pins σ H s->aO x v->r x H Q ->
  wpAny (model X.prog X.w) X.A (truthy v) (TP X pins σ Q) X.xe s
def yn (r:R2)(ta tb:TE):TE:=fun σ H Q=>ta σ H fun x H1=>tb σ H1 fun y H2=>r x y H2 Q
def zT (r:V->Hp->VK->Prop)(ta:TE):TE:=fun σ H Q=>ta σ H fun x H1=>r x H1 Q
inductive RI (C:Int->Int->Prop) (g:Int->Int->V) (x y:V) (H:Hp) (Q:VK):Prop
 | mk (i j:Int) (e1:x=.int i) (e2:y=.int j) (c:C i j) (h:Q (g i j) H):RI C g x y H Q
def rI (C:Int->Int->Prop)(g:Int->Int->V):R2:=fun x y H Q=>RI C g x y H Q
inductive zq (g:Int->Int->V) (x y:V) (H:Hp) (Q:VK):Prop
 | mk (i j:Int) (e1:x=.int i) (e2:y=.int j) (h:Q (g i j) H):zq g x y H Q
def vF (g:Int->Int->V):R2:=fun x y H Q=>zq g x y H Q
def rU (g:Int->V):V->Hp->VK->Prop:=fun x H Q=>∃ i,x=.int i/\Q (g i) H
section
variable {X:Cx}{a b c:Expr}{ta tb tc:TE}{pos:Pos}
theorem v8 (ha:PE X a ta)(hb:PE X b tb){pins:List (Addr×Obj)}{s:Shared}{σ:St}{H:Hp}{R:V->V->Hp->Prop}(I:az X pins σ H s)
  (h:ta σ H fun x H1=>tb σ H1 fun y H2=>R x y H2) {Q:Value->Shared->Prop} {f:Value->Value->Sem Value}
  (hf:∀ v u s2 x y H2,az X pins σ H2 s2->aO x v->aO y u->R x y H2->wpAny (model X.prog X.w) X.A (f v u) Q X.xe s2) :
  wpAny (model X.prog X.w) X.A (eval a X.env) (fun v s₁=>wpAny (model X.prog X.w) X.A (eval b X.env) (fun u s₂=>wpAny (model X.prog X.w) X.A (f v u) Q X.xe s₂) X.xe s₁) X.xe s:=by
 refine bf (ha pins s σ H _ I h) fun v s1 ⟨x,H1,I1,r1,q1⟩=>?_;refine bf (hb pins s1 σ H1 _ I1 q1) fun u s2 ⟨y,H2,I2,r2,q2⟩=>?_;exact hf v u s2 x y H2 I2 r1 r2 q2
theorem ar {op:Operator}{r:R2}(ho:iT X (binaryOp op) r)(ha:PE X a ta)(hb:PE X b tb):PE X (.BinOp a op b pos) (yn r ta tb):=by
 intro pins s σ H Q I h;exact wpAny_BinOp (v8 ha hb I h fun v u s2 x y H2 I2 rx ry q=>ho pins s2 σ H2 x y v u Q I2 rx ry q)
theorem xH {op:UnaryOp}{r:V->Hp->VK->Prop}(ho:yD X (unaryOp op) r)(ha:PE X a ta):PE X (.UnaryOp op a pos) (zT r ta):=by
 intro pins s σ H Q I h;exact UnaryOp_ (bf (ha pins s σ H _ I h) fun v s1 ⟨x,H1,I1,r1,q1⟩=>ho pins s1 σ H1 x v Q I1 r1 q1)
theorem xD {f:Value->Value->Sem Value}{C:Int->Int->Prop}{g:Int->Int->Int}
  (rule:∀ (i j:Int)(t u:Tok)(s:Shared)(Q:Value->Shared->Prop)(E:Value->Shared->Prop),C i j->Q (.int (g i j) s.toks) { s with toks:=s.toks+1 }->wpAny (model X.prog X.w) X.A (f (.int i t) (.int j u)) Q E s) :
  iT X f (rI C fun i j=>.int (g i j)):=by
 intro pins s σ H x y v u Q I rx ry h;obtain⟨i,j,rfl,rfl,hc,q⟩:=h;obtain⟨t,rfl⟩:=rx;obtain⟨t',rfl⟩:=ry;exact rule i j t t' s _ _ hc ⟨.int (g i j),H,I.tok _,⟨_,rfl⟩,q⟩
theorem xE {f:Value->Value->Sem Value}{g:Int->Int->Int}
  (rule:∀ (i j:Int)(t u:Tok)(s:Shared)(Q:Value->Shared->Prop)(E:Value->Shared->Prop),Q (.int (g i j) s.toks) { s with toks:=s.toks+1 }->wpAny (model X.prog X.w) X.A (f (.int i t) (.int j u)) Q E s) :
  iT X f (vF fun i j=>.int (g i j)):=by
 intro pins s σ H x y v u Q I rx ry h;obtain⟨i,j,rfl,rfl,q⟩:=h;obtain⟨t,rfl⟩:=rx;obtain⟨t',rfl⟩:=ry;exact rule i j t t' s _ _ ⟨.int (g i j),H,I.tok _,⟨_,rfl⟩,q⟩
theorem u9 {f:Value->Value->Sem Value}{g:Int->Int->Bool}
  (rule:∀ (i j:Int)(t u:Tok)(s:Shared)(Q:Value->Shared->Prop)(E:Value->Shared->Prop),Q (.bool (g i j)) s->wpAny (model X.prog X.w) X.A (f (.int i t) (.int j u)) Q E s) :
  iT X f (vF fun i j=>.bl (g i j)):=by
 intro pins s σ H x y v u Q I rx ry h;obtain⟨i,j,rfl,rfl,q⟩:=h;obtain⟨t,rfl⟩:=rx;obtain⟨t',rfl⟩:=ry;exact rule i j t t' s _ _ ⟨.bl (g i j),H,I,rfl,q⟩
def yr (i j:Int):Prop:=0<j/\j<1073741824
def yt (i j:Int):Prop:=0<=j/\j<=1000000/\i.natAbs<2 ^ 64
def sJ (i j:Int):Prop:=(-(2 ^ 64)<i/\i<2 ^ 64)\/(-(2 ^ 64)<j/\j<2 ^ 64)
theorem sJ.ok {i j:Int}(h:sJ i j):IntMulOk i j:=by
 rcases h with ⟨h1,h2⟩ | ⟨h1,h2⟩
 ·exact .of_left (intBits_le_64 h1 h2)
 ·exact .of_right (intBits_le_64 h1 h2)
theorem bC:iT X (binaryOp .Add) (vF fun i j=>.int (i+j)):=xE fun _ _ _ _ _ _ _ q=>add_int q
theorem lR:iT X (binaryOp .Sub) (vF fun i j=>.int (i-j)):=xE fun _ _ _ _ _ _ _ q=>sub_int q
theorem dg:iT X (binaryOp .Mult) (rI sJ fun i j=>.int (i*j)):=xD fun _ _ _ _ _ _ _ hc q=>mul_int q hc.ok
theorem bK:iT X (binaryOp .FloorDiv) (rI yr fun i j=>.int (i/j)):=xD fun i j _ _ _ _ _ hc q=>by
 have h1:(0:Int)<j:=hc.1;have h2:j<1073741824:=hc.2;exact floordiv_int (by omega) (by rw[Int.fdiv_eq_ediv_of_nonneg i (by omega)];exact q) (.inl (PyProof.noPylong_small (by omega)))
theorem bq:iT X (binaryOp .Mod) (rI (fun _ j=>0<j) fun i j=>.int (i%j)):=xD fun i j _ _ _ _ _ hc q=>by
 have h1:(0:Int)<j:=hc;exact mod_int' (by omega) (by rw[Int.fmod_eq_emod_of_nonneg i (by omega)];exact q)
theorem tI:iT X (binaryOp .Pow) (rI yt fun i j=>.int (i ^ j.toNat)):=xD fun _ _ _ _ _ _ _ hc q=>pow_int_small hc.1 hc.2.1 hc.2.2 q
theorem zU {f:Value->Sem Value}{g:Int->Int}
  (rule:∀ (i:Int)(t:Tok)(s:Shared)(Q:Value->Shared->Prop)(E:Value->Shared->Prop),Q (.int (g i) s.toks) { s with toks:=s.toks+1 }->wpAny (model X.prog X.w) X.A (f (.int i t)) Q E s) :
  yD X f (rU fun i=>.int (g i)):=by
 intro pins s σ H x v Q I rx h;obtain⟨i,rfl,q⟩:=h;obtain⟨t,rfl⟩:=rx;exact rule i t s _ _ ⟨.int (g i),H,I.tok _,⟨_,rfl⟩,q⟩
theorem wQ:yD X (unaryOp .USub) (rU fun i=>.int (-i)):=zU fun _ _ _ _ _ q=>neg_int q
end
def xR:V->V->Bool
 | .non,.non=>true | .non,.int _=>true | .int _,.non=>true | .non,.bl _=>true | .bl _,.non=>true | .non,.str _=>true | .str _,.non=>true
 | .int _,.int _=>true | .bl _,.bl _=>true | .str _,.str _=>true | .byt _,.byt _=>true
 | .int _,.str _=>true | .str _,.int _=>true | .bl _,.str _=>true | .str _,.bl _=>true
 | _,_=>false
def zL:R2:=fun x y H Q=>xR x y=true/\Q (.bl (decide (x=y))) H
def zM:R2:=fun x y H Q=>xR x y=true/\Q (.bl (!decide (x=y))) H
theorem qN {i j:Int}:decide (V.int i=V.int j)=(i == j):=by
 rw[Bool.eq_iff_iff];simp
theorem sQ {i j:Bool}:decide (V.bl i=V.bl j)=(i == j):=by
 rw[Bool.eq_iff_iff];simp
theorem qO {i j:Str}:decide (V.str i=V.str j)=(i == j):=by
 rw[Bool.eq_iff_iff];simp
theorem qM {i j:Array UInt8}:decide (V.byt i=V.byt j)=(i.toList == j.toList):=by
 rw[Bool.eq_iff_iff];cases i;cases j;simp
section
variable {X:Cx}{a b c:Expr}{ta tb tc:TE}{pos:Pos}
theorem ba {pins:List (Addr×Obj)}{σ:St}{H:Hp}{s:Shared}{Q:VK}{k k':Bool}(I:az X pins σ H s)(q:Q (.bl k) H)(e:k=k'):EP X pins σ Q (.bool k') s:=by
 subst e;exact⟨.bl k,H,I,rfl,q⟩
theorem bd:iT X (compareOp .Eq) zL:=by
 intro pins s σ H x y v u Q I rx ry h;obtain⟨hs,q⟩:=h
 cases x with
 | non =>
  cases rx
  cases y with
  | non=>cases ry;exact PySem.EqNone.eq_none_none (ba I q (by simp))
  | bl j=>cases ry;exact PySem.EqNone.eq_none_bool (ba I q (by simp))
  | int j=>obtain⟨t',rfl⟩:=ry;exact PySem.EqNone.eq_none_int (ba I q (by simp))
  | str j=>obtain⟨t',rfl⟩:=ry;exact PySem.EqNone.eq_none_str (ba I q (by simp))
  | _=>exact absurd (show false=true from hs) Ae
 | bl i =>
  cases rx
  cases y with
  | non=>cases ry;exact PySem.EqNone.eq_bool_none (ba I q (by simp))
  | bl j=>cases ry;exact eq_bool (ba I q sQ)
  | str j=>obtain⟨t',rfl⟩:=ry;exact PySem.EqMixed.eq_bool_str (ba I q (by simp))
  | _=>exact absurd (show false=true from hs) Ae
 | int i =>
  obtain⟨t,rfl⟩:=rx
  cases y with
  | non=>cases ry;exact PySem.EqNone.eq_int_none (ba I q (by simp))
  | int j=>obtain⟨t',rfl⟩:=ry;exact eq_int (ba I q qN)
  | str j=>obtain⟨t',rfl⟩:=ry;exact PySem.EqMixed.eq_int_str (ba I q (by simp))
  | _=>exact absurd (show false=true from hs) Ae
 | str i =>
  obtain⟨t,rfl⟩:=rx
  cases y with
  | non=>cases ry;exact PySem.EqNone.eq_str_none (ba I q (by simp))
  | bl j=>cases ry;exact PySem.EqMixed.eq_str_bool (ba I q (by simp))
  | int j=>obtain⟨t',rfl⟩:=ry;exact PySem.EqMixed.eq_str_int (ba I q (by simp))
  | str j=>obtain⟨t',rfl⟩:=ry;exact eq_str (ba I q qO)
  | _=>exact absurd (show false=true from hs) Ae
 | byt i =>
  obtain⟨t,rfl⟩:=rx
  cases y with
  | byt j=>obtain⟨t',rfl⟩:=ry;exact PySem.W.eq_bytes (ba I q qM)
  | _=>exact absurd (show false=true from hs) Ae
 | _=>cases y<;>exact absurd (show false=true from hs) Ae
theorem lQ:iT X (compareOp .NotEq) zM:=by
 intro pins s σ H x y v u Q I rx ry h;obtain⟨hs,q⟩:=h
 cases x with
 | non =>
  cases rx
  cases y with
  | non=>cases ry;exact PySem.EqNone.ne_none_none (ba I q (by simp))
  | bl j=>cases ry;exact PySem.EqNone.ne_none_bool (ba I q (by simp))
  | int j=>obtain⟨t',rfl⟩:=ry;exact PySem.EqNone.ne_none_int (ba I q (by simp))
  | str j=>obtain⟨t',rfl⟩:=ry;exact PySem.EqNone.ne_none_str (ba I q (by simp))
  | _=>exact absurd (show false=true from hs) Ae
 | bl i =>
  cases rx
  cases y with
  | non=>cases ry;exact PySem.EqNone.ne_bool_none (ba I q (by simp))
  | bl j=>cases ry;exact ne_bool (ba I q (A3 not sQ))
  | str j=>obtain⟨t',rfl⟩:=ry;exact PySem.EqMixed.ne_bool_str (ba I q (by simp))
  | _=>exact absurd (show false=true from hs) Ae
 | int i =>
  obtain⟨t,rfl⟩:=rx
  cases y with
  | non=>cases ry;exact PySem.EqNone.ne_int_none (ba I q (by simp))
  | int j=>obtain⟨t',rfl⟩:=ry;exact ne_int (ba I q (A3 not qN))
  | str j=>obtain⟨t',rfl⟩:=ry;exact PySem.EqMixed.ne_int_str (ba I q (by simp))
  | _=>exact absurd (show false=true from hs) Ae
 | str i =>
  obtain⟨t,rfl⟩:=rx
  cases y with
  | non=>cases ry;exact PySem.EqNone.ne_str_none (ba I q (by simp))
  | bl j=>cases ry;exact PySem.EqMixed.ne_str_bool (ba I q (by simp))
  | int j=>obtain⟨t',rfl⟩:=ry;exact PySem.EqMixed.ne_str_int (ba I q (by simp))
  | str j=>obtain⟨t',rfl⟩:=ry;exact ne_str (ba I q (A3 not qO))
  | _=>exact absurd (show false=true from hs) Ae
 | byt i =>
  obtain⟨t,rfl⟩:=rx
  cases y with
  | byt j=>obtain⟨t',rfl⟩:=ry;exact PySem.W.ne_bytes (ba I q (A3 not qM))
  | _=>exact absurd (show false=true from hs) Ae
 | _=>cases y<;>exact absurd (show false=true from hs) Ae
theorem re:iT X (compareOp .Lt) (vF fun i j=>.bl (decide (i<j))):=u9 fun _ _ _ _ _ _ _ q=>lt_int q
theorem rc:iT X (compareOp .LtE) (vF fun i j=>.bl (decide (i<=j))):=u9 fun _ _ _ _ _ _ _ q=>le_int q
theorem oY:iT X (compareOp .Gt) (vF fun i j=>.bl (decide (j<i))):=u9 fun _ _ _ _ _ _ _ q=>gt_int q
theorem xF:iT X (compareOp .GtE) (vF fun i j=>.bl (decide (j<=i))):=u9 fun _ _ _ _ _ _ _ q=>ge_int q
theorem sj:iT X (compareOp .In) (fun x y H Q=>∃ i j,x=.str i/\y=.str j/\Q (.bl (!(Builtin.Str.occurrences j i 0 j.length 1).isEmpty)) H):=by
 intro pins s σ H x y v u Q I rx ry h;obtain⟨i,j,rfl,rfl,q⟩:=h;obtain⟨t,rfl⟩:=rx;obtain⟨t',rfl⟩:=ry;exact in_str (ba I q rfl)
theorem au (b:Expr){op:CmpOp}(h:op≠.In:=by decide)(h2:op≠.NotIn:=by decide):behindInMarks op b=false:=by
 have e1:(op == CmpOp.In)=false:=by cases op<;>first | rfl | exact absurd rfl h
 have e2:(op == CmpOp.NotIn)=false:=by cases op<;>first | rfl | exact absurd rfl h2
 cases b<;>simp[behindInMarks,e1,e2]
theorem c8 {op:CmpOp}{r:R2}(ho:iT X (compareOp op) r)(ha:PE X a ta)(hb:PE X b tb)(hm:behindInMarks op b=false):PE X (.Compare a [op] [b] pos) (yn r ta tb):=by
 intro pins s σ H Q I h;exact wpAny_Compare1 (v8 ha hb I h fun v u s2 x y H2 I2 rx ry q=>ho pins s2 σ H2 x y v u Q I2 rx ry q) hm
def vI (t:TE):TT:=fun σ H Q=>t σ H fun x H'=>yB Q x H'
theorem ao {op:CmpOp}{r:R2}(ho:iT X (compareOp op) r)(ha:PE X a ta)(hb:PE X b tb)(hm:behindInMarks op b=false):PT X (.Compare a [op] [b] pos) (vI (yn r ta tb)):=by
 intro pins s σ H Q I h
 refine wpAny_isTrue_Compare1 (bf (ha pins s σ H _ I h) fun v s1 ⟨x,H1,I1,r1,q1⟩=>bf (hb pins s1 σ H1 _ I1 q1) fun u s2 ⟨y,H2,I2,r2,q2⟩ =>
  bf (ho pins s2 σ H2 x y v u _ I2 r1 r2 q2) fun c s3 ⟨z,H3,I3,r3,k,e,q3⟩=>?_) hm
 subst e;cases r3;exact AZ ⟨H3,I3,q3⟩
def wJ (r r':R2)(ta tb tc:TE):TE:=fun σ H Q=>ta σ H fun x H1=>tb σ H1 fun y H2=>r x y H2 fun z H3=>∃ k,z=.bl k /\
 (if k=true then tc σ H3 fun w' H4=>r' y w' H4 Q else Q (.bl false) H3)
theorem t7 {op op':CmpOp}{r r':R2}(ho:iT X (compareOp op) r)(ho':iT X (compareOp op') r')(ha:PE X a ta)(hb:PE X b tb)(hc:PE X c tc)
  (hm:lastMarks [op,op'] [b,c]=false:=by with_unfolding_all rfl):PT X (.Compare a [op,op'] [b,c] pos) (vI (wJ r r' ta tb tc)):=by
 intro pins s σ H Q I h
 refine isTrue_chain (bf (ha pins s σ H _ I h) fun v s1 ⟨x,H1,I1,r1,q1⟩=>test_link (bf (hb pins s1 σ H1 _ I1 q1) fun u s2 ⟨y,H2,I2,r2,q2⟩ =>
  bf (ho pins s2 σ H2 x y v u _ I2 r1 r2 q2) fun d s3 ⟨z,H3,I3,r3,k,e,q3⟩=>?_)) hm
 subst e;cases r3;refine AZ ?_
 cases k with
 | false =>
  obtain⟨k',e',q'⟩:=q3;cases e';exact ite_ff ⟨H3,I3,q'⟩
 | true =>
  refine ite_tt (test_last (bf (hc pins s3 σ H3 _ I3 q3) fun w' s4 ⟨z',H4,I4,r4,q4⟩=>bf (ho' pins s4 σ H4 y z' u w' _ I4 r2 r4 q4) fun d' s5 ⟨z2,H5,I5,r5,k2,e2,q5⟩=>?_));subst e2;cases r5;exact AZ ⟨H5,I5,q5⟩
def xi (K:PySem.W.Frag)(x:V)(H:Hp)(k:Bool):Prop :=
 match x with
 | .non=>k=false
 | .bl b=>k=b
 | .int i=>k=(i != 0)
 | .str y=>y.length<=sizeLine/\k=((y.length:Int) != 0)
 | .byt y=>y.size<=sizeLine/\k=((y.size:Int) != 0)
 | .ref p=>(∃ xs,aR K H p xs/\k = !xs.isEmpty)\/(∃ xs,aG K H p xs/\k = !xs.isEmpty)\/∃ kvs,H p=some (.dK kvs)/\k = !kvs.isEmpty
 | _=>False
theorem p8 {κ:Type}{kvs:List (κ×V)}{vs:List (κ×Value)}(r:KV kvs vs):(!vs.isEmpty) = !kvs.isEmpty:=by
 cases r<;>rfl
theorem lx {xs:List V}{its:List Value}(r:Vals xs its):(!its.toArray.isEmpty) = !xs.isEmpty:=by
 cases r<;>simp
theorem jJ:(sizeLine:Nat)<2 ^ 63:=by rw[AQ];decide
theorem wP:yC X (fun x H Q=>∃ k,xi X.K x H k/\Q k H):=by
 intro pins s σ H x v Q I rx h;obtain⟨k,e,q⟩:=h;have hl:=jJ;have hs:sizeLine=16777216:=AQ
 cases x with
 | non =>
  cases rx;have e':k=false:=e;subst e';exact truthy_none ⟨H,I,q⟩
 | bl b =>
  cases rx;have e':k=b:=e;subst e';exact AZ ⟨H,I,q⟩
 | int i =>
  obtain⟨t,rfl⟩:=rx;have e':k=(i != 0):=e;subst e';exact PySem.P.truthy_int ⟨H,I,q⟩
 | str y =>
  obtain⟨t,rfl⟩:=rx;obtain⟨hy,e'⟩:y.length<=sizeLine/\k=((y.length:Int) != 0):=e;subst e';exact PySem.P.truthy_str (by omega) ⟨H,I.tok _,q⟩
 | byt y =>
  obtain⟨t,rfl⟩:=rx;obtain⟨hy,e'⟩:y.size<=sizeLine/\k=((y.size:Int) != 0):=e;subst e';exact PySem.W.truthy_bytes (by omega) ⟨H,I.tok _,q⟩
 | ref p =>
  cases rx;have e':(∃ xs,aR X.K H p xs/\k = !xs.isEmpty)\/(∃ xs,aG X.K H p xs/\k = !xs.isEmpty)\/∃ kvs,H p=some (.dK kvs)/\k = !kvs.isEmpty:=e;rcases e' with ⟨xs,hx,e'⟩ | ⟨xs,hx,e'⟩ | ⟨kvs,hx,e'⟩
  ·subst e'
   obtain⟨its,r,pl,hz⟩:=I.list hx;have hlen:=r.length;exact wpAny_truthy_list pl.isList (by simp only[Aj];omega) ⟨H,I.tok _,by rw[lx r];exact q⟩
  ·subst e'
   obtain⟨its,r,pl,hz⟩:=I.tuple hx;have hlen:=r.length;exact truthy_tuple pl (by simp only[Aj];omega) ⟨H,I.tok _,by rw[lx r];exact q⟩
  ·subst e'
   obtain⟨hz,hS,vs,r,m⟩:kvs.length<=sizeLine/\(p == sysModules)=false/\∃ vs,KV kvs vs/\s.heap.DictOf (bZ X.prog X.w) p vs:=I.hok p _ hx;have hlen:kvs.length=vs.length:=Ao r;exact wpAny_truthy_dict hS m (by omega) ⟨H,I.tok _,by rw[p8 r];exact q⟩
 | _=>exact (show False from e).elim
theorem o6 (ha:PE X a ta)(he:∀ whole,isTrue a X.env whole=(do let v <-whole;standAt a.pos;holding [v] (truthy v))) :
  PT X a (fun σ H Q=>ta σ H fun x H'=>∃ k,xi X.K x H' k/\Q k H'):=by
 intro pins s σ H Q I h;exact isTrue_plain (bf (ha pins s σ H _ I h) fun v s1 ⟨x,H1,I1,r1,q1⟩=>wP pins s1 σ H1 x v Q I1 r1 q1) (he _)
theorem lO:iT X (binaryOp .Add) (fun x y H Q=>∃ i j,x=.str i/\y=.str j/\i.length+j.length<=sizeLine/\Q (.str (i++j)) H):=by
 intro pins s σ H x y v u Q I rx ry h;obtain⟨i,j,rfl,rfl,hz,q⟩:=h;obtain⟨t,rfl⟩:=rx;obtain⟨t',rfl⟩:=ry;exact add_str (fun t' tk=>⟨.str (i++j),H,I.tok _,⟨_,rfl⟩,q⟩) hz
theorem fY {x:V}{us:List Value}(r:Vals [x] us):∃ u,us=[u]/\aO x u:=by
 cases r with
 | cons r1 r2=>cases r2;exact⟨_,rfl,r1⟩
theorem uw {x y:V}{us:List Value}(r:Vals [x,y] us):∃ u w',us=[u,w']/\aO x u/\aO y w':=by
 cases r with
 | cons r1 r2 =>
  cases r2 with
  | cons r3 r4=>cases r4;exact⟨_,_,rfl,r1,r3⟩
theorem rH (hc:X.calm=true):eI X (.builtin "max") (fun xs H Q=>∃ i j,xs=[.int i,.int j]/\Q (.int (if j>i then j else i)) H):=by
 intro pins s σ H xs us Q I r h;obtain⟨i,j,rfl,q⟩:=h;obtain⟨u,w',rfl,⟨t,rfl⟩,⟨t',rfl⟩⟩:=uw r;refine max_two_ints (I.ok.hd hc) fun h' tk k=>⟨_,H,I.kept k,?_,q⟩
 by_cases hj:j>i
 ·rw[Ai hj,Ai hj];exact⟨_,rfl⟩
 ·rw[Ag hj,Ag hj];exact⟨_,rfl⟩
theorem rK (hc:X.calm=true):eI X (.builtin "min") (fun xs H Q=>∃ i j,xs=[.int i,.int j]/\Q (.int (if j<i then j else i)) H):=by
 intro pins s σ H xs us Q I r h;obtain⟨i,j,rfl,q⟩:=h;obtain⟨u,w',rfl,⟨t,rfl⟩,⟨t',rfl⟩⟩:=uw r;refine min_two_ints (I.ok.hd hc) fun h' tk k=>⟨_,H,I.kept k,?_,q⟩
 by_cases hj:j<i
 ·rw[Ai hj,Ai hj];exact⟨_,rfl⟩
 ·rw[Ag hj,Ag hj];exact⟨_,rfl⟩
end
structure pN (h:Heap)(x dx C:Addr)(mA:Str->Option Value):Prop where
 obj:h.get? x=some (PySem.W.instObj C dx)
 ns:h.Ns1 dx mA
 ne:dx≠x
theorem rY {h:Heap}{dx:Addr}{mA:Str->Option Value}(n:h.Ns1 dx mA):∃ od,h.get? dx=some od/\∀ name,PySem.W.lookIn name od=some (mA name):=by
 obtain⟨o,es,ep,ho,hd,hk,_,hm⟩:=n;refine⟨o,ho,fun name=>?_⟩;have e:=hm name;unfold nsFind findBy at e;rw[<-Array.find?_toList]at e;unfold PySem.W.lookIn;rw[hd];dsimp only;split
 ·rename_i y q
  rw[q]at e;exact A3 some e
 ·rename_i q
  rw[q]at e
  have a:es.toList.any (·.refKey)=false:=by
   rw[List.any_eq_false];intro y hy;obtain⟨z,t,hkey⟩:=hk y (Array.mem_toList_iff.mp hy);simp[DictEntry.refKey,hkey]
  have a':¬ es.toList.any (·.refKey)=true:=by rw[a];exact Ae
  rw[Ag a'];exact A3 some e
theorem pN.look {h:Heap}{x dx C:Addr}{mA:Str->Option Value}(I:pN h x dx C mA):∃ od,PySem.W.InstAt h x (PySem.W.instObj C dx) C (some od)/\∀ name,PySem.W.lookIn name od=some (mA name) :=
 let ⟨od,ho,hl⟩:=rY I.ns
 ⟨od,⟨I.obj,rfl,rfl,ho⟩,hl⟩
section
variable {prog:Program}{w:World}{A:Around}{E:Value->Shared->Prop}{s:Shared}{K:PySem.W.Frag}{x dx C f:Addr}{mA:Str->Option Value}{name:Str}{v:Value}
theorem uQ {expr:Bool}{Q:Value->Shared->Prop}(X:K.In s.heap)(I:pN s.heap x dx C mA)(hg:PySem.W.plainGet K C name=true)(hh:PySem.W.hasDictIn K C=true)
  (ha:PySem.W.findIn K (.ref C) name=some none) (hv:mA name=some v) (hv':PySem.W.handedIn v=true) (h:Q v { s with toks:=s.toks+1 }) :
  wpAny (model prog w) A (getAttr (.ref x) name expr) Q E s:=by
 obtain⟨od,J,hl⟩:=I.look;exact PySem.W.get_value X J (PySem.W.plainGet_of hg).1 (PySem.W.findObj_own hh ha rfl (by rw[hl,hv])) hv' h
theorem sZ {pl:Sem Bool}{Q:Value×List Value->Shared->Prop}(X:K.In s.heap)(I:pN s.heap x dx C mA)(hg:PySem.W.plainGet K C name=true)
  (hf:PySem.W.findIn K (.ref C) name=some (some (.ref f))) (ht:PySem.W.isFn K (.ref f)=true) (hv:mA name=none) (h:Q (.ref f,[.ref x]) s) :
  wpAny (model prog w) A (getMethod (.ref x) name pl) Q E s:=by
 obtain⟨od,J,hl⟩:=I.look;exact PySem.W.method_fn X J (PySem.W.plainGet_of hg).1 (PySem.W.plainGet_of hg).2 hf (beq_iff_eq.mp ht) (by show (PySem.W.lookIn name od).map (·.isSome)=some false;rw[hl,hv];rfl) h
theorem vf {ns:List Str}{Q:Unit->Shared->Prop}(X:K.In s.heap)(I:pN s.heap x dx C mA)
  (hs:PySem.W.findIn K (.ref C) "__setattr__" = some (some (.builtin "object.__setattr__"))) (hp:PySem.W.plainOver K C=true) (ht:PySem.W.takerIn K C name=some none) (hh:PySem.W.hasDictIn K C=true)
  (hw:PySem.Within mA ns) (hsz:ns.length<=sizeLine)
  (h:∀ h',pN h' x dx C (fun y=>if y=name then some v else mA y)->Heap.SameBut dx s.heap h'->Q () { s with heap:=h',toks:=s.toks+2 }) :
  wpAny (model prog w) A (setAttr (.ref x) name v) Q E s:=by
 obtain⟨od,J,hl⟩:=I.look;refine PySem.W.set_plain X J hs (PySem.W.osa_open (s:={ s with toks:=s.toks+1 }) (r:=none) X J hp ht fun b=>?_);obtain⟨cd,hc,hd'⟩:=PySem.W.any_some hh;have hx:s.heap.get? x=some ⟨.ref C,some dx,.plain,#[]⟩:=I.obj;refine z4 (Ac (z4 (z4 (wpAny_loadPart hx (z4 (PySem.W.Looks.here (s:={ s with toks:=s.toks+1 }) (PySem.W.looks_clsIn X hc) ?_))))));rw[hd'];refine Ac (a:=some dx) (z4 (Ac (z4 ?_)));refine wpAny_nsSet1 (s:={ s with toks:=s.toks+1 }) I.ns fun h' hn2 hs2=>?_;obtain⟨oD,esD,epD,hoD,hdD,hcD⟩:=hn2.count (PySem.Within.cons name v hw);refine z4 (wpAny_lookBehind hoD (by rw[hdD];exact pastItsLine_dict (AX hcD (by rw[AT];omega))) ?_);exact Ac (h _ ⟨(hs2.2 _ (AK I.ne)).trans I.obj,hn2,I.ne⟩ hs2)
theorem tz {R:Result->Shared->Prop}{vs:List Value}{kw:List (Str×Value)}(X:K.In s.heap)(hm:PySem.W.makesIn K C=true)
  (hi:PySem.W.findIn K (.ref C) "__init__" = some (some (.ref f))) (hf:PySem.W.typeIn K (.ref f)=some (.type "function"))
  (h:codeAny (model prog w) (A.under (.builtin "type.__call__" ⟨.ref C::vs,kw⟩)) (.call (.ref f) ⟨.ref (s.heap.objs.size+1)::vs,kw⟩) (PySem.W.InitBack (s.heap.objs.size+1) R)
   { s with heap:=(s.heap.push PySem.W.emptyDict).push (PySem.W.instObj C s.heap.objs.size) }) :
  codeAny (model prog w) A (.call (.ref C) ⟨vs,kw⟩) R s:=by
 obtain⟨hh,g,d,t,os⟩:=s;exact PySem.W.make_core (PySem.W.makes_of X hm) (PySem.W.looks_findIn X hi) (fun self=>PySem.W.bind_fn X self hf) (.inl rfl) h
end
def dh (f:Str)(v:V):List (Str×V)->List (Str×V)
 | []=>[(f,v)]
 | (g,x)::r=>if g=f then (g,v)::r else (g,x)::dh f v r
theorem bu (f g:Str)(v:V):∀ fs:List (Str×V),(dh f v fs).lookup g=if g=f then some v else fs.lookup g
 | []=>by
  show List.lookup g [(f,v)]=_
  by_cases h:g=f
  ·have hb:(g == f)=true:=beq_iff_eq.mpr h
   simp only[List.lookup,hb,Ai h]
  ·have hb:(g == f)=false:=BH.mpr h
   simp only[List.lookup,hb,Ag h]
 | (k,x)::r=>by
  have ih:=bu f g v r;rw[show dh f v ((k,x)::r)=(if k=f then (k,v)::r else (k,x)::dh f v r) from rfl]
  by_cases hk:k=f
  ·rw[Ai hk]
   by_cases h:g=k
   ·have hb:(g == k)=true:=beq_iff_eq.mpr h
    simp only[List.lookup,hb,Ai (h.trans hk)]
   ·have hb:(g == k)=false:=BH.mpr h
    simp only[List.lookup,hb,Ag (fun e:g=f=>h (e.trans hk.symm))]
  ·rw[Ag hk]
   by_cases h:g=k
   ·have hb:(g == k)=true:=beq_iff_eq.mpr h
    simp only[List.lookup,hb,Ag (fun e:g=f=>hk (h.symm.trans e))]
   ·have hb:(g == k)=false:=BH.mpr h
    simp only[List.lookup,hb];exact ih
theorem jI (f:Str)(v:V):∀ fs:List (Str×V),f∈(dh f v fs).map (·.1)/\∀ g,g∈fs.map (·.1)->g∈(dh f v fs).map (·.1)
 | []=>⟨by simp[dh],fun g h=>by simp at h⟩
 | (k,x)::r=>by
  obtain⟨i1,i2⟩:=jI f v r;rw[show dh f v ((k,x)::r)=(if k=f then (k,v)::r else (k,x)::dh f v r) from rfl]
  by_cases hk:k=f
  ·rw[Ai hk]
   subst hk;exact⟨by simp,fun g h=>by simpa using h⟩
  ·rw[Ag hk]
   refine⟨?_,fun g h=>?_⟩
   ·rw[Az]
    exact Ak _ i1
   ·rw[Az]at h ⊢
    rcases Aq.mp h with e | e
    ·exact Aq.mpr (.inl e)
    ·exact Ak _ (i2 g e)
theorem ki (f:Str)(v:V):∀ fs:List (Str×V),(dh f v fs).length<=fs.length+1
 | []=>by simp[dh]
 | (k,x)::r=>by
  have ih:=ki f v r;rw[show dh f v ((k,x)::r)=(if k=f then (k,v)::r else (k,x)::dh f v r) from rfl]
  by_cases hk:k=f
  ·rw[Ai hk,AT,AT];omega
  ·rw[Ag hk,AT,AT];omega
theorem hV.some_of {v:V}{o:Option Value}(r:hV (some v) o):∃ u,o=some u/\aO v u:=by
 cases o with
 | none=>exact (show False from r).elim
 | some u=>exact⟨u,rfl,r⟩
theorem hV.none_of {o:Option Value}(r:hV none o):o=none:=by
 cases o with
 | none=>rfl
 | some u=>exact (show False from r).elim
theorem rQ {v:V}{u:Value}(r:aO v u):PySem.W.handedIn u=true:=by
 cases v with
 | non=>cases (show u=Value.none from r);rfl
 | bl b=>cases (show u=Value.bool b from r);rfl
 | int i=>obtain⟨t,e⟩:=(show ∃ t,u=Value.int i t from r);cases e;rfl
 | str x=>obtain⟨t,e⟩:=(show ∃ t,u=Value.str x t from r);cases e;rfl
 | byt b=>obtain⟨t,e⟩:=(show ∃ t,u=Value.bytes b t from r);cases e;rfl
 | flt b=>obtain⟨t,e⟩:=(show ∃ t,u=Value.float b t from r);cases e;rfl
 | ref a=>cases (show u=Value.ref a from r);rfl
 | ty n=>cases (show u=Value.type n from r);rfl
section
variable {P:Program}{w:World}{H H':Hp}{h h':Heap}{a C dx:Addr}{fs fs':List (Str×V)}
theorem kH (hok:f8 P w H h)(e:H a=some (.ins C dx fs)):∃ mA,pN h a dx C mA/\(∀ f,hV (fs.lookup f) (mA f))/\PySem.Within mA (fs.map (·.1))/\fs.length<=1000/\H dx=some (.own a):=by
 obtain⟨d,z,ne,ob,mA,n,r,q⟩:=(show bv P w H h a (.ins C dx fs) from hok a _ e);exact⟨mA,⟨ob,n,ne⟩,r,q,z,d⟩
end
structure qF (K:PySem.W.Frag)(C:Addr):Prop where
 pg:PySem.W.plainGet K C Str.empty=true
 hd:PySem.W.hasDictIn K C=true
 po:PySem.W.plainOver K C=true
 sa:PySem.W.findIn K (.ref C) "__setattr__" = some (some (.builtin "object.__setattr__"))
theorem qF.get {K:PySem.W.Frag}{C:Addr}(c:qF K C)(f:Str):PySem.W.plainGet K C f=true:=c.pg
def fA (K:PySem.W.Frag)(C:Addr)(f:Str):Prop:=PySem.W.findIn K (.ref C) f=some none
theorem fA.taker {K:PySem.W.Frag}{C:Addr}{f:Str}(n:fA K C f):PySem.W.takerIn K C f=some none:=by
 unfold PySem.W.takerIn;rw[show PySem.W.findIn K (.ref C) f=some none from n];rfl
structure uG (K:PySem.W.Frag)(C:Addr)(m:Str)(f:Addr):Prop where
 at_:PySem.W.findIn K (.ref C) m=some (some (.ref f))
 fn:PySem.W.isFn K (.ref f)=true
 kp:PySem.W.keepIn K (.ref f)=true
section
variable {X:Cx}{pins:List (Addr×Obj)}{σ:St}{H:Hp}{s:Shared}{a C dx:Addr}{fs:List (Str×V)}{f:Str}{v:V}{A:Around}{E:Value->Shared->Prop}
theorem pZ {b:Bool}{Q:Value->Shared->Prop}(I:az X pins σ H s)(e:H a=some (.ins C dx fs))(c:qF X.K C)(n:fA X.K C f)(l:fs.lookup f=some v)
  (h:∀ u s',az X pins σ H s'->aO v u->Q u s'):wpAny (model X.prog X.w) A (getAttr (.ref a) f b) Q E s:=by
 obtain⟨mA,O,r,_,_,_⟩:=kH I.hok e;obtain⟨u,hu,ru⟩:=hV.some_of (v:=v) (o:=mA f) (by rw[<-l];exact r f);exact uQ I.kIn O (c.get f) c.hd n hu (rQ ru) (h u _ (I.tok _) ru)
theorem iH {m:Str}{g:Addr}{pl:Sem Bool}{Q:Value×List Value->Shared->Prop}(I:az X pins σ H s)(e:H a=some (.ins C dx fs))(c:qF X.K C)(k:uG X.K C m g)(l:fs.lookup m=none)
  (h:Q (.ref g,[.ref a]) s):wpAny (model X.prog X.w) A (getMethod (.ref a) m pl) Q E s:=by
 obtain⟨mA,O,r,_,_,_⟩:=kH I.hok e;have hn:mA m=none:=hV.none_of (by rw[<-l];exact r m);exact sZ I.kIn O (c.get m) k.at_ k.fn hn h
theorem qy {y:V}{u:Value}{Q:Unit->Shared->Prop}(I:az X pins σ H s)(e:H a=some (.ins C dx fs))(c:qF X.K C)(n:fA X.K C f)(hl:fs.length<1000)(ry:aO y u)
  (h:∀ s',az X pins σ (aD H a (.ins C dx (dh f y fs))) s'->Q () s'):wpAny (model X.prog X.w) A (setAttr (.ref a) f u) Q E s:=by
 obtain⟨mA,O,r,wi,_,ho⟩:=kH I.hok e
 have hz:(fs.map (·.1)).length<=sizeLine:=by rw[z9,AQ];omega
 refine vf I.kIn O c.sa c.po n.taker c.hd wi hz fun h' O' sb=>h _ ?_;have hd:∃ o,h'.get? dx=some o:=let ⟨o,_,_,e',_⟩:=O'.ns;⟨o,e'⟩;refine I.write (x:=a) (e:=dx) (by rw[e];exact True.intro) (.inr ho) (fun b q hb z=>(sb.2 b hb).trans z) hd ?_;refine⟨by rw[ap O.ne];exact ho,?_,O.ne,O'.obj,_,O'.ns,fun g=>?_,fun g hg=>?_⟩
 ·have:=ki f y fs;omega
 ·show hV ((dh f y fs).lookup g) (if g=f then some u else mA g)
  rw[bu]
  by_cases q:g=f
  ·rw[Ai q,Ai q];exact ry
  ·rw[Ag q,Ag q];exact r g
 ·by_cases q:g=f
  ·rw[q];exact (jI f y fs).1
  ·refine (jI f y fs).2 g (wi g fun z=>hg ?_)
   show (if g=f then some u else mA g)=none
   rw[Ag q];exact z
theorem az.made (I:az X pins σ H s):az X pins σ (aD (aD H s.heap.objs.size (.own (s.heap.objs.size+1))) (s.heap.objs.size+1) (.ins C s.heap.objs.size []))
  { s with heap:=(s.heap.push PySem.W.emptyDict).push (PySem.W.instObj C s.heap.objs.size) }:=by
 have e1:(s.heap.push PySem.W.emptyDict).get? s.heap.objs.size=some PySem.W.emptyDict:=Heap.get?_push_size s.heap rfl
 have e2:((s.heap.push PySem.W.emptyDict).push (PySem.W.instObj C s.heap.objs.size)).get? (s.heap.objs.size+1)=some (PySem.W.instObj C s.heap.objs.size):=by
  have:=Heap.get?_push_size (s.heap.push PySem.W.emptyDict) (o:=PySem.W.instObj C s.heap.objs.size) rfl
  rwa [AR]at this
 have e3:(s.heap.push PySem.W.emptyDict).Ns s.heap.objs.size (fun _=>none):=⟨PySem.W.emptyDict,#[],_,e1,rfl,(fun e he=>absurd he (by simp)),fun _=>rfl⟩;have I1:=I.laid (a:=s.heap.objs.size) (o:=.own (s.heap.objs.size+1)) (h':=s.heap.push PySem.W.emptyDict) (t':=s.toks) (fun b u q=>Heap.get?_push_of_some _ q) (Ad _) ⟨_,e1⟩;refine I1.laid (a:=s.heap.objs.size+1) (o:=.ins C s.heap.objs.size []) (t':=s.toks) (fun b u q=>Heap.get?_push_of_some _ q) (Nat.le_of_eq (AR _ _)) ?_;have ne:s.heap.objs.size≠s.heap.objs.size+1:=Al (BF _);refine⟨by rw[ap ne,aa],Au _,ne,e2,fun _=>none,(Heap.Ns1.of_empty e3).at fun o q=>Heap.get?_push_of_some _ q,fun _=>True.intro,fun y hy=>absurd rfl hy⟩
theorem uJ {prog:Program}{w:World}{env:Env}{e:Expr}{f:Str}{pos:Pos}{s:Shared}{Q:Value->Shared->Prop}(hb:attributeBase e f env (eval e env)=eval e env)
  (h:wpAny (model prog w) A (eval e env) (fun o s₁=>wpAny (model prog w) A (getAttr o f true) Q E s₁) E s):wpAny (model prog w) A (eval (.Attribute e f pos) env) Q E s :=
 Attribute_any_ h (by rw[arm_eval_Attribute,hb])
end
inductive zw (K:PySem.W.Frag) (f:Str) (Q:VK) (x:V) (H:Hp):Prop
 | mk (a C dx:Addr) (fs:List (Str×V)) (v:V) (e:x=.ref a) (o:H a=some (.ins C dx fs)) (c:qF K C) (n:fA K C f) (l:fs.lookup f=some v) (h:Q v H):zw K f Q x H
def y1 (K:PySem.W.Frag)(ta:TE)(f:Str):TE:=fun σ H Q=>ta σ H fun x H1=>zw K f Q x H1
def yV (K:PySem.W.Frag)(ta tv:TE)(f:Str):TS:=fun D σ H=>tv σ H fun y H1=>ta σ H1 fun x H2=>∃ a C dx fs,x=.ref a/\H2 a=some (.ins C dx fs)/\qF K C/\fA K C f/\fs.length<1000 /\
 D.nx σ (aD H2 a (.ins C dx (dh f y fs)))
section
variable {X:Cx}{o e value:Expr}{f:Str}{pos pos' tpos:Pos}{ta tv:TE}
theorem e9 (he:PE X e ta)(hb:attributeBase e f X.env (eval e X.env)=eval e X.env):PE X (.Attribute e f pos) (y1 X.K ta f):=by
 intro pins s σ H Q I h;refine uJ hb (bf (he pins s σ H _ I h) fun u s1 ⟨x,H1,I1,rx,a,C,dx,fs,v,ex,ea,c,n,l,q⟩=>?_);subst ex;obtain rfl:u=Value.ref a:=rx;exact pZ I1 ea c n l fun u' s2 I2 ru=>⟨v,H1,I2,ru,q⟩
theorem qu (ha:PE X o ta)(hv:PE X value tv)(hs:swapsWith value (some (.Attribute o f pos')) pos.line X.env=pure false):PS X (.Assign [.Attribute o f pos'] value pos) (yV X.K ta tv f):=by
 intro pins s σ H D I h;refine plainObj_wpAny_Assign_Attribute (bf (hv pins s σ H _ I h) fun u s1 ⟨y,H1,I1,ry,q⟩=>bf (ha pins s1 σ H1 _ I1 q) fun ov s2 ⟨x,H2,I2,rx,a,C,dx,fs,ex,ea,c,n,l,q2⟩=>?_) hs;subst ex;obtain rfl:ov=Value.ref a:=rx;exact qy I2 ea c n l ry fun s3 I3=>⟨σ,_,I3,q2⟩
end
section
variable {X:Cx}{pins:List (Addr×Obj)}{σ:St}{H:Hp}{s:Shared}{A:Around}{E:Value->Shared->Prop}{Q:Value->Shared->Prop}{c:Value}{b:Bool}
inductive gh (K:PySem.W.Frag) (H:Hp):V->Value->Prop where
 | non:gh K H .non (.type "NoneType")
 | bl (x:Bool):gh K H (.bl x) (.type "bool")
 | int (i:Int):gh K H (.int i) (.type "int")
 | str (x:Str):gh K H (.str x) (.type "str")
 | flt (x:UInt64):gh K H (.flt x) (.type "float")
 | lst {a:Addr} {xs:List V} (e:H a=some (.lst xs)):gh K H (.ref a) (.type "list")
 | frz {a:Addr} {o:Obj} {xs:List V} (e:H a=some (.frz o (.lst xs))):gh K H (.ref a) (.type "list")
 | tup {a:Addr} {xs:List V} (e:H a=some (.tup xs)):gh K H (.ref a) (.type "tuple")
 | dK {a:Addr} {kvs:List (cv×V)} (e:H a=some (.dK kvs)):gh K H (.ref a) (.type "dict")
 | dT {a:Addr} {kvs:List (List cv×V)} (e:H a=some (.dT kvs)):gh K H (.ref a) (.type "dict")
 | ins {a C dx:Addr} {fs:List (Str×V)} (e:H a=some (.ins C dx fs)) (cl:qF K C) (ha:PySem.W.findIn K (.ref C) "__class__" = some (some (.builtin "object.__class__")))
   (hn:PySem.W.specialIn K (.builtin "object.__class__") "__get__" = some (some (.builtin "getset_descriptor.__get__"))) (htk:PySem.W.takesIn K (.builtin "object.__class__")=some true)
   (hm:PySem.W.mroIn K C (.type "object")=some true):gh K H (.ref a) (.ref C)
theorem rT {x:V}{u t:Value}(I:az X pins σ H s)(rx:aO x u)(ty:gh X.K H x t)(e:PySem.W.kitOne X.K t c=some b)(h:∀ tk,Q (.bool b) { s with toks:=tk }) :
  wpAny (model X.prog X.w) A (call (.builtin "isinstance") [u,c]) Q E s:=by
 cases ty with
 | non=>cases (show u=Value.none from rx);exact A6 PySem.W.kitx_none I.kIn True.intro e (fun z=>nomatch z) h
 | bl y=>cases (show u=Value.bool y from rx);exact A6 PySem.W.kitx_bool I.kIn True.intro e (fun z=>nomatch z) h
 | int i=>obtain⟨t,q⟩:=(show ∃ t,u=Value.int i t from rx);cases q;exact A6 PySem.W.kitx_int I.kIn True.intro e (fun z=>nomatch z) h
 | str y=>obtain⟨t,q⟩:=(show ∃ t,u=Value.str y t from rx);cases q;exact A6 PySem.W.kitx_str I.kIn True.intro e (fun z=>nomatch z) h
 | flt y=>obtain⟨t,q⟩:=(show ∃ t,u=Value.float y t from rx);cases q;exact A6 PySem.W.kitx_float I.kIn True.intro e (fun z=>nomatch z) h
 | @lst a xs ea =>
  cases (show u=Value.ref a from rx);obtain⟨_,_,n,_,h1⟩:=(show bv X.prog X.w H s.heap a (.lst xs) from I.hok a _ ea);exact A6 PySem.W.kitx_list I.kIn ⟨_,h1,rfl⟩ e (fun z=>nomatch z) h
 | @frz a ob xs ea =>
  cases (show u=Value.ref a from rx);obtain⟨_,_,_,n,_,h1⟩:=(show bv X.prog X.w H s.heap a (.frz ob (.lst xs)) from I.hok a _ ea);exact A6 PySem.W.kitx_list I.kIn ⟨_,h1,rfl⟩ e (fun z=>nomatch z) h
 | @tup a xs ea =>
  cases (show u=Value.ref a from rx);obtain⟨_,_,_,p⟩:=(show bv X.prog X.w H s.heap a (.tup xs) from I.hok a _ ea);obtain⟨o,h1,h2,_⟩:=p;exact A6 PySem.W.kitx_tuple I.kIn ⟨o,h1,h2⟩ e (fun z=>nomatch z) h
 | @dK a kvs ea =>
  cases (show u=Value.ref a from rx);obtain⟨_,_,vs,_,p⟩:=(show bv X.prog X.w H s.heap a (.dK kvs) from I.hok a _ ea);obtain⟨o,es,ep,h1,h2,_⟩:=p;exact A6 PySem.W.kitx_dict I.kIn ⟨o,h1,h2.1⟩ e (fun z=>nomatch z) h
 | @dT a kvs ea =>
  cases (show u=Value.ref a from rx);obtain⟨_,_,xs,_,o,es,ep,h1,h2,_⟩:=(show bv X.prog X.w H s.heap a (.dT kvs) from I.hok a _ ea);exact A6 PySem.W.kitx_dict I.kIn ⟨o,h1,h2.1⟩ e (fun z=>nomatch z) h
 | @ins a C dx fs ea cl ha hn htk hm =>
  cases (show u=Value.ref a from rx);obtain⟨mA,O,_⟩:=kH I.hok ea;obtain⟨od,J,_⟩:=O.look;exact A6 (PySem.W.kitx_own (cl.get _) cl.hd ha hn htk hm) I.kIn J e (fun z=>nomatch z) h
end
structure cw (k:Nat)(A:Around):Prop where
 hd:A.handled=none
 dp:A.depth+3*k+5<recursionLimit
 un:A.units+16*k+200<cLine
theorem cw.mono {j k:Nat}{A:Around}(r:cw k A)(h:j<=k):cw j A:=⟨r.hd,by have:=r.dp;omega,by have:=r.un;omega⟩
theorem cw.deeper {k:Nat}{A:Around}(r:cw (k+1) A)(env:Env):cw k (A.deeper env) :=
 ⟨r.hd,by have:=r.dp;show A.depth+1+3*k+5<_;omega,by have:=r.un;show A.units+3+16*k+200<_;omega⟩
theorem qa {A:Around}{C:Addr}{us:List Value}{kw:List (Str×Value)}:(A.under (.builtin "type.__call__" ⟨.ref C::us,kw⟩)).depth=A.depth+1:=by
 first | rfl | simp[Around.under,Code.weight,Code.isCreation,Code.isGuard,Code.isCaller,Code.frames,Code.isFrame,guardIds]
theorem qb {A:Around}{C:Addr}{us:List Value}{kw:List (Str×Value)}:(A.under (.builtin "type.__call__" ⟨.ref C::us,kw⟩)).units=A.units+1:=by
 first | rfl | simp[Around.under,Code.cUnits,Code.frames,Code.isFrame]
theorem cw.make {k:Nat}{A:Around}(r:cw (k+1) A)(C:Addr)(us:List Value)(kw:List (Str×Value)):cw k (A.under (.builtin "type.__call__" ⟨.ref C::us,kw⟩)) :=
 ⟨r.hd,by have:=r.dp;rw[qa];omega,by have:=r.un;rw[qb];omega⟩
theorem cw.depth {k:Nat}{A:Around}(r:cw k A):A.depth<recursionLimit:=by have:=r.dp;omega
theorem cw.units {k:Nat}{A:Around}(r:cw k A):A.units+64<cLine:=by have:=r.un;omega
def n8:TA:=fun _ H Q=>Q [] H
def kr (ta:TE)(tr:TA):TA:=fun σ H Q=>ta σ H fun x H1=>tr σ H1 fun xs H2=>Q (x::xs) H2
section
variable {X:Cx}{e:Expr}{es:List Expr}{te:TE}{t:TA}{pos:Pos}
theorem aT:PA X [] n8:=fun _ _ _ _ H Q I h=>Calls.spliced_nil ⟨[],H,I,.nil,h⟩
theorem aA (ha:PE X e te)(hr:PA X es t)(hs:starEach (e::es) X.env=(false,eval e X.env)::starEach es X.env:=by rfl):PA X (e::es) (kr te t):=by
 intro pos pins s σ H Q I h;rw[hs]
 show wpAny _ _ (spliced ((false,eval e X.env)::backTo pos (starEach es X.env))) _ _ s
 refine Calls.spliced_cons (bf (ha pins s σ H _ I h) fun u s1 ⟨x,H1,I1,r1,q1⟩=>?_);exact bf (hr pos pins s1 σ H1 _ I1 q1) fun us s2 ⟨xs,H2,I2,r2,q2⟩=>⟨x::xs,H2,I2,.cons r1 r2,q2⟩
def zf (t:TA):TE:=fun σ H Q=>t σ H fun xs H1=>xs.length<=sizeLine/\∀ p,H1 p=none->Q (.ref p) (aD H1 p (.tup xs))
def y7 (t:TA):TE:=fun σ H Q=>t σ H fun xs H1=>xs.length<=sizeLine/\∀ p,H1 p=none->Q (.ref p) (aD H1 p (.lst xs))
theorem aI {x1}(h:PA X es t):PE X (.Tuple es x1 pos) (zf t):=by
 intro pins s σ H Q I hq;refine wpAny_Tuple_spliced (bf (h pos pins s σ H _ I hq) fun us s1 ⟨xs,H1,I1,r,z,q⟩=>⟨by rw[<-r.length];exact z,?_⟩);have hf:H1 s1.heap.objs.size=none:=I1.hok.fresh (Ad _);refine⟨.ref s1.heap.objs.size,aD H1 s1.heap.objs.size (.tup xs),I1.laid (t':=s1.toks) (fun b u e=>Heap.get?_push_of_some _ e) (Ad _) ?_,rfl,q _ hf⟩;exact⟨z,us,r,⟨_,Heap.get?_push_size _ rfl,rfl,_,rfl⟩⟩
theorem bD (h:PA X es t):PE X (.List es pos) (y7 t):=by
 intro pins s σ H Q I hq;refine wpAny_List_spliced (bf (h pos pins s σ H _ I hq) fun us s1 ⟨xs,H1,I1,r,z,q⟩=>⟨by rw[<-r.length];exact z,?_⟩);have hf:H1 s1.heap.objs.size=none:=I1.hok.fresh (Ad _);refine⟨.ref s1.heap.objs.size,aD H1 s1.heap.objs.size (.lst xs),I1.laid (t':=s1.toks) (fun b u e=>Heap.get?_push_of_some _ e) (Ad _) ?_,rfl,q _ hf⟩;exact⟨z,us,0,r,Heap.get?_push_size _ rfl⟩
end
abbrev Sp:=List V->Hp->VK->XK->Prop
abbrev pJ:=List Env->Hp->Shared->XK->Value->Shared->Prop
structure pL (P:Program)(w:World)(K:PySem.W.Frag)(mg:Str->Option Value)(base:Heap)(A:Around)(outer:List Env)(s:Shared)(H:Hp):Prop where
 frames:A.frames=some outer
 mod:Mod K mg base
 bs:∀ b o,base.get? b=some o->s.heap.get? b=some o/\H b=none
 bsz:base.objs.size<=s.heap.objs.size
 funs:s.heap.FunFrames base outer
 frf:∀ b∈gu outer,H b=none
 hok:f8 P w H s.heap
 bare:AllBare s.gens
def CE (outer:List Env)(P:Program)(w:World)(H:Hp)(s:Shared)(Q:VK)(u:Value)(s':Shared):Prop :=
 ∃ v H',s'.os=s.os/\AllBare s'.gens/\Un (gu outer) [] H H' s.heap s'.heap/\f8 P w H' s'.heap/\aO v u/\Q v H'
def CR (CX:pJ)(outer:List Env)(P:Program)(w:World)(H:Hp)(s:Shared)(Q:VK)(E:XK)(r:Result)(s':Shared):Prop :=
 match r with
 | .ok (.ret u)=>CE outer P w H s Q u s'
 | .ok _=>False
 | .error e=>CX outer H s E e s'
structure bp (P:Program)(w:World)(K:PySem.W.Frag)(mg:Str->Option Value)(base:Heap)(CX:pJ)(k:Nat)(f:Addr)(fd:FuncData)(ps:List Str)(sp:Sp):Prop where
 len:∀ vs H Q E,sp vs H Q E->vs.length=ps.length
 run:∀ (A:Around)(outer:List Env)(s:Shared)(H:Hp)(args:Args)(us:List Value)(vs:List V)(Q:VK)(E:XK),cw k A->pL P w K mg base A outer s H->BindsTo s fd args (ps.zip us)->Vals vs us->sp vs H Q E ->
  codeAny (model P w) A (.call (.ref f) args) (CR CX outer P w H s Q E) s
theorem pL.make {P:Program}{w:World}{K:PySem.W.Frag}{mg:Str->Option Value}{base:Heap}{A:Around}{outer:List Env}{s:Shared}{H:Hp}(e:pL P w K mg base A outer s H)(C:Addr)(us:List Value)(kw:List (Str×Value)) :
  pL P w K mg base (A.under (.builtin "type.__call__" ⟨.ref C::us,kw⟩)) outer s H:=⟨by first | exact e.frames | (simpa [Around.under,Code.envs,Code.isFrame,pushEnvs] using e.frames),e.mod,e.bs,e.bsz,e.funs,e.frf,e.hok,e.bare⟩
section
variable {X:Cx}{pins:List (Addr×Obj)}{σ:St}{H:Hp}{s s':Shared}
theorem az.env0 (I:az X pins σ H s):pL X.prog X.w X.K X.mg X.base X.A X.stack s H :=
 ⟨I.ok.frames,I.ok.mod,I.bs,AX I.ok.bsz I.sz,I.stack,I.stkFree,I.hok,I.bare⟩
theorem az.after {Q:VK}{u:Value}(I:az X pins σ H s)(h:CE X.stack X.prog X.w H s Q u s'):EP X pins σ Q u s':=by
 obtain⟨v,H',os,bare,un,hok,r,q⟩:=h;obtain⟨hh,g,d,t,os'⟩:=s';obtain rfl:os'=s.os:=os;exact⟨v,H',I.call (h':=hh) (g':=g) (d':=d) (t':=t) (ch:=[]) un hok bare (fun b z=>absurd z (by simp)),r,q⟩
end
def uh (sp:Sp)(dvs:List V)(E:XK)(t:TA):TE:=fun σ H Q=>t σ H fun vs H1=>sp (vs++dvs) H1 Q E
inductive zx (C:Addr) (m:Str) (sp:Sp) (dvs:List V) (E:XK) (t:TA) (σ:St) (Q:VK) (x:V) (H:Hp):Prop
 | mk (a dx:Addr) (fs:List (Str×V)) (e:x=.ref a) (o:H a=some (.ins C dx fs)) (l:fs.lookup m=none) (h:t σ H fun vs H2=>sp (x::(vs++dvs)) H2 Q E):zx C m sp dvs E t σ Q x H
def pk (C:Addr)(m:Str)(sp:Sp)(dvs:List V)(E:XK)(ta:TE)(t:TA):TE:=fun σ H Q=>ta σ H fun x H1=>zx C m sp dvs E t σ Q x H1
def vH (C:Addr)(sp:Sp)(dvs:List V)(E:XK)(t:TA):TE:=fun σ H Q=>t σ H fun vs H1=>∀ x dx,H1 x=none->H1 dx=none->dx≠x ->
 sp (.ref x::(vs++dvs)) (aD (aD H1 dx (.own x)) x (.ins C dx [])) (fun v H2=>v=.non/\Q (.ref x) H2) E
def fk (K:PySem.W.Frag)(fd:FuncData)(ps:List Str)(ds:List Value):Prop :=
 ∀ (s:Shared)(us:List Value),K.In s.heap->(us++ds).length=ps.length->BindsTo s fd ⟨us,[]⟩ (ps.zip (us++ds))
theorem fk.all {K:PySem.W.Frag}{fd:FuncData}{ps:List Str}(h:∀ us:List Value,us.length=ps.length->bindArgs fd ⟨us,[]⟩=pure (ps.zip us)):fk K fd ps []:=fun s us _ hl=>by
 rw[Bt]at hl ⊢;exact .of_eq (h us hl)
def dC (CX:pJ)(X:Cx)(E:XK):Prop:=∀ (pins:List (Addr×Obj))(σ:St)(H:Hp)(s:Shared)(e:Value)(s':Shared),az X pins σ H s->CX X.stack H s E e s'->X.xe e s'
section
variable {X:Cx}{CX:pJ}{k:Nat}{f C:Addr}{fd:FuncData}{ps:List Str}{sp:Sp}{dvs:List V}{ds:List Value}{E:XK}{x m:Str}{p pos apos:Pos}{e o:Expr}{es:List Expr}{ta:TE}{t:TA}
theorem qv {pins:List (Addr×Obj)}{σ:St}{H:Hp}{s:Shared}{Q:VK}{us:List Value}{vs:List V}(F:bp X.prog X.w X.K X.mg X.base CX k f fd ps sp)(hr:cw k X.A)(hb:fk X.K fd ps ds)(hd:Vals dvs ds)(hx:dC CX X E)
  (I:az X pins σ H s) (r:Vals vs us) (h:sp (vs++dvs) H Q E):wpAny (model X.prog X.w) X.A (call (.ref f) us) (EP X pins σ Q) X.xe s:=by
 have r2:Vals (vs++dvs) (us++ds):=r.append hd
 have hl:(us++ds).length=ps.length:=by rw[<-r2.length];exact F.len _ _ _ _ h
 refine wpAny_call (BS (F.run X.A X.stack s H ⟨us,[]⟩ (us++ds) (vs++dvs) Q E hr I.env0 (hb s us I.kIn hl) r2 h) fun r s' hq=>?_)
 cases r with
 | error e=>exact hx pins σ H s e s' I hq
 | ok fl =>
  cases fl with
  | ret u=>exact I.after hq
  | next=>exact False.elim hq
  | brk=>exact False.elim hq
  | cont=>exact False.elim hq
theorem rh (F:bp X.prog X.w X.K X.mg X.base CX k f fd ps sp)(hr:cw k X.A)(hg:Gl X x)(hm:X.mg x=some (.ref f))(hk:PySem.W.keepIn X.K (.ref f)=true)(hb:fk X.K fd ps ds)(hd:Vals dvs ds)(hx:dC CX X E)
  (ha:PA X (e::es) t) (hdb:(x == ("__debug__" : Str))=false:=by decide) (he:starEach (e::es) X.env=(false,eval e X.env)::starEach es X.env:=by rfl) (hpl:(backTo pos (starEach es X.env)).any (·.1)=false:=by rfl) :
  PE X (.Call (.Name x p) (e::es) [] pos) (uh sp dvs E t):=by
 intro pins s σ H Q I h;refine AV (jd I hg hm ?_ hdb);refine PySem.W.callWith_K (h₀:=X.base) I.ok.mod.kin hk (bf (ha pos pins s σ H _ I h) fun us s1 ⟨vs,H1,I1,r,q⟩=>⟨I1.kIn,?_⟩) he hpl;exact qv F hr hb hd hx I1 r q
theorem vc {pl:Sem Bool}(he:PE X o ta)(c:qF X.K C)(hm:uG X.K C m f)(F:bp X.prog X.w X.K X.mg X.base CX k f fd ps sp)(hr:cw k X.A)(hb:fk X.K fd ps ds)(hd:Vals dvs ds)(hx:dC CX X E)(ha:PA X (e::es) t)
  (hst:starEach (e::es) X.env=(false,eval e X.env)::starEach es X.env:=by rfl) (hpl:(backTo pos (starEach es X.env)).any (·.1)=false:=by rfl)
  (ht:eval (.Call (.Attribute o m apos) (e::es) [] pos) X.env=(do
   let ov <-eval o X.env
   standAt apos.atName
   let (f,first) <-holding [ov] (getMethod ov m pl)
   callWith pos f first (backTo pos (starEach (e::es) X.env)) (backToKw pos (keywordEach [] X.env))):=by rfl) :
  PE X (.Call (.Attribute o m apos) (e::es) [] pos) (pk C m sp dvs E ta t):=by
 intro pins s σ H Q I h;refine PySem.W.methodCall_KW (pl:=pl) (bf (he pins s σ H _ I h) fun u s1 ⟨x,H1,I1,rx,a,dx,fs,ex,ea,l,q⟩=>?_) ht;subst ex;obtain rfl:u=Value.ref a:=rx;refine iH I1 ea c hm l ?_;refine PySem.W.callWith_K (first:=[.ref a]) (h₀:=X.base) I.ok.mod.kin hm.kp (bf (ha pos pins s1 σ H1 _ I1 q) fun us s2 ⟨vs,H2,I2,r,q2⟩=>⟨I2.kIn,?_⟩) hst hpl;exact qv (us:=.ref a::us) (vs:=.ref a::vs) F hr hb hd hx I2 (.cons rfl r) q2
theorem tS {pl:Sem Bool}(he:PE X o ta)(c:qF X.K C)(hm:uG X.K C m f)(F:bp X.prog X.w X.K X.mg X.base CX k f fd ps sp)(hr:cw k X.A)(hb:fk X.K fd ps ds)(hd:Vals dvs ds)(hx:dC CX X E)
  (ht:eval (.Call (.Attribute o m apos) [] [] pos) X.env=(do
   let ov <-eval o X.env
   standAt apos.atName
   let (f,first) <-holding [ov] (getMethod ov m pl)
   callWith pos f first (backTo pos (starEach [] X.env)) (backToKw pos (keywordEach [] X.env))):=by rfl) :
  PE X (.Call (.Attribute o m apos) [] [] pos) (pk C m sp dvs E ta n8):=by
 intro pins s σ H Q I h;refine PySem.W.methodCall_KW (pl:=pl) (bf (he pins s σ H _ I h) fun u s1 ⟨x,H1,I1,rx,a,dx,fs,ex,ea,l,q⟩=>?_) ht;subst ex;obtain rfl:u=Value.ref a:=rx;refine iH I1 ea c hm l ?_;exact PySem.W.callWith_K0 (first:=[.ref a]) I1.kIn hm.kp (qv (us:=[.ref a]) (vs:=[.ref a]) F hr hb hd hx I1 (.cons rfl .nil) q)
structure Mk (K:PySem.W.Frag)(C f:Addr):Prop where
 makes:PySem.W.makesIn K C=true
 init:PySem.W.findIn K (.ref C) "__init__" = some (some (.ref f))
 fn:PySem.W.isFn K (.ref f)=true
 kp:PySem.W.keepIn K (.ref C)=true
theorem uf {pins:List (Addr×Obj)}{σ:St}{H:Hp}{s:Shared}{Q:VK}{us:List Value}{vs:List V}(M:Mk X.K C f)(F:bp X.prog X.w X.K X.mg X.base CX k f fd ps sp)(hr:cw (k+1) X.A)(hb:fk X.K fd ps ds)(hd:Vals dvs ds)
  (hx:dC CX X E) (I:az X pins σ H s) (r:Vals vs us)
  (h:∀ x dx,H x=none->H dx=none->dx≠x->sp (.ref x::(vs++dvs)) (aD (aD H dx (.own x)) x (.ins C dx [])) (fun v H2=>v=.non/\Q (.ref x) H2) E) :
  wpAny (model X.prog X.w) X.A (call (.ref C) us) (EP X pins σ Q) X.xe s:=by
 have hq:=h (s.heap.objs.size+1) s.heap.objs.size (I.hok.fresh (Nat.le_succ _)) (I.hok.fresh (Ad _)) (Al (BF _));have I2:=az.made (C:=C) I;have r2:Vals (V.ref (s.heap.objs.size+1)::(vs++dvs)) (Value.ref (s.heap.objs.size+1)::(us++ds)):=.cons rfl (r.append hd)
 have hl:(Value.ref (s.heap.objs.size+1)::us++ds).length=ps.length:=by
  have e:=r2.length;rw[F.len _ _ _ _ hq]at e;exact e.symm
 refine wpAny_call (tz (f:=f) I.kIn M.makes M.init (beq_iff_eq.mp M.fn) (BS (F.run _ X.stack _ _ ⟨Value.ref (s.heap.objs.size+1)::us,[]⟩ (Value.ref (s.heap.objs.size+1)::(us++ds)) _ _ E (hr.make C us [])
  (I2.env0.make C us []) (hb _ (Value.ref (s.heap.objs.size+1)::us) I2.kIn hl) r2 hq) fun r s' hq'=>?_))
 cases r with
 | error e=>exact hx pins σ _ _ e s' I2 hq'
 | ok fl =>
  cases fl with
  | ret u =>
   obtain⟨v,H',I3,rv,ev,q3⟩:=I2.after hq';subst ev;exact⟨rv,⟨V.ref (s.heap.objs.size+1),H',I3,rfl,q3⟩⟩
  | next=>exact False.elim hq'
  | brk=>exact False.elim hq'
  | cont=>exact False.elim hq'
theorem tR (M:Mk X.K C f)(F:bp X.prog X.w X.K X.mg X.base CX k f fd ps sp)(hr:cw (k+1) X.A)(hg:Gl X x)(hm:X.mg x=some (.ref C))(hb:fk X.K fd ps ds)(hd:Vals dvs ds)(hx:dC CX X E)
  (hdb:(x == ("__debug__" : Str))=false:=by decide):PE X (.Call (.Name x p) [] [] pos) (vH C sp dvs E n8):=by
 intro pins s σ H Q I h;refine AV (jd I hg hm ?_ hdb);exact PySem.W.callWith_K0 I.kIn M.kp (uf (us:=[]) M F hr hb hd hx I .nil h)
end
structure aE (N P:List Str)(sc:Scope):Prop where
 kind:sc.kind=.function
 co:sc.isCoroutine=false
 gen:sc.isGenerator=false
 nd:N.Nodup
 pre:N.take P.length=P
 par:∀ x∈P,sc.names.lookup x=some .local\/sc.names.lookup x=some .cell
 nofree:∀ y∈sc.names,y.2≠.free
theorem mO {kindOf:Str->Option NameKind}{x:Str}:∀ {binds:List (Str×Value)}{m:Str->Option Value},(∀ v,(x,v)∉binds)->bindL kindOf binds m x=m x
 | [],_,_=>rfl
 | (n,v)::r,m,h=>by
  unfold bindL;rw[mO fun w hw=>h w (Ak _ hw)];split
  ·have:x≠n:=by rintro rfl;exact h v Am
   simp[this]
  ·rfl
theorem mK {kindOf:Str->Option NameKind}{x:Str}:∀ {binds:List (Str×Value)}{m:Str->Option Value},(∀ v,(x,v)∉binds)->bindC kindOf binds m x=m x
 | [],_,_=>rfl
 | (n,v)::r,m,h=>by
  unfold bindC;rw[mK fun w hw=>h w (Ak _ hw)];split
  ·rfl
  ·have:x≠n:=by rintro rfl;exact h v Am
   simp[this]
theorem mM {kindOf:Str->Option NameKind}{x:Str}{v:Value}:∀ {P:List Str}{vs:List Value}{i:Nat}{m:Str->Option Value},P.Nodup->P[i]? = some x->vs[i]? = some v->kindOf x=some .local ->
  bindL kindOf (P.zip vs) m x=some v
 | [],_,_,_,_,h,_,_=>by simp at h
 | _::_,[],_,_,_,_,h,_=>by simp at h
 | p::P,w::vs,0,m,nd,h1,h2,hk=>by
  simp at h1 h2;subst h1;subst h2
  show bindL kindOf ((p,w)::P.zip vs) m p=_
  unfold bindL;rw[mO fun v hv=>(Bb.mp nd).1 (List.of_mem_zip hv).1,Ai hk];simp
 | p::P,w::vs,i+1,m,nd,h1,h2,hk=>by
  show bindL kindOf ((p,w)::P.zip vs) m x=_
  unfold bindL;exact mM (i:=i) (Bb.mp nd).2 (by simpa using h1) (by simpa using h2) hk
theorem mJ {kindOf:Str->Option NameKind}{x:Str}{v:Value}:∀ {P:List Str}{vs:List Value}{i:Nat}{m:Str->Option Value},P.Nodup->P[i]? = some x->vs[i]? = some v->kindOf x≠some .local ->
  bindC kindOf (P.zip vs) m x=some v
 | [],_,_,_,_,h,_,_=>by simp at h
 | _::_,[],_,_,_,_,h,_=>by simp at h
 | p::P,w::vs,0,m,nd,h1,h2,hk=>by
  simp at h1 h2;subst h1;subst h2
  show bindC kindOf ((p,w)::P.zip vs) m p=_
  unfold bindC;rw[mK fun v hv=>(Bb.mp nd).1 (List.of_mem_zip hv).1,Ag hk];simp
 | p::P,w::vs,i+1,m,nd,h1,h2,hk=>by
  show bindC kindOf ((p,w)::P.zip vs) m x=_
  unfold bindC;exact mJ (i:=i) (Bb.mp nd).2 (by simpa using h1) (by simpa using h2) hk
def jB (N:List Str)(vs:List V):St:=vs.map some++List.replicate (N.length-vs.length) none
def lh (CX:pJ)(P:Program)(w:World)(K:PySem.W.Frag)(mg:Str->Option Value)(base:Heap)(N:List Str)(qual:Str)(scope:Scope)(f:Addr)(cd:Value)(A:Around)(outer:List Env)(s:Shared)(H:Hp)(E:XK):Cx where
 prog:=P
 w:=w
 K:=K
 mg:=mg
 base:=base
 A:=A.deeper (envOfC qual scope s.heap.objs.size f cd)
 N:=N
 s₀:=s
 H₀:=H
 env:=envOfC qual scope s.heap.objs.size f cd
 outer:=outer
 stack:=envOfC qual scope s.heap.objs.size f cd::outer
 ex:=[]
 calm:=true
 fn:=fun _=>true
 pn:=[]
 xe:=fun e s'=>wpAny (model P w) (A.deeper (envOfC qual scope s.heap.objs.size f cd)) (leaving (envOfC qual scope s.heap.objs.size f cd) e) (fun _ s''=>CX outer H s E e s'') (fun e' s''=>CX outer H s E e' s'') s'
theorem ow {sc:Scope}{n:Nat}{x:Str}(h:sc.names.lookup x=some .cell):∃ c,(cellsFrom n sc.names []).lookup x=some c:=by
 have q:=PySem.W.cellsFrom_some sc.names n [] (.inl h);exact Option.isSome_iff_exists.mp q
theorem rS {CX:pJ}{P:Program}{w:World}{K:PySem.W.Frag}{mg:Str->Option Value}{base:Heap}{N ps:List Str}{qual:Str}{scope:Scope}{f:Addr}{cd:Value}{A:Around}{outer:List Env}{s s1:Shared}{H:Hp}{E:XK}{us:List Value}{vs:List V}
  (S:aE N ps scope) (hd:A.handled=none) (e0:pL P w K mg base A outer s H) (hl:vs.length=ps.length) (r:Vals vs us)
  (x:InCallC s s.heap.objs.size (bindL (envOfC qual scope s.heap.objs.size f cd).kindOf (ps.zip us) fun _=>none) (cellsFrom (s.heap.objs.size+1) scope.names []) (bindC (envOfC qual scope s.heap.objs.size f cd).kindOf (ps.zip us) fun _=>none) s1) :
  az (lh CX P w K mg base N qual scope f cd A outer s H E) [] (jB N vs) H s1:=by
 have hpl:ps.length<=N.length:=by have:=A3 List.length S.pre;rw[Av]at this;omega
 obtain⟨h1,tk,rfl,hk⟩:=x.done;have noA:∀ b:Addr,b∉(lh CX P w K mg base N qual scope f cd A outer s H E).ex:=fun b z=>absurd (show b∈([]:List Addr) from z) (by simp)
 refine⟨⟨e0.mod,S.kind,rfl,rfl,Ad _,fun y z c h1 h2=>?_,fun y hy=>?_,fun y c _ h=>?_,fun _=>hd,Around.frames_deeper e0.frames,.inr ⟨rfl,rfl⟩,fun b z=>absurd z (noA b),e0.bs,e0.bsz,fun b _ _=>noA b,fun b z=>absurd z (noA b),e0.funs,e0.frf⟩,
  rfl,e0.bare,Un.kept hk,⟨_,x.toInCall.ns,fun i y v h1 h2 h3=>?_⟩,fun y c h=>⟨_,x.cell y c h⟩,e0.hok.fresh (Ad _),fun y c h=>?_,fun p hp=>absurd (show p∈([]:List (Addr×Obj)) from hp) (by simp),e0.hok.kept hk,?_⟩
 ·exact name_of_addr x.apart (Bk h1) (Bk h2)
 ·have hy:scope.names.lookup y=some .cell\/scope.names.lookup y=some .free:=hy
  rcases hy with hy | hy
  ·exact ow hy
  ·exact absurd rfl (S.nofree _ (Bk hy))
 ·exact Nat.le_of_lt (x.above y c (Bk h))
 ·have hi:i<vs.length:=by
   unfold jB at h2
   by_cases hi:i<vs.length
   ·exact hi
   ·rw[List.getElem?_append_right (by simpa using hi)]at h2
    rw[List.getElem?_replicate]at h2;split at h2<;>cases h2
  have ha:vs[i]? = some v:=by
   unfold jB at h2;rw[List.getElem?_append_left (by simpa using hi),List.getElem?_map]at h2
   cases e:vs[i]? with
   | none=>rw[e]at h2;cases h2
   | some a=>rw[e]at h2;cases h2;rfl
  obtain⟨u,hu,rv⟩:=r.get ha
  have hp:ps[i]? = some y:=by
   rw[<-S.pre,List.getElem?_take_of_lt (by omega)];exact h1
  have ndP:ps.Nodup:=by rw[<-S.pre];exact S.nd.sublist (List.take_sublist _ _)
  refine⟨u,rv,?_⟩;rcases S.par y (Ax hp) with k | k
  ·exact .inl ⟨k,mM ndP hp hu k⟩
  ·obtain⟨c,e⟩:=ow (n:=s.heap.objs.size+1) k
   refine .inr ⟨.inl k,c,e,?_⟩;have q:=x.cell y c e;rw[mJ ndP hp hu (by show scope.names.lookup y≠_;rw[k];decide)]at q;exact q
 ·exact e0.hok.fresh (Nat.le_of_lt (x.above y c (Bk h)))
 ·unfold jB
  show _=N.length
  rw[An,z9,List.length_replicate];omega
theorem vz {CX:pJ}{P:Program}{w:World}{K:PySem.W.Frag}{mg:Str->Option Value}{base:Heap}{k:Nat}{f:Addr}{name qual:Str}{params:Arguments}{body:List Stmt}{scope:Scope}{dV kV doc pm cdv ct oc:Value}{an od:Option Addr}
  {osl:Array (Option Value)} {N ps:List Str} {sp:Sp} (lk:K.lookup f=some ⟨oc,od,.func (PySem.W.fnOf name qual params body scope dV kV doc pm an cdv ct),osl⟩) (hcd:PySem.W.codeIn K cdv qual=true) (S:aE N ps scope)
  (len:∀ vs H Q E,sp vs H Q E->vs.length=ps.length)
  (hbody:∀ (A:Around)(outer:List Env)(s:Shared)(H:Hp)(vs:List V)(Q:VK)(E:XK),cw k (A.deeper (envOfC qual scope s.heap.objs.size f cdv))->sp vs H Q E ->
   ∃ t,pO (lh CX P w K mg base N qual scope f cdv A outer s H E) body t/\t { nx:=fun _ H'=>Q .non H',rt:=Q } (jB N vs) H) :
  bp P w K mg base CX (k+1) f (PySem.W.fnOf name qual params body scope dV kV doc pm an cdv ct) ps sp:=by
 refine⟨len,fun A outer s H args us vs Q E hr e0 hb r hsp=>?_⟩;have hl:=len _ _ _ _ hsp;have KX:K.In s.heap:=e0.mod.kin.keeps fun b o e=>(e0.bs b o e).1;have lim:s.heap.NoLimit:=e0.mod.nolimit.keeps fun b o e=>(e0.bs b o e).1
 have hkind:∀ y∈ps.zip us,scope.names.lookup y.1=some .local\/(scope.names.lookup y.1=some .cell/\((cellsFrom (s.heap.objs.size+1) scope.names []).lookup y.1).isSome=true):=fun ⟨n,v⟩ hy=>by
  rcases S.par n (List.of_mem_zip hy).1 with q | q
  ·exact .inl q
  ·exact .inr ⟨q,PySem.W.cellsFrom_some _ _ _ (.inl q)⟩
 refine codeAny_call_function hr.depth (KX _ _ lk) rfl S.co S.gen rfl (PySem.W.codeRec_of KX hcd) (hb _ _ _ _ ?_);refine wpAny_newFunctionEnv_cells S.kind hkind fun env he s1 x=>?_;subst he;refine⟨lim.keeps x.toInCall.keep,codeAny_func ?_⟩;obtain⟨t,ht,hq⟩:=hbody A outer s H vs Q E (hr.deeper _) hsp;have I:az (lh CX P w K mg base N qual scope f cdv A outer s H E) [] (jB N vs) H s1:=rS S hr.hd e0 hl r x;refine AA (ht [] s1 (jB N vs) H _ I hq) (fun fl s' hs=>?_) fun e s' hs=>hs
 have fin:∀ {σ':St}{H':Hp}{v:V}{u:Value},az (lh CX P w K mg base N qual scope f cdv A outer s H E) [] σ' H' s'->aO v u->Q v H'->CE outer P w H s Q u s' :=
  fun {σ' H' v u} J rv q=>⟨v,H',J.os,J.bare,J.base,J.hok,rv,q⟩
 cases fl with
 | ret u =>
  obtain⟨v,σ',H',J,rv,q⟩:=hs;exact fin J rv q
 | next =>
  obtain⟨σ',H',J,q⟩:=hs;exact fin (v:=V.non) (u:=Value.none) J rfl q
 | brk =>
  obtain⟨_,_,_,q⟩:=hs;exact False.elim q
 | cont =>
  obtain⟨_,_,_,q⟩:=hs;exact False.elim q
section
variable {X:Cx}{x:Str}{p pos:Pos}{e:Expr}{es:List Expr}{t:TA}{id T:String}{r:List V->Hp->VK->Prop}
def zD (r:List V->Hp->VK->Prop)(t:TA):TE:=fun σ H Q=>t σ H fun vs H1=>r vs H1 Q
theorem aP (hc:eI X (.builtin id) r)(hg:Gl X x)(hm:X.mg x=none)(hv:bootBuiltins x=some (.builtin id))(ha:PA X (e::es) t)(hn:x≠"__name__":=by decide)(hdb:(x == ("__debug__" : Str))=false:=by decide)
  (he:starEach (e::es) X.env=(false,eval e X.env)::starEach es X.env:=by rfl) (hpl:(backTo pos (starEach es X.env)).any (·.1)=false:=by rfl):PE X (.Call (.Name x p) (e::es) [] pos) (zD r t):=by
 intro pins s σ H Q I h;refine AV (dD I hg hm hv ?_ hn hdb);exact PyProof.Rows.callWith_builtin1 (bf (ha pos pins s σ H _ I h) fun us s1 ⟨vs,H1,I1,r1,q1⟩=>hc pins s1 σ H1 vs us Q I1 r1 q1) he hpl
theorem bB (hc:eI X (.type T) r)(hg:Gl X x)(hm:X.mg x=none)(hv:bootBuiltins x=some (.type T))(ha:PA X (e::es) t)(hn:x≠"__name__":=by decide)(hdb:(x == ("__debug__" : Str))=false:=by decide)
  (he:starEach (e::es) X.env=(false,eval e X.env)::starEach es X.env:=by rfl) (hpl:(backTo pos (starEach es X.env)).any (·.1)=false:=by rfl):PE X (.Call (.Name x p) (e::es) [] pos) (zD r t):=by
 intro pins s σ H Q I h;refine AV (dD I hg hm hv ?_ hn hdb);exact AM (bf (ha pos pins s σ H _ I h) fun us s1 ⟨vs,H1,I1,r1,q1⟩=>hc pins s1 σ H1 vs us Q I1 r1 q1) he hpl
end
end L2
namespace HT
open PySem PyProof.Rows
section
variable {prog:Program}{w:World}{A:Around}{E:Value->Shared->Prop}{s:Shared}
def sIx (n d:Nat):Option Int->Nat
 | none=>d
 | some v=>if v<0 then (v+(n:Int)).toNat else min v.toNat n
theorem sIx_none (n d:Nat):sIx n d none=d:=rfl
theorem sIx_nat (n d k:Nat):sIx n d (some (k:Int))=min k n:=by
 show (if (k:Int)<0 then ((k:Int)+(n:Int)).toNat else min (k:Int).toNat n)=min k n
 rw[Ag (by omega),By]
theorem wH (n d:Nat)(hd:d<=n)(o:Option Int):sIx n d o<=n:=by
 cases o with
 | none=>exact hd
 | some v =>
  show (if v<0 then (v+(n:Int)).toNat else min v.toNat n)<=n
  by_cases hv:v<0
  ·rw[Ai hv];omega
  ·rw[Ag hv];exact Nat.min_le_right _ _
theorem qH (v:Int)(n d:Nat):(if v<0 then max (v+(n:Int)) 0 else min v (n:Int))=((sIx n d (some v):Nat):Int):=by
 show (if v<0 then max (v+(n:Int)) 0 else min v (n:Int))=(((if v<0 then (v+(n:Int)).toNat else min v.toNat n):Nat):Int)
 by_cases hv:v<0
 ·simp only[Ai hv];omega
 ·simp only[Ag hv];omega
theorem pP (lo hi:Option Int)(n:Nat):Builtin.Slice.sliceAdjust lo hi 1 (n:Int)=(((sIx n 0 lo:Nat):Int),((sIx n n hi:Nat):Int)):=by
 have h1:¬ ((1:Int)<0):=by omega
 unfold Builtin.Slice.sliceAdjust;simp only[h1,if_false];refine Prod.ext ?_ ?_
 ·cases lo with
  | none=>rfl
  | some v=>exact qH v n 0
 ·cases hi with
  | none=>rfl
  | some v=>exact qH v n n
theorem qt (i j:Nat):Builtin.Slice.slicePlaces (i:Int) (j:Int) 1=j-i:=by
 unfold Builtin.Slice.slicePlaces
 have h1:(1:Int)>0:=by omega
 simp only[h1,if_true,Int.ediv_one];split<;>omega
theorem lZ {v:Value}{o:Option Int}{Q:Option Int->Shared->Prop}(p:IsPart v o)(h:Q o s):wpAny (model prog w) A (Builtin.Slice.slicePartIndex v) Q E s:=by
 cases p with
 | none=>exact slicePart_none h
 | int i t=>exact slicePart_int h
theorem jX {sl:Addr}{vl vu:Value}{lo hi:Option Int}{n:Nat}{Q:Int×Int×Nat->Shared->Prop}(hs:s.heap.IsSliceOf sl vl vu .none)(pl:IsPart vl lo)(pu:IsPart vu hi)
  (h:Q (((sIx n 0 lo:Nat):Int),1,sIx n n hi-sIx n 0 lo) s):wpAny (model prog w) A (Builtin.Slice.sliceApplied (.ref sl) (pure (n:Int))) Q E s:=by
 obtain⟨os,hos,hcs,hds⟩:=id hs;unfold Builtin.Slice.sliceApplied Builtin.Slice.sliceFields;refine z4 (z4 (AN hos hds (x:=vl) rfl (z4 (AN hos hds (x:=vu) rfl (z4 (AN hos hds (x:=.none) rfl (Ac ?_)))))));refine z4 (slicePart_none ?_)
 show wpAny _ _ (if ((1:Int) == 0)=true then _ else _) _ _ s
 rw[Ag (by decide)];refine z4 (lZ pl (z4 (lZ pu (z4 (Ac ?_)))))
 show wpAny _ _ (match Builtin.Slice.sliceAdjust lo hi 1 (n:Int) with | (lo,hi)=>pure (lo,(1:Int),Builtin.Slice.slicePlaces lo hi 1)) _ _ s
 rw[pP lo hi n]
 show wpAny _ _ (pure (((sIx n 0 lo:Nat):Int),(1:Int),Builtin.Slice.slicePlaces ((sIx n 0 lo:Nat):Int) ((sIx n n hi:Nat):Int) 1)) _ _ s
 rw[qt];exact Ac h
theorem tW (xs:Array Value)(i k:Nat):((List.range k).filterMap fun (m:Nat)=>xs[((i:Int)+(m:Int)*1).toNat]?).toArray=((xs.toList.drop i).take k).toArray:=by
 have e:(fun (m:Nat)=>xs[((i:Int)+(m:Int)*1).toNat]?)=fun m=>xs[i+m]?:=by
  funext m
  have:((i:Int)+(m:Int)*1).toNat=i+m:=by omega
  rw[this]
 rw[e];have:=pick_run xs i k;rw[List.filterMap_map]at this;have e2:((fun x=>xs[x]?) ∘ fun x=>i+x)=fun m=>xs[i+m]?:=rfl;rw[e2]at this;rw[this]
theorem getItem_tuple_cut {t sl:Addr}{items:Array Value}{vl vu:Value}{lo hi:Option Int}{Q:Value->Shared->Prop}(ht:IsTup s.heap t items)(hs:s.heap.IsSliceOf sl vl vu .none)(pl:IsPart vl lo)(pu:IsPart vu hi)
  (hw:¬ (sIx items.size 0 lo=0/\sIx items.size items.size hi=items.size))
  (h:Q (.ref s.heap.objs.size) { s with heap:=s.heap.push { cls:=.type "tuple",data:=.seq ((items.toList.drop (sIx items.size 0 lo)).take (sIx items.size items.size hi-sIx items.size 0 lo)).toArray } })
  (hsz:items.size<=sizeLine):wpAny (model prog w) A (getItem (.ref t) (.ref sl)) Q E s:=by
 have htake:sizeOk (.seq ((items.toList.drop (sIx items.size 0 lo)).take (sIx items.size items.size hi-sIx items.size 0 lo)).toArray):=by
  show ((items.toList.drop (sIx items.size 0 lo)).take (sIx items.size items.size hi-sIx items.size 0 lo)).toArray.size<=sizeLine
  rw[Aj,Av,AI,Bj];omega
 have hj:sIx items.size items.size hi<=items.size:=wH _ _ (Ad _) hi;obtain⟨os,hos,hcs,hds⟩:=id hs;have hTs:s.TypeIs (.ref sl) "slice":=⟨os,hos,hcs⟩;unfold getItem
 try with_reducible refine Bh ?_
 first | refine z4 (Ac ?_) | skip
 refine z4 (wpAny_sequenceKey ht.typeIs (by decide) ?_)
 refine z4 (wpAny_callSpecial?_slot (name:=Str.ofString "__getitem__") ht.typeIs PyProof.Rows.slot_tuple_getitem
  (Bm PyProof.Rows.slot_tuple_getitem ht.typeIs entry_tuple_getitem ?_ (args_tuple_getitem _ _)))
 show wpAny _ _ (Builtin.Tuple.tupleItemsOf (.ref t) >>= _) _ _ s
 refine z4 (tupleItemsOf_ ht ?_);refine z4 (wpAny_typeOf hTs ?_);rw[Ai (by decide)];refine z4 (jX hs pl pu ?_)
 have hno:¬ ((((sIx items.size 0 lo:Nat):Int) == 0&&(1:Int) == 1&&(sIx items.size items.size hi-sIx items.size 0 lo) == items.size)=true):=by
  intro q;rw[Bc,Bc]at q;have q1:((sIx items.size 0 lo:Nat):Int)=0:=eq_of_beq q.1.1;have q2:sIx items.size items.size hi-sIx items.size 0 lo=items.size:=eq_of_beq q.2;exact hw ⟨by omega,by omega⟩
 show wpAny _ _ (if (((sIx items.size 0 lo:Nat):Int) == 0&&(1:Int) == 1&&(sIx items.size items.size hi-sIx items.size 0 lo) == items.size)=true then _ else _) _ _ s
 rw[Ag hno,tW]
 first
  | exact z4 (m:=Builtin.Tuple.tupleExact _) (A0 (Ac ⟨_,rfl,Ac h⟩) htake)
  | exact z4 (m:=Builtin.Tuple.tupleExact _) (A0 (z4 (Ac (Ac ⟨_,rfl,Ac h⟩))) htake)
  | exact z4 (z4 (m:=Builtin.Tuple.tupleExact _) (A0 (Ac (Ac ⟨_,rfl,Ac h⟩)) htake))
  | exact z4 (z4 (m:=Builtin.Tuple.tupleExact _) (A0 (Ac ⟨_,rfl,Ac h⟩) htake))
end
end HT
namespace L2
open PySem PySem.Spec PyProof.Rows
abbrev TO:=St->Hp->(Option Int->Hp->Prop)->Prop
def PO (X:Cx)(e:Option Expr)(t:TO):Prop :=
 ∀ (pins:List (Addr×Obj))(s:Shared)(σ:St)(H:Hp)(Q:Option Int->Hp->Prop),az X pins σ H s->t σ H Q ->
  wpAny (model X.prog X.w) X.A (evalPart e X.env) (fun u s'=>∃ o H',az X pins σ H' s'/\IsPart u o/\Q o H') X.xe s
def rA:TO:=fun _ H Q=>Q none H
def xZ (t:TE):TO:=fun σ H Q=>t σ H fun x H1=>∃ i,x=.int i/\Q (some i) H1
section
variable {X:Cx}{e:Expr}{te:TE}{lo hi:Option Expr}{tl th:TO}{pos p2:Pos}
theorem gW:PO X none rA:=by
 intro pins s σ H Q I h;rw[evalPart_none];exact Ac ⟨none,H,I,.none,h⟩
theorem gX (h:PE X e te):PO X (some e) (xZ te):=by
 intro pins s σ H Q I hw;rw[evalPart_some];refine bf (h pins s σ H _ I hw) fun u s1 ⟨x,H1,I1,r1,q1⟩=>?_;obtain⟨i,rfl,q⟩:=q1;obtain⟨t,rfl⟩:=r1;exact⟨some i,H1,I1,.int i t,q⟩
def yg (X:Cx)(r:V->Option Int->Option Int->Hp->VK->Prop):Prop :=
 ∀ (pins:List (Addr×Obj))(s:Shared)(σ:St)(H:Hp)(x:V)(v vl vu:Value)(lo hi:Option Int)(sl:Addr)(Q:VK),az X pins σ H s->aO x v->s.heap.IsSliceOf sl vl vu .none->IsPart vl lo->IsPart vu hi->r x lo hi H Q ->
  ∃ T id,typeLookup (.type T) "__getitem__" = pure (some (.builtin id))/\s.TypeIs v T/\wpAny (model X.prog X.w) X.A (getItem v (.ref sl)) (EP X pins σ Q) X.xe s
def zS (r:V->Option Int->Option Int->Hp->VK->Prop)(te:TE)(tl th:TO):TE:=fun σ H Q=>te σ H fun x H1=>tl σ H1 fun l H2=>th σ H2 fun u H3=>r x l u H3 Q
theorem ft {r:V->Option Int->Option Int->Hp->VK->Prop}(hr:yg X r)(he:PE X e te)(hl:PO X lo tl)(hu:PO X hi th):PE X (.Subscript e (.Slice lo hi none p2) pos) (zS r te tl th):=by
 intro pins s σ H Q I h;refine Subscript_ (bf (he pins s σ H _ I h) fun v s1 ⟨x,H1,I1,r1,q1⟩=>?_);refine wpAny_Slice (bf (hl pins s1 σ H1 _ I1 q1) fun vl s2 ⟨l,H2,I2,pl,q2⟩=>bf (hu pins s2 σ H2 _ I2 q2) fun vu s3 ⟨u,H3,I3,pu,q3⟩=>?_);rw[evalPart_none];refine Ac ?_;have I4:az X pins σ H3 { s3 with heap:=s3.heap.push { cls:=.type "slice",data:=.fields #[vl,vu,.none] } }:=I3.kept (t':=s3.toks) fun b ob q=>Heap.get?_push_of_some _ q;obtain⟨T,id,hT,ht,hg⟩:=hr pins { s3 with heap:=s3.heap.push { cls:=.type "slice",data:=.fields #[vl,vu,.none] } } σ H3 x v vl vu l u s3.heap.objs.size Q I4 r1 (Heap.IsSliceOf.new ..) pl pu q3
 show wpAny (model X.prog X.w) X.A (subscriptTail e (.Slice lo hi none p2) v (.ref s3.heap.objs.size)) (EP X pins σ Q) X.xe { s3 with heap:=s3.heap.push { cls:=.type "slice",data:=.fields #[vl,vu,.none] } }
 exact tail_any (ops:=[.ref s3.heap.objs.size,v]) ht hT hg (by with_unfolding_all rfl)
def i8 (xs:List V)(lo hi:Option Int):List V:=(xs.drop (HT.sIx xs.length 0 lo)).take (HT.sIx xs.length xs.length hi-HT.sIx xs.length 0 lo)
theorem kf (xs:List V)(lo hi:Option Int):(i8 xs lo hi).length<=xs.length:=by
 unfold i8;rw[Av,AI];omega
def xP (K:PySem.W.Frag):V->Option Int->Option Int->Hp->VK->Prop:=fun x lo hi H Q=>∃ a xs,x=.ref a/\aG K H a xs /\
 ¬ (HT.sIx xs.length 0 lo=0/\HT.sIx xs.length xs.length hi=xs.length)/\∀ p,H p=none->Q (.ref p) (aD H p (.tup (i8 xs lo hi)))
theorem lY:yg X (xP X.K):=by
 intro pins s σ H x v vl vu lo hi sl Q I rx hs pl pu h;obtain⟨a,xs,rfl,hx,hw,q⟩:=h;cases rx;obtain⟨its,r,ht,hz⟩:=I.tuple hx
 have hlen:its.toArray.size=xs.length:=by rw[Aj];exact r.length.symm
 refine⟨"tuple",_,PyProof.Rows.slot_tuple_getitem.lookup,ht.typeIs,?_⟩;refine HT.getItem_tuple_cut ht hs pl pu (by rw[hlen];exact hw) ?_ (by rw[hlen];exact hz);rw[hlen];refine⟨.ref s.heap.objs.size,_,I.laid (t':=s.toks) (o:=.tup (i8 xs lo hi)) (fun b ob q=>Heap.get?_push_of_some _ q) (Ad _) ?_,rfl,q _ (I.hok.fresh (Ad _))⟩;exact⟨AX (kf xs lo hi) hz,_,(r.drop (HT.sIx xs.length 0 lo)).take (HT.sIx xs.length xs.length hi-HT.sIx xs.length 0 lo),iD.new _ _⟩
end
def wY (n:Nat)(i:Int):Option Nat:=if 0<=i then (if i<n then some i.toNat else none) else if -(n:Int)<=i then some (i+n).toNat else none
def vx {α:Type}(xs:List α)(i:Int):Option α:=(wY xs.length i).bind fun j=>xs[j]?
theorem uU {n:Nat}{i:Int}{j:Nat}(h:wY n i=some j):seqIndex? i n=some j/\j<n/\-(n:Int)<=i/\i<n:=by
 unfold wY at h
 by_cases h0:0<=i
 ·rw[Ai h0]at h
  by_cases h1:i<n
  ·rw[Ai h1]at h
   have e:i.toNat=j:=At h;exact⟨by rw[seqIndex_of h0 h1,e],by omega,by omega,h1⟩
  ·rw[Ag h1]at h;cases h
 ·rw[Ag h0]at h
  by_cases h1 : -(n:Int)<=i
  ·rw[Ai h1]at h
   have e:(i+n).toNat=j:=At h;exact⟨by rw[seqIndex_neg (by omega) h1,e],by omega,h1,by omega⟩
  ·rw[Ag h1]at h;cases h
theorem m7 {α:Type}{xs:List α}{i:Int}{v:α}(h:vx xs i=some v):∃ j,seqIndex? i xs.length=some j/\xs[j]? = some v/\j<xs.length/\-(xs.length:Int)<=i/\i<xs.length:=by
 unfold vx at h
 cases e:wY xs.length i with
 | none=>rw[e]at h;cases h
 | some j =>
  rw[e]at h;obtain⟨h1,h2,h3,h4⟩:=uU e;exact⟨j,h1,h,h2,h3,h4⟩
theorem ax {α:Type}{xs:List α}{j:Nat}{v:α}(h:xs[j]? = some v):vx xs (j:Int)=some v:=by
 have hj:j<xs.length:=(List.getElem?_eq_some_iff.mp h).1
 have e:wY xs.length (j:Int)=some j:=by
  unfold wY;rw[Ai (by omega),Ai (by omega)];simp
 unfold vx;rw[e];exact h
def uH (b:Expr):Prop:=∀ o i,subscripted b false o i=operate [o,i] (getItem o i)
def xb (X:Cx)(r:R2):Prop :=
 ∀ (value slice:Expr)(pins:List (Addr×Obj))(s:Shared)(σ:St)(H:Hp)(x y:V)(v u:Value)(Q:VK),az X pins σ H s->aO x v->aO y u->r x y H Q ->
  subscripted slice false v u=operate [v,u] (getItem v u)->wpAny (model X.prog X.w) X.A (subscriptTail value slice v u) (EP X pins σ Q) X.xe s
def zj (X:Cx)(id:String)(r:V->List V->Hp->VK->Prop):Prop :=
 ∀ (pins:List (Addr×Obj))(s:Shared)(σ:St)(H:Hp)(x:V)(xs:List V)(v:Value)(us:List Value)(Q:VK),az X pins σ H s->aO x v->Vals xs us->r x xs H Q ->
  wpAny (model X.prog X.w) X.A (call (.builtin id) (v::us)) (EP X pins σ Q) X.xe s
section
variable {X:Cx}{a b:Expr}{ta tb:TE}{pos:Pos}
theorem aB {r:R2}(hr:xb X r)(ha:PE X a ta)(hb:PE X b tb)(hs:uH b):PE X (.Subscript a b pos) (yn r ta tb):=by
 intro pins s σ H Q I h;exact Subscript_ (v8 ha hb I h fun v u s2 x y H2 I2 rx ry q=>hr a b pins s2 σ H2 x y v u Q I2 rx ry q (hs _ _))
inductive zr (K:PySem.W.Frag) (x y:V) (H:Hp) (Q:VK):Prop
 | mk (p:Addr) (xs:List V) (i:Int) (v:V) (e1:x=.ref p) (e2:y=.int i) (q:aR K H p xs) (a:vx xs i=some v) (h:Q v H):zr K x y H Q
def yR (K:PySem.W.Frag):R2:=fun x y H Q=>zr K x y H Q
inductive zt (K:PySem.W.Frag) (x y:V) (H:Hp) (Q:VK):Prop
 | mk (p:Addr) (xs:List V) (i:Int) (v:V) (e1:x=.ref p) (e2:y=.int i) (q:aG K H p xs) (a:vx xs i=some v) (h:Q v H):zt K x y H Q
def xM (K:PySem.W.Frag):R2:=fun x y H Q=>zt K x y H Q
def yS:R2:=fun x y H Q=>∃ z i c,x=.str z/\y=.int i/\z.length<=sizeLine/\vx z.cps.toList i=some c/\Q (.str ⟨#[c]⟩) H
theorem fF:xb X (yR X.K):=by
 intro value slice pins s σ H x y v u Q I rx ry h hs;obtain⟨p,xs,i,z,rfl,rfl,hq,he,q⟩:=h;cases rx;obtain⟨t,rfl⟩:=ry;obtain⟨its,r,pl,hz⟩:=I.list hq;obtain⟨j,h1,h2,h3,h4,h5⟩:=m7 he;obtain⟨w,ew,rw'⟩:=r.get h2;have hl:=r.length;have hn:=jJ;have fin:EP X pins σ Q w s:=⟨z,H,I,rw',q⟩
 by_cases h0:0<=i
 ·have hj:i.toNat=j:=by
   rw[seqIndex_of h0 h5]at h1;exact At h1
  exact item_listR pl.isList h0 (by omega) (by rw[hj];simpa using ew) fin hs
 ·have hj:(i+(its.toArray.size:Int)).toNat=j:=by
   rw[seqIndex_neg (by omega) h4]at h1;rw[Aj,<-hl];exact At h1
  exact subscriptTail_builtinR (x:=w) pl.isList.typeIs slot_list_getitem.lookup
   (wpAny_getItem_list_neg (Q:=fun r s'=>r=w/\EP X pins σ Q r s') pl.isList (by omega) (by rw[Aj]<;>omega) (by omega) (by rw[hj];simpa using ew) ⟨rfl,fin⟩) hs
theorem ay:xb X (xM X.K):=by
 intro value slice pins s σ H x y v u Q I rx ry h hs;obtain⟨p,xs,i,z,rfl,rfl,hq,he,q⟩:=h;cases rx;obtain⟨t,rfl⟩:=ry;obtain⟨its,r,pl,hz⟩:=I.tuple hq;obtain⟨j,h1,h2,h3,h4,h5⟩:=m7 he;obtain⟨w,ew,rw'⟩:=r.get h2;have hl:=r.length;have hn:=jJ;have fin:EP X pins σ Q w s:=⟨z,H,I,rw',q⟩
 exact subscriptTail_builtinR (x:=w) pl.typeIs slot_tuple_getitem.lookup
  (getItem_tuple (j:=j) (Q:=fun r s'=>r=w/\EP X pins σ Q r s') pl (by omega) (by omega) (by rw[Aj,<-hl];exact h1) (by simpa using ew) ⟨rfl,fin⟩) hs
theorem wk:xb X yS:=by
 intro value slice pins s σ H x y v u Q I rx ry h hs;obtain⟨z,i,c,rfl,rfl,hz,he,q⟩:=h;obtain⟨t,rfl⟩:=rx;obtain⟨t',rfl⟩:=ry;obtain⟨j,h1,h2,h3,h4,h5⟩:=m7 he
 have hl:z.cps.toList.length=z.length:=by simp[Str.length]
 rw[hl]at h1 h4 h5;have hn:=jJ
 exact tail_any (typeIs_str s z t) slot_str_getitem.lookup (getItem_str (c:=c) (by
  have e1:decide (i < -(2 ^ 63:Int))=false:=Ab (by omega);have e2:decide (i>=2 ^ 63)=false:=Ab (by omega)
  rw[e1,e2,Bool.or_false]) (by rw[h1];simpa using h2) ⟨.str ⟨#[c]⟩,H,I.tok _,⟨_,rfl⟩,q⟩) hs
theorem nV (lo hi:Option Int)(n:Nat):(sliceBounds lo hi none n).1=((HT.sIx n 0 lo:Nat):Int)/\(sliceBounds lo hi none n).2.1=((HT.sIx n n hi:Nat):Int)/\(sliceBounds lo hi none n).2.2=1:=by
 refine⟨?_,?_,rfl⟩
 ·cases lo with
  | none=>simp[sliceBounds,HT.sIx]
  | some i =>
   simp only[sliceBounds,HT.sIx,Option.getD_none,show (1:Int)>0 by decide,if_true]
   by_cases h:i<0
   ·simp only[h,if_true]<;>omega
   ·simp only[h,if_false]<;>omega
 ·cases hi with
  | none=>simp[sliceBounds,HT.sIx]
  | some i =>
   simp only[sliceBounds,HT.sIx,Option.getD_none,show (1:Int)>0 by decide,if_true]
   by_cases h:i<0
   ·simp only[h,if_true]<;>omega
   ·simp only[h,if_false]<;>omega
theorem mE (its:List Value)(lo hi:Option Int):slicePick its.toArray lo hi none=((its.drop (HT.sIx its.length 0 lo)).take (HT.sIx its.length its.length hi-HT.sIx its.length 0 lo)).toArray:=by
 obtain⟨h1,h2,h3⟩:=nV lo hi its.toArray.size;unfold slicePick;rw[h1,h2,h3];simp only[sliceRange_one,pick_run,Aj]<;>rfl
inductive xO (K:PySem.W.Frag) (x:V) (lo:Option Int) (hi:Option Int) (H:Hp) (Q:VK):Prop
 | mk (a:Addr) (xs:List V) (h_0:x=.ref a) (h_1:aR K H a xs) (h_2:∀ p,H p=none->Q (.ref p) (aD H p (.lst (i8 xs lo hi)))):xO K x lo hi H Q
theorem vg:yg X (xO X.K):=by
 intro pins s σ H x v vl vu lo hi sl Q I rx hs pl pu h;obtain⟨a,xs,rfl,hx,q⟩:=h;cases rx;obtain⟨its,r,ht,hz⟩:=I.list hx;have hlen:=r.length;refine⟨"list",_,slot_list_getitem.lookup,ht.isList.typeIs,?_⟩;refine wpAny_getItem_list_slice ht.isList hs pl pu .none (by simp) ?_ (by rw[Aj]<;>omega);rw[mE,<-hlen];refine⟨.ref s.heap.objs.size,_,I.laid (t':=s.toks) (o:=.lst (i8 xs lo hi)) (fun b ob q=>Heap.get?_push_of_some _ q) (Ad _) ?_,rfl,q _ (I.hok.fresh (Ad _))⟩;exact⟨AX (kf xs lo hi) hz,_,0,(r.drop (HT.sIx xs.length 0 lo)).take (HT.sIx xs.length xs.length hi-HT.sIx xs.length 0 lo),Heap.get?_push_size _ rfl⟩
def ir:V->Bool
 | .non=>true
 | .bl _=>true
 | .int _=>true
 | .str _=>true
 | _=>false
def pV:V->V->Bool
 | .non,.non=>true
 | .bl a,.bl b=>a == b
 | .bl a,.int b=>(if a then 1 else 0) == b
 | .int a,.bl b=>a == (if b then 1 else 0)
 | .int a,.int b=>a == b
 | .str a,.str b=>a == b
 | _,_=>false
theorem sU {A:Around}{s:Shared}{y x:V}{u v:Value}(ry:aO y u)(rx:aO x v)(fy:ir y=true)(fx:ir x=true):SeqAt.EqAt A s u v (pV y x):=by
 cases y with
 | non =>
  cases ry
  cases x with
  | non=>cases rx;exact SeqAt.EqAt.same _
  | bl b=>cases rx;exact SeqAt.EqAt.none_bool b
  | int b=>obtain⟨t,rfl⟩:=rx;exact SeqAt.EqAt.none_int b t
  | str b=>obtain⟨t,rfl⟩:=rx;exact SeqAt.EqAt.none_str b t
  | _=>exact absurd (show false=true from fx) Ae
 | bl a =>
  cases ry
  cases x with
  | non=>cases rx;exact SeqAt.EqAt.bool_none a
  | bl b=>cases rx;exact SeqAt.EqAt.bool_bool a b
  | int b=>obtain⟨t,rfl⟩:=rx;exact SeqAt.EqAt.bool_int a b t
  | str b=>obtain⟨t,rfl⟩:=rx;exact SeqAt.EqAt.bool_str a b t
  | _=>exact absurd (show false=true from fx) Ae
 | int a =>
  obtain⟨t',rfl⟩:=ry
  cases x with
  | non=>cases rx;exact SeqAt.EqAt.int_none a t'
  | bl b=>cases rx;exact SeqAt.EqAt.int_bool a t' b
  | int b=>obtain⟨t,rfl⟩:=rx;exact SeqAt.EqAt.int_int a t' b t
  | str b=>obtain⟨t,rfl⟩:=rx;exact SeqAt.EqAt.int_str a t' b t
  | _=>exact absurd (show false=true from fx) Ae
 | str a =>
  obtain⟨t',rfl⟩:=ry
  cases x with
  | non=>cases rx;exact SeqAt.EqAt.str_none a t'
  | bl b=>cases rx;exact SeqAt.EqAt.str_bool a t' b
  | int b=>obtain⟨t,rfl⟩:=rx;exact SeqAt.EqAt.str_int a t' b t
  | str b=>obtain⟨t,rfl⟩:=rx;exact SeqAt.EqAt.str_str a t' b t
  | _=>exact absurd (show false=true from fx) Ae
 | _=>exact absurd (show false=true from fy) Ae
def pU (x:V)(u:Value):Bool:=match u with
 | .none=>pV .non x
 | .bool b=>pV (.bl b) x
 | .int i _=>pV (.int i) x
 | .str z _=>pV (.str z) x
 | _=>false
theorem sV {x y:V}{u:Value}(r:aO y u)(f:ir y=true):pU x u=pV y x:=by
 cases y with
 | non=>cases r;rfl
 | bl b=>cases r;rfl
 | int i=>obtain⟨t,rfl⟩:=r;rfl
 | str z=>obtain⟨t,rfl⟩:=r;rfl
 | _=>exact absurd (show false=true from f) Ae
theorem i6 {x:V}:∀ {xs:List V}{us:List Value},Vals xs us->xs.all ir=true->us.any (pU x)=xs.any fun y=>pV y x
 | _,_,.nil,_=>rfl
 | y::xs,u::us,.cons r t,f=>by
  rw[List.all_cons,Bc]at f;rw[BI,BI,sV r f.1,i6 t f.2]
theorem gv {A:Around}{s:Shared}{x:V}{v:Value}(rx:aO x v)(fx:ir x=true):∀ {xs:List V}{us:List Value},Vals xs us->xs.all ir=true->∀ u∈us,SeqAt.EqAt A s u v (pU x u)
 | _,_,.nil,_=>fun u hu=>by cases hu
 | y::xs,u::us,.cons r t,f=>fun u' hu=>by
  rw[List.all_cons,Bc]at f;rcases Aq.mp hu with rfl | hu
  ·rw[sV r f.1];exact sU r rx f.1 fx
  ·exact gv rx fx t f.2 u' hu
def uS (x:V)(xs:List V):Bool:=xs.any fun y=>pV y x
inductive xK (K:PySem.W.Frag) (neg:Bool) (x:V) (y:V) (H:Hp) (Q:VK):Prop
 | mk (p:Addr) (xs:List V) (h_0:y=.ref p) (h_1:(aR K H p xs\/aG K H p xs)) (h_2:ir x=true) (h_3:xs.all ir=true) (h_4:Q (.bl (if neg then !uS x xs else uS x xs)) H):xK K neg x y H Q
theorem jR:iT X (compareOp .In) (xK X.K false):=by
 intro pins s σ H x y v u Q I rx ry h;obtain⟨p,xs,rfl,hq,fx,fs,q⟩:=h;cases ry;rcases hq with hq | hq
 ·obtain⟨its,r,pl,hz⟩:=I.list hq
  refine SeqAt.in_listAt (pU x) pl.isList (fun w hw=>gv rx fx r fs w (by simpa using hw)) ⟨.bl _,H,I,rfl,?_⟩;rw[show its.toArray.any (pU x)=its.any (pU x) by simp,i6 r fs];exact q
 ·obtain⟨its,r,pl,hz⟩:=I.tuple hq
  refine SeqAt.in_tupleAt (pU x) pl (fun w hw=>gv rx fx r fs w (by simpa using hw)) ⟨.bl _,H,I,rfl,?_⟩;rw[show its.toArray.any (pU x)=its.any (pU x) by simp,i6 r fs];exact q
theorem jn:iT X (compareOp .NotIn) (xK X.K true):=by
 intro pins s σ H x y v u Q I rx ry h;obtain⟨p,xs,rfl,hq,fx,fs,q⟩:=h;cases ry;rcases hq with hq | hq
 ·obtain⟨its,r,pl,hz⟩:=I.list hq
  refine SeqAt.notIn_listAt (pU x) pl.isList (fun w hw=>gv rx fx r fs w (by simpa using hw)) ⟨.bl _,H,I,rfl,?_⟩;rw[show its.toArray.any (pU x)=its.any (pU x) by simp,i6 r fs];exact q
 ·obtain⟨its,r,pl,hz⟩:=I.tuple hq
  refine SeqAt.notIn_tupleAt (pU x) pl (fun w hw=>gv rx fx r fs w (by simpa using hw)) ⟨.bl _,H,I,rfl,?_⟩;rw[show its.toArray.any (pU x)=its.any (pU x) by simp,i6 r fs];exact q
theorem a9:eI X (.builtin "len") (fun xs H Q=>∃ p ys,xs=[.ref p]/\(aR X.K H p ys\/aG X.K H p ys)/\Q (.int ys.length) H):=by
 intro pins s σ H xs us Q I r h;obtain⟨p,ys,rfl,hq,q⟩:=h;obtain⟨u,rfl,rx⟩:=fY r;cases rx;have hn:=jJ;rcases hq with hq | hq
 ·obtain⟨its,r',pl,hz⟩:=I.list hq
  have hlen:=r'.length;exact Calls.call_len_list pl.isList (by simp only[Aj]<;>omega) ⟨.int ys.length,H,I.tok _,⟨s.toks+1,by rw[Aj,hlen]⟩,q⟩
 ·obtain⟨its,r',pl,hz⟩:=I.tuple hq
  have hlen:=r'.length;exact len_tuple pl (by simp only[Aj]<;>omega) ⟨.int ys.length,H,I.tok _,⟨s.toks+1,by rw[Aj,hlen]⟩,q⟩
theorem m8:eI X (.builtin "len") (fun xs H Q=>∃ z,xs=[.str z]/\z.length<=sizeLine/\Q (.int z.length) H):=by
 intro pins s σ H xs us Q I r h;obtain⟨z,rfl,hz,q⟩:=h;obtain⟨u,rfl,t,rfl⟩:=fY r;have hn:=jJ;exact len_str (by omega) ⟨.int z.length,H,I.tok _,⟨_,rfl⟩,q⟩
theorem fC:eI X (.type "list") (fun xs H Q=>∃ p ys,xs=[.ref p]/\(aR X.K H p ys\/aG X.K H p ys)/\∀ l,H l=none->Q (.ref l) (aD H l (.lst ys))):=by
 intro pins s σ H xs us Q I r h;obtain⟨p,ys,rfl,hq,q⟩:=h;obtain⟨u,rfl,rx⟩:=fY r;cases rx
 have fin:∀ (its:List Value),Vals ys its->ys.length<=sizeLine->∀ (h':Heap)(c':Nat),(∀ b o',s.heap.get? b=some o'->h'.get? b=some o') ->
   h'.get? s.heap.objs.size=some { cls:=.type "list",dict:=none,data:=.seq its.toArray c',slots:=#[] }->EP X pins σ Q (.ref s.heap.objs.size) { s with heap:=h' }:=fun its r' hz h' c' kp e =>
  ⟨.ref s.heap.objs.size,_,I.laid (t':=s.toks) kp (Ad _) (show bv X.prog X.w _ h' _ (.lst ys) from ⟨hz,its,c',r',e⟩),rfl,q _ (I.hok.fresh (Ad _))⟩
 rcases hq with hq | hq
 ·obtain⟨its,r',pl,hz⟩:=I.list hq
  have hlen:=r'.length;obtain⟨o,ho,hc,n,hd⟩:=pl.isList;exact call_list_seq p (.inl rfl) ho hc hd (fun h' c' kp e=>fin its r' hz h' c' kp e) (by simp only[Aj]<;>omega)
 ·obtain⟨its,r',pl,hz⟩:=I.tuple hq
  have hlen:=r'.length;obtain⟨o,ho,hc,n,hd⟩:=pl;exact call_list_seq p (.inr rfl) ho hc hd (fun h' c' kp e=>fin its r' hz h' c' kp e) (by simp only[Aj]<;>omega)
theorem bA:eI X (.type "tuple") (fun xs H Q=>∃ p ys,xs=[.ref p]/\((aR X.K H p ys/\∀ l,H l=none->Q (.ref l) (aD H l (.tup ys)))\/(aG X.K H p ys/\Q (.ref p) H))):=by
 intro pins s σ H xs us Q I r h;obtain⟨p,ys,rfl,h⟩:=h;obtain⟨u,rfl,rx⟩:=fY r;cases rx;rcases h with ⟨hq,q⟩ | ⟨hq,q⟩
 ·obtain⟨its,r',pl,hz⟩:=I.list hq
  have hlen:=r'.length;refine call_tuple_list pl.isList (fun h' kp=>?_) (by simp only[Aj]<;>omega);have I1:az X pins σ H { s with heap:=h' }:=I.kept (t':=s.toks) kp
  have I2:az X pins σ (aD H h'.objs.size (.tup ys)) { s with heap:=h'.push { cls:=.type "tuple",data:=.seq its.toArray } } :=
   I1.laid (t':=s.toks) (fun b o e=>Heap.get?_push_of_some _ e) (Ad _) (show bv X.prog X.w _ _ _ (.tup ys) from ⟨hz,its,r',iD.new _ _⟩)
  exact⟨.ref h'.objs.size,_,I2,rfl,q _ (I1.hok.fresh (Ad _))⟩
 ·obtain⟨its,r',pl,hz⟩:=I.tuple hq
  exact call_tuple_same pl ⟨.ref p,H,I,rfl,q⟩
def zg (K:PySem.W.Frag)(T:String)(x:V)(H:Hp):Prop:=match x with
 | .str _=>T="str"
 | .int _=>T="int"
 | .ref p=>(T="list"/\∃ xs,aR K H p xs)\/(T="tuple"/\∃ o,K.lookup p=some o/\o.cls=.type "tuple"/\o.dict=none) \/
   (T="dict"/\((∃ kvs,H p=some (.dK kvs))\/∃ kvs,H p=some (.dT kvs)))\/(T="set"/\∃ S n,H p=some (.set S n))
 | _=>False
theorem uq {pins:List (Addr×Obj)}{σ:St}{H:Hp}{s:Shared}{T:String}{x:V}{v:Value}(I:az X pins σ H s)(r:aO x v)(ty:zg X.K T x H) :
  s.TypeIs v T/\∀ a,v=.ref a->∃ ob,s.heap.get? a=some ob/\ob.dict=none:=by
 cases x with
 | str z =>
  obtain⟨t,rfl⟩:=r;cases (show T="str" from ty);exact⟨typeIs_str s z t,fun _ e=>nomatch e⟩
 | int i =>
  obtain⟨t,rfl⟩:=r;cases (show T="int" from ty);exact⟨typeIs_int s i t,fun _ e=>nomatch e⟩
 | ref p =>
  cases r;rcases ty with ⟨rfl,xs,hq⟩ | ⟨rfl,o,hk,hc,hd⟩ | ⟨rfl,hk⟩ | ⟨rfl,S,n,hk⟩
  ·obtain⟨its,_,pl,_⟩:=I.list hq
   refine⟨pl.isList.typeIs,fun a e=>?_⟩;cases e;obtain⟨o,n,e,c,hd,_⟩:=pl;exact⟨o,e,hd⟩
  ·refine⟨⟨o,I.kIn p o hk,hc⟩,fun a e=>?_⟩
   cases e;exact⟨o,I.kIn _ o hk,hd⟩
  ·have z:∃ o,s.heap.get? p=some o/\o.ExactDict:=by
    rcases hk with ⟨kvs,hk⟩ | ⟨kvs,hk⟩
    ·obtain⟨_,_,_,_,o,_,_,e,ex,_⟩:=I.hok p _ hk
     exact⟨o,e,ex⟩
    ·obtain⟨_,_,_,_,o,_,_,e,ex,_⟩:=I.hok p _ hk
     exact⟨o,e,ex⟩
   obtain⟨o,e,ex⟩:=z;refine⟨⟨o,e,ex.1⟩,fun a e2=>?_⟩;cases e2;exact⟨o,e,ex.2.1⟩
  ·obtain⟨o,_,_,_,e,ex,_⟩:=I.hok p _ hk
   refine⟨⟨o,e,ex.1⟩,fun a e2=>?_⟩;cases e2;exact⟨o,e,ex.2.1⟩
 | _=>exact False.elim ty
def yX (K:PySem.W.Frag)(T:String)(r:V->List V->Hp->VK->Prop)(to:TE):TE:=fun σ H Q=>to σ H fun x H1=>zg K T x H1/\r x [] H1 Q
def zN (K:PySem.W.Frag)(T:String)(r:V->List V->Hp->VK->Prop)(to:TE)(t:TA):TE:=fun σ H Q=>to σ H fun x H1=>zg K T x H1/\t σ H1 fun xs H2=>r x xs H2 Q
variable {o e:Expr}{es:List Expr}{to:TE}{t:TA}{name:Str}{apos cpos:Pos}{T id:String}{r:V->List V->Hp->VK->Prop}
theorem wB (pa:PlainAttrs T)(slot:Slot T name id)(hty:typeOf (.builtin id)=pure (.type "method_descriptor"))(hm:zj X id r)(ho:PE X o to)
  (hbase:attributeBase o name X.env (eval o X.env)=eval o X.env:=by rfl) (hline:(apos.endLine == cpos.line)=true:=by rfl):PE X (.Call (.Attribute o name apos) [] [] cpos) (yX X.K T r to):=by
 intro pins s σ H Q I h;refine wpAny_Call_method0_late hbase hline (bf (ho pins s σ H _ I h) fun v s1 ⟨x,H1,I1,r1,ty,q1⟩=>?_);obtain⟨h1,h2⟩:=uq I1 r1 ty;exact⟨T,id,pa,slot,hty,h1,h2,Calls.callWith_builtin rfl (PySem.evalArgs_none (hm pins s1 σ H1 x [] v [] Q I1 r1 .nil q1))⟩
theorem fm (pa:PlainAttrs T)(slot:Slot T name id)(hty:typeOf (.builtin id)=pure (.type "method_descriptor"))(hm:zj X id r)(ho:PE X o to)(ha:PA X (e::es) t)
  (hbase:attributeBase o name X.env (eval o X.env)=eval o X.env:=by rfl)
  (hfew:((backTo cpos (starEach (e::es) X.env)).all (fun x=>!x.1)&&(backToKw cpos (keywordEach [] X.env)).all (fun x=>x.1.isSome)
   && decide ((e::es).length+([]:List Keyword).length+(if ([]:List Keyword).isEmpty then 0 else 1)<30))=true:=by rfl)
  (hline:(apos.endLine == cpos.line)=true:=by rfl) (hs:starEach (e::es) X.env=(false,eval e X.env)::starEach es X.env:=by rfl) (hplain:(backTo cpos (starEach es X.env)).any (·.1)=false:=by rfl) :
  PE X (.Call (.Attribute o name apos) (e::es) [] cpos) (zN X.K T r to t):=by
 intro pins s σ H Q I h;refine wpAny_Call_method_late hbase hfew hline rfl (bf (ho pins s σ H _ I h) fun v s1 ⟨x,H1,I1,r1,ty,q1⟩=>?_);obtain⟨h1,h2⟩:=uq I1 r1 ty;refine⟨T,id,pa,slot,hty,h1,h2,?_⟩;have hA:=ha cpos pins s1 σ H1 _ I1 q1;rw[hs]at hA ⊢;refine Calls.callWith_builtin (by show (false||(backTo cpos (starEach es X.env)).any (·.1))=false;rw[hplain]<;>rfl) (Calls.evalArgs_plain ?_);exact bf hA fun us s2 ⟨vs,H2,I2,r2,q2⟩=>hm pins s2 σ H2 x vs v us Q I2 r1 r2 q2
end
def yz (X:Cx)(id:String)(r:V->List V->Hp->VK->Prop):Prop :=
 ∀ (pins:List (Addr×Obj))(s:Shared)(σ:St)(H:Hp)(x:V)(xs:List V)(v:Value)(us:List Value)(Q:VK),az X pins σ H s->aO x v->Vals xs us->r x xs H Q ->
  wpAny (model X.prog X.w) X.A (call (.builtin id) (v::us)) (EP X pins σ Q) X.xe s
theorem Vals.one:∀ {x:V}{us:List Value},Vals [x] us->∃ u,us=[u]/\aO x u
 | _,_,.cons r .nil=>⟨_,rfl,r⟩
theorem Vals.two:∀ {x y:V}{us:List Value},Vals [x,y] us->∃ u v,us=[u,v]/\aO x u/\aO y v
 | _,_,_,.cons r (.cons q .nil)=>⟨_,_,rfl,r,q⟩
theorem Vals.zero:∀ {us:List Value},Vals [] us->us=[]
 | _,.nil=>rfl
theorem Vals.dropLast {xs:List V}{us:List Value}(h:Vals xs us):Vals xs.dropLast us.dropLast:=by
 induction h with
 | nil=>exact .nil
 | cons r t ih =>
  cases t with
  | nil=>exact .nil
  | cons q t'=>exact .cons r ih
theorem Vals.rep {xs:List V}{us:List Value}(h:Vals xs us):∀ k:Nat,Vals (List.replicate k xs).flatten (List.replicate k us).flatten
 | 0=>.nil
 | k+1=>by
  rw[AY,AY,A8,A8];exact Vals.append h (Vals.rep h k)
theorem pW {α:Type}(l:List α):l.eraseIdx (l.length-1)=l.dropLast:=by
 induction l with
 | nil=>rfl
 | cons a r ih =>
  cases r with
  | nil=>rfl
  | cons b r =>
   have e:(a::b::r).length-1=((b::r).length-1)+1:=by
    have h1:(a::b::r).length=r.length+2:=rfl;have h2:(b::r).length=r.length+1:=rfl;omega
   rw[e,List.eraseIdx_cons_succ,ih]
   all_goals rfl
theorem mQ (its:List Value):∀ (k:Nat)(acc:List Value),
  List.foldl (fun x1 x2=>x1++x2) acc.toArray (List.replicate k its.toArray)=(acc++(List.replicate k its).flatten).toArray
 | 0,acc=>by simp
 | k+1,acc=>by
  have e:acc.toArray++its.toArray=(acc++its).toArray:=by simp
  have e2:(acc++its)++(List.replicate k its).flatten=acc++(List.replicate (k+1) its).flatten:=by
   rw[AY,A8,Bz]
  rw[<-e2,<-mQ its k (acc++its),<-e,AY,List.foldl_cons]
section
variable {X:Cx}{pins:List (Addr×Obj)}{σ:St}{H:Hp}{s:Shared}{l b:Addr}{xs ys zs:List V}
theorem az.lset {its its':List Value}{n:Nat}{f:Array Value->Array Value}{t':Nat}(I:az X pins σ H s)(hH:H l=some (.lst xs))
  (e:s.heap.get? l=some { cls:=.type "list",data:=.seq its.toArray n }) (hf:f its.toArray=its'.toArray) (hv:Vals ys its') (hz:ys.length<=sizeLine) :
  az X pins σ (aD H l (.lst ys)) { s with heap:=s.heap.update l (Obj.mapSeq f),toks:=t' }:=by
 have q:=PySem.IsL.update e f;rw[hf]at q;refine I.write (x:=l) (e:=l) (by rw[hH];exact trivial) (.inl rfl) (fun b' u hb hu=>(Heap.get?_update_other s.heap (Obj.mapSeq f) (AK hb)).trans hu) ⟨_,q⟩ ?_;exact⟨hz,its',_,hv,q⟩
theorem az.lnew {its:List Value}{t':Nat}(I:az X pins σ H s)(hv:Vals ys its)(hz:ys.length<=sizeLine) :
  az X pins σ (aD H s.heap.objs.size (.lst ys)) { s with heap:=s.heap.push { cls:=.type "list",data:=.seq its.toArray },toks:=t' } :=
 I.laid (fun _ _ q=>Heap.get?_push_of_some _ q) (Ad _) ⟨hz,its,0,hv,Heap.get?_push_size _ rfl⟩
theorem az.fresh (I:az X pins σ H s):H s.heap.objs.size=none:=I.hok.fresh (Ad _)
theorem az.lstM (I:az X pins σ H s)(hH:H l=some (.lst xs)):xs.length<=sizeLine/\∃ (its:List Value)(n:Nat),Vals xs its/\xs.length=its.length/\s.heap.get? l=some { cls:=.type "list",data:=.seq its.toArray n }:=by
 obtain⟨z,its,n,r,e⟩:=I.hok l _ hH;exact⟨z,its,n,r,r.length,e⟩
theorem oQ {n:Nat}(h:n<=sizeLine):Builtin.List.listTooLong n=false:=by
 unfold Builtin.List.listTooLong;exact Ab (by omega)
end
section
variable {X:Cx}
inductive rn (x:V) (vs:List V) (H:Hp) (Q:VK):Prop
 | mk (l:Addr) (xs:List V) (y:V) (h_0:x=.ref l) (h_1:vs=[y]) (h_2:H l=some (.lst xs)) (h_3:xs.length<sizeLine) (h_4:Q .non (aD H l (.lst (xs++[y])))):rn x vs H Q
theorem bH:yz X "list.append" rn:=by
 intro pins s σ H x vs v us Q I rx rv h;obtain⟨l,xs,y,rfl,rfl,hH,hz,q⟩:=h;cases rx;obtain⟨u,rfl,ru⟩:=rv.one;obtain⟨z,its,n,r,hl,e⟩:=I.lstM hH;refine call_meets F.slot_list_append ⟨_,e,rfl⟩ F.entry_list_append (F.args_list_append_2 _ _) (PySem.list_append l its.toArray n u (by rw[Aj];omega)) ⟨e,?_⟩;refine⟨.non,_,I.lset (its':=its++[u]) hH e (by simp) (r.append (.cons ru .nil)) ?_,rfl,q⟩;rw[An,AF];omega
inductive ro (x:V) (vs:List V) (H:Hp) (Q:VK):Prop
 | mk (l b:Addr) (xs zs:List V) (h_0:x=.ref l) (h_1:vs=[.ref b]) (h_2:H l=some (.lst xs)) (h_3:H b=some (.lst zs)) (h_4:xs.length+zs.length<=sizeLine) (h_5:Q .non (aD H l (.lst (xs++zs)))):ro x vs H Q
theorem sg:yz X "list.extend" ro:=by
 intro pins s σ H x vs v us Q I rx rv h;obtain⟨l,b,xs,zs,rfl,rfl,hH,hB,hz,q⟩:=h;cases rx;obtain⟨u,rfl,ru⟩:=rv.one;cases ru;obtain⟨z,its,n,r,hl,e⟩:=I.lstM hH;obtain⟨z2,its2,n2,r2,hl2,e2⟩:=I.lstM hB
 have hsz:its.toArray.size+its2.toArray.size<=sizeLine:=by rw[Aj,Aj];omega
 have hlong:¬ (!its.toArray.isEmpty&&Builtin.List.listTooLong (its.toArray.size+its2.toArray.size))=true:=by
  rw[oQ hsz,Bool.and_false];exact Ae
 refine call_meets F.slot_list_extend ⟨_,e,rfl⟩ F.entry_list_extend (F.args_list_extend_2 _ _)
  (AutoSeq1.list_extend_list_list_0 l its.toArray n b its2.toArray n2 hlong (by rw[Aj];omega) (by omega)) ⟨e,e2,?_⟩
 refine⟨.non,_,I.lset (its':=its++its2) hH e (by simp) (r.append r2) ?_,rfl,q⟩;rw[An];omega
inductive xN (x:V) (vs:List V) (H:Hp) (Q:VK):Prop
 | mk (l:Addr) (xs:List V) (y:V) (h_0:x=.ref l) (h_1:vs=[]) (h_2:H l=some (.lst xs)) (h_3:xs[xs.length-1]? = some y) (h_4:Q y (aD H l (.lst xs.dropLast))):xN x vs H Q
theorem wx:yz X "list.pop" xN:=by
 intro pins s σ H x vs v us Q I rx rv h;obtain⟨l,xs,y,rfl,rfl,hH,hy,q⟩:=h;cases rx;have hus:=rv.zero;subst hus;obtain⟨z,its,n,r,hl,e⟩:=I.lstM hH;obtain⟨u,hu,ru⟩:=r.get hy
 have hy':its.toArray[its.toArray.size-1]? = some u:=by
  show its.toArray[its.length-1]? = some u
  rw[<-Array.getElem?_toList,<-hl];exact hu
 refine call_meets F.slot_list_pop ⟨_,e,rfl⟩ F.entry_list_pop (F.args_list_pop_1 _) (MeetsSeq.list_pop_last l its.toArray n u hy' (by rw[Aj];omega)) ⟨e,?_⟩;refine⟨y,_,I.lset (its':=its.dropLast) hH e ?_ r.dropLast ?_,ru,q⟩
 ·show its.toArray.eraseIdxIfInBounds (its.toArray.size-1)=its.dropLast.toArray
  rw[Aj,List.eraseIdxIfInBounds_toArray,pW]
 ·rw[List.length_dropLast]
  omega
inductive xI (x:V) (y:V) (H:Hp) (Q:VK):Prop
 | mk (l b:Addr) (xs zs:List V) (h_0:x=.ref l) (h_1:y=.ref b) (h_2:H l=some (.lst xs)) (h_3:H b=some (.lst zs)) (h_4:xs.length+zs.length<=sizeLine) (h_5:∀ p,H p=none->Q (.ref p) (aD H p (.lst (xs++zs)))):xI x y H Q
theorem nG:iT X (binaryOp .Add) xI:=by
 intro pins s σ H x y v u Q I rx ry h;obtain⟨l,b,xs,zs,rfl,rfl,hH,hB,hz,q⟩:=h;cases rx;cases ry;obtain⟨z,its,n,r,hl,e⟩:=I.lstM hH;obtain⟨z2,its2,n2,r2,hl2,e2⟩:=I.lstM hB;refine PySem.P.add_list e e2 ?_ (by rw[Aj,Aj];omega)
 have ea:its.toArray++its2.toArray=(its++its2).toArray:=by simp
 rw[ea];exact⟨.ref _,_,I.lnew (t':=s.toks) (r.append r2) (by rw[An];omega),rfl,q _ I.fresh⟩
def yT:R2:=fun x y H Q=>∃ l k xs,x=.ref l/\y=.int k/\H l=some (.lst xs)/\-(2 ^ 63)<=k/\k<2 ^ 63/\xs.length*k.toNat<=sizeLine /\
 ∀ p,H p=none->Q (.ref p) (aD H p (.lst (List.replicate k.toNat xs).flatten))
theorem uW {α:Type}(xs:List α)(k:Nat):(List.replicate k xs).flatten.length=k*xs.length:=by
 induction k with
 | zero=>simp
 | succ k ih=>rw[AY,A8,An,ih,Nat.succ_mul,Nat.add_comm]
theorem wA:iT X (binaryOp .Mult) yT:=by
 intro pins s σ H x y v u Q I rx ry h;obtain⟨l,k,xs,rfl,rfl,hH,h1,h2,hz,q⟩:=h;cases rx;obtain⟨t,rfl⟩:=ry;obtain⟨z,its,n,r,hl,e⟩:=I.lstM hH
 have hlen:its.toArray.size*k.toNat<=sizeLine:=by rw[Aj,<-hl];exact hz
 have hcap:¬ its.toArray.size*k.toNat>(2 ^ 63-1)/8:=by
  have:(sizeLine:Nat)<=(2 ^ 63-1)/8:=by decide
  omega
 have hfit:¬ (!Builtin.List.listFitsIndex k)=true:=by
  rw[fitsIndex_both h1 h2];exact Ae
 have hlong:¬ Builtin.List.listTooLong (its.toArray.size*k.toNat)=true:=by
  rw[oQ hlen];exact Ae
 have hnew:List.foldl (fun x1 x2=>x1++x2) #[] (List.replicate (if its.toArray.isEmpty=true then 0 else k.toNat) its.toArray)=(List.replicate k.toNat its).flatten.toArray:=by
  have f0:∀ m:Nat,List.foldl (fun x1 x2=>x1++x2) #[] (List.replicate m its.toArray)=(List.replicate m its).flatten.toArray:=fun m=>by
   have:=mQ its m [];rw[List.nil_append]at this;exact this
  rw[f0]
  cases its with
  | nil=>simp
  | cons a r'=>rw[Ag (by simp)]
 refine wpAny_binaryOp_repeat_ref (T:="list") (U:="int") (by decide) ⟨_,e,rfl⟩ (fun s'=>typeIs_int s' k t) noFill_list_mul F.fills_int_mul F.slot_int_rmul repeat_list F.slot_int_index.lookup
  (call_meets F.slot_int_rmul (typeIs_int s k t) F.entry_int_rmul (F.args_int_rmul_2 _ _) (int___rmul___int_list k t l its.toArray n)
   ⟨e,rfl,⟨_,e,rfl⟩,call_meets F.slot_list_mul ⟨_,e,rfl⟩ F.entry_list_mul (F.args_list_mul_2 _ _) (AutoListH.list___mul___list_int_3 l its.toArray n k t hfit hcap hlong) ⟨e,?_⟩⟩)
 rw[hnew];exact⟨.ref _,_,I.lnew (t':=s.toks) (r.rep k.toNat) (by rw[uW,Nat.mul_comm];exact hz),rfl,q _ I.fresh⟩
end
section
variable {κ:Type} [DecidableEq κ]
def f7 (kvs:List (κ×V))(k:κ):Option V:=(kvs.find? fun kv=>decide (kv.1=k)).map (·.2)
def jV (kvs:List (κ×V))(k:κ)(v:V):List (κ×V) :=
 if (kvs.any fun kv=>decide (kv.1=k))=true then kvs.map (fun kv=>if kv.1=k then (kv.1,v) else kv) else kvs++[(k,v)]
theorem eD {p:κ×V}{r:List (κ×V)}{k:κ}(e:p.1=k):f7 (p::r) k=some p.2:=by simp[f7,List.find?_cons,e]
theorem eC {p:κ×V}{r:List (κ×V)}{k:κ}(e:¬ p.1=k):f7 (p::r) k=f7 r k:=by simp[f7,List.find?_cons,e]
theorem mf (k:κ):∀ kvs:List (κ×V),(kvs.any fun kv=>decide (kv.1=k))=(f7 kvs k).isSome
 | []=>rfl
 | p::r=>by
  rw[BI]
  by_cases e:p.1=k
  ·simp only[eD e,Af e,Bool.true_or,Option.isSome_some]
  ·rw[eC e,Ab e,Bool.false_or];exact mf k r
theorem m4 (k j:κ)(y:V):∀ kvs:List (κ×V),f7 kvs k=none->f7 (kvs++[(k,y)]) j=if j=k then some y else f7 kvs j
 | [],_=>by
  by_cases e:k=j
  ·rw[Ai e.symm];exact eD (p:=(k,y)) e
  ·rw[Ag (fun z=>e z.symm)];exact eC (p:=(k,y)) e
 | p::r,hn=>by
  rw[List.cons_append]
  have hk:¬ p.1=k:=fun z=>by rw[eD z]at hn;cases hn
  rw[eC hk]at hn;have ih:=m4 k j y r hn
  by_cases e:p.1=j
  ·rw[eD e,eD e,Ag (fun z=>hk (e.trans z))]
  ·rw[eC e,eC e,ih]
theorem kj (kvs:List (κ×V))(k:κ)(v:V):(jV kvs k v).length<=kvs.length+1:=by
 unfold jV;split
 ·rw[z9];omega
 ·rw[An,AT,List.length_nil];omega
theorem jt {kvs:List (κ×V)}{k:κ}(v:V)(h:f7 kvs k=none):jV kvs k v=kvs++[(k,v)]:=by
 unfold jV;rw[mf,h];exact Ag (by decide)
theorem hV.isSome_eq {o:Option V}{u:Option Value}(r:hV o u):o.isSome=u.isSome:=by
 cases o with
 | none=>cases u with
  | none=>rfl
  | some _=>exact (show False from r).elim
 | some _=>cases u with
  | none=>exact (show False from r).elim
  | some _=>rfl
theorem KV.val {kvs:List (κ×V)}{vs:List (κ×Value)}(r:KV kvs vs)(k:κ):hV (f7 kvs k) (valueAt vs k):=by
 unfold KV at r
 induction r with
 | nil=>exact True.intro
 | @cons p q ps qs h t ih =>
  obtain⟨h1,h2⟩:=h
  by_cases e:p.1=k
  ·have e':q.1=k:=h1.symm.trans e
   have b:valueAt (q::qs) k=some q.2:=by simp[valueAt,List.find?_cons,e']
   rw[eD e,b];exact h2
  ·have e':¬ q.1=k:=fun z=>e (h1.trans z)
   have b:valueAt (q::qs) k=valueAt qs k:=by simp[valueAt,List.find?_cons,e']
   rw[eC e,b];exact ih
theorem KV.any {kvs:List (κ×V)}{vs:List (κ×Value)}(r:KV kvs vs)(k:κ):(kvs.any fun kv=>decide (kv.1=k))=vs.any fun kv=>decide (kv.1=k):=by
 unfold KV at r
 induction r with
 | nil=>rfl
 | cons h t ih=>rw[BI,BI,ih,h.1]
theorem KV.repl {kvs:List (κ×V)}{vs:List (κ×Value)}(r:KV kvs vs)(k:κ){y:V}{u:Value}(ry:aO y u) :
  KV (kvs.map fun kv=>if kv.1=k then (kv.1,y) else kv) (vs.map fun kv=>if kv.1=k then (kv.1,u) else kv):=by
 unfold KV at r ⊢
 induction r with
 | nil=>exact .nil
 | @cons p q ps qs h t ih =>
  rw[Az,Az];refine .cons ?_ ih;obtain⟨h1,h2⟩:=h
  by_cases e:p.1=k
  ·rw[Ai e,Ai (h1.symm.trans e)];exact⟨h1,ry⟩
  ·rw[Ag e,Ag (fun z=>e (h1.trans z))];exact⟨h1,h2⟩
theorem KV.put {kvs:List (κ×V)}{vs:List (κ×Value)}(r:KV kvs vs)(k:κ){y:V}{u:Value}(ry:aO y u):KV (jV kvs k y) (stored vs k u):=by
 unfold jV stored;rw[r.any k]
 by_cases e:(vs.any fun kv=>decide (kv.1=k))=true
 ·rw[Ai e,Ai e];exact r.repl k ry
 ·rw[Ag e,Ag e];exact Paired.snoc r ⟨rfl,ry⟩
theorem KV.keys {kvs:List (κ×V)}{vs:List (κ×Value)}(r:KV kvs vs):kvs.map (·.1)=vs.map (·.1):=by
 unfold KV at r
 induction r with
 | nil=>rfl
 | cons h t ih=>rw[Az,Az,ih,h.1]
theorem KV.length {kvs:List (κ×V)}{vs:List (κ×Value)}(r:KV kvs vs):kvs.length=vs.length:=Ao r
end
theorem oB {P:Program}{w:World}{k:cv}{u:Value}(r:aO (kV k) u):(bZ P w).is k u=true:=by
 cases k with
 | inl i=>obtain⟨t,e⟩:=(show ∃ t,u=Value.int i t from r);subst e;exact oE P w i t
 | inr x=>obtain⟨t,e⟩:=(show ∃ t,u=Value.str x t from r);subst e;exact oF P w x t
theorem mR {P:Program}{w:World}:∀ {ks:List cv}{us:List Value},Vals (ks.map kV) us->ItemsAre (bZ P w) ks us
 | [],_,r=>by rw[List.map_nil]at r;cases r;exact .nil
 | k::ks,_,r=>by
  rw[Az]at r
  cases r with
  | cons h t=>exact .cons (oB h) (mR t)
abbrev KT (H:Hp):List (List cv×V)->List (List cv×Addr×Value)->Prop:=Paired fun p q=>p.1=q.1/\H q.2.1=some (.tup (p.1.map kV))/\aO p.2 q.2.2
theorem KT.val {H:Hp}{kvs:List (List cv×V)}{xs:List (List cv×Addr×Value)}(r:KT H kvs xs)(k:List cv):hV (f7 kvs k) ((atKey xs k).map (·.2)):=by
 induction r with
 | nil=>exact True.intro
 | @cons p q ps qs h t ih =>
  obtain⟨h1,_,h2⟩:=h
  by_cases e:p.1=k
  ·have e':q.1=k:=h1.symm.trans e
   have b:atKey (q::qs) k=some q.2:=by simp[atKey,List.find?_cons,e']
   rw[eD e,b];exact h2
  ·have e':¬ q.1=k:=fun z=>e (h1.trans z)
   have b:atKey (q::qs) k=atKey qs k:=by simp[atKey,List.find?_cons,e']
   rw[eC e,b];exact ih
theorem KT.repl {H:Hp}{kvs:List (List cv×V)}{xs:List (List cv×Addr×Value)}(r:KT H kvs xs)(k:List cv){y:V}{u:Value}(ry:aO y u) :
  KT H (kvs.map fun kv=>if kv.1=k then (kv.1,y) else kv) (xs.map (putAt k u)):=by
 induction r with
 | nil=>exact .nil
 | @cons p q ps qs h t ih =>
  rw[Az,Az];refine .cons ?_ ih;obtain⟨h1,h2,h3⟩:=h;unfold putAt
  by_cases e:p.1=k
  ·rw[Ai e,Ai (h1.symm.trans e)];exact⟨h1,h2,ry⟩
  ·rw[Ag e,Ag (fun z=>e (h1.trans z))];exact⟨h1,h2,h3⟩
theorem KT.put {H:Hp}{kvs:List (List cv×V)}{xs:List (List cv×Addr×Value)}(r:KT H kvs xs)(k:List cv){b:Addr}{y:V}{u:Value}(hb:H b=some (.tup (k.map kV)))(ry:aO y u) :
  KT H (jV kvs k y) (storedH xs k b u):=by
 have e:(kvs.any fun kv=>decide (kv.1=k))=(atKey xs k).isSome:=by
  rw[mf,(r.val k).isSome_eq,Option.isSome_map]
 unfold jV storedH;rw[e]
 by_cases q:(atKey xs k).isSome=true
 ·rw[Ai q,Ai q];exact r.repl k ry
 ·rw[Ag q,Ag q];exact Paired.snoc r ⟨rfl,hb,ry⟩
theorem KT.keeps {H H':Hp}{kvs:List (List cv×V)}{xs:List (List cv×Addr×Value)}(r:KT H kvs xs)(ht:∀ b ys,H b=some (.tup ys)->H' b=some (.tup ys)):KT H' kvs xs :=
 Paired.mapP r fun _ _ z=>⟨z.1,ht _ _ z.2.1,z.2.2⟩
section
variable {P:Program}{w:World}{H:Hp}{h:Heap}{a:Addr}
theorem vG {u:HO}(ok:f8 P w H h)(e:Rd H a u):bv P w H h a u:=e.ok ok
theorem oy {kvs:List (cv×V)}(ok:f8 P w H h)(e:Rd H a (.dK kvs)):kvs.length<=sizeLine/\(a == sysModules)=false/\∃ vs,KV kvs vs/\h.DictOf (bZ P w) a vs :=
 show bv P w H h a (.dK kvs) from vG ok e
theorem xj {kvs:List (cv×V)}(ok:f8 P w H h)(e:H a=some (.dK kvs)):kvs.length<=sizeLine/\(a == sysModules)=false/\∃ vs,KV kvs vs/\h.DictOf (bZ P w) a vs:=oy ok (.inl e)
theorem ly {ks:List cv}(ok:f8 P w H h)(e:H a=some (.tup (ks.map kV))):(tupleKind (bZ P w)).is h ks a:=by
 obtain⟨_,its,r,o,h1,h2,n,h3⟩:=(show bv P w H h a (.tup (ks.map kV)) from ok a _ e);exact⟨o,its.toArray,n,h1,h2,(Prod.mk.inj h3).1,by simpa using mR r⟩
theorem oz {kvs:List (List cv×V)}(ok:f8 P w H h)(e:Rd H a (.dT kvs)):kvs.length<=sizeLine/\(a == sysModules)=false /\
  ∃ xs,KT H kvs xs/\h.DictOfH (tupleKind (bZ P w)) a xs:=by
 obtain⟨z,y,xs,r,o,es,ep,h1,h2,h3,h4,h5⟩:=(show bv P w H h a (.dT kvs) from vG ok e);refine⟨z,y,xs,r,o,es,ep,h1,h2,h3,h4,fun x hx=>?_,h5⟩
 have all:∀ {l:List (List cv×V)}{m:List (List cv×Addr×Value)},KT H l m->∀ x∈m,(tupleKind (bZ P w)).is h x.1 x.2.1:=by
  intro l m q
  induction q with
  | nil=>intro x hx;exact nomatch hx
  | @cons p q ps qs hq t ih =>
   intro x hx;rcases Aq.mp hx with e | hx
   ·subst e
    exact ly ok (by rw[<-hq.1];exact hq.2.1)
   ·exact ih x hx
 exact all r x hx
theorem xm {kvs:List (List cv×V)}(ok:f8 P w H h)(e:H a=some (.dT kvs)):kvs.length<=sizeLine/\(a == sysModules)=false /\
  ∃ xs,KT H kvs xs/\h.DictOfH (tupleKind (bZ P w)) a xs:=oz ok (.inl e)
end
def eZ (H:Hp)(a:Addr)(y:V)(r:Option V):Prop :=
 (∃ kvs k,Rd H a (.dK kvs)/\y=kV k/\r=f7 kvs k)\/∃ kvs k b,Rd H a (.dT kvs)/\y=.ref b/\H b=some (.tup (k.map kV))/\r=f7 kvs k
def kx (H:Hp)(a:Addr)(y v:V)(H':Hp):Prop :=
 (∃ kvs k,H a=some (.dK kvs)/\y=kV k/\kvs.length<sizeLine/\H'=aD H a (.dK (jV kvs k v))) \/
 ∃ kvs k b,H a=some (.dT kvs)/\y=.ref b/\H b=some (.tup (k.map kV))/\kvs.length<sizeLine/\H'=aD H a (.dT (jV kvs k v))
theorem eZ.k {H:Hp}{a:Addr}{kvs:List (cv×V)}{k:cv}(e:H a=some (.dK kvs)):eZ H a (kV k) (f7 kvs k):=.inl ⟨kvs,k,.inl e,rfl,rfl⟩
theorem kx.k {H:Hp}{a:Addr}{kvs:List (cv×V)}{k:cv}{v:V}(e:H a=some (.dK kvs))(hl:kvs.length<sizeLine):kx H a (kV k) v (aD H a (.dK (jV kvs k v))):=.inl ⟨kvs,k,e,rfl,hl,rfl⟩
section
variable {X:Cx}{pins:List (Addr×Obj)}{σ:St}{H:Hp}{s:Shared}{a:Addr}{y v:V}{u r:Value}{o:Option V}{A:Around}{E:Value->Shared->Prop}
theorem az.big (I:az X pins σ H s):sysModules<s.heap.objs.size:=by
 have h:mainGlobals<s.heap.objs.size:=(I.mod.glob.keeps I.bk).lt;exact Nat.lt_trans (by decide) h
theorem rO {Q:Value->Shared->Prop}(hu:A.units+1<cLine)(I:az X pins σ H s)(g:eZ H a y (some v))(ry:aO y u)(h:∀ w' s',az X pins σ H s'->aO v w'->Q w' s') :
  wpAny (model X.prog X.w) A (getItem (.ref a) u) Q E s:=by
 rcases g with ⟨kvs,k,e,ey,l⟩ | ⟨kvs,k,b,e,ey,eb,l⟩
 ·subst ey
  obtain⟨z,hd,vs,rel,dd⟩:=oy I.hok e;obtain⟨w',hw,rw'⟩:=hV.some_of (v:=v) (o:=valueAt vs k) (by rw[l];exact rel.val k);exact wpAny_getItem_of (oB ry) dd.mapOf hw (h w' _ (I.tok _) rw')
 ·subst ey
  cases (show u=Value.ref b from ry);obtain⟨z,hd,xs,rel,dd⟩:=oz I.hok e;obtain⟨w',hw,rw'⟩:=hV.some_of (v:=v) (o:=(atKey xs k).map (·.2)) (by rw[l];exact rel.val k);obtain⟨p,hp,hp2⟩:=Option.map_eq_some_iff.mp hw;refine wpAny_getItem_heap (tupleKind_room_in1 hu) (ly I.hok eb) dd hp ?_;rw[hp2];exact h w' _ (I.tok _) rw'
theorem yI {Q:Value->Shared->Prop}(hu:A.units+1<cLine)(I:az X pins σ H s)(g:eZ H a y o)(ry:aO y u)(h:∀ s',az X pins σ H s'->Q (.bool o.isSome) s') :
  wpAny (model X.prog X.w) A (compareOp .In u (.ref a)) Q E s:=by
 rcases g with ⟨kvs,k,e,ey,l⟩ | ⟨kvs,k,b,e,ey,eb,l⟩
 ·subst ey
  obtain⟨z,hd,vs,rel,dd⟩:=oy I.hok e;refine wpAny_in_of (oB ry) hd dd.mapOf ?_;rw[<-(rel.val k).isSome_eq,<-l];exact h _ (I.tok _)
 ·subst ey
  cases (show u=Value.ref b from ry);obtain⟨z,hd,xs,rel,dd⟩:=oz I.hok e;refine wpAny_in_heap (tupleKind_room_in1 hu) (ly I.hok eb) hd dd ?_;have q:=(rel.val k).isSome_eq;rw[Option.isSome_map]at q;rw[<-q,<-l];exact h _ (I.tok _)
theorem uL {Q:Value->Shared->Prop}(hu:A.units+1<cLine)(I:az X pins σ H s)(g:eZ H a y o)(ry:aO y u)(h:∀ s',az X pins σ H s'->Q (.bool (!o.isSome)) s') :
  wpAny (model X.prog X.w) A (compareOp .NotIn u (.ref a)) Q E s:=by
 rcases g with ⟨kvs,k,e,ey,l⟩ | ⟨kvs,k,b,e,ey,eb,l⟩
 ·subst ey
  obtain⟨z,hd,vs,rel,dd⟩:=oy I.hok e;refine wpAny_notIn_of (oB ry) hd dd.mapOf ?_;rw[<-(rel.val k).isSome_eq,<-l];exact h _ (I.tok _)
 ·subst ey
  cases (show u=Value.ref b from ry);obtain⟨z,hd,xs,rel,dd⟩:=oz I.hok e;refine wpAny_notIn_heap (tupleKind_room_in1 hu) (ly I.hok eb) hd dd ?_;have q:=(rel.val k).isSome_eq;rw[Option.isSome_map]at q;rw[<-q,<-l];exact h _ (I.tok _)
theorem qL {h':Heap}{t':Nat}{ob:HO}(I:az X pins σ H s)(mu:xc (H a))(hs:Heap.SameBut a s.heap h')(he:∃ q,h'.get? a=some q)(new:bv X.prog X.w (aD H a ob) h' a ob) :
  az X pins σ (aD H a ob) { s with heap:=h',toks:=t' } :=
 I.write (x:=a) (e:=a) mu (.inl rfl) (fun b q hb z=>(hs.2 b hb).trans z) he new
theorem wf {P:Program}{w:World}{H':Hp}{h':Heap}{kvs:List (cv×V)}{vs:List (cv×Value)}(z:kvs.length<=sizeLine)(hd:(a == sysModules)=false)(rel:KV kvs vs)(dd:h'.DictOf (bZ P w) a vs) :
  bv P w H' h' a (.dK kvs):=⟨z,hd,vs,rel,dd⟩
theorem rP {H':Hp}{Q:Unit->Shared->Prop}(hu:A.units+1<cLine)(I:az X pins σ H s)(g:kx H a y v H')(ry:aO y u)(rv:aO v r)(h:∀ s',az X pins σ H' s'->Q () s') :
  wpAny (model X.prog X.w) A (setItem (.ref a) u r) Q E s:=by
 rcases g with ⟨kvs,k,e,ey,l,eH⟩ | ⟨kvs,k,b,e,ey,eb,l,eH⟩
 ·subst ey eH
  obtain⟨z,hd,vs,rel,dd⟩:=xj I.hok e
  have hz:vs.length<=sizeLine:=by rw[<-rel.length];exact z
  have hl:(jV kvs k v).length<=sizeLine:=by have:=kj kvs k v;omega
  refine wpAny_setItem_pairs (hsz:=hz) (oB ry) dd fun h' dd' hs=>h _ ?_;have he:∃ q,h'.get? a=some q:=let ⟨q,_,_,hq,_⟩:=dd';⟨q,hq⟩;exact qL I (by rw[e];exact True.intro) hs he (wf hl hd (rel.put k rv) dd')
 ·subst ey eH
  cases (show u=Value.ref b from ry);obtain⟨z,hd,xs,rel,dd⟩:=xm I.hok e
  have hz:xs.length<=sizeLine:=by rw[<-Ao rel];exact z
  have hl:(jV kvs k v).length<=sizeLine:=by have:=kj kvs k v;omega
  refine wpAny_setItem_heap (hsz:=hz) (tupleKind_room_in1 hu) (ly I.hok eb) dd fun h' dd' hs=>h _ ?_;obtain⟨q,es,ep,hq,h2,h3,h4,_,h5⟩:=dd';refine qL I (by rw[e];exact True.intro) hs ⟨q,hq⟩ ⟨hl,hd,_,(rel.put k eb rv).keeps fun c ys ec=>?_,q,es,ep,hq,h2,h3,h4,h5⟩;rw[ap (vB ec e (fun z=>nomatch z))];exact ec
end
def xg (i:Expr):Prop:=∀ ov iv,subscripted i false ov iv=operate [ov,iv] (getItem ov iv)
theorem vi {prog:Program}{w:World}{A:Around}{E:Value->Shared->Prop}{s:Shared}{env:Env}{value slice:Expr}{pos:Pos}{T id:String}{Q:Value->Shared->Prop}
  (hl:typeLookup (.type T) "__getitem__" = pure (some (.builtin id))) (hs:xg slice)
  (h:wpAny (model prog w) A (eval value env) (fun o s₁=>wpAny (model prog w) A (eval slice env) (fun i s₂=>s₂.TypeIs o T/\wpAny (model prog w) A (getItem o i) Q E s₂) E s₁) E s) :
  wpAny (model prog w) A (eval (.Subscript value slice pos) env) Q E s:=by
 refine Subscript_ (AA h (fun o s₁ h₁=>AA h₁ (fun i s₂ h₂=>?_) fun _ _ x=>x) fun _ _ x=>x);obtain⟨hT,h₂⟩:=h₂;unfold subscriptTail;refine z4 ?_;rw[getitemInPython_of_ne hT.not_modules];refine z4 (wpAny_specialOf hT hl ?_)
 have fin:wpAny (model prog w) A (subscripted slice false o i) (fun r s₃=>wpAny (model prog w) A (letTemporaryGo value o r >>= fun _=>pure r) Q E s₃) E s₂:=by
  rw[hs o i];exact wpAny_operating (AA h₂ (fun r s₃ h₃=>z4 (wpAny_letTemporaryGo (Ac h₃))) fun _ _ x=>x)
 first
  | exact Ac (z4 fin)
  | exact z4 (Ac (z4 fin))
  | exact z4 fin
theorem ox {X:Cx}{pins:List (Addr×Obj)}{σ:St}{H:Hp}{s:Shared}{a:Addr}{y:V}{o:Option V}(I:az X pins σ H s)(g:eZ H a y o):s.TypeIs (.ref a) "dict":=by
 rcases g with ⟨kvs,k,e,_,_⟩ | ⟨kvs,k,b,e,_,_,_⟩
 ·obtain⟨_,_,vs,_,dd⟩:=oy I.hok e
  exact dd.typeIs
 ·obtain⟨_,_,xs,_,dd⟩:=oz I.hok e
  exact dd.typeIs
inductive zv (x y:V) (Q:VK) (H:Hp):Prop
 | mk (a:Addr) (v:V) (e:x=.ref a) (g:eZ H a y (some v)) (h:Q v H):zv x y Q H
def xU (td ty:TE):TE:=fun σ H Q=>td σ H fun x H1=>ty σ H1 fun y H2=>zv x y Q H2
def yZ (ty td:TE):TE:=fun σ H Q=>ty σ H fun y H1=>td σ H1 fun x H2=>∃ a o,x=.ref a/\eZ H2 a y o/\Q (.bl o.isSome) H2
def vj (ty td:TE):TE:=fun σ H Q=>ty σ H fun y H1=>td σ H1 fun x H2=>∃ a o,x=.ref a/\eZ H2 a y o/\Q (.bl (!o.isSome)) H2
def xQ (td ty tv:TE):TS:=fun D σ H=>tv σ H fun v H1=>td σ H1 fun x H2=>ty σ H2 fun y H3=>∃ a H4,x=.ref a/\kx H3 a y v H4/\D.nx σ H4
section
variable {X:Cx}{o i e value:Expr}{pos pos' tpos:Pos}{td ty tv:TE}
theorem jq (hu:X.A.units+1<cLine)(ho:PE X o td)(hi:PE X i ty)(hs:xg i):PE X (.Subscript o i pos) (xU td ty):=by
 intro pins s σ H Q I h;refine vi PySem.F.slot_dict_getitem.lookup hs (bf (ho pins s σ H _ I h) fun u s1 ⟨x,H1,I1,rx,q1⟩=>bf (hi pins s1 σ H1 _ I1 q1) fun iv s2 ⟨y,H2,I2,ry,a,v,ex,g,q2⟩=>?_);subst ex;obtain rfl:u=Value.ref a:=rx;exact⟨ox I2 g,rO hu I2 g ry fun w' s3 I3 rw'=>⟨v,H2,I3,rw',q2⟩⟩
theorem tN (hu:X.A.units+1<cLine)(hi:PE X i ty)(ho:PE X o td):PC X .In i o (yZ ty td):=by
 intro pins s σ H Q I h;refine bf (hi pins s σ H _ I h) fun iv s1 ⟨y,H1,I1,ry,q1⟩=>bf (ho pins s1 σ H1 _ I1 q1) fun u s2 ⟨x,H2,I2,rx,a,ov,ex,g,q2⟩=>?_;subst ex;obtain rfl:u=Value.ref a:=rx;exact yI hu I2 g ry fun s3 I3=>⟨.bl ov.isSome,H2,I3,rfl,q2⟩
theorem sr (hu:X.A.units+1<cLine)(hi:PE X i ty)(ho:PE X o td):PC X .NotIn i o (vj ty td):=by
 intro pins s σ H Q I h;refine bf (hi pins s σ H _ I h) fun iv s1 ⟨y,H1,I1,ry,q1⟩=>bf (ho pins s1 σ H1 _ I1 q1) fun u s2 ⟨x,H2,I2,rx,a,ov,ex,g,q2⟩=>?_;subst ex;obtain rfl:u=Value.ref a:=rx;exact uL hu I2 g ry fun s3 I3=>⟨.bl (!ov.isSome),H2,I3,rfl,q2⟩
theorem kN (hu:X.A.units+1<cLine)(ho:PE X o td)(hi:PE X i ty)(hv:PE X value tv)(hs:swapsWith value (some (.Subscript o i pos')) pos.line X.env=pure false) :
  PS X (.Assign [.Subscript o i pos'] value pos) (xQ td ty tv):=by
 intro pins s σ H D I h;refine wpAny_Assign_Subscript (bf (hv pins s σ H _ I h) fun r s1 ⟨v,H1,I1,rv,q1⟩=>bf (ho pins s1 σ H1 _ I1 q1) fun u s2 ⟨x,H2,I2,rx,q2⟩=>bf (hi pins s2 σ H2 _ I2 q2) fun iv s3 ⟨y,H3,I3,ry,a,H4,ex,g,q3⟩=>?_) hs;subst ex;obtain rfl:u=Value.ref a:=rx;exact rP hu I3 g ry rv fun s4 I4=>⟨σ,H4,I4,q3⟩
end
theorem sR {P:Program}{w:World}{H:Hp}(h:Heap)(hb:sysModules<h.objs.size):bv P w H (h.push { cls:=.type "dict",data:=.dict #[] }) h.objs.size (.dK []) :=
 ⟨Au _,BH.mpr (AK (Al hb)),[],.nil,Heap.DictOf.new h⟩
def wM:TE:=fun _ H Q=>∀ p,H p=none->Q (.ref p) (aD H p (.dK []))
section
variable {X:Cx}{pos:Pos}
theorem jr:PE X (.Dict [] [] pos) wM:=fun pins s σ H Q I h =>
 wpAny_Dict_empty ⟨.ref s.heap.objs.size,_,I.laid (a:=s.heap.objs.size) (o:=.dK []) (t':=s.toks) (fun _ _ q=>Heap.get?_push_of_some _ q) (Ad _) (sR s.heap I.big),rfl,h _ (I.hok.fresh (Ad _))⟩
end
end L2
namespace Att
open PySem PySem.W PySem.Calls PyProof.Rows
theorem kz {P:Params}{h:Heap}:∀ (ns:List Int)(vs:List Value),WellAll P h vs (ns.map WData.int)->IntsAre vs ns:=by
 intro ns
 induction ns with
 | nil =>
  intro vs w;rw[List.map_nil]at w;cases w;exact .nil
 | cons n ns ih =>
  intro vs w;rw[Az]at w
  cases w with
  | cons a b =>
   cases a;exact .cons _ _ (ih _ b)
theorem sx {l:OpenLaw}{n:Nat}(hn:l.most=some n){P:Params}{h:Heap}{args:List WData}{vals:List Value}
  (hpre:l.row.toRowW.claim.pre args=true) (hwl:WellAll P h vals args) :
  ∃ a vs ns,vals=[Value.ref a]/\args=[WData.list (ns.map WData.int)]/\h.get? a=some { cls:=.type "list",data:=.seq vs.toArray }/\IntsAre vs ns/\ns.length<=n:=by
 have hsh:WShape.hasAll [] args [.list .int]=true:=(pre_splitW hpre).1;have hc:l.pre.holds [] { args:=args }=true:=(pre_splitW hpre).2;obtain⟨d,r,rfl,h1,h2⟩:=hasAllW_cons hsh;obtain rfl:=hasAllW_nil h2;obtain⟨xs,rfl,h3⟩:=hasW_list h1;obtain⟨ns,rfl⟩:=items_int h3
 have hlen:ns.length<=n:=by
  unfold OpenLaw.pre at hc
  have h4:(WTm.not (.lt (.lit (.int (n:Int))) (.len (.arg 0)))).holds [] { args:=[.list (ns.map .int)] }=true:=by
   have h4:=(holds_andW hc).1;rw[hn]at h4;exact h4
  have h5:=condW_of h4 (w_not (w_lt w_lit (w_len_list (w_arg rfl))));rw[z9]at h5;refine Nat.le_of_not_lt fun q=>?_
  have q':(n:Int)<((ns.length:Nat):Int):=by omega
  first
   | (rw[Af q']at h5;exact absurd h5 (by decide))
   | (simp at h5;omega)
 cases hwl with
 | cons w1 w2 =>
  cases w2
  cases w1 with
  | list ho hall=>exact⟨_,_,ns,rfl,rfl,ho,kz ns _ hall,hlen⟩
theorem sv (l:OpenLaw)(args:List WData):l.row.toRowW.claim.post args (.bool true) args=true :=
 postW_of (r:=l.row.toRowW) (X:=(true == true))
  (show WShape.has [] (.bool true) .bool=true by first | rfl | decide | simp[WShape.has,WShape.arms,WShape.armsAll])
  (show (WTm.eq .res (.lit (.bool true))).value [] { args:=args,res:=some (.bool true),after:=args }=some (.bool (true == true)) from w_eq_bool (w_res rfl) w_lit) rfl
theorem attach_call {l:OpenLaw}{n:Nat}{q:Program}{loose:List Str}{XP:(Str->Option Value)->Heap->Prop}{YP:World->Heap->Prop}{d:DefRec}
  (hn:l.most=some n) (hdf:d.params.defaults=[])
  (call:∀ (w:World)(s₀ s₁:Shared)(mg mb:Str->Option Value)(fa:Addr)(o:Obj)(pm cd doc:Value)(a:Addr)(vs:List Value)(ns:List Int),
   Ground q loose [] XP w s₀ mg mb s₁.heap->YP w s₁.heap ->
   s₁.heap.get? fa=some o->o.data=.func (docDef d.name d.params d.body d.scope pm cd doc)->s₁.heap.CodeRec cd d.name->mg d.name=some (.ref fa) ->
   s₁.heap.get? a=some { cls:=.type "list",data:=.seq vs.toArray }->IntsAre vs ns->ns.length<=n->s₁.gens = #[] ->
   codeAny (model l.prog w) callerA (.call (.ref fa) ⟨[.ref a],[]⟩) (fun r s'=>r=.ok (.ret (.bool true))/\OldK s₁.heap s'.heap/\s'.os=s₁.os/\AllBare s'.gens) s₁) :
  WalkO q loose XP YP l.row.toRowW d [] (fun f vs=>PySem.call f vs):=by
 intro w s₀ s₁ mg mb G Y fa o pm cd doc dV kV ho hd hcd hD hmg hg args vals as hpre hlay hrd hwl hlo;obtain rfl:dV=.none:=Dflts.none hD hdf;obtain rfl:kV=.none:=Dflts.noKw hD;obtain⟨a,vs,ns,rfl,rfl,hobj,hints,hlen⟩:=sx hn hpre hwl;refine enter_call (BS (call w s₀ s₁ mg mb fa o pm cd doc a vs ns G Y ho (fd_plain hd) hcd hmg hobj hints hlen hg) fun r s' hq=>?_);obtain⟨rfl,h2,h3,h4⟩:=hq;exact⟨.inl ⟨.bool true,.bool true,[],rfl,fun _=>rfl,.bool true,sv l _,fun _=>⟨List.Pairwise.nil,fun _ hm=>(nomatch hm)⟩⟩,h2,h3,h4⟩
section
variable {prog:Program}{w:World}{A:Around}{E:Value->Shared->Prop}{s:Shared}{K:Frag}
def yQ (h:Heap):Heap:={ h with objs:=#[] }
def yP (h:Heap)(L d:Addr):List (Addr×Obj):=(List.range h.objs.size).filterMap fun a=>if a=L\/a=d then none else (h.get? a).map fun o=>(a,o)
end
end Att
namespace L2
open PySem PySem.Spec PyProof.Rows
theorem m5:∀ {vs:List Value}{ns:List Int},IntsAre vs ns->Vals (ns.map V.int) vs
 | _,_,.nil=>.nil
 | _,_,.cons n t h=>.cons ⟨t,rfl⟩ (m5 h)
def vX (H:Hp):Prop:=∀ b,H b=none\/∃ o xs,H b=some (.frz o (.lst xs))
theorem tq {P:Program}{w:World}{K:PySem.W.Frag}{mg mb:Str->Option Value}{CX:pJ}{k:Nat}{fa a:Addr}{fd:FuncData}{x:Str}{sp:Sp}{s₁:Shared}{vs:List Value}{ns:List Int}
  (KX:K.In s₁.heap) (hns:s₁.heap.Ns mainGlobals mg) (hb:s₁.heap.Ns builtinsNs mb) (hbb:∀ x:Str,x≠"__name__"->mb x=bootBuiltins x) (hlim:s₁.heap.NoLimit) (hg:s₁.gens = #[])
  (ha:s₁.heap.get? a=some { cls:=.type "list",data:=.seq vs.toArray }) (hi:IntsAre vs ns) (hl:ns.length<=sizeLine) (hr:cw k callerA)
  (F:∀ base:Heap,K.In base->base.Ns mainGlobals mg->bp P w K mg base CX k fa fd [x] sp) (hbind:∀ (s:Shared)(u:Value),BindsTo s fd ⟨[u],[]⟩ [(x,u)])
  (hsp:∀ H:Hp,vX H->aR K H a (ns.map V.int)->sp [.ref a] H (fun v _=>v=.bl true) fun _ _ _=>False)
  (hCX:∀ H e s',CX [] H s₁ (fun _ _ _=>False) e s'->False) :
  codeAny (model P w) callerA (.call (.ref fa) ⟨[.ref a],[]⟩) (fun r s'=>r=.ok (.ret (.bool true))/\OldK s₁.heap s'.heap/\s'.os=s₁.os/\AllBare s'.gens) s₁:=by
 have rv:=m5 hi;have lenV:=hi.length
 have core:∀ H:Hp,vX H->aR K H a (ns.map V.int)->f8 P w H s₁.heap->(∀ b,H b≠none->b=a)->(H a≠none->K.lookup a=none) ->
   codeAny (model P w) callerA (.call (.ref fa) ⟨[.ref a],[]⟩) (fun r s'=>r=.ok (.ret (.bool true))/\OldK s₁.heap s'.heap/\s'.os=s₁.os/\AllBare s'.gens) s₁:=by
  intro H hO hS hok hA hK;have base_of:∀ {b:Addr}{o:Obj},s₁.heap.get? b=some o->H b=none->(m9 s₁.heap H).get? b=some o:=fun e n=>tf e n
  have noA:∀ {b:Addr}{o:Obj}{es:Array DictEntry}{ep:Nat},s₁.heap.get? b=some o->o.data=.dict es ep->H b=none:=fun {b o es ep} e d=>by
   cases q:H b with
   | none=>rfl
   | some u =>
    have e':b=a:=hA b (by rw[q];simp);subst e';rw[ha]at e;cases e;have d':Data.seq vs.toArray _=Data.dict es ep:=d;cases d'
  have nsK:∀ {b:Addr}{m:Str->Option Value},s₁.heap.Ns b m->(m9 s₁.heap H).Ns b m:=fun {b m} ⟨o,es,ep,e,d,r⟩=>⟨o,es,ep,base_of e (noA e d),d,r⟩
  have hKb:K.In (m9 s₁.heap H):=fun b o e=>base_of (KX b o e) (by
   cases q:H b with
   | none=>rfl
   | some u =>
    have e':b=a:=hA b (by rw[q];simp);subst e'
    rw[hK (by rw[q];simp)]at e;cases e)
  have hM:Mod K mg (m9 s₁.heap H):=⟨hKb,nsK hns,⟨mb,nsK hb,hbb⟩,let ⟨mc,h1,h2⟩:=hlim;⟨mc,nsK h1,h2⟩⟩;have e0:pL P w K mg (m9 s₁.heap H) callerA [] s₁ H:=⟨rfl,hM,fun b o e=>u4 e,Nat.le_of_eq (rR _ _),trivial,fun b hb=>absurd (show b∈([]:List Addr) from hb) (by simp),hok,.of_eq hg⟩;refine BS ((F _ hKb (nsK hns)).run callerA [] s₁ H ⟨[.ref a],[]⟩ [.ref a] [.ref a] _ _ hr e0 (hbind s₁ (.ref a)) (.cons rfl .nil) (hsp H hO hS)) fun r s' h=>?_
  cases r with
  | error e=>exact (hCX H e s' h).elim
  | ok fl =>
   cases fl with
   | next=>exact False.elim h
   | brk=>exact False.elim h
   | cont=>exact False.elim h
   | ret u =>
    obtain⟨v,H',os,bare,un,hok',r',q⟩:=h;have q':v=.bl true:=q;subst q';obtain rfl:u=Value.bool true:=r';refine⟨rfl,OldK.of_keep fun b o e=>?_,os,bare⟩
    cases q:H b with
    | none=>exact un.keep b o e q (by intro z;exact absurd (show b∈([]:List Addr) from z) (by simp)) (by simp)
    | some u =>
     rcases hO b with z | ⟨ob,xs,z⟩
     ·rw[q]at z;cases z
     ·have z2:=un.frzs b ob _ z
      obtain⟨e1,_⟩:=hok b _ z;obtain⟨e2,_⟩:=hok' b _ z2;rw[e]at e1;cases e1;exact e2
 cases hk:K.lookup a with
 | some o =>
  have e:=KX a o hk;rw[ha]at e;cases e;refine core (fun _=>none) (fun _=>.inl rfl) (.inr ⟨_,vs.toArray,_,hk,rfl,rfl,rfl,by rw[Aj,lenV];exact hl,by simpa using rv⟩) (fun b u z=>by have z':(none:Option HO)=some u:=z;cases z') (fun b z=>absurd rfl z) fun z=>absurd rfl z
 | none =>
  refine core (fun b=>if b=a then some (.frz { cls:=.type "list",data:=.seq vs.toArray } (.lst (ns.map V.int))) else none) (fun b=>?_) (.inl (.inr ⟨{ cls:=.type "list",data:=.seq vs.toArray },Ai rfl⟩)) (fun b u z=>?_) (fun b z=>?_) fun _=>hk
  ·by_cases hb:b=a
   ·exact .inr ⟨_,_,Ai hb⟩
   ·exact .inl (Ag hb)
  ·by_cases hb:b=a
   ·have z':=(Ai hb).symm.trans z
    cases z';subst hb;exact⟨ha,by rw[z9];exact hl,vs,_,rv,ha⟩
   ·have z':=(Ag hb).symm.trans z
    cases z'
  ·by_cases hb:b=a
   ·exact hb
   ·exact absurd (Ag hb) z
theorem walk_of {l:PySem.W.OpenLaw}{n k:Nat}{q:Program}{loose:List Str}{XP:(Str->Option Value)->Heap->Prop}{YP:World->Heap->Prop}{d:DefRec}{K:Params->PySem.W.Frag}{CX:World->pJ}{sp:World->Sp}{x:Str}
  (hn:l.most=some n) (hn2:n<=sizeLine) (hdf:d.params.defaults=[]) (hr:cw k callerA)
  (hY:∀ (w:World)(h:Heap),YP w h->(K w.params).In h)
  (F:∀ (w:World)(mg:Str->Option Value)(fa:Addr)(h:Heap),(K w.params).In h->h.Ns mainGlobals mg->mg d.name=some (.ref fa) ->
   ∃ fd:FuncData,(∀ (s:Shared)(u:Value),BindsTo s fd ⟨[u],[]⟩ [(x,u)]) /\
    ∀ base:Heap,(K w.params).In base->base.Ns mainGlobals mg->bp l.prog w (K w.params) mg base (CX w) k fa fd [x] (sp w))
  (hsp:∀ (w:World)(H:Hp)(a:Addr)(ns:List Int),ns.length<=n->vX H->aR (K w.params) H a (ns.map V.int)->sp w [.ref a] H (fun v _=>v=.bl true) fun _ _ _=>False)
  (hCX:∀ (w:World)(H:Hp)(s:Shared)(e:Value)(s':Shared),CX w [] H s (fun _ _ _=>False) e s'->False) :
  PySem.W.WalkO q loose XP YP l.row.toRowW d [] (fun f vs=>PySem.call f vs):=by
 refine Att.attach_call hn hdf fun w s₀ s₁ mg mb fa o pm cd doc a vs ns G Y ho hd hcd hmg hobj hints hlen hg=>?_;have KX:=hY w _ Y;obtain⟨fd,hb,hF⟩:=F w mg fa _ KX G.T.g hmg;exact tq KX G.T.g G.T.b G.T.builtins G.T.nolimit hg hobj hints (AX hlen hn2) hr hF hb (fun H hO hS=>hsp w H a ns hlen hO hS) fun H e s'=>hCX w H s₁ e s'
def eP (s:Stmt)(j:Nat):Stmt:=match s with
 | .ClassDef _ _ _ body _ _ _ _ _ _ _=>body.getD j (.Pass ⟨0,0,0,0⟩)
 | _=>.Pass ⟨0,0,0,0⟩
def dO (s:Stmt):Arguments:=match s with
 | .FunctionDef _ a _ _ _ _ _ _ _ _=>a
 | _=>{ posonlyargs:=[],args:=[],vararg:=none,kwonlyargs:=[],kw_defaults:=[],kwarg:=none,defaults:=[] }
def c6 (s:Stmt):List Stmt:=match s with
 | .FunctionDef _ _ b _ _ _ _ _ _ _=>b
 | _=>[]
def ah (s:Stmt):Scope:=match s with
 | .FunctionDef _ _ _ _ _ _ sc _ _ _=>sc
 | _=>{ kind:=.function,names:=[],isGenerator:=false,isCoroutine:=false }
abbrev dq:pJ:=fun _ _ _ _ _ _=>False
abbrev E0:XK:=fun _ _ _=>False
theorem fX {X:Cx}:dC dq X E0:=fun _ _ _ _ _ _ _ h=>h.elim
structure dM (K:PySem.W.Frag)(x qual:Str)(st:Stmt)(f:Addr)(fd:FuncData):Prop where
 ex:∃ (oc:Value)(od:Option Addr)(kV doc pm:Value)(an:Option Addr)(cdv ct:Value)(osl:Array (Option Value)),
  fd=PySem.W.fnOf x qual (dO st) (c6 st) (ah st) .none kV doc pm an cdv ct/\K.lookup f=some ⟨oc,od,.func fd,osl⟩/\PySem.W.codeIn K cdv qual=true
 kp:PySem.W.keepIn K (.ref f)=true
section
variable {P:Program}{w:World}{K:PySem.W.Frag}{mg:Str->Option Value}{base:Heap}
theorem dM.ok {x qual:Str}{st:Stmt}{f:Addr}{fd:FuncData}{N ps:List Str}{k:Nat}{sp:Sp}(F:dM K x qual st f fd)(S:aE N ps (ah st))(len:∀ vs H Q E,sp vs H Q E->vs.length=ps.length)
  (hbody:∀ (cdv:Value)(A:Around)(outer:List Env)(s:Shared)(H:Hp)(vs:List V)(Q:VK)(E:XK),cw k (A.deeper (envOfC qual (ah st) s.heap.objs.size f cdv))->sp vs H Q E ->
   ∃ t,pO (lh dq P w K mg base N qual (ah st) f cdv A outer s H E).nox (c6 st) t/\t { nx:=fun _ H'=>Q .non H',rt:=Q } (jB N vs) H):bp P w K mg base dq (k+1) f fd ps sp:=by
 obtain⟨oc,od,kV,doc,pm,an,cdv,ct,osl,rfl,lk,hcd⟩:=F.ex;refine vz lk hcd S len fun A outer s H vs Q E hr hsp=>?_;obtain⟨t,h,q⟩:=hbody cdv A outer s H vs Q E hr hsp;exact⟨t,h.nox,q⟩
theorem dM.binds {x qual:Str}{st:Stmt}{f:Addr}{fd:FuncData}{ps:List Str}(F:dM K x qual st f fd)
  (h:∀ (kV doc pm:Value)(an:Option Addr)(cdv ct:Value)(us:List Value),us.length=ps.length->bindArgs (PySem.W.fnOf x qual (dO st) (c6 st) (ah st) .none kV doc pm an cdv ct) ⟨us,[]⟩=pure (ps.zip us)):fk K fd ps []:=by
 obtain⟨oc,od,kV,doc,pm,an,cdv,ct,osl,rfl,lk,hcd⟩:=F.ex;exact .all (h kV doc pm an cdv ct)
theorem sY {x qual:Str}{st:Stmt}{f:Addr}{oc:Value}{od an:Option Addr}{osl:Array (Option Value)}{kV doc pm cdv ct:Value}(l:K.lookup f=some ⟨oc,od,.func (PySem.W.fnOf x qual (dO st) (c6 st) (ah st) .none kV doc pm an cdv ct),osl⟩)
  (c:PySem.W.codeIn K cdv qual=true) (k:PySem.W.keepIn K (.ref f)=true):dM K x qual st f (PySem.W.fnOf x qual (dO st) (c6 st) (ah st) .none kV doc pm an cdv ct):=⟨⟨oc,od,kV,doc,pm,an,cdv,ct,osl,rfl,l,c⟩,k⟩
end
theorem ja {A:Around}{k:Nat}(hr:cw k A):A.units+1<cLine:=Nat.lt_of_le_of_lt (Nat.add_le_add_left (by decide:1<=64) _) hr.units
theorem cg {n:Nat}(h:n<=1000):n<sizeLine:=Nat.lt_of_le_of_lt h (by decide)
section
variable {X:Cx}
theorem pv (i:Nat){x:Str}{pos:Pos}(hN:X.N[i]? = some x:=by rfl)(hv:yE X.env.scope x:=by first | exact Or.inl rfl | exact Or.inr (Or.inl rfl) | exact Or.inr (Or.inr rfl))(hd:(x == ("__debug__" : Str))=false:=by decide)
  (hcd:(x == ("__classdict__" : Str))=false:=by decide):PE X (.Name x pos) (yb i):=wF hN hv hd hcd
end
theorem aC {A B:Prop}(h:B):if false=true then A else B:=by
 rw[Ag Ae];exact h
theorem aW {A B:Prop}(h:A):if true=true then A else B:=by
 rw[Ai rfl];exact h
theorem yN {c A B:Prop} [Decidable c] (h1:c->A)(h2:¬ c->B):if c then A else B:=by
 by_cases h:c
 ·rw[Ai h]
  exact h1 h
 ·rw[Ag h]
  exact h2 h
def av (H H':Hp):Prop:=∀ b o,H b=some o->H' b=some o
theorem av.refl (H:Hp):av H H:=fun _ _ h=>h
theorem av.trans {H H1 H2:Hp}(a:av H H1)(b:av H1 H2):av H H2:=fun c o h=>b c o (a c o h)
theorem av.free {H H':Hp}(e:av H H'){l:Addr}(h:H' l=Option.none):H l=Option.none:=by
 cases q:H l with
 | none=>rfl
 | some o =>
  rw[e l o q]at h;cases h
theorem av.seq {K:PySem.W.Frag}{H H':Hp}{a:Addr}{xs:List V}(e:av H H')(h:aR K H a xs):aR K H' a xs:=by
 rcases h with (h | ⟨o,h⟩) | h
 ·exact .inl (.inl (e _ _ h))
 ·exact .inl (.inr ⟨o,e _ _ h⟩)
 ·exact .inr h
end L2
set_option maxHeartbeats 4000000
namespace L2
open PySem PySem.Spec PyProof.Rows
structure oj (so sc:Scope)(N N':List Str)(src:List (Option Nat)):Prop where
 kind:sc.kind=.function
 nocell:∀ y∈sc.names,y.2≠.cell
 loc:∀ y∈sc.names,y.2=.local->sc.names.lookup y.1=some .local
 fre:∀ y∈sc.names,y.2=.free->so.names.lookup y.1=some .cell\/so.names.lookup y.1=some .free
 nd:N'.Nodup
 len:src.length=N'.length
 cap:∀ p∈N'.zip src,(match p.2 with | none=>true | some j=>decide (N[j]? = some p.1/\sc.names.lookup p.1=some .free))=true
def gp (src:List (Option Nat))(σ:St):St:=src.map fun o=>o.bind fun j=>(σ[j]?).join
def cM (X:Cx)(sc:Scope)(cl:List (Str×Addr))(C:Addr)(N':List Str)(s:Shared)(H:Hp)(ex:List Addr):Cx where
 prog:=X.prog
 w:=X.w
 K:=X.K
 mg:=X.mg
 base:=X.base
 A:=X.A
 N:=N'
 s₀:=s
 H₀:=H
 env:=compEnvC sc cl C X.env
 outer:=X.stack
 stack:=X.stack
 ex:=ex
 fn:=fun _=>false
 calm:=X.calm
 pn:=[]
 xe:=fun _ _=>False
theorem fD {env:Env}:∀ (names:List (Str×NameKind))(cs:List (Str×Addr)),(∀ y∈names,y.2=.free->∃ c,env.cells.lookup y.1=some c) ->
  (∀ x c,cs.lookup x=some c->env.cells.lookup x=some c) ->
  ∃ cl:List (Str×Addr),(forIn names cs fun x r=>if (x.2 == NameKind.free)=true then (do let a <-cellOf env x.1;pure (ForInStep.yield ((x.1,a)::r))) else pure (ForInStep.yield r):Sem (List (Str×Addr)))=pure cl /\
   (∀ x c,cl.lookup x=some c->env.cells.lookup x=some c)/\(∀ x,(∃ c,cs.lookup x=some c)->∃ c,cl.lookup x=some c)/\∀ y∈names,y.2=.free->∃ c,cl.lookup y.1=some c
 | [],cs,_,h2=>⟨cs,by rw[List.forIn_nil],h2,fun _ h=>h,fun _ h=>nomatch h⟩
 | (n,k)::r,cs,h1,h2=>by
  by_cases hk:k=.free
  ·subst hk
   obtain⟨c,hc⟩:=h1 (n,.free) Am rfl
   have h2':∀ x d,((n,c)::cs).lookup x=some d->env.cells.lookup x=some d:=fun x d e=>by
    rw[A4]at e;split at e
    ·rename_i hx
     cases e
     have:x=n:=by simpa using hx
     rw[this];exact hc
    ·exact h2 x d e
   obtain⟨cl,e,q1,q2,q3⟩:=fD r ((n,c)::cs) (fun y hy=>h1 y (Ak _ hy)) h2';have has:∃ d,((n,c)::cs).lookup n=some d:=⟨c,by simp⟩;refine⟨cl,?_,q1,fun x ⟨d,hd⟩=>q2 x ?_,fun y hy hf=>?_⟩
   ·rw[List.forIn_cons,<-e]
    simp[cellOf,hc]
   ·rw[A4]
    split
    ·exact⟨_,rfl⟩
    ·exact⟨d,hd⟩
   ·rcases Aq.mp hy with rfl | hy
    ·exact q2 _ has
    ·exact q3 y hy hf
  ·obtain⟨cl,e,q1,q2,q3⟩:=fD r cs (fun y hy=>h1 y (Ak _ hy)) h2
   have hb:(k == NameKind.free)=false:=by simpa using hk
   refine⟨cl,?_,q1,q2,fun y hy hf=>?_⟩
   ·rw[List.forIn_cons,<-e]
    simp[hb]
   ·rcases Aq.mp hy with rfl | hy
    ·exact absurd hf hk
    ·exact q3 y hy hf
theorem iF {sc:Scope}{env:Env}(h:∀ y∈sc.names,y.2=.free->∃ c,env.cells.lookup y.1=some c) :
  ∃ cl:List (Str×Addr),closureFor sc env=pure cl/\(∀ x c,cl.lookup x=some c->env.cells.lookup x=some c)/\∀ y∈sc.names,y.2=.free->∃ c,cl.lookup y.1=some c:=by
 obtain⟨cl,e,q1,_,q3⟩:=fD sc.names [] h (fun x c z=>by simp at z);refine⟨cl,?_,q1,q3⟩;unfold closureFor
 show (forIn sc.names [] _ >>= fun cs=>pure cs)=_
 refine Eq.trans (A3 (fun t=>t >>= fun cs=>pure cs) (Eq.trans ?_ e)) (by simp)
 congr 1
theorem ju {env:Env}:∀ {names:List (Str×NameKind)}{x:Str},(∀ y∈names,y.2≠.cell) ->
  ((names.map fun (n,k)=>if (k == NameKind.free&&env.scope.kind == .function&&env.kindOf n == some .cell) then (n,NameKind.cell) else (n,k)).lookup x=some .cell \/
    (names.map fun (n,k)=>if (k == NameKind.free&&env.scope.kind == .function&&env.kindOf n == some .cell) then (n,NameKind.cell) else (n,k)).lookup x=some .free)->(x,NameKind.free)∈names
 | [],_,_,h=>by simp at h
 | (n,k)::r,x,hc,h=>by
  have ih:=@ju env r x (fun y hy=>hc y (Ak _ hy));have h:List.lookup x ((if (k == NameKind.free&&env.scope.kind == .function&&env.kindOf n == some .cell)=true then (n,NameKind.cell) else (n,k))::_)=some .cell\/List.lookup x ((if (k == NameKind.free&&env.scope.kind == .function&&env.kindOf n == some .cell)=true then (n,NameKind.cell) else (n,k))::_)=some .free:=h
  by_cases hb:(k == NameKind.free&&env.scope.kind == .function&&env.kindOf n == some .cell)=true
  ·rw[Ai hb]at h
   cases hx:x == n with
   | true =>
    have e:x=n:=by simpa using hx
    subst e
    have:k=NameKind.free:=by
     simp only[Bc,beq_iff_eq]at hb;exact hb.1.1
    subst this;exact Am
   | false =>
    simp only[A4,hx]at h;exact Ak _ (ih h)
  ·rw[Ag hb]at h
   cases hx:x == n with
   | true =>
    have e:x=n:=by simpa using hx
    subst e;have hk:=hc (x,k) Am;simp only[A4,beq_self_eq_true,Option.some.injEq]at h;rcases h with h | h
    ·exact absurd h hk
    ·subst h;exact Am
   | false =>
    simp only[A4,hx]at h;exact Ak _ (ih h)
theorem iw {env:Env}:∀ {names:List (Str×NameKind)}{x:Str},names.lookup x=some .free ->
  ((names.map fun (n,k)=>if (k == NameKind.free&&env.scope.kind == .function&&env.kindOf n == some .cell) then (n,NameKind.cell) else (n,k)).lookup x=some .cell \/
    (names.map fun (n,k)=>if (k == NameKind.free&&env.scope.kind == .function&&env.kindOf n == some .cell) then (n,NameKind.cell) else (n,k)).lookup x=some .free)
 | [],_,h=>by simp at h
 | (n,k)::r,x,h=>by
  have ih:=@iw env r x
  show List.lookup x ((if (k == NameKind.free&&env.scope.kind == .function&&env.kindOf n == some .cell)=true then (n,NameKind.cell) else (n,k))::_)=some .cell\/List.lookup x ((if (k == NameKind.free&&env.scope.kind == .function&&env.kindOf n == some .cell)=true then (n,NameKind.cell) else (n,k))::_)=some .free
  cases hx:x == n with
  | true =>
   simp only[A4,hx,Option.some.injEq]at h;subst h
   by_cases hb:(NameKind.free == NameKind.free&&env.scope.kind == .function&&env.kindOf n == some .cell)=true
   ·rw[Ai hb];left;simp only[A4,hx]
   ·rw[Ag hb];right;simp only[A4,hx]
  | false =>
   simp only[A4,hx]at h
   by_cases hb:(k == NameKind.free&&env.scope.kind == .function&&env.kindOf n == some .cell)=true
   ·rw[Ai hb];simp only[A4,hx];exact ih h
   ·rw[Ag hb];simp only[A4,hx];exact ih h
theorem dy {prog:Program}{w:World}{A:Around}{R:Result->Shared->Prop}{s:Shared}{elt target iter:Expr}{ifs:List Expr}{scope:Scope}{pos:Pos}{it acc:Value}{env:Env}(I:Nat->Shared->Prop)
  (turn:∀ n s,I n s->wpAny (model prog w) A (pyNext it) (fun r s₁=>match r with
   | none=>R (.ok .next) s₁
   | some v=>wpAny (model prog w) A (letOwnedTupleGo target it v) (fun _ s₁'=>wpAny (model prog w) A (assign target env v) (fun _ s₂ =>
     wpAny (model prog w) A (forIn ifs true fun c r=>if r=true then do let ok <-isTrue c env (eval c env);pure (ForInStep.yield ok) else pure (ForInStep.yield r)) (fun ok s₃ =>
      if ok=true then wpAny (model prog w) A (eval elt env) (fun x s₄ =>
       wpAny (model prog w) A (call (.builtin "list.append") [acc,x]) (fun _ s₅=>∃ m,m<n/\I m s₅) (fun _ _=>False) s₄) (fun _ _=>False) s₃
      else ∃ m,m<n/\I m s₃) (fun _ _=>False) s₂) (fun _ _=>False) s₁') (fun _ _=>False) s₁) (fun _ _=>False) s)
  (n:Nat) (h:I n s) :
  codeAny (model prog w) A (.compLoop (.ListComp elt [⟨target,iter,ifs,0⟩] scope pos) 0 it acc env) R s:=by
 refine codeAny_loop rfl I (fun n s hI=>?_) n h
 show wpAny _ A ((compTurn (.ListComp elt [⟨target,iter,ifs,0⟩] scope pos) 0 it acc env).onRaise (fun x=>do noteFrame x env;theTreesLotGoes x)) _ _ s
 refine wpAny_noted ?_;rw[compTurn_list];refine z4 (BJ (z4 (AA (turn n s hI) (fun r s₁ h₁=>?_) fun _ _ h'=>h'.elim)))
 cases r with
 | none=>exact Ac h₁
 | some v =>
  refine z4 (AA h₁ (fun _ s₁' h₁'=>?_) fun _ _ h'=>h'.elim);refine z4 (AA h₁' (fun _ s₂ h₂=>z4 (AA h₂ (fun ok s₃ h₃=>?_) fun _ _ h'=>h'.elim)) fun _ _ h'=>h'.elim)
  cases ok with
  | false=>exact Ac ⟨rfl,h₃⟩
  | true =>
   exact z4 (z4 (AA h₃ (fun x s₄ h₄=>z4 (AA h₄ (fun _ s₅ h₅=>Ac (Ac ⟨rfl,h₅⟩)) fun _ _ h'=>h'.elim)) fun _ _ h'=>h'.elim))
def wV (X:Cx)(ifs:List Expr)(t:TT):Prop :=
 ∀ (pins:List (Addr×Obj))(s:Shared)(σ:St)(H:Hp)(Q:Bool->Hp->Prop),az X pins σ H s->t σ H Q ->
  wpAny (model X.prog X.w) X.A (forIn ifs true fun c r=>if r=true then do let ok <-isTrue c X.env (eval c X.env);pure (ForInStep.yield ok) else pure (ForInStep.yield r)) (TP X pins σ Q) X.xe s
def mG:TT:=fun _ H Q=>Q true H
theorem bE {X:Cx}:wV X [] mG:=fun pins s σ H Q I h=>wpAny_tests_nil ⟨H,I,h⟩
def sG (tt:TT)(te:TE)(a:Addr):TS:=fun D σ H=>tt σ H fun b H1=>if b=true then te σ H1 fun y H2=>∃ ys,H2 a=some (.lst ys)/\ys.length<sizeLine/\D.nx σ (aD H2 a (.lst (ys++[y]))) else D.nx σ H1
def gg (J:It)(g:TG)(tb:TS)(D:hJ)(σ:St)(H:Hp):Prop:=∃ W:Nat->Nat->St->Hp->Prop,(∃ m,W 0 m σ H)/\∀ i m σ H,W i m σ H ->
 (J.stop i H/\D.nx σ H)\/(J.go i H/\∃ N:St->Hp->Prop,(∀ σ' H',N σ' H'->∃ m',m'<m/\W (i+1) m' σ' H')/\∀ x H',J.yld i H x H'->g x σ H' fun σ2 H2=>tb { D with nx:=N,ct:=N,bk:=D.nx } σ2 H2)
def xT (wi:TI)(g:TG)(tt:TT)(te:TE)(src:List (Option Nat)):TE:=fun σ H Q=>wi σ H fun J H1=>∀ a,H1 a=none ->
 gg J g (sG tt te a) { nx:=fun _ H'=>Q (.ref a) H',rt:=fun _ _=>False } (gp src σ) (aD H1 a (.lst []))
theorem lv {X:Cx}{pins:List (Addr×Obj)}{σ:St}{H:Hp}{s:Shared}{sc so:Scope}{N':List Str}{src:List (Option Nat)}{cl:List (Str×Addr)}{fp:List Addr}{h':Heap}
  (I:az X pins σ H s) (hso:X.env.scope=so) (S:oj so sc X.N N' src) (q1:∀ x c,cl.lookup x=some c->X.env.cells.lookup x=some c) (q3:∀ y∈sc.names,y.2=.free->∃ c,cl.lookup y.1=some c)
  (hf:∀ b∈fp,eE X pins H b) (hlt:∀ b∈fp,b<s.heap.objs.size) (hns:h'.Ns s.heap.objs.size fun _=>none) (hk:∀ b o,s.heap.get? b=some o->h'.get? b=some o) (tk:Nat) :
  az (cM X sc cl s.heap.objs.size N' s H fp) [] (gp src σ) H { s with heap:=h',toks:=tk }:=by
 have hb:∀ b∈fp,b≠s.heap.objs.size/\∀ x c,cl.lookup x=some c->c≠b:=fun b z=>⟨Al (hlt b z),fun x c e=>(hf b z).2.2.2.2.1 x c (q1 x c e)⟩
 refine⟨⟨I.ok.mod,?_,I.ok.glob,I.ok.blt,Ad _,fun x y c h1 h2=>I.ok.inj x y c (q1 _ _ h1) (q1 _ _ h2),fun x hx=>?_,fun x c hx _=>(by cases hx),I.ok.hd,I.ok.frames,.inl rfl,hb,I.bs,AX I.ok.bsz I.sz,fun b o e z=>?_,fun b z hz=>?_,I.stack,I.stkFree⟩,
  rfl,I.bare,Un.kept hk,⟨_,hns,fun i x v h1 h2 h3=>?_⟩,fun x c e=>?_,I.hok.fresh (Ad _),fun x c e=>I.freeC x c (q1 x c e),fun p hp=>absurd (show p∈([]:List (Addr×Obj)) from hp) (by simp),I.hok.kept hk,?_⟩
 ·show (relabel sc X.env).kind=_
  exact S.kind
 ·have hx':(x,NameKind.free)∈sc.names:=ju S.nocell hx
  exact q3 _ hx' rfl
 ·rcases (hf b z).2.2.2.1 with y | y
  ·exact I.ok.noex b o e y
  ·exact absurd (As (Aa e) (AX I.ok.bsz y)) (Bu _)
 ·rcases Aq.mp (I.stkSub b hz) with y | y
  ·exact (hf b z).2.1 y
  ·exact (hf b z).2.2.1 y
 ·-- the captured names
  have h1':N'[i]? = some x:=h1;have h2':(gp src σ)[i]? = some (some v):=h2;unfold gp at h2';rw[List.getElem?_map]at h2'
  cases hs:src[i]? with
  | none=>rw[hs]at h2';cases h2'
  | some o =>
   rw[hs]at h2';have h2'':(o.bind fun j=>(σ[j]?).join)=some v:=At h2'
   cases o with
   | none=>cases h2''
   | some j =>
    have hj:(σ[j]?).join=some v:=h2''
    have hσ:σ[j]? = some (some v):=by
     cases e:σ[j]? with
     | none=>rw[e]at hj;cases hj
     | some z=>rw[e]at hj;rw[show z=some v from hj]
    have hzip:(x,some j)∈N'.zip src:=by
     have:(N'.zip src)[i]? = some (x,some j):=by
      rw[List.getElem?_zip_eq_some];exact⟨h1',hs⟩
     exact Ax this
    have hc:=A9 (S.cap _ hzip);obtain⟨hN,hfr⟩:X.N[j]? = some x/\sc.names.lookup x=some .free:=hc;have hmem:(x,NameKind.free)∈sc.names:=Bk hfr;have hvis:=S.fre _ hmem rfl;rw[<-hso]at hvis;obtain⟨m,hn,hl⟩:=I.loc;obtain⟨u,ru,lk⟩:=hl j x v hN hσ (.inr hvis);refine⟨u,ru,.inr ⟨iw hfr,?_⟩⟩;obtain⟨c,hcl⟩:=q3 _ hmem rfl;refine⟨c,hcl,?_⟩;rcases lk with ⟨k,_⟩ | ⟨_,c',e',z⟩
    ·have k:X.env.scope.names.lookup x=some .local:=k
     rcases hvis with y | y<;>(rw[k]at y;cases y)
    ·have:=q1 x c hcl
     rw[e']at this;cases this;obtain⟨ob,e1,e2⟩:=z;exact⟨ob,hk _ _ e1,e2⟩
 ·obtain⟨v,ob,e1,e2⟩:=I.cell x c (q1 x c e)
  exact⟨v,ob,hk _ _ e1,e2⟩
 ·show (gp src σ).length=N'.length
  unfold gp;rw[z9];exact S.len
theorem gj {X:Cx}{pins:List (Addr×Obj)}{σ:St}{H:Hp}{s:Shared}{l:Addr}{xs:List V}{y:V}{u:Value}{E:Value->Shared->Prop}(I:az X pins σ H s)(hH:H l=some (.lst xs))(hz:xs.length<sizeLine)(ru:aO y u) :
  wpAny (model X.prog X.w) X.A (call (.builtin "list.append") [.ref l,u]) (fun _ s'=>az X pins σ (aD H l (.lst (xs++[y]))) s') E s:=by
 obtain⟨z,its,n,r,hl,e⟩:=I.lstM hH;refine call_meets F.slot_list_append ⟨_,e,rfl⟩ F.entry_list_append (F.args_list_append_2 _ _) (PySem.list_append l its.toArray n u (by rw[Aj];omega)) ⟨e,?_⟩;refine I.lset (its':=its++[u]) hH e (by simp) (r.append (.cons ru .nil)) ?_;rw[An,AF];omega
theorem cr {X:Cx}{elt tg iter:Expr}{ifs:List Expr}{sc so:Scope}{pos:Pos}{N':List Str}{src:List (Option Nat)}{wi:TI}{g:TG}{tt:TT}{te:TE}{N:List Str}(hso:X.env.scope=so)(hXN:X.N=N)(S:oj so sc N N' src)(hc:X.calm=true)(hi:PI X tg iter wi)
  (hb:∀ (cl:List (Str×Addr))(C:Addr)(s:Shared)(H:Hp)(ex:List Addr),PG (cM X sc cl C N' s H ex) tg g/\wV (cM X sc cl C N' s H ex) ifs tt/\PE (cM X sc cl C N' s H ex) elt te)
  (hs:∀ x,foldedSetIterable iter X.env x=pure x:=by intro _;rfl):PE X (.ListComp elt [⟨tg,iter,ifs,0⟩] sc pos) (xT wi g tt te src):=by
 subst hXN;intro pins s σ H Q I h
 obtain⟨cl,hcl,q1,q3⟩:=iF (sc:=sc) (env:=X.env) fun y hy hf=>by
  have:=S.fre y hy hf;rw[<-hso]at this;exact I.ok.has y.1 this
 rw[eval_ListComp];refine wpAny_comprehension_free (use:=none) rfl hs hcl S.kind S.loc (bf (hi pins s σ H _ I h) fun v s1 h1=>bf h1 fun itv s2 h2=>?_);obtain⟨it,fp,tn,J,H2,e,I2,T,st2,f2,hR⟩:=h2;subst e;refine A0 ?_
 have I3:az X pins σ (aD H2 s2.heap.objs.size (.lst [])) { s2 with heap:=s2.heap.push { cls:=.type "list",dict:=none,data:=.seq ([]:List Value).toArray } } :=
  I2.laid (t':=s2.toks) (fun b u q=>Heap.get?_push_of_some _ q) (Ad _) ⟨Au _,[],0,.nil,Heap.get?_push_size _ rfl⟩
 have hfr:=I2.hok.fresh (Ad s2.heap.objs.size);obtain⟨W,⟨m0,w0⟩,turn⟩:=hR _ hfr
 have flt:∀ b∈fp,b<s2.heap.objs.size:=fun b hb=>by obtain⟨o,e,_⟩:=T.obj _ _ st2 b hb;exact Aa e
 generalize hs3:({ s2 with heap:=s2.heap.push { cls:=.type "list",dict:=none,data:=.seq ([]:List Value).toArray } }:Shared)=s3 at I3 ⊢
 have e3:s3.heap=s2.heap.push { cls:=.type "list",dict:=none,data:=.seq ([]:List Value).toArray }:=by rw[<-hs3]
 have sz3:s3.heap.objs.size=s2.heap.objs.size+1:=by rw[e3,AR]
 have hf3:∀ b∈fp,eE X pins (aD H2 s2.heap.objs.size (.lst [])) b:=fun b hb=>⟨by rw[ap (Al (flt b hb))];exact (f2 b hb).1,(f2 b hb).2⟩
 have flt3:∀ b∈fp,b<s3.heap.objs.size:=fun b hb=>by rw[sz3];exact BB (flt b hb)
 have st3:tn 0 s3.heap:=T.keep _ _ _ st2 fun b _ o e=>by rw[e3];exact Heap.get?_push_of_some _ e
 refine wpAny_newFunctionEnv S.nocell (by intro y hy;simp at hy) (fun h4 hns4 hsb4=>?_) S.kind;have kp4:∀ b o,s3.heap.get? b=some o->h4.get? b=some o:=fun b o e=>hsb4.extBut b o (Al (Aa e)) (Heap.get?_push_of_some _ e);have I4:=lv (h':=h4) I3 hso S q1 q3 hf3 flt3 (by simpa using hns4) kp4 (s3.toks+([]:List (Str×Value)).length);have st4:tn 0 h4:=T.keep _ _ _ st3 fun b _ o e=>kp4 b o e;generalize hC:s3.heap.objs.size=C at I4 hns4 hsb4 ⊢;obtain⟨hg,ht,he⟩:=hb cl C s3 (aD H2 s2.heap.objs.size (.lst [])) fp
 let Y:Cx:=cM X sc cl C N' s3 (aD H2 s2.heap.objs.size (.lst [])) fp
 have loop:∀ s5:Shared,s5={ s3 with heap:=h4,toks:=s3.toks+([]:List (Str×Value)).length }->codeAny (model X.prog X.w) X.A (.compLoop (.ListComp elt [⟨tg,iter,ifs,0⟩] sc pos) 0 (.ref it) (.ref s2.heap.objs.size) (compEnvC sc cl C X.env))
   (compPost (model X.prog X.w) X.A X.xe none (EP X pins σ Q) (.ref s2.heap.objs.size) C) s5:=by
  rintro s5 rfl
  have stat:∀ {H':Hp},(∀ b∈fp,H' b=none)->∀ b∈fp,eE Y [] H' b:=fun {H'} hn b hb=>by
   obtain⟨f0,f1,f2',f3,f4,f5⟩:=hf3 b hb;refine⟨hn b hb,?_,fun z=>?_,.inl hb,fun x c e=>f4 x c (q1 x c e),fun p hp=>absurd (show p∈([]:List (Addr×Obj)) from hp) (by simp)⟩
   ·show b≠C
    rw[<-hC];exact Al (flt3 b hb)
   ·have z:b∈gu X.stack:=z
    rcases Aq.mp (I3.stkSub b z) with y | y
    ·exact f1 y
    ·exact f2' y
  refine dy (fun n s'=>∃ i σ' H',az Y [] σ' H' s'/\tn i s'.heap/\(∀ b∈fp,H' b=none)/\W i n σ' H') ?_ m0 ⟨0,_,_,I4,st4,fun b hb=>(hf3 b hb).1,w0⟩;rintro n s6 ⟨i,σ6,H6,I6,st6,fr6,w6⟩;rcases turn i n σ6 H6 w6 with ⟨stop,qn⟩ | ⟨go,Nx,hN,step⟩
  ·refine bf (T.done Y rfl rfl rfl hc i [] s6 σ6 H6 _ I6 (stat fr6) st6 stop) fun r s7 ⟨hr,I7⟩=>?_
   subst hr;obtain⟨m,hn,_⟩:=id I7.loc;refine⟨m,hn,fun h' hsb=>?_⟩
   have neC:∀ b o,s3.heap.get? b=some o->b≠C:=fun b o e=>by rw[<-hC];exact Al (Aa e)
   have freeC:H6 C=none:=I7.free
   have un:Un (gu X.stack) fp (aD H2 s2.heap.objs.size (.lst [])) H6 s3.heap h' :=
    ⟨fun b o e n hb hx=>(hsb.2 b (neC b o e)).trans (I7.base.keep b o e n hb hx),fun b o e n hb hx=>by
      obtain⟨sl,q⟩:=I7.base.slot b o e n hb hx
      exact⟨sl,(hsb.2 b (neC b o e)).trans q⟩,I7.base.free,fun b o e hx=>by
      obtain⟨o',q⟩:=I7.base.there b o e hx
      exact⟨o',(hsb.2 b (neC b o e)).trans q⟩,I7.base.tups,I7.base.frzs,I7.base.tbls⟩
   have hok:f8 X.prog X.w H6 h':=fun b ob e=>by
    refine (I7.hok b ob e).stay (fun c w' hc' q=>(hsb.2 c ?_).trans q) (fun _ q=>q) fun _ _ q=>q;rintro rfl;rcases hc' with z | z
    ·rw[<-z,freeC]at e;cases e
    ·rw[freeC]at z;cases z
   have J7:az X pins σ H6 { s7 with heap:=h' }:=I3.call' (ch:=fp) (s':={ s7 with heap:=h' }) I7.os un hok I7.bare fun b hb=>⟨(hf3 b hb).2.2.2.1,(hf3 b hb).2.1,(hf3 b hb).2.2.2.2.1,(hf3 b hb).2.2.2.2.2⟩;exact⟨.ref s2.heap.objs.size,H6,J7,rfl,qn⟩
  ·refine bf (T.item Y rfl rfl rfl hc i [] s6 σ6 H6 _ I6 (stat fr6) st6 go) fun r s7 ⟨u,hr,h7⟩=>?_
   subst hr;refine bf h7 fun _ s8 ⟨x,H8,I8,r8,y8,st8,fr8⟩=>?_;have I8':=I8.pinned (stat fr8) (T.obj _ _ st8);refine bf (hg _ s8 σ6 H8 x u _ I8' r8 (step x H8 y8)) fun _ s9 ⟨σ9,H9,I9,q9⟩=>?_
   have again:∀ {s':Shared}{σ7:St}{H7:Hp},az Y ([]++gE fp s8.heap) σ7 H7 s'->Nx σ7 H7->∃ m,m<n/\∃ i σ' H',az Y [] σ' H' s'/\tn i s'.heap/\(∀ b∈fp,H' b=none)/\W i m σ' H':=fun {s' σ7 H7} I7 n7=>by
    obtain⟨m',hm,w7⟩:=hN σ7 H7 n7;refine⟨m',hm,i+1,σ7,H7,I7.unpinned,T.keep _ _ _ st8 fun b hb o e=>(I7.pin (b,o) (Ar _ (Ar _ (bP hb e)))).1,fun b hb=>?_,w7⟩;obtain⟨o,e,d⟩:=T.obj _ _ st8 b hb;exact (I7.pin (b,o) (Ar _ (Ar _ (bP hb e)))).2.1
   refine bf (ht _ s9 σ9 H9 _ I9 q9) fun ok s10 ⟨H10,I10,q10⟩=>?_
   cases ok with
   | false =>
    rw[Ag Ae]at q10 ⊢;exact again I10 q10
   | true =>
    rw[Ai rfl]at q10 ⊢;refine bf (he _ s10 σ9 H10 _ I10 q10) fun y s11 ⟨yv,H11,I11,ry,ys,hys,hlen,q11⟩=>?_;exact bf (gj (X:=Y) I11 hys hlen ry) fun _ s12 I12=>again I12 q11
 exact codeAny_compStart_list (loop _ rfl) (T.self _ 0 _ _ _ st4 (loop _ rfl))
def wL (wi:TI)(g:TG)(tt:TT)(te:TE)(src:List (Option Nat))(i:Nat):TS:=fun D σ H=>wi σ H fun J H1=>∀ a,H1 a=none ->
 gg J g (sG tt te a) { nx:=fun _ H'=>D.nx (σ.set i (some (.ref a))) H',rt:=fun _ _=>False } (gp src σ) (aD H1 a (.lst []))
theorem rj {X:Cx}{ix:Nat}{x:Str}{px spos:Pos}{elt tg iter:Expr}{ifs:List Expr}{sc so:Scope}{pos:Pos}{N':List Str}{src:List (Option Nat)}{wi:TI}{g:TG}{tt:TT}{te:TE}{N:List Str}(hso:X.env.scope=so)(hXN:X.N=N)(S:oj so sc N N' src)(hc:X.calm=true)(hi:PI X tg iter wi)
  (hb:∀ (cl:List (Str×Addr))(C:Addr)(s:Shared)(H:Hp)(ex:List Addr),PG (cM X sc cl C N' s H ex) tg g/\wV (cM X sc cl C N' s H ex) ifs tt/\PE (cM X sc cl C N' s H ex) elt te)
  (hnd:X.N.Nodup) (hix:X.N[ix]? = some x) (hx:X.env.scope.names.lookup x=some .local)
  (hsw:swapsWith (.ListComp elt [⟨tg,iter,ifs,0⟩] sc pos) (some (.Name x px)) spos.line X.env=pure true:=by rfl)
  (hs:∀ x,foldedSetIterable iter X.env x=pure x:=by intro _;rfl):PS X (.Assign [.Name x px] (.ListComp elt [⟨tg,iter,ifs,0⟩] sc pos) spos) (wL wi g tt te src ix):=by
 subst hXN;intro pins s σ H D I h
 obtain⟨cl,hcl,q1,q3⟩:=iF (sc:=sc) (env:=X.env) fun y hy hf=>by
  have:=S.fre y hy hf;rw[<-hso]at this;exact I.ok.has y.1 this
 rw[exec_Assign_Name_used _ _ _ _ hsw];refine z4 (BJ (z4 ?_))
 show wpAny _ X.A (do let _ <-comprehension (.ListComp elt [⟨tg,iter,ifs,0⟩] sc pos) sc X.env _ (newList []) false (eval iter X.env) (some (assign (.Name x px) X.env))) _ _ s
 refine z4 (AA (wpAny_comprehension_free (use:=some (assign (.Name x px) X.env)) (Q:=fun _ s'=>SP X pins D .next s') rfl hs hcl S.kind S.loc (bf (hi pins s σ H _ I h) fun v s1 h1=>bf h1 fun itv s2 h2=>?_)) (fun _ s' hq=>Ac (Ac hq)) fun _ _ e=>e);obtain⟨it,fp,tn,J,H2,e,I2,T,st2,f2,hR⟩:=h2;subst e;refine A0 ?_
 have I3:az X pins σ (aD H2 s2.heap.objs.size (.lst [])) { s2 with heap:=s2.heap.push { cls:=.type "list",dict:=none,data:=.seq ([]:List Value).toArray } } :=
  I2.laid (t':=s2.toks) (fun b u q=>Heap.get?_push_of_some _ q) (Ad _) ⟨Au _,[],0,.nil,Heap.get?_push_size _ rfl⟩
 have hfr:=I2.hok.fresh (Ad s2.heap.objs.size);obtain⟨W,⟨m0,w0⟩,turn⟩:=hR _ hfr
 have flt:∀ b∈fp,b<s2.heap.objs.size:=fun b hb=>by obtain⟨o,e,_⟩:=T.obj _ _ st2 b hb;exact Aa e
 generalize hs3:({ s2 with heap:=s2.heap.push { cls:=.type "list",dict:=none,data:=.seq ([]:List Value).toArray } }:Shared)=s3 at I3 ⊢
 have e3:s3.heap=s2.heap.push { cls:=.type "list",dict:=none,data:=.seq ([]:List Value).toArray }:=by rw[<-hs3]
 have sz3:s3.heap.objs.size=s2.heap.objs.size+1:=by rw[e3,AR]
 have hf3:∀ b∈fp,eE X pins (aD H2 s2.heap.objs.size (.lst [])) b:=fun b hb=>⟨by rw[ap (Al (flt b hb))];exact (f2 b hb).1,(f2 b hb).2⟩
 have flt3:∀ b∈fp,b<s3.heap.objs.size:=fun b hb=>by rw[sz3];exact BB (flt b hb)
 have st3:tn 0 s3.heap:=T.keep _ _ _ st2 fun b _ o e=>by rw[e3];exact Heap.get?_push_of_some _ e
 refine wpAny_newFunctionEnv S.nocell (by intro y hy;simp at hy) (fun h4 hns4 hsb4=>?_) S.kind;have kp4:∀ b o,s3.heap.get? b=some o->h4.get? b=some o:=fun b o e=>hsb4.extBut b o (Al (Aa e)) (Heap.get?_push_of_some _ e);have I4:=lv (h':=h4) I3 hso S q1 q3 hf3 flt3 (by simpa using hns4) kp4 (s3.toks+([]:List (Str×Value)).length);have st4:tn 0 h4:=T.keep _ _ _ st3 fun b _ o e=>kp4 b o e;generalize hC:s3.heap.objs.size=C at I4 hns4 hsb4 ⊢;obtain⟨hg,ht,he⟩:=hb cl C s3 (aD H2 s2.heap.objs.size (.lst [])) fp
 let Y:Cx:=cM X sc cl C N' s3 (aD H2 s2.heap.objs.size (.lst [])) fp
 have loop:∀ s5:Shared,s5={ s3 with heap:=h4,toks:=s3.toks+([]:List (Str×Value)).length }->codeAny (model X.prog X.w) X.A (.compLoop (.ListComp elt [⟨tg,iter,ifs,0⟩] sc pos) 0 (.ref it) (.ref s2.heap.objs.size) (compEnvC sc cl C X.env))
   (compPost (model X.prog X.w) X.A X.xe (some (assign (.Name x px) X.env)) (fun _ s'=>SP X pins D .next s') (.ref s2.heap.objs.size) C) s5:=by
  rintro s5 rfl
  have stat:∀ {H':Hp},(∀ b∈fp,H' b=none)->∀ b∈fp,eE Y [] H' b:=fun {H'} hn b hb=>by
   obtain⟨f0,f1,f2',f3,f4,f5⟩:=hf3 b hb;refine⟨hn b hb,?_,fun z=>?_,.inl hb,fun x c e=>f4 x c (q1 x c e),fun p hp=>absurd (show p∈([]:List (Addr×Obj)) from hp) (by simp)⟩
   ·show b≠C
    rw[<-hC];exact Al (flt3 b hb)
   ·have z:b∈gu X.stack:=z
    rcases Aq.mp (I3.stkSub b z) with y | y
    ·exact f1 y
    ·exact f2' y
  refine dy (fun n s'=>∃ i σ' H',az Y [] σ' H' s'/\tn i s'.heap/\(∀ b∈fp,H' b=none)/\W i n σ' H') ?_ m0 ⟨0,_,_,I4,st4,fun b hb=>(hf3 b hb).1,w0⟩;rintro n s6 ⟨i,σ6,H6,I6,st6,fr6,w6⟩;rcases turn i n σ6 H6 w6 with ⟨stop,qn⟩ | ⟨go,Nx,hN,step⟩
  ·refine bf (T.done Y rfl rfl rfl hc i [] s6 σ6 H6 _ I6 (stat fr6) st6 stop) fun r s7 ⟨hr,I7⟩=>?_
   subst hr;obtain⟨m,hn,_⟩:=id I7.loc;have freeC:H6 C=none:=I7.free;have J7:az X pins σ H6 s7:=I3.call' (ch:=fp) (s':=s7) I7.os I7.base I7.hok I7.bare fun b hb=>⟨(hf3 b hb).2.2.2.1,(hf3 b hb).2.1,(hf3 b hb).2.2.2.2.1,(hf3 b hb).2.2.2.2.2⟩
   have hC3:∀ b o,s3.heap.get? b=some o->b≠C:=fun b o e=>by rw[<-hC];exact Al (Aa e)
   have hlC:X.env.locals≠C:=by obtain⟨m3,⟨o3,_,_,e3',_⟩,_⟩:=I3.loc;exact hC3 _ _ e3'
   have hcC:∀ y c,X.env.cells.lookup y=some c->c≠C:=fun y c e=>by obtain⟨v3,o3,e3',_⟩:=I3.cell y c e;exact hC3 _ _ e3'
   have hpC:∀ p∈X.pn++pins,p.1≠C:=fun p hp=>hC3 _ _ (I3.pin p hp).1;refine wpAny_assign_Name (mZ (i:=ix) (v:=.ref s2.heap.objs.size) J7 hnd hix (.inl hx) rfl (fun s8 I8 ⟨a8,sb8,ha8⟩=>?_) (.inr hx))
   have ha8C:C≠a8:=by
    rcases ha8 with z | z
    ·rw[z];exact AK hlC
    ·exact AK (hcC _ _ z)
   refine⟨m,hn.sameBut sb8 ha8C,fun h' hsb=>?_⟩
   have I9:az X pins (σ.set ix (some (.ref s2.heap.objs.size))) H6 { s8 with heap:=h' } :=
    I8.turned (it:=C) (t':=s8.toks) (fun b o hb e=>(hsb.2 b hb).trans e) freeC (AK hlC) (.inr (by rw[<-hC];exact I3.sz)) hcC hpC
   exact⟨_,H6,I9,qn⟩
  ·refine bf (T.item Y rfl rfl rfl hc i [] s6 σ6 H6 _ I6 (stat fr6) st6 go) fun r s7 ⟨u,hr,h7⟩=>?_
   subst hr;refine bf h7 fun _ s8 ⟨x,H8,I8,r8,y8,st8,fr8⟩=>?_;have I8':=I8.pinned (stat fr8) (T.obj _ _ st8);refine bf (hg _ s8 σ6 H8 x u _ I8' r8 (step x H8 y8)) fun _ s9 ⟨σ9,H9,I9,q9⟩=>?_
   have again:∀ {s':Shared}{σ7:St}{H7:Hp},az Y ([]++gE fp s8.heap) σ7 H7 s'->Nx σ7 H7->∃ m,m<n/\∃ i σ' H',az Y [] σ' H' s'/\tn i s'.heap/\(∀ b∈fp,H' b=none)/\W i m σ' H':=fun {s' σ7 H7} I7 n7=>by
    obtain⟨m',hm,w7⟩:=hN σ7 H7 n7;refine⟨m',hm,i+1,σ7,H7,I7.unpinned,T.keep _ _ _ st8 fun b hb o e=>(I7.pin (b,o) (Ar _ (Ar _ (bP hb e)))).1,fun b hb=>?_,w7⟩;obtain⟨o,e,d⟩:=T.obj _ _ st8 b hb;exact (I7.pin (b,o) (Ar _ (Ar _ (bP hb e)))).2.1
   refine bf (ht _ s9 σ9 H9 _ I9 q9) fun ok s10 ⟨H10,I10,q10⟩=>?_
   cases ok with
   | false =>
    rw[Ag Ae]at q10 ⊢;exact again I10 q10
   | true =>
    rw[Ai rfl]at q10 ⊢;refine bf (he _ s10 σ9 H10 _ I10 q10) fun y s11 ⟨yv,H11,I11,ry,ys,hys,hlen,q11⟩=>?_;exact bf (gj (X:=Y) I11 hys hlen ry) fun _ s12 I12=>again I12 q11
 exact codeAny_compStart_list (loop _ rfl) (T.self _ 0 _ _ _ st4 (loop _ rfl))
section
variable {X:Cx}
def w4 (i j:Int):Prop:=0<j/\j<1152921504606846976
theorem tH:iT X (binaryOp .FloorDiv) (rI w4 fun i j=>.int (i/j)):=xD fun i j _ _ _ _ _ hc q=>by
 have h1:(0:Int)<j:=hc.1;have h2:j<1152921504606846976:=hc.2;refine floordiv_int (by omega) (by rw[Int.fdiv_eq_ediv_of_nonneg i (by omega)];exact q) (.inl (PyProof.noPylong_of_log2 ?_))
 have h0:j.natAbs≠0:=by omega
 have:j.natAbs.log2<60:=(Nat.log2_lt h0).mpr (by omega);omega
theorem i7:eI X (.builtin "isinstance") (fun xs H Q=>∃ x T t b,xs=[x,.ty T]/\gh X.K H x t/\PySem.W.kitOne X.K t (.type T)=some b/\Q (.bl b) H):=by
 intro pins s σ H xs us Q I r h;obtain⟨x,T,t,b,rfl,ty,e,q⟩:=h
 cases r with
 | cons rx r2 =>
  cases r2 with
  | cons rt r3 =>
   cases r3;cases rt;exact rT I rx ty e fun tk=>⟨.bl b,H,I.tok tk,rfl,q⟩
theorem pq {A:Around}{bs:List Bool}{its:List Value}(r:Vals (bs.map V.bl) its) :
  TruthOf X.prog X.w A (fun i v=>its.toArray[i]? = some v) (fun i=>bs.getD i false):=by
 intro i v s Q E hv hq
 have hv':its[i]? = some v:=by simpa using hv
 have hi:i<its.length:=(List.getElem?_eq_some_iff.mp hv').1;have hl:=r.length;rw[z9]at hl;obtain⟨u,hu,ru⟩:=r.get (i:=i) (x:=V.bl (bs[i]'(by omega))) (by rw[List.getElem?_map,List.getElem?_eq_getElem (by omega)];rfl);rw[hv']at hu;cases hu;cases ru
 have e:bs.getD i false=bs[i]'(by omega):=by simp[List.getD,List.getElem?_eq_getElem (show i<bs.length by omega)]
 have hq':Q (bs.getD i false) s:=hq;rw[e]at hq';exact AZ hq'
theorem sw (bs:List Bool):(List.range bs.length).all (fun i=>bs.getD i false)=bs.all id:=by
 have h:(List.range bs.length).map (fun i=>bs.getD i false)=bs:=by
  apply List.ext_getElem
  ·simp
  ·intro i h1 h2;simp[List.getD,List.getElem?_eq_getElem h2]
 have e:(List.range bs.length).all (fun i=>bs.getD i false)=((List.range bs.length).map (fun i=>bs.getD i false)).all id:=by rw[List.all_map];rfl
 rw[e,h]
theorem jK {pins:List (Addr×Obj)}{σ:St}{H:Hp}{s:Shared}{A:Around}{E:Value->Shared->Prop}{p:Addr}{xs:List V}{its:List Value}{R:Value->Shared->Prop}(I:az X pins σ H s)(hA:A.handled=none)(pl:PlainL s.heap p its.toArray)
  (h:∀ (I':Addr)(St:Nat->Heap->Prop)(s2:Shared),s2.heap.objs.size=s.heap.objs.size+1->I'=s.heap.objs.size->Walks X.prog X.w A I' [I',p] [I'] its.length (fun i v=>its.toArray[i]? = some v) St->St 0 s2.heap->(∀ b o,s.heap.get? b=some o->s2.heap.get? b=some o)->(∀ h' tk,(∀ b o,b∉[I']->s2.heap.get? b=some o->h'.get? b=some o)->az X pins σ H { s2 with heap:=h',toks:=tk })->R (.ref I') s2) :
  wpAny (model X.prog X.w) A (pyIter (.ref p)) R E s:=by
 refine wpAny_pyIter_list pl.isList ?_
 have hlt:p<s.heap.objs.size:=by obtain⟨o,n,e,_⟩:=pl;exact Aa e
 have W:=Walks.list (prog:=X.prog) (w:=X.w) hA s.heap.objs.size p (Al hlt) its.toArray;rw[Aj]at W;refine h _ _ _ (by rw[AR]) rfl W ⟨⟨_,Heap.get?_push_size _ rfl,rfl,rfl⟩,pl.isList.at fun o e=>Heap.get?_push_of_some _ e⟩ (fun b o e=>Heap.get?_push_of_some _ e) fun h' tk kp=>?_;exact I.kept (t':=tk) fun b o e=>kp b o (by simpa using Al (Aa e)) (Heap.get?_push_of_some _ e)
theorem gQ (hc:X.calm=true):eI X (.builtin "all") (fun xs H Q=>∃ (p:Addr)(bs:List Bool),xs=[.ref p]/\aR X.K H p (bs.map V.bl)/\Q (.bl (bs.all id)) H):=by
 intro pins s σ H xs us Q I r h;obtain⟨p,bs,rfl,hq,q⟩:=h;obtain⟨u,rfl,rx⟩:=fY r;cases rx;obtain⟨its,rv,pl,hz⟩:=I.list hq;have hl:=rv.length;rw[z9]at hl;refine call_all_walk (jK (xs:=bs.map V.bl) I (I.ok.hd hc) pl fun I' St s2 hs2 hI W st kp fin=>?_);refine⟨I',_,_,_,_,St,_,rfl,W,st,pq rv,fun h' tk k=>⟨.bl _,H,fin h' tk k,rfl,?_⟩⟩;rw[<-hl,sw];exact q
theorem jb:∀ {ns:List Int}{us:List Value},Vals (ns.map V.int) us->IntsAre us ns
 | [],_,r=>by cases r;exact IntsAre.nil
 | n::ns,_,r=>by
  cases r with
  | cons r t=>obtain⟨tk,rfl⟩:=r;exact IntsAre.cons _ _ (jb t)
theorem kX:∀ {xs:List V}{us:List Value},xs.length=us.length->(∀ (i:Nat) x u,xs[i]? = some x->us[i]? = some u->aO x u)->Vals xs us
 | [],[],_,_=>.nil
 | x::xs,u::us,hl,h=>.cons (h 0 x u rfl rfl) (kX (by simpa using hl) fun i y v e1 e2=>h (i+1) y v (by simpa using e1) (by simpa using e2))
 | [],_::_,hl,_=>by simp at hl
 | _::_,[],hl,_=>by simp at hl
end
inductive Dt where
 | at (v:V)
 | sq (tup:Bool) (ds:List Dt)
def kg:V->Bool
 | .non=>true
 | .int _=>true
 | .str _=>true
 | _=>false
theorem li {v:V}(h:kg v=true):ir v=true:=by cases v<;>first | rfl | cases h
theorem uN {x y:V}(hx:kg x=true)(hy:kg y=true):pV x y=true↔x=y:=by
 cases x<;>cases y<;>first | (cases hx;done) | (cases hy;done) | simp[pV]
def ky (K:PySem.W.Frag)(H:Hp)(t:Bool)(a:Addr)(xs:List V):Prop:=if t=true then aG K H a xs else aR K H a xs
def RD (K:PySem.W.Frag)(H:Hp):Nat->V->Dt->Prop
 | 0,v,d=>kg v=true/\d=.at v
 | n+1,v,d=>(kg v=true/\d=.at v)\/∃ a t xs ds,v=.ref a/\d=.sq t ds/\ky K H t a xs/\Paired (RD K H n) xs ds
theorem RD.flat {K:PySem.W.Frag}{H:Hp}{v:V}(h:kg v=true):∀ n,RD K H n v (.at v)
 | 0=>⟨h,rfl⟩
 | _+1=>.inl ⟨h,rfl⟩
theorem RD.lst {K:PySem.W.Frag}{H:Hp}{a:Addr}{xs:List V}{ds:List Dt}{n:Nat}(h:aR K H a xs)(r:Paired (RD K H n) xs ds):RD K H (n+1) (.ref a) (.sq false ds) :=
 .inr ⟨a,false,xs,ds,rfl,rfl,by unfold ky;rw[Ag Ae];exact h,r⟩
theorem RD.tup {K:PySem.W.Frag}{H:Hp}{a:Addr}{xs:List V}{ds:List Dt}{n:Nat}(h:aG K H a xs)(r:Paired (RD K H n) xs ds):RD K H (n+1) (.ref a) (.sq true ds) :=
 .inr ⟨a,true,xs,ds,rfl,rfl,by unfold ky;rw[Ai rfl];exact h,r⟩
section
variable {X:Cx}{pins:List (Addr×Obj)}{σ:St}{H:Hp}{s:Shared}
theorem RD.inj (I:az X pins σ H s):∀ {n m:Nat}{v:V}{d e:Dt},RD X.K H n v d->RD X.K H m v e->d=e:=by
 intro n
 induction n with
 | zero =>
  intro m v d e h1 h2;obtain⟨f,rfl⟩:=h1
  cases m with
  | zero=>exact h2.2.symm
  | succ m =>
   rcases h2 with h2 | ⟨a,t,xs,ds,rfl,_⟩
   ·exact h2.2.symm
   ·cases f
 | succ n ih =>
  intro m v d e h1 h2;rcases h1 with h1 | ⟨a,t,xs,ds,rfl,rfl,q,r⟩
  ·obtain⟨f,rfl⟩:=h1
   cases m with
   | zero=>exact h2.2.symm
   | succ m =>
    rcases h2 with h2 | ⟨a,t,xs,ds,rfl,_⟩
    ·exact h2.2.symm
    ·cases f
  ·cases m with
   | zero=>cases h2.1
   | succ m =>
    rcases h2 with h2 | ⟨a',t',xs',ds',ea,rfl,q',r'⟩
    ·cases h2.1
    ·cases ea
     have pr:∀ {l:List V}{l1 l2:List Dt},Paired (RD X.K H n) l l1->Paired (RD X.K H m) l l2->l1=l2:=by
      intro l
      induction l with
      | nil=>intro l1 l2 p1 p2;cases p1;cases p2;rfl
      | cons z l ihl =>
       intro l1 l2 p1 p2
       cases p1 with
       | cons r1 t1 =>
        cases p2 with
        | cons r2 t2=>rw[ih r1 r2,ihl t1 t2]
     cases t with
     | false =>
      have q:aR X.K H a xs:=by unfold ky at q;rwa [Ag Ae]at q
      cases t' with
      | false =>
       have q':aR X.K H a xs':=by unfold ky at q';rwa [Ag Ae]at q'
       have:=I.list_inj q q';subst this;rw[pr r r']
      | true =>
       have q':aG X.K H a xs':=by unfold ky at q';rwa [Ai rfl]at q'
       obtain⟨_,_,p1,_⟩:=I.list q;obtain⟨_,_,p2,_⟩:=I.tuple q';exact absurd rfl (SeqAt.ne_of_list_tuple p1.isList p2)
     | true =>
      have q:aG X.K H a xs:=by unfold ky at q;rwa [Ai rfl]at q
      cases t' with
      | false =>
       have q':aR X.K H a xs':=by unfold ky at q';rwa [Ag Ae]at q'
       obtain⟨_,_,p1,_⟩:=I.tuple q;obtain⟨_,_,p2,_⟩:=I.list q';exact absurd rfl (SeqAt.ne_of_list_tuple p2.isList p1)
      | true =>
       have q':aG X.K H a xs':=by unfold ky at q';rwa [Ai rfl]at q'
       have:=I.tuple_inj q q';subst this;rw[pr r r']
theorem uc (I:az X pins σ H s):∀ (n:Nat){A:Around}{l b:Addr}{d e:Dt},A.units+n<cLine->RD X.K H (n+1) (.ref l) d->RD X.K H (n+1) (.ref b) e ->
  (∀ {A:Around}{y x:V}{u v:Value}{d e:Dt},A.units+n<cLine+1->RD X.K H n y d->RD X.K H n x e->aO y u->aO x v->∃ k:Bool,(k=true↔d=e)/\SeqAt.EqAt A s u v k) ->
  ∃ k:Bool,(k=true↔d=e)/\SeqAt.RcAt A s (.ref l) (.ref b) k:=by
 intro n A l b d e hu h1 h2 ih;rcases h1 with h1 | ⟨a,t,xs,ds,ea,rfl,q,r⟩
 ·cases h1.1
 cases ea;rcases h2 with h2 | ⟨a',t',xs',ds',ea,rfl,q',r'⟩
 ·cases h2.1
 cases ea
 have pw:∀ {us us':List Value},Vals xs us->Vals xs' us'->∃ ks:Nat->Bool,(∀ j (h1:j<us.length) (h2:j<us'.length),SeqAt.EqAt A.in1 s us[j] us'[j] (ks j)) /\
   (∀ j d1 d2,ds[j]? = some d1->ds'[j]? = some d2->(ks j=true↔d1=d2)):=by
  intro us us' rv rv'
  have ex:∀ j:Nat,∃ k:Bool,(∀ (h1:j<us.length)(h2:j<us'.length),SeqAt.EqAt A.in1 s us[j] us'[j] k)/\(∀ d1 d2,ds[j]? = some d1->ds'[j]? = some d2->(k=true↔d1=d2)):=by
   intro j
   by_cases hj:j<us.length/\j<us'.length
   ·obtain⟨h1,h2⟩:=hj
    have l1:=rv.length;have l2:=rv'.length;have l3:=Ao r;have l4:=Ao r';have gx:xs[j]? = some xs[j]:=List.getElem?_eq_getElem (by omega);have gx':xs'[j]? = some xs'[j]:=List.getElem?_eq_getElem (by omega);obtain⟨u,eu,ru⟩:=rv.get gx;obtain⟨u',eu',ru'⟩:=rv'.get gx'
    have eu2:us[j]=u:=by rw[List.getElem?_eq_getElem h1]at eu;exact At eu
    have eu2':us'[j]=u':=by rw[List.getElem?_eq_getElem h2]at eu';exact At eu'
    have pget:∀ {m:Nat}{zs:List V}{es:List Dt}(j:Nat){z:V},Paired (RD X.K H m) zs es->zs[j]? = some z->∃ f,es[j]? = some f/\RD X.K H m z f:=by
     intro m zs
     induction zs with
     | nil=>intro es j z p hz;simp at hz
     | cons z0 zs ihz =>
      intro es j z p hz
      cases p with
      | cons p1 p2 =>
       cases j with
       | zero=>simp at hz;subst hz;exact⟨_,rfl,p1⟩
       | succ j=>obtain⟨f,e1,e2⟩:=ihz j p2 (by simpa using hz);exact⟨f,by simpa using e1,e2⟩
    obtain⟨f,ef,rf⟩:=pget j r gx;obtain⟨f',ef',rf'⟩:=pget j r' gx';obtain⟨k,hk,he⟩:=ih (A:=A.in1) (by show A.units+1+n<cLine+1;omega) rf rf' ru ru';refine⟨k,fun _ _=>by rw[eu2,eu2'];exact he,fun d1 d2 e1 e2=>?_⟩;rw[ef]at e1;rw[ef']at e2;cases e1;cases e2;exact hk
   ·refine⟨false,fun h1 h2=>absurd ⟨h1,h2⟩ hj,fun d1 d2 e1 e2=>?_⟩
    have l1:=rv.length;have l2:=rv'.length;have l3:=Ao r;have l4:=Ao r';have:=(List.getElem?_eq_some_iff.mp e1).1;have:=(List.getElem?_eq_some_iff.mp e2).1;exact absurd ⟨by omega,by omega⟩ hj
  exact⟨fun j=>Classical.choose (ex j),fun j h1 h2=>(Classical.choose_spec (ex j)).1 h1 h2,fun j=>(Classical.choose_spec (ex j)).2⟩
 have allEq:∀ (ks:Nat->Bool),(∀ j d1 d2,ds[j]? = some d1->ds'[j]? = some d2->(ks j=true↔d1=d2))->ds.length=ds'.length->((List.range ds.length).all ks=true↔ds=ds'):=by
  intro ks hk hl;rw[Bn];constructor
  ·intro h
   apply List.ext_getElem hl
   intro j h1 h2;exact (hk j _ _ (List.getElem?_eq_getElem h1) (List.getElem?_eq_getElem h2)).mp (h j (BD.mpr h1))
  ·rintro rfl j hj
   have h1:=BD.mp hj;exact (hk j _ _ (List.getElem?_eq_getElem h1) (List.getElem?_eq_getElem h1)).mpr rfl
 have l3:=Ao r;have l4:=Ao r'
 cases t with
 | false =>
  have q:aR X.K H l xs:=by unfold ky at q;rwa [Ag Ae]at q
  obtain⟨us,rv,p1,_⟩:=I.list q;have l1:=rv.length
  cases t' with
  | true =>
   have q':aG X.K H b xs':=by unfold ky at q';rwa [Ai rfl]at q'
   obtain⟨us',rv',p2,_⟩:=I.tuple q';exact⟨false,by simp,SeqAt.RcAt.list_tuple p1.isList p2 (by omega)⟩
  | false =>
   have q':aR X.K H b xs':=by unfold ky at q';rwa [Ag Ae]at q'
   obtain⟨us',rv',p2,_⟩:=I.list q';have l2:=rv'.length
   by_cases hl:us.length=us'.length
   ·obtain⟨ks,he,hk⟩:=pw rv rv'
    refine⟨(List.range us.toArray.size).all ks,?_,SeqAt.RcAt.lists p1.isList p2.isList (by simpa using hl) (by omega) fun j h1 h2=>by simpa using he j (by simpa using h1) (by simpa using h2)⟩;rw[Aj,show us.length=ds.length by omega,allEq ks hk (by omega)];constructor
    ·rintro rfl;rfl
    ·intro h;injection h
   ·refine⟨false,?_,SeqAt.RcAt.lists_lengths p1.isList p2.isList (by simpa using hl) (by omega)⟩
    constructor
    ·intro h;cases h
    ·intro h
     injection h with _ h;exact absurd (by rw[<-l1,l3,h,<-l4,l2]) hl
 | true =>
  have q:aG X.K H l xs:=by unfold ky at q;rwa [Ai rfl]at q
  obtain⟨us,rv,p1,_⟩:=I.tuple q;have l1:=rv.length
  cases t' with
  | false =>
   have q':aR X.K H b xs':=by unfold ky at q';rwa [Ag Ae]at q'
   obtain⟨us',rv',p2,_⟩:=I.list q';exact⟨false,by simp,SeqAt.RcAt.tuple_list p1 p2.isList (by omega)⟩
  | true =>
   have q':aG X.K H b xs':=by unfold ky at q';rwa [Ai rfl]at q'
   obtain⟨us',rv',p2,_⟩:=I.tuple q';have l2:=rv'.length;obtain⟨ks,he,hk⟩:=pw rv rv';refine⟨_,?_,SeqAt.RcAt.tuples (e:=ks) (show s.heap.IsTuple l us.toArray from p1) (show s.heap.IsTuple b us'.toArray from p2) (by omega) fun j h1 h2=>by simpa using he j (by simpa using h1) (by simpa using h2)⟩
   by_cases hl:us.length=us'.length
   ·rw[Aj,Aj,<-hl,Nat.min_self,beq_self_eq_true,Bool.and_true,show us.length=ds.length by omega,allEq ks hk (by omega)]
    constructor
    ·rintro rfl;rfl
    ·intro h;injection h
   ·have:(us.toArray.size == us'.toArray.size)=false:=by simpa using hl
    rw[this,Bool.and_false];constructor
    ·intro h;cases h
    ·intro h
     injection h with _ h;exact absurd (by rw[<-l1,l3,h,<-l4,l2]) hl
theorem ud (I:az X pins σ H s):∀ (n:Nat){A:Around}{l b:Addr}{d e:Dt},A.units+n<cLine->RD X.K H (n+1) (.ref l) d->RD X.K H (n+1) (.ref b) e ->
  (∀ {A:Around}{y x:V}{u v:Value}{d e:Dt},A.units+n<cLine+1->RD X.K H n y d->RD X.K H n x e->aO y u->aO x v->∃ k:Bool,(k=true↔d=e)/\SeqAt.EqAt A s u v k) ->
  ∃ k:Bool,(k=true↔d=e)/\SeqAt.RcNeAt A s (.ref l) (.ref b) (!k):=by
 intro n A l b d e hu h1 h2 ih;rcases h1 with h1 | ⟨a,t,xs,ds,ea,rfl,q,r⟩
 ·cases h1.1
 cases ea;rcases h2 with h2 | ⟨a',t',xs',ds',ea,rfl,q',r'⟩
 ·cases h2.1
 cases ea
 have pw:∀ {us us':List Value},Vals xs us->Vals xs' us'->∃ ks:Nat->Bool,(∀ j (h1:j<us.length) (h2:j<us'.length),SeqAt.EqAt A.in1 s us[j] us'[j] (ks j)) /\
   (∀ j d1 d2,ds[j]? = some d1->ds'[j]? = some d2->(ks j=true↔d1=d2)):=by
  intro us us' rv rv'
  have ex:∀ j:Nat,∃ k:Bool,(∀ (h1:j<us.length)(h2:j<us'.length),SeqAt.EqAt A.in1 s us[j] us'[j] k)/\(∀ d1 d2,ds[j]? = some d1->ds'[j]? = some d2->(k=true↔d1=d2)):=by
   intro j
   by_cases hj:j<us.length/\j<us'.length
   ·obtain⟨h1,h2⟩:=hj
    have l1:=rv.length;have l2:=rv'.length;have l3:=Ao r;have l4:=Ao r';have gx:xs[j]? = some xs[j]:=List.getElem?_eq_getElem (by omega);have gx':xs'[j]? = some xs'[j]:=List.getElem?_eq_getElem (by omega);obtain⟨u,eu,ru⟩:=rv.get gx;obtain⟨u',eu',ru'⟩:=rv'.get gx'
    have eu2:us[j]=u:=by rw[List.getElem?_eq_getElem h1]at eu;exact At eu
    have eu2':us'[j]=u':=by rw[List.getElem?_eq_getElem h2]at eu';exact At eu'
    have pget:∀ {m:Nat}{zs:List V}{es:List Dt}(j:Nat){z:V},Paired (RD X.K H m) zs es->zs[j]? = some z->∃ f,es[j]? = some f/\RD X.K H m z f:=by
     intro m zs
     induction zs with
     | nil=>intro es j z p hz;simp at hz
     | cons z0 zs ihz =>
      intro es j z p hz
      cases p with
      | cons p1 p2 =>
       cases j with
       | zero=>simp at hz;subst hz;exact⟨_,rfl,p1⟩
       | succ j=>obtain⟨f,e1,e2⟩:=ihz j p2 (by simpa using hz);exact⟨f,by simpa using e1,e2⟩
    obtain⟨f,ef,rf⟩:=pget j r gx;obtain⟨f',ef',rf'⟩:=pget j r' gx';obtain⟨k,hk,he⟩:=ih (A:=A.in1) (by show A.units+1+n<cLine+1;omega) rf rf' ru ru';refine⟨k,fun _ _=>by rw[eu2,eu2'];exact he,fun d1 d2 e1 e2=>?_⟩;rw[ef]at e1;rw[ef']at e2;cases e1;cases e2;exact hk
   ·refine⟨false,fun h1 h2=>absurd ⟨h1,h2⟩ hj,fun d1 d2 e1 e2=>?_⟩
    have l1:=rv.length;have l2:=rv'.length;have l3:=Ao r;have l4:=Ao r';have:=(List.getElem?_eq_some_iff.mp e1).1;have:=(List.getElem?_eq_some_iff.mp e2).1;exact absurd ⟨by omega,by omega⟩ hj
  exact⟨fun j=>Classical.choose (ex j),fun j h1 h2=>(Classical.choose_spec (ex j)).1 h1 h2,fun j=>(Classical.choose_spec (ex j)).2⟩
 have allEq:∀ (ks:Nat->Bool),(∀ j d1 d2,ds[j]? = some d1->ds'[j]? = some d2->(ks j=true↔d1=d2))->ds.length=ds'.length->((List.range ds.length).all ks=true↔ds=ds'):=by
  intro ks hk hl;rw[Bn];constructor
  ·intro h
   apply List.ext_getElem hl
   intro j h1 h2;exact (hk j _ _ (List.getElem?_eq_getElem h1) (List.getElem?_eq_getElem h2)).mp (h j (BD.mpr h1))
  ·rintro rfl j hj
   have h1:=BD.mp hj;exact (hk j _ _ (List.getElem?_eq_getElem h1) (List.getElem?_eq_getElem h1)).mpr rfl
 have l3:=Ao r;have l4:=Ao r'
 cases t with
 | false =>
  have q:aR X.K H l xs:=by unfold ky at q;rwa [Ag Ae]at q
  obtain⟨us,rv,p1,_⟩:=I.list q;have l1:=rv.length
  cases t' with
  | true =>
   have q':aG X.K H b xs':=by unfold ky at q';rwa [Ai rfl]at q'
   obtain⟨us',rv',p2,_⟩:=I.tuple q';exact⟨false,by simp,SeqAt.RcNeAt.list_tuple p1.isList p2 (by omega)⟩
  | false =>
   have q':aR X.K H b xs':=by unfold ky at q';rwa [Ag Ae]at q'
   obtain⟨us',rv',p2,_⟩:=I.list q';have l2:=rv'.length
   by_cases hl:us.length=us'.length
   ·obtain⟨ks,he,hk⟩:=pw rv rv'
    refine⟨(List.range us.toArray.size).all ks,?_,SeqAt.RcNeAt.lists p1.isList p2.isList (by simpa using hl) (by omega) fun j h1 h2=>by simpa using he j (by simpa using h1) (by simpa using h2)⟩;rw[Aj,show us.length=ds.length by omega,allEq ks hk (by omega)];constructor
    ·rintro rfl;rfl
    ·intro h;injection h
   ·refine⟨false,?_,SeqAt.RcNeAt.lists_lengths p1.isList p2.isList (by simpa using hl) (by omega)⟩
    constructor
    ·intro h;cases h
    ·intro h
     injection h with _ h;exact absurd (by rw[<-l1,l3,h,<-l4,l2]) hl
 | true =>
  have q:aG X.K H l xs:=by unfold ky at q;rwa [Ai rfl]at q
  obtain⟨us,rv,p1,_⟩:=I.tuple q;have l1:=rv.length
  cases t' with
  | false =>
   have q':aR X.K H b xs':=by unfold ky at q';rwa [Ag Ae]at q'
   obtain⟨us',rv',p2,_⟩:=I.list q';exact⟨false,by simp,SeqAt.RcNeAt.tuple_list p1 p2.isList (by omega)⟩
  | true =>
   have q':aG X.K H b xs':=by unfold ky at q';rwa [Ai rfl]at q'
   obtain⟨us',rv',p2,_⟩:=I.tuple q';have l2:=rv'.length;obtain⟨ks,he,hk⟩:=pw rv rv';refine⟨(List.range (min us.toArray.size us'.toArray.size)).all ks&&us.toArray.size == us'.toArray.size,?_,SeqAt.RcNeAt.tuples (e:=ks) (show s.heap.IsTuple l us.toArray from p1) (show s.heap.IsTuple b us'.toArray from p2) (by omega) fun j h1 h2=>by simpa using he j (by simpa using h1) (by simpa using h2)⟩
   by_cases hl:us.length=us'.length
   ·rw[Aj,Aj,<-hl,Nat.min_self,beq_self_eq_true,Bool.and_true,show us.length=ds.length by omega,allEq ks hk (by omega)]
    constructor
    ·rintro rfl;rfl
    ·intro h;injection h
   ·have:(us.toArray.size == us'.toArray.size)=false:=by simpa using hl
    rw[this,Bool.and_false];constructor
    ·intro h;cases h
    ·intro h
     injection h with _ h;exact absurd (by rw[<-l1,l3,h,<-l4,l2]) hl
theorem pT (I:az X pins σ H s):∀ (n:Nat){A:Around}{y x:V}{u v:Value}{d e:Dt},A.units+n<cLine+1->RD X.K H n y d->RD X.K H n x e->aO y u->aO x v->∃ k:Bool,(k=true↔d=e)/\SeqAt.EqAt A s u v k:=by
 intro n
 have flatCase:∀ {A:Around}{y x:V}{u v:Value},kg y=true->kg x=true->aO y u->aO x v->∃ k:Bool,(k=true↔Dt.at y=Dt.at x)/\SeqAt.EqAt A s u v k:=by
  intro A y x u v fy fx ry rx;refine⟨pV y x,?_,sU ry rx (li fy) (li fx)⟩;rw[uN fy fx];constructor
  ·rintro rfl;rfl
  ·intro h;injection h
 induction n with
 | zero =>
  intro A y x u v d e hu h1 h2 ry rx;obtain⟨f1,rfl⟩:=h1;obtain⟨f2,rfl⟩:=h2;exact flatCase f1 f2 ry rx
 | succ n ih =>
  intro A y x u v d e hu h1 h2 ry rx;rcases id h1 with ⟨f1,rfl⟩ | ⟨a,t,xs,ds,rfl,rfl,q,r⟩
  ·rcases id h2 with ⟨f2,rfl⟩ | ⟨a',t',xs',ds',rfl,rfl,q',r'⟩
   ·exact flatCase f1 f2 ry rx
   ·cases rx
    refine⟨false,by simp,?_⟩
    cases t' with
    | false =>
     have q':aR X.K H a' xs':=by unfold ky at q';rwa [Ag Ae]at q'
     obtain⟨_,_,p,_⟩:=I.list q'
     cases y with
     | non=>cases ry;exact SeqAt.EqAt.none_list p.isList (by omega)
     | int _=>obtain⟨tk,rfl⟩:=ry;exact SeqAt.EqAt.int_list _ _ p.isList (by omega)
     | str _=>obtain⟨tk,rfl⟩:=ry;exact SeqAt.EqAt.str_list _ _ p.isList (by omega)
     | _=>cases f1
    | true =>
     have q':aG X.K H a' xs':=by unfold ky at q';rwa [Ai rfl]at q'
     obtain⟨_,_,p,_⟩:=I.tuple q'
     cases y with
     | non=>cases ry;exact SeqAt.EqAt.none_tuple p (by omega)
     | int _=>obtain⟨tk,rfl⟩:=ry;exact SeqAt.EqAt.int_tuple _ _ p (by omega)
     | str _=>obtain⟨tk,rfl⟩:=ry;exact SeqAt.EqAt.str_tuple _ _ p (by omega)
     | _=>cases f1
  ·cases ry
   rcases id h2 with ⟨f2,rfl⟩ | ⟨a',t',xs',ds',rfl,rfl,q',r'⟩
   ·refine⟨false,by simp,?_⟩
    cases t with
    | false =>
     have q:aR X.K H a xs:=by unfold ky at q;rwa [Ag Ae]at q
     obtain⟨_,_,p,_⟩:=I.list q
     cases x with
     | non=>cases rx;exact SeqAt.EqAt.list_none p.isList (by omega)
     | int _=>obtain⟨tk,rfl⟩:=rx;exact SeqAt.EqAt.list_int _ _ p.isList (by omega)
     | str _=>obtain⟨tk,rfl⟩:=rx;exact SeqAt.EqAt.list_str _ _ p.isList (by omega)
     | _=>cases f2
    | true =>
     have q:aG X.K H a xs:=by unfold ky at q;rwa [Ai rfl]at q
     obtain⟨_,_,p,_⟩:=I.tuple q
     cases x with
     | non=>cases rx;exact SeqAt.EqAt.tuple_none p (by omega)
     | int _=>obtain⟨tk,rfl⟩:=rx;exact SeqAt.EqAt.tuple_int _ _ p (by omega)
     | str _=>obtain⟨tk,rfl⟩:=rx;exact SeqAt.EqAt.tuple_str _ _ p (by omega)
     | _=>cases f2
   ·cases rx
    by_cases hab:a=a'
    ·subst hab
     exact⟨true,by rw[RD.inj I h1 h2];simp,SeqAt.EqAt.same _⟩
    ·obtain⟨k,hk,hr⟩:=uc I n (A:=A) (by omega) h1 h2 (fun hu'=>ih hu')
     exact⟨k,hk,.of_refs hab hr⟩
end
inductive zp (K:PySem.W.Frag) (n:Nat) (neg:Bool) (x y:V) (H:Hp) (Q:VK):Prop
 | mk (a b:Addr) (d e:Dt) (e1:x=.ref a) (e2:y=.ref b) (r1:RD K H (n+1) x d) (r2:RD K H (n+1) y e) (h:∀ k:Bool,(k=true↔d=e)->Q (.bl (if neg then !k else k)) H):zp K n neg x y H Q
def xJ (K:PySem.W.Frag)(n:Nat)(neg:Bool):R2:=fun x y H Q=>zp K n neg x y H Q
section
variable {X:Cx}
theorem lP (n:Nat)(hu:X.A.units+n<cLine):iT X (compareOp .Eq) (xJ X.K n false):=by
 intro pins s σ H x y v u Q I rx ry h;obtain⟨a,b,d,e,rfl,rfl,h1,h2,q⟩:=h;cases rx;cases ry;obtain⟨k,hk,hr⟩:=uc I n (A:=X.A) hu h1 h2 (fun hu'=>pT I n hu');exact hr _ _ _ _ ⟨.bl k,H,I,rfl,q k hk⟩
theorem nH (n:Nat)(hu:X.A.units+n<cLine):iT X (compareOp .NotEq) (xJ X.K n true):=by
 intro pins s σ H x y v u Q I rx ry h;obtain⟨a,b,d,e,rfl,rfl,h1,h2,q⟩:=h;cases rx;cases ry;obtain⟨k,hk,hr⟩:=ud I n (A:=X.A) hu h1 h2 (fun hu'=>pT I n hu');exact hr _ _ _ _ ⟨.bl (!k),H,I,rfl,q k hk⟩
end
open PySem PySem.Spec PyProof.Rows PySem.Calls
theorem uY:typeLookup (.type "list_reverseiterator") "__len__" = pure none:=by rw[typeLookup_type,builtinLookup_eq_fast];kernel_rfl
theorem tx:typeLookup (.type "list_reverseiterator") "__length_hint__" = pure (some (.builtin "list_reverseiterator.__length_hint__")):=by rw[typeLookup_type,builtinLookup_eq_fast];kernel_rfl
section
variable {prog:Program}{w:World}{A:Around}{E:Value->Shared->Prop}{s:Shared}{r d:Addr}{items:Array Value}
theorem ti {Q:Bool->Shared->Prop}(hT:s.TypeIs (.ref r) "list_reverseiterator")(h:Q false s):wpAny (model prog w) A (Builtin.List.listLengthHint (.ref r)) Q E s:=by
 unfold Builtin.List.listLengthHint;refine z4 (wpAny_specialOf hT uY ?_)
 wp_delta
 refine BM (fun hab=>absurd hab (by decide +kernel)) (fun _=>?_);refine BM (fun hab=>absurd hab (by decide +kernel)) (fun _=>?_);refine z4 (wpAny_specialOf hT tx ?_);generalize hid:("list_reverseiterator.__length_hint__" : String)=id0
 wp_delta
 rw[show splitId id0=some ("list_reverseiterator","__length_hint__") from by subst hid;decide +kernel];subst hid;refine z4 (wpAny_isInstance (T:="list_reverseiterator") (b:=true) hT (by rw[isSubtype_type];kernel_rfl) ?_);refine BM (fun hab=>absurd hab (by decide)) (fun _=>?_);refine BM (fun _=>?_) (fun hab=>absurd (by decide +kernel) hab);refine BM (fun hab=>absurd hab (by decide +kernel)) (fun _=>?_);exact Ac h
theorem pX {R:Result->Shared->Prop}(hh:A.handled=none)(hit:s.heap.IsRevIter r d ((items.size:Int)-1))(hl:s.heap.IsList d items)(hrd:d≠r)(S:Addr)(hSr:S≠r)(hSd:S≠d)(res:Value)(c0:Nat)(hS:s.heap.get? S=some { cls:=.type "list",data:=.seq #[] c0 })
  (hR:∀ h' tk acc' c',(∀ b o,b≠S->b≠r->s.heap.get? b=some o->h'.get? b=some o)->h'.get? S=some { cls:=.type "list",dict:=none,data:=.seq acc' c',slots:=#[] }->ItemsOf (fun i v=>items[items.size-1-i]? = some v) acc' items.size->R (.ok (.ret res)) { s with heap:=h',toks:=tk }) (hn:items.size<=sizeLine) :
  wpAny (model prog w) A.in1 (Builtin.List.listExtendWith (.ref S) (.ref r) res)
   (fun fin s'=>match fin with | .done f=>R (.ok f) s' | .again c'=>c'.quiet=true/\codeAny (model prog w) A c' R s') (fun e s'=>R (.error e) s') s:=by
 have hSf:S∉[r,d]:=by simp only[Aq,Bd,or_false,not_or];exact⟨hSr,hSd⟩
 have W:=Walks.listRev (prog:=prog) (w:=w) (A:=A.in1) hh r d hrd items;have hT:s.TypeIs (.ref r) "list_reverseiterator":=hit.typeIs;unfold Builtin.List.listExtendWith;refine z4 (wpAny_typeOf (T:="list_reverseiterator") hT ?_)
 have h1:Builtin.List.listSameRef (.ref S) (.ref r)=false:=by simp[Builtin.List.listSameRef,hSr]
 have h2:(Value.type "list_reverseiterator" == Value.type "list")=false:=by decide
 have h3:(Value.type "list_reverseiterator" == Value.type "tuple")=false:=by decide
 simp only[h1,h2,h3,Bool.or_false,Bs,if_false];refine z4 (wpAny_pyIter_revIter hit ?_);refine z4 (Bh (ti hT ?_));refine BM (fun hab=>absurd hab (by decide +kernel)) (fun _=>Ac ⟨Bv PySem.F.plain_extend_loop _,?_⟩);refine codeAny_extend_loopS W.toS hn S hSf res items.size 0 _ #[] c0 rfl (Au _) ⟨Au _,by simpa using hit,hl⟩ hS (ItemsOf.nil _) fun s' acc' c' hm hS' hacc=>?_;rw[Moved.eq_with hm];refine hR s'.heap s'.toks acc' c' (fun b o hb hbr e=>hm.heap b o (fun hmem=>?_) e) hS' hacc
 ·rcases Aq.mp hmem with e' | hmem
  ·exact hb e'
  ·exact hbr (Ap.mp hmem)
theorem mo {Q:Value->Shared->Prop}(hh:A.handled=none)(hit:s.heap.IsRevIter r d ((items.size:Int)-1))(hl:s.heap.IsList d items)(hrd:d≠r)(hn:items.size<=sizeLine)
  (hQ:∀ h' tk acc' c',(∀ b o,b≠r->s.heap.get? b=some o->h'.get? b=some o)->h'.get? s.heap.objs.size=some { cls:=.type "list",dict:=none,data:=.seq acc' c',slots:=#[] }->ItemsOf (fun i v=>items[items.size-1-i]? = some v) acc' items.size->Q (.ref s.heap.objs.size) { s with heap:=h',toks:=tk }) :
  wpAny (model prog w) A (call (.type "list") [.ref r]) Q E s:=by
 refine callType_codes (Q₁:=fun obj s1=>obj=.ref s.heap.objs.size/\s1={ s with heap:=s.heap.push { cls:=.type "list",data:=.seq #[] } }) PySem.F.called_list (PySem.F.typeCall_list_1 _) PySem.F.entry_list_init (code_list_new _ ⟨rfl,rfl⟩) fun obj s1 h1=>?_;obtain⟨rfl,rfl⟩:=h1;have hS:(s.heap.push { cls:=.type "list",data:=.seq #[] }).get? s.heap.objs.size=some { cls:=.type "list",data:=.seq #[] }:=Heap.get?_push_size _ rfl
 have hr:r<s.heap.objs.size:=by obtain⟨o,e,_⟩:=hit;exact Aa e
 have hd:d<s.heap.objs.size:=by obtain⟨o,e,_⟩:=hl;exact Aa e
 refine⟨⟨_,hS,rfl⟩,PySem.F.args_list_init_2 _ _,?_⟩
 show wpAny _ _ (do let old <-Builtin.List.listItems (.ref s.heap.objs.size);Builtin.List.listUpdate (.ref s.heap.objs.size) (fun _=>#[]);letGo old.toList.reverse;Builtin.List.listExtendWith (.ref s.heap.objs.size) (.ref r) .none) _ _ _
 refine z4 ?_;unfold Builtin.List.listItems;refine z4 (A1 hS rfl (Ac ?_))
 show wpAny _ _ (updateSeq s.heap.objs.size (fun _=>#[]) >>= fun _=>letGo (#[]:Array Value).toList.reverse >>= fun _=>Builtin.List.listExtendWith (.ref s.heap.objs.size) (.ref r) .none) _ _ _
 refine z4 (Be hS rfl ?_);have hS2:=Heap.get?_update_self (Obj.mapSeq (fun _=>(#[]:Array Value))) hS rfl
 have oth:∀ b o,s.heap.get? b=some o->((s.heap.push { cls:=.type "list",data:=.seq #[] }).update s.heap.objs.size (Obj.mapSeq (fun _=>(#[]:Array Value)))).get? b=some o :=
  fun b o e=>(Heap.get?_update_other _ _ (AG (Aa e))).trans (Heap.get?_push_of_some _ e)
 refine z4 (BQ ?_);refine pX (A:=A.in1) hh (hit.at fun o e=>oth _ _ e) (hl.at fun o e=>oth _ _ e) hrd s.heap.objs.size (AG hr) (AG hd) .none _ hS2 (fun h' tk acc' c' hk hS' hacc=>?_) hn;exact⟨rfl,hQ h' tk acc' c' (fun b o hb e=>hk b o (Al (Aa e)) hb (oth b o e)) hS' hacc⟩
end
def ui (K:PySem.W.Frag)(te:TE):TE:=fun σ H Q=>te σ H fun x H1=>∃ a xs,x=.ref a/\aR K H1 a xs/\∀ l,H1 l=none->Q (.ref l) (aD H1 l (.lst xs.reverse))
theorem lT {X:Cx}{e:Expr}{te:TE}{p p2 pos pos2:Pos}(hc:X.calm=true)(he:PE X e te)(hg:Gl X "list")(hm:X.mg "list" = none)(hg2:Gl X "reversed")(hm2:X.mg "reversed" = none)
  (hs:starEach [e] X.env=[(false,eval e X.env)]:=by rfl)
  (hs2:starEach [.Call (.Name "reversed" p2) [e] [] pos2] X.env=[(false,eval (.Call (.Name "reversed" p2) [e] [] pos2) X.env)]:=by rfl) :
  PE X (.Call (.Name "list" p) [.Call (.Name "reversed" p2) [e] [] pos2] [] pos) (ui X.K te):=by
 intro pins s σ H Q I h;refine AV (dD I hg hm boot_list ?_ (by decide) (by decide));refine AM ?_ hs2 rfl;rw[hs2];refine spliced_cons (AV (dD I hg2 hm2 boot_reversed ?_ (by decide) (by decide)));refine AM ?_ hs rfl;rw[hs];refine spliced_cons (bf (he pins s σ H _ I h) fun u s1 ⟨x,H1,I1,rx,a,xs,ex,hq,q⟩=>spliced_nil ?_);subst ex;cases rx;obtain⟨its,rv,pl,hz⟩:=I1.list hq;refine call_reversed_list pl.isList (spliced_nil ?_)
 have hlt:a<s1.heap.objs.size:=by obtain⟨o,n,e,_⟩:=pl;exact Aa e
 have hl:=rv.length;refine mo (r:=s1.heap.objs.size) (d:=a) (items:=its.toArray) (I1.ok.hd hc) ⟨_,Heap.get?_push_size _ rfl,rfl,rfl⟩ (pl.isList.at fun o e=>Heap.get?_push_of_some _ e) (Al hlt) (by rw[Aj];omega) fun h' tk acc' c' hk hS hacc=>?_
 have sz:(s1.heap.push (revObj a ((its.toArray.size:Int)-1))).objs.size=s1.heap.objs.size+1:=by rw[AR]
 have hge:s1.heap.objs.size<=(s1.heap.push (revObj a ((its.toArray.size:Int)-1))).objs.size:=by rw[sz];exact Nat.le_succ _
 have rr:Vals xs.reverse acc'.toList:=kX (by have:=hacc.1;simp at this;simp;omega) fun i y v e1 e2=>by
  have hv:=hacc.2 i v (by rw[<-Array.getElem?_toList];exact e2)
  have hi:i<xs.length:=by have:=(List.getElem?_eq_some_iff.mp e1).1;simpa using this
  rw[List.getElem?_reverse hi]at e1;obtain⟨u,eu,ru⟩:=rv.get e1
  have hv':its[its.length-1-i]? = some v:=by simpa using hv
  rw[hl]at eu;rw[eu]at hv';cases hv';exact ru
 refine⟨.ref _,_,I1.laid (t':=tk) (a:=(s1.heap.push (revObj a ((its.toArray.size:Int)-1))).objs.size) (o:=.lst xs.reverse) (fun b o e=>hk b o (Al (Aa e)) (Heap.get?_push_of_some _ e)) hge ⟨by rw[List.length_reverse];exact hz,acc'.toList,c',rr,by simpa using hS⟩,rfl,q _ (I1.hok.fresh hge)⟩
end L2
namespace Wz
open PySem L2
def fB (c:Int):Int:=if c<0 then -c else c
def gk (ns:List Int)(k:Int):Int:=if k<(ns.length:Int) then ns.getD k.toNat 0 else 0
def lj (k c:Int):Int :=
 let left:=fB c
 let number:=(k*(1+left*1234567891%2147483646)+left/2147483646)%2147483647
 if left%5=4 then number+997852516353 else number
def aq (P:Program)(w:World)(K:PySem.W.Frag)(mg:Str->Option Value)(base:Heap)(x:Str)(k:Nat)(ps:List Str)(sp:Sp):Prop :=
 ∃ (f:Addr)(fd:FuncData),bp P w K mg base dq k f fd ps sp/\mg x=some (.ref f)/\PySem.W.keepIn K (.ref f)=true/\fk K fd ps []
theorem aK {X:Cx}{x:Str}{k:Nat}{ps:List Str}{sp:Sp}{e:Expr}{es:List Expr}{t:TA}{p pos:Pos}(C:aq X.prog X.w X.K X.mg X.base x k ps sp)(hr:cw k X.A)(hg:Gl X x)(ha:PA X (e::es) t)
  (hdb:(x == ("__debug__" : Str))=false:=by decide) (he:starEach (e::es) X.env=(false,eval e X.env)::starEach es X.env:=by rfl) (hpl:(backTo pos (starEach es X.env)).any (·.1)=false:=by rfl) :
  PE X (.Call (.Name x p) (e::es) [] pos) (uh sp [] E0 t):=by
 obtain⟨f,fd,G,hm,hk,hb⟩:=C;exact rh G hr hg hm hk hb .nil fX ha hdb he hpl
theorem gS {X:Cx}(K:PySem.W.Frag)(hK:X.K=K:=by rfl):xb X (xM K):=by subst hK;exact ay
def bF (H:Hp)(l:Addr)(ps:List (Int×Int)):Prop:=∃ as:List Addr,H l=some (.lst (as.map V.ref))/\Paired (fun a (p:Int×Int)=>H a=some (.tup [.int p.1,.int p.2])) as ps
theorem bF.mono {H H':Hp}{l:Addr}{ps:List (Int×Int)}(r:bF H l ps)(s:av H H'):bF H' l ps:=by
 obtain⟨as,h,p⟩:=r;exact⟨as,s _ _ h,Paired.mapP p fun a q z=>s _ _ z⟩
theorem ac {H:Hp}{l:Addr}{o:HO}(h:H l=none):av H (aD H l o):=fun b u e=>by rw[ap (aH e h)];exact e
theorem bc {H H':Hp}{l:Addr}{o:HO}(s:av H H')(h:H l=none):av H (aD H' l o):=fun b u e=>by rw[ap (aH e h)];exact s b u e
theorem bQ {α β:Type}{F:α->β->Prop}:∀ {l:List α}{m:List β}{i:Nat}{a:α},Paired F l m->l[i]? = some a->∃ b,m[i]? = some b/\F a b
 | _,_,_,_,.nil,h=>by simp at h
 | _,_,0,_,.cons r _,h=>by simp at h;subst h;exact⟨_,rfl,r⟩
 | _,_,i+1,a,.cons _ t,h=>by
  obtain⟨b,e1,e2⟩:=bQ (i:=i) (a:=a) t (by simpa using h);exact⟨b,by simpa using e1,e2⟩
theorem aQ {α β:Type}{F:α->β->Prop}:∀ {l l':List α}{m m':List β},Paired F l m->Paired F l' m'->Paired F (l++l') (m++m')
 | _,_,_,_,.nil,s=>s
 | _,_,_,_,.cons r t,s=>.cons r (aQ t s)
theorem d9 {α β:Type}{F:α->β->Prop}:∀ {l:List α}{m:List β},Paired F l m->Paired F l.reverse m.reverse
 | _,_,.nil=>.nil
 | _,_,.cons r t=>by
  rw[List.reverse_cons,List.reverse_cons];exact aQ (d9 t) (.cons r .nil)
theorem bg {α β:Type}{f:α->β}{l:List α}{i:Nat}{y:β}(h:(l.map f)[i]? = some y):∃ x,l[i]? = some x/\y=f x:=by
 rw[List.getElem?_map]at h
 cases e:l[i]? with
 | none=>rw[e]at h;cases h
 | some x=>rw[e]at h;exact⟨x,rfl,(At h).symm⟩
theorem cu {te:TE}{a:Addr}{D:hJ}{σ:St}{H:Hp}(h:te σ H fun y H2=>∃ ys,H2 a=some (.lst ys)/\ys.length<sizeLine/\D.nx σ (aD H2 a (.lst (ys++[y])))):sG mG te a D σ H:=by
 unfold sG mG;dsimp only;rw[Ai rfl];exact h
inductive l7 (K:PySem.W.Frag) (vs:List V) (H:Hp) (Q:VK) (E_:XK):Prop
 | mk (a:Addr) (ns:List Int) (k:Int) (h_0:vs=[.ref a,.int k]) (h_1:aR K H a (ns.map V.int)) (h_2:0<=k) (h_3:Q (.int (gk ns k)) H):l7 K vs H Q E_
inductive jZ (vs:List V) (H:Hp) (Q:VK) (E_:XK):Prop
 | mk (c:Int) (h_0:vs=[.int c]) (h_1:Q (.int (fB c)) H):jZ vs H Q E_
inductive gZ (vs:List V) (H:Hp) (Q:VK) (E_:XK):Prop
 | mk (c m b:Int) (h_0:vs=[.int c,.int m,.int b]) (h_1:(0<=m/\m<=1000)) (h_2:(0<b/\b<1073741824)) (h_3:∀ (l:Addr)(ds:List Int),H l=none->(∀ d∈ds,0<=d/\d<b)->(ds.length:Int)<=m->Q (.ref l) (aD H l (.lst (ds.map V.int)))):gZ vs H Q E_
inductive g9 (vs:List V) (H:Hp) (Q:VK) (E_:XK):Prop
 | mk (k c:Int) (h_0:vs=[.int k,.int c]) (h_1:(0<=k/\k<=1000000)) (h_2:Q (.int (lj k c)) H):g9 vs H Q E_
inductive kU (vs:List V) (H:Hp) (Q:VK) (E_:XK):Prop
 | mk (i:Int) (h_0:vs=[.int i]) (h_1:Q (.bl true) H):kU vs H Q E_
inductive kS (vs:List V) (H:Hp) (Q:VK) (E_:XK):Prop
 | mk (a:Addr) (p:Int×Int) (h_0:vs=[.ref a]) (h_1:H a=some (.tup [.int p.1,.int p.2])) (h_2:Q (.bl true) H):kS vs H Q E_
inductive jA (K:PySem.W.Frag) (vs:List V) (H:Hp) (Q:VK) (E_:XK):Prop
 | mk (l:Addr) (xs:List V) (h_0:vs=[.ref l]) (h_1:aR K H l xs) (h_2:∀ l',H l'=none->Q (.ref l') (aD H l' (.lst xs.reverse))):jA K vs H Q E_
inductive pf (K:PySem.W.Frag) (vs:List V) (H:Hp) (Q:VK) (E_:XK):Prop
 | mk (a:Addr) (ns:List Int) (h_0:vs=[.ref a]) (h_1:aR K H a (ns.map V.int)) (h_2:ns.length<=63) (h_3:∀ H',Q (.bl true) H'):pf K vs H Q E_
def xG (p:Int×Int):Dt:=.sq true [.at (.int p.1),.at (.int p.2)]
def yU (ps:List (Int×Int)):Dt:=.sq false (ps.map xG)
theorem jW {K:PySem.W.Frag}{H:Hp}{l:Addr}{ps:List (Int×Int)}(r:bF H l ps):RD K H 2 (.ref l) (yU ps):=by
 obtain⟨as,h,p⟩:=r;refine RD.lst (aR.of h) ?_;clear h
 induction p with
 | nil=>exact .nil
 | cons h _ ih=>exact .cons (RD.tup (aG.of h) (.cons (RD.flat rfl 0) (.cons (RD.flat rfl 0) .nil))) ih
theorem qk {σ:St}{H:Hp}{Q:Option Int->Hp->Prop}(h:Q none H):rA σ H Q:=h
end Wz
namespace L2
open PySem PySem.Spec PyProof.Rows
def vw (g B:Heap)(e:Addr)(c:Value)(od:Option Addr)(fl:Value):Prop :=
 ∃ oe us T oT ts,g.get? e=some oe/\(oe.cls=c/\oe.dict=od)/\oe.data=.fields us/\us[1]? = some (.ref T)/\B.get? T=none/\T≠e/\g.get? T=some oT/\oT.data=.fields ts/\ts[3]? = some fl
def iY (B:Heap)(l:List Env)(e:Addr)(c:Value)(od:Option Addr)(g:Heap):Prop:=B.StaysIn g/\B.get? e=none/\g.FunFrames B l/\vw g B e c od .none
def vt (B:Heap)(l:List Env)(e:Addr)(c:Value)(od:Option Addr)(L:Addr)(g:Heap):Prop:=B.StaysIn g/\B.get? e=none/\g.FunFrames B l/\vw g B e c od (rawInt L)
theorem uM (f:Array Value->Array Value)(o:Obj):(Obj.mapFields f o).dict=o.dict:=by
 unfold Obj.mapFields;split<;>rfl
theorem iY.obj {B g:Heap}{l:List Env}{e:Addr}{c:Value}{od:Option Addr}(x:iY B l e c od g):∃ ob us,g.get? e=some ob/\ob.cls=c/\ob.dict=od/\ob.data=.fields us:=by
 obtain⟨_,_,_,oe,us,_,_,_,he,hc,hd,_⟩:=x;exact⟨oe,us,he,hc.1,hc.2,hd⟩
section
variable {M:Model}{A:Around}{E:Value->Shared->Prop}{s:Shared}{B:Heap}{env:Env}{outer:List Env}{L e:Addr}{od:Option Addr}{c:Value}
def yf (g g':Heap):Prop:=∀ b o,g.get? b=some o->(∀ us,o.data≠.fields us)->∃ sl,g'.get? b=some { o with slots:=sl }
theorem sS {oe:Obj}{us:Array Value}{head:Value}{hn:Bool}{Q:Unit->Shared->Prop}(fr:A.frames=some (env::outer))(hl:s.heap.FunFrames B (env::outer))(hf:env.frame=some L)
  (he:s.heap.get? e=some oe) (hk:B.StaysIn s.heap) (hb:B.get? e=none) (hd:oe.data=.fields us) (h1:1<us.size)
  (h:∀ g,B.StaysIn g->g.FunFrames B (env::outer)->vw g B e oe.cls oe.dict (rawInt L)->yf s.heap g->Q () { s with heap:=g }) :
  wpAny M A (do let a <-frameOf env;let pl <-entryPlaceOf L hn;let b <-EntryCells.newEntry head a .none (rawInt L) .none pl;setField (.ref e) 1 b) Q E s:=by
 have hne:e∉(env::outer).filterMap (·.frame):=fun z=>by
  obtain⟨_,o,ho,nf⟩:=hl.mem z;rw[he]at ho;cases ho;exact nf us hd
 refine z4 (wpAny_frameOf_fun fr hl hf fun g1 sl1=>z4 (wpAny_entryPlaceOf fun pl hpl=>?_));unfold EntryCells.newEntry newFields;refine z4 (A0 ?_ (hpl.sizeOk5 _ _ _ _ _));have e1:g1.get? e=some oe:=(sl1.2.1 e hne).trans he;have k1:B.StaysIn g1:=fun b o q=>(sl1.2.1 b fun z=>by rw[(hl.mem z).1]at q;cases q).trans (hk b o q);generalize hob:({ cls:=.type "traceback",dict:=none,data:=.fields ([head,.ref L,.none,rawInt L,.none]++(if pl.isEmpty then List.replicate 6 Value.none else pl)).toArray }:Obj)=ob
 have obd:ob.data=.fields ([head,.ref L,.none,rawInt L,.none]++(if pl.isEmpty then List.replicate 6 Value.none else pl)).toArray:=by rw[<-hob]
 have e2:=Heap.get?_push_of_some (h:=g1) ob e1;refine wpAny_setField e2 hd h1 ?_;have ne:g1.objs.size≠e:=AG (Aa e1);have d3:=BN hd (·.setIfInBounds 1 (Value.ref g1.objs.size));have e3:=Heap.get?_update_self (Obj.mapFields (·.setIfInBounds 1 (Value.ref g1.objs.size))) e2 (Obj.isFreed_of_fields d3)
 have keep:∀ b o,b≠e->g1.get? b=some o->((g1.push ob).update e (Obj.mapFields (·.setIfInBounds 1 (Value.ref g1.objs.size)))).get? b=some o:=fun b o n q=>by
  rw[Heap.get?_update_other _ _ (AK n)];exact Heap.get?_push_of_some _ q
 have nr:∀ b o,s.heap.get? b=some o->(∀ vs,o.data≠.fields vs)->b≠e:=fun b o q nf z=>by
  rw[z,he]at q;cases q;exact nf us hd
 refine h _ (fun b o q=>keep b o (fun z=>by rw[z,hb]at q;cases q) (k1 b o q)) (hl.of_keeps fun b o q nf=>?_) ?_ fun b o q nf=>?_
 ·obtain⟨sl,z⟩:=sl1.2.2 b o q
  exact⟨_,keep b _ (nr b o q nf) z,rfl⟩
 ·refine⟨_,_,g1.objs.size,ob,_,e3,⟨Obj.cls_mapFields _ _,uM _ _⟩,d3,by simp[h1],k1.fresh,ne,?_,obd,by first | (simp;done) | (rcases hpl with rfl | ⟨_,_,_,_,_,_,_,rfl⟩<;>simp)⟩
  rw[Heap.get?_update_other _ _ (AK ne)];exact Heap.get?_push_size g1 (by rw[<-hob];rfl)
 ·obtain⟨sl,z⟩:=sl1.2.2 b o q
  exact⟨sl,keep b _ (nr b o q nf) z⟩
theorem oS {oe:Obj}{us:Array Value}{Q:Unit->Shared->Prop}(fr:A.frames=some (env::outer))(hl:s.heap.FunFrames B (env::outer))(hf:env.frame=some L)
  (he:s.heap.get? e=some oe) (hk:B.StaysIn s.heap) (hb:B.get? e=none) (hd:oe.data=.fields us) (h1:us[1]? = some .none)
  (h:∀ g,B.StaysIn g->g.FunFrames B (env::outer)->vw g B e oe.cls oe.dict (rawInt L)->yf s.heap g->Q () { s with heap:=g }):wpAny M A (noteFrame (.ref e) env) Q E s:=by
 unfold noteFrame;simp only[hf];refine z4 (AN he hd h1 ?_);rw[Ag (by decide)];exact sS fr hl hf he hk hb hd (Array.getElem?_eq_some_iff.mp h1).1 h
theorem lH {Q:Unit->Shared->Prop}(fr:A.frames=some (env::outer))(hl:s.heap.FunFrames B (env::outer))(hf:env.frame=some L)(ht:vw s.heap B e c od .none)(hk:B.StaysIn s.heap)(hb:B.get? e=none)
  (h:∀ g,B.StaysIn g->g.FunFrames B (env::outer)->vw g B e c od (rawInt L)->yf s.heap g->Q () { s with heap:=g }):wpAny M A (noteFrame (.ref e) env) Q E s:=by
 obtain⟨oe,us,T,oT,ts,he,⟨rfl,rfl⟩,hd,h1,nT,ne,hT,dT,h3⟩:=ht;unfold noteFrame;simp only[hf];refine z4 (AN he hd h1 ?_);rw[Ai (show (Value.ref T != Value.none)=true by simp)];refine z4 (AN hT dT h3 ?_);rw[Ag (show ¬((Value.none == rawInt L)=true) by simp[rawInt])];refine z4 (wpAny_setField hT dT (Array.getElem?_eq_some_iff.mp h3).1 ?_);have ot:∀ b,b≠T->(s.heap.update T (Obj.mapFields (·.setIfInBounds 3 Value.none))).get? b=s.heap.get? b:=fun b z=>Heap.get?_update_other _ _ (AK z)
 have nr:∀ b o,s.heap.get? b=some o->(∀ vs,o.data≠.fields vs)->b≠T:=fun b o q nf z=>by
  rw[z,hT]at q;cases q;exact nf ts dT
 refine sS fr (hl.of_keeps fun b o q nf=>⟨o,(ot b (nr b o q nf)).trans q,rfl⟩) hf ((ot e (AK ne)).trans he) (fun b o q=>(ot b fun z=>by rw[z,nT]at q;cases q).trans (hk b o q)) hb hd (Array.getElem?_eq_some_iff.mp h1).1 fun g a1 a2 a3 a4=>h g a1 a2 a3 fun b o q nf=>?_;exact a4 b o ((ot b (nr b o q nf)).trans q) nf
theorem kF {l:List Env}{fl:Value}{Q:Unit->Shared->Prop}(hk:B.StaysIn s.heap)(hl:s.heap.FunFrames B l)(ht:vw s.heap B e c od fl)
  (h:∀ g,B.StaysIn g->g.FunFrames B l->vw g B e c od .none->s.heap.UpToSlots g->Q () { s with heap:=g }):wpAny M A (setFlight (.ref e) none) Q E s:=by
 obtain⟨oe,us,T,oT,ts,he,hc,hd,h1,nT,ne,hT,dT,h3⟩:=ht;have z3:3<ts.size:=(Array.getElem?_eq_some_iff.mp h3).1;have ot:∀ b,b≠T->(s.heap.update T (Obj.mapFields (·.setIfInBounds 3 ((none:Option Addr).elim Value.none fun f=>rawInt f)))).get? b=s.heap.get? b:=fun b z=>Heap.get?_update_other _ _ (AK z)
 have nr:∀ b o,s.heap.get? b=some o->(∀ vs,o.data≠.fields vs)->b≠T:=fun b o q nf z=>by
  rw[z,hT]at q;cases q;exact nf ts dT
 unfold setFlight;refine z4 (AN he hd h1 ?_);rw[Ai (show (Value.ref T != Value.none)=true by simp)];refine wpAny_setField hT dT z3 (h _ (fun b o q=>(ot b fun z=>by rw[z,nT]at q;cases q).trans (hk b o q)) (hl.of_keeps fun b o q nf=>⟨o,(ot b (nr b o q nf)).trans q,rfl⟩) ?_ fun b o q nf=>⟨o.slots,(ot b (nr b o q nf)).trans q⟩);exact⟨oe,us,T,_,_,(ot e (AK ne)).trans he,hc,hd,h1,nT,ne,Heap.get?_update_self _ hT (Obj.isFreed_of_fields (BN dT _)),BN dT _,by simp[z3]⟩
theorem ue {g g' g'':Heap}(a:yf g g')(b:g'.UpToSlots g''):g.UpToSlots g'':=fun x o q nf=>by
 obtain⟨sl,z⟩:=a x o q nf;obtain⟨sl2,z2⟩:=b x _ z nf;exact⟨sl2,z2⟩
theorem nh {oe:Obj}{us:Array Value}{Q:Unit->Shared->Prop}(fr:A.frames=some (env::outer))(hf:env.frame=some L)(hk:B.StaysIn s.heap)(hl:s.heap.FunFrames B (env::outer))
  (he:s.heap.get? e=some oe) (hb:B.get? e=none) (hd:oe.data=.fields us) (h1:us[1]? = some .none)
  (hq:∀ g,iY B outer e oe.cls oe.dict g->s.heap.UpToSlots g->Q () { s with heap:=g }):wpAny M A (leaving env (.ref e)) Q E s:=by
 unfold leaving;refine z4 (oS fr hl hf he hk hb hd h1 fun g a1 a2 a3 a4=>?_);exact kF (s:={ s with heap:=g }) a1 a2 a3 fun g2 b1 b2 b3 b4=>hq g2 ⟨b1,hb,b2.2.2,b3⟩ (ue a4 b4)
theorem p9 {Q:Unit->Shared->Prop}(fr:A.frames=some (env::outer))(hf:env.frame=some L)(fl:iY B (env::outer) e c od s.heap)
  (hq:∀ g,iY B outer e c od g->s.heap.UpToSlots g->Q () { s with heap:=g }):wpAny M A (leaving env (.ref e)) Q E s:=by
 obtain⟨f1,f2,f3,f4⟩:=fl;unfold leaving;refine z4 (lH fr f3 hf f4 f1 f2 fun g a1 a2 a3 a4=>?_);exact kF (s:={ s with heap:=g }) a1 a2 a3 fun g2 b1 b2 b3 b4=>hq g2 ⟨b1,f2,b2.2.2,b3⟩ (ue a4 b4)
theorem rZ {Q:Unit->Shared->Prop}(fr:A.frames=some (env::outer))(hf:env.frame=some L)(fl:iY B (env::outer) e c od s.heap)
  (hq:∀ g,vt B (env::outer) e c od L g->s.heap.UpToSlots g->Q () { s with heap:=g }):wpAny M A (noteFrame (.ref e) env) Q E s:=by
 obtain⟨f1,f2,f3,f4⟩:=fl;exact lH fr f3 hf f4 f1 f2 fun g a1 a2 a3 a4=>hq g ⟨a1,f2,a2,a3⟩ a4
theorem wv {l:List Env}{Q:Unit->Shared->Prop}(hh:vt B l e c od L s.heap)(hq:∀ g,iY B l e c od g->s.heap.UpToSlots g->Q () { s with heap:=g }):wpAny M A (setFlight (.ref e) none) Q E s:=by
 obtain⟨f1,f2,f3,f4⟩:=hh;exact kF f1 f3 f4 fun g a1 a2 a3 a4=>hq g ⟨a1,f2,a2,a3⟩ a4
theorem ng {l:List Env}{Q:Unit->Shared->Prop}(hh:iY B l e c od s.heap)(hq:∀ g,iY B l e c od g->s.heap.UpToSlots g->Q () { s with heap:=g }):wpAny M A (setFlight (.ref e) none) Q E s:=by
 obtain⟨f1,f2,f3,f4⟩:=hh;exact kF f1 f3 f4 fun g a1 a2 a3 a4=>hq g ⟨a1,f2,a2,a3⟩ a4
end
abbrev yG:List Value:=[.type "ValueError",.type "Exception",.type "BaseException",.type "object"]
def yJ (C t:Addr)(od:Option Addr):Obj:={ cls:=.ref C,dict:=od,data:=.fields #[.ref t,.none,.none,.none,.bool false,.none] }
abbrev dB (K:PySem.W.Frag)(C:Addr):Prop:=PySem.W.excIn K C yG "ValueError.__new__" = true
theorem uO {K:PySem.W.Frag}{h:Heap}{C:Addr}(X:K.In h)(q:dB K C) :
  ∃ bm N nm qn bs hdct sn sub ab col dd k0 k1 k2 k3 k5 mN,h.get? C=some (excClassObj nm qn C N bs bm hdct sn sub ab col dd k0 k1 k2 k3 k5 "ValueError.__new__")/\h.Ns N mN/\mN "__init__" = none/\OwnTail h yG bm:=by
 have q:PySem.W.excIn K C yG "ValueError.__new__" = true:=q;unfold PySem.W.excIn at q;split at q
 ·rename_i dd cd sl ho
  split at q
  ·rename_i C' bm k0 k1 k2 k3 n k5 hm hs
   simp only[Bc,beq_iff_eq,Bool.not_eq_true']at q;obtain⟨⟨⟨⟨⟨rfl,rfl⟩,hdel⟩,ht⟩,hok⟩,hni⟩:=q;obtain⟨nm,bs,mro,ns,qn,hd,sn,sub,ab,col,del⟩:=cd;dsimp only at hm hdel hok hni;subst hm hdel
   have hsl:sl = #[k0,k1,k2,k3,some (.builtin "ValueError.__new__"),k5]:=by
    obtain⟨l⟩:=sl;simp only at hs;rw[hs]
   subst hsl;exact⟨bm,ns,nm,qn,bs,hd,sn,sub,ab,col,dd,k0,k1,k2,k3,k5,_,X _ _ ho,.of_isNs (PySem.W.isNs_of_in X hok),PySem.W.nsMap_none_of_in X hok hni,PySem.W.tail_of_in X ht⟩
  ·cases q
 ·cases q
theorem bv.has {P:Program}{w:World}{H:Hp}{h:Heap}{a:Addr}{o:HO}(x:bv P w H h a o):∃ u,h.get? a=some u:=by
 cases o with
 | lst xs=>obtain⟨_,_,_,_,e⟩:=x;exact⟨_,e⟩
 | tup xs=>obtain⟨_,_,_,u,e,_⟩:=x;exact⟨u,e⟩
 | dK kvs=>obtain⟨_,_,_,_,o,_,_,e,_⟩:=x;exact⟨o,e⟩
 | dT kvs=>obtain⟨_,_,_,_,o,_,_,e,_⟩:=x;exact⟨o,e⟩
 | set S n=>obtain⟨o,_,_,_,e,_⟩:=x;exact⟨o,e⟩
 | ins C dx fs=>obtain⟨_,_,_,e,_⟩:=x;exact⟨_,e⟩
 | own y=>exact x
 | xd fs=>obtain⟨_,⟨o,_,_,e,_⟩,_⟩:=x;exact⟨o,e⟩
 | rng lo hi=>obtain⟨_,_,_,e⟩:=x;exact⟨_,e⟩
 | frz ob u=>obtain⟨e,_⟩:=x;exact⟨ob,e⟩
 | tbl ps=>exact⟨_,(show h.get? a=some _ from x)⟩
 | met f y=>exact⟨_,(show h.get? a=some _ from x)⟩
 | ext φ=>obtain⟨_,e,_⟩:=x;exact e
def iz (P:Program)(w:World):pJ:=fun outer H s E e s'=>∃ (ea C:Addr)(od:Option Addr)(H':Hp)(B:Heap),e=.ref ea/\iY B outer ea (.ref C) od s'.heap/\Un (gu outer) [] H H' s.heap s'.heap/\f8 P w H' s'.heap/\s'.os=s.os/\AllBare s'.gens /\
 (∀ b o,s.heap.get? b=some o->b∉gu outer->∃ o',B.get? b=some o')/\(∀ b o,H' b=some o->∃ o',B.get? b=some o')/\E (.ref C) od H'
theorem uv {fs:List Addr}{H H':Hp}{h h1 h2 B:Heap}(u:Un fs [] H H' h h1)(b1:B.StaysIn h1)(b2:B.StaysIn h2)(hb:∀ b o,h.get? b=some o->b∉fs->∃ o',B.get? b=some o')(sl:∀ b o,b∈fs->h.get? b=some o->H b=none->∃ sl,h2.get? b=some { o with slots:=sl })(th:∀ b o,b∈fs->h.get? b=some o->∃ o',h2.get? b=some o'):Un fs [] H H' h h2:=by
 have eq:∀ b o,h.get? b=some o->b∉fs->h2.get? b=h1.get? b:=fun b o e hf=>by
  obtain⟨o',e'⟩:=hb b o e hf;rw[b1 b o' e',b2 b o' e']
 refine⟨fun b o e n hf hx=>(eq b o e hf).trans (u.keep b o e n hf hx),fun b o e n hf hx=>sl b o hf e n,u.free,fun b o e hx=>?_,u.tups,u.frzs,u.tbls⟩
 by_cases hf:b∈fs
 ·exact th b o hf e
 ·rw[eq b o e hf];exact u.there b o e hx
theorem p6 {P:Program}{w:World}{H:Hp}{h1 h2 B:Heap}(x:f8 P w H h1)(b1:B.StaysIn h1)(b2:B.StaysIn h2)(hb:∀ b o,H b=some o->∃ o',B.get? b=some o'):f8 P w H h2:=fun a o e =>
 (x a o e).stay (fun b u hc q=>by
  have:∃ o',B.get? b=some o':=by
   rcases hc with z | z
   ·rw[z];exact hb a o e
   ·exact hb b _ z
  obtain⟨o',e'⟩:=this;rw[b1 b o' e']at q;rw[<-q]
  exact b2 b o' e') (fun _ q=>q) fun _ _ q=>q
def vq (X:Cx)(E:XK):Prop:=∀ (pins:List (Addr×Obj))(σ:St)(H:Hp)(s:Shared)(ea C t:Addr)(od:Option Addr),az X pins σ H s->s.heap.get? ea=some (yJ C t od)->H ea=none->X.s₀.heap.get? ea=none->E (.ref C) od H->X.xe (.ref ea) s
section
variable {P:Program}{w:World}{K:PySem.W.Frag}{mg:Str->Option Value}{base:Heap}{N:List Str}{qual:Str}{sc:Scope}{f:Addr}{cd:Value}{A:Around}{outer:List Env}{s0:Shared}{H0:Hp}{E:XK}
theorem gq:vq (lh (iz P w) P w K mg base N qual sc f cd A outer s0 H0 E) E:=by
 intro pins σ H s ea C t od I hx hn hs hE
 let X:Cx:=lh (iz P w) P w K mg base N qual sc f cd A outer s0 H0 E
 show wpAny _ _ (leaving _ _) _ _ _
 have hstk:(X.A.frames:Option (List Env))=some (X.env::outer):=I.ok.frames
 have frS:gu X.stack=X.env.locals::gu outer:=by unfold gu;rfl
 let B:Heap:=PySem.W.hideAll s.heap (ea::gu X.stack)
 have hkb:B.StaysIn s.heap:=fun b o q=>PySem.W.of_hideAll _ q;have inB:∀ b o,s.heap.get? b=some o->b≠ea->b∉gu X.stack->B.get? b=some o:=fun b o e ne hf=>PySem.W.hideAll_get _ e (fun z=>(Aq.mp z).elim ne hf);have hl:s.heap.FunFrames B (X.env::outer):=PySem.W.funFrames_hide I.stack fun env he a hf=>Ak _ (List.mem_filterMap.mpr ⟨env,he,hf⟩);refine nh (s:=s) hstk rfl hkb hl hx (PySem.W.hideAll_none _ Am) rfl rfl fun h2 fl ups=>?_;have ltl:∀ b o,s0.heap.get? b=some o->b≠X.env.locals:=fun b o e=>Al (As (Aa e) I.ok.above)
 have h0B:∀ b o,s0.heap.get? b=some o->b∉gu outer->∃ o',B.get? b=some o':=fun b o e hf=>by
  obtain⟨o',e'⟩:=I.base.there b o e (by intro z;exact absurd (show b∈([]:List Addr) from z) (by simp));refine⟨o',inB b o' e' (fun z=>?_) ?_⟩
  ·have hs':s0.heap.get? ea=none:=hs
   rw[z,hs']at e;cases e
  ·rw[frS]
   intro z;rcases Aq.mp z with z | z
   ·exact ltl b o e z
   ·exact hf z
 have trB:∀ b o,H b=some o->∃ o',B.get? b=some o':=fun b o e=>by
  obtain⟨u,q⟩:=(I.hok b o e).has;exact⟨u,inB b u q (fun z=>by rw[z,hn]at e;cases e) fun z=>by rw[I.stkFree b z]at e;cases e⟩
 have noEx:∀ b,b∉X.ex:=fun b z=>absurd (show b∈([]:List Addr) from z) (by simp)
 have slot2:∀ b o,b∈gu outer->s0.heap.get? b=some o->H0 b=none->∃ sl,h2.get? b=some { o with slots:=sl }:=fun b o hf e n=>by
  obtain⟨sl,e1⟩:=I.base.slot b o e n hf (noEx b);obtain⟨_,o2,ho2,hnf⟩:=I.ok.funs.mem hf
  have e2:o2=o:=by
   have:s0.heap.get? b=some o2:=ho2;rw[e]at this;exact (At this).symm
  subst e2;obtain⟨sl2,e3⟩:=ups b _ e1 hnf;exact⟨sl2,e3⟩
 refine⟨ea,C,od,H,B,rfl,fl,?_,p6 I.hok hkb fl.1 trB,I.os,I.bare,h0B,trB,hE⟩;refine uv (h1:=s.heap) I.base hkb fl.1 h0B (fun b o hf e n=>?_) fun b o hf e=>?_
 ·exact slot2 b o hf e n
 ·obtain⟨sl,q⟩:=slot2 b o hf e (I.ok.frf b hf)
  exact⟨_,q⟩
theorem kK:dC (iz P w) (lh (iz P w) P w K mg base N qual sc f cd A outer s0 H0 E) E:=by
 intro pins σ H s e s' I hc;obtain⟨ea,C,od,H',B,rfl,fl,un,hok,os,bare,hsB,trB,hE⟩:=hc
 let X:Cx:=lh (iz P w) P w K mg base N qual sc f cd A outer s0 H0 E
 show wpAny _ _ (leaving _ _) _ _ _
 have hstk:(X.A.frames:Option (List Env))=some (X.env::outer):=I.ok.frames
 have frS:gu X.stack=X.env.locals::gu outer:=by unfold gu;rfl
 refine p9 hstk rfl fl fun h2 fl2 ups=>?_;have ltl:∀ b o,s0.heap.get? b=some o->b≠X.env.locals:=fun b o e=>Al (As (Aa e) I.ok.above);have noEx:∀ b,b∉X.ex:=fun b z=>absurd (show b∈([]:List Addr) from z) (by simp)
 have h0B:∀ b o,s0.heap.get? b=some o->b∉gu outer->∃ o',B.get? b=some o':=fun b o e hf=>by
  obtain⟨o',e'⟩:=I.base.there b o e (noEx b);refine hsB b o' e' ?_;rw[frS];intro z;rcases Aq.mp z with z | z
  ·exact ltl b o e z
  ·exact hf z
 have unS:Un (gu outer) [] H0 H' s0.heap s'.heap:=by
  have u1:Un (gu outer) [] H0 H s0.heap s.heap:=I.base;refine⟨fun b o e n hf hx=>?_,fun b o e n hf hx=>?_,fun b o e n hx=>?_,fun b o e hx=>?_,fun b xs q=>un.tups b xs (u1.tups b xs q),fun b o u q=>un.frzs b o u (u1.frzs b o u q),fun b ps q=>?_⟩
  ·refine un.keep b o (u1.keep b o e n hf hx) (u1.free b o e n hx) ?_ hx
   rw[frS];intro z;rcases Aq.mp z with z | z
   ·exact ltl b o e z
   ·exact hf z
  ·obtain⟨sl,e1⟩:=u1.slot b o e n hf hx
   obtain⟨sl2,e2⟩:=un.slot b _ e1 (u1.free b o e n hx) (by rw[frS];exact Ak _ hf) hx;exact⟨sl2,e2⟩
  ·obtain⟨o',e'⟩:=u1.there b o e hx
   exact un.free b o' e' (u1.free b o e n hx) hx
  ·obtain⟨o',e'⟩:=u1.there b o e hx
   exact un.there b o' e' hx
  ·obtain⟨m1,e1⟩:=u1.tbls b ps q
   obtain⟨m2,e2⟩:=un.tbls b _ e1;exact⟨m1++m2,by rw[e2,Array.append_assoc]⟩
 have slot2:∀ b o,b∈gu outer->s0.heap.get? b=some o->H0 b=none->∃ sl,h2.get? b=some { o with slots:=sl }:=fun b o hf e n=>by
  obtain⟨sl,e1⟩:=unS.slot b o e n hf (by simp);obtain⟨_,o2,ho2,hnf⟩:=I.ok.funs.mem hf
  have e2:o2=o:=by
   have:s0.heap.get? b=some o2:=ho2;rw[e]at this;exact (At this).symm
  subst e2;obtain⟨sl2,e3⟩:=ups b _ e1 hnf;exact⟨sl2,e3⟩
 refine⟨ea,C,od,H',B,rfl,fl2,?_,p6 hok fl.1 fl2.1 trB,os.trans I.os,bare,h0B,trB,hE⟩;refine uv (h1:=s'.heap) unS fl.1 fl2.1 h0B (fun b o hf e n=>slot2 b o hf e n) fun b o hf e=>?_;obtain⟨sl,q⟩:=slot2 b o hf e (I.ok.frf b hf);exact⟨_,q⟩
end
theorem az.fresh0 {X:Cx}{pins:List (Addr×Obj)}{σ:St}{H:Hp}{s:Shared}{a:Addr}(I:az X pins σ H s)(hx:a∉X.ex)(h:s.heap.get? a=none):X.s₀.heap.get? a=none:=by
 cases e:X.s₀.heap.get? a with
 | none=>rfl
 | some o =>
  obtain⟨o',q⟩:=I.base.there a o e hx;rw[h]at q;cases q
theorem az.unheld {X:Cx}{pins:List (Addr×Obj)}{σ:St}{H:Hp}{s:Shared}{a:Addr}(I:az X pins σ H s)(h:s.heap.get? a=none):H a=none:=by
 cases e:H a with
 | none=>rfl
 | some o =>
  obtain⟨u,q⟩:=(I.hok a o e).has;rw[h]at q;cases q
def wN (te:TE)(C:Addr)(E:XK):TS:=fun _ σ H=>te σ H fun _ H1=>E (.ref C) none H1
theorem gF {X:Cx}{C:Addr}{E:XK}{x:Str}{e:Expr}{te:TE}{np cpos pos:Pos}(q:dB X.K C)(hfl:vq X E)(hex:X.ex=[])(hh:X.A.handled=none)(hg:Gl X x)(hm:X.mg x=some (.ref C))(he:PE X e te)
  (hdb:(x == ("__debug__" : Str))=false:=by decide) (hs:starEach [e] X.env=[(false,eval e X.env)]:=by rfl) :
  PS X (.Raise (some (.Call (.Name x np) [e] [] cpos)) none pos) (wN te C E):=by
 intro pins s σ H D I h;obtain⟨bm,N,nm,qn,bs,hdct,sn,sub,ab,col,dd,k0,k1,k2,k3,k5,mN,hC,hN,hni,T⟩:=uO I.ok.mod.kin q
 refine wpAny_Raise_call_subT (C:=C) (nm:=nm) (q:=qn) (N:=N) (bs:=bs) (bm:=bm) (hdct:=hdct) (sn:=sn) (sub:=sub) (ab:=ab) (col:=col) (dd:=dd) (k0:=k0) (k1:=k1) (k2:=k2) (k3:=k3) (k5:=k5)
  PySem.F.excBase_ValueError (mN:=mN) (T.hasType PySem.F.excBase_ValueError.hasBase) hh (by rw[hs];rfl) hni (jd I hg hm ⟨rfl,?_⟩ hdb)
 rw[hs];refine Calls.evalArgs_plain (Calls.spliced_cons (bf (he pins s σ H _ I h) fun u s1 ⟨v,H1,I1,rv,q1⟩=>Calls.spliced_nil ?_));refine⟨rfl,(show 1<=sizeLine by decide),I1.bk _ _ hC,hN.keeps I1.bk,T.keeps I1.bk,fun h' ea hx=>?_⟩;obtain⟨t,hea,_,_⟩:=hx.there;exact hfl pins σ H1 { s1 with heap:=h' } ea C t none (I1.kept (t':=s1.toks) hx.keeps) hea (I1.unheld hx.new) (I1.fresh0 (by rw[hex];simp) hx.new) q1
def vW (X:Cx)(pins:List (Addr×Obj))(σ:St)(H:Hp)(ea C:Addr)(od:Option Addr)(B:Heap)(s':Shared):Prop:=H ea=none/\∀ h2,iY B X.stack ea (.ref C) od h2->s'.heap.UpToSlots h2->az X pins σ H { s' with heap:=h2 }
theorem uV {X:Cx}{pins:List (Addr×Obj)}{σ:St}{H H':Hp}{s s':Shared}{ea C:Addr}{od:Option Addr}{B:Heap}(I:az X pins σ H s)(fl:iY B X.stack ea (.ref C) od s'.heap)(un:Un (gu X.stack) [] H H' s.heap s'.heap)(hok:f8 X.prog X.w H' s'.heap)(os:s'.os=s.os)(bare:AllBare s'.gens)
  (hsB:∀ b o,s.heap.get? b=some o->b∉gu X.stack->∃ o',B.get? b=some o') (trB:∀ b o,H' b=some o->∃ o',B.get? b=some o'):vW X pins σ H' ea C od B s':=by
 refine⟨?_,fun h2 fl2 ups=>?_⟩
 ·cases e:H' ea with
  | none=>rfl
  | some o =>
   obtain⟨o',q⟩:=trB ea o e;rw[fl.2.1]at q;cases q
 have slot2:∀ b o,b∈gu X.stack->s.heap.get? b=some o->H b=none->∃ sl,h2.get? b=some { o with slots:=sl }:=fun b o hf e n=>by
  obtain⟨sl,e1⟩:=un.slot b o e n hf (by simp);obtain⟨_,o2,ho2,hnf⟩:=I.stack.mem hf
  have e2:o2=o:=by
   have:s.heap.get? b=some o2:=ho2;rw[e]at this;exact (At this).symm
  subst e2;obtain⟨sl2,e3⟩:=ups b _ e1 hnf;exact⟨sl2,e3⟩
 refine I.call' (ch:=[]) (s':={ s' with heap:=h2 }) os ?_ (p6 hok fl.1 fl2.1 trB) bare fun b z=>absurd z (by simp);refine uv (h1:=s'.heap) un fl.1 fl2.1 hsB (fun b o hf e n=>slot2 b o hf e n) fun b o hf e=>?_;obtain⟨sl,q⟩:=slot2 b o hf e (I.stkFree b hf);exact⟨_,q⟩
def Cx.marked (X:Cx)(ea:Addr)(oe:Obj):Cx:={ X with A:=X.A.mark (some (.ref ea)),calm:=false,xe:=fun _ _=>False,pn:=(ea,oe)::X.pn }
theorem az.marked {X:Cx}{pins:List (Addr×Obj)}{σ:St}{H:Hp}{s:Shared}{ea:Addr}{oe:Obj}{us:Array Value}(I:az X pins σ H s)(he:s.heap.get? ea=some oe)(hd:oe.data=.fields us)(hn:H ea=none):az (X.marked ea oe) pins σ H s:=by
 refine⟨⟨I.ok.mod,I.ok.kind,I.ok.glob,I.ok.blt,I.ok.above,I.ok.inj,I.ok.has,I.ok.cab,fun z=>(by cases z),I.ok.frames,I.ok.stk,I.ok.exf,I.ok.bs,I.ok.bsz,I.ok.noex,I.ok.exfs,I.ok.funs,I.ok.frf⟩,I.os,I.bare,I.base,I.loc,I.cell,I.free,I.freeC,fun p hp=>?_,I.hok,I.len⟩;rcases Aq.mp (show p∈(ea,oe)::(X.pn++pins) from hp) with z | z
 ·subst z
  refine⟨he,hn,fun z=>?_,fun z=>?_,fun v z=>?_⟩
  ·obtain⟨m,⟨o,es,ep,ho,hdd,_⟩,_⟩:=I.loc
   have z:ea=X.env.locals:=z;rw[<-z,he]at ho;cases ho;rw[hd]at hdd;cases hdd
  ·obtain⟨_,o,ho,nf⟩:=I.funs.mem z
   rw[he]at ho;cases ho;exact nf us hd
  ·have z:oe.data=.cell v:=z
   rw[hd]at z;cases z
 ·exact I.pin p z
theorem az.unmarked {X:Cx}{pins:List (Addr×Obj)}{σ:St}{H:Hp}{s:Shared}{ea:Addr}{oe:Obj}(ok:X.Ok)(I:az (X.marked ea oe) pins σ H s):az X pins σ H s :=
 ⟨ok,I.os,I.bare,I.base,I.loc,I.cell,I.free,I.freeC,fun p hp=>I.pin p (show p∈(ea,oe)::(X.pn++pins) from Ak _ hp),I.hok,I.len⟩
theorem SP.unmarked {X:Cx}{pins:List (Addr×Obj)}{D:hJ}{f:Flow}{s':Shared}{ea:Addr}{oe:Obj}(ok:X.Ok)(h:SP (X.marked ea oe) pins D f s'):SP X pins D f s':=by
 cases f with
 | next=>obtain⟨σ',H',I,q⟩:=h;exact⟨σ',H',I.unmarked ok,q⟩
 | brk=>obtain⟨σ',H',I,q⟩:=h;exact⟨σ',H',I.unmarked ok,q⟩
 | cont=>obtain⟨σ',H',I,q⟩:=h;exact⟨σ',H',I.unmarked ok,q⟩
 | ret u=>obtain⟨v,σ',H',I,r,q⟩:=h;exact⟨v,σ',H',I.unmarked ok,r,q⟩
def ye (X:Cx)(hdl:List ExceptHandler)(th:Value->Option Addr->TS):Prop:=∀ (pins:List (Addr×Obj))(σ:St)(H:Hp)(D:hJ)(ea C:Addr)(od:Option Addr)(B:Heap)(s':Shared)(h:Heap),vW X pins σ H ea C od B s'->iY B X.stack ea (.ref C) od h->s'.heap.UpToSlots h->th (.ref C) od D σ H ->
 wpAny (model X.prog X.w) X.A (handleBy (.ref ea) X.env hdl) (SP X pins D) X.xe { s' with heap:=h }
theorem js {X:Cx}{y:Str}{C1:Addr}{b0:Stmt}{suite:List Stmt}{t1:TS}{th:Value->Option Addr->TS}{np pos:Pos}{rest:List ExceptHandler}(hg:Gl X y)(hm:X.mg y=some (.ref C1))(hs:∀ ea oe,pO (X.marked ea oe) (b0::suite) t1)(hr:ye X rest th)
  (hdb:(y == ("__debug__" : Str))=false:=by decide):ye X (.ExceptHandler (some (.Name y np)) none (b0::suite) pos::rest) (fun cls od D σ H=>∃ b,PySem.W.exmOne X.K cls (.ref C1)=some b/\if b=true then t1 D σ H else th cls od D σ H):=by
 intro pins σ H D ea C od B s' h ld fl ups ht;obtain⟨b,hb,ht⟩:=ht;have I:=ld.2 h fl ups;obtain⟨ob,us,hob,hobc,hobd,hobf⟩:=fl.obj;have Im:=I.marked (ea:=ea) hob hobf ld.1
 have LT:PySem.W.Looks (model X.prog X.w) h (typeOf (.ref ea)) (.ref C):=by
  rw[<-hobc];exact (PySem.W.Looks.ld hob).andThen .now
 refine wpAny_handleBy_cons (codeAny_handlers_test (jd (X:=X.marked ea ob) Im hg hm ?_ hdb)) (by intro z;cases z);refine (PySem.W.exm_one (K:=X.K) I.kIn LT hb).here ?_
 cases b with
 | true =>
  rw[Ai rfl]at ht;refine codeAny_handlers_suite ?_;refine ng fl fun h6 fl6 ups6=>?_;obtain⟨oe,us6,hoe,hoec,hoed,hoef⟩:=fl6.obj;have I6:=(ld.2 h6 fl6 (ups.trans ups6)).marked (ea:=ea) hoe hoef ld.1;exact AA (hs ea oe pins _ σ H D I6 ht) (fun f s2 hq=>hq.unmarked I.ok) fun _ _ z=>z.elim
 | false =>
  rw[Ag Ae]at ht;exact hr pins σ H D ea C od B s' h ld fl ups ht
theorem tT {X:Cx}:ye X [] (fun _ _ _ _ _=>False):=fun _ _ _ _ _ _ _ _ _ _ _ _ _ h=>h.elim
theorem dM.okX {P:Program}{w:World}{K:PySem.W.Frag}{mg:Str->Option Value}{base:Heap}{x qual:Str}{st:Stmt}{f:Addr}{fd:FuncData}{N ps:List Str}{k:Nat}{sp:Sp}(F:dM K x qual st f fd)(S:aE N ps (ah st))(len:∀ vs H Q E,sp vs H Q E->vs.length=ps.length)
  (hbody:∀ (cdv:Value)(A:Around)(outer:List Env)(s:Shared)(H:Hp)(vs:List V)(Q:VK)(E:XK),cw k (A.deeper (envOfC qual (ah st) s.heap.objs.size f cdv))->sp vs H Q E ->
   ∃ t,pO (lh (iz P w) P w K mg base N qual (ah st) f cdv A outer s H E) (c6 st) t/\t { nx:=fun _ H'=>Q .non H',rt:=Q } (jB N vs) H):bp P w K mg base (iz P w) (k+1) f fd ps sp:=by
 obtain⟨oc,od,kV,doc,pm,an,cdv,ct,osl,rfl,lk,hcd⟩:=F.ex;exact vz lk hcd S len fun A outer s H vs Q E hr hsp=>hbody cdv A outer s H vs Q E hr hsp
def PJ (X:Cx)(es:List Expr)(t:TA):Prop:=∀ (out:Str)(m:Nat)(pins:List (Addr×Obj))(s:Shared)(σ:St)(H:Hp)(Q:VK),out.length<=1000*m->m+es.length<=100->az X pins σ H s->t σ H (fun _ H'=>∀ x:Str,Q (.str x) H')->wpAny (model X.prog X.w) X.A (joinParts out (evalEach es X.env)) (EP X pins σ Q) X.xe s
theorem qr {X:Cx}:PJ X [] n8:=by
 intro out m pins s σ H Q ho hm I h;refine joinParts_nil ⟨.str out,H,I.tok _,⟨_,rfl⟩,h out⟩ ?_;exact AX ho (AX (Nat.mul_le_mul_left 1000 (show m<=100 by simpa using hm)) (by decide))
def tJ (te:TE)(t:TA):TA:=fun σ H Q=>te σ H fun x H1=>∃ y:Str,x=.str y/\y.length<=1000/\t σ H1 Q
theorem eV {X:Cx}{e:Expr}{es:List Expr}{te:TE}{t:TA}(he:PE X e te)(h:PJ X es t):PJ X (e::es) (tJ te t):=by
 intro out m pins s σ H Q ho hm I hq
 show wpAny _ _ (joinParts out (eval e X.env::evalEach es X.env)) _ _ s
 refine joinParts_cons (bf (he pins s σ H _ I hq) fun u s1 ⟨x,H1,I1,rx,y,ex,hy,q1⟩=>?_);subst ex;obtain⟨tk,rfl⟩:=rx
 have hl:(out++y).length<=1000*(m+1):=by rw[strLen_append];omega
 rw[AT]at hm;refine⟨AX hl (AX (Nat.mul_le_mul_left 1000 (show m+1<=100 by omega)) (by decide)),?_⟩;exact h (out++y) (m+1) pins s1 σ H1 Q hl (by omega) I1 q1
def zP (t:TA):TE:=fun σ H Q=>t σ H fun _ H'=>∀ x:Str,Q (.str x) H'
theorem nJ {X:Cx}{e1 e2:Expr}{es:List Expr}{t:TA}{pos:Pos}(h:PJ X (e1::e2::es) t)(hn:(e1::e2::es).length<=100:=by decide):PE X (.JoinedStr (e1::e2::es) pos) (zP t):=by
 intro pins s σ H Q I hq;refine JoinedStr_many ?_;exact h Str.empty 0 pins s σ H Q (by show 0<=_;exact Au _) (by simpa using hn) I hq
def zO (te:TE):TE:=fun σ H Q=>te σ H fun x H1=>∃ i:Int,x=.int i/\i.natAbs<10 ^ 100/\∀ y:Str,y.length<=1000->Q (.str y) H1
theorem va {X:Cx}{e:Expr}{te:TE}{pos:Pos}(he:PE X e te):PE X (.FormattedValue e (-1) none pos) (zO te):=by
 intro pins s σ H Q I h;refine FormattedValue_plain (bf (he pins s σ H _ I h) fun u s1 ⟨x,H1,I1,rx,i,ex,hi,q⟩=>?_);subst ex;obtain⟨tk,rfl⟩:=rx
 have hd:i.natAbs.log2<1920:=by
  by_cases h0:i.natAbs=0
  ·rw[h0];decide
  ·exact (Nat.log2_lt h0).mpr (As hi (by decide +kernel))
 refine wpAny_formatField_int hd ⟨.str (toString i),H1,I1.tok _,⟨_,rfl⟩,q _ ?_⟩;have:=PySem.int_text_length_le10 (a:=i) (k:=100) (by decide) hi
 show (Str.ofString (toString i)).length<=1000
 rw[PySem.ofString_length];omega
end L2
namespace Wz
open PySem L2
def aS (P:Program)(w:World)(K:PySem.W.Frag)(mg:Str->Option Value)(base:Heap)(CX:pJ)(C:Addr)(m:Str)(k:Nat)(ps:List Str)(sp:Sp):Prop :=
 ∃ (f:Addr)(fd:FuncData),bp P w K mg base CX k f fd ps sp/\uG K C m f/\fk K fd ps []
def iZ (P:Program)(w:World)(K:PySem.W.Frag)(mg:Str->Option Value)(base:Heap)(x:Str)(k:Nat)(ps:List Str)(sp:Sp):Prop :=
 ∃ (f:Addr)(fd:FuncData),bp P w K mg base (iz P w) k f fd ps sp/\mg x=some (.ref f)/\PySem.W.keepIn K (.ref f)=true/\fk K fd ps []
section
variable {X:Cx}{CX:pJ}{k:Nat}{C:Addr}{ps:List Str}{sp:Sp}{E:XK}{m x:Str}{p pos apos:Pos}{e o:Expr}{es:List Expr}{ta:TE}{t:TA}
theorem fu {pl:Sem Bool}(M:aS X.prog X.w X.K X.mg X.base CX C m k ps sp)(he:PE X o ta)(c:qF X.K C)(hr:cw k X.A)(hx:dC CX X E)(ha:PA X (e::es) t)
  (hst:starEach (e::es) X.env=(false,eval e X.env)::starEach es X.env:=by rfl) (hpl:(backTo pos (starEach es X.env)).any (·.1)=false:=by rfl)
  (ht:eval (.Call (.Attribute o m apos) (e::es) [] pos) X.env=(do
   let ov <-eval o X.env
   standAt apos.atName
   let (f,first) <-holding [ov] (getMethod ov m pl)
   callWith pos f first (backTo pos (starEach (e::es) X.env)) (backToKw pos (keywordEach [] X.env))):=by rfl) :
  PE X (.Call (.Attribute o m apos) (e::es) [] pos) (pk C m sp [] E ta t):=by
 obtain⟨f,fd,G,hm,hb⟩:=M;exact vc he c hm G hr hb .nil hx ha hst hpl ht
theorem tX {pl:Sem Bool}(M:aS X.prog X.w X.K X.mg X.base CX C m k ps sp)(he:PE X o ta)(c:qF X.K C)(hr:cw k X.A)(hx:dC CX X E)
  (ht:eval (.Call (.Attribute o m apos) [] [] pos) X.env=(do
   let ov <-eval o X.env
   standAt apos.atName
   let (f,first) <-holding [ov] (getMethod ov m pl)
   callWith pos f first (backTo pos (starEach [] X.env)) (backToKw pos (keywordEach [] X.env))):=by rfl) :
  PE X (.Call (.Attribute o m apos) [] [] pos) (pk C m sp [] E ta n8):=by
 obtain⟨f,fd,G,hm,hb⟩:=M;exact tS he c hm G hr hb .nil hx ht
theorem t9 (M:iZ X.prog X.w X.K X.mg X.base x k ps sp)(hr:cw k X.A)(hg:Gl X x)(hx:dC (iz X.prog X.w) X E)(ha:PA X (e::es) t)
  (hdb:(x == ("__debug__" : Str))=false:=by decide) (he:starEach (e::es) X.env=(false,eval e X.env)::starEach es X.env:=by rfl) (hpl:(backTo pos (starEach es X.env)).any (·.1)=false:=by rfl) :
  PE X (.Call (.Name x p) (e::es) [] pos) (uh sp [] E t):=by
 obtain⟨f,fd,G,hm,hk,hb⟩:=M;exact rh G hr hg hm hk hb .nil hx ha hdb he hpl
end
theorem tj {A:Around}{k n:Nat}(hr:cw k A)(h:n<=200):A.units+n<cLine:=by have:=hr.un;omega
end Wz
namespace L2
open PySem PySem.Spec PyProof.Rows
theorem tL {X:Cx}{P:Program}{w:World}:dC (iz P w) X (fun _ _ _=>False):=by
 intro pins σ H s e s' I hc;obtain⟨ea,C,od,H',B,rfl,fl,un,hok,os,bare,hsB,trB,hE⟩:=hc;exact hE.elim
def Cx.tried (X:Cx)(pins:List (Addr×Obj))(E:Value->Shared->Prop):Cx:={ X with xe:=E,pn:=X.pn++pins }
theorem az.tried {X:Cx}{pins:List (Addr×Obj)}{σ:St}{H:Hp}{s:Shared}{E:Value->Shared->Prop}(I:az X pins σ H s):az (X.tried pins E) [] σ H s :=
 ⟨⟨I.ok.mod,I.ok.kind,I.ok.glob,I.ok.blt,I.ok.above,I.ok.inj,I.ok.has,I.ok.cab,I.ok.hd,I.ok.frames,I.ok.stk,I.ok.exf,I.ok.bs,I.ok.bsz,I.ok.noex,I.ok.exfs,I.ok.funs,I.ok.frf⟩,I.os,I.bare,I.base,I.loc,I.cell,I.free,I.freeC,fun p hp=>I.pin p (by
  have hp:p∈(X.pn++pins)++[]:=hp
  rwa [Bt]at hp),I.hok,I.len⟩
theorem az.untried {X:Cx}{pins qins:List (Addr×Obj)}{σ:St}{H:Hp}{s:Shared}{E:Value->Shared->Prop}(I:az (X.tried pins E) qins σ H s):az X pins σ H s :=
 ⟨⟨I.ok.mod,I.ok.kind,I.ok.glob,I.ok.blt,I.ok.above,I.ok.inj,I.ok.has,I.ok.cab,I.ok.hd,I.ok.frames,I.ok.stk,I.ok.exf,I.ok.bs,I.ok.bsz,I.ok.noex,I.ok.exfs,I.ok.funs,I.ok.frf⟩,I.os,I.bare,I.base,I.loc,I.cell,I.free,I.freeC,fun p hp=>I.pin p (by
  show p∈(X.pn++pins)++qins
  exact List.mem_append_left _ hp),I.hok,I.len⟩
theorem az.turned2 {X:Cx}{pins:List (Addr×Obj)}{σ:St}{H:Hp}{s:Shared}{h':Heap}{t':Nat}{e it:Addr}(I:az X pins σ H s)(k:∀ b o,b≠e->b≠it->s.heap.get? b=some o->h'.get? b=some o)(fe:eE X pins H e)(fi:eE X pins H it):az X pins σ H { s with heap:=h',toks:=t' }:=by
 obtain⟨e0,e1,e2,e3,e4,e5⟩:=fe;obtain⟨i0,i1,i2,i3,i4,i5⟩:=fi;have nit:∀ b u,H b=some u->b≠e/\b≠it:=fun b u q=>⟨(fun z=>by rw[z,e0]at q;cases q),(fun z=>by rw[z,i0]at q;cases q)⟩
 have nn:∀ b,b∉[e,it]->b≠e/\b≠it:=fun b hb=>by simpa using hb
 refine I.step (g':=s.gens) (d':=s.drawn) (ch:=[e,it]) (fun b hb=>?_) (fun b o _ _ hc q _=>k b o (nn b hc).1 (nn b hc).2 q) (fun b o _ _ hc q _=>⟨o.slots,k b o (nn b hc).1 (nn b hc).2 q⟩) (fun _ _ _ _ n=>n)
  (fun b o hc q=>⟨o,k b o (nn b hc).1 (nn b hc).2 q⟩) (fun _ _ q=>q) (fun _ _ _ q=>q) (fun b ps q=>⟨#[],by rw[q];simp⟩) (fun m hm=>?_) (fun b u q=>?_) I.bare
 ·have hb:b=e\/b=it:=by simpa using hb
  rcases hb with rfl | rfl
  ·exact⟨e3,e1,e4,e5⟩
  ·exact⟨i3,i1,i4,i5⟩
 ·obtain⟨o,es,ep,ho,r⟩:=hm
  exact⟨o,es,ep,k _ o (AK e1) (AK i1) ho,r⟩
 ·refine (I.hok b u q).stay (fun c v hc z=>k c v ?_ ?_ z) (fun _ z=>z) fun _ _ z=>z
  ·rcases hc with z | z
   ·rw[z];exact (nit b u q).1
   ·exact (nit c _ z).1
  ·rcases hc with z | z
   ·rw[z];exact (nit b u q).2
   ·exact (nit c _ z).2
theorem rG {X:Cx}:eI X (.builtin "len") (fun xs H Q=>∃ p S n,xs=[.ref p]/\H p=some (.set S n)/\Q (.int n) H):=by
 intro pins s σ H xs us Q I r h;obtain⟨p,S,n,rfl,hp,q⟩:=h;obtain⟨u,rfl,rx⟩:=fY r;cases rx;obtain⟨o,es,ep,t,ho,hex,hd,_,_,hb,hf,hn⟩:=(show s.heap.SetOf (intKind X.prog X.w) p S n from I.hok p _ hp);subst hn;refine call_len_set ho hex hd hf ?_ ⟨.int es.size,H,I.tok _,⟨_,rfl⟩,q⟩;have:es.size<4096:=hb;omega
theorem mq (elt t0 i0:Expr)(c0:List Expr)(t1 i1:Expr)(c1:List Expr)(scope:Scope)(pos:Pos)(it acc:Value)(env:Env) :
  compTurn (.ListComp elt [⟨t0,i0,c0,0⟩,⟨t1,i1,c1,0⟩] scope pos) 0 it acc env=(do
   standAt i0.pos
   match <-pyNext it with
   | none=>pure (.done .next)
   | some v =>
    letOwnedTupleGo t0 it v
    assign t0 env v
    let mut ok:=true
    for c in c0 do
     if ok then ok <-isTrue c env (eval c env)
    if ok then
     let x <-eval i1 env
     standAt i1.pos
     let x <-foldedSetIterable i1 env x
     let it1 <-holding [x] (pyIter x)
     let _ <-runOwn (.compStart (.ListComp elt [⟨t0,i0,c0,0⟩,⟨t1,i1,c1,0⟩] scope pos) 1 it1 acc env) env
     again (.compLoop (.ListComp elt [⟨t0,i0,c0,0⟩,⟨t1,i1,c1,0⟩] scope pos) 0 it acc env)
    else
     again (.compLoop (.ListComp elt [⟨t0,i0,c0,0⟩,⟨t1,i1,c1,0⟩] scope pos) 0 it acc env)):=by rfl
theorem mr (elt t0 i0:Expr)(c0:List Expr)(t1 i1:Expr)(c1:List Expr)(scope:Scope)(pos:Pos)(it acc:Value)(env:Env) :
  compTurn (.ListComp elt [⟨t0,i0,c0,0⟩,⟨t1,i1,c1,0⟩] scope pos) 1 it acc env=(do
   standAt i1.pos
   match <-pyNext it with
   | none=>pure (.done .next)
   | some v =>
    letOwnedTupleGo t1 it v
    assign t1 env v
    let mut ok:=true
    for c in c1 do
     if ok then ok <-isTrue c env (eval c env)
    if ok then
     (do let _ <-call (.builtin "list.append") [acc,<-eval elt env])
    again (.compLoop (.ListComp elt [⟨t0,i0,c0,0⟩,⟨t1,i1,c1,0⟩] scope pos) 1 it acc env)):=by rfl
section
variable {prog:Program}{w:World}{A:Around}{R:Result->Shared->Prop}{s:Shared}{elt t0 i0 t1 i1:Expr}{c0 c1:List Expr}{scope:Scope}{pos:Pos}{it acc:Value}{env:Env}
theorem hX (I:Nat->Shared->Prop)
  (turn:∀ n s,I n s->wpAny (model prog w) A (pyNext it) (fun r s₁=>match r with
   | none=>R (.ok .next) s₁
   | some v=>wpAny (model prog w) A (letOwnedTupleGo t1 it v) (fun _ s₁'=>wpAny (model prog w) A (assign t1 env v) (fun _ s₂ =>
     wpAny (model prog w) A (forIn c1 true fun c r=>if r=true then do let ok <-isTrue c env (eval c env);pure (ForInStep.yield ok) else pure (ForInStep.yield r)) (fun ok s₃ =>
      if ok=true then wpAny (model prog w) A (eval elt env) (fun x s₄ =>
       wpAny (model prog w) A (call (.builtin "list.append") [acc,x]) (fun _ s₅=>∃ m,m<n/\I m s₅) (fun _ _=>False) s₄) (fun _ _=>False) s₃
      else ∃ m,m<n/\I m s₃) (fun _ _=>False) s₂) (fun _ _=>False) s₁') (fun _ _=>False) s₁) (fun _ _=>False) s)
  (n:Nat) (h:I n s) :
  codeAny (model prog w) A (.compLoop (.ListComp elt [⟨t0,i0,c0,0⟩,⟨t1,i1,c1,0⟩] scope pos) 1 it acc env) R s:=by
 refine codeAny_loop rfl I (fun n s hI=>?_) n h
 show wpAny _ A ((compTurn (.ListComp elt [⟨t0,i0,c0,0⟩,⟨t1,i1,c1,0⟩] scope pos) 1 it acc env).onRaise (fun x=>do noteFrame x env;theTreesLotGoes x)) _ _ s
 refine wpAny_noted ?_;rw[mr];refine z4 (BJ (z4 (AA (turn n s hI) (fun r s₁ h₁=>?_) fun _ _ h'=>h'.elim)))
 cases r with
 | none=>exact Ac h₁
 | some v =>
  refine z4 (AA h₁ (fun _ s₁' h₁'=>?_) fun _ _ h'=>h'.elim);refine z4 (AA h₁' (fun _ s₂ h₂=>z4 (AA h₂ (fun ok s₃ h₃=>?_) fun _ _ h'=>h'.elim)) fun _ _ h'=>h'.elim)
  cases ok with
  | false=>exact Ac ⟨rfl,h₃⟩
  | true =>
   exact z4 (z4 (AA h₃ (fun x s₄ h₄=>z4 (AA h₄ (fun _ s₅ h₅=>Ac (Ac ⟨rfl,h₅⟩)) fun _ _ h'=>h'.elim)) fun _ _ h'=>h'.elim))
theorem gm (hs:∀ x,foldedSetIterable i1 env x=pure x)(I:Nat->Shared->Prop)
  (turn:∀ n s,I n s->wpAny (model prog w) A (pyNext it) (fun r s₁=>match r with
   | none=>R (.ok .next) s₁
   | some v=>wpAny (model prog w) A (letOwnedTupleGo t0 it v) (fun _ s₁'=>wpAny (model prog w) A (assign t0 env v) (fun _ s₂ =>
     wpAny (model prog w) A (forIn c0 true fun c r=>if r=true then do let ok <-isTrue c env (eval c env);pure (ForInStep.yield ok) else pure (ForInStep.yield r)) (fun ok s₃ =>
      if ok=true then wpAny (model prog w) A (eval i1 env) (fun x s₄ =>
       wpAny (model prog w) A (pyIter x) (fun it1 s₅=>codeAny (model prog w) A (.compStart (.ListComp elt [⟨t0,i0,c0,0⟩,⟨t1,i1,c1,0⟩] scope pos) 1 it1 acc env) (fun r s₆=>r=.ok .next/\∃ m,m<n/\I m s₆) s₅) (fun _ _=>False) s₄) (fun _ _=>False) s₃
      else ∃ m,m<n/\I m s₃) (fun _ _=>False) s₂) (fun _ _=>False) s₁') (fun _ _=>False) s₁) (fun _ _=>False) s)
  (n:Nat) (h:I n s) :
  codeAny (model prog w) A (.compLoop (.ListComp elt [⟨t0,i0,c0,0⟩,⟨t1,i1,c1,0⟩] scope pos) 0 it acc env) R s:=by
 refine codeAny_loop rfl I (fun n s hI=>?_) n h
 show wpAny _ A ((compTurn (.ListComp elt [⟨t0,i0,c0,0⟩,⟨t1,i1,c1,0⟩] scope pos) 0 it acc env).onRaise (fun x=>do noteFrame x env;theTreesLotGoes x)) _ _ s
 refine wpAny_noted ?_;rw[mq];refine z4 (BJ (z4 (AA (turn n s hI) (fun r s₁ h₁=>?_) fun _ _ h'=>h'.elim)))
 cases r with
 | none=>exact Ac h₁
 | some v =>
  refine z4 (AA h₁ (fun _ s₁' h₁'=>?_) fun _ _ h'=>h'.elim);refine z4 (AA h₁' (fun _ s₂ h₂=>z4 (AA h₂ (fun ok s₃ h₃=>?_) fun _ _ h'=>h'.elim)) fun _ _ h'=>h'.elim)
  cases ok with
  | false=>exact Ac ⟨rfl,h₃⟩
  | true =>
   refine z4 (AA h₃ (fun x s₄ h₄=>?_) fun _ _ h'=>h'.elim);refine z4 (BJ (z4 (wpAny_of_eq (hs x) ?_)));refine z4 (Bh (AA h₄ (fun it1 s₅ h₅=>?_) fun _ _ h'=>h'.elim));refine z4 (wpAny_runOwn (BS h₅ fun r s₆ h₆=>?_));obtain⟨rfl,h₆⟩:=h₆;exact Ac ⟨rfl,h₆⟩
theorem gn
  (h0:codeAny (model prog w) A (.compLoop (.ListComp elt [⟨t0,i0,c0,0⟩,⟨t1,i1,c1,0⟩] scope pos) 1 it acc env) R s)
  (h:wpAny (model prog w) A (pyIter it) (fun it' s'=>codeAny (model prog w) A (.compLoop (.ListComp elt [⟨t0,i0,c0,0⟩,⟨t1,i1,c1,0⟩] scope pos) 1 it' acc env) R s')
   (notedBy (model prog w) A env fun x s'=>R (.error x) s') s) :
  codeAny (model prog w) A (.compStart (.ListComp elt [⟨t0,i0,c0,0⟩,⟨t1,i1,c1,0⟩] scope pos) 1 it acc env) R s:=by
 refine codeAny_of_tree ?_
 show wpAny _ _ ((compStart (.ListComp elt [⟨t0,i0,c0,0⟩,⟨t1,i1,c1,0⟩] scope pos) 1 it acc env).onRaise (fun x=>do noteFrame x env;standAt theWindowsPlace)) _ _ s
 refine wpAny_notedAt ?_;unfold compStart
 show wpAny _ _ (ask >>= _) _ _ s
 refine z4 (wpAny_askSetting (wpAny_ite ?_));split
 ·first
   | exact z4 (Ac (Ac (And.intro rfl h0)))
   | exact Ac (And.intro rfl h0)
 ·first
   | exact z4 (wpAny_rule (z4 (BJ (z4 (AA h (fun it' s' h'=>Ac (And.intro rfl h')) fun _ _ x=>x)))))
   | (refine z4 (wpAny_rule ?_);show wpAny _ _ (standAt i1.pos >>= _) _ _ s;exact z4 (BJ (z4 (AA h (fun it' s' h'=>Ac (And.intro rfl h')) fun _ _ x=>x))))
end
theorem pS {Y:Cx}{P:List (Addr×Obj)}{σ:St}{H:Hp}{s:Shared}{elt t0 i0 t1 i1:Expr}{c0 c1:List Expr}{sc:Scope}{pos:Pos}{it a:Addr}{fp:List Addr}{tn:Nat->Heap->Prop}{J:It}{g:TG}{tt:TT}{te:TE}{nx:St->Hp->Prop}{rt:VK}{bk ct:St->Hp->Prop}
  (hc:Y.calm=true) (hxe:Y.xe=fun _ _=>False) (I:az Y P σ H s) (T:oo Y.prog Y.w Y.K t1 J fp it tn) (st:tn 0 s.heap) (f:∀ b∈fp,eE Y P H b) (hL:gg J g (sG tt te a) ⟨nx,rt,bk,ct⟩ σ H) (hg:PG Y t1 g) (ht:wV Y c1 tt) (he:PE Y elt te) :
  codeAny (model Y.prog Y.w) Y.A (.compLoop (.ListComp elt [⟨t0,i0,c0,0⟩,⟨t1,i1,c1,0⟩] sc pos) 1 (.ref it) (.ref a) Y.env) (fun r s'=>r=.ok .next/\∃ σ' H',az Y P σ' H' s'/\nx σ' H') s:=by
 obtain⟨W,⟨m0,w0⟩,turn⟩:=hL;have stat:∀ {H':Hp},(∀ b∈fp,H' b=none)->∀ b∈fp,eE Y P H' b:=fun {H'} hn b hb=>⟨hn b hb,(f b hb).2⟩;refine hX (fun n s'=>∃ i σ' H',az Y P σ' H' s'/\tn i s'.heap/\(∀ b∈fp,H' b=none)/\W i n σ' H') ?_ m0 ⟨0,_,_,I,st,fun b hb=>(f b hb).1,w0⟩;rintro n s6 ⟨i,σ6,H6,I6,st6,fr6,w6⟩;rcases turn i n σ6 H6 w6 with ⟨stop,qn⟩ | ⟨go,Nx,hN,step⟩
 ·refine bf (T.done Y rfl rfl rfl hc i P s6 σ6 H6 _ I6 (stat fr6) st6 stop) fun r s7 ⟨hr,I7⟩=>?_
  subst hr;exact⟨rfl,σ6,H6,I7,qn⟩
 ·refine bf (T.item Y rfl rfl rfl hc i P s6 σ6 H6 _ I6 (stat fr6) st6 go) fun r s7 ⟨u,hr,h7⟩=>?_
  subst hr;refine bf h7 fun _ s8 ⟨x,H8,I8,r8,y8,st8,fr8⟩=>?_;have I8':=I8.pinned (stat fr8) (T.obj _ _ st8);have hgx:=hg _ s8 σ6 H8 x u _ I8' r8 (step x H8 y8);rw[hxe]at hgx;refine bf hgx fun _ s9 ⟨σ9,H9,I9,q9⟩=>?_
  have again:∀ {s':Shared}{σ7:St}{H7:Hp},az Y (P++gE fp s8.heap) σ7 H7 s'->Nx σ7 H7->∃ m,m<n/\∃ i σ' H',az Y P σ' H' s'/\tn i s'.heap/\(∀ b∈fp,H' b=none)/\W i m σ' H':=fun {s' σ7 H7} I7 n7=>by
   obtain⟨m',hm,w7⟩:=hN σ7 H7 n7;refine⟨m',hm,i+1,σ7,H7,I7.unpinned,T.keep _ _ _ st8 fun b hb o e=>(I7.pin (b,o) (Ar _ (Ar _ (bP hb e)))).1,fun b hb=>?_,w7⟩;obtain⟨o,e,d⟩:=T.obj _ _ st8 b hb;exact (I7.pin (b,o) (Ar _ (Ar _ (bP hb e)))).2.1
  have htx:=ht _ s9 σ9 H9 _ I9 q9;rw[hxe]at htx;refine bf htx fun ok s10 ⟨H10,I10,q10⟩=>?_
  cases ok with
  | false =>
   rw[Ag Ae]at q10 ⊢;exact again I10 q10
  | true =>
   rw[Ai rfl]at q10 ⊢;have hex:=he _ s10 σ9 H10 _ I10 q10;rw[hxe]at hex;refine bf hex fun y s11 ⟨yv,H11,I11,ry,ys,hys,hlen,q11⟩=>?_;exact bf (gj (X:=Y) I11 hys hlen ry) fun _ s12 I12=>again I12 q11
def wO (tt0:TT)(wi1:TI)(g1:TG)(tt1:TT)(te:TE)(a:Addr):TS:=fun D σ H=>tt0 σ H fun b H1=>if b=true then wi1 σ H1 fun J1 H2=>gg J1 g1 (sG tt1 te a) { nx:=D.nx,rt:=fun _ _=>False } σ H2 else D.nx σ H1
def wK (wi:TI)(g0:TG)(tt0:TT)(wi1:TI)(g1:TG)(tt1:TT)(te:TE)(src:List (Option Nat)):TE:=fun σ H Q=>wi σ H fun J H1=>∀ a,H1 a=none ->
 gg J g0 (wO tt0 wi1 g1 tt1 te a) { nx:=fun _ H'=>Q (.ref a) H',rt:=fun _ _=>False } (gp src σ) (aD H1 a (.lst []))
theorem tO {X:Cx}{elt tg iter t1 i1:Expr}{ifs c1:List Expr}{sc so:Scope}{pos:Pos}{N':List Str}{src:List (Option Nat)}{wi wi1:TI}{g g1:TG}{tt tt1:TT}{te:TE}{N:List Str}(hso:X.env.scope=so)(hXN:X.N=N)(S:oj so sc N N' src)(hc:X.calm=true)(hi:PI X tg iter wi)
  (hb:∀ (cl:List (Str×Addr))(C:Addr)(s:Shared)(H:Hp)(ex:List Addr),PG (cM X sc cl C N' s H ex) tg g/\wV (cM X sc cl C N' s H ex) ifs tt/\PI (cM X sc cl C N' s H ex) t1 i1 wi1/\PG (cM X sc cl C N' s H ex) t1 g1/\wV (cM X sc cl C N' s H ex) c1 tt1/\PE (cM X sc cl C N' s H ex) elt te)
  (hs:∀ x,foldedSetIterable iter X.env x=pure x:=by intro _;rfl) (hs1:∀ env x,foldedSetIterable i1 env x=pure x:=by intro _ _;rfl):PE X (.ListComp elt [⟨tg,iter,ifs,0⟩,⟨t1,i1,c1,0⟩] sc pos) (wK wi g tt wi1 g1 tt1 te src):=by
 subst hXN;intro pins s σ H Q I h
 obtain⟨cl,hcl,q1,q3⟩:=iF (sc:=sc) (env:=X.env) fun y hy hf=>by
  have:=S.fre y hy hf;rw[<-hso]at this;exact I.ok.has y.1 this
 rw[eval_ListComp];refine wpAny_comprehension_free (use:=none) rfl hs hcl S.kind S.loc (bf (hi pins s σ H _ I h) fun v s1 h1=>bf h1 fun itv s2 h2=>?_);obtain⟨it,fp,tn,J,H2,e,I2,T,st2,f2,hR⟩:=h2;subst e;refine A0 ?_
 have I3:az X pins σ (aD H2 s2.heap.objs.size (.lst [])) { s2 with heap:=s2.heap.push { cls:=.type "list",dict:=none,data:=.seq ([]:List Value).toArray } } :=
  I2.laid (t':=s2.toks) (fun b u q=>Heap.get?_push_of_some _ q) (Ad _) ⟨Au _,[],0,.nil,Heap.get?_push_size _ rfl⟩
 have hfr:=I2.hok.fresh (Ad s2.heap.objs.size);obtain⟨W,⟨m0,w0⟩,turn⟩:=hR _ hfr
 have flt:∀ b∈fp,b<s2.heap.objs.size:=fun b hb=>by obtain⟨o,e,_⟩:=T.obj _ _ st2 b hb;exact Aa e
 generalize hs3:({ s2 with heap:=s2.heap.push { cls:=.type "list",dict:=none,data:=.seq ([]:List Value).toArray } }:Shared)=s3 at I3 ⊢
 have e3:s3.heap=s2.heap.push { cls:=.type "list",dict:=none,data:=.seq ([]:List Value).toArray }:=by rw[<-hs3]
 have sz3:s3.heap.objs.size=s2.heap.objs.size+1:=by rw[e3,AR]
 have hf3:∀ b∈fp,eE X pins (aD H2 s2.heap.objs.size (.lst [])) b:=fun b hb=>⟨by rw[ap (Al (flt b hb))];exact (f2 b hb).1,(f2 b hb).2⟩
 have flt3:∀ b∈fp,b<s3.heap.objs.size:=fun b hb=>by rw[sz3];exact BB (flt b hb)
 have st3:tn 0 s3.heap:=T.keep _ _ _ st2 fun b _ o e=>by rw[e3];exact Heap.get?_push_of_some _ e
 refine wpAny_newFunctionEnv S.nocell (by intro y hy;simp at hy) (fun h4 hns4 hsb4=>?_) S.kind;have kp4:∀ b o,s3.heap.get? b=some o->h4.get? b=some o:=fun b o e=>hsb4.extBut b o (Al (Aa e)) (Heap.get?_push_of_some _ e);have I4:=lv (h':=h4) I3 hso S q1 q3 hf3 flt3 (by simpa using hns4) kp4 (s3.toks+([]:List (Str×Value)).length);have st4:tn 0 h4:=T.keep _ _ _ st3 fun b _ o e=>kp4 b o e;generalize hC:s3.heap.objs.size=C at I4 hns4 hsb4 ⊢;obtain⟨hg,ht,hi1,hg1,ht1,he⟩:=hb cl C s3 (aD H2 s2.heap.objs.size (.lst [])) fp
 let Y:Cx:=cM X sc cl C N' s3 (aD H2 s2.heap.objs.size (.lst [])) fp
 have loop:∀ s5:Shared,s5={ s3 with heap:=h4,toks:=s3.toks+([]:List (Str×Value)).length }->codeAny (model X.prog X.w) X.A (.compLoop (.ListComp elt [⟨tg,iter,ifs,0⟩,⟨t1,i1,c1,0⟩] sc pos) 0 (.ref it) (.ref s2.heap.objs.size) (compEnvC sc cl C X.env))
   (compPost (model X.prog X.w) X.A X.xe none (EP X pins σ Q) (.ref s2.heap.objs.size) C) s5:=by
  rintro s5 rfl
  have stat:∀ {H':Hp},(∀ b∈fp,H' b=none)->∀ b∈fp,eE Y [] H' b:=fun {H'} hn b hb=>by
   obtain⟨f0,f1,f2',f3,f4,f5⟩:=hf3 b hb;refine⟨hn b hb,?_,fun z=>?_,.inl hb,fun x c e=>f4 x c (q1 x c e),fun p hp=>absurd (show p∈([]:List (Addr×Obj)) from hp) (by simp)⟩
   ·show b≠C
    rw[<-hC];exact Al (flt3 b hb)
   ·have z:b∈gu X.stack:=z
    rcases Aq.mp (I3.stkSub b z) with y | y
    ·exact f1 y
    ·exact f2' y
  refine gm (fun x=>hs1 _ x) (fun n s'=>∃ i σ' H',az Y [] σ' H' s'/\tn i s'.heap/\(∀ b∈fp,H' b=none)/\W i n σ' H') ?_ m0 ⟨0,_,_,I4,st4,fun b hb=>(hf3 b hb).1,w0⟩;rintro n s6 ⟨i,σ6,H6,I6,st6,fr6,w6⟩;rcases turn i n σ6 H6 w6 with ⟨stop,qn⟩ | ⟨go,Nx,hN,step⟩
  ·refine bf (T.done Y rfl rfl rfl hc i [] s6 σ6 H6 _ I6 (stat fr6) st6 stop) fun r s7 ⟨hr,I7⟩=>?_
   subst hr;obtain⟨m,hn,_⟩:=id I7.loc;refine⟨m,hn,fun h' hsb=>?_⟩
   have neC:∀ b o,s3.heap.get? b=some o->b≠C:=fun b o e=>by rw[<-hC];exact Al (Aa e)
   have freeC:H6 C=none:=I7.free
   have un:Un (gu X.stack) fp (aD H2 s2.heap.objs.size (.lst [])) H6 s3.heap h' :=
    ⟨fun b o e n hb hx=>(hsb.2 b (neC b o e)).trans (I7.base.keep b o e n hb hx),fun b o e n hb hx=>by
      obtain⟨sl,q⟩:=I7.base.slot b o e n hb hx
      exact⟨sl,(hsb.2 b (neC b o e)).trans q⟩,I7.base.free,fun b o e hx=>by
      obtain⟨o',q⟩:=I7.base.there b o e hx
      exact⟨o',(hsb.2 b (neC b o e)).trans q⟩,I7.base.tups,I7.base.frzs,I7.base.tbls⟩
   have hok:f8 X.prog X.w H6 h':=fun b ob e=>by
    refine (I7.hok b ob e).stay (fun c w' hc' q=>(hsb.2 c ?_).trans q) (fun _ q=>q) fun _ _ q=>q;rintro rfl;rcases hc' with z | z
    ·rw[<-z,freeC]at e;cases e
    ·rw[freeC]at z;cases z
   have J7:az X pins σ H6 { s7 with heap:=h' }:=I3.call' (ch:=fp) (s':={ s7 with heap:=h' }) I7.os un hok I7.bare fun b hb=>⟨(hf3 b hb).2.2.2.1,(hf3 b hb).2.1,(hf3 b hb).2.2.2.2.1,(hf3 b hb).2.2.2.2.2⟩;exact⟨.ref s2.heap.objs.size,H6,J7,rfl,qn⟩
  ·refine bf (T.item Y rfl rfl rfl hc i [] s6 σ6 H6 _ I6 (stat fr6) st6 go) fun r s7 ⟨u,hr,h7⟩=>?_
   subst hr;refine bf h7 fun _ s8 ⟨x,H8,I8,r8,y8,st8,fr8⟩=>?_;have I8':=I8.pinned (stat fr8) (T.obj _ _ st8);refine bf (hg _ s8 σ6 H8 x u _ I8' r8 (step x H8 y8)) fun _ s9 ⟨σ9,H9,I9,q9⟩=>?_
   have again:∀ {s':Shared}{σ7:St}{H7:Hp},az Y ([]++gE fp s8.heap) σ7 H7 s'->Nx σ7 H7->∃ m,m<n/\∃ i σ' H',az Y [] σ' H' s'/\tn i s'.heap/\(∀ b∈fp,H' b=none)/\W i m σ' H':=fun {s' σ7 H7} I7 n7=>by
    obtain⟨m',hm,w7⟩:=hN σ7 H7 n7;refine⟨m',hm,i+1,σ7,H7,I7.unpinned,T.keep _ _ _ st8 fun b hb o e=>(I7.pin (b,o) (Ar _ (Ar _ (bP hb e)))).1,fun b hb=>?_,w7⟩;obtain⟨o,e,d⟩:=T.obj _ _ st8 b hb;exact (I7.pin (b,o) (Ar _ (Ar _ (bP hb e)))).2.1
   refine bf (ht _ s9 σ9 H9 _ I9 q9) fun ok s10 ⟨H10,I10,q10⟩=>?_
   cases ok with
   | false =>
    rw[Ag Ae]at q10 ⊢;exact again I10 q10
   | true =>
    rw[Ai rfl]at q10 ⊢;refine bf (hi1 _ s10 σ9 H10 _ I10 q10) fun x1 s11 h11=>bf h11 fun it1 s12 h12=>?_;obtain⟨ia,fp1,tn1,J1,H12,e1,I12,T1,st12,f12,hR1⟩:=h12;subst e1;have inner:=pS (Y:=Y) (t0:=tg) (i0:=iter) (c0:=ifs) (i1:=i1) (sc:=sc) (pos:=pos) hc rfl I12 T1 st12 f12 hR1 hg1 ht1 he;have inner':=BS inner (R':=fun r s₆=>r=.ok .next/\∃ m,m<n/\∃ i σ' H',az Y [] σ' H' s₆/\tn i s₆.heap/\(∀ b∈fp,H' b=none)/\W i m σ' H') fun r s6 ⟨er,σ7,H7,I7,n7⟩=>⟨er,again I7 n7⟩;exact gn inner' (T1.self _ 0 _ _ _ st12 inner')
 exact codeAny_compStart_list (loop _ rfl) (T.self _ 0 _ _ _ st4 (loop _ rfl))
end L2
namespace Qs
open PySem PySem.W PyProof.Rows
structure zV (n:Nat)(lt:Nat->Nat->Bool):Prop where
 irr:∀ i,lt i i=false
 tot:∀ i j,i<n->j<n->i≠j->lt i j=true\/lt j i=true
 tr:∀ i j k,lt i j=true->lt j k=true->lt i k=true
def ask {α:Type}(lt:Nat->Nat->Bool):KasT α->α
 | .ret a=>a
 | .ask i j k=>ask lt (k (lt i j))
def zk {α:Type}(n:Nat)(lt:Nat->Nat->Bool):KasT α->Prop
 | .ret _=>True
 | .ask i j k=>i<n/\j<n/\zk n lt (k (lt i j))
def zY {α:Type}(n:Nat)(lt:Nat->Nat->Bool)(t:KasT α)(R:α->Prop):Prop:=zk n lt t/\R (ask lt t)
section
variable {n:Nat}{lt:Nat->Nat->Bool}{p:Array Nat}
def Pm (n:Nat)(p:Array Nat):Prop:=p.Perm (List.toArray (List.range n))
def Up (lt:Nat->Nat->Bool)(p:Array Nat)(k:Nat):Prop:=∀ i j,i<j->j<k->lt (p.getD i 0) (p.getD j 0)=true
def Dn (lt:Nat->Nat->Bool)(p:Array Nat)(k:Nat):Prop:=∀ i j,i<j->j<k->lt (p.getD j 0) (p.getD i 0)=true
end
def zC (p q:Int×Int):Bool:=decide (p.1<q.1\/(p.1=q.1/\p.2<q.2))
def zI (ps:List (Int×Int))(i j:Nat):Bool:=zC (ps.getD i (0,0)) (ps.getD j (0,0))
def vY (h:Heap)(v:Value)(p:Int×Int):Prop:=∃ (b:Addr)(o:Obj)(n:Nat)(t u:Tok),v=.ref b/\h.get? b=some o/\o.cls=.type "tuple"/\o.data=.seq #[.int p.1 t,.int p.2 u] n
section
variable {prog:Program}{w:World}{A:Around}{E:Value->Shared->Prop}{s:Shared}
def yA (vs:List Value)(ps:List (Int×Int))(out:List Value):Prop:=∃ ix:List Nat,ix.Perm (List.range vs.length)/\out=ix.map (fun i=>vs.getD i Value.none)/\(ix.map fun i=>ps.getD i (0,0)).Pairwise (fun a b=>zC a b=true)
end
def zu (h:Heap)(d:Addr)(es:Array DictEntry)(ep:Nat):Prop:=∃ o,h.get? d=some o/\o.ExactDict/\o.data=.dict es ep
end Qs
namespace Wz
open PySem PySem.Spec PyProof.Rows L2
theorem pY {α:Type}(d:α)(l:List α):(List.range l.length).map (fun i=>l.getD i d)=l:=by
 apply List.ext_getElem?
 intro i;rw[List.getElem?_map]
 by_cases hi:i<l.length
 ·rw[List.getElem?_range hi];simp[hi]
 ·rw[List.getElem?_eq_none (by simp;omega),List.getElem?_eq_none (by omega)];rfl
end Wz
namespace L2
open PySem PySem.Spec PyProof.Rows
theorem uj {wi1:TI}{g1:TG}{tt1:TT}{te:TE}{a:Addr}{D:hJ}{σ:St}{H:Hp}(h:wi1 σ H fun J1 H2=>gg J1 g1 (sG tt1 te a) { nx:=D.nx,rt:=fun _ _=>False } σ H2):wO mG wi1 g1 tt1 te a D σ H:=by
 unfold wO mG;dsimp only;rw[Ai rfl];exact h
end L2
namespace Wz
open PySem L2
theorem uR {i j c:Int}(hi:0<=i/\i<100)(hj:0<=j/\j<100)(h:lj i c=lj j c):i=j:=by
 have ht0:0<=fB c*1234567891%2147483646:=Bg _ (by decide);have ht1:fB c*1234567891%2147483646<2147483646:=A7 _ (by decide);unfold lj at h;dsimp only at h;generalize fB c*1234567891%2147483646=t0 at *;generalize fB c/2147483646=q at *
 have h2:(i*(1+t0)+q)%2147483647=(j*(1+t0)+q)%2147483647:=by
  by_cases e:fB c%5=4
  ·rw[Ai e,Ai e]at h;omega
  ·rw[Ag e,Ag e]at h;exact h
 have h3:(2147483647:Int) ∣ (i-j)*(1+t0):=by
  have h5:=Int.dvd_of_emod_eq_zero (Int.emod_eq_emod_iff_emod_sub_eq_zero.mp h2)
  have e:i*(1+t0)+q-(j*(1+t0)+q)=(i-j)*(1+t0):=by rw[Int.sub_mul];omega
  rw[e]at h5;exact h5
 have key:∀ d:Nat,d<100->d≠0->Nat.gcd 2147483647 d=1:=by decide +kernel
 by_cases hij:i=j
 ·exact hij
 exfalso
 have h6:2147483647 ∣ (i-j).natAbs*(1+t0).natAbs:=by
  have:=Int.natAbs_dvd_natAbs.mpr h3;rw[Int.natAbs_mul]at this;exact this
 have h7:2147483647 ∣ (1+t0).natAbs:=Nat.Coprime.dvd_of_dvd_mul_left (key _ (by omega) (by omega)) h6;have:=Nat.le_of_dvd (by omega) h7;omega
end Wz
namespace L2
open PySem PySem.Spec PyProof.Rows
theorem vy (xs:List V):i8 xs (some 1) none=xs.drop 1:=by
 unfold i8;rw[show HT.sIx xs.length 0 (some 1)=min 1 xs.length from HT.sIx_nat _ _ 1,HT.sIx_none]
 by_cases h:xs=[]
 ·subst h;rfl
 ·have:0<xs.length:=List.length_pos_iff.mpr h
  rw[show min 1 xs.length=1 by omega,Bq (by rw[AI];omega)]
open PySem PySem.Spec PyProof.Rows PySem.Calls
section
variable {X:Cx}{pins:List (Addr×Obj)}{σ:St}{H H':Hp}{s:Shared}
theorem az.grown {h':Heap}{t':Nat}(I:az X pins σ H s)(k:∀ b u,s.heap.get? b=some u->h'.get? b=some u)(old:∀ b u,s.heap.get? b=some u->H b=none->H' b=none)(sm:∀ b o,H b=some o->H' b=some o)
  (new:∀ b o,H' b=some o->H b=none->bv X.prog X.w H' h' b o):az X pins σ H' { s with heap:=h',toks:=t' }:=by
 refine I.un ⟨fun b u q _ _ _=>k b u q,fun b u q _ _ _=>⟨u.slots,k b u q⟩,fun b u q n _=>old b u q n,fun b u q _=>⟨u,k b u q⟩,fun b xs q=>sm _ _ q,fun b u xs q=>sm _ _ q,fun b ps q=>⟨#[],by rw[sm _ _ q];simp⟩⟩ fun b u e=>?_
 cases hb:H b with
 | none=>exact new b u e hb
 | some v =>
  have:=sm _ _ hb;rw[this]at e;cases e;exact (I.hok b _ hb).stay (fun c v _ q=>k c v q) (fun c q=>sm _ _ q) fun c xs q=>sm _ _ q
end
theorem vm:typeLookup (.type "zip") "__len__" = pure none:=by rw[typeLookup_type,builtinLookup_eq_fast];kernel_rfl
theorem uA:typeLookup (.type "zip") "__length_hint__" = pure none:=by rw[typeLookup_type,builtinLookup_eq_fast];kernel_rfl
abbrev uF (h:Heap)(z TI TO:Addr)(f0:Value)(b:Bool):Prop :=
 h.get? z=some { cls:=.type "zip",dict:=none,data:=.fields #[f0,.bool b,.bool false,.ref TI,.ref TO],slots:=#[] }
section
variable {prog:Program}{w:World}{A:Around}{E:Value->Shared->Prop}{s:Shared}
theorem oh {a:Addr}{Q:Option Obj->Shared->Prop}(h:Q (s.heap.get? a) s):wpAny (model prog w) A (loadIfAlive a) Q E s:=fun Γ p _=>by
 unfold loadIfAlive;rw[Sem.wp_loadIfAlive];exact Ac (M:=model prog w) (A:=A) (E:=E) h Γ p (by assumption)
theorem oR {z TI TO T:Addr}{b:Bool}{o:Obj}{Q:Bool->Shared->Prop}(hz:uF s.heap z TI TO (rawInt T) b)(hT:s.heap.get? T=some o)
  (hQ:∀ h',uF h' z TI TO (rawInt T) true->Heap.SameBut z s.heap h'->Q false { s with heap:=h' }):wpAny (model prog w) A (Builtin.SmallTypes.ownedTupleIsFree (.ref z)) Q E s:=by
 unfold Builtin.SmallTypes.ownedTupleIsFree;refine z4 (AN hz rfl (x:=rawInt T) rfl ?_)
 show wpAny _ _ (loadIfAlive T >>= _) _ _ _
 refine z4 (oh ?_);rw[hT]
 show wpAny _ _ (field (.ref z) 1 >>= _) _ _ _
 refine z4 (AN hz rfl (x:=.bool b) rfl ?_)
 cases b with
 | true=>exact z4 (Ac (Ac (hQ _ hz (by exact⟨rfl,fun _ _=>rfl⟩))))
 | false=>exact z4 (wpAny_setField_rec hz (by simp) fun h1 hz1 hs1=>Ac (hQ _ hz1 hs1))
end
def iJ (H:Hp):List Addr->List (V×V)->Hp
 | [],_=>H
 | _,[]=>H
 | t::ts,p::ps=>aD (iJ H ts ps) t (.tup [p.1,p.2])
theorem lB {H:Hp}:∀ {ts:List Addr}{ps:List (V×V)}{b:Addr},b∉ts->iJ H ts ps b=H b
 | [],_,_,_=>rfl
 | _::_,[],_,_=>rfl
 | t::ts,p::ps,b,h=>by
  show aD (iJ H ts ps) t _ b=_
  rw[ap (fun e=>h (by rw[e];exact Am))];exact lB fun m=>h (Ak _ m)
theorem qX {H:Hp}:∀ {ts:List Addr}{ps:List (V×V)}{b:Addr}{o:HO},ts.Nodup->b∈ts->iJ H ts ps b=some o->H b=none->∃ j:Nat,∃ p,ts[j]? = some b/\ps[j]? = some p/\o=.tup [p.1,p.2]
 | [],_,_,_,_,h,_,_=>nomatch h
 | _::_,[],_,_,_,_,e,n=>by rw[show iJ H (_::_) []=H from rfl,n]at e;cases e
 | t::ts,p::ps,b,o,nd,h,e,n=>by
  by_cases hb:b=t
  ·subst hb
   rw[show iJ H (b::ts) (p::ps)=aD (iJ H ts ps) b (.tup [p.1,p.2]) from rfl,aa]at e;exact⟨0,p,rfl,rfl,(At e).symm⟩
  ·rw[show iJ H (t::ts) (p::ps)=aD (iJ H ts ps) t (.tup [p.1,p.2]) from rfl,ap hb]at e
   obtain⟨j,q,e1,e2,e3⟩:=qX (Bb.mp nd).2 ((Aq.mp h).resolve_left hb) e n;exact⟨j+1,q,e1,e2,e3⟩
theorem lC {H:Hp}:∀ {ts:List Addr}{ps:List (V×V)},ts.Nodup->ts.length=ps.length->Paired (fun t (p:V×V)=>iJ H ts ps t=some (.tup [p.1,p.2])) ts ps
 | [],[],_,_=>.nil
 | [],_::_,_,h=>by simp at h
 | _::_,[],_,h=>by simp at h
 | t::ts,p::ps,nd,h=>by
  refine .cons (show aD (iJ H ts ps) t (.tup [p.1,p.2]) t=_ from aa) ?_;have hn:=Bb.mp nd
  have key:∀ {us:List Addr}{qs:List (V×V)}{R S:Addr->V×V->Prop},(∀ u∈us,∀ q,R u q->S u q)->Paired R us qs->Paired S us qs:=fun {us qs R S} hRS pr=>by
   induction pr with
   | nil=>exact .nil
   | cons r _ ih=>exact .cons (hRS _ Am _ r) (ih fun u hu=>hRS u (Ak _ hu))
  refine key (R:=fun t (p:V×V)=>iJ H ts ps t=some (.tup [p.1,p.2])) (fun u hu q e=>?_) (lC (H:=H) hn.2 (by simpa using h))
  show aD (iJ H ts ps) t _ u=_
  rw[ap (fun z=>hn.1 (by rw[<-z];exact hu))];exact e
end L2
namespace Wz
open PySem L2
theorem k9 (xs:List V)(n:Nat):i8 xs (some (n:Int)) none=xs.drop n:=by
 unfold i8;rw[HT.sIx_nat,HT.sIx_none]
 by_cases h:n<=xs.length
 ·rw[Nat.min_eq_left h,Bq (by rw[AI];exact Ad _)]
 ·rw[Nat.min_eq_right (by omega),List.drop_length,List.drop_of_length_le (by omega)];simp
end Wz
namespace L2
open PySem PySem.Spec PyProof.Rows
theorem rM {X:Cx}(hc:X.calm=true):eI X (.builtin "sum") (fun xs H Q=>∃ (p:Addr)(ns:List Int),xs=[.ref p]/\aR X.K H p (ns.map V.int)/\Q (.int ns.sum) H):=by
 intro pins s σ H xs us Q I r h;obtain⟨p,ns,rfl,hq,q⟩:=h;obtain⟨u,rfl,rx⟩:=fY r;cases rx;obtain⟨its,rv,pl,hz⟩:=I.list hq;have hl:=rv.length;rw[z9]at hl;refine call_sum_walkG (jK (xs:=ns.map V.int) I (I.ok.hd hc) pl fun I' St s2 hs2 hI W st kp fin=>?_)
 have val:∀ (i:Nat)(v:Value),its.toArray[i]? = some v->∃ t,v=.int (ns.getD i 0) t:=fun i v e=>by
  have e:its[i]? = some v:=by simpa using e
  have hi:i<ns.length:=by have:=(List.getElem?_eq_some_iff.mp e).1;omega
  obtain⟨u,eu,ru⟩:=rv.get (i:=i) (x:=V.int ns[i]) (by rw[List.getElem?_map,List.getElem?_eq_getElem hi];rfl);rw[e]at eu;cases eu;obtain⟨t,rfl⟩:=ru;exact⟨t,by rw[List.getD_eq_getElem?_getD,List.getElem?_eq_getElem hi];rfl⟩
 have hlt:p<s.heap.objs.size:=by obtain⟨o,n,e,_⟩:=pl;exact Aa e
 refine⟨I',_,_,_,_,St,(fun i=>ns.getD i 0),rfl,W,st,fun b hb=>?_,val,fun h' tk t' k=>⟨.int _,H,fin h' tk k,⟨t',rfl⟩,?_⟩⟩
 ·rcases Aq.mp hb with z | z
  ·rw[z,hI,hs2];exact BF _
  ·rw[Ap.mp z,hs2];exact BB hlt
 ·rw[preSum_getD,<-hl,AC];exact q
theorem vd {X:Cx}{pos:Pos}(K:PySem.W.Frag){es:List Expr}{k:Nat}{t:uC}{n:Nat}(hc:X.calm=true)(h:xh X es t)(hK:X.K=K:=by rfl)
  (hn:(assignEach es X.env).length=n:=by rfl) (hst:(assignEach es X.env).findIdx? (·.1)=none:=by rfl):PG X (.Tuple es k pos) (xq K n t):=by
 subst hK;exact jT hc h hn hst
end L2
namespace Wz
open PySem L2
theorem lW {HH:Hp}{q t:Addr}{ds:List Addr}{ps:List (Int×Int)}{a b:Int}(h1:HH q=some (.lst (ds.map V.ref)))(h2:Paired (fun b (e:Int×Int)=>HH b=some (.tup [.int e.1,.int e.2])) ds ps)(ht:HH t=none) :
  bF (aD (aD HH t (.tup [.int a,.int b])) q (.lst (ds.map V.ref++[V.ref t]))) q (ps++[(a,b)]):=by
 refine⟨ds++[t],by rw[aa,Ah];rfl,?_⟩;exact aQ (Paired.mapP h2 fun b e y=>by rw[ap (vB y h1 (by intro u;cases u))];exact (ac ht) _ _ y) (.cons (by rw[ap ((aH h1 ht).symm),aa]) .nil)
theorem we (xs:List V)(n:Nat):i8 xs none (some (n:Int))=xs.take n:=by
 unfold i8;rw[HT.sIx_none,HT.sIx_nat,List.drop_zero,Nat.sub_zero]
 by_cases h:n<=xs.length
 ·rw[Nat.min_eq_left h]
 ·rw[Nat.min_eq_right (by omega),Bq (by omega),Bq (by omega)]
end Wz
namespace L2
open PySem
theorem cw.m {j k:Nat}{A:Around}(r:cw k A)(h:j<=k:=by decide):cw j A:=r.mono h
theorem bM {X:Cx}{e:Expr}{t:TE}(h:PE X e t)(hs:starEach [e] X.env=(false,eval e X.env)::starEach [] X.env:=by rfl):PA X [e] (kr t n8):=aA h aT hs
theorem b6 {X:Cx}{e e2:Expr}{t t2:TE}(h:PE X e t)(h2:PE X e2 t2)(hs:starEach [e,e2] X.env=(false,eval e X.env)::starEach [e2] X.env:=by rfl)(hs2:starEach [e2] X.env=(false,eval e2 X.env)::starEach [] X.env:=by rfl):PA X [e,e2] (kr t (kr t2 n8)):=aA h (aA h2 aT hs2) hs
theorem qp {X:Cx}{e e2 e3:Expr}{t t2 t3:TE}(h:PE X e t)(h2:PE X e2 t2)(h3:PE X e3 t3)(hs:starEach [e,e2,e3] X.env=(false,eval e X.env)::starEach [e2,e3] X.env:=by rfl)(hs2:starEach [e2,e3] X.env=(false,eval e2 X.env)::starEach [e3] X.env:=by rfl)(hs3:starEach [e3] X.env=(false,eval e3 X.env)::starEach [] X.env:=by rfl):PA X [e,e2,e3] (kr t (kr t2 (kr t3 n8))):=aA h (aA h2 (aA h3 aT hs3) hs2) hs
theorem aJ {X:Cx}{pos:Pos}(i:Nat){x:Str}{e:Expr}{te:TE}{pos':Pos}(hN:X.N.Nodup)(he:PE X e te)(hi:X.N[i]? = some x:=by rfl)(hx:wU X.env.scope x:=by first | exact Or.inl rfl | exact Or.inr rfl)(hs:swapsWith e (some (.Name x pos')) pos.line X.env=pure false:=by rfl)(hf:X.fn x=true\/X.env.scope.names.lookup x=some .local:=by first | exact .inl rfl | exact .inr rfl | assumption) :
  PS X (.Assign [.Name x pos'] e pos) (wI te (iu i)):=dE hN hi hx he hs hf
theorem fz {X:Cx}{pos:Pos}(i:Nat){x:Str}(hN:X.N.Nodup)(hi:X.N[i]? = some x:=by rfl)(hx:wU X.env.scope x:=by first | exact Or.inl rfl | exact Or.inr rfl)(hf:X.fn x=true\/X.env.scope.names.lookup x=some .local:=by first | exact .inl rfl | exact .inr rfl | assumption):PG X (.Name x pos) (iu i):=kM hN hi hx hf
theorem pK {so sc:Scope}{N N':List Str}{src:List (Option Nat)}(a:sc.kind=.function:=by rfl)(b:∀ y∈sc.names,y.2≠.cell:=by decide +kernel)(c:∀ y∈sc.names,y.2=.local->sc.names.lookup y.1=some .local:=by decide +kernel)(d:∀ y∈sc.names,y.2=.free->so.names.lookup y.1=some .cell\/so.names.lookup y.1=some .free:=by decide +kernel)(e:N'.Nodup:=by decide +kernel)(f:src.length=N'.length:=by rfl)
  (g:∀ p∈N'.zip src,(match p.2 with | none=>true | some j=>decide (N[j]? = some p.1/\sc.names.lookup p.1=some .free))=true:=by decide +kernel):oj so sc N N' src:=⟨a,b,c,d,e,f,g⟩
theorem fZ {N P:List Str}{sc:Scope}(a:sc.kind=.function:=by rfl)(b:sc.isCoroutine=false:=by rfl)(c:sc.isGenerator=false:=by rfl)(d:N.Nodup:=by decide +kernel)(e:N.take P.length=P:=by rfl)(f:∀ x∈P,sc.names.lookup x=some .local\/sc.names.lookup x=some .cell:=by decide +kernel)(g:∀ y∈sc.names,y.2≠.free:=by decide +kernel):aE N P sc:=⟨a,b,c,d,e,f,g⟩
end L2
namespace Wz
open PySem L2
def aZ (K:PySem.W.Frag)(x:Str)(st:Stmt):Prop:=∃ (f:Addr)(fd:FuncData),PySem.W.nsIn K mainGlobals x=some (some (.ref f))/\dM K x x st f fd
theorem fact_mk {K:PySem.W.Frag}{x:Str}{st:Stmt}{f:Addr}{oc:Value}{od an:Option Addr}{osl:Array (Option Value)}{kV doc pm cdv ct:Value}(a:PySem.W.nsIn K mainGlobals x=some (some (.ref f)))(l:K.lookup f=some ⟨oc,od,.func (PySem.W.fnOf x x (dO st) (c6 st) (ah st) .none kV doc pm an cdv ct),osl⟩)
  (c:PySem.W.codeIn K cdv x=true) (k:PySem.W.keepIn K (.ref f)=true):aZ K x st:=⟨f,_,a,sY l c k⟩
def e6 (K:PySem.W.Frag)(C:Addr)(m q:Str)(st:Stmt):Prop:=∃ (f:Addr)(fd:FuncData),PySem.W.findIn K (.ref C) m=some (some (.ref f))/\PySem.W.isFn K (.ref f)=true/\dM K m q st f fd
theorem mfact_mk {K:PySem.W.Frag}{C:Addr}{m q:Str}{st:Stmt}{f:Addr}{oc:Value}{od an:Option Addr}{osl:Array (Option Value)}{kV doc pm cdv ct:Value}(a:PySem.W.findIn K (.ref C) m=some (some (.ref f)))(i:PySem.W.isFn K (.ref f)=true)(l:K.lookup f=some ⟨oc,od,.func (PySem.W.fnOf m q (dO st) (c6 st) (ah st) .none kV doc pm an cdv ct),osl⟩)
  (c:PySem.W.codeIn K cdv q=true) (k:PySem.W.keepIn K (.ref f)=true):e6 K C m q st:=⟨f,_,a,i,sY l c k⟩
section
variable {P:Program}{w:World}{K:PySem.W.Frag}{h base:Heap}{mg:Str->Option Value}{x m q:Str}{st:Stmt}{k:Nat}{ps:List Str}{sp:Sp}{C:Addr}{CX:pJ}
theorem ym {n:Nat}{P:List Value->Prop}(h:∀ (a:Value)(vs:List Value),vs.length=n->P (a::vs)):∀ us:List Value,us.length=n+1->P us
 | a::vs,e=>h a vs (Nat.succ.inj e)
theorem yk {P:List Value->Prop}(h:P []):∀ us:List Value,us.length=0->P us
 | [],_=>h
theorem jg (X:K.In h)(G:h.Ns mainGlobals mg)(F:aZ K x st)(ok:∀ f fd,dM K x x st f fd->bp P w K mg base dq k f fd ps sp)
  (hb:∀ (kV doc pm:Value)(an:Option Addr)(cdv ct:Value)(us:List Value),us.length=ps.length->bindArgs (PySem.W.fnOf x x (dO st) (c6 st) (ah st) .none kV doc pm an cdv ct) ⟨us,[]⟩=pure (ps.zip us):=by intro _ _ _ _ _ _;(repeat refine ym fun _=>?_);exact yk rfl):aq P w K mg base x k ps sp:=by
 obtain⟨f,fd,a,g⟩:=F;exact⟨f,fd,ok f fd g,A5 X G a,g.kp,g.binds hb⟩
theorem zK (X:K.In h)(G:h.Ns mainGlobals mg)(F:aZ K x st)(ok:∀ f fd,dM K x x st f fd->bp P w K mg base (iz P w) k f fd ps sp)
  (hb:∀ (kV doc pm:Value)(an:Option Addr)(cdv ct:Value)(us:List Value),us.length=ps.length->bindArgs (PySem.W.fnOf x x (dO st) (c6 st) (ah st) .none kV doc pm an cdv ct) ⟨us,[]⟩=pure (ps.zip us):=by intro _ _ _ _ _ _;(repeat refine ym fun _=>?_);exact yk rfl):iZ P w K mg base x k ps sp:=by
 obtain⟨f,fd,a,g⟩:=F;exact⟨f,fd,ok f fd g,A5 X G a,g.kp,g.binds hb⟩
theorem uD (F:e6 K C m q st)(ok:∀ f fd,dM K m q st f fd->bp P w K mg base CX k f fd ps sp)
  (hb:∀ (kV doc pm:Value)(an:Option Addr)(cdv ct:Value)(us:List Value),us.length=ps.length->bindArgs (PySem.W.fnOf m q (dO st) (c6 st) (ah st) .none kV doc pm an cdv ct) ⟨us,[]⟩=pure (ps.zip us):=by intro _ _ _ _ _ _;(repeat refine ym fun _=>?_);exact yk rfl):aS P w K mg base CX C m k ps sp:=by
 obtain⟨f,fd,a,i,g⟩:=F;exact⟨f,fd,ok f fd g,⟨a,i,g.kp⟩,g.binds hb⟩
end
end Wz
namespace L2
open PySem PySem.Spec PyProof.Rows
theorem ve {X:Cx}{tg:Expr}(K:PySem.W.Frag){l:Expr}{tl:TE}(hl:PE X l tl)(hK:X.K=K:=by rfl):PI X tg l (xy K tl):=by subst hK;exact jU hl
end L2
namespace PySem
open Sem (wp)
section
variable {M:Model}{A:Around}{E:Value->Shared->Prop}{s:Shared}{env:Env}
def wW (M:Model)(A:Around)(E:Value->Shared->Prop)(use:Option (Value->Sem Unit))(Q:Value->Shared->Prop)(acc:Value)(C:Addr)(fr:Option Addr)(r:Result)(s':Shared):Prop :=
 match r,use with
 | .ok _,none=>∃ m,s'.heap.Ns C m/\∀ h',Heap.SameBut C s'.heap h'->Q acc { s' with heap:=h' }
 | .ok _,some u=>wpAny M A (u acc) (fun _ s''=>∃ m,s''.heap.Ns C m/\∀ h',Heap.SameBut C s''.heap h'->Q .none { s'' with heap:=h' }) E s'
 | .error x,_=>∃ m,s'.heap.Ns C m/\∀ h',Heap.SameBut C s'.heap h'->∀ cenv:Env,cenv.frame=fr->wpAny M A (passOn "comprehension.variables-let-go" x cenv:Sem Value) (fun _ _=>False) E { s' with heap:=h' }
end
end PySem
namespace L2
open PySem PySem.Spec PyProof.Rows
def om (CX:pJ)(X:Cx)(σ:St)(E:XK):Prop:=∀ (pins:List (Addr×Obj))(H:Hp)(s:Shared)(e:Value)(s':Shared),az X pins σ H s->CX X.stack H s E e s'->X.xe e s'
def zz (X:Cx)(pins:List (Addr×Obj))(E:St->XK)(e:Value)(s':Shared):Prop:=∃ (σ:St)(H:Hp)(ea C:Addr)(od:Option Addr)(B:Heap),e=.ref ea/\vW X pins σ H ea C od B s'/\iY B X.stack ea (.ref C) od s'.heap/\σ.length=X.N.length/\E σ (.ref C) od H
theorem tM {X:Cx}{pins:List (Addr×Obj)}{E:St->XK}(σ:St):om (iz X.prog X.w) (X.tried pins (zz X pins E)) σ (E σ):=by
 intro qins H s e s' I hc;obtain⟨ea,C,od,H',B,rfl,fl,un,hok,os,bare,hsB,trB,hE⟩:=hc;exact⟨σ,H',ea,C,od,B,rfl,uV I.untried fl un hok os bare hsB trB,fl,I.len,hE⟩
theorem rm {X:Cx}{b0:Stmt}{bs:List Stmt}{hd0:ExceptHandler}{hdl:List ExceptHandler}{tb:(St->XK)->TS}{th:Value->Option Addr->TS}{pos:Pos}
  (hst:X.stack=X.env::X.outer) (hfr:X.env.frame=some X.env.locals) (hb:∀ pins E,pO (X.tried pins (zz X pins E)) (b0::bs) (tb E)) (hh:ye X (hd0::hdl) th) :
  PS X (.Try (b0::bs) (hd0::hdl) [] [] pos) (fun D σ H=>tb (fun σ' cls od H2=>th cls od D σ' H2) D σ H):=by
 intro pins s σ H D I h;refine wpAny_Try_except ?_;refine AA (hb pins _ [] s σ H D I.tried h) (fun f s1 hq=>?_) fun e s' hx=>?_
 ·cases f with
  | next=>obtain⟨σ',H',I1,q⟩:=hq;exact wpAny_execs_nil ⟨σ',H',I1.untried,q⟩
  | brk=>obtain⟨σ',H',I1,q⟩:=hq;exact⟨σ',H',I1.untried,q⟩
  | cont=>obtain⟨σ',H',I1,q⟩:=hq;exact⟨σ',H',I1.untried,q⟩
  | ret u=>obtain⟨v,σ',H',I1,r,q⟩:=hq;exact⟨v,σ',H',I1.untried,r,q⟩
 ·obtain⟨σ',H',ea,C,od,B,rfl,ld,fl,hl,hE⟩:=hx
  have fl':=fl;rw[hst]at fl';refine rZ (by rw[I.ok.frames,hst]) hfr fl' fun h4 held ups4=>?_;refine wv held fun h5 fl5 ups5=>?_;rw[<-hst]at fl5;exact hh pins σ' H' D ea C od B s' h5 ld fl5 (ups4.trans ups5) hE
end L2
namespace Wz
open PySem L2
theorem tY {X:Cx}{k:Nat}{C:Addr}{ps:List Str}{sp:Sp}{E:St->XK}{m:Str}{pos apos:Pos}{e o:Expr}{es:List Expr}{ta:TE}{t:TA}{pl:Sem Bool}(M:aS X.prog X.w X.K X.mg X.base (iz X.prog X.w) C m k ps sp)(ho:PE X o ta)(c:qF X.K C)(hr:cw k X.A)(hx:∀ σ,om (iz X.prog X.w) X σ (E σ))(ha:PA X (e::es) t)
  (hst:starEach (e::es) X.env=(false,eval e X.env)::starEach es X.env:=by rfl) (hpl:(backTo pos (starEach es X.env)).any (·.1)=false:=by rfl)
  (ht:eval (.Call (.Attribute o m apos) (e::es) [] pos) X.env=(do
   let ov <-eval o X.env
   standAt apos.atName
   let (f,first) <-holding [ov] (getMethod ov m pl)
   callWith pos f first (backTo pos (starEach (e::es) X.env)) (backToKw pos (keywordEach [] X.env))):=by rfl) :
  PE X (.Call (.Attribute o m apos) (e::es) [] pos) (fun σ H Q=>pk C m sp [] (E σ) ta t σ H Q):=by
 obtain⟨f,fd,F,hm,hb⟩:=M;intro pins s σ H Q I h;refine PySem.W.methodCall_KW (pl:=pl) (bf (ho pins s σ H _ I h) fun u s1 ⟨x,H1,I1,rx,a,dx,fs,ex,ea,l,q⟩=>?_) ht;subst ex;obtain rfl:u=Value.ref a:=rx;refine iH I1 ea c hm l ?_;refine PySem.W.callWith_K (first:=[.ref a]) (h₀:=X.base) I.ok.mod.kin hm.kp (bf (ha pos pins s1 σ H1 _ I1 q) fun us s2 ⟨vs,H2,I2,r,q2⟩=>⟨I2.kIn,?_⟩) hst hpl;have r2:Vals ((.ref a::vs)++[]) ((.ref a::us)++[]):=Vals.append (show Vals (V.ref a::vs) (Value.ref a::us) from .cons rfl r) .nil
 have hl:((.ref a::us)++[]:List Value).length=ps.length:=by rw[<-r2.length];exact F.len _ _ _ _ q2
 refine wpAny_call (BS (F.run X.A X.stack s2 H2 ⟨.ref a::us,[]⟩ ((.ref a::us)++[]) ((.ref a::vs)++[]) Q (E σ) hr I2.env0 (hb s2 (.ref a::us) I2.kIn hl) r2 q2) fun r s' hq=>?_)
 cases r with
 | error e=>exact hx σ pins H2 s2 e s' I2 hq
 | ok fl =>
  cases fl with
  | ret u=>exact I2.after hq
  | next=>exact False.elim hq
  | brk=>exact False.elim hq
  | cont=>exact False.elim hq
end Wz
set_option maxRecDepth 1000000
set_option maxHeartbeats 8000000
namespace Wz
open PySem L2
theorem gK {P:St->Hp->Prop}{G:Prop}(C:St->Hp->Prop)(main:(∀ σ HH,C σ HH->P σ HH)->G)(key:∀ σ HH,C σ HH->P σ HH):G:=main key
end Wz
set_option maxRecDepth 1000000
set_option maxHeartbeats 8000000
namespace Wz
open PySem PySem.Spec PyProof.Rows L2 PySem.SetTable
section
variable {X:Cx}
theorem jF:∀ (l acc:List Int),acc.Nodup->(l.foldl step_dedup acc).length<=acc.length+l.length/\((l.foldl step_dedup acc).length=acc.length+l.length↔(acc++l).Nodup)
 | [],acc,nd=>by simp[nd]
 | x::l,acc,nd=>by
  rw[List.foldl_cons]
  by_cases hx:x∈acc
  ·have e:step_dedup acc x=acc:=by unfold step_dedup;rw[Ai (by simpa using hx)]
   rw[e];obtain⟨h1,h2⟩:=jF l acc nd;rw[AT];refine⟨by omega,⟨fun z=>by omega,fun z=>?_⟩⟩;rw[BC]at z;exact absurd rfl (z.2.2 x hx x Am)
  ·have e:step_dedup acc x=acc++[x]:=by unfold step_dedup;rw[Ag (by simpa using hx)]
   rw[e];obtain⟨h1,h2⟩:=jF l (acc++[x]) (BC.mpr ⟨nd,by simp,fun a ha b hb z=>hx (by rw[<-Ap.mp hb,<-z];exact ha)⟩);rw[An,AF]at h1 h2;rw[AT,show acc.length+(l.length+1)=acc.length+1+l.length by omega,h2,Bz];exact⟨h1,Iff.rfl⟩
theorem rL (hc:X.calm=true):eI X (.type "set") (fun xs H Q=>∃ (p:Addr)(ns:List Int),xs=[.ref p]/\aR X.K H p (ns.map V.int)/\ns.length<=1000/\∀ l S (n:Nat),H l=none->n<=ns.length->(n=ns.length↔ns.Nodup)->Q (.ref l) (aD H l (.set S n))):=by
 intro pins s σ H xs us Q I r h;obtain⟨p,ns,rfl,hq,hz,q⟩:=h;obtain⟨u,rfl,rx⟩:=fY r;cases rx;obtain⟨its,rv,pl,_⟩:=I.list hq;have hl:=rv.length;rw[z9]at hl;refine call_set_list (I.ok.hd hc) pl.isList (ns:=ns) (by simpa using jb rv) (by rw[Aj,<-hl];exact Nat.lt_of_le_of_lt (Nat.succ_le_succ hz) (by decide)) fun h' tk hS hk=>?_
 have en:(firstMet (fun i=>ns.getD i 0) its.toArray.size)=ns.foldl step_dedup []:=by
  unfold firstMet;rw[Aj,<-hl,pY]
 rw[en]at hS;obtain⟨d1,d2⟩:=jF ns [] BU;refine⟨.ref s.heap.objs.size,_,I.laid (t':=tk) (o:=.set _ (ns.foldl step_dedup []).length) (fun b u e=>hk b u (Aa e) e) (Ad _) (show bv X.prog X.w _ _ _ (.set _ (ns.foldl step_dedup []).length) from hS),rfl,q _ _ _ (I.hok.fresh (Ad _)) (by simpa using d1) (by simpa using d2)⟩
end
open PySem L2
structure zF (K:PySem.W.Frag)(mg:Str->Option Value)(o:Addr):Prop where
 e:dB K o
 m:mg "Same" = some (.ref o)
 x:PySem.W.exmOne K (.ref o) (.ref o)=some true
def vE (a b c d:Int):List (Int×Int):=[(a,b),(c,d),(a,c),(b,d),(a,d),(b,c)]
inductive jy (co:Addr) (vs:List V) (H:Hp) (Q:VK) (E:XK):Prop
 | mk (a b c d:Int) (h_0:vs=[.int a,.int b,.int c,.int d]) (h_1:([a,b,c,d].Nodup->∀ (l:Addr)(H':Hp),H l=none->av H H'->bF H' l (vE a b c d)->Q (.ref l) H')) (h_2:(¬ [a,b,c,d].Nodup->∀ H',av H H'->E (.ref co) none H')):jy co vs H Q E
end Wz
namespace Tm
open PySem PyProof.Rows
def el (xs:Array Keyed)(i:Nat):Keyed:=xs.getD i (.none,.none)
structure zX (P:Program)(w:World)(A:Around)(s:Shared)(κ:SortKind)(a0:Array Keyed)(lt:Keyed->Keyed->Bool):Prop where
 cmp:∀ {x y:Keyed}{E:Value->Shared->Prop}{Q:Bool->Prop},x∈a0->y∈a0->Q (lt x y)->wpAny (model P w) A (keyLt' κ x.1 y.1) (fun b s'=>s'=s/\Q b) E s
 irr:∀ x,lt x x=false
 tr:∀ x y z,lt x y=true->lt y z=true->lt x z=true
 tot:∀ x y,x∈a0->y∈a0->x≠y->lt x y=true\/lt y x=true
 nd:a0.toList.Nodup
structure zE (κ:SortKind)(a0:Array Keyed)(st:SortSt):Prop where
 pm:(arrOf st).Perm a0
 fl:failedOf st=none
 kd:kindOf st=κ
section
variable {P:Program}{w:World}{A:Around}{E:Value->Shared->Prop}{s:Shared}{κ:SortKind}{a0:Array Keyed}{lt:Keyed->Keyed->Bool}{st:SortSt}
def Up (lt:Keyed->Keyed->Bool)(xs:Array Keyed)(lo hi:Nat):Prop:=∀ i j,lo<=i->i<j->j<hi->lt (el xs i) (el xs j)=true
def Dn (lt:Keyed->Keyed->Bool)(xs:Array Keyed)(lo hi:Nat):Prop:=∀ i j,lo<=i->i<j->j<hi->lt (el xs j) (el xs i)=true
def zW (xs ys:Array Keyed)(lo hi:Nat):Prop:=∀ i,i<lo\/hi<=i->el ys i=el xs i
def zH (st st':SortSt):Prop:=pendingOf st'=pendingOf st/\gallopOf st'=gallopOf st
end
def yj:Bool->Keyed->Array Keyed->Nat->Nat->Nat->StateT SortSt Sem (Option Nat):=sortPriv% PySem.Builtin.gallop
def Bf (lt:Keyed->Keyed->Bool)(left:Bool)(key:Keyed)(xs:Array Keyed)(b i:Nat):Bool:=if left=true then lt (el xs (b+i)) key else !lt key (el xs (b+i))
def Fn (R:Keyed->Keyed->Prop)(T r:List Keyed):Prop:=r.Perm T/\r.Pairwise R
structure J (R:Keyed->Keyed->Prop)(T out ra rb:List Keyed):Prop where
 pm:(out++(ra++rb)).Perm T
 so:out.Pairwise R
 oa:∀ x,x∈out->∀ y,y∈ra->R x y
 ob:∀ x,x∈out->∀ y,y∈rb->R x y
 sa:ra.Pairwise R
 sb:rb.Pairwise R
 la:∀ x,x∈rb->∀ z,ra.getLast? = some z->R x z
def xB:Array Keyed->Array Keyed->StateT SortSt Sem (Array Keyed):=sortPriv% PySem.Builtin.mergeLo
def uE:Nat->StateT SortSt Sem Unit:=sortPriv% PySem.Builtin.setMinGallop
structure zZ (a0:Array Keyed)(lt:Keyed->Keyed->Bool)(a b:Array Keyed):Prop where
 ma:∀ i,i<a.size->el a i∈a0
 mb:∀ i,i<b.size->el b i∈a0
 ne:∀ i j,i<a.size->j<b.size->el a i≠el b j
 ua:Up lt a 0 a.size
 ub:Up lt b 0 b.size
 za:0<a.size
 zb:0<b.size
 h0:lt (el b 0) (el a 0)=true
 hl:lt (el b (b.size-1)) (el a (a.size-1))=true
def av (st st':SortSt):Prop:=arrOf st'=arrOf st/\failedOf st'=failedOf st/\kindOf st'=kindOf st/\pendingOf st'=pendingOf st
def Jl (lt:Keyed->Keyed->Bool)(a b:Array Keyed)(out:Array Keyed)(ia ib:Nat):Prop:=J (fun x y=>lt x y=true) (a.toList++b.toList) out.toList (a.toList.drop ia) (b.toList.drop ib)
def Sl (lt:Keyed->Keyed->Bool)(a b:Array Keyed)(n:Nat)(r:Option (Array Keyed))(out:Array Keyed)(ia ib:Nat):Prop :=
 (∃ q,r=some q/\Fn (fun x y=>lt x y=true) (a.toList++b.toList) q.toList)\/(r=none/\Jl lt a b out ia ib/\ia+1<a.size/\ib<b.size/\n<=out.size)
def xA:Array Keyed->Array Keyed->StateT SortSt Sem (Array Keyed):=sortPriv% PySem.Builtin.mergeHi
def Jh (lt:Keyed->Keyed->Bool)(a b:Array Keyed)(out:Array Keyed)(na nb:Nat):Prop:=J (fun x y=>lt y x=true) (a.toList++b.toList) out.toList (b.toList.take nb).reverse (a.toList.take na).reverse
def Sh (lt:Keyed->Keyed->Bool)(a b:Array Keyed)(n:Nat)(r:Option (Array Keyed))(out:Array Keyed)(na nb:Nat):Prop :=
 (∃ q,r=some q/\Fn (fun x y=>lt x y=true) (a.toList++b.toList) q.toList)\/(r=none/\Jh lt a b out na nb/\0<na/\na<a.size/\1<nb/\nb<=b.size/\n<=out.size)
def back (q:Nat)(m arr:Array Keyed):Array Keyed:=m.toList.zipIdx.foldl (fun a (p,j)=>a.setIfInBounds (q+j) p) arr
def Ch (lt:Keyed->Keyed->Bool)(xs:Array Keyed):Nat->List (Nat×Nat×Nat)->Nat->Prop
 | f,[],u=>f=u
 | f,t::r,u=>t.1=f/\1<=t.2.1/\Up lt xs f (f+t.2.1)/\Ch lt xs (f+t.2.1) r u
end Tm
namespace Qs
open PySem PySem.W PyProof.Rows
open Classical in
noncomputable def dec (h:Heap) (v:Value):Int×Int:=if z:∃ p,vY h v p then choose z else (0,0)
end Qs
namespace L2
open PySem PySem.Spec PyProof.Rows
inductive xL (K:PySem.W.Frag) (n:Nat) (neg:Bool) (x:V) (y:V) (H:Hp) (Q:VK):Prop
 | mk (p:Addr) (as:List Addr) (d:Dt) (ds:List Dt) (h_0:y=.ref p) (h_1:(aR K H p (as.map V.ref)\/aG K H p (as.map V.ref))) (h_2:RD K H n x d) (h_3:Paired (fun (a:Addr)(e:Dt)=>RD K H n (.ref a) e) as ds) (h_4:∀ k:Bool,(k=true↔d∈ds)->Q (.bl (if neg then !k else k)) H):xL K n neg x y H Q
section
variable {X:Cx}
open Classical in
theorem nc {pins:List (Addr×Obj)}{σ:St}{H:Hp}{s:Shared}{n:Nat}{A:Around}{x:V}{v:Value}{d:Dt}(I:az X pins σ H s)(hu:A.units+n<cLine+1)(rx:aO x v)(hx:RD X.K H n x d) :
  ∀ {as:List Addr}{ds:List Dt}{us:List Value},Paired (fun (a:Addr)(e:Dt)=>RD X.K H n (.ref a) e) as ds->Vals (as.map V.ref) us ->
  (∀ u∈us,SeqAt.EqAt A s u v (decide (∃ a,u=.ref a/\RD X.K H n (.ref a) d)))/\(us.any (fun u=>decide (∃ a,u=.ref a/\RD X.K H n (.ref a) d))=true↔d∈ds)
 | _,_,us,.nil,r=>by
  cases r;exact⟨(fun u hu=>(by cases hu)),(by simp)⟩
 | a::as,e::ds,us,.cons he hp,r=>by
  cases r with
  | cons r1 r2 =>
   rename_i u us
   cases r1;obtain⟨ih1,ih2⟩:=nc I hu rx hx hp r2;obtain⟨k,hk,ek⟩:=pT I n hu he hx (show aO (.ref a) (.ref a) from rfl) rx
   have kk:decide (∃ b,Value.ref a=.ref b/\RD X.K H n (.ref b) d)=k:=by
    by_cases z:e=d
    ·rw[hk.mpr z]
     exact Af ⟨a,rfl,z▸he⟩
    ·have:k=false:=by cases k with
      | false=>rfl
      | true=>exact absurd (hk.mp rfl) z
     rw[this];refine Ab fun ⟨b,eb,hb⟩=>z ?_;cases eb;exact RD.inj I he hb
   refine⟨fun w hw=>?_,?_⟩
   ·rcases Aq.mp hw with rfl | hw
    ·rw[kk];exact ek
    ·exact ih1 w hw
   ·rw[BI,kk,Bool.or_eq_true,ih2,Aq,hk]
    exact⟨fun z=>z.imp (fun y=>y.symm) id,fun z=>z.imp (fun y=>y.symm) id⟩
end
end L2
namespace Wz
open PySem L2
theorem qT {n:Nat}{v:V}{σ:St}{H:Hp}{Q:St->Hp->Prop}(h:Q (σ.set n (some v)) H):iu n v σ H Q:=h
end Wz
namespace L2
open PySem PySem.Spec PyProof.Rows
theorem az.turnedL {X:Cx}{pins:List (Addr×Obj)}{σ:St}{H:Hp}{s:Shared}{h':Heap}{t':Nat}{ch:List Addr}(I:az X pins σ H s)(k:∀ b o,b∉ch->s.heap.get? b=some o->h'.get? b=some o)(f:∀ b∈ch,eE X pins H b):az X pins σ H { s with heap:=h',toks:=t' }:=by
 have nit:∀ b u,H b=some u->b∉ch:=fun b u q z=>by
  have:=(f b z).1;rw[this]at q;cases q
 refine I.step (g':=s.gens) (d':=s.drawn) (ch:=ch) (fun b hb=>?_) (fun b o _ _ hc q _=>k b o hc q) (fun b o _ _ hc q _=>⟨o.slots,k b o hc q⟩) (fun _ _ _ _ n=>n)
  (fun b o hc q=>⟨o,k b o hc q⟩) (fun _ _ q=>q) (fun _ _ _ q=>q) (fun b ps q=>⟨#[],by rw[q];simp⟩) (fun m hm=>?_) (fun b u q=>?_) I.bare
 ·obtain⟨e0,e1,e2,e3,e4,e5⟩:=f b hb
  exact⟨e3,e1,e4,e5⟩
 ·obtain⟨o,es,ep,ho,r⟩:=hm
  exact⟨o,es,ep,k _ o (fun z=>(f _ z).2.1 rfl) ho,r⟩
 ·refine (I.hok b u q).stay (fun c v hc z=>k c v ?_ z) (fun _ z=>z) fun _ _ z=>z
  rcases hc with z | z
  ·rw[z];exact nit b u q
  ·exact nit c _ z
def xa (K:PySem.W.Frag)(l1 l2:Addr):It :=
 ⟨fun i H=>∃ xs ys x y,aR K H l1 xs/\aR K H l2 ys/\xs[i]? = some x/\ys[i]? = some y,fun i H v H'=>∃ T x y,H T=none/\v=.ref T/\H'=aD H T (.tup [x,y])/\(∀ xs,aR K H l1 xs->xs[i]? = some x)/\∀ ys,aR K H l2 ys->ys[i]? = some y,fun i H=>∃ xs ys,aR K H l1 xs/\aR K H l2 ys/\(xs.length<=i\/ys.length<=i)⟩
theorem uo {P:Program}{w:World}{K:PySem.W.Frag}{elts:List Expr} {kk}{pos:Pos}(z TI TO i1 i2 l1 l2:Addr)(D:ZipApart z TI TO i1 i2 l1 l2):oo P w K (.Tuple elts kk pos) (xa K l1 l2) [z,TI,TO,i1,i2] z (fun i h=>IsZip h z TI TO .none/\IsPair h TI (.ref i1) (.ref i2)/\(∃ a b,IsPair h TO a b)/\h.IsListIter i1 l1 i/\h.IsListIter i2 l2 i) where
 mem:=by simp
 obj:=fun i h st b hb=>by
  obtain⟨hz,h1,⟨a,b',h2⟩,⟨o3,e3,c3,d3⟩,⟨o4,e4,c4,d4⟩⟩:=st;simp only[Aq,Bd,or_false]at hb;rcases hb with rfl | rfl | rfl | rfl | rfl
  ·exact⟨_,hz,fun v z=>by cases z⟩
  ·exact⟨_,h1,fun v z=>by cases z⟩
  ·exact⟨_,h2,fun v z=>by cases z⟩
  ·exact⟨o3,e3,fun v z=>by rw[d3]at z;cases z⟩
  ·exact⟨o4,e4,fun v z=>by rw[d4]at z;cases z⟩
 keep:=fun i h h' st k=>by
  obtain⟨hz,h1,⟨a,b',h2⟩,h3,h4⟩:=st;exact⟨k z (by simp) _ hz,k TI (by simp) _ h1,⟨a,b',k TO (by simp) _ h2⟩,h3.at fun o x=>k i1 (by simp) o x,h4.at fun o x=>k i2 (by simp) o x⟩
 item:=by
  intro X hP hw hK hc i pins s σ H E I hf st hg;subst hP hw hK;obtain⟨xs,ys,x,y,hq1,hq2,hx,hy⟩:=hg;obtain⟨its,rv,p,hz0⟩:=I.list hq1;obtain⟨jts,rv2,p2,hz2⟩:=I.list hq2;obtain⟨u,hu,ru⟩:=rv.get hx;obtain⟨u2,hu2,ru2⟩:=rv2.get hy;obtain⟨hz,h1,⟨a,b',h2⟩,h3,h4⟩:=st
  have lt:∀ b∈[z,TI,TO,i1,i2],b<s.heap.objs.size:=fun b hb=>by
   simp only[Aq,Bd,or_false]at hb;rcases hb with rfl | rfl | rfl | rfl | rfl
   ·exact Aa hz
   ·exact Aa h1
   ·exact Aa h2
   ·obtain⟨_,q,_⟩:=id h3;exact Aa q
   ·obtain⟨_,q,_⟩:=id h4;exact Aa q
  refine wpAny_pyNext_zip_item D hz h1 h2 h3 h4 p.isList p2.isList (x:=u) (y:=u2) (by simpa using hu) (by simpa using hu2) fun h' a1 a2 a3 a4 a5 a6 a7=>⟨.ref s.heap.objs.size,rfl,?_⟩;refine wpAny_letOwnedTupleGo_zip (s:={ s with heap:=h' }) a1 fun h9 he9 sb9=>?_;have hfr:H s.heap.objs.size=none:=I.hok.fresh (Ad _)
  have IL:az X pins σ (aD H s.heap.objs.size (.tup [x,y])) { s with heap:=s.heap.push { cls:=.type "tuple",data:=.seq #[u,u2] },toks:=s.toks } :=
   I.laid (fun b o q=>Heap.get?_push_of_some _ q) (Ad _) ⟨by show 2<=sizeLine;decide,[u,u2],.cons ru (.cons ru2 .nil),⟨_,Heap.get?_push_size _ rfl,rfl,_,rfl⟩⟩
  have fp':∀ b,b<s.heap.objs.size->eE X pins H b->eE X pins (aD H s.heap.objs.size (.tup [x,y])) b:=fun b hb ⟨f0,f1,f2,f3,f4,f5⟩=>⟨by rw[ap (Al hb)];exact f0,f1,f2,f3,f4,f5⟩
  have nm:∀ b,b∉[z,TI,TO,i1,i2]->b≠z/\b≠TO/\b≠i1/\b≠i2:=fun b hb=>by
   simp only[Aq,Bd,or_false,not_or]at hb;exact⟨hb.1,hb.2.2.1,hb.2.2.2.1,hb.2.2.2.2⟩
  have I2:az X pins σ (aD H s.heap.objs.size (.tup [x,y])) { s with heap:=h9,toks:=s.toks }:=az.turnedL (s:={ s with heap:=s.heap.push { cls:=.type "tuple",data:=.seq #[u,u2] },toks:=s.toks }) IL (t':=s.toks) (h':=h9) (ch:=[z,TI,TO,i1,i2]) (fun b o n q=>by
   obtain⟨n1,n2,n3,n4⟩:=nm b n;refine (sb9.2 b n1).trans ?_
   show h'.get? b=some o
   by_cases hb:b=s.heap.objs.size
   ·subst hb
    have q:(s.heap.push { cls:=.type "tuple",data:=.seq #[u,u2] }).get? s.heap.objs.size=some o:=q;rw[Heap.get?_push_size _ rfl]at q;cases q;exact a5
   ·have q:(s.heap.push { cls:=.type "tuple",data:=.seq #[u,u2] }).get? b=some o:=q
    rw[Heap.get?_push_ne _ _ _ hb]at q
    exact a7 b o n1 n2 n3 n4 q) (fun b hb=>fp' b (lt b hb) (hf b hb))
  refine⟨.ref s.heap.objs.size,_,I2,rfl,⟨s.heap.objs.size,x,y,hfr,rfl,rfl,(fun zs hz=>by rw[I.list_inj hz hq1];exact hx),(fun zs hz=>by rw[I.list_inj hz hq2];exact hy)⟩,⟨he9,(sb9.2 TI D.TIz).trans ?_,⟨_,_,(sb9.2 TO D.TOz).trans a2⟩,a3.at fun o q=>(sb9.2 i1 D.i1z).trans q,a4.at fun o q=>(sb9.2 i2 D.i2z).trans q⟩,fun b hb=>(fp' b (lt b hb) (hf b hb)).1⟩;exact a7 TI _ D.TIz D.TITO D.TIi1 D.TIi2 h1
 done:=by
  intro X hP hw hK hc i pins s σ H E I hf st hg;subst hP hw hK;obtain⟨xs,ys,hq1,hq2,hl⟩:=hg;obtain⟨its,rv,p,hz0⟩:=I.list hq1;obtain⟨jts,rv2,p2,hz2⟩:=I.list hq2;obtain⟨hz,h1,⟨a,b',h2⟩,h3,h4⟩:=st;have l1:=rv.length;have l2:=rv2.length;refine wpAny_pyNext_zip_end (I.ok.hd hc) D hz h1 h2 h3 h4 p.isList p2.isList ?_ fun h' eb=>⟨rfl,I.turnedL (t':=s.toks) (ch:=[z,TI,TO,i1,i2]) (fun b o n q=>?_) hf⟩
  ·rcases hl with q | q
   ·exact .inl (by simp;omega)
   ·exact .inr (by simp;omega)
  ·simp only[Aq,Bd,or_false,not_or]at n
   exact eb b o n.1 n.2.2.1 n.2.2.2.1 n.2.2.2.2 q
 self:=fun _ _ _ _ _ st h=>wpAny_pyIter_zip st.1 h
def yM (K:PySem.W.Frag)(t:TA):TI:=fun σ H R=>t σ H fun vs H1=>∃ l1 l2,vs=[.ref l1,.ref l2]/\(∃ xs,aR K H1 l1 xs)/\(∃ ys,aR K H1 l2 ys)/\R (xa K l1 l2) H1
theorem wG {X:Cx}{elts:List Expr} {kk}{tpos:Pos}{a b:Expr}{ta:TA}{p pos:Pos}(hg:Gl X "zip")(hm:X.mg "zip" = none)(ha:PA X [a,b] ta)
  (he:starEach [a,b] X.env=(false,eval a X.env)::starEach [b] X.env:=by rfl) (hpl:(backTo pos (starEach [b] X.env)).any (·.1)=false:=by rfl):PI X (.Tuple elts kk tpos) (.Call (.Name "zip" p) [a,b] [] pos) (yM X.K ta):=by
 intro pins s σ H R I h;refine AV (dD I hg hm boot_zip ?_ (by decide) (by decide));refine AM (bf (ha pos pins s σ H _ I h) fun us s1 ⟨vs,H1,I1,r1,l1,l2,e1,⟨xs,hq⟩,⟨ys,hq2⟩,q⟩=>?_) he hpl;subst e1;obtain⟨u,u2,rfl,rx,ry⟩:=uw r1;cases rx;cases ry;obtain⟨its,rv,pl,hz⟩:=I1.list hq;obtain⟨jts,rv2,pl2,hz2⟩:=I1.list hq2;refine call_zip_2 pl.isList pl2.isList fun h' a1 a2 a3 a4 a5 a6 hk=>?_;have I2:az X pins σ H1 { s1 with heap:=h',toks:=s1.toks }:=I1.kept hk;refine wpAny_pyIter_zip (s:={ s1 with heap:=h' }) a1 ?_;have lt:∀ {l:Addr}{xs:Array Value},s1.heap.IsList l xs->l<s1.heap.objs.size:=fun ⟨o,e,_⟩=>Aa e;have L1:=lt pl.isList;have L2:=lt pl2.isList;refine⟨s1.heap.objs.size+4,[s1.heap.objs.size+4,s1.heap.objs.size+2,s1.heap.objs.size+3,s1.heap.objs.size,s1.heap.objs.size+1],_,_,H1,rfl,I2,uo _ _ _ _ _ l1 l2 ?_,⟨a1,a2,⟨_,_,a3⟩,a4,a5⟩,fun b hb=>?_,q⟩
 ·constructor<;>first | exact Al (As L1 (BG _ _)) | exact Al (As L2 (BG _ _)) | exact Al L1 | exact Al L2 | exact fun q=>by have q:(_:Nat)=_:=q;omega
 ·simp only[Aq,Bd,or_false]at hb
  rcases hb with rfl | rfl | rfl | rfl | rfl<;>exact I1.fpOk (by omega) (I1.hok.fresh (by omega))
theorem uP {K:PySem.W.Frag}{a b:Addr}{xs ys:List V}{g:TG}{tb:TS}{D:hJ}{σ:St}{H:Hp}(Pv:Nat->St->Hp->Prop)(hle:ys.length<=xs.length)(h0:Pv 0 σ H)(hl:∀ i σ H,i<=ys.length->Pv i σ H->aR K H a xs/\aR K H b ys)
  (hs:∀ i x y σ H T,xs[i]? = some x->ys[i]? = some y->Pv i σ H->H T=none->g (.ref T) σ (aD H T (.tup [x,y])) fun σ2 H2=>tb { D with nx:=Pv (i+1),ct:=Pv (i+1),bk:=D.nx } σ2 H2) (hd:∀ σ H,Pv ys.length σ H->D.nx σ H) :
  ∃ W:Nat->Nat->St->Hp->Prop,(∃ m,W 0 m σ H)/\∀ i m σ H,W i m σ H ->
   ((xa K a b).stop i H/\D.nx σ H)\/((xa K a b).go i H/\∃ N:St->Hp->Prop,(∀ σ' H',N σ' H'->∃ m',m'<m/\W (i+1) m' σ' H')/\∀ x H',(xa K a b).yld i H x H'->g x σ H' fun σ2 H2=>tb { D with nx:=N,ct:=N,bk:=D.nx } σ2 H2):=by
 refine⟨fun i m σ H=>m=ys.length-i/\i<=ys.length/\Pv i σ H,⟨ys.length,by simp,Au _,h0⟩,?_⟩;rintro i m σ H ⟨rfl,hi,p⟩;obtain⟨q,q2⟩:=hl i σ H hi p
 by_cases hlt:i<ys.length
 ·refine .inr ⟨⟨xs,ys,xs[i]'(by omega),ys[i],q,q2,List.getElem?_eq_getElem _,by simp[hlt]⟩,Pv (i+1),fun σ' H' p'=>⟨ys.length-(i+1),by omega,rfl,hlt,p'⟩,fun y H' z=>?_⟩
  obtain⟨T,x,y2,hT,e1,e2,hx,hy⟩:=z;subst e1 e2;exact hs i x y2 σ _ T (hx xs q) (hy ys q2) p hT
 ·have e:i=ys.length:=by omega
  subst e;exact .inl ⟨⟨xs,ys,q,q2,.inr (Ad _)⟩,hd σ H p⟩
def vo (x:Str):Prop:=x.cps.all (· < 128)=true
def vV (x:Str):It :=
 ⟨fun i _=>i<x.cps.toList.length,fun i H v H'=>H'=H/\∃ c,x.cps.toList[i]? = some c/\v=.str ⟨#[c]⟩,fun i _=>x.cps.toList.length<=i⟩
theorem uk {P:Program}{w:World}{K:PySem.W.Frag}{tg:Expr}(x:Str)(t:Tok)(it:Addr):oo P w K tg (vV x) [it] it (fun i h=>h.IsStrIter it "str_ascii_iterator" x t i) where
 mem:=by simp
 obj:=fun i h st b hb=>by
  have e:b=it:=by simpa using hb
  subst e;obtain⟨o,e,c,d⟩:=st;exact⟨o,e,fun v z=>by rw[d]at z;cases z⟩
 keep:=fun i h h' ⟨o,e,r⟩ k=>⟨o,k it (by simp) o e,r⟩
 item:=by
  intro X hP hw hK hc i pins s σ H E I hf st hg;subst hP hw hK;have hg:i<x.cps.toList.length:=hg;obtain⟨f0,f1,f2,f3,f4,f5⟩:=hf it (by simp)
  have hx:x.cps[i]? = some x.cps.toList[i]:=by simp
  refine wpAny_pyNext_ascii_item st hx fun h' st' sb=>?_;have I1:az X pins σ H { s with heap:=h',toks:=s.toks+1 }:=I.turned (t':=s.toks+1) (fun b o hb e=>(sb.2 b hb).trans e) f0 f1 f3 f4 f5;obtain⟨o,e,c,d⟩:=id st';exact⟨_,rfl,qU (s:={ s with heap:=h',toks:=s.toks+1 }) e c d (by decide) ⟨.str ⟨#[x.cps.toList[i]]⟩,H,I1,⟨_,rfl⟩,⟨rfl,_,List.getElem?_eq_getElem hg,rfl⟩,st',fun b hb=>(hf b hb).1⟩⟩
 done:=by
  intro X hP hw hK hc i pins s σ H E I hf st hg;subst hP hw hK;have hg:x.cps.toList.length<=i:=hg;obtain⟨f0,f1,f2,f3,f4,f5⟩:=hf it (by simp);refine wpAny_pyNext_ascii_end (I.ok.hd hc) st (by rw[Array.getElem?_eq_none];simpa using hg) fun h' eb=>⟨rfl,I.turned (t':=s.toks) (fun b o hb e=>eb b o hb e) f0 f1 f3 f4 f5⟩
 self:=fun _ _ _ _ _ st h=>wpAny_pyIter_striter_ascii st h
def yL (t:TE):TI:=fun σ H R=>t σ H fun v H1=>∃ x,v=.str x/\vo x/\R (vV x) H1
theorem tV {X:Cx}{tg l:Expr}{tl:TE}(hl:PE X l tl):PI X tg l (yL tl):=by
 intro pins s σ H R I h;refine bf (hl pins s σ H _ I h) fun v s1 ⟨y,H1,I1,r1,x,e,ha,q⟩=>?_;subst e;obtain⟨t,rfl⟩:=r1;refine wpAny_pyIter_ascii ha ?_;refine⟨s1.heap.objs.size,[s1.heap.objs.size],_,_,H1,rfl,I1.kept (t':=s1.toks) fun b o e=>Heap.get?_push_of_some _ e,uk x t _,⟨_,Heap.get?_push_size _ rfl,rfl,rfl⟩,fun b hb=>?_,q⟩
 have e:b=s1.heap.objs.size:=by simpa using hb
 subst e;exact I1.fpOk (Ad _) (I1.hok.fresh (Ad _))
theorem qS {x:Str}{g:TG}{tb:TS}{D:hJ}{σ:St}{H:Hp}(Pv:Nat->St->Hp->Prop)(h0:Pv 0 σ H)
  (hs:∀ i c σ H,x.cps.toList[i]? = some c->Pv i σ H->g (.str ⟨#[c]⟩) σ H fun σ2 H2=>tb { D with nx:=Pv (i+1),ct:=Pv (i+1),bk:=D.nx } σ2 H2) (hd:∀ σ H,Pv x.cps.toList.length σ H->D.nx σ H) :
  ∃ W:Nat->Nat->St->Hp->Prop,(∃ m,W 0 m σ H)/\∀ i m σ H,W i m σ H ->
   ((vV x).stop i H/\D.nx σ H)\/((vV x).go i H/\∃ N:St->Hp->Prop,(∀ σ' H',N σ' H'->∃ m',m'<m/\W (i+1) m' σ' H')/\∀ v H',(vV x).yld i H v H'->g v σ H' fun σ2 H2=>tb { D with nx:=N,ct:=N,bk:=D.nx } σ2 H2):=by
 generalize hl:x.cps.toList.length=n at hd;refine⟨fun i m σ H=>m=n-i/\i<=n/\Pv i σ H,⟨n,by simp,Au _,h0⟩,?_⟩;rintro i m σ H ⟨rfl,hi,p⟩
 by_cases hlt:i<n
 ·refine .inr ⟨show i<x.cps.toList.length by omega,Pv (i+1),fun σ' H' p'=>⟨n-(i+1),by omega,rfl,hlt,p'⟩,fun v H' y=>?_⟩
  obtain⟨e,c,hc,e2⟩:=y;subst e e2;exact hs i c σ _ hc p
 ·have e:i=n:=by omega
  subst e;exact .inl ⟨show x.cps.toList.length<=i by omega,hd σ H p⟩
theorem gC {X:Cx}{x:Str}{v:V}{pos:Pos}(hg:Gl X x)(hm:∃ u,X.mg x=some u/\aO v u)(hd:(x == ("__debug__" : Str))=false:=by decide):PE X (.Name x pos) (tC v):=by
 obtain⟨u,hm,r⟩:=hm;exact ri hg hm r hd
end L2
namespace Wz
open PySem L2
theorem sy {te:TE}{Qf:Hp->Prop}{x:Str}{q:Addr}{f:Nat->Bool}{rest:L2.St}{H:Hp}(hq:H q=none)(hlen:x.cps.toList.length<=1000)
  (ht:∀ (c:Nat)(HK:Hp)(Q':VK),av H HK->(∀ H5,av HK H5->Q' (.bl (f c)) H5)->te (some (.str ⟨#[c]⟩)::rest) HK Q') (k:∀ (HK:Hp),av H HK->HK q=some (.lst ((x.cps.toList.map f).map V.bl))->Qf HK) :
  gg (vV x) (iu 0) (sG mG te q) { nx:=fun _ H'=>Qf H',rt:=fun _ _=>False } (none::rest) (aD H q (.lst [])):=by
 refine qS (fun i σ HK=>∃ v:Option V,σ=v::rest/\av H HK/\HK q=some (.lst (((x.cps.toList.take i).map f).map V.bl))) ⟨none,rfl,ac hq,aa⟩ ?_ ?_
 ·rintro i c σ HK hi ⟨v,rfl,t1,hq2⟩
  have hil:i<x.cps.toList.length:=(List.getElem?_eq_some_iff.mp hi).1;refine cu (ht c HK _ t1 fun H5 s5=>⟨_,s5 _ _ hq2,by rw[z9,z9,Av];exact cg (by omega),_,rfl,bc (t1.trans s5) hq,?_⟩);rw[aa,AB,hi,AL,Ah,Ah];rfl
 ·rintro σ HK ⟨v,rfl,t1,hq2⟩
  rw[AC]at hq2;exact k HK t1 hq2
theorem gU {K:PySem.W.Frag}{te:TE}{Qf:Hp->Prop}{lr q:Addr}{α:Type}(g:α->V){rs:List α}{f:α->V}{rest:L2.St}{H:Hp}(hq:H q=none)(h1:H lr=some (.lst (rs.map g)))(hlen:rs.length<=1000)
  (ht:∀ (r:α)(HK:Hp)(Q':VK),r∈rs->av H HK->(∀ H5,av HK H5->Q' (f r) H5)->te (some (g r)::rest) HK Q') (k:∀ (HK:Hp),av H HK->HK q=some (.lst (rs.map f))->Qf HK) :
  gg (vU K lr) (iu 0) (sG mG te q) { nx:=fun _ H'=>Qf H',rt:=fun _ _=>False } (none::rest) (aD H q (.lst [])):=by
 refine bU (K:=K) (a:=lr) (xs:=rs.map g) (fun i σ HK=>∃ v:Option V,σ=v::rest/\av H HK/\HK q=some (.lst ((rs.take i).map f))) ⟨none,rfl,ac hq,aa⟩ (fun i σ HK _ ⟨_,_,s2,_⟩=>aR.of (s2 _ _ h1)) ?_ ?_
 ·rintro i y σ HK hi ⟨v,rfl,t1,hq2⟩
  obtain⟨r,hr0,rfl⟩:=bg hi;have hil:i<rs.length:=(List.getElem?_eq_some_iff.mp hr0).1;refine cu (ht r HK _ (Ax hr0) t1 fun H5 s5=>⟨_,s5 _ _ hq2,by rw[z9,Av];exact cg (by omega),_,rfl,bc (t1.trans s5) hq,?_⟩);rw[aa,AB,hr0,AL,Ah];rfl
 ·rintro σ HK ⟨v,rfl,t1,hq2⟩
  rw[z9,AC]at hq2;exact k HK t1 hq2
def wX (x:Str):List Nat:=x.cps.toList
theorem qK (x:Str):x.length=(wX x).length:=by unfold wX;rw[Bj];rfl
theorem qJ (x y:Str):wX (x++y)=wX x++wX y:=by
 show (x.cps++y.cps).toList=_
 rw[Array.toList_append];rfl
theorem vZ {x:Str}(h:∀ c∈wX x,c<128):vo x:=by
 unfold vo;rw[<-Array.all_toList,Bn];exact fun c hc=>Af (h c hc)
end Wz
namespace L2
open PySem PySem.Spec PyProof.Rows
section
variable {prog:Program}{w:World}{A:Around}{E:Value->Shared->Prop}{s:Shared}
theorem df {it t:Addr}{i:Nat}{xs:Array Value}{x:Value}{Q:Value->Shared->Prop}(hI:s.heap.IsTupleIter it t i)(hT:s.heap.IsTuple t xs)(hx:xs[i]? = some x)
  (k:∀ h',h'.IsTupleIter it t (i+1)->Heap.SameBut it s.heap h'->Q x { s with heap:=h' }):wpAny (model prog w) A (Builtin.SmallTypes.nextOf (.ref it)) Q E s:=by
 obtain⟨ot,et,_,m,dt⟩:=hT;obtain⟨oi,ei,ci,di⟩:=id hI;unfold Builtin.SmallTypes.nextOf;refine z4 (wpAny_callSpecial?_slot (name:=Str.ofString "__next__") hI.typeIs Bw (Bm Bw hI.typeIs F.entry_tuple_iterator_next ?_ (F.args_tuple_iterator_next_1 _)))
 show wpAny _ _ (field (.ref it) 0 >>= _) _ _ s
 refine z4 (AN ei di (x:=.ref t) rfl ?_)
 show wpAny _ _ (if (Value.ref t == Value.none)=true then _ else _) _ _ s
 rw[Ag (by exact Ae)]
 show wpAny _ _ (field (.ref it) 1 >>= _) _ _ s
 refine z4 (AN ei di (x:=.int i 0) rfl ?_)
 show wpAny _ _ (seqItems? (.ref t) >>= _) _ _ s
 refine z4 (A1 et dt ?_);simp only[By,hx];refine z4 (wpAny_setField ei di (by simp) (Ac ⟨x,rfl,Ac (k _ ⟨_,Heap.get?_update_self _ ei (Obj.isFreed_of_fields (BN di _)),(Obj.cls_mapFields ..).trans ci,?_⟩ (Heap.SameBut.update ..))⟩));rw[BN di];simp[rawInt]
theorem jN {it t:Addr}{i:Nat}{xs:Array Value}{Q:Value->Shared->Prop}(hh:A.handled=none)(hI:s.heap.IsTupleIter it t i)(hT:s.heap.IsTuple t xs)(hx:xs[i]? = none)
  (k:∀ h' e,Heap.ExtBut it s.heap h'->(∃ o,h'.get? e=some o/\o.cls=.type "StopIteration")->E (.ref e) { s with heap:=h' }):wpAny (model prog w) A (Builtin.SmallTypes.nextOf (.ref it)) Q E s:=by
 obtain⟨ot,et,_,m,dt⟩:=hT;obtain⟨oi,ei,ci,di⟩:=id hI;unfold Builtin.SmallTypes.nextOf;refine z4 (wpAny_callSpecial?_slot (name:=Str.ofString "__next__") hI.typeIs Bw (Bm Bw hI.typeIs F.entry_tuple_iterator_next ?_ (F.args_tuple_iterator_next_1 _)))
 show wpAny _ _ (field (.ref it) 0 >>= _) _ _ s
 refine z4 (AN ei di (x:=.ref t) rfl ?_)
 show wpAny _ _ (if (Value.ref t == Value.none)=true then _ else _) _ _ s
 rw[Ag (by exact Ae)]
 show wpAny _ _ (field (.ref it) 1 >>= _) _ _ s
 refine z4 (AN ei di (x:=.int i 0) rfl ?_)
 show wpAny _ _ (seqItems? (.ref t) >>= _) _ _ s
 refine z4 (A1 et dt ?_);simp only[By,hx];refine z4 (wpAny_rule (z4 (wpAny_setField ei di (by simp) ?_)))
 show wpAny _ _ (newExc (.type "StopIteration") [] >>= _) _ _ _
 refine z4 ?_;simp only[newExc,newTuple];refine z4 (A0 ?_ (by size_fits));refine z4 (m:=firstArgMember _ _) (wpAny_of_eq (a:=Value.none) (by first | rfl | (simp only[firstArgMember];rfl)) ?_);refine A0 ?_ (by size_fits);simp only[raiseNew];refine z4 (wpAny_handled ?_)
 first | rw[show A.in1.handled=none from hh] | rw[hh]
 exact z4 (Ac (wpAny_throw (k _ _ (((Heap.SameBut.update ..).extBut.push _).push _) ⟨_,Heap.get?_push_size _ rfl,rfl⟩)))
end
theorem xk {prog:Program}{w:World}{A:Around}(hh:A.handled=none)(it t:Addr)(hne:t≠it)(xs:Array Value) :
  Draws prog w A it [it,t] xs.size (fun i v=>xs[i]? = some v) (fun i h=>h.IsTupleIter it t i/\h.IsTuple t xs) where
 live:=fun _ _ st=>by obtain⟨⟨o,e,_⟩,_⟩:=st;exact⟨o,e⟩
 frame:=fun _ _ _ st k=>⟨st.1.at fun o e=>k it (by simp) o e,st.2.at fun o e=>k t (by simp) o e⟩
 item:=fun i s Q E hi st k=>df st.1 st.2 (x:=xs[i]) (by simp[hi]) fun h' st' sb=>k _ h' s.toks (by simp[hi]) ⟨st',st.2.extBut sb.extBut hne⟩ sb
 done:=fun s Q E st k=>jN hh st.1 st.2 (by simp) k
theorem oC (t:Addr)(xs:Array Value):Meets (Builtin.«enumerate.__new__» ⟨[.type "enumerate",.ref t],[]⟩) (fun _ R s=>s.heap.IsTuple t xs /\
   R (.ok (.ret (.ref (s.heap.push { cls:=.type "tuple_iterator",data:=.fields #[.ref t,.int 0 0] }).objs.size)))
    { s with heap:=(s.heap.push { cls:=.type "tuple_iterator",data:=.fields #[.ref t,.int 0 0] }).push { cls:=.type "enumerate",data:=.fields #[.none,.bool false,.ref s.heap.objs.size,rawInt 0,.none,.none] } }) :=
 .of_wp fun prog w A R s h=>by
  obtain⟨hp,g,d,tk,os⟩:=s;obtain⟨hT,h⟩:=h;have su:=sub_enumerate;have hT2:Heap.IsTuple (Shared.heap ⟨hp,g,d,tk,os⟩) t xs:=hT;obtain⟨ot,et,ct,m,dt⟩:=id hT
  wp_walk using AutoSeq1.wpAny_loadPart' et
  refine wpAny_stack_any fun st=>Ac ?_;split
  ·rename_i c _ _ _ _ _
   cases (c == Value.type "enumerate")<;>(wp_walk using AutoSeq1.wpAny_loadPart' et,BL hT2;exact⟨_,rfl,h⟩)
  ·wp_walk using AutoSeq1.wpAny_loadPart' et,BL hT2
   exact⟨_,rfl,h⟩
section
variable {prog:Program}{w:World}{A:Around}{E:Value->Shared->Prop}{s:Shared}
theorem pR {t:Addr}{xs:Array Value}{Q:Value->Shared->Prop}(hT:s.heap.IsTuple t xs)
  (k:∀ h',IsEnum h' (s.heap.objs.size+1) s.heap.objs.size 0 .none->h'.IsTupleIter s.heap.objs.size t 0->(∀ b o,s.heap.get? b=some o->h'.get? b=some o)->Q (.ref (s.heap.objs.size+1)) { s with heap:=h' }) :
  wpAny (model prog w) A (call (.type "enumerate") [.ref t]) Q E s:=by
 refine callType_new F.called_enumerate (by decide) (F.typeCall_enumerate_1 _) (F.newCall_enumerate_1 _) (fun obj=>F.args_object_init_2 obj _) F.entry_enumerate_new (oC t xs) ⟨hT,?_⟩;obtain⟨oi,eoi⟩:∃ oi:Obj,oi={ cls:=.type "tuple_iterator",data:=.fields #[.ref t,.int 0 0] }:=⟨_,rfl⟩
 show _/\_
 rw[<-eoi];have sz:(s.heap.push oi).objs.size=s.heap.objs.size+1:=AR ..;have he:=Heap.get?_push_size (s.heap.push oi) (o:={ cls:=.type "enumerate",data:=.fields #[.none,.bool false,.ref s.heap.objs.size,rawInt 0,.none,.none] }) rfl;rw[sz]at he ⊢;refine⟨⟨_,he,rfl⟩,k _ he ⟨oi,Heap.get?_push_of_some _ (Heap.get?_push_size _ (by rw[eoi];rfl)),by rw[eoi],by rw[eoi];rfl⟩ fun b o e=>Heap.get?_push_of_some _ (Heap.get?_push_of_some _ e)⟩
end
def sM (K:PySem.W.Frag)(t:Addr):It :=
 ⟨fun i H=>∃ xs x,aG K H t xs/\xs[i]? = some x,fun i H y H'=>∃ T x,H T=none/\y=.ref T/\H'=aD H T (.tup [.int i,x])/\∀ xs,aG K H t xs->xs[i]? = some x,fun i H=>∃ xs,aG K H t xs/\xs.length<=i⟩
theorem qz {P:Program}{w:World}{K:PySem.W.Frag}{elts:List Expr} {kk}{pos:Pos}(e it t:Addr)(hne:e≠it):oo P w K (.Tuple elts kk pos) (sM K t) [e,it] e (fun i h=>(∃ old,IsEnum h e it (i:Nat) old)/\h.IsTupleIter it t i) where
 mem:=by simp
 obj:=fun i h st b hb=>by
  obtain⟨⟨old,he⟩,⟨o,eo,c,d⟩⟩:=st
  have hb:b=e\/b=it:=by simpa using hb
  rcases hb with rfl | rfl
  ·exact⟨_,he,fun v z=>by cases z⟩
  ·exact⟨o,eo,fun v z=>by rw[d]at z;cases z⟩
 keep:=fun i h h' st k=>⟨st.1.elim fun old he=>⟨old,k e (by simp) _ he⟩,st.2.at fun o x=>k it (by simp) o x⟩
 item:=by
  intro X hP hw hK hc i pins s σ H E I hf st hg;subst hP hw hK;obtain⟨xs,x,hq,hx⟩:=hg;obtain⟨its,rv,p,hz⟩:=I.tuple hq;have p:s.heap.IsTuple t its.toArray:=p;obtain⟨u,hu,ru⟩:=rv.get hx;obtain⟨⟨old,he⟩,hit⟩:=st;have fe:=hf e (by simp);have fi:=hf it (by simp);have lte:e<s.heap.objs.size:=Aa he
  have lti:it<s.heap.objs.size:=by obtain⟨_,q,_⟩:=id hit;exact Aa q
  have net:e≠t:=fun z=>by
   obtain⟨o,eo,c,_⟩:=id p;rw[<-z,he]at eo;cases eo;simp at c
  have nit:t≠it:=fun z=>by
   obtain⟨o,eo,c,_⟩:=id p;obtain⟨o2,eo2,c2,_⟩:=id hit;rw[z,eo2]at eo;cases eo;rw[c2]at c;simp at c
  have hil:i<its.toArray.size:=by have:=(List.getElem?_eq_some_iff.mp hu).1;simpa using this
  refine wpAny_pyNext_enum_itemD (xk (A:=X.A.in1) (I.ok.hd hc) it t nit its.toArray) he ⟨hit,p⟩ hil hne (by simp[hne,net]) fun y h' tk hy ho hit' hT hsz hk=>⟨.ref s.heap.objs.size,rfl,?_⟩
  have ey:y=u:=by
   have hy:its.toArray[i]? = some y:=hy
   have hy:its[i]? = some y:=by simpa using hy
   rw[hu]at hy;exact (At hy).symm
  subst ey;refine wpAny_letOwnedTupleGo_enum (s:={ s with heap:=h',toks:=tk+1 }) ho fun h2 he2 sb2=>?_;have hfr:H s.heap.objs.size=none:=I.hok.fresh (Ad _)
  have IL:az X pins σ (aD H s.heap.objs.size (.tup [.int i,x])) { s with heap:=s.heap.push { cls:=.type "tuple",data:=.seq #[.int i tk,y] },toks:=s.toks } :=
   I.laid (fun b o q=>Heap.get?_push_of_some _ q) (Ad _) ⟨by show 2<=sizeLine;decide,[.int i tk,y],.cons ⟨_,rfl⟩ (.cons ru .nil),⟨_,Heap.get?_push_size _ rfl,rfl,_,rfl⟩⟩
  have fp':∀ b,b<s.heap.objs.size->eE X pins H b->eE X pins (aD H s.heap.objs.size (.tup [.int i,x])) b:=fun b hb ⟨f0,f1,f2,f3,f4,f5⟩=>⟨by rw[ap (Al hb)];exact f0,f1,f2,f3,f4,f5⟩
  have I2:az X pins σ (aD H s.heap.objs.size (.tup [.int i,x])) { s with heap:=h2,toks:=tk+1 }:=IL.turned2 (t':=tk+1) (h':=h2) (fun b o n1 n2 q=>by
   refine (sb2.2 b n1).trans ?_
   show h'.get? b=some o
   by_cases hb:b=s.heap.objs.size
   ·subst hb
    have q:(s.heap.push { cls:=.type "tuple",data:=.seq #[.int i tk,y] }).get? s.heap.objs.size=some o:=q;rw[Heap.get?_push_size _ rfl]at q;cases q;exact hT
   ·have q:(s.heap.push { cls:=.type "tuple",data:=.seq #[.int i tk,y] }).get? b=some o:=q
    refine hk b o n1 n2 ?_;rw[Heap.get?_push_ne _ _ _ hb]at q
    exact q) (fp' e lte fe) (fp' it lti fi)
  refine⟨.ref s.heap.objs.size,_,I2,rfl,⟨s.heap.objs.size,x,hfr,rfl,rfl,fun ys hy=>by rw[I.tuple_inj hy hq];exact hx⟩,⟨⟨_,by simpa using he2⟩,hit'.1.at fun o q=>(sb2.2 it (AK hne)).trans q⟩,fun b hb=>?_⟩
  have hb':b=e\/b=it:=by simpa using hb
  rcases hb' with rfl | rfl
  ·exact (fp' _ lte fe).1
  ·exact (fp' _ lti fi).1
 done:=by
  intro X hP hw hK hc i pins s σ H E I hf st hg;subst hP hw hK;obtain⟨xs,hq,hx⟩:=hg;obtain⟨its,rv,p,hz⟩:=I.tuple hq;have p:s.heap.IsTuple t its.toArray:=p;obtain⟨⟨old,he⟩,hit⟩:=st;obtain⟨f0,f1,f2,f3,f4,f5⟩:=hf it (by simp)
  have nit:t≠it:=fun z=>by
   obtain⟨o,eo,c,_⟩:=id p;obtain⟨o2,eo2,c2,_⟩:=id hit;rw[z,eo2]at eo;cases eo;rw[c2]at c;simp at c
  have hl:=rv.length;unfold pyNext;refine z4 (wpAny_attempt (wpAny_callSpecial?_slot (name:=Str.ofString "__next__") (T:="enumerate") ⟨_,he,rfl⟩ F.slot_enumerate_next (Bm F.slot_enumerate_next (T:="enumerate") ⟨_,he,rfl⟩ F.entry_enumerate_next ?_ (F.args_enumerate_next_1 _))))
  show wpAny _ _ (field (.ref e) 2 >>= _) _ _ _
  refine z4 (AN he rfl (x:=.ref it) rfl ?_);refine z4 (jN (A:=X.A.in1) (I.ok.hd hc) hit p (by simp;omega) fun h' x eb hx=>?_);obtain⟨o,ho,co⟩:=hx;refine z4 (wpAny_isInstance (T:="StopIteration") (b:=true) ⟨o,ho,co⟩ isSubtype_stop ?_);exact Ac ⟨rfl,I.turned (t':=s.toks) (fun b o hb q=>eb b o hb q) f0 f1 f3 f4 f5⟩
 self:=fun _ _ _ _ _ st h=>st.1.elim fun old he=>wpAny_pyIter_enum he h
def wj (K:PySem.W.Frag)(t:TA):TI:=fun σ H R=>t σ H fun vs H1=>∃ l,vs=[.ref l]/\(∃ xs,aG K H1 l xs)/\R (sM K l) H1
theorem lU {X:Cx}{elts:List Expr} {kk}{tpos:Pos}{a:Expr}{ta:TA}{p pos:Pos}(hg:Gl X "enumerate")(hm:X.mg "enumerate" = none)(ha:PA X [a] ta)
  (he:starEach [a] X.env=(false,eval a X.env)::starEach [] X.env:=by rfl) (hpl:(backTo pos (starEach [] X.env)).any (·.1)=false:=by rfl):PI X (.Tuple elts kk tpos) (.Call (.Name "enumerate" p) [a] [] pos) (wj X.K ta):=by
 intro pins s σ H R I h;refine AV (dD I hg hm boot_enumerate ?_ (by decide) (by decide));refine AM (bf (ha pos pins s σ H _ I h) fun us s1 ⟨vs,H1,I1,r1,l,e1,⟨xs,hq⟩,q⟩=>?_) he hpl;subst e1;obtain⟨u,rfl,rx⟩:=fY r1;cases rx;obtain⟨its,rv,pl,hz⟩:=I1.tuple hq;refine pR (show s1.heap.IsTuple l its.toArray from pl) fun h' hE hI hk=>?_;have I2:az X pins σ H1 { s1 with heap:=h',toks:=s1.toks }:=I1.kept hk;refine wpAny_pyIter_enum (s:={ s1 with heap:=h' }) hE ?_;refine⟨s1.heap.objs.size+1,[s1.heap.objs.size+1,s1.heap.objs.size],_,_,H1,rfl,I2,qz _ _ l (Nat.succ_ne_self _),⟨⟨_,hE⟩,hI⟩,fun b hb=>?_,q⟩
 have hb:b=s1.heap.objs.size+1\/b=s1.heap.objs.size:=by simpa using hb
 rcases hb with rfl | rfl
 ·exact I1.fpOk (Nat.le_succ _) (I1.hok.fresh (Nat.le_succ _))
 ·exact I1.fpOk (Ad _) (I1.hok.fresh (Ad _))
theorem jH {K:PySem.W.Frag}{a:Addr}{xs:List V}{g:TG}{tb:TS}{D:hJ}{σ:St}{H:Hp}(Pv:Nat->St->Hp->Prop)(h0:Pv 0 σ H)(hl:∀ i σ H,i<=xs.length->Pv i σ H->aG K H a xs)
  (hs:∀ i x σ H T,xs[i]? = some x->Pv i σ H->H T=none->g (.ref T) σ (aD H T (.tup [.int i,x])) fun σ2 H2=>tb { D with nx:=Pv (i+1),ct:=Pv (i+1),bk:=D.nx } σ2 H2) (hd:∀ σ H,Pv xs.length σ H->D.nx σ H) :
  ∃ W:Nat->Nat->St->Hp->Prop,(∃ m,W 0 m σ H)/\∀ i m σ H,W i m σ H ->
   ((sM K a).stop i H/\D.nx σ H)\/((sM K a).go i H/\∃ N:St->Hp->Prop,(∀ σ' H',N σ' H'->∃ m',m'<m/\W (i+1) m' σ' H')/\∀ x H',(sM K a).yld i H x H'->g x σ H' fun σ2 H2=>tb { D with nx:=N,ct:=N,bk:=D.nx } σ2 H2):=by
 refine⟨fun i m σ H=>m=xs.length-i/\i<=xs.length/\Pv i σ H,⟨xs.length,by simp,Au _,h0⟩,?_⟩;rintro i m σ H ⟨rfl,hi,p⟩;have q:=hl i σ H hi p
 by_cases hlt:i<xs.length
 ·refine .inr ⟨⟨xs,xs[i],q,by simp[hlt]⟩,Pv (i+1),fun σ' H' p'=>⟨xs.length-(i+1),by omega,rfl,hlt,p'⟩,fun y H' z=>?_⟩
  obtain⟨T,x,hT,e1,e2,hx⟩:=z;subst e1 e2;exact hs i x σ _ T (hx xs q) p hT
 ·have e:i=xs.length:=by omega
  subst e;exact .inl ⟨⟨xs,q,Ad _⟩,hd σ H p⟩
open PySem PySem.Spec PyProof.Rows PySem.Calls
section
variable {prog:Program}{w:World}{A:Around}{E:Value->Shared->Prop}{s:Shared}
theorem pI {z TI TO i1 i2 l1 l2:Addr}{k1 k2:Nat}{xs ys:Array Value}{x y a b:Value}{Q:Value->Shared->Prop}(D:ZipApart z TI TO i1 i2 l1 l2)
  (hz:IsZip s.heap z TI TO .none) (hTI:IsPair s.heap TI (.ref i1) (.ref i2)) (hTO:IsPair s.heap TO a b)
  (h1:s.heap.IsTupleIter i1 l1 k1) (h2:s.heap.IsTupleIter i2 l2 k2) (hl1:s.heap.IsTuple l1 xs) (hl2:s.heap.IsTuple l2 ys) (hx:xs[k1]? = some x) (hy:ys[k2]? = some y)
  (k:∀ h',IsZip h' z TI TO (rawInt s.heap.objs.size)->IsPair h' TO x y->h'.IsTupleIter i1 l1 (k1+1)->h'.IsTupleIter i2 l2 (k2+1)->IsPair h' s.heap.objs.size x y->h'.objs.size=s.heap.objs.size+1 ->
   (∀ c o,c≠z->c≠TO->c≠i1->c≠i2->s.heap.get? c=some o->h'.get? c=some o)->Q (.ref s.heap.objs.size) { s with heap:=h' }) :
  wpAny (model prog w) A (Builtin.«zip.__next__» ⟨[.ref z],[]⟩) (fun fin s'=>∃ v,fin=.done (.ret v)/\Q v s') E s:=by
 show wpAny _ _ (field (.ref z) 2 >>= _) _ _ _
 refine z4 (AN hz rfl (x:=.bool false) rfl ?_)
 show wpAny _ _ (field (.ref z) 3 >>= _) _ _ _
 refine z4 (AN hz rfl (x:=.ref TI) rfl (z4 (A1 hTI rfl ?_)))
 show wpAny _ _ (Builtin.SmallTypes.ownedTupleIsFree (.ref z) >>= _) _ _ _
 refine z4 ?_;unfold Builtin.SmallTypes.ownedTupleIsFree;refine z4 (AN hz rfl (x:=.none) rfl (Ac ?_));simp only[if_true];refine z4 (wpAny_rule (z4 (AN hz rfl (x:=.ref TO) rfl (z4 (wpAny_setField_rec hz (by simp) fun g1 z1 b1=>?_)))))
 replace z1:IsZip g1 z TI TO .ellipsis:=z1
 refine z4 ?_;simp only[List.zipIdx_cons,List.zipIdx_nil,List.forIn_cons,List.forIn_nil];refine z4 (z4 (wpAny_onRaise ?_))
 show wpAny _ _ (Builtin.SmallTypes.nextOf (.ref i1) >>= _) _ _ _
 refine z4 (df (h1.extBut b1.extBut D.i1z) (hl1.extBut b1.extBut D.l1z) hx fun g2 t2 b2=>Ac ?_);have o2:IsPair g2 TO a b:=b2.extBut _ _ D.TOi1 (b1.extBut _ _ D.TOz hTO);refine z4 (A1 o2 rfl (z4 (wpAny_updateSeq_pair o2 fun g3 o3 b3=>?_)))
 replace o3:IsPair g3 TO x b:=o3
 refine z4 (BQ (Ac (z4 (z4 (wpAny_onRaise ?_)))))
 show wpAny _ _ (Builtin.SmallTypes.nextOf (.ref i2) >>= _) _ _ _
 refine z4 (df (((h2.extBut b1.extBut D.i2z).extBut b2.extBut D.i12.symm).extBut b3.extBut D.TOi2.symm) (((hl2.extBut b1.extBut D.l2z).extBut b2.extBut D.l2i1).extBut b3.extBut D.l2TO) hy fun g4 t4 b4=>Ac ?_);have o4:IsPair g4 TO x b:=b4.extBut _ _ D.TOi2 o3;refine z4 (A1 o4 rfl (z4 (wpAny_updateSeq_pair o4 fun g5 o5 b5=>?_)))
 replace o5:IsPair g5 TO x y:=o5
 refine z4 (BQ (Ac (Ac (z4 (A1 o5 rfl (z4 (wpAny_newTuple ?_)))))))
 have sz:g5.objs.size=s.heap.objs.size:=by rw[b5.1,b4.1,b3.1,b2.1,b1.1]
 have z5:IsZip g5 z TI TO .ellipsis:=b5.extBut _ _ D.TOz.symm (b4.extBut _ _ D.i2z.symm (b3.extBut _ _ D.TOz.symm (b2.extBut _ _ D.i1z.symm z1)));have p1:g5.IsTupleIter i1 l1 (k1+1):=((t2.extBut b3.extBut D.TOi1.symm).extBut b4.extBut D.i12).extBut b5.extBut D.TOi1.symm;have p2:g5.IsTupleIter i2 l2 (k2+1):=t4.extBut b5.extBut D.TOi2.symm;have lz:z<g5.objs.size:=Aa z5
 show wpAny _ _ (Builtin.SmallTypes.ownedTupleHandOut (.ref z) (.ref g5.objs.size) >>= _) _ _ _
 refine z4 ?_;unfold Builtin.SmallTypes.ownedTupleHandOut;have z6:IsZip (g5.push { cls:=.type "tuple",data:=.seq #[x,y] }) z TI TO .ellipsis:=Heap.get?_push_of_some _ z5;refine z4 (wpAny_setField_rec z6 (by simp) fun g7 z7 b7=>?_)
 replace z7:IsZip g7 z TI TO (rawInt g5.objs.size):=z7
 refine wpAny_setField_rec z7 (by simp) fun g8 z8 b8=>?_
 replace z8:IsZip g8 z TI TO (rawInt g5.objs.size):=z8
 have up:∀ c o,c≠z->g5.get? c=some o->g8.get? c=some o:=fun c o c1 e=>b8.extBut _ _ c1 (b7.extBut _ _ c1 (Heap.get?_push_of_some _ e));have t8:IsPair g8 g5.objs.size x y:=b8.extBut _ _ (AG lz) (b7.extBut _ _ (AG lz) (Heap.get?_push_size _ rfl))
 have e8:g8.objs.size=g5.objs.size+1:=by rw[b8.1,b7.1,AR]
 rw[sz]at z8 t8 e8;refine Ac ⟨_,rfl,?_⟩
 show Q (.ref g5.objs.size) _
 rw[sz];exact k g8 z8 (up _ _ D.TOz o5) (p1.at fun o e=>up _ o D.i1z e) (p2.at fun o e=>up _ o D.i2z e) t8 e8 fun c o c1 c2 c3 c4 e=>up c o c1 (b5.extBut _ _ c2 (b4.extBut _ _ c4 (b3.extBut _ _ c2 (b2.extBut _ _ c3 (b1.extBut _ _ c1 e)))))
theorem qD {z TI TO i1 i2 l1 l2:Addr}{k1 k2:Nat}{xs ys:Array Value}{x y a b:Value}{Q:Option Value->Shared->Prop}(D:ZipApart z TI TO i1 i2 l1 l2)
  (hz:IsZip s.heap z TI TO .none) (hTI:IsPair s.heap TI (.ref i1) (.ref i2)) (hTO:IsPair s.heap TO a b)
  (h1:s.heap.IsTupleIter i1 l1 k1) (h2:s.heap.IsTupleIter i2 l2 k2) (hl1:s.heap.IsTuple l1 xs) (hl2:s.heap.IsTuple l2 ys) (hx:xs[k1]? = some x) (hy:ys[k2]? = some y)
  (k:∀ h',IsZip h' z TI TO (rawInt s.heap.objs.size)->IsPair h' TO x y->h'.IsTupleIter i1 l1 (k1+1)->h'.IsTupleIter i2 l2 (k2+1)->IsPair h' s.heap.objs.size x y->h'.objs.size=s.heap.objs.size+1 ->
   (∀ c o,c≠z->c≠TO->c≠i1->c≠i2->s.heap.get? c=some o->h'.get? c=some o)->Q (some (.ref s.heap.objs.size)) { s with heap:=h' }) :
  wpAny (model prog w) A (pyNext (.ref z)) Q E s:=by
 have ty:s.TypeIs (.ref z) "zip":=⟨_,hz,rfl⟩;unfold pyNext;exact z4 (wpAny_attempt (wpAny_callSpecial?_slot (name:=Str.ofString "__next__") ty BO (Bm BO ty F.entry_zip_next (pI D hz hTI hTO h1 h2 hl1 hl2 hx hy fun h' a1 a2 a3 a4 a5 a6 a7=>Ac (k h' a1 a2 a3 a4 a5 a6 a7)) (F.args_zip_next_1 _))))
abbrev sI (h:Heap)(a:Addr):Heap:=h.push { cls:=.type "tuple_iterator",data:=.fields #[.ref a,.int 0 0] }
abbrev yp (h:Heap)(a b:Addr):Heap:=(sI (sI h a) b).push { cls:=.type "tuple",data:=.seq #[.ref h.objs.size,.ref (sI h a).objs.size] }
abbrev yq (h:Heap)(a b:Addr):Heap:=(yp h a b).push { cls:=.type "tuple",data:=.seq #[.none,.none] }
abbrev wS (h:Heap)(a b:Addr):Heap:=(yq h a b).push { cls:=.type "zip",data:=.fields #[.none,.bool false,.bool false,.ref (sI (sI h a) b).objs.size,.ref (yp h a b).objs.size] }
theorem qd (a b:Addr)(xs ys:Array Value):Meets (Builtin.«zip.__new__» ⟨[.type "zip",.ref a,.ref b],[]⟩) (fun _ R s=>s.heap.IsTuple a xs/\s.heap.IsTuple b ys/\R (.ok (.ret (.ref (yq s.heap a b).objs.size))) { s with heap:=wS s.heap a b }) :=
 .of_wp fun prog w A R s h=>by
  obtain⟨hp,g,d,tk,os⟩:=s;obtain⟨ha,hb,h⟩:=h;have su:=sub_zip;have ta:Heap.IsTuple (Shared.heap ⟨hp,g,d,tk,os⟩) a xs:=ha;have tb:Heap.IsTuple (Shared.heap ⟨sI hp a,g,d,tk,os⟩) b ys:=Heap.IsTuple.at hb fun o e=>Heap.get?_push_of_some _ e
  wp_walk using BL ta,BL tb
  exact⟨_,rfl,h⟩
theorem rN {a b:Addr}{xs ys:Array Value}{Q:Value->Shared->Prop}(ha:s.heap.IsTuple a xs)(hb:s.heap.IsTuple b ys)
  (k:∀ h',IsZip h' (s.heap.objs.size+4) (s.heap.objs.size+2) (s.heap.objs.size+3) .none->IsPair h' (s.heap.objs.size+2) (.ref s.heap.objs.size) (.ref (s.heap.objs.size+1)) ->
   IsPair h' (s.heap.objs.size+3) .none .none->h'.IsTupleIter s.heap.objs.size a 0->h'.IsTupleIter (s.heap.objs.size+1) b 0->h'.objs.size=s.heap.objs.size+5 ->
   (∀ c o,s.heap.get? c=some o->h'.get? c=some o)->Q (.ref (s.heap.objs.size+4)) { s with heap:=h' }) :
  wpAny (model prog w) A (call (.type "zip") [.ref a,.ref b]) Q E s:=by
 refine callType_new F.called_zip (by decide) (F.typeCall_zip_2 _ _) (F.newCall_zip_2 _ _) (fun obj=>F.args_object_init_3 obj _ _) F.entry_zip_new (qd a b xs ys) ⟨ha,hb,?_⟩;have e1:(sI s.heap a).objs.size=s.heap.objs.size+1:=AR ..
 have e2:(sI (sI s.heap a) b).objs.size=s.heap.objs.size+2:=by rw[AR,e1]
 have e3:(yp s.heap a b).objs.size=s.heap.objs.size+3:=by rw[AR,e2]
 have e4:(yq s.heap a b).objs.size=s.heap.objs.size+4:=by rw[AR,e3]
 have e5:(wS s.heap a b).objs.size=s.heap.objs.size+5:=by rw[AR,e4]
 have g5:(wS s.heap a b).get? (yq s.heap a b).objs.size=some _:=Heap.get?_push_size _ rfl;have g4:(wS s.heap a b).get? (yp s.heap a b).objs.size=some _:=Heap.get?_push_of_some _ (Heap.get?_push_size _ rfl);have g3:(wS s.heap a b).get? (sI (sI s.heap a) b).objs.size=some _:=Heap.get?_push_of_some _ (Heap.get?_push_of_some _ (Heap.get?_push_size _ rfl));have g2:(wS s.heap a b).get? (sI s.heap a).objs.size=some _:=Heap.get?_push_of_some _ (Heap.get?_push_of_some _ (Heap.get?_push_of_some _ (Heap.get?_push_size _ rfl)));have g1:(wS s.heap a b).get? s.heap.objs.size=some _:=Heap.get?_push_of_some _ (Heap.get?_push_of_some _ (Heap.get?_push_of_some _ (Heap.get?_push_of_some _ (Heap.get?_push_size _ rfl))))
 show _/\_
 rw[e2,e3,e4]at g5;rw[e1,e2]at g3;rw[e3]at g4;rw[e1]at g2;rw[e4];exact⟨⟨_,g5,rfl⟩,k _ g5 g3 g4 ⟨_,g1,rfl,rfl⟩ ⟨_,g2,rfl,rfl⟩ e5 fun c o e=>Heap.get?_push_of_some _ (Heap.get?_push_of_some _ (Heap.get?_push_of_some _ (Heap.get?_push_of_some _ (Heap.get?_push_of_some _ e))))⟩
theorem qC {z TI TO i1 i2 l1 l2 T:Addr}{k1 k2:Nat}{b:Bool}{oT:Obj}{xs ys:Array Value}{x y:Value}{Q:Value->Shared->Prop}(D:ZipApart z TI TO i1 i2 l1 l2)
  (hz:uF s.heap z TI TO (rawInt T) b) (hT:s.heap.get? T=some oT) (hTI:IsPair s.heap TI (.ref i1) (.ref i2))
  (h1:s.heap.IsTupleIter i1 l1 k1) (h2:s.heap.IsTupleIter i2 l2 k2) (hl1:s.heap.IsTuple l1 xs) (hl2:s.heap.IsTuple l2 ys) (hx:xs[k1]? = some x) (hy:ys[k2]? = some y)
  (hQ:∀ h',uF h' z TI TO (rawInt T) true->h'.IsTupleIter i1 l1 (k1+1)->h'.IsTupleIter i2 l2 (k2+1)->IsPair h' s.heap.objs.size x y->h'.objs.size=s.heap.objs.size+1 ->
   (∀ c o,c≠z->c≠i1->c≠i2->s.heap.get? c=some o->h'.get? c=some o)->Q (.ref s.heap.objs.size) { s with heap:=h' }) :
  wpAny (model prog w) A (Builtin.«zip.__next__» ⟨[.ref z],[]⟩) (fun fin s'=>∃ v,fin=.done (.ret v)/\Q v s') E s:=by
 show wpAny _ _ (field (.ref z) 2 >>= _) _ _ _
 refine z4 (AN hz rfl (x:=.bool false) rfl ?_)
 show wpAny _ _ (field (.ref z) 3 >>= _) _ _ _
 refine z4 (AN hz rfl (x:=.ref TI) rfl ?_);refine z4 (A1 hTI rfl ?_)
 show wpAny _ _ (Builtin.SmallTypes.ownedTupleIsFree (.ref z) >>= _) _ _ _
 refine z4 (oR hz hT fun h₁ hz₁ hs₁=>?_);simp only[Bs,if_false];refine z4 ?_;simp only[List.forIn_toArray,List.forIn_cons,List.forIn_nil];refine z4 (z4 (Bh ?_))
 show wpAny _ _ (Builtin.SmallTypes.nextOf (.ref i1) >>= _) _ _ _
 refine z4 (df (h1.extBut hs₁.extBut D.i1z) (hl1.extBut hs₁.extBut D.l1z) hx fun h₂ h1₂ hs₂=>Ac (Ac ?_));refine z4 (z4 (Bh ?_))
 show wpAny _ _ (Builtin.SmallTypes.nextOf (.ref i2) >>= _) _ _ _
 refine z4 (df ((h2.extBut hs₁.extBut D.i2z).extBut hs₂.extBut D.i12.symm) ((hl2.extBut hs₁.extBut D.l2z).extBut hs₂.extBut D.l2i1) hy fun h₄ h2₄ hs₄=>Ac (Ac (Ac ?_)));refine z4 (wpAny_newTuple ?_ (by show 2<=sizeLine;decide))
 have hsz:h₄.objs.size=s.heap.objs.size:=by rw[hs₄.1,hs₂.1,hs₁.1]
 refine Ac ⟨_,rfl,?_⟩
 show Q (.ref h₄.objs.size) _
 rw[hsz];have up:∀ {c:Addr}{o:Obj},h₄.get? c=some o->(h₄.push { cls:=.type "tuple",data:=.seq #[x,y] }).get? c=some o:=fun e=>Heap.get?_push_of_some _ e;refine hQ _ (up (hs₄.extBut _ _ D.i2z.symm (hs₂.extBut _ _ D.i1z.symm hz₁))) ((h1₂.extBut hs₄.extBut D.i12).at fun o e=>up e) (h2₄.at fun o e=>up e) ?_ (by rw[AR,hsz]) fun c o c1 c2 c3 e=>up (hs₄.extBut _ _ c3 (hs₂.extBut _ _ c2 (hs₁.extBut _ _ c1 e)));rw[<-hsz];exact Heap.get?_push_size _ rfl
theorem sE {z TI TO i1 i2 l1 l2 T:Addr}{k1 k2:Nat}{b:Bool}{oT:Obj}{xs ys:Array Value}{x:Value}{Q:Fin->Shared->Prop}(hh:A.handled=none)(D:ZipApart z TI TO i1 i2 l1 l2)
  (hz:uF s.heap z TI TO (rawInt T) b) (hT:s.heap.get? T=some oT) (hTI:IsPair s.heap TI (.ref i1) (.ref i2))
  (h1:s.heap.IsTupleIter i1 l1 k1) (h2:s.heap.IsTupleIter i2 l2 k2) (hl1:s.heap.IsTuple l1 xs) (hl2:s.heap.IsTuple l2 ys) (hx:xs[k1]? = some x) (hy:ys[k2]? = none)
  (hE:∀ h' e,(∀ c o,c≠z->c≠i1->c≠i2->s.heap.get? c=some o->h'.get? c=some o)->(∃ o,h'.get? e=some o/\o.cls=.type "StopIteration")->E (.ref e) { s with heap:=h' }) :
  wpAny (model prog w) A (Builtin.«zip.__next__» ⟨[.ref z],[]⟩) Q E s:=by
 show wpAny _ _ (field (.ref z) 2 >>= _) _ _ _
 refine z4 (AN hz rfl (x:=.bool false) rfl ?_)
 show wpAny _ _ (field (.ref z) 3 >>= _) _ _ _
 refine z4 (AN hz rfl (x:=.ref TI) rfl ?_);refine z4 (A1 hTI rfl ?_)
 show wpAny _ _ (Builtin.SmallTypes.ownedTupleIsFree (.ref z) >>= _) _ _ _
 refine z4 (oR hz hT fun h₁ hz₁ hs₁=>?_);simp only[Bs,if_false];refine z4 ?_;simp only[List.forIn_toArray,List.forIn_cons,List.forIn_nil];refine z4 (z4 (Bh ?_))
 show wpAny _ _ (Builtin.SmallTypes.nextOf (.ref i1) >>= _) _ _ _
 refine z4 (df (h1.extBut hs₁.extBut D.i1z) (hl1.extBut hs₁.extBut D.l1z) hx fun h₂ h1₂ hs₂=>Ac (Ac ?_));refine z4 (z4 (Bh ?_))
 show wpAny _ _ (Builtin.SmallTypes.nextOf (.ref i2) >>= _) _ _ _
 refine z4 (jN hh ((h2.extBut hs₁.extBut D.i2z).extBut hs₂.extBut D.i12.symm) ((hl2.extBut hs₁.extBut D.l2z).extBut hs₂.extBut D.l2i1) hy fun h₄ e hs₄ he=>?_);exact hE h₄ e (fun c o c1 c2 c3 x=>hs₄ _ _ c3 (hs₂.extBut _ _ c2 (hs₁.extBut _ _ c1 x))) he
theorem oN {z TI TO i1 i2 l1 l2 T:Addr}{k1 k2:Nat}{b:Bool}{oT:Obj}{xs ys:Array Value}{x y:Value}{Q:Option Value->Shared->Prop}(D:ZipApart z TI TO i1 i2 l1 l2)
  (hz:uF s.heap z TI TO (rawInt T) b) (hT:s.heap.get? T=some oT) (hTI:IsPair s.heap TI (.ref i1) (.ref i2))
  (h1:s.heap.IsTupleIter i1 l1 k1) (h2:s.heap.IsTupleIter i2 l2 k2) (hl1:s.heap.IsTuple l1 xs) (hl2:s.heap.IsTuple l2 ys) (hx:xs[k1]? = some x) (hy:ys[k2]? = some y)
  (hQ:∀ h',uF h' z TI TO (rawInt T) true->h'.IsTupleIter i1 l1 (k1+1)->h'.IsTupleIter i2 l2 (k2+1)->IsPair h' s.heap.objs.size x y->h'.objs.size=s.heap.objs.size+1 ->
   (∀ c o,c≠z->c≠i1->c≠i2->s.heap.get? c=some o->h'.get? c=some o)->Q (some (.ref s.heap.objs.size)) { s with heap:=h' }) :
  wpAny (model prog w) A (pyNext (.ref z)) Q E s:=by
 have hTy:s.TypeIs (.ref z) "zip":=⟨_,hz,rfl⟩;unfold pyNext
 exact z4 (wpAny_attempt (wpAny_callSpecial?_slot (name:=Str.ofString "__next__") hTy BO
  (Bm BO hTy F.entry_zip_next
   (qC D hz hT hTI h1 h2 hl1 hl2 hx hy fun h' a1 a3 a4 a5 a6 a7=>Ac (hQ h' a1 a3 a4 a5 a6 a7)) (F.args_zip_next_1 _))))
theorem qi {z TI TO i1 i2 l1 l2 T:Addr}{k1 k2:Nat}{b:Bool}{oT:Obj}{xs ys:Array Value}{x:Value}{Q:Option Value->Shared->Prop}(hh:A.handled=none)(D:ZipApart z TI TO i1 i2 l1 l2)
  (hz:uF s.heap z TI TO (rawInt T) b) (hT:s.heap.get? T=some oT) (hTI:IsPair s.heap TI (.ref i1) (.ref i2))
  (h1:s.heap.IsTupleIter i1 l1 k1) (h2:s.heap.IsTupleIter i2 l2 k2) (hl1:s.heap.IsTuple l1 xs) (hl2:s.heap.IsTuple l2 ys) (hx:xs[k1]? = some x) (hy:ys[k2]? = none)
  (hQ:∀ h',(∀ c o,c≠z->c≠i1->c≠i2->s.heap.get? c=some o->h'.get? c=some o)->Q none { s with heap:=h' }):wpAny (model prog w) A (pyNext (.ref z)) Q E s:=by
 have hTy:s.TypeIs (.ref z) "zip":=⟨_,hz,rfl⟩;unfold pyNext
 refine z4 (wpAny_attempt (wpAny_callSpecial?_slot (name:=Str.ofString "__next__") hTy BO
  (Bm BO hTy F.entry_zip_next (sE hh D hz hT hTI h1 h2 hl1 hl2 hx hy fun h' e hk he=>?_) (F.args_zip_next_1 _))))
 obtain⟨o,ho,hc⟩:=he;refine z4 (wpAny_isInstance (T:="StopIteration") (b:=true) ⟨o,ho,hc⟩ isSubtype_stop ?_);exact Ac (hQ _ hk)
theorem sF {R:Result->Shared->Prop}{z TI TO i1 i2 l1 l2 S:Addr}{xs ys:Array Value}(hh:A.handled=none)(D:ZipApart z TI TO i1 i2 l1 l2)(hxy:ys.size<xs.size)(hn:ys.size<=sizeLine)(res:Value)
  (hS1:S≠z) (hS2:S≠i1) (hS3:S≠i2) (hS4:S≠l1) (hS5:S≠l2) (hS6:S≠TI) :
  ∀ (k i:Nat)(s:Shared)(acc:List Addr)(arr:Array Value)(c:Nat)(T:Addr)(b:Bool),arr=(acc.map Value.ref).toArray->ys.size-i=k->i<=ys.size->uF s.heap z TI TO (rawInt T) b->T∈acc->IsPair s.heap TI (.ref i1) (.ref i2) ->
  s.heap.IsTupleIter i1 l1 i->s.heap.IsTupleIter i2 l2 i->s.heap.IsTuple l1 xs->s.heap.IsTuple l2 ys->s.heap.get? S=some { cls:=.type "list",dict:=none,data:=.seq arr c,slots:=#[] }->acc.length=i ->
  (∀ (j:Nat)(t:Addr),acc[j]? = some t->∃ x y,xs[j]? = some x/\ys[j]? = some y/\IsPair s.heap t x y)->(∀ t∈acc,t≠z/\t≠i1/\t≠i2/\t≠S)->acc.Nodup->(∀ t∈acc,t<s.heap.objs.size) ->
  (∀ (h':Heap)(acc':List Addr)(c':Nat),(∀ b o,b≠S->b≠z->b≠i1->b≠i2->s.heap.get? b=some o->h'.get? b=some o)->h'.get? S=some { cls:=.type "list",dict:=none,data:=.seq (acc'.map Value.ref).toArray c',slots:=#[] }->acc'.length=ys.size->acc'.Nodup ->
   (∀ t∈acc',t∈acc\/s.heap.objs.size<=t)->(∀ (j:Nat)(t:Addr),acc'[j]? = some t->∃ x y,xs[j]? = some x/\ys[j]? = some y/\IsPair h' t x y)->(∀ t∈acc',t≠S)->R (.ok (.ret res)) { s with heap:=h' }) ->
  codeAny (model prog w) A (.builtin "list.extend.loop" ⟨[.ref S,.ref z,res],[]⟩) R s:=by
 intro k
 induction k with
 | zero =>
  intro i s acc arr c T b harr hk hi hz hT hTI h1 h2 hl1 hl2 hS hlen hacc hap nd hlt hR
  have hin:i=ys.size:=by omega
  obtain⟨oT,hoT⟩:∃ o,s.heap.get? T=some o:=by
   obtain⟨j,hj⟩:=List.getElem?_of_mem hT;obtain⟨_,_,_,_,p⟩:=hacc j T hj;exact⟨_,p⟩
  refine BP F.entry_extend_loop ?_;rw[Bi Bl _]
  show wpAny _ A.in1 (pyNext (.ref z) >>= _) _ _ s
  refine z4 (qi (A:=A.in1) hh D hz hoT hTI h1 h2 hl1 hl2 (Array.getElem?_eq_getElem (by omega)) (Array.getElem?_eq_none (by omega)) fun h' hk'=>?_);refine Ac (hR h' acc c (fun b o _ b1 b2 b3 e=>hk' b o b1 b2 b3 e) (by rw[<-harr];exact hk' _ _ hS1 hS2 hS3 hS) (by omega) nd (fun t ht=>.inl ht) (fun j t e=>?_) fun t ht=>(hap t ht).2.2.2);obtain⟨x,y,e1,e2,p⟩:=hacc j t e;have ha:=hap t (Ax e);exact⟨x,y,e1,e2,hk' _ _ ha.1 ha.2.1 ha.2.2.1 p⟩
 | succ k ih =>
  intro i s acc arr c T b harr hk hi hz hT hTI h1 h2 hl1 hl2 hS hlen hacc hap nd hlt hR
  obtain⟨oT,hoT⟩:∃ o,s.heap.get? T=some o:=by
   obtain⟨j,hj⟩:=List.getElem?_of_mem hT;obtain⟨_,_,_,_,p⟩:=hacc j T hj;exact⟨_,p⟩
  refine BP F.entry_extend_loop ?_;rw[Bi Bl _]
  show wpAny _ A.in1 (pyNext (.ref z) >>= _) _ _ s
  have ex:xs[i]? = some xs[i]:=Array.getElem?_eq_getElem (by omega);have ey:ys[i]? = some ys[i]:=Array.getElem?_eq_getElem (by omega);refine z4 (oN (A:=A.in1) D hz hoT hTI h1 h2 hl1 hl2 ex ey fun h' z' i1' i2' pn sz keep=>?_);have hS':=keep _ _ hS1 hS2 hS3 hS
  show wpAny _ A.in1 (updateSeq S (·.push (.ref s.heap.objs.size)) >>= _) _ _ _
  refine z4 ?_
  have hsa:arr.size=i:=by rw[harr];simp[hlen]
  obtain⟨h2',eh2⟩:∃ h2',h2'=h'.update S (Obj.mapSeq (·.push (Value.ref s.heap.objs.size))):=⟨_,rfl⟩
  have up:∀ b o,b≠S->h'.get? b=some o->h2'.get? b=some o:=fun b o hb e=>by rw[eh2];exact (Heap.get?_update_other _ _ (fun z=>hb z.symm)).trans e
  have hSn:S<s.heap.objs.size:=Aa hS;have hzlt:z<s.heap.objs.size:=Aa hz
  have hi1lt:i1<s.heap.objs.size:=by obtain⟨_,e,_⟩:=h1;exact Aa e
  have hi2lt:i2<s.heap.objs.size:=by obtain⟨_,e,_⟩:=h2;exact Aa e
  have sz2:h2'.objs.size=s.heap.objs.size+1:=by rw[eh2,Heap.size_update,sz]
  refine Be hS' rfl (Ac ⟨Bv Bl _,?_⟩) (by rw[hsa];omega) (by show (arr.push _).size<=sizeLine+1;rw[Array.size_push,hsa];omega);rw[<-eh2];have kp:∀ b o,b≠S->b≠z->b≠i1->b≠i2->s.heap.get? b=some o->h2'.get? b=some o:=fun b o b0 b1 b2 b3 e=>up b o b0 (keep b o b1 b2 b3 e)
  refine ih (i+1) { s with heap:=h2' } (acc++[s.heap.objs.size]) (arr.push (.ref s.heap.objs.size)) _ T true (by rw[harr];simp) (by omega) (by omega) (up _ _ hS1.symm z') (List.mem_append_left _ hT) (kp _ _ hS6.symm D.TIz D.TIi1 D.TIi2 hTI) (i1'.at fun o e=>up _ _ hS2.symm e) (i2'.at fun o e=>up _ _ hS3.symm e)
   (hl1.at fun o e=>kp _ _ hS4.symm D.l1z D.l1i1 D.l1i2 e) (hl2.at fun o e=>kp _ _ hS5.symm D.l2z D.l2i1 D.l2i2 e) (by show h2'.get? S=_;rw[eh2];exact Heap.get?_update_self _ hS' rfl) (by simp[hlen]) (fun j t e=>?_) (fun t ht=>?_) ?_ (fun t ht=>?_) fun h3 acc' c' k3 s3 l3 n3 m3 p3 f3=>?_
  ·rw[List.getElem?_append]at e
   split at e
   ·obtain⟨x,y,e1,e2,p⟩:=hacc j t e
    have ha:=hap t (Ax e);exact⟨x,y,e1,e2,kp _ _ ha.2.2.2 ha.1 ha.2.1 ha.2.2.1 p⟩
   ·rename_i hj
    have hj0:j=i:=by
     have:=(List.getElem?_eq_some_iff.mp e).1;simp at this;omega
    subst hj0;rw[hlen,Nat.sub_self]at e;cases e;exact⟨_,_,ex,ey,up _ _ (AG hSn) pn⟩
  ·rcases AJ.mp ht with q | q
   ·exact hap t q
   ·rw[Ap.mp q];exact⟨AG hzlt,AG hi1lt,AG hi2lt,AG hSn⟩
  ·refine BC.mpr ⟨nd,by simp,fun a ha b hb=>?_⟩
   rw[Ap.mp hb];exact Al (hlt a ha)
  ·show t<h2'.objs.size
   rw[sz2];rcases AJ.mp ht with q | q
   ·exact BB (hlt t q)
   ·rw[Ap.mp q];exact BF _
  ·refine hR h3 acc' c' (fun b o b0 b1 b2 b3 e=>k3 b o b0 b1 b2 b3 (kp b o b0 b1 b2 b3 e)) s3 l3 n3 (fun t ht=>?_) p3 f3
   rcases m3 t ht with q | q
   ·rcases AJ.mp q with q | q
    ·exact .inl q
    ·rw[Ap.mp q];exact .inr (Ad _)
   ·right;have q:h2'.objs.size<=t:=q;omega
theorem qE {R:Result->Shared->Prop}{z TI TO i1 i2 l1 l2 S:Addr}{xs ys:Array Value}(hh:A.handled=none)(D:ZipApart z TI TO i1 i2 l1 l2)(hxy:ys.size<xs.size)(h0:0<ys.size)(hn:ys.size<=sizeLine)(res:Value)
  (hS1:S≠z) (hS2:S≠i1) (hS3:S≠i2) (hS4:S≠l1) (hS5:S≠l2) (hS6:S≠TI) (hS7:S≠TO) {a b:Value} {c:Nat} (hz:IsZip s.heap z TI TO .none) (hTI:IsPair s.heap TI (.ref i1) (.ref i2)) (hTO:IsPair s.heap TO a b)
  (h1:s.heap.IsTupleIter i1 l1 0) (h2:s.heap.IsTupleIter i2 l2 0) (hl1:s.heap.IsTuple l1 xs) (hl2:s.heap.IsTuple l2 ys) (hS:s.heap.get? S=some { cls:=.type "list",dict:=none,data:=.seq #[] c,slots:=#[] })
  (hR:∀ (h':Heap)(acc':List Addr)(c':Nat),(∀ b o,b≠S->b≠z->b≠TO->b≠i1->b≠i2->s.heap.get? b=some o->h'.get? b=some o)->h'.get? S=some { cls:=.type "list",dict:=none,data:=.seq (acc'.map Value.ref).toArray c',slots:=#[] }->acc'.length=ys.size->acc'.Nodup ->
   (∀ t∈acc',s.heap.objs.size<=t)->(∀ (j:Nat)(t:Addr),acc'[j]? = some t->∃ x y,xs[j]? = some x/\ys[j]? = some y/\IsPair h' t x y)->R (.ok (.ret res)) { s with heap:=h' }) :
  codeAny (model prog w) A (.builtin "list.extend.loop" ⟨[.ref S,.ref z,res],[]⟩) R s:=by
 refine BP F.entry_extend_loop ?_;rw[Bi Bl _]
 show wpAny _ A.in1 (pyNext (.ref z) >>= _) _ _ s
 have ex:xs[0]? = some xs[0]:=Array.getElem?_eq_getElem (by omega);have ey:ys[0]? = some ys[0]:=Array.getElem?_eq_getElem (by omega);refine z4 (qD (A:=A.in1) D hz hTI hTO h1 h2 hl1 hl2 ex ey fun h' z' _ i1' i2' pn sz keep=>?_);have hS':=keep _ _ hS1 hS7 hS2 hS3 hS
 show wpAny _ A.in1 (updateSeq S (·.push (.ref s.heap.objs.size)) >>= _) _ _ _
 refine z4 ?_;obtain⟨h2',eh2⟩:∃ h2',h2'=h'.update S (Obj.mapSeq (·.push (Value.ref s.heap.objs.size))):=⟨_,rfl⟩
 have up:∀ b o,b≠S->h'.get? b=some o->h2'.get? b=some o:=fun b o hb e=>by rw[eh2];exact (Heap.get?_update_other _ _ (fun z=>hb z.symm)).trans e
 have hSn:S<s.heap.objs.size:=Aa hS;have hzlt:z<s.heap.objs.size:=Aa hz
 have hi1lt:i1<s.heap.objs.size:=by obtain⟨_,e,_⟩:=h1;exact Aa e
 have hi2lt:i2<s.heap.objs.size:=by obtain⟨_,e,_⟩:=h2;exact Aa e
 have sz2:h2'.objs.size=s.heap.objs.size+1:=by rw[eh2,Heap.size_update,sz]
 refine Be hS' rfl (Ac ⟨Bv Bl _,?_⟩) (Au _) (by show (1:Nat)<=sizeLine+1;omega);rw[<-eh2];have kp:∀ b o,b≠S->b≠z->b≠TO->b≠i1->b≠i2->s.heap.get? b=some o->h2'.get? b=some o:=fun b o b0 b1 b2 b3 b4 e=>up b o b0 (keep b o b1 b2 b3 b4 e)
 refine sF hh D hxy hn res hS1 hS2 hS3 hS4 hS5 hS6 (ys.size-1) 1 { s with heap:=h2' } [s.heap.objs.size] #[.ref s.heap.objs.size] _ s.heap.objs.size false rfl (by omega) (by omega) (up _ _ hS1.symm z') Am (kp _ _ hS6.symm D.TIz D.TITO D.TIi1 D.TIi2 hTI) (i1'.at fun o e=>up _ _ hS2.symm e) (i2'.at fun o e=>up _ _ hS3.symm e)
  (hl1.at fun o e=>kp _ _ hS4.symm D.l1z D.l1TO D.l1i1 D.l1i2 e) (hl2.at fun o e=>kp _ _ hS5.symm D.l2z D.l2TO D.l2i1 D.l2i2 e) (by show h2'.get? S=_;rw[eh2];exact Heap.get?_update_self _ hS' rfl) rfl (fun j t e=>?_) (fun t ht=>?_) (by simp) (fun t ht=>?_) fun h3 acc' c' k3 s3 l3 n3 m3 p3 f3=>?_
 ·cases j with
  | zero=>cases e;exact⟨_,_,ex,ey,up _ _ (AG hSn) pn⟩
  | succ j=>simp at e
 ·rw[Ap.mp ht];exact⟨AG hzlt,AG hi1lt,AG hi2lt,AG hSn⟩
 ·show t<h2'.objs.size
  rw[sz2,Ap.mp ht];exact BF _
 ·refine hR h3 acc' c' (fun b o b0 b1 b2 b3 b4 e=>k3 b o b0 b1 b3 b4 (kp b o b0 b1 b2 b3 b4 e)) s3 l3 n3 (fun t ht=>?_) p3
  rcases m3 t ht with q | q
  ·rw[Ap.mp q];exact Ad _
  ·have q:h2'.objs.size<=t:=q;omega
theorem k8 {Q:Value->Shared->Prop}{z TI TO i1 i2 l1 l2:Addr}{xs ys:Array Value}(hh:A.handled=none)(D:ZipApart z TI TO i1 i2 l1 l2)(hxy:ys.size<xs.size)(h0:0<ys.size)(hn:ys.size<=sizeLine){a b:Value}
  (hz:IsZip s.heap z TI TO .none) (hTI:IsPair s.heap TI (.ref i1) (.ref i2)) (hTO:IsPair s.heap TO a b)
  (h1:s.heap.IsTupleIter i1 l1 0) (h2:s.heap.IsTupleIter i2 l2 0) (hl1:s.heap.IsTuple l1 xs) (hl2:s.heap.IsTuple l2 ys)
  (hQ:∀ (h':Heap)(acc':List Addr)(c':Nat),(∀ b o,b≠z->b≠TO->b≠i1->b≠i2->s.heap.get? b=some o->h'.get? b=some o)->h'.get? s.heap.objs.size=some { cls:=.type "list",dict:=none,data:=.seq (acc'.map Value.ref).toArray c',slots:=#[] }->acc'.length=ys.size->acc'.Nodup ->
   (∀ t∈acc',s.heap.objs.size<t)->(∀ (j:Nat)(t:Addr),acc'[j]? = some t->∃ x y,xs[j]? = some x/\ys[j]? = some y/\IsPair h' t x y)->Q (.ref s.heap.objs.size) { s with heap:=h' }) :
  wpAny (model prog w) A (call (.type "list") [.ref z]) Q E s:=by
 refine callType_codes (Q₁:=fun obj s1=>obj=.ref s.heap.objs.size/\s1={ s with heap:=s.heap.push { cls:=.type "list",data:=.seq #[] } }) PySem.F.called_list (PySem.F.typeCall_list_1 _) PySem.F.entry_list_init (code_list_new _ ⟨rfl,rfl⟩) fun obj s1 he=>?_;obtain⟨rfl,rfl⟩:=he;have hS:(s.heap.push { cls:=.type "list",data:=.seq #[] }).get? s.heap.objs.size=some { cls:=.type "list",data:=.seq #[] }:=Heap.get?_push_size _ rfl;refine⟨⟨_,hS,rfl⟩,PySem.F.args_list_init_2 _ _,?_⟩
 show wpAny _ _ (do let old <-Builtin.List.listItems (.ref s.heap.objs.size);Builtin.List.listUpdate (.ref s.heap.objs.size) (fun _=>#[]);letGo old.toList.reverse;Builtin.List.listExtendWith (.ref s.heap.objs.size) (.ref z) .none) _ _ _
 refine z4 ?_;unfold Builtin.List.listItems;refine z4 (A1 hS rfl (Ac ?_))
 show wpAny _ _ (updateSeq s.heap.objs.size (fun _=>#[]) >>= fun _=>letGo (#[]:Array Value).toList.reverse >>= fun _=>Builtin.List.listExtendWith (.ref s.heap.objs.size) (.ref z) .none) _ _ _
 refine z4 (Be hS rfl ?_);have hS2:=Heap.get?_update_self (Obj.mapSeq (fun _=>(#[]:Array Value))) hS rfl
 have oth:∀ b o,s.heap.get? b=some o->((s.heap.push { cls:=.type "list",data:=.seq #[] }).update s.heap.objs.size (Obj.mapSeq (fun _=>(#[]:Array Value)))).get? b=some o :=
  fun b o e=>(Heap.get?_update_other _ _ (AG (Aa e))).trans (Heap.get?_push_of_some _ e)
 have szz:((s.heap.push { cls:=.type "list",data:=.seq #[] }).update s.heap.objs.size (Obj.mapSeq (fun _=>(#[]:Array Value)))).objs.size=s.heap.objs.size+1:=by rw[Heap.size_update,AR]
 refine z4 (BQ ?_);generalize (s.heap.push { cls:=.type "list",data:=.seq #[] }).update s.heap.objs.size (Obj.mapSeq (fun _=>(#[]:Array Value)))=g at hS2 oth szz ⊢;have zlt:z≠s.heap.objs.size:=Al (Aa hz);have hT:Shared.TypeIs { s with heap:=g } (.ref z) "zip":=⟨_,oth _ _ hz,rfl⟩;unfold Builtin.List.listExtendWith;refine z4 (wpAny_typeOf (T:="zip") hT ?_)
 have q1:Builtin.List.listSameRef (.ref s.heap.objs.size) (.ref z)=false:=by simp[Builtin.List.listSameRef,zlt.symm]
 have q2:(Value.type "zip" == Value.type "list")=false:=by decide
 have q3:(Value.type "zip" == Value.type "tuple")=false:=by decide
 simp only[q1,q2,q3,Bool.or_false,Bs,if_false];refine z4 (wpAny_pyIter_zip (oth _ _ hz) ?_);refine z4 (Bh ?_);unfold Builtin.List.listLengthHint;refine z4 (wpAny_specialOf hT vm ?_)
 show wpAny _ _ (specialOf (Value.ref z) (Str.ofString "__length_hint__") >>= _) _ _ _
 refine z4 (wpAny_specialOf hT uA ?_);refine Ac ?_
 show wpAny _ _ (rule "list.extend.makes-room" >>= fun _=>Builtin.List.listTouch (.ref s.heap.objs.size) >>= fun _ =>
  again (.builtin "list.extend.loop" ⟨[.ref s.heap.objs.size,.ref z,.none],[]⟩)) _ _ _
 refine z4 (wpAny_rule ?_);refine z4 ?_
 show wpAny _ _ (updateSeq s.heap.objs.size (·.push .none) >>= fun _=>updateSeq s.heap.objs.size (·.pop)) _ _ _
 refine z4 (Be hS2 rfl ?_);have hS₂:=Heap.get?_update_self (Obj.mapSeq (·.push Value.none)) hS2 rfl;refine Be hS₂ rfl ?_;have hS₃:=Heap.get?_update_self (Obj.mapSeq (·.pop)) hS₂ rfl
 have oth2:∀ b o,s.heap.get? b=some o->((g.update s.heap.objs.size (Obj.mapSeq (·.push Value.none))).update s.heap.objs.size (Obj.mapSeq (·.pop))).get? b=some o :=
  fun b o e=>(Heap.get?_update_other _ _ (AG (Aa e))).trans ((Heap.get?_update_other _ _ (AG (Aa e))).trans (oth b o e))
 have szz2:((g.update s.heap.objs.size (Obj.mapSeq (·.push Value.none))).update s.heap.objs.size (Obj.mapSeq (·.pop))).objs.size=s.heap.objs.size+1:=by rw[Heap.size_update,Heap.size_update,szz]
 generalize (g.update s.heap.objs.size (Obj.mapSeq (·.push Value.none))).update s.heap.objs.size (Obj.mapSeq (·.pop))=g2 at hS₃ oth2 szz2 ⊢
 have li1:i1≠s.heap.objs.size:=by obtain⟨_,e,_⟩:=h1;exact Al (Aa e)
 have li2:i2≠s.heap.objs.size:=by obtain⟨_,e,_⟩:=h2;exact Al (Aa e)
 have ll1:l1≠s.heap.objs.size:=by obtain⟨_,e,_⟩:=hl1;exact Al (Aa e)
 have ll2:l2≠s.heap.objs.size:=by obtain⟨_,e,_⟩:=hl2;exact Al (Aa e)
 refine Ac ⟨Bv Bl _,?_⟩;refine qE (A:=A.in1) (s:={ s with heap:=g2 }) (S:=s.heap.objs.size) hh D hxy h0 hn .none zlt.symm li1.symm li2.symm ll1.symm ll2.symm (AG (Aa hTI)) (AG (Aa hTO)) (oth2 _ _ hz) (oth2 _ _ hTI) (oth2 _ _ hTO) (h1.at fun o e=>oth2 _ _ e) (h2.at fun o e=>oth2 _ _ e) (hl1.at fun o e=>oth2 _ _ e) (hl2.at fun o e=>oth2 _ _ e) hS₃ fun h' acc' c' k3 s3 l3 n3 m3 p3=>?_;refine⟨rfl,hQ h' acc' c' (fun b o b1 b2 b3 b4 e=>k3 b o (Al (Aa e)) b1 b2 b3 b4 (oth2 b o e)) s3 l3 n3 (fun t ht=>?_) p3⟩;have:=m3 t ht;have this:g2.objs.size<=t:=this;omega
end
def sC (K:PySem.W.Frag)(t:TA):TE:=fun σ H Q=>t σ H fun vs H1=>∃ (a b:Addr)(xs ys:List V),vs=[.ref a,.ref b]/\aG K H1 a xs/\aG K H1 b ys/\ys.length<xs.length/\0<ys.length /\
 ∀ (l:Addr)(ts:List Addr)(H':Hp),H1 l=none->(∀ c o,H1 c=some o->H' c=some o)->H' l=some (.lst (ts.map V.ref))->Paired (fun t (p:V×V)=>H' t=some (.tup [p.1,p.2])) ts (xs.zip ys)->Q (.ref l) H'
theorem o0 {X:Cx}{e:Expr}{es:List Expr}{t:TA}{p p2 pos pos2:Pos}(hc:X.calm=true)(ha:PA X (e::es) t)(hg:Gl X "list")(hm:X.mg "list" = none)(hg2:Gl X "zip")(hm2:X.mg "zip" = none)
  (he:starEach (e::es) X.env=(false,eval e X.env)::starEach es X.env:=by rfl) (hpl:(backTo pos2 (starEach es X.env)).any (·.1)=false:=by rfl)
  (hs2:starEach [.Call (.Name "zip" p2) (e::es) [] pos2] X.env=[(false,eval (.Call (.Name "zip" p2) (e::es) [] pos2) X.env)]:=by rfl) :
  PE X (.Call (.Name "list" p) [.Call (.Name "zip" p2) (e::es) [] pos2] [] pos) (sC X.K t):=by
 intro pins s σ H Q I h;refine AV (dD I hg hm boot_list ?_ (by decide) (by decide));refine AM ?_ hs2 rfl;rw[hs2];refine spliced_cons (AV (dD I hg2 hm2 boot_zip ?_ (by decide) (by decide)));refine AM (bf (ha pos2 pins s σ H _ I h) fun us s1 ⟨vs,H1,I1,r1,a,b,xs,ys,ev,hqa,hqb,hlt,h0,q⟩=>?_) he hpl;subst ev;obtain⟨u1,u2,rfl,ru1,ru2⟩:=r1.two;cases ru1;cases ru2;obtain⟨ita,rva,pla,hza⟩:=I1.tuple hqa;obtain⟨itb,rvb,plb,hzb⟩:=I1.tuple hqb;have la:=rva.length;have lb:=rvb.length;have pla:s1.heap.IsTuple a ita.toArray:=pla;have plb:s1.heap.IsTuple b itb.toArray:=plb
 have lta:a<s1.heap.objs.size:=by obtain⟨o,e,_⟩:=id pla;exact Aa e
 have ltb:b<s1.heap.objs.size:=by obtain⟨o,e,_⟩:=id plb;exact Aa e
 refine rN pla plb fun h1 z1 t1 t2 i1 i2 sz k1=>spliced_nil ?_;refine k8 (s:={ s1 with heap:=h1 }) (I1.ok.hd hc) (zipApart_new lta ltb) (by simpa using (show itb.length<ita.length by omega)) (by simpa using (show 0<itb.length by omega)) (by simpa using (show itb.length<=sizeLine by omega)) z1 t1 t2 i1 i2 (Heap.IsTuple.at pla fun o e=>k1 _ _ e) (Heap.IsTuple.at plb fun o e=>k1 _ _ e) fun h' ts c' k2 s2 l2 n2 m2 p2=>?_
 have l2:ts.length=itb.length:=by simpa using l2
 have m2:∀ t∈ts,h1.objs.size<t:=m2;have s2:h'.get? h1.objs.size=some { cls:=.type "list",dict:=none,data:=.seq (ts.map Value.ref).toArray c',slots:=#[] }:=s2
 have kk:∀ c o,s1.heap.get? c=some o->h'.get? c=some o:=fun c o e=>by
  have hc:c<s1.heap.objs.size:=Aa e;exact k2 c o (Al (As hc (BG _ _))) (Al (As hc (BG _ _))) (Al hc) (Al (As hc (BG _ _))) (k1 c o e)
 have ln:h1.objs.size∉ts:=fun hm=>Bu _ (m2 _ hm)
 have lz:(xs.zip ys).length=ts.length:=by rw[List.length_zip];omega
 have out:∀ c,c<s1.heap.objs.size->aD (iJ H1 ts (xs.zip ys)) h1.objs.size (.lst (ts.map V.ref)) c=H1 c:=fun c hc=>by
  have hne:c≠h1.objs.size:=by omega
  have hnm:c∉ts:=fun hm=>by have:=m2 c hm;omega
  rw[ap hne,lB hnm]
 refine⟨.ref h1.objs.size,aD (iJ H1 ts (xs.zip ys)) h1.objs.size (.lst (ts.map V.ref)),?_,rfl,?_⟩
 ·refine I1.grown kk (fun c u e n=>by rw[out c (Aa e)];exact n) (fun c o e=>by rw[out c (I1.hok c o e).lt];exact e) fun c o e n=>?_
  by_cases hb:c=h1.objs.size
  ·subst hb
   rw[aa]at e;cases e;refine⟨by rw[z9];omega,ts.map Value.ref,c',?_,s2⟩
   exact kX (by simp) fun i y v e1 e2=>by
    rw[List.getElem?_map]at e1 e2
    cases hts:ts[i]? with
    | none=>rw[hts]at e1;cases e1
    | some t=>rw[hts]at e1 e2;cases e1;cases e2;exact rfl
  ·rw[ap hb]at e
   by_cases hm:c∈ts
   ·obtain⟨j,pp,e1,e2,rfl⟩:=qX n2 hm e n
    obtain⟨x,y,ex,ey,ip⟩:=p2 j c e1;obtain⟨f1,f2⟩:=List.getElem?_zip_eq_some.mp e2;obtain⟨v1,g1,w1⟩:=rva.get f1;obtain⟨v2,g2,w2⟩:=rvb.get f2
    have ex:ita[j]? = some x:=by simpa using ex
    have ey:itb[j]? = some y:=by simpa using ey
    rw[ex]at g1;cases g1;rw[ey]at g2;cases g2;exact⟨(show 2<=sizeLine by decide),[x,y],.cons w1 (.cons w2 .nil),⟨_,ip,rfl,_,rfl⟩⟩
   ·rw[lB hm,n]at e;cases e
 ·refine q _ ts _ (I1.hok.fresh (by omega)) (fun c o e=>by rw[out c (I1.hok c o e).lt];exact e) aa ?_
  have pr:=lC (H:=H1) n2 lz.symm
  have key:∀ {us:List Addr}{qs:List (V×V)}{R S:Addr->V×V->Prop},(∀ u∈us,∀ q,R u q->S u q)->Paired R us qs->Paired S us qs:=fun {us qs R S} hRS pr=>by
   induction pr with
   | nil=>exact .nil
   | cons r _ ih=>exact .cons (hRS _ Am _ r) (ih fun u hu=>hRS u (Ak _ hu))
  exact key (fun u hu q e=>by rw[ap (fun z=>ln (by rw[<-z];exact hu))];exact e) pr
theorem vh {X:Cx}(K:PySem.W.Frag)(hK:X.K=K:=by rfl):yg X (xP K):=by subst hK;exact lY
end L2
namespace Wz
open PySem L2
inductive aL where
 | pair (a b:Int)
 | line (gs:List Int)
 | star (gs:List Int)
 | all (gs:List Int)
 | quad (a b c d:Int)
def aL.word:aL->Str
 | .pair _ _=>"pair"
 | .line _=>"line"
 | .star _=>"star"
 | .all _=>"all"
 | .quad _ _ _ _=>"quad"
def aL.gs:aL->List Int
 | .pair a b=>[a,b]
 | .line g=>g
 | .star g=>g
 | .all g=>g
 | .quad a b c d=>[a,b,c,d]
def aL.isP:aL->Bool
 | .pair _ _=>true
 | _=>false
def gi:List Int->List (Int×Int)
 | []=>[]
 | g::gs=>gs.map (fun o=>(g,o))++gi gs
def aL.row:aL->List (Int×Int)
 | .pair a b=>[(a,b)]
 | .line g=>g.zip (g.drop 1)
 | .star g=>(g.drop 1).map fun o=>(g.headD 0,o)
 | .all g=>gi g
 | .quad a b c d=>vE a b c d
def aL.Ok (f:aL):Prop:=2<=f.gs.length/\f.gs.length<=60/\∀ a b c d,f=.quad a b c d->[a,b,c,d].Nodup
def fW (H:Hp)(p:Addr):aL->Prop
 | .pair a b=>H p=some (.tup [.str "pair",.int a,.int b])
 | f=>∃ q,H p=some (.tup [.str f.word,.ref q])/\H q=some (.tup (f.gs.map V.int))
theorem fW.gr {H:Hp}{p:Addr}{f:aL}(h:fW H p f)(n:f.isP=false):∃ q,H p=some (.tup [.str f.word,.ref q])/\H q=some (.tup (f.gs.map V.int)):=by
 cases f<;>first | exact h | cases n
theorem fW.of {H:Hp}{p q:Addr}{f:aL}(n:f.isP=false)(h1:H p=some (.tup [.str f.word,.ref q]))(h2:H q=some (.tup (f.gs.map V.int))):fW H p f:=by
 cases f<;>first | exact⟨q,h1,h2⟩ | cases n
theorem fW.hd {H:Hp}{p:Addr}{f:aL}(h:fW H p f):∃ xs,H p=some (.tup (.str f.word::xs)):=by
 cases f with
 | pair a b=>exact⟨_,h⟩
 | _=>obtain⟨q,e,_⟩:=h;exact⟨_,e⟩
theorem aL.nw (f:aL):f.word≠"back"/\f.word≠"row"/\f.word≠"name":=by
 cases f<;>(dsimp only[aL.word];refine⟨?_,?_,?_⟩<;>decide +kernel)
theorem jf:∀ g:List Int,2*(gi g).length=g.length*(g.length-1)
 | []=>rfl
 | a::g=>by
  have ih:=jf g
  show 2*(g.map (fun o=>(a,o))++gi g).length=_
  rw[An,z9,Nat.mul_add,ih,AT]
  cases hn:g.length with
  | zero=>rfl
  | succ m =>
   show 2*(m+1)+(m+1)*m=(m+1+1)*(m+1)
   rw[Nat.mul_comm 2,<-Nat.mul_add,Nat.add_comm 2,Nat.mul_comm]
theorem aL.rl {f:aL}(ok:f.Ok):f.row.length<=2000:=by
 have ok:=ok.2.1
 cases f with
 | pair a b=>show (1:Nat)<=2000;decide
 | line g=>show (g.zip (g.drop 1)).length<=2000;rw[List.length_zip];have:g.length<=60:=ok;omega
 | star g=>show ((g.drop 1).map _).length<=2000;rw[z9,AI];have:g.length<=60:=ok;omega
 | all g =>
  have h:=jf g;have:g.length<=60:=ok;have:=Nat.mul_le_mul this (show g.length-1<=59 by omega)
  show (gi g).length<=2000
  omega
 | quad a b c d=>show (6:Nat)<=2000;decide
theorem RD.succ {K:PySem.W.Frag}{H:Hp}:∀ {n:Nat}{v:V}{d:Dt},RD K H n v d->RD K H (n+1) v d
 | 0,_,_,h=>.inl h
 | _+1,_,_,.inl h=>.inl h
 | _+1,_,_,.inr ⟨a,t,xs,ds,e1,e2,q,p⟩=>.inr ⟨a,t,xs,ds,e1,e2,q,Paired.mapP p fun _ _ z=>RD.succ z⟩
theorem jO {g:List V}(n:Nat)(hn:0<n)(hg:0<g.length):¬ (HT.sIx g.length 0 (some (n:Int))=0/\HT.sIx g.length g.length none=g.length):=by
 rw[HT.sIx_nat];omega
theorem jp {α β:Type}{R:Addr->β->Prop}{f:α->β}:∀ {ts:List Addr}{ps:List α},Paired R ts (ps.map f)->Paired (fun t p=>R t (f p)) ts ps
 | [],[],_=>.nil
 | [],_::_,h=>nomatch h
 | _::_,[],h=>nomatch h
 | _::_,_::_,.cons a b=>.cons a (jp b)
theorem uB (a b:List Int):(a.map V.int).zip (b.map V.int)=(a.zip b).map fun p=>(V.int p.1,V.int p.2):=by
 rw[List.zip_map];rfl
structure BA where
 dx:Addr
 d1:Addr
 d2:Addr
 d3:Addr
def mi (a b c:V):List (Str×V):=[("figures",a),("lengths",b),("rows",c)]
theorem yH:¬ (("figures" : Str)="lengths"):=by decide +kernel
theorem zA:¬ (("figures" : Str)="rows"):=by decide +kernel
theorem zB:¬ (("lengths" : Str)="rows"):=by decide +kernel
theorem oq {a b c:V}:dh "rows" c (dh "lengths" b (dh "figures" a []))=mi a b c:=by
 unfold mi;simp only[dh];rw[Ag yH];simp only[dh];rw[Ag zA,Ag zB]
theorem wa {a b:V}:dh "lengths" b (dh "figures" a [])=([("figures",a),("lengths",b)]:List (Str×V)):=by
 simp only[dh];rw[Ag yH]
theorem k7 {a b c:V}:(mi a b c).lookup ("figures" : Str)=some a:=by
 rw[<-oq,bu,Ag zA,bu,Ag yH,bu,Ai rfl]
theorem d7 {a b c:V}{m:Str}(q:¬ m="figures"/\¬ m="lengths"/\¬ m="rows"):(mi a b c).lookup m=none:=by
 rw[<-oq,bu,Ag q.2.2,bu,Ag q.2.1,bu,Ag q.1];rfl
inductive nY (vs:List V) (H:Hp) (Q:VK) (E_:XK):Prop
 | mk (p:Addr) (f:aL) (h_0:vs=[.ref p]) (h_1:fW H p f) (h_2:f.Ok) (h_3:Q (.int f.row.length) H):nY vs H Q E_
inductive iR (vs:List V) (H:Hp) (Q:VK) (E_:XK):Prop
 | mk (p:Addr) (f:aL) (h_0:vs=[.ref p]) (h_1:fW H p f) (h_2:f.Ok) (h_3:∀ (l:Addr)(H':Hp),H l=none->av H H'->bF H' l f.row->Q (.ref l) H'):iR vs H Q E_
inductive me (vs:List V) (H:Hp) (Q:VK) (E_:XK):Prop
 | mk (l:Addr) (ps:List (Int×Int)) (h_0:vs=[.ref l]) (h_1:bF H l ps) (h_2:ps.length<=10000) (h_3:∀ H',av H H'->Q (.bl true) H'):me vs H Q E_
inductive kT (vs:List V) (H:Hp) (Q:VK) (E_:XK):Prop
 | mk (d:Int) (h_0:vs=[.int d]) (h_1:0<=d) (h_2:∀ (l:Addr)(rs:List Int),H l=none->2<=rs.length->rs.length<=60->(∀ r∈rs,0<=r/\r<12)->Q (.ref l) (aD H l (.lst (rs.map V.int)))):kT vs H Q E_
inductive n6 (vs:List V) (H:Hp) (Q:VK) (E_:XK):Prop
 | mk (d c:Int) (h_0:vs=[.int d,.int c]) (h_1:0<=d) (h_2:∀ (p:Addr)(f:aL)(H':Hp),H p=none->av H H'->fW H' p f->f.Ok->Q (.ref p) H'):n6 vs H Q E_
def gP (w:Str)(k j:Nat):Bool:=if j<=k then false else if w="star" then decide (k=0) else if w="all" then true else decide (j=k+1)
def oA (w:Str)(k:Nat)(x:Int):List Int->Nat->List (Int×Int)
 | [],_=>[]
 | o::os,j=>(if gP w k j=true then [(x,o)] else [])++oA w k x os (j+1)
def jo (w:Str)(g:List Int):List Int->Nat->List (Int×Int)
 | [],_=>[]
 | x::xs,k=>oA w k x g 0++jo w g xs (k+1)
theorem p7 {w:Str}{k:Nat}{x:Int}(h:∀ j,gP w k j=true↔k<j):∀ (os:List Int)(j:Nat),oA w k x os j=(os.drop (k+1-j)).map fun o=>(x,o)
 | [],_=>by simp[oA]
 | o::os,j=>by
  show (if gP w k j=true then [(x,o)] else [])++oA w k x os (j+1)=_
  rw[p7 h os (j+1)]
  by_cases z:k<j
  ·rw[Ai ((h j).mpr z),show k+1-(j+1)=0 by omega,show k+1-j=0 by omega]
   rfl
  ·rw[Ag (fun q=>z ((h j).mp q)),show k+1-j=(k+1-(j+1))+1 by omega]
   rfl
theorem tm {w:Str}{k:Nat}{x:Int}(h:∀ j,gP w k j=false):∀ (os:List Int)(j:Nat),oA w k x os j=[]
 | [],_=>rfl
 | o::os,j=>by
  show (if gP w k j=true then [(x,o)] else [])++oA w k x os (j+1)=_
  rw[tm h os (j+1),Ag (by rw[h j];exact Ae)];rfl
theorem qW {w:Str}{k:Nat}{x:Int}(h:∀ j,gP w k j=true↔j=k+1):∀ (os:List Int)(j:Nat),oA w k x os j=if j<=k+1 then ((os.drop (k+1-j)).take 1).map (fun o=>(x,o)) else []
 | [],_=>by simp[oA]
 | o::os,j=>by
  show (if gP w k j=true then [(x,o)] else [])++oA w k x os (j+1)=_
  rw[qW h os (j+1)]
  by_cases z:j=k+1
  ·rw[Ai ((h j).mpr z),Ag (by omega),Ai (by omega),show k+1-j=0 by omega]
   rfl
  ·rw[Ag (fun q=>z ((h j).mp q))]
   by_cases y:j<=k+1
   ·rw[Ai (by omega),Ai y,show k+1-j=(k+1-(j+1))+1 by omega]
    rfl
   ·rw[Ag (by omega),Ag y]
    rfl
theorem qP {g os:List Int}{x:Int}{k:Nat}(e:g.drop k=x::os):g.drop (k+1)=os:=by
 rw[<-List.drop_drop,e];rfl
theorem rg (g:List Int):∀ (os:List Int)(k:Nat),g.drop k=os->jo "all" g os k=gi os
 | [],_,_=>rfl
 | x::os,k,e=>by
  have e1:=qP e
  show oA "all" k x g 0++jo "all" g os (k+1)=os.map (fun o=>(x,o))++gi os
  rw[rg g os (k+1) e1,p7 (fun j=>?_),Nat.sub_zero,e1];unfold gP;rw[Ag (show ¬ ("all" : Str)="star" by decide +kernel),Ai rfl]
  by_cases z:j<=k
  ·rw[Ai z];exact⟨fun q=>(by cases q),fun q=>by omega⟩
  ·rw[Ag z];exact⟨fun _=>by omega,fun _=>rfl⟩
theorem oZ (g:List Int):∀ (os:List Int)(k:Nat),g.drop k=os->jo "line" g os k=os.zip (os.drop 1)
 | [],_,_=>rfl
 | x::os,k,e=>by
  have e1:=qP e
  show oA "line" k x g 0++jo "line" g os (k+1)=(x::os).zip os
  rw[oZ g os (k+1) e1,qW (fun j=>?_),Ai (Au _),Nat.sub_zero,e1]
  ·cases os<;>rfl
  ·unfold gP
   rw[Ag (show ¬ ("line" : Str)="star" by decide +kernel),Ag (show ¬ ("line" : Str)="all" by decide +kernel)]
   by_cases z:j<=k
   ·rw[Ai z];exact⟨fun q=>(by cases q),fun q=>by omega⟩
   ·rw[Ag z];exact decide_eq_true_iff
theorem mY (g:List Int):∀ (os:List Int)(k:Nat),0<k->jo "star" g os k=[]
 | [],_,_=>rfl
 | x::os,k,h=>by
  show oA "star" k x g 0++jo "star" g os (k+1)=[]
  rw[mY g os (k+1) (Nat.succ_pos _),tm (fun j=>?_)]
  ·rfl
  ·unfold gP
   rw[Ai rfl,Ab (by omega)];split<;>rfl
theorem tK:∀ g:List Int,jo "star" g g 0=(g.drop 1).map fun o=>(g.headD 0,o)
 | []=>rfl
 | x::os=>by
  show oA "star" 0 x (x::os) 0++jo "star" (x::os) os 1=os.map fun o=>(x,o)
  rw[mY _ os 1 (by decide),p7 (fun j=>?_),Bt]
  ·rfl
  ·unfold gP
   rw[Ai rfl]
   by_cases z:j<=0
   ·rw[Ai z];exact⟨fun q=>(by cases q),fun q=>by omega⟩
   ·rw[Ag z];exact⟨fun _=>by omega,fun _=>rfl⟩
inductive rq (vs:List V) (H:Hp) (Q:VK) (E_:XK):Prop
 | mk (w:Str) (k j:Nat) (h_0:vs=[.str w,.int k,.int j]) (h_1:Q (.bl (gP w k j)) H):rq vs H Q E_
structure zh (K:PySem.W.Frag)(mg:Str->Option Value)(ck:Addr):Prop where
 cl:qF K ck
 nF:fA K ck "figures"
 nL:fA K ck "lengths"
 nR:fA K ck "rows"
 mF:mg "FigureBook" = some (.ref ck)
end Wz
namespace Qs
open PySem PySem.W PyProof.Rows
abbrev Q4:=Int×Int×Int×Int
def q0:Q4:=(0,0,0,0)
def zJ (p q:Q4):Bool:=decide (p.1<q.1\/(p.1=q.1/\(p.2.1<q.2.1\/(p.2.1=q.2.1/\(p.2.2.1<q.2.2.1\/(p.2.2.1=q.2.2.1/\p.2.2.2<q.2.2.2))))))
def zG (h:Heap)(v:Value)(p:Q4):Prop:=∃ (b:Addr)(o:Obj)(n:Nat)(t1 t2 t3 t4:Tok),v=.ref b/\h.get? b=some o/\o.cls=.type "tuple"/\o.data=.seq #[.int p.1 t1,.int p.2.1 t2,.int p.2.2.1 t3,.int p.2.2.2 t4] n
open Classical in
noncomputable def decQ (h:Heap) (v:Value):Q4:=if z:∃ p,zG h v p then choose z else q0
def yh (vs:List Value)(ps:List Q4)(out:List Value):Prop:=∃ ix:List Nat,ix.Perm (List.range vs.length)/\out=ix.map (fun i=>vs.getD i Value.none)/\(ix.map fun i=>ps.getD i q0).Pairwise (fun a b=>zJ a b=true)
end Qs
namespace L2
open PySem PySem.Spec PyProof.Rows
section
variable {prog:Program}{w:World}{A:Around}{R:Result->Shared->Prop}{I:Addr}{fp wr:List Addr}{n:Nat}{P:Nat->Value->Prop}{St:Nat->Heap->Prop}
abbrev xz (I S:Addr)(d:Value):Code:=.builtin "max.loop" ⟨[.ref I,.none,.ref S],[("default",d)]⟩
theorem sf (W:Walks prog w A.in1 I fp wr n P St)(bt:Nat->Nat->Bool)(cmp:CmpOf prog w A.in1 .Gt P bt)(d:Value)(S:Addr)(nS:S∉fp) :
  ∀ (m j:Nat)(s:Shared)(v:Value)(c:Nat),m+(j+1)=n->St (j+1) s.heap->P (argBest bt j) v ->
  s.heap.get? S=some { cls:=.type "list",dict:=none,data:=.seq #[v,v] c,slots:=#[] } ->
  (∀ u h' tk,P (argBest bt (n-1)) u->(∀ b o,b∉wr->b≠S->s.heap.get? b=some o->h'.get? b=some o)->R (.ok (.ret u)) { s with heap:=h',toks:=tk })->codeAny (model prog w) A (xz I S d) R s:=by
 have nW:S∉wr:=fun z=>nS (W.sub _ z)
 have nm:(toString "max"++toString ".loop" : String)="max.loop":=by decide
 intro m
 induction m with
 | zero =>
  intro j s v c e st pv hS k
  have e:j+1=n:=by omega
  refine BP F.entry_max_loop ?_;rw[Bi Bo _]
  show wpAny _ A.in1 (seqItems? (.ref S) >>= _) _ _ s
  refine z4 (A1 hS rfl ?_)
  show wpAny _ A.in1 (tryCatch (pyNext (.ref I)) _ >>= _) _ _ s
  refine z4 (wpAny_tryCatch (W.done s _ _ (e▸st) fun h1 t1 k1=>?_));have hS1:=k1 S _ nW hS
  show wpAny _ A.in1 (updateSeq S (fun _=>#[]) >>= _) _ _ _
  refine z4 (Be hS1 rfl (z4 (BQ (Ac ?_))));exact k v _ t1 (by rw[<-e];exact pv) fun b o b1 b2 z=>(Heap.get?_update_other _ _ (AK b2)).trans (k1 b o b1 z)
 | succ m ih =>
  intro j s v c e st pv hS k;refine BP F.entry_max_loop ?_;rw[Bi Bo _]
  show wpAny _ A.in1 (seqItems? (.ref S) >>= _) _ _ s
  refine z4 (A1 hS rfl ?_)
  show wpAny _ A.in1 (tryCatch (pyNext (.ref I)) _ >>= _) _ _ s
  refine z4 (wpAny_tryCatch (W.item (j+1) s _ _ (by omega) st fun u h1 t1 pu st1 k1=>?_));have hS1:=k1 S _ nW hS
  show wpAny _ A.in1 (tryCatch (holding [u,u] (richCompare .Gt u v >>= _)) _ >>= _) _ _ _
  refine z4 (wpAny_tryCatch (Bh (z4 (cmp (j+1) (argBest bt j) u v _ _ _ pu pv ?_))));refine z4 (Bh (AZ ?_));refine z4 (BQ (Ac ?_))
  cases q:bt (j+1) (argBest bt j) with
  | true =>
   simp only[if_true];refine z4 (Be hS1 rfl (z4 (BQ ?_)));rw[nm];refine Ac ⟨Bv Bo _,ih (j+1) _ u _ (by omega) (W.frame _ _ _ st1 fun b hb o z=>(Heap.get?_update_other _ _ (fun y:S=b=>nS (by rw[y];exact hb))).trans z) (by simp only[argBest,q,if_true];exact pu) (Heap.get?_update_self _ hS1 rfl) fun u2 h2 t2 p2 k2=>?_⟩;exact k u2 h2 t2 p2 fun b o b1 b2 z=>k2 b o b1 b2 ((Heap.get?_update_other _ _ (AK b2)).trans (k1 b o b1 z))
  | false =>
   simp only[Bs,if_false];refine z4 (BQ ?_);rw[nm];refine Ac ⟨Bv Bo _,ih (j+1) _ v c (by omega) st1 (by simp only[argBest,q,Bs,if_false];exact pv) hS1 fun u2 h2 t2 p2 k2=>?_⟩;exact k u2 h2 t2 p2 fun b o b1 b2 z=>k2 b o b1 b2 (k1 b o b1 z)
theorem qc (W:Walks prog w A.in1 I fp wr n P St)(bt:Nat->Nat->Bool)(cmp:CmpOf prog w A.in1 .Gt P bt)(d:Value)(S:Addr)(nS:S∉fp){s:Shared}{c:Nat}(st:St 0 s.heap)
  (hS:s.heap.get? S=some { cls:=.type "list",dict:=none,data:=.seq #[] c,slots:=#[] })
  (k0:n=0->∀ h' tk,(∀ b o,b∉wr->b≠S->s.heap.get? b=some o->h'.get? b=some o)->R (.ok (.ret d)) { s with heap:=h',toks:=tk })
  (k:0<n->∀ u h' tk,P (argBest bt (n-1)) u->(∀ b o,b∉wr->b≠S->s.heap.get? b=some o->h'.get? b=some o)->R (.ok (.ret u)) { s with heap:=h',toks:=tk }):codeAny (model prog w) A (xz I S d) R s:=by
 have nW:S∉wr:=fun z=>nS (W.sub _ z)
 have nm:(toString "max"++toString ".loop" : String)="max.loop":=by decide
 refine BP F.entry_max_loop ?_;rw[Bi Bo _]
 show wpAny _ A.in1 (seqItems? (.ref S) >>= _) _ _ s
 refine z4 (A1 hS rfl ?_)
 show wpAny _ A.in1 (tryCatch (pyNext (.ref I)) _ >>= _) _ _ s
 by_cases n0:n=0
 ·refine z4 (wpAny_tryCatch (W.done s _ _ (n0▸st) fun h1 t1 k1=>?_))
  exact z4 (wpAny_rule (Ac (k0 n0 _ t1 fun b o b1 b2 z=>k1 b o b1 z)))
 ·refine z4 (wpAny_tryCatch (W.item 0 s _ _ (by omega) st fun u h1 t1 pu st1 k1=>?_))
  have hS1:=k1 S _ nW hS
  show wpAny _ A.in1 (updateSeq S (fun _=>#[u,u]) >>= _) _ _ _
  refine z4 (Be hS1 rfl ?_);rw[nm];refine Ac ⟨Bv Bo _,sf W bt cmp d S nS (n-1) 0 _ u _ (by omega) (W.frame _ _ _ st1 fun b hb o z=>(Heap.get?_update_other _ _ (fun y:S=b=>nS (by rw[y];exact hb))).trans z) pu (Heap.get?_update_self _ hS1 rfl) fun u2 h2 t2 p2 k2=>?_⟩;exact k (by omega) u2 h2 t2 p2 fun b o b1 b2 z=>k2 b o b1 b2 ((Heap.get?_update_other _ _ (AK b2)).trans (k1 b o b1 z))
end
theorem sP (a d:Value):checkBuiltinCall "max" ⟨[a],[("default",d)]⟩=pure ():=by kernel_rfl
section
variable {prog:Program}{w:World}{A:Around}{E:Value->Shared->Prop}{s:Shared}
theorem rJ {x d:Value}{Q:Value->Shared->Prop}
  (h:wpAny (model prog w) A.in1 (pyIter x) (fun it s2=>∃ I fp wr n P St bt,it=.ref I/\Walks prog w A.in1 I fp wr n P St/\St 0 s2.heap/\(∀ b∈fp,b<s2.heap.objs.size)/\CmpOf prog w A.in1 .Gt P bt /\
   (n=0->∀ h' tk,(∀ b o,b∉wr->s2.heap.get? b=some o->h'.get? b=some o)->Q d { s2 with heap:=h',toks:=tk }) /\
   (0<n->∀ v h' tk,P (argBest bt (n-1)) v->(∀ b o,b∉wr->s2.heap.get? b=some o->h'.get? b=some o)->Q v { s2 with heap:=h',toks:=tk })) E s) :
  wpAny (model prog w) A (call (.builtin "max") [x] [("default",d)]) Q E s:=by
 have nm:(toString "max"++toString ".loop" : String)="max.loop":=by decide
 refine wpAny_call (codeAny_call_builtin F.plain_max F.entry_max (wpAny_of_eq (sP x d) ?_))
 show wpAny _ A.in1 (Builtin.Builtins.bindParams "max" ["key","default"] 0 ⟨[],[("default",d)]⟩ >>= _) _ _ s
 refine z4 (wpAny_of_eq (show Builtin.Builtins.bindParams "max" ["key","default"] 0 ⟨[],[("default",d)]⟩=pure [none,some d] from rfl) ?_);refine z4 (Ac (z4 (AA h (fun it s2 h2=>?_) fun _ _ e=>e)));obtain⟨I,fp,wr,n,P,St,bt,rfl,W,st,lt,cmp,k0,k⟩:=h2;refine z4 (A0 ?_);have nS:s2.heap.objs.size∉fp:=fun z=>Bu _ (lt _ z);rw[nm];refine Ac ⟨Bv Bo _,qc W bt cmp d s2.heap.objs.size nS (W.frame _ _ _ st fun b _ o e=>Heap.get?_push_of_some _ e) (Heap.get?_push_size _ rfl) (fun n0 h' tk hk=>?_) fun n0 v h' tk pv hk=>?_⟩
 ·exact k0 n0 h' tk fun b o b1 e=>hk b o b1 (Al (Aa e)) (Heap.get?_push_of_some _ e)
 ·exact k n0 v h' tk pv fun b o b1 e=>hk b o b1 (Al (Aa e)) (Heap.get?_push_of_some _ e)
end
def xW (K:PySem.W.Frag)(ta:TA)(d:Int):TE:=fun σ H Q=>ta σ H fun vs H1=>∃ (l:Addr)(ns:List Int),vs=[.ref l]/\aR K H1 l (ns.map V.int)/\(ns=[]->Q (.int d) H1)/\∀ M,M∈ns->(∀ a∈ns,a<=M)->Q (.int M) H1
theorem vb {X:Cx}{a:Expr}{ta:TA}{d:Int}{p pos cp kp:Pos}{cj:Nat}(hc:X.calm=true)(hg:Gl X "max")(hm:X.mg "max" = none)(ha:PA X [a] ta)
  (he:backTo pos (starEach [a] X.env)=(false,eval a X.env)::backTo pos (starEach [] X.env):=by rfl) (hplain:(backTo pos (starEach [a] X.env)).any (·.1)=false:=by rfl)
  (hall:(backToKw pos (keywordEach [⟨some "default",.Constant (.int d) cj cp,kp⟩] X.env)).all (·.1.isSome)=true:=by rfl) (hkw:(backToKw pos (keywordEach [⟨some "default",.Constant (.int d) cj cp,kp⟩] X.env)).any (·.1.isNone)=false:=by rfl) :
  PE X (.Call (.Name "max" p) [a] [⟨some "default",.Constant (.int d) cj cp,kp⟩] pos) (xW X.K ta d):=by
 intro pins s σ H Q I h;refine AV (dD I hg hm boot_max ?_ (by decide) (by decide));refine callWith_kw (bf (ha pos pins s σ H _ I h) fun us s1 ⟨vs,H1,I1,r1,l,ns,e1,hq,q0,q⟩=>?_) he hplain hall hkw;subst e1;obtain⟨u,rfl,rx⟩:=fY r1;cases rx;refine kws_cons (wpAny_Constant_int (kws_nil ?_));have I2:az X pins σ H1 { s1 with toks:=s1.toks+1 }:=I1.tok _;obtain⟨its,rv,pl,hz⟩:=I2.list hq;have hl:=rv.length;rw[z9]at hl
 show wpAny _ _ (call (.builtin "max") [.ref l] [("default",.int d s1.toks)]) _ _ _
 refine rJ (jK (xs:=ns.map V.int) I2 (I2.ok.hd hc) pl fun I' St s2 hs2 hI W st kp fin=>?_)
 have val:∀ (i:Nat)(v:Value),its.toArray[i]? = some v->∃ t,v=.int (ns.getD i 0) t:=fun i v e=>by
  have e:its[i]? = some v:=by simpa using e
  have hi:i<ns.length:=by have:=(List.getElem?_eq_some_iff.mp e).1;omega
  obtain⟨u,eu,ru⟩:=rv.get (i:=i) (x:=V.int ns[i]) (by rw[List.getElem?_map,List.getElem?_eq_getElem hi];rfl);rw[e]at eu;cases eu;obtain⟨t,rfl⟩:=ru;exact⟨t,by rw[List.getD_eq_getElem?_getD,List.getElem?_eq_getElem hi];rfl⟩
 have hlt:l<s1.heap.objs.size:=by obtain⟨o,n,e,_⟩:=pl;exact Aa e
 refine⟨I',_,_,_,_,St,_,rfl,W,st,fun b hb=>?_,CmpOf.ints_gt (fun i=>ns.getD i 0) val,fun n0 h' tk k=>?_,fun n0 v h' tk hv k=>?_⟩
 ·rcases Aq.mp hb with z | z
  ·rw[z,hI,hs2];exact BF _
  ·rw[Ap.mp z,hs2];exact BB hlt
 ·exact⟨.int d,H1,fin h' tk k,⟨_,rfl⟩,q0 (List.eq_nil_of_length_eq_zero (by omega))⟩
 ·obtain⟨t,rfl⟩:=val _ _ hv
  obtain⟨h1,h2⟩:=argBest_gt (fun i=>ns.getD i 0) (its.length-1);refine⟨.int _,H1,fin h' tk k,⟨t,rfl⟩,q _ ?_ fun a ha=>?_⟩
  ·rw[List.getD_eq_getElem?_getD,List.getElem?_eq_getElem (by omega)];exact List.getElem_mem _
  ·obtain⟨j,hj⟩:=List.getElem?_of_mem ha
   have hjl:j<ns.length:=(List.getElem?_eq_some_iff.mp hj).1;have:=h2 j (by omega);rw[show ns.getD j 0=a by rw[List.getD_eq_getElem?_getD,hj];rfl]at this;exact this
theorem i9 {P:Program}{w:World}{K:PySem.W.Frag}{mg:Str->Option Value}{base:Heap}{CX:pJ}{k:Nat}{f:Addr}{fd:FuncData}{ps:List Str}{sp:Sp}(no:∀ vs H Q E,¬ sp vs H Q E):bp P w K mg base CX k f fd ps sp :=
 ⟨fun vs H Q E h=>(no vs H Q E h).elim,fun A outer s H args us vs Q E hr e0 hb r h=>(no vs H Q E h).elim⟩
def y0 (te:TE):TE:=fun σ H Q=>te σ H fun x H1=>∃ z:Str,x=.str z/\z.length<=1000/\∀ y:Str,y.length<=1000->Q (.str y) H1
theorem tP {X:Cx}{e:Expr}{te:TE}{pos:Pos}(he:PE X e te):PE X (.FormattedValue e (-1) none pos) (y0 te):=by
 intro pins s σ H Q I h;refine FormattedValue_plain (bf (he pins s σ H _ I h) fun u s1 ⟨x,H1,I1,rx,z,ex,hz,q⟩=>?_);subst ex;obtain⟨tk,rfl⟩:=rx;have sl:sizeLine=16777216:=AQ;exact wpAny_formatField_str ⟨.str z,H1,I1,⟨_,rfl⟩,q z hz⟩ ⟨.str z,H1,I1.tok _,⟨_,rfl⟩,q z hz⟩ (by omega)
theorem ou {X:Cx}(hc:X.calm=true):eI X (.type "list") (fun xs H Q=>∃ (p:Addr)(kvs:List (cv×V))(ns:List Str),xs=[.ref p]/\H p=some (.dK kvs)/\kvs.map (·.1)=ns.map Sum.inr/\∀ l,H l=none->Q (.ref l) (aD H l (.lst (ns.map V.str)))):=by
 intro pins s σ H xs us Q I r h;obtain⟨p,kvs,ns,rfl,hH,hk,q⟩:=h;obtain⟨u,rfl,rx⟩:=fY r;cases rx;obtain⟨hz,lo,vs,rel,dd⟩:=(show bv X.prog X.w H s.heap p (.dK kvs) from I.hok p _ hH);obtain⟨ep,hat⟩:=dd.dictAt
 have hlk:kvs.length=ns.length:=by have:=A3 List.length hk;simpa using this
 have hlv:kvs.length=vs.length:=Ao rel;refine PySem.W.kdl_call (PySem.W.kdl_dict (knd:=bZ X.prog X.w) (kvs:=vs) (ep:=ep) lo) (I.ok.hd hc) hat (by rw[<-hlv];exact hz) fun h' tk acc c' kp e hacc=>?_
 have hal:acc.toList.length=vs.length:=by rw[Bj];exact hacc.1
 have rI:Vals (ns.map V.str) acc.toList:=kX (by rw[z9,hal];omega) fun i x v e1 e2=>by
  obtain⟨k,y,hx,hks⟩:=hacc.2 i v (by rw[<-Array.getElem?_toList];exact e2)
  have e3:(vs.map (·.1))[i]? = some k:=by rw[List.getElem?_map,hx];rfl
  rw[<-rel.keys,hk,List.getElem?_map]at e3;rw[List.getElem?_map]at e1
  cases en:ns[i]? with
  | none=>rw[en]at e1;cases e1
  | some n =>
   rw[en]at e1 e3;have e1':V.str n=x:=At e1;subst e1';have e4:(Sum.inr n:cv)=k:=At e3;subst e4;have hks:Value.isStrOf n v=true:=hks
   cases v<;>first
    | (have hks:=eq_of_beq hks;subst hks;exact⟨_,rfl⟩)
    | (cases hks;done)
 refine⟨.ref s.heap.objs.size,_,I.laid (t':=tk) kp (Ad _) (show bv X.prog X.w _ h' _ (.lst (ns.map V.str)) from ⟨by rw[z9,<-hlk];exact hz,acc.toList,c',rI,by simpa using e⟩),rfl,q _ (I.hok.fresh (Ad _))⟩
section
variable {X:Cx}
open Classical in
theorem sk (n:Nat)(hu:X.A.units+n<cLine):iT X (compareOp .NotIn) (xL X.K n true):=by
 intro pins s σ H x y v u Q I rx ry h;obtain⟨p,as,d,ds,rfl,hq,hx,hp,q⟩:=h;cases ry
 have hu':X.A.in1.units+n<cLine+1:=by show X.A.units+1+n<cLine+1;omega
 rcases hq with hq | hq
 ·obtain⟨its,r,pl,hz⟩:=I.list hq
  obtain⟨h1,h2⟩:=nc I hu' rx hx hp r;refine SeqAt.notIn_listAt _ pl.isList (fun w hw=>h1 w (by simpa using hw)) ⟨.bl _,H,I,rfl,?_⟩;rw[List.any_toArray];exact q _ h2
 ·obtain⟨its,r,pl,hz⟩:=I.tuple hq
  obtain⟨h1,h2⟩:=nc I hu' rx hx hp r;refine SeqAt.notIn_tupleAt _ pl (fun w hw=>h1 w (by simpa using hw)) ⟨.bl _,H,I,rfl,?_⟩;rw[List.any_toArray];exact q _ h2
open Classical in
theorem qI {pins:List (Addr×Obj)}{σ:St}{H:Hp}{s:Shared}{n:Nat}(I:az X pins σ H s){d:Dt}(e:Value->Bool)(he:∀ a:Addr,e (.ref a)=true↔RD X.K H n (.ref a) d) :
  ∀ {as:List Addr}{ds:List Dt}{us:List Value},Paired (fun (a:Addr)(e:Dt)=>RD X.K H n (.ref a) e) as ds->Vals (as.map V.ref) us->us.countP e=ds.countP (fun x=>decide (x=d))
 | _,_,us,.nil,r=>by cases r;rfl
 | a::as,c::ds,us,.cons hc hp,r=>by
  cases r with
  | cons r1 r2 =>
   cases r1;rw[List.countP_cons,List.countP_cons,qI I e he hp r2]
   congr 1
   by_cases z:c=d
   ·rw[Ai ((he a).mpr (z▸hc)),Ai (Af z)]
   ·rw[Ag (fun q=>z (RD.inj I hc ((he a).mp q))),Ag (fun q=>z (A9 q))]
def yY (K:PySem.W.Frag)(n:Nat)(to te:TE):TE:=fun σ H Q=>to σ H fun x H1=>∃ p:Addr,x=.ref p/\(∃ xs,H1 p=some (.tup xs))/\te σ H1 fun y H2=>∃ (as:List Addr)(d:Dt)(ds:List Dt),H2 p=some (.tup (as.map V.ref))/\RD K H2 n y d/\Paired (fun (a:Addr)(e:Dt)=>RD K H2 n (.ref a) e) as ds/\∀ c:Nat,(∀ f:Dt->Bool,(∀ x,f x=true↔x=d)->c=ds.countP f)->Q (.int c) H2
open Classical in
theorem wD (K:PySem.W.Frag)(n:Nat){o e:Expr}{to te:TE}{apos cpos:Pos}(hu:X.A.units+n<cLine)(ho:PE X o to)(he:PE X e te)(hK:X.K=K:=by rfl)(hbase:attributeBase o "count" X.env (eval o X.env)=eval o X.env:=by rfl)
  (hfew:((backTo cpos (starEach [e] X.env)).all (fun x=>!x.1)&&(backToKw cpos (keywordEach [] X.env)).all (fun x=>x.1.isSome)&&decide ([e].length+([]:List Keyword).length+(if ([]:List Keyword).isEmpty then 0 else 1)<30))=true:=by rfl)
  (hline:(apos.endLine == cpos.line)=true:=by rfl) (hs:starEach [e] X.env=(false,eval e X.env)::starEach [] X.env:=by rfl) (hplain:(backTo cpos (starEach [] X.env)).any (·.1)=false:=by rfl) :
  PE X (.Call (.Attribute o "count" apos) [e] [] cpos) (yY K n to te):=by
 subst hK;intro pins s σ H Q I h;refine wpAny_Call_method_late hbase hfew hline rfl (bf (ho pins s σ H _ I h) fun v s1 ⟨x,H1,I1,r1,p,ex,⟨xs,hp⟩,q1⟩=>?_);subst ex;cases r1;obtain⟨_,_,_,ob,e1,c1,m1,d1⟩:=(show bv X.prog X.w H1 s1.heap p (.tup xs) from I1.hok p _ hp);refine⟨"tuple","tuple.count",PySem.F.plainAttrs_tuple,PySem.F.slot_tuple_count,PySem.F.type_tuple_count,⟨ob,e1,c1⟩,fun a z=>?_,?_⟩
 ·cases z;exact⟨ob,e1,(Prod.mk.inj d1).2⟩
 rw[hs];refine Calls.callWith_builtin (by show (false||(backTo cpos (starEach [] X.env)).any (·.1))=false;rw[hplain]<;>rfl) (Calls.evalArgs_plain ?_);have hA:=aA he aT hs cpos pins s1 σ H1 (fun vs H2=>match vs with | [y]=>(∃ (as:List Addr)(d:Dt)(ds:List Dt),H2 p=some (.tup (as.map V.ref))/\RD X.K H2 n y d/\Paired (fun (a:Addr)(e:Dt)=>RD X.K H2 n (.ref a) e) as ds/\∀ c:Nat,(∀ f:Dt->Bool,(∀ x,f x=true↔x=d)->c=ds.countP f)->Q (.int c) H2) | _=>False) I1 ?_
 ·rw[hs]at hA
  refine bf hA fun us s2 ⟨vs,H2,I2,r2,q0⟩=>?_
  obtain⟨y,rfl⟩:∃ y,vs=[y]:=by
   match vs,q0 with
   | [y],_=>exact⟨y,rfl⟩
   | [],q=>exact q.elim
   | _::_::_,q=>exact q.elim
  obtain⟨as,d,ds,hp2,hy,hpr,q⟩:=q0;obtain⟨u,rfl,ru⟩:=fY r2;obtain⟨its,r,pl,hz⟩:=I2.tuple (aG.of hp2)
  have hu':X.A.in1.units+n<cLine+1:=by show X.A.units+1+n<cLine+1;omega
  obtain⟨h1,h2⟩:=nc I2 hu' ru hy hpr r;have pl:s2.heap.IsTuple p its.toArray:=pl;obtain⟨⟨cls,dd,data,sl⟩,hoo,hcc,m,hdd⟩:=id pl;simp only at hcc hdd;subst hcc hdd;have e2:=qI I2 (fun u=>decide (∃ a,u=.ref a/\RD X.K H2 n (.ref a) d)) (fun a=>by rw[decide_eq_true_eq];exact⟨fun ⟨b,eb,hb⟩=>by cases eb;exact hb,fun h=>⟨a,rfl,h⟩⟩) hpr r;refine call_meets F.slot_tuple_count ⟨_,hoo,rfl⟩ F.entry_tuple_count (F.args_tuple_count_2 _ _) (SeqAt.tuple_countAt p its.toArray m dd sl u (fun u=>decide (∃ a,u=.ref a/\RD X.K H2 n (.ref a) d))) ⟨hoo,fun w hw=>h1 w (by simpa using hw),?_⟩;refine⟨.int (its.toArray.toList.countP (fun u=>decide (∃ a,u=.ref a/\RD X.K H2 n (.ref a) d)):Nat),H2,I2.tok _,⟨_,rfl⟩,q _ fun f hf=>?_⟩
  show its.countP _=_
  rw[e2]
  exact List.countP_congr fun x _=>by rw[decide_eq_true_eq,hf]
 ·show te σ H1 _
  exact q1
end
end L2
namespace Wz
open PySem L2
inductive ai where
 | pl (f:aL)
 | row (fs:List ai)
 | back (f:ai)
 | name (w:Str)
def ai.word:ai->Str
 | .pl f=>f.word
 | .row _=>"row"
 | .back _=>"back"
 | .name _=>"name"
def aL.dt:aL->Dt
 | .pair a b=>.sq true [.at (.str "pair"),.at (.int a),.at (.int b)]
 | f=>.sq true [.at (.str f.word),.sq true (f.gs.map fun g=>.at (.int g))]
mutual
def ai.dt:ai->Dt
 | .pl f=>f.dt
 | .row fs=>.sq true [.at (.str "row"),.sq true (ai.dtL fs)]
 | .back f=>.sq true [.at (.str "back"),f.dt]
 | .name w=>.sq true [.at (.str "name"),.at (.str w)]
def ai.dtL:List ai->List Dt
 | []=>[]
 | f::fs=>f.dt::ai.dtL fs
end
mutual
def ai.names:ai->List Str
 | .pl _=>[]
 | .row fs=>ai.namesL fs
 | .back f=>f.names
 | .name w=>[w]
def ai.namesL:List ai->List Str
 | []=>[]
 | f::fs=>f.names++ai.namesL fs
end
mutual
def ai.len (e:Str->Nat):ai->Nat
 | .pl f=>f.row.length
 | .row fs=>ai.lenL e fs
 | .back f=>f.len e
 | .name w=>e w
def ai.lenL (e:Str->Nat):List ai->Nat
 | []=>0
 | f::fs=>f.len e+ai.lenL e fs
end
mutual
def ai.rowF (e:Str->List (Int×Int)):ai->List (Int×Int)
 | .pl f=>f.row
 | .row fs=>ai.rowL e fs
 | .back f=>(f.rowF e).reverse
 | .name w=>e w
def ai.rowL (e:Str->List (Int×Int)):List ai->List (Int×Int)
 | []=>[]
 | f::fs=>f.rowF e++ai.rowL e fs
end
def aN:Nat->Hp->Addr->ai->Prop
 | 0,_,_,_=>False
 | _+1,H,p,.pl f=>fW H p f/\f.Ok
 | _+1,H,p,.name w=>H p=some (.tup [.str "name",.str w])/\w.length<=100
 | n+1,H,p,.back f=>∃ q,H p=some (.tup [.str "back",.ref q])/\aN n H q f
 | n+1,H,p,.row fs=>∃ t as,H p=some (.tup [.str "row",.ref t])/\H t=some (.tup (as.map V.ref))/\fs.length<=100/\Paired (aN n H) as fs
theorem aN.mono {H H':Hp}(s:∀ b xs,H b=some (.tup xs)->H' b=some (.tup xs)):∀ {n:Nat}{p:Addr}{f:ai},aN n H p f->aN n H' p f
 | 0,_,_,h=>h
 | n+1,p,.pl f,h=>by
  refine⟨?_,h.2⟩;have h:=h.1
  cases f with
  | pair a b=>exact s _ _ h
  | _=>obtain⟨q,e1,e2⟩:=h;exact⟨q,s _ _ e1,s _ _ e2⟩
 | n+1,p,.name w,h=>⟨s _ _ h.1,h.2⟩
 | n+1,p,.back f,h=>by
  obtain⟨q,e1,e2⟩:=h;exact⟨q,s _ _ e1,aN.mono s e2⟩
 | n+1,p,.row fs,h=>by
  obtain⟨t,as,e1,e2,hl,e3⟩:=h;exact⟨t,as,s _ _ e1,s _ _ e2,hl,Paired.mapP e3 fun _ _ z=>aN.mono s z⟩
theorem aN.hd {n:Nat}{H:Hp}{p:Addr}{f:ai}(h:aN n H p f):∃ xs,H p=some (.tup (.str f.word::xs)):=by
 cases n with
 | zero=>exact h.elim
 | succ n =>
  cases f with
  | pl f=>exact h.1.hd
  | name w=>exact⟨_,h.1⟩
  | back f=>obtain⟨q,e,_⟩:=h;exact⟨_,e⟩
  | row fs=>obtain⟨t,as,e,_⟩:=h;exact⟨_,e⟩
theorem RD.up {K:PySem.W.Frag}{H:Hp}{n m:Nat}{v:V}{d:Dt}(h:RD K H n v d)(e:n<=m):RD K H m v d:=by
 induction e with
 | refl=>exact h
 | step _ ih=>exact RD.succ ih
theorem sW {K:PySem.W.Frag}{H:Hp}{p:Addr}{f:aL}(h:fW H p f):RD K H 2 (.ref p) f.dt:=by
 have intsP:∀ (gs:List Int),Paired (RD K H 0) (gs.map V.int) (gs.map fun g=>.at (.int g)):=fun gs=>by
  induction gs with
  | nil=>exact .nil
  | cons g gs ih=>exact .cons ⟨rfl,rfl⟩ ih
 cases f with
 | pair a b=>exact RD.tup (aG.of h) (.cons (RD.flat rfl 1) (.cons (RD.flat rfl 1) (.cons (RD.flat rfl 1) .nil)))
 | _ =>
  obtain⟨q,e1,e2⟩:=h;exact RD.tup (aG.of e1) (.cons (RD.flat rfl 1) (.cons (RD.tup (aG.of e2) (intsP _)) .nil))
theorem aN.rd {K:PySem.W.Frag}{H:Hp}:∀ {n:Nat}{p:Addr}{f:ai},aN n H p f->RD K H (2*n) (.ref p) f.dt
 | 0,_,_,h=>h.elim
 | n+1,p,.pl f,h=>RD.up (show RD K H 2 (.ref p) (ai.pl f).dt by rw[ai.dt];exact sW h.1) (by omega)
 | n+1,p,.name w,h=>RD.up (n:=1) (by rw[ai.dt];exact RD.tup (aG.of h.1) (.cons (RD.flat rfl 0) (.cons (RD.flat rfl 0) .nil))) (by omega)
 | n+1,p,.back f,h=>by
  obtain⟨q,e1,e2⟩:=h;refine RD.up (n:=2*n+1) ?_ (by omega);rw[ai.dt];exact RD.tup (aG.of e1) (.cons (RD.flat rfl _) (.cons (aN.rd e2) .nil))
 | n+1,p,.row fs,h=>by
  obtain⟨t,as,e1,e2,_,e3⟩:=h;refine RD.up (n:=2*n+2) ?_ (by omega);rw[ai.dt];refine RD.tup (aG.of e1) (.cons (RD.flat rfl _) (.cons (RD.tup (aG.of e2) ?_) .nil))
  have key:∀ {as:List Addr}{fs:List ai},Paired (aN n H) as fs->Paired (RD K H (2*n)) (as.map V.ref) (ai.dtL fs):=fun {as fs} pr=>by
   induction pr with
   | nil=>rw[ai.dtL];exact .nil
   | cons a _ ih=>rw[ai.dtL];exact .cons (aN.rd a) ih
  exact key e3
theorem qQ:∀ fs:List ai,ai.dtL fs=fs.map ai.dt
 | []=>by rw[ai.dtL];rfl
 | f::fs=>by rw[ai.dtL,qQ fs];rfl
theorem je (e:Str->Nat):∀ fs:List ai,ai.lenL e fs=(fs.map (ai.len e)).sum
 | []=>by rw[ai.lenL];rfl
 | f::fs=>by rw[ai.lenL,je e fs];rfl
theorem fJ:∀ fs:List ai,ai.namesL fs=fs.flatMap ai.names
 | []=>by rw[ai.namesL];rfl
 | f::fs=>by rw[ai.namesL,fJ fs];rfl
theorem gG (e:Str->List (Int×Int)):∀ fs:List ai,ai.rowL e fs=fs.flatMap (ai.rowF e)
 | []=>by rw[ai.rowL];rfl
 | f::fs=>by rw[ai.rowL,gG e fs];rfl
theorem aL.dt_hd (f:aL):∃ t,f.dt=.sq true (.at (.str f.word)::t):=by cases f<;>exact⟨_,rfl⟩
theorem ai.dt_hd (f:ai):∃ t,f.dt=.sq true (.at (.str f.word)::t):=by
 cases f with
 | pl f=>obtain⟨t,e⟩:=f.dt_hd;exact⟨t,by rw[ai.dt];exact e⟩
 | row fs=>exact⟨_,by rw[ai.dt];rfl⟩
 | back f=>exact⟨_,by rw[ai.dt];rfl⟩
 | name w=>exact⟨_,by rw[ai.dt];rfl⟩
theorem ai.dt_word {f g:ai}(h:f.dt=g.dt):f.word=g.word:=by
 obtain⟨t,e⟩:=f.dt_hd;obtain⟨u,e2⟩:=g.dt_hd;rw[e,e2]at h;injection h with _ h;injection h with h _;injection h with h;exact V.str.inj h
theorem ls:∀ {a b:List Int},(a.map fun g=>Dt.at (.int g))=(b.map fun g=>Dt.at (.int g))->a=b
 | [],[],_=>rfl
 | [],_::_,h=>by cases h
 | _::_,[],h=>by cases h
 | x::a,y::b,h=>by
  rw[Az,Az]at h;injection h with h1 h2;injection h1 with h1;rw[V.int.inj h1,ls h2]
theorem aL.dt_inj {f g:aL}(h:f.dt=g.dt):f=g:=by
 obtain⟨t,e⟩:=f.dt_hd;obtain⟨u,e2⟩:=g.dt_hd
 have hw:f.word=g.word:=by
  have h2:=h;rw[e,e2]at h2;injection h2 with _ h2;injection h2 with h2 _;injection h2 with h2;exact V.str.inj h2
 have ne:∀ {a b:Str},a=b->a≠b->False:=fun h n=>n h
 cases f<;>cases g<;>first
  | (dsimp only[aL.word]at hw;exact (ne hw (by decide +kernel)).elim)
  | (simp only[aL.dt,aL.gs]at h
     injection h with _ h;injection h with _ h;injection h with h h2
     first
    | (injection h with h;injection h2 with h2 _;injection h2 with h2;rw[V.int.inj h,V.int.inj h2];done)
    | (injection h with _ h;rw[ls h];done)
    | (injection h with _ h;have h:=ls h;injection h with h1 h;injection h with h2 h;injection h with h3 h;injection h with h4 h;subst h1 h2 h3 h4;rfl))
mutual
theorem ai.dt_inj:∀ (f g:ai),f.dt=g.dt->f=g
 | .pl f,g,h=>by
  have w:=ai.dt_word h
  cases g with
  | pl g=>rw[ai.dt,ai.dt]at h;rw[aL.dt_inj h]
  | row _=>exact absurd w f.nw.2.1
  | back _=>exact absurd w f.nw.1
  | name _=>exact absurd w f.nw.2.2
 | .row fs,g,h=>by
  have w:=ai.dt_word h
  cases g with
  | pl g=>exact absurd w.symm g.nw.2.1
  | row gs =>
   rw[ai.dt,ai.dt]at h;injection h with _ h;injection h with _ h;injection h with h _;injection h with _ h;rw[ai.dtL_inj fs gs h]
  | back _=>exact absurd (show ("row" : Str)="back" from w) (by decide +kernel)
  | name _=>exact absurd (show ("row" : Str)="name" from w) (by decide +kernel)
 | .back f,g,h=>by
  have w:=ai.dt_word h
  cases g with
  | pl g=>exact absurd w.symm g.nw.1
  | row gs=>exact absurd (show ("back" : Str)="row" from w) (by decide +kernel)
  | back g =>
   rw[ai.dt,ai.dt]at h;injection h with _ h;injection h with _ h;injection h with h _;rw[ai.dt_inj f g h]
  | name _=>exact absurd (show ("back" : Str)="name" from w) (by decide +kernel)
 | .name z,g,h=>by
  have w:=ai.dt_word h
  cases g with
  | pl g=>exact absurd w.symm g.nw.2.2
  | row gs=>exact absurd (show ("name" : Str)="row" from w) (by decide +kernel)
  | back g=>exact absurd (show ("name" : Str)="back" from w) (by decide +kernel)
  | name y =>
   rw[ai.dt,ai.dt]at h;injection h with _ h;injection h with _ h;injection h with h _;injection h with h;rw[V.str.inj h]
theorem ai.dtL_inj:∀ (fs gs:List ai),ai.dtL fs=ai.dtL gs->fs=gs
 | [],[],_=>rfl
 | [],_::_,h=>by rw[ai.dtL,ai.dtL]at h;cases h
 | _::_,[],h=>by rw[ai.dtL,ai.dtL]at h;cases h
 | f::fs,g::gs,h=>by
  rw[ai.dtL,ai.dtL]at h;injection h with h1 h2;rw[ai.dt_inj f g h1,ai.dtL_inj fs gs h2]
end
open Classical in
noncomputable def likeStep (acc:List ai) (f:ai):List ai:=if f∈acc then acc else acc++[f]
open Classical in
noncomputable def once (fs:List ai):List ai:=fs.foldl likeStep []
open Classical in
theorem lM:∀ (fs acc:List ai),acc.Nodup->(fs.foldl likeStep acc).Nodup/\(∀ f,f∈fs.foldl likeStep acc↔f∈acc\/f∈fs)
 | [],acc,h=>⟨h,fun f=>by simp⟩
 | g::fs,acc,h=>by
  rw[List.foldl_cons]
  have st:(likeStep acc g).Nodup/\∀ f,f∈likeStep acc g↔f∈acc\/f=g:=by
   unfold likeStep;split
   ·rename_i m
    exact⟨h,fun f=>⟨.inl,fun z=>z.elim id fun e=>e▸m⟩⟩
   ·rename_i m
    refine⟨BC.mpr ⟨h,by simp,fun a ha b hb e=>m (by rw[Ap.mp hb]at e;exact e▸ha)⟩,fun f=>by simp⟩
  obtain⟨i1,i2⟩:=lM fs (likeStep acc g) st.1;refine⟨i1,fun f=>?_⟩;rw[i2,st.2,Aq];constructor
  ·rintro ((a | a) | a)
   ·exact .inl a
   ·exact .inr (.inl a)
   ·exact .inr (.inr a)
  ·rintro (a | a | a)
   ·exact .inl (.inl a)
   ·exact .inl (.inr a)
   ·exact .inr a
theorem u8 (fs:List ai):(once fs).Nodup:=(lM fs [] BU).1
theorem jm {fs:List ai}{f:ai}:f∈once fs↔f∈fs:=by
 have:=(lM fs [] BU).2 f;unfold once;simpa using this
open Classical in
theorem qV (len:ai->Nat)(f:ai):∀ us:List ai,us.Nodup->(us.map fun u=>(if f=u then 1 else 0)*len u).sum=if f∈us then len f else 0
 | [],_=>rfl
 | u::us,h=>by
  have nd:=Bb.mp h;rw[Az,Bx,qV len f us nd.2]
  by_cases e:f=u
  ·subst e
   rw[Ai rfl,Ag nd.1,Ai Am];omega
  ·rw[Ag e]
   by_cases m:f∈us
   ·rw[Ai m,Ai (Ak _ m)];omega
   ·rw[Ag m,Ag (fun z=>(Aq.mp z).elim e m)];omega
open Classical in
theorem mP (len:ai->Nat){us:List ai}(nd:us.Nodup):∀ fs:List ai,(∀ f∈fs,f∈us)->(us.map fun u=>fs.countP (fun f=>decide (f=u))*len u).sum=(fs.map len).sum
 | [],_=>by
  have:∀ us:List ai,(us.map fun u=>([]:List ai).countP (fun f=>decide (f=u))*len u).sum=0:=fun us=>by
   induction us with
   | nil=>rfl
   | cons u us ih=>rw[Az,Bx,ih];simp
  rw[this];rfl
 | f::fs,h=>by
  have ih:=mP len nd fs fun g hg=>h g (Ak _ hg);have hs:=qV len f us nd;rw[Ai (h f Am)]at hs
  have e:(us.map fun u=>(f::fs).countP (fun f=>decide (f=u))*len u)=us.map fun u=>fs.countP (fun f=>decide (f=u))*len u+(if f=u then 1 else 0)*len u:=by
   refine List.map_congr_left fun u _=>?_;rw[List.countP_cons,Nat.add_mul]
   by_cases z:f=u
   ·rw[Ai z,Ai (Af z)]
   ·rw[Ag z,Ag (fun q=>z (A9 q))]
  have add:∀ (us:List ai)(a b:ai->Nat),(us.map fun u=>a u+b u).sum=(us.map a).sum+(us.map b).sum:=fun us a b=>by
   induction us with
   | nil=>rfl
   | cons u us i2=>rw[Az,Az,Az,Bx,Bx,Bx,i2];omega
  rw[e,add,ih,hs,Az,Bx];omega
def eQ (c:Nat):Bool:=decide (97<=c/\c<123)
theorem ww (c:Nat):(!(Builtin.Str.occurrences (Str.ofString "abcdefghijklmnopqrstuvwxyz") ⟨#[c]⟩ 0 (Str.ofString "abcdefghijklmnopqrstuvwxyz").length 1).isEmpty)=eQ c:=by
 rw[StrLaws.found_one]
 have e:(Str.ofString "abcdefghijklmnopqrstuvwxyz").cps.toList=(List.range 26).map (·+97):=by decide +kernel
 rw[e];unfold eQ;rw[decide_eq_decide,AH];constructor
 ·rintro⟨k,hk,rfl⟩
  have:=BD.mp hk;omega
 ·intro h
  exact⟨c-97,BD.mpr (by omega),by omega⟩
def kindsL:List Str:=["pair","line","star","all","quad","row","back","name"]
def iI (z:Str):Bool:=!decide (z∈kindsL)&&decide (1<=z.length/\z.length<=12)&&z.cps.toList.all eQ
theorem kG (z:Str):∀ xs:List Str,uS (V.str z) (xs.map V.str)=decide (z∈xs)
 | []=>rfl
 | x::xs=>by
  have ih:=kG z xs;unfold uS at ih ⊢;rw[Az,BI,ih]
  by_cases e:z=x
  ·subst e
   rw[show pV (V.str z) (V.str z)=true by simp[pV],Af Am];rfl
  ·rw[show pV (V.str x) (V.str z)=false by simp[pV];exact fun q=>e q.symm]
   rw[Bool.false_or];exact decide_eq_decide.mpr ⟨fun q=>Ak _ q,fun q=>(Aq.mp q).resolve_left e⟩
theorem jG (xs:List Str):(xs.map V.str).all ir=true:=Bn.mpr fun v hv=>by obtain⟨x,_,rfl⟩:=AH.mp hv;rfl
structure BE where
 w:Str
 f:ai
 n:Nat
 r:List (Int×Int)
 p:Addr
 l:Addr
def iE (bs:List BE)(w:Str):Option BE:=bs.find? fun e=>decide (e.w=w)
def dw (bs:List BE)(w:Str):Nat:=match iE bs w with | some e=>e.n | none=>0
def mj (bs:List BE)(w:Str):List (Int×Int):=match iE bs w with | some e=>e.r | none=>[]
def dF (e:BE):Bool:=decide (e.n<=2000)
theorem db (g:BE->V)(w:Str):∀ bs:List BE,f7 (bs.map fun e=>((Sum.inr e.w:cv),g e)) (Sum.inr w)=(iE bs w).map g
 | []=>rfl
 | e::bs=>by
  have ih:=db g w bs;unfold f7 iE at ih ⊢;rw[Az,List.find?_cons,List.find?_cons]
  by_cases z:e.w=w
  ·rw[show decide ((Sum.inr e.w:cv)=Sum.inr w)=true from Af (by rw[z]),Af z]
   rfl
  ·rw[show decide ((Sum.inr e.w:cv)=Sum.inr w)=false from Ab (fun q=>z (Sum.inr.inj q)),Ab z]
   exact ih
theorem c5 {bs:List BE}{w:Str}{e:BE}(h:iE bs w=some e):e∈bs/\e.w=w:=by
 unfold iE at h;have:=List.find?_some (p:=fun e:BE=>decide (e.w=w)) h;exact⟨List.mem_of_find?_eq_some h,A9 this⟩
theorem cO {bs:List BE}{w:Str}:iE bs w=none↔w∉bs.map (·.w):=by
 unfold iE;rw[List.find?_eq_none];constructor
 ·intro h m
  obtain⟨e,he,rfl⟩:=AH.mp m;exact h e he (Af rfl)
 ·intro h e he q
  exact h (AH.mpr ⟨e,he,A9 q⟩)
theorem rF {bs:List BE}{w:Str}{e:BE}(nd:(bs.map (·.w)).Nodup)(h:iE bs w=some e)(s:e.n<=2000):iE (bs.filter dF) w=some e:=by
 induction bs with
 | nil=>cases h
 | cons x bs ih =>
  have nd2:=Bb.mp (show (x.w::bs.map (·.w)).Nodup from nd);unfold iE at h ih ⊢;rw[List.find?_cons]at h
  by_cases z:x.w=w
  ·rw[Af z]at h
   cases h;rw[List.filter_cons_of_pos (by unfold dF;exact Af s),List.find?_cons,Af z]
  ·rw[Ab z]at h
   rw[List.filter_cons];split
   ·rw[List.find?_cons,Ab z];exact ih nd2.2 h
   ·exact ih nd2.2 h
structure dA (C:Addr)(H:Hp)(b:Addr)(A:BA)(bs:List BE):Prop where
 ob:H b=some (.ins C A.dx (mi (.ref A.d1) (.ref A.d2) (.ref A.d3)))
 f1:H A.d1=some (.dK (bs.map fun e=>(Sum.inr e.w,V.ref e.p)))
 f2:H A.d2=some (.dK (bs.map fun e=>(Sum.inr e.w,V.int e.n)))
 f3:H A.d3=some (.dK ((bs.filter dF).map fun e=>(Sum.inr e.w,V.ref e.l)))
 fg:∀ e∈bs,aN 9 H e.p e.f
 rw:∀ e∈bs,e.n<=2000->bF H e.l e.r/\e.r.length=e.n
 nd:(bs.map (·.w)).Nodup
 ln:bs.length<=100
 d12:A.d1≠A.d2
 d13:A.d1≠A.d3
 d23:A.d2≠A.d3
theorem dA.mono {C:Addr}{H H':Hp}{b:Addr}{A:BA}{bs:List BE}(x:dA C H b A bs)(s:av H H'):dA C H' b A bs :=
 ⟨s _ _ x.ob,s _ _ x.f1,s _ _ x.f2,s _ _ x.f3,fun e he=>(x.fg e he).mono fun _ _ z=>s _ _ z,fun e he h=>⟨(x.rw e he h).1.mono s,(x.rw e he h).2⟩,x.nd,x.ln,x.d12,x.d13,x.d23⟩
theorem pQ {a b c:V}:(mi a b c).lookup ("lengths" : Str)=some b:=by
 rw[<-oq,bu,Ag zB,bu,Ai rfl]
theorem sO {a b c:V}:(mi a b c).lookup ("rows" : Str)=some c:=by
 rw[<-oq,bu,Ai rfl]
def aM (bs:List BE)(f:ai):Prop:=∀ w∈f.names,w∈bs.map (·.w)
theorem aN.rds {K:PySem.W.Frag}{H:Hp}{n:Nat}{as:List Addr}{fs:List ai}(hn:n<=9)(h:Paired (aN n H) as fs):Paired (fun (a:Addr)(e:Dt)=>RD K H 18 (.ref a) e) as (ai.dtL fs):=by
 induction h with
 | nil=>rw[ai.dtL];exact .nil
 | cons a _ ih=>rw[ai.dtL];exact .cons (RD.up a.rd (by omega)) ih
theorem aN.up {H:Hp}:∀ {n:Nat}{p:Addr}{f:ai},aN n H p f->aN (n+1) H p f
 | 0,_,_,h=>h.elim
 | n+1,p,.pl f,h=>h
 | n+1,p,.name w,h=>h
 | n+1,p,.back f,h=>by
  obtain⟨q,e1,e2⟩:=h;exact⟨q,e1,aN.up e2⟩
 | n+1,p,.row fs,h=>by
  obtain⟨t,as,e1,e2,fl,pr⟩:=h;exact⟨t,as,e1,e2,fl,Paired.mapP pr fun _ _ z=>aN.up z⟩
theorem aN.le {H:Hp}{n m:Nat}{p:Addr}{f:ai}(h:aN n H p f)(hl:n<=m):aN m H p f:=by
 induction hl with
 | refl=>exact h
 | step _ ih=>exact ih.up
theorem yc (w:Str):decide (V.str (ai.name w).word=V.str "back")=false:=by show decide (V.str (Str.ofString "name")=V.str (Str.ofString "back"))=false;decide +kernel
theorem yd (w:Str):decide (V.str (ai.name w).word=V.str "row")=false:=by show decide (V.str (Str.ofString "name")=V.str (Str.ofString "row"))=false;decide +kernel
theorem pA (w:Str):decide (V.str (ai.name w).word=V.str "name")=true:=by show decide (V.str (Str.ofString "name")=V.str (Str.ofString "name"))=true;decide +kernel
theorem py (f:ai):decide (V.str (ai.back f).word=V.str "back")=true:=by show decide (V.str (Str.ofString "back")=V.str (Str.ofString "back"))=true;decide +kernel
theorem pz (f:ai):decide (V.str (ai.back f).word=V.str "name")=false:=by show decide (V.str (Str.ofString "back")=V.str (Str.ofString "name"))=false;decide +kernel
theorem pE (fs:List ai):decide (V.str (ai.row fs).word=V.str "back")=false:=by show decide (V.str (Str.ofString "row")=V.str (Str.ofString "back"))=false;decide +kernel
theorem rB (fs:List ai):decide (V.str (ai.row fs).word=V.str "row")=true:=by show decide (V.str (Str.ofString "row")=V.str (Str.ofString "row"))=true;decide +kernel
theorem pF (fs:List ai):decide (V.str (ai.row fs).word=V.str "name")=false:=by show decide (V.str (Str.ofString "row")=V.str (Str.ofString "name"))=false;decide +kernel
theorem pB (f:aL):decide (V.str (ai.pl f).word=V.str "back")=false:=Ab (fun z=>f.nw.1 (V.str.inj z))
theorem pD (f:aL):decide (V.str (ai.pl f).word=V.str "row")=false:=Ab (fun z=>f.nw.2.1 (V.str.inj z))
theorem pC (f:aL):decide (V.str (ai.pl f).word=V.str "name")=false:=Ab (fun z=>f.nw.2.2 (V.str.inj z))
noncomputable def ai.inner:ai->List ai
 | .back f=>[f]
 | .row fs=>once fs
 | _=>[]
theorem ce {bs:List BE}{fs:List ai}:aM bs (.row fs)↔∀ f∈fs,aM bs f:=by
 unfold aM;rw[ai.names,fJ];constructor
 ·exact fun h f hf w hw=>h w (List.mem_flatMap.mpr ⟨f,hf,hw⟩)
 ·intro h w hw
  obtain⟨f,hf,hw⟩:=List.mem_flatMap.mp hw;exact h f hf w hw
theorem de {bs:List BE}{f:ai}:aM bs (.back f)↔aM bs f:=by
 unfold aM;rw[ai.names]
theorem bO {bs:List BE}{w:Str}:aM bs (.name w)↔w∈bs.map (·.w):=by
 unfold aM;rw[ai.names];exact⟨fun h=>h w Am,fun h v hv=>by rw[Ap.mp hv];exact h⟩
theorem jc {bs:List BE}{f:aL}:aM bs (.pl f):=by
 unfold aM;rw[ai.names]
 exact fun w hw=>by cases hw
theorem kh {bs:List BE}{f:ai}(n:∀ w,f≠.name w):aM bs f↔∀ u∈f.inner,aM bs u:=by
 cases f with
 | pl f=>exact⟨fun _ u hu=>(by cases hu),fun _=>jc⟩
 | name w=>exact absurd rfl (n w)
 | back f=>rw[de];exact⟨fun h u hu=>by rw[Ap.mp hu];exact h,fun h=>h f Am⟩
 | row fs=>rw[ce];exact⟨fun h u hu=>h u (jm.mp hu),fun h u hu=>h u (jm.mpr hu)⟩
mutual
theorem ai.row_len {bs:List BE}(ok:∀ e∈bs,e.n<=2000->e.r.length=e.n):∀ f:ai,aM bs f->f.len (dw bs)<=2000->(f.rowF (mj bs)).length=f.len (dw bs)
 | .pl f,_,_=>by rw[ai.rowF,ai.len]
 | .name w,k,h=>by
  rw[ai.rowF,ai.len];rw[ai.len]at h;unfold mj dw at *
  cases e:iE bs w with
  | none=>exact absurd (bO.mp k) (cO.mp e)
  | some x =>
   rw[e]at h;exact ok x (c5 e).1 h
 | .back f,k,h=>by
  rw[ai.rowF,ai.len,List.length_reverse];rw[ai.len]at h;exact ai.row_len ok f (de.mp k) h
 | .row fs,k,h=>by
  rw[ai.rowF,ai.len];rw[ai.len]at h;exact ai.row_lenL ok fs (ce.mp k) h
theorem ai.row_lenL {bs:List BE}(ok:∀ e∈bs,e.n<=2000->e.r.length=e.n):∀ fs:List ai,(∀ f∈fs,aM bs f)->ai.lenL (dw bs) fs<=2000->(ai.rowL (mj bs) fs).length=ai.lenL (dw bs) fs
 | [],_,_=>by rw[ai.rowL,ai.lenL];rfl
 | f::fs,k,h=>by
  rw[ai.lenL]at h ⊢;rw[ai.rowL,An,ai.row_len ok f (k f Am) (by omega),ai.row_lenL ok fs (fun g hg=>k g (Ak _ hg)) (by omega)]
end
theorem qY {e:Str->Nat}:∀ {fs:List ai}{f:ai},f∈fs->f.len e<=ai.lenL e fs
 | g::fs,f,h=>by
  rw[ai.lenL];rcases Aq.mp h with rfl | h
  ·omega
  ·have:=qY (e:=e) h;omega
theorem gT {e:Str->Nat}:∀ (i:Nat)(fs:List ai),ai.lenL e (fs.take i)<=ai.lenL e fs
 | 0,fs=>by rw[List.take_zero,ai.lenL];exact Au _
 | _+1,[]=>Ad _
 | i+1,f::fs=>by
  rw[List.take_succ_cons,ai.lenL,ai.lenL];have:=gT (e:=e) i fs;omega
open Classical in
noncomputable def cntF (fs:List ai) (u:ai):Nat:=fs.countP fun f=>decide (f=u)
theorem uK (len:ai->Nat)(fs:List ai):((once fs).map fun u=>cntF fs u*len u).sum=(fs.map len).sum:=mP len (u8 fs) fs fun f hf=>jm.mpr hf
open Classical in
theorem wd {fs:List ai}{u:ai}{c:Nat}(h:∀ g:Dt->Bool,(∀ x,g x=true↔x=u.dt)->c=(ai.dtL fs).countP g):c=cntF fs u:=by
 rw[h (fun x=>decide (x=u.dt)) (fun x=>decide_eq_true_iff),qQ,List.countP_map];unfold cntF;refine List.countP_congr fun f _=>?_
 show decide (f.dt=u.dt)=true↔decide (f=u)=true
 rw[decide_eq_true_iff,decide_eq_true_iff];exact⟨fun e=>ai.dt_inj _ _ e,fun e=>by rw[e]⟩
theorem wc (fs:List ai)(u:ai):cntF fs u<=fs.length:=by unfold cntF;exact List.countP_le_length
open Classical in
theorem tG (fs:List ai):(once fs).length<=fs.length:=by
 have key:∀ (fs acc:List ai),(fs.foldl likeStep acc).length<=acc.length+fs.length:=fun fs=>by
  induction fs with
  | nil=>exact fun acc=>Ad _
  | cons f fs ih =>
   intro acc;rw[List.foldl_cons];have:=ih (likeStep acc f)
   have:(likeStep acc f).length<=acc.length+1:=by unfold likeStep;split<;>simp
   rw[AT];omega
 have:=key fs [];unfold once;simpa using this
theorem pj:∀ l:List Nat,(l.map fun n:Nat=>(n:Int)).sum=((l.sum:Nat):Int)
 | []=>rfl
 | a::l=>by rw[Az,Bx,Bx,pj l];omega
inductive nZ (vs:List V) (H:Hp) (Q:VK) (E_:XK):Prop
 | mk (z:Str) (h_0:vs=[.str z]) (h_1:vo z) (h_2:z.length<=900) (h_3:∀ H',av H H'->Q (.bl (iI z)) H'):nZ vs H Q E_
inductive pe (vs:List V) (H:Hp) (Q:VK) (E_:XK):Prop
 | mk (p:Addr) (n:Nat) (f:ai) (h_0:vs=[.ref p]) (h_1:n<=9) (h_2:aN (n+1) H p f) (h_3:∀ (l:Addr)(as:List Addr)(H':Hp),H l=none->av H H'->H' l=some (.lst (as.map V.ref))->Paired (aN n H') as f.inner->Q (.ref l) H'):pe vs H Q E_
inductive jv (C cU:Addr) (vs:List V) (H:Hp) (Q:VK) (E:XK):Prop
 | mk (b:Addr) (A:BA) (bs:List BE) (w:Str) (h_0:vs=[.ref b,.str w]) (h_1:dA C H b A bs) (h_2:w.length<=900) (h_3:∀ e,iE bs w=some e->Q (.ref e.p) H) (h_4:iE bs w=none->∀ H',av H H'->E (.ref cU) none H'):jv C cU vs H Q E
inductive l9 (C cU:Addr) (n:Nat) (vs:List V) (H:Hp) (Q:VK) (E:XK):Prop
 | mk (b p:Addr) (A:BA) (bs:List BE) (f:ai) (h_0:vs=[.ref b,.ref p]) (h_1:dA C H b A bs) (h_2:aN n H p f) (h_3:aM bs f->∀ H',av H H'->Q .non H') (h_4:¬ aM bs f->∀ H',av H H'->E (.ref cU) none H'):l9 C cU n vs H Q E
def ND (H H':Hp):Prop:=∀ a o,H a=some o->(∀ kv,o≠HO.dK kv)->H' a=some o
theorem vA {H H':Hp}(s:av H H'):ND H H':=fun a o e _=>s a o e
theorem lG {H:Hp}{d:Addr}{kv:List (cv×V)}{o:HO}(h:H d=some (.dK kv)):ND H (aD H d o):=fun a u e n=>by
 rw[ap (fun z=>by rw[z,h]at e;cases e;exact n _ rfl)];exact e
theorem ND.trans {H H' H2:Hp}(s:ND H H')(t:ND H' H2):ND H H2:=fun a o e n=>t a o (s a o e n) n
theorem aN.nd {H H':Hp}{n:Nat}{p:Addr}{f:ai}(h:aN n H p f)(s:ND H H'):aN n H' p f:=h.mono fun _ _ z=>s _ _ z fun _ q=>nomatch q
theorem bF.nd {H H':Hp}{l:Addr}{r:List (Int×Int)}(h:bF H l r)(s:ND H H'):bF H' l r:=by
 obtain⟨as,h1,p⟩:=h;exact⟨as,s _ _ h1 (fun _ q=>nomatch q),Paired.mapP p fun a q z=>s _ _ z fun _ q=>nomatch q⟩
structure wZ (C:Addr)(H:Hp)(b:Addr)(A:BA)(bs:List BE):Prop where
 ob:H b=some (.ins C A.dx (mi (.ref A.d1) (.ref A.d2) (.ref A.d3)))
 f2:H A.d2=some (.dK (bs.map fun e=>(Sum.inr e.w,V.int e.n)))
theorem wZ.mono {C:Addr}{H H':Hp}{b:Addr}{A:BA}{bs:List BE}(x:wZ C H b A bs)(s:av H H'):wZ C H' b A bs:=⟨s _ _ x.ob,s _ _ x.f2⟩
structure wT (C:Addr)(H:Hp)(b:Addr)(A:BA)(bs:List BE):Prop where
 ob:H b=some (.ins C A.dx (mi (.ref A.d1) (.ref A.d2) (.ref A.d3)))
 f3:H A.d3=some (.dK ((bs.filter dF).map fun e=>(Sum.inr e.w,V.ref e.l)))
 rw:∀ e∈bs,e.n<=2000->bF H e.l e.r/\e.r.length=e.n
 nd:(bs.map (·.w)).Nodup
theorem wT.mono {C:Addr}{H H':Hp}{b:Addr}{A:BA}{bs:List BE}(x:wT C H b A bs)(s:av H H'):wT C H' b A bs :=
 ⟨s _ _ x.ob,s _ _ x.f3,fun e he h=>⟨(x.rw e he h).1.mono s,(x.rw e he h).2⟩,x.nd⟩
theorem qG {C:Addr}{H H':Hp}{b:Addr}{A:BA}{bs:List BE}{x:BE}(B:dA C H b A bs)(nd:ND H H')(hw:x.w∉bs.map (·.w))(f1:H' A.d1=some (.dK ((bs.map fun e=>((Sum.inr e.w:cv),V.ref e.p))++[(Sum.inr x.w,V.ref x.p)])))
  (f2:H' A.d2=some (.dK ((bs.map fun e=>((Sum.inr e.w:cv),V.int e.n))++[(Sum.inr x.w,V.int x.n)]))) (f3:H' A.d3=some (.dK (((bs.filter dF).map fun e=>((Sum.inr e.w:cv),V.ref e.l))++(if x.n<=2000 then [(Sum.inr x.w,V.ref x.l)] else []))))
  (fg:aN 9 H' x.p x.f) (rw':x.n<=2000->bF H' x.l x.r/\x.r.length=x.n) (ln:bs.length<=50):dA C H' b A (bs++[x]):=by
 refine⟨nd _ _ B.ob (fun _ q=>nomatch q),by rw[f1,Ah];rfl,by rw[f2,Ah];rfl,?_,?_,?_,?_,by rw[An,AF];omega,B.d12,B.d13,B.d23⟩
 ·rw[f3,List.filter_append,Ah]
  by_cases c:x.n<=2000
  ·rw[Ai c,List.filter_cons_of_pos (by unfold dF;exact Af c)];rfl
  ·rw[Ag c,List.filter_cons_of_neg (by unfold dF;rw[Ab c];decide)];rfl
 ·intro e he
  rcases AJ.mp he with z | z
  ·exact (B.fg e z).nd nd
  ·rw[Ap.mp z];exact fg
 ·intro e he h
  rcases AJ.mp he with z | z
  ·exact⟨(B.rw e z h).1.nd nd,(B.rw e z h).2⟩
  ·rw[Ap.mp z]at h ⊢;exact rw' h
 ·rw[Ah]
  refine BC.mpr ⟨B.nd,by simp,fun a ha b hb e=>?_⟩;rw[List.map_singleton,Ap]at hb;subst hb e;exact hw ha
inductive iS (C:Addr) (n:Nat) (vs:List V) (H:Hp) (Q:VK) (E_:XK):Prop
 | mk (b p:Addr) (A:BA) (bs:List BE) (f:ai) (h_0:vs=[.ref b,.ref p]) (h_1:wZ C H b A bs) (h_2:aN n H p f) (h_3:aM bs f) (h_4:∀ H',av H H'->Q (.int (f.len (dw bs))) H'):iS C n vs H Q E_
inductive fM (C:Addr) (n:Nat) (vs:List V) (H:Hp) (Q:VK) (E_:XK):Prop
 | mk (b p:Addr) (A:BA) (bs:List BE) (f:ai) (h_0:vs=[.ref b,.ref p]) (h_1:wT C H b A bs) (h_2:aN n H p f) (h_3:aM bs f) (h_4:f.len (dw bs)<=2000) (h_5:∀ (l:Addr)(H':Hp),H l=none->av H H'->bF H' l (f.rowF (mj bs))->Q (.ref l) H'):fM C n vs H Q E_
inductive kP (C:Addr) (vs:List V) (H:Hp) (Q:VK) (E_:XK):Prop
 | mk (b dx:Addr) (h_0:vs=[.ref b]) (h_1:H b=some (.ins C dx [])) (h_2:∀ (A:BA)(H':Hp),(∀ a o,H a=some o->a≠b->H' a=some o)->dA C H' b A []->H A.d1=none->H A.d2=none->H A.d3=none->Q .non H'):kP C vs H Q E_
inductive fw (C:Addr) (vs:List V) (H:Hp) (Q:VK) (E_:XK):Prop
 | mk (b:Addr) (A:BA) (bs:List BE) (h_0:vs=[.ref b]) (h_1:dA C H b A bs) (h_2:∀ l,H l=none->Q (.ref l) (aD H l (.lst ((bs.map (·.w)).map V.str)))):fw C vs H Q E_
inductive DO where
 | done | bad | taken | unknown
open Classical in
noncomputable def defO (bs:List BE) (w:Str) (f:ai):DO:=if iI w=false then .bad else if w∈bs.map (·.w) then .taken else if aM bs f then .done else .unknown
def w5 (C:Addr)(H:Hp)(b:Addr)(A:BA)(bs:List BE)(w:Str)(f:ai)(p:Addr)(R:Hp->Prop):Prop:=∀ (x:BE)(H':Hp),x.w=w->x.f=f->x.p=p->x.n=f.len (dw bs)->(x.n<=2000->x.r=f.rowF (mj bs))->dA C H' b A (bs++[x])->(∀ a o,H a=some o->a≠A.d1->a≠A.d2->a≠A.d3->H' a=some o)->R H'
inductive jw (C cU cB cT:Addr) (vs:List V) (H:Hp) (Q:VK) (E:XK):Prop
 | mk (b p:Addr) (A:BA) (bs:List BE) (w:Str) (f:ai) (h_0:vs=[.ref b,.str w,.ref p]) (h_1:dA C H b A bs) (h_2:aN 9 H p f) (h_3:vo w) (h_4:w.length<=900) (h_5:bs.length<=50)
  (h_6:defO bs w f=.done->w5 C H b A bs w f p (Q .non)) (h_7:defO bs w f=.bad->∀ H',av H H'->E (.ref cB) none H') (h_8:defO bs w f=.taken->∀ H',av H H'->E (.ref cT) none H') (h_9:defO bs w f=.unknown->∀ H',av H H'->E (.ref cU) none H'):jw C cU cB cT vs H Q E
structure yu (K:PySem.W.Frag)(mg:Str->Option Value)(cS cU ck cB cT kd:Addr):Prop extends zF K mg cS where
 f:zh K mg ck
 mp:∃ u,mg "MOST_PAIRS" = some u/\aO (.int 2000) u
 ml:∃ u,mg "LONGEST_NAME" = some u/\aO (.int 12) u
 mt:∃ u,mg "LETTERS" = some u/\aO (.str "abcdefghijklmnopqrstuvwxyz") u
 mkd:mg "KINDS" = some (.ref kd)
 kd:∃ (o:Obj)(its:Array Value)(n:Nat),K.lookup kd=some o/\o.cls=.type "tuple"/\o.data=.seq its n/\its.size<=sizeLine/\Vals (kindsL.map V.str) its.toList
 eU:dB K cU
 mU:mg "Unknown" = some (.ref cU)
 eB:dB K cB
 mB:mg "BadName" = some (.ref cB)
 eT:dB K cT
 mT:mg "Taken" = some (.ref cT)
 bb:PySem.W.exmOne K (.ref cB) (.ref cB)=some true
 tb:PySem.W.exmOne K (.ref cT) (.ref cB)=some false
 tt:PySem.W.exmOne K (.ref cT) (.ref cT)=some true
 ub:PySem.W.exmOne K (.ref cU) (.ref cB)=some false
 ut:PySem.W.exmOne K (.ref cU) (.ref cT)=some false
 uu:PySem.W.exmOne K (.ref cU) (.ref cU)=some true
def sL (P:Program)(w:World)(K:PySem.W.Frag)(mg:Str->Option Value)(base:Heap)(ck:Addr):Prop:=∃ (fI:Addr)(fd:FuncData),Mk K ck fI/\bp P w K mg base dq 1 fI fd ["self"] (kP ck)/\fk K fd ["self"] []
theorem qo {X:Cx}{ck:Addr}{p pos:Pos}(M:sL X.prog X.w X.K X.mg X.base ck)(U:zh X.K X.mg ck)(hr:cw 2 X.A)(hg:Gl X "FigureBook"):PE X (.Call (.Name "FigureBook" p) [] [] pos) (vH ck (kP ck) [] E0 n8):=by
 obtain⟨fI,fd,M,G,hb⟩:=M;exact tR M G hr hg U.mF hb .nil fX
end Wz
namespace L2
open PySem PySem.Spec PyProof.Rows
theorem fK {X:Cx} {x j p}{es:List Expr}{t:TA}(hr:PA X es t):PA X (.Constant (.str x) j p::es) (kr (tC (.str x)) t):=aA aj hr rfl
end L2
namespace Wz
open PySem L2
theorem tw {w:Str}{c:Nat}:(w++⟨#[c]⟩:Str).length=w.length+1:=by
 rw[qK,qJ,An,<-qK];rfl
theorem fE {b:Bool}{p q:Prop}(h1:b=true->p)(h2:b=false->q):if b=true then p else q:=by
 cases b
 ·exact aC (h2 rfl)
 ·exact aW (h1 rfl)
theorem fH:∀ a b:List ai,ai.namesL (a++b)=ai.namesL a++ai.namesL b
 | [],b=>by rw[ai.namesL];rfl
 | f::a,b=>by rw[List.cons_append,ai.namesL,ai.namesL,fH a b,Bz]
theorem oM (i:Nat)(fs:List ai):(ai.namesL (fs.take i)).length<=(ai.namesL fs).length:=by
 conv=>rhs;rw[<-List.take_append_drop i fs,fH,An]
 omega
def yi:DO->Str
 | .done=>"done"
 | .bad=>"BadName"
 | .taken=>"Taken"
 | .unknown=>"Unknown"
inductive md (C:Addr) (vs:List V) (H:Hp) (Q:VK) (E_:XK):Prop
 | mk (b p:Addr) (A:BA) (bs:List BE) (w:Str) (f:ai) (h_0:vs=[.ref b,.str w,.ref p]) (h_1:dA C H b A bs) (h_2:aN 9 H p f) (h_3:vo w) (h_4:w.length<=900) (h_5:bs.length<=50)
  (h_6:defO bs w f=.done->w5 C H b A bs w f p (Q (.str (yi .done)))) (h_7:defO bs w f≠.done->∀ H',av H H'->Q (.str (yi (defO bs w f))) H'):md C vs H Q E_
inductive jz (vs:List V) (H:Hp) (Q:VK) (E_:XK):Prop
 | mk (p:Addr) (n:Nat) (f:ai) (h_0:vs=[.ref p]) (h_1:aN n H p f) (h_2:(∃ g,f=.pl g)\/∃ w,f=.name w) (h_3:∀ H' k,av H H'->Q (.bl k) H'):jz vs H Q E_
inductive hG (n:Nat) (vs:List V) (H:Hp) (Q:VK) (E_:XK):Prop
 | mk (p:Addr) (f:ai) (h_0:vs=[.ref p]) (h_1:aN n H p f) (h_2:f.names.length<=1000) (h_3:∀ (l:Addr)(H':Hp),H l=none->av H H'->H' l=some (.lst (f.names.map V.str))->Q (.ref l) H'):hG n vs H Q E_
def m6 (H:Hp)(t:Addr)(x:ai×Nat):Prop:=∃ p,H t=some (.tup [.ref p,.int x.2])/\aN x.2 H p x.1
def jE (x:ai×Nat):Prop:=1<=x.2/\x.2<=7/\(x.2=1->(∃ g,x.1=.pl g)\/∃ w,x.1=.name w)
def vk (x:ai×Nat):Nat:=if x.2=1 then 20 else x.1.names.length
def mm:List (ai×Nat)->Nat
 | []=>0
 | x::xs=>vk x+mm xs
def uI (H:Hp)(s:Addr)(xs:List (ai×Nat)):Prop:=∃ ts:List Addr,H s=some (.lst (ts.map V.ref))/\Paired (m6 H) ts xs
theorem m6.mono {H H':Hp}{t:Addr}{x:ai×Nat}(h:m6 H t x)(s:∀ b ys,H b=some (.tup ys)->H' b=some (.tup ys)):m6 H' t x:=by
 obtain⟨p,e1,e2⟩:=h;exact⟨p,s _ _ e1,e2.mono s⟩
theorem jC:∀ a b:List (ai×Nat),mm (a++b)=mm a+mm b
 | [],b=>by rw[List.nil_append,mm];omega
 | x::a,b=>by rw[List.cons_append,mm,mm,jC a b];omega
theorem jE.few {x:ai×Nat}(h:jE x):x.1.names.length<=vk x:=by
 unfold vk;split
 ·rename_i e
  rcases h.2.2 e with ⟨g,z⟩ | ⟨w,z⟩
  ·rw[z,ai.names];simp
  ·rw[z,ai.names];simp
 ·exact Ad _
theorem j4:∀ xs:List (ai×Nat),(∀ x∈xs,jE x)->(ai.namesL (xs.map (·.1))).length<=mm xs
 | [],_=>by rw[List.map_nil,ai.namesL];exact Au _
 | x::xs,h=>by
  have ih:=j4 xs fun y hy=>h y (Ak _ hy);have:=(h x Am).few;rw[Az,ai.namesL,An,mm];omega
theorem tp {H:Hp}{ts:List Addr}{xs:List (ai×Nat)}(h:Paired (m6 H) ts xs)(ok:∀ x∈xs,jE x):∃ ps:List Addr,Paired (fun t p=>∃ n:Int,H t=some (.tup [.ref p,.int n])) ts ps/\Paired (aN 7 H) ps (xs.map (·.1)):=by
 induction h with
 | nil=>exact⟨[],.nil,.nil⟩
 | cons a _ ih =>
  obtain⟨ps,p1,p2⟩:=ih fun x hx=>ok x (Ak _ hx);obtain⟨p,e1,e2⟩:=a;exact⟨p::ps,.cons ⟨_,e1⟩ p1,.cons (e2.le (ok _ Am).2.1) p2⟩
def sN (s:Addr)(H H':Hp):Prop:=∀ a o,H a=some o->a≠s->H' a=some o
theorem lA {s:Addr}{H H':Hp}(h:av H H'):sN s H H':=fun a o e _=>h a o e
theorem sN.trans {s:Addr}{H H' H2:Hp}(h:sN s H H')(t:sN s H' H2):sN s H H2:=fun a o e n=>t a o (h a o e n) n
theorem kI {s:Addr}{H:Hp}{o:HO}:sN s H (aD H s o):=fun a u e n=>by rw[ap n];exact e
theorem sN.tup {s:Addr}{H H':Hp}{vs:List V}(h:sN s H H')(e:H s=some (.lst vs)):∀ b ys,H b=some (.tup ys)->H' b=some (.tup ys):=fun b ys z=>h b _ z fun q=>by rw[q,e]at z;cases z
theorem ug {H H':Hp}{s t:Addr}{ts:List Addr}{xs:List (ai×Nat)}{x:ai×Nat}(pr:Paired (m6 H) ts xs)(up:∀ b ys,H b=some (.tup ys)->H' b=some (.tup ys))(hs:H' s=some (.lst (ts.map V.ref++[.ref t])))(it:m6 H' t x):uI H' s (xs++[x]) :=
 ⟨ts++[t],by rw[hs,Ah];rfl,aQ (Paired.mapP pr fun _ _ z=>z.mono up) (.cons it .nil)⟩
theorem tF {xs:List (ai×Nat)}{x:ai×Nat}(h:∀ y∈xs,jE y)(hx:jE x):∀ y∈xs++[x],jE y:=fun y hy=>by
 rcases AJ.mp hy with z | z
 ·exact h y z
 ·rw[Ap.mp z];exact hx
theorem ko (fs:List ai):∀ k:Nat,(ai.namesL (List.replicate k fs).flatten).length=k*(ai.namesL fs).length
 | 0=>by rw[List.replicate_zero,List.flatten_nil,ai.namesL,Nat.zero_mul];rfl
 | k+1=>by rw[AY,A8,fH,An,ko fs k,Nat.succ_mul,Nat.add_comm]
theorem kq {α β:Type}{F:α->β->Prop}{l:List α}{m:List β}(p:Paired F l m):∀ k:Nat,Paired F (List.replicate k l).flatten (List.replicate k m).flatten
 | 0=>.nil
 | k+1=>by rw[AY,AY,A8,A8];exact aQ p (kq p k)
theorem jM {α β:Type}(f:α->β)(l:List α):∀ k:Nat,(List.replicate k (l.map f)).flatten=((List.replicate k l).flatten).map f
 | 0=>rfl
 | k+1=>by rw[AY,AY,A8,A8,Ah,jM f l k]
theorem pG:∀ {xs:List (ai×Nat)},(∀ x∈xs,x.2=1)->mm xs=20*xs.length
 | [],_=>rfl
 | x::xs,h=>by
  rw[mm,pG fun y hy=>h y (Ak _ hy),AT];unfold vk;rw[Ai (h x Am)];omega
theorem lF:∀ {xs:List (ai×Nat)},(∀ x∈xs,jE x)->(∀ x∈xs,x.2=1)->(ai.namesL (xs.map (·.1))).length<=xs.length
 | [],_,_=>by rw[List.map_nil,ai.namesL];exact Ad _
 | x::xs,ok,h=>by
  have ih:=lF (fun y hy=>ok y (Ak _ hy)) fun y hy=>h y (Ak _ hy);rw[Az,ai.namesL,An,AT];rcases (ok x Am).2.2 (h x Am) with ⟨g,z⟩ | ⟨w,z⟩
  ·rw[z,ai.names];simp only[List.length_nil];omega
  ·rw[z,ai.names];simp only[AF];omega
theorem wR {xs:List (ai×Nat)}{k d:Nat}(ok:∀ x∈xs,jE x)(hd:2<=d)(hk:k=1\/(k<=20/\∀ x∈xs,x.2=1)):vk (.row (List.replicate k (xs.map (·.1))).flatten,d)<=mm xs:=by
 unfold vk;rw[Ag (show ¬ d=1 by omega)]
 show (ai.row _).names.length<=_
 rw[ai.names,ko];rcases hk with rfl | ⟨hk,h1⟩
 ·rw[Nat.one_mul];exact j4 xs ok
 ·rw[pG h1]
  exact Nat.mul_le_mul hk (lF ok h1)
theorem tu {α:Type}(l:List α)(k:Nat):(List.replicate k l).flatten.length=k*l.length:=by
 rw[List.length_flatten,List.map_replicate,List.sum_replicate_nat]
abbrev pM:=Addr×Addr×(ai×Nat)
def vT (H:Hp)(u:pM):Prop:=H u.1=some (.tup [.ref u.2.1,.int u.2.2.2])/\aN u.2.2.2 H u.2.1 u.2.2.1
theorem vT.mono {H H':Hp}{u:pM}(h:vT H u)(s:∀ b ys,H b=some (.tup ys)->H' b=some (.tup ys)):vT H' u:=⟨s _ _ h.1,h.2.mono s⟩
theorem uT {H:Hp}{ts:List Addr}{xs:List (ai×Nat)}(h:Paired (m6 H) ts xs):∃ us:List pM,ts=us.map (·.1)/\xs=us.map (·.2.2)/\∀ u∈us,vT H u:=by
 induction h with
 | nil=>exact⟨[],rfl,rfl,fun u hu=>nomatch hu⟩
 | cons a _ ih =>
  obtain⟨us,rfl,rfl,h⟩:=ih;obtain⟨p,e1,e2⟩:=a;exact⟨(_,p,_)::us,rfl,rfl,fun u hu=>(Aq.mp hu).elim (fun e=>by rw[e];exact⟨e1,e2⟩) (h u)⟩
theorem kJ {H:Hp}:∀ {us:List pM},(∀ u∈us,vT H u)->Paired (m6 H) (us.map (·.1)) (us.map (·.2.2))
 | [],_=>.nil
 | u::us,h=>.cons ⟨_,(h u Am).1,(h u Am).2⟩ (kJ fun v hv=>h v (Ak _ hv))
theorem qR {H:Hp}{M:Nat}:∀ {us:List pM},(∀ u∈us,vT H u)->(∀ u∈us,u.2.2.2<=M)->Paired (aN M H) (us.map (·.2.1)) (us.map (·.2.2.1))
 | [],_,_=>.nil
 | u::us,h,k=>.cons ((h u Am).2.le (k u Am)) (qR (fun v hv=>h v (Ak _ hv)) fun v hv=>k v (Ak _ hv))
theorem rE {K:PySem.W.Frag}{te:TE}{Qf:Hp->Prop}{lr q:Addr}{α:Type}(g:α->V){rs:List α}{rest:L2.St}{H:Hp}(hq:H q=none)(h1:H lr=some (.lst (rs.map g)))(hlen:rs.length<=1000)
  (ht:∀ (r:α)(HK:Hp)(Q':VK),r∈rs->av H HK->(∀ H5 b,av HK H5->Q' (.bl b) H5)->te (some (g r)::rest) HK Q') (k:∀ (HK:Hp)(bs:List Bool),av H HK->HK q=some (.lst (bs.map V.bl))->Qf HK) :
  gg (vU K lr) (iu 0) (sG mG te q) { nx:=fun _ H'=>Qf H',rt:=fun _ _=>False } (none::rest) (aD H q (.lst [])):=by
 refine bU (K:=K) (a:=lr) (xs:=rs.map g) (fun i σ HK=>∃ (v:Option V)(bs:List Bool),σ=v::rest/\av H HK/\HK q=some (.lst (bs.map V.bl))/\bs.length=i) ⟨none,[],rfl,ac hq,aa,rfl⟩ (fun i σ HK _ ⟨_,_,_,s2,_⟩=>aR.of (s2 _ _ h1)) ?_ ?_
 ·rintro i y σ HK hi ⟨v,bs,rfl,t1,hq2,bl⟩
  obtain⟨r,hr0,rfl⟩:=bg hi;have hil:i<rs.length:=(List.getElem?_eq_some_iff.mp hr0).1;refine cu (ht r HK _ (Ax hr0) t1 fun H5 b s5=>⟨_,s5 _ _ hq2,by rw[z9];exact cg (by omega),_,bs++[b],rfl,bc (t1.trans s5) hq,?_,by rw[An,bl];rfl⟩);rw[aa,Ah];rfl
 ·rintro σ HK ⟨v,bs,rfl,t1,hq2,_⟩
  exact k HK bs t1 hq2
theorem dA.updD {C:Addr}{H:Hp}{b dm:Addr}{A:BA}{bs:List BE}{kv:List (cv×V)}{o:HO}(B:dA C H b A bs)(h:H dm=some (.dK kv))(m1:dm≠A.d1)(m2:dm≠A.d2)(m3:dm≠A.d3):dA C (aD H dm o) b A bs:=by
 have nd:ND H (aD H dm o):=lG h;exact⟨nd _ _ B.ob (fun _ q=>nomatch q),by rw[ap (AK m1)];exact B.f1,by rw[ap (AK m2)];exact B.f2,by rw[ap (AK m3)];exact B.f3,fun e he=>(B.fg e he).nd nd,fun e he h=>⟨(B.rw e he h).1.nd nd,(B.rw e he h).2⟩,B.nd,B.ln,B.d12,B.d13,B.d23⟩
theorem mV {bs:List BE}{f:ai}:(f.names.map fun z=>decide (z∈bs.map (·.w))).all id=true↔aM bs f:=by
 unfold aM;rw[List.all_map,Bn];exact⟨fun h w hw=>A9 (h w hw),fun h w hw=>Af (h w hw)⟩
theorem wb {bs:List BE}{z:Str}{g:BE->V}:((iE bs z).map g).isSome=decide (z∈bs.map (·.w)):=by
 cases e:iE bs z with
 | none=>rw[Ab (cO.mp e)];rfl
 | some x=>rw[Af (AH.mpr ⟨x,(c5 e).1,(c5 e).2⟩)];rfl
theorem kO {K:PySem.W.Frag}{H:Hp}{l:Addr}{ws:List Str}(h:H l=some (.lst (ws.map V.str))):RD K H 1 (.ref l) (.sq false (ws.map fun w=>.at (.str w))):=by
 refine RD.lst (aR.of h) ?_;clear h
 induction ws with
 | nil=>exact .nil
 | cons w ws ih=>exact .cons ⟨rfl,rfl⟩ ih
structure w8 (K:PySem.W.Frag)(mg:Str->Option Value)(cS cU ck cB cT kd cL:Addr):Prop extends yu K mg cS cU ck cB cT kd where
 eL:dB K cL
 mL:mg "TooLong" = some (.ref cL)
 lu:PySem.W.exmOne K (.ref cL) (.ref cU)=some false
 ll:PySem.W.exmOne K (.ref cL) (.ref cL)=some true
theorem qj {w:Str}(h:iI w=true):1<=w.length/\w.length<=12:=by
 unfold iI at h;rw[Bc,Bc]at h;exact A9 h.1.2
theorem tD {w:Str}(h:iI w=true):vo w:=by
 unfold iI at h;rw[Bc]at h;refine vZ fun c hc=>?_;have:=Bn.mp h.2 c hc;unfold eQ at this;have:=A9 this;omega
theorem uX {d:Int}(h0:0<=d)(h:d<26):∃ c,eQ c=true/\vx (Str.cps "abcdefghijklmnopqrstuvwxyz").toList d=some c:=by
 have e:(Str.cps "abcdefghijklmnopqrstuvwxyz").toList=(List.range 26).map (·+97):=by decide +kernel
 obtain⟨n,rfl⟩:=Int.eq_ofNat_of_zero_le h0;refine⟨n+97,by unfold eQ;exact Af (by omega),?_⟩;rw[e];refine ax (j:=n) ?_;rw[List.getElem?_map,List.getElem?_range (by omega)];rfl
theorem rX {w:Str}{c:Nat}(a:w.cps.toList.all eQ=true)(h:eQ c=true):(w++⟨#[c]⟩:Str).cps.toList.all eQ=true:=by
 have e:(w++⟨#[c]⟩:Str).cps.toList=w.cps.toList++[c]:=qJ w ⟨#[c]⟩;rw[e,List.all_append,a];simp[h]
theorem xC {w:Str}(a:w.cps.toList.all eQ=true)(l:w.length<=12)(h:w∉(("" : Str)::kindsL)):iI w=true:=by
 have h0:w≠"":=fun e=>h (by rw[e];exact Am);have h1:w∉kindsL:=fun e=>h (Ak _ e);unfold iI;rw[Ab h1,a,Af (show 1<=w.length/\w.length<=12 from ⟨?_,l⟩)]
 ·rfl
 ·by_cases z:w.length=0
  ·refine absurd ?_ h0
   have e:w.cps = #[]:=Array.eq_empty_of_size_eq_zero z
   cases w with
   | mk cps=>exact A3 Str.mk e
  ·omega
inductive rz (vs:List V) (H:Hp) (Q:VK) (E_:XK):Prop
 | mk (c:Int) (h_0:vs=[.int c]) (h_1:∀ (w:Str)(H':Hp),iI w=true->av H H'->Q (.str w) H'):rz vs H Q E_
theorem dA.l {C:Addr}{H:Hp}{b:Addr}{A:BA}{bs:List BE}(B:dA C H b A bs):wZ C H b A bs:=⟨B.ob,B.f2⟩
theorem dA.r {C:Addr}{H:Hp}{b:Addr}{A:BA}{bs:List BE}(B:dA C H b A bs):wT C H b A bs:=⟨B.ob,B.f3,B.rw,B.nd⟩
inductive rp (C cU cL:Addr) (vs:List V) (H:Hp) (Q:VK) (E:XK):Prop
 | mk (b p:Addr) (A:BA) (bs:List BE) (f:ai) (h_0:vs=[.ref b,.ref p]) (h_1:dA C H b A bs) (h_2:aN 9 H p f) (h_3:¬ aM bs f->∀ H',av H H'->E (.ref cU) none H') (h_4:aM bs f->2000<f.len (dw bs)->∀ H',av H H'->E (.ref cL) none H')
  (h_5:aM bs f->f.len (dw bs)<=2000->∀ (l:Addr)(H':Hp),H l=none->av H H'->bF H' l (f.rowF (mj bs))->Q (.ref l) H'):rp C cU cL vs H Q E
inductive j2 (C:Addr) (vs:List V) (H:Hp) (Q:VK) (E_:XK):Prop
 | mk (b p:Addr) (A:BA) (bs:List BE) (f:ai) (h_0:vs=[.ref b,.ref p]) (h_1:dA C H b A bs) (h_2:aN 9 H p f) (h_3:¬ aM bs f->∀ (t:Addr)(H':Hp),H t=none->av H H'->H' t=some (.tup [.str "Unknown",.non])->Q (.ref t) H')
  (h_4:aM bs f->2000<f.len (dw bs)->∀ (t:Addr)(H':Hp),H t=none->av H H'->H' t=some (.tup [.str "TooLong",.non])->Q (.ref t) H')
  (h_5:aM bs f->f.len (dw bs)<=2000->∀ (t l:Addr)(H':Hp),H t=none->H l=none->av H H'->H' t=some (.tup [.str "",.ref l])->bF H' l (f.rowF (mj bs))->Q (.ref t) H'):j2 C vs H Q E_
structure hW (H:Hp)(d:Addr)(bs:List BE)(tv:Str->V):Prop where
 h:H d=some (.dK (bs.map fun e=>(Sum.inr e.w,tv e.w)))
 r:∀ e∈bs,(e.n<=2000->∃ l,tv e.w=.ref l/\bF H l e.r/\e.r.length=e.n)/\(2000<e.n->tv e.w=.non)
theorem hW.mono {H H':Hp}{d:Addr}{bs:List BE}{tv:Str->V}(x:hW H d bs tv)(s:av H H'):hW H' d bs tv :=
 ⟨s _ _ x.h,fun e he=>⟨fun h=>(let ⟨l,e1,e2,e3⟩:=(x.r e he).1 h;⟨l,e1,e2.mono s,e3⟩),(x.r e he).2⟩⟩
theorem hW.get {H:Hp}{d:Addr}{bs:List BE}{tv:Str->V}(x:hW H d bs tv)(w:Str):eZ H d (.str w) ((iE bs w).map fun e=>tv e.w):=by
 rw[<-db];exact eZ.k (k:=Sum.inr w) x.h
theorem hW.okr {H:Hp}{d:Addr}{bs:List BE}{tv:Str->V}(x:hW H d bs tv):∀ e∈bs,e.n<=2000->e.r.length=e.n:=fun e he h=>(let ⟨_,_,_,e3⟩:=(x.r e he).1 h;e3)
inductive jY (n:Nat) (vs:List V) (H:Hp) (Q:VK) (E_:XK):Prop
 | mk (p d:Addr) (bs:List BE) (tv:Str->V) (f:ai) (h_0:vs=[.ref p,.ref d]) (h_1:hW H d bs tv) (h_2:aN n H p f) (h_3:aM bs f) (h_4:f.len (dw bs)<=2000->∀ (l:Addr)(H':Hp),av H H'->bF H' l (f.rowF (mj bs))->Q (.ref l) H')
  (h_5:2000<f.len (dw bs)->∀ H',av H H'->Q .non H'):jY n vs H Q E_
inductive kW (vs:List V) (H:Hp) (Q:VK) (E_:XK):Prop
 | mk (s nm:Addr) (d:Int) (ws:List Str) (xs:List (ai×Nat)) (h_0:vs=[.ref s,.int d,.ref nm]) (h_1:0<=d) (h_2:uI H s xs) (h_3:H nm=some (.lst (ws.map V.str))) (h_4:∀ w∈ws,w.length<=100) (h_5:ws.length<=100) (h_6:∀ x∈xs,jE x) (h_7:xs.length<=20) (h_n:∀ x∈xs,∀ w∈x.1.names,w∈ws)
  (h_8:∀ (ys:List (ai×Nat))(H':Hp),uI H' s ys->(∀ x∈ys,jE x)->ys.length<=xs.length+1->mm ys<=mm xs+20->(∀ x∈ys,∀ w∈x.1.names,w∈ws)->(∀ a o,H a=some o->a≠s->H' a=some o)->Q .non H'):kW vs H Q E_
inductive jx (vs:List V) (H:Hp) (Q:VK) (E_:XK):Prop
 | mk (l nm:Addr) (c:Int) (ds:List Int) (ws:List Str) (h_0:vs=[.ref l,.int c,.ref nm]) (h_1:H l=some (.lst (ds.map V.int))) (h_2:∀ d∈ds,0<=d) (h_3:ds.length<=9) (h_4:H nm=some (.lst (ws.map V.str))) (h_5:∀ w∈ws,w.length<=100) (h_6:ws.length<=100)
  (h_7:∀ (p:Addr)(f:ai)(H':Hp),av H H'->aN 9 H' p f->f.names.length<=200->(∀ w∈f.names,w∈ws)->Q (.ref p) H'):jx vs H Q E_
theorem nq {xs:List (ai×Nat)}{x:ai×Nat}{ws:List Str}(h:∀ y∈xs,∀ w∈y.1.names,w∈ws)(hx:∀ w∈x.1.names,w∈ws):∀ y∈xs++[x],∀ w∈y.1.names,w∈ws:=fun y hy=>by
 rcases AJ.mp hy with z | z
 ·exact h y z
 ·rw[Ap.mp z];exact hx
theorem tE {fs:List ai}{ws:List Str}(h:∀ f∈fs,∀ w∈f.names,w∈ws)(k:Nat):∀ w∈(ai.row (List.replicate k fs).flatten).names,w∈ws:=by
 intro w hw;rw[ai.names,fJ]at hw;obtain⟨f,hf,hw⟩:=List.mem_flatMap.mp hw;obtain⟨l,hl,hf⟩:=List.mem_flatten.mp hf;rw[(List.mem_replicate.mp hl).2]at hf;exact h f hf w hw
theorem uZ {xs:List (ai×Nat)}{ws:List Str}(h:∀ x∈xs,∀ w∈x.1.names,w∈ws):∀ w∈(ai.row (xs.map (·.1))).names,w∈ws:=by
 intro w hw;rw[ai.names,fJ]at hw;obtain⟨f,hf,hw⟩:=List.mem_flatMap.mp hw;obtain⟨x,hx,rfl⟩:=AH.mp hf;exact h x hx w hw
abbrev NF:=Str×Addr×ai
structure ol (H:Hp)(ln lf:Addr)(es:List NF):Prop where
 n:H ln=some (.lst ((es.map (·.1)).map V.str))
 f:H lf=some (.lst ((es.map (·.2.1)).map V.ref))
 g:∀ e∈es,aN 9 H e.2.1 e.2.2
 k:∀ e∈es,iI e.1=true/\e.2.2.names.length<=200
 nd:(es.map (·.1)).Nodup
 kn:∀ i e,es[i]? = some e->∀ w∈e.2.2.names,w∈(es.take i).map (·.1)
theorem ol.mono {H H':Hp}{ln lf:Addr}{es:List NF}(x:ol H ln lf es)(s:av H H'):ol H' ln lf es:=⟨s _ _ x.n,s _ _ x.f,fun e he=>(x.g e he).mono fun _ _ z=>s _ _ z,x.k,x.nd,x.kn⟩
inductive nX (K:PySem.W.Frag) (vs:List V) (H:Hp) (Q:VK) (E_:XK):Prop
 | mk (a:Addr) (ns:List Int) (h_0:vs=[.ref a,.int 2,.int 6]) (h_1:aR K H a (ns.map V.int)) (h_2:ns.length<=63) (h_3:∀ (t ln lf:Addr)(es:List NF)(H':Hp),av H H'->H' t=some (.tup [.ref ln,.ref lf])->ol H' ln lf es->es.length<=6->Q (.ref t) H'):nX K vs H Q E_
inductive kQ (C:Addr) (vs:List V) (H:Hp) (Q:VK) (E_:XK):Prop
 | mk (b:Addr) (A:BA) (bs:List BE) (h_0:vs=[.ref b]) (h_1:dA C H b A bs) (h_2:∀ H',av H H'->Q (.bl true) H'):kQ C vs H Q E_
inductive kR (vs:List V) (H:Hp) (Q:VK) (E_:XK):Prop
 | mk (c:Int) (h_0:vs=[.int c]) (h_1:∀ H',av H H'->Q (.bl true) H'):kR vs H Q E_
theorem ol.snoc {H H':Hp}{ln lf p:Addr}{es:List NF}{w:Str}{f:ai}(x:ol H ln lf es)(up:∀ b ys,H b=some (.tup ys)->H' b=some (.tup ys))(hn:H' ln=some (.lst ((es.map (·.1)).map V.str++[.str w])))(hf:H' lf=some (.lst ((es.map (·.2.1)).map V.ref++[.ref p])))
  (g:aN 9 H' p f) (nm:iI w=true) (fl:f.names.length<=200) (nw:w∉es.map (·.1)) (kn:∀ z∈f.names,z∈es.map (·.1)):ol H' ln lf (es++[(w,p,f)]):=by
 refine⟨by rw[hn,Ah,Ah];rfl,by rw[hf,Ah,Ah];rfl,fun e he=>?_,fun e he=>?_,?_,fun i e he=>?_⟩
 ·rcases AJ.mp he with z | z
  ·exact (x.g e z).mono up
  ·rw[Ap.mp z];exact g
 ·rcases AJ.mp he with z | z
  ·exact x.k e z
  ·rw[Ap.mp z];exact⟨nm,fl⟩
 ·rw[Ah]
  refine BC.mpr ⟨x.nd,by simp,fun a ha b hb e=>?_⟩;rw[List.map_singleton,Ap]at hb;subst hb e;exact nw ha
 ·by_cases hi:i<es.length
  ·rw[List.getElem?_append_left hi]at he
   rw[List.take_append_of_le_length (by omega)];exact x.kn i e he
  ·rw[List.getElem?_append_right (by omega)]at he
   have i0:i-es.length=0:=by
    have:=(List.getElem?_eq_some_iff.mp he).1;rw[AF]at this;omega
   rw[i0]at he;have he:(w,p,f)=e:=At he;subst he
   have ie:i=es.length:=by omega
   subst ie;rw[List.take_append_of_le_length (Ad _),AC];exact kn
theorem jL {C b dx:Addr}{H H1:Hp}(nx:H b=none)(ndx:H dx=none)(kp:∀ a o,(aD (aD H dx (.own b)) b (.ins C dx [])) a=some o->a≠b->H1 a=some o):av H H1:=fun c o e=>kp c o (by rw[ap (aH e nx),ap (aH e ndx)];exact e) (aH e nx)
theorem se {te:TE}{Qf:Hp->Prop}{x:Str}{q:Addr}{f:Nat->V}{rest:L2.St}{H:Hp}(hq:H q=none)(hlen:x.cps.toList.length<=1000)
  (ht:∀ (c:Nat)(HK:Hp)(Q':VK),av H HK->(∀ H5,av HK H5->Q' (f c) H5)->te (some (.str ⟨#[c]⟩)::rest) HK Q') (k:∀ (HK:Hp),av H HK->HK q=some (.lst (x.cps.toList.map f))->Qf HK) :
  gg (vV x) (iu 0) (sG mG te q) { nx:=fun _ H'=>Qf H',rt:=fun _ _=>False } (none::rest) (aD H q (.lst [])):=by
 refine qS (fun i σ HK=>∃ v:Option V,σ=v::rest/\av H HK/\HK q=some (.lst ((x.cps.toList.take i).map f))) ⟨none,rfl,ac hq,aa⟩ ?_ ?_
 ·rintro i c σ HK hi ⟨v,rfl,t1,hq2⟩
  have hil:i<x.cps.toList.length:=(List.getElem?_eq_some_iff.mp hi).1;refine cu (ht c HK _ t1 fun H5 s5=>⟨_,s5 _ _ hq2,by rw[z9,Av];exact cg (by omega),_,rfl,bc (t1.trans s5) hq,?_⟩);rw[aa,AB,hi,AL,Ah];rfl
 ·rintro σ HK ⟨v,rfl,t1,hq2⟩
  rw[AC]at hq2;exact k HK t1 hq2
theorem sd {te:TE}{Qf:Hp->Prop}{n:Nat}{q:Addr}{f:Nat->V}{rest:L2.St}{H:Hp}(hq:H q=none)(hlen:n<=1000)
  (ht:∀ (c:Nat)(HK:Hp)(Q':VK),av H HK->(∀ H5,av HK H5->Q' (f c) H5)->te (some (.int (0+(c:Int)))::rest) HK Q') (k:∀ (HK:Hp),av H HK->HK q=some (.lst ((List.range n).map f))->Qf HK) :
  gg (vv 0 n) (iu 0) (sG mG te q) { nx:=fun _ H'=>Qf H',rt:=fun _ _=>False } (none::rest) (aD H q (.lst [])):=by
 refine dc (fun i σ HK=>∃ v:Option V,σ=v::rest/\av H HK/\HK q=some (.lst ((List.range i).map f))) ⟨none,rfl,ac hq,aa⟩ ?_ ?_
 ·rintro i σ HK hi ⟨v,rfl,t1,hq2⟩
  refine cu (ht i HK _ t1 fun H5 s5=>⟨_,s5 _ _ hq2,by rw[z9,List.length_range];exact cg (by omega),_,rfl,bc (t1.trans s5) hq,?_⟩);rw[aa,List.range_succ,Ah];rfl
 ·rintro σ HK ⟨v,rfl,t1,hq2⟩
  exact k HK t1 hq2
theorem qZ {g:List Int}{n m:Nat}(h:g.length=n)(e:n*(n-1)=2*m):(gi g).length=m:=by
 have:=jf g;rw[h,e]at this;omega
theorem eW {K:PySem.W.Frag}{H:Hp}{t:Addr}{w:Str}(h:H t=some (.tup [.str w,.non])):RD K H 4 (.ref t) (.sq true [.at (.str w),.at .non]):=RD.tup (aG.of h) (.cons (RD.flat rfl 3) (.cons (RD.flat rfl 3) .nil))
theorem hW.keep {H H':Hp}{d:Addr}{bs:List BE}{tv:Str->V}(x:hW H d bs tv)(nd:ND H H')(h:H' d=some (.dK (bs.map fun e=>(Sum.inr e.w,tv e.w)))):hW H' d bs tv :=
 ⟨h,fun e he=>⟨fun h=>(let ⟨l,e1,e2,e3⟩:=(x.r e he).1 h;⟨l,e1,e2.nd nd,e3⟩),(x.r e he).2⟩⟩
theorem hW.snoc {H H':Hp}{d:Addr}{bs:List BE}{tv:Str->V}{x:BE}{v:V}(td:hW H d bs tv)(nd:ND H H')(hw:x.w∉bs.map (·.w))(h:H' d=some (.dK ((bs.map fun e=>((Sum.inr e.w:cv),tv e.w))++[(Sum.inr x.w,v)])))
  (r:(x.n<=2000->∃ l,v=.ref l/\bF H' l x.r/\x.r.length=x.n)/\(2000<x.n->v=.non)):hW H' d (bs++[x]) (fun z=>if z=x.w then v else tv z):=by
 have ne:∀ e∈bs,(if e.w=x.w then v else tv e.w)=tv e.w:=fun e he=>Ag fun q=>hw (AH.mpr ⟨e,he,q⟩);refine⟨?_,fun e he=>?_⟩
 ·rw[h,Ah]
  congr 3
  ·exact List.map_congr_left fun e he=>by rw[ne e he]
  ·rw[List.map_singleton,Ai rfl]
 ·rcases AJ.mp he with z | z
  ·show (e.n<=2000->∃ l,(if e.w=x.w then v else tv e.w)=.ref l/\_)/\(2000<e.n->(if e.w=x.w then v else tv e.w)=.non)
   rw[ne e z];exact⟨fun h=>(let ⟨l,e1,e2,e3⟩:=(td.r e z).1 h;⟨l,e1,e2.nd nd,e3⟩),(td.r e z).2⟩
  ·rw[Ap.mp z]
   show (x.n<=2000->∃ l,(if x.w=x.w then v else tv x.w)=.ref l/\_)/\(2000<x.n->(if x.w=x.w then v else tv x.w)=.non)
   rw[Ai rfl];exact r
theorem wy {bs:List BE}{es:List NF}{e:NF}(h:bs.map (fun x=>(x.w,x.p,x.f))=es)(nd:(es.map (·.1)).Nodup)(he:e∈es):∃ x,iE bs e.1=some x/\x.p=e.2.1:=by
 subst h;obtain⟨x,hx,rfl⟩:=AH.mp he;rw[AS]at nd;clear he
 induction bs with
 | nil=>cases hx
 | cons y bs ih =>
  have nd2:=Bb.mp (show (y.w::bs.map fun x=>x.w).Nodup from nd);unfold iE at ih ⊢;rw[List.find?_cons]
  by_cases q:y.w=x.w
  ·rw[Af q]
   rcases Aq.mp hx with z | z
   ·exact⟨y,rfl,by rw[z]⟩
   ·exact absurd (q▸Ba (f:=fun x:BE=>x.w) z) nd2.1
  ·rw[Ab q]
   rcases Aq.mp hx with z | z
   ·exact absurd (by rw[z]) q
   ·exact ih nd2.2 z
theorem vC {K:PySem.W.Frag}{H:Hp}{l:Addr}{es:List NF}(g:∀ e∈es,aN 9 H e.2.1 e.2.2)(h:H l=some (.lst (es.map fun e=>V.ref e.2.1))):RD K H 20 (.ref l) (.sq false (es.map fun e=>e.2.2.dt)):=by
 refine RD.lst (aR.of h) ?_;clear h
 induction es with
 | nil=>exact .nil
 | cons e es ih=>exact .cons (RD.up (g e Am).rd (by decide)) (ih fun x hx=>g x (Ak _ hx))
end Wz
namespace Wk44
open PySem L2 Wz
def f6 (i:Nat):Stmt:=PySem.Challenge.pw_lastwaltz_k44_figures_in_figures.main.body.getD i (.Pass ⟨0,0,0,0⟩)
structure zy (mg:Str->Option Value):Prop where
 len:mg "len" = none
 range:mg "range" = none
 isinstance:mg "isinstance" = none
 tuple:mg "tuple" = none
 list:mg "list" = none
 int:mg "int" = none
 bool:mg "bool" = none
 all:mg "all" = none
 any:mg "any" = none
 sorted:mg "sorted" = none
 reversed:mg "reversed" = none
 bset:mg "set" = none
 bmin:mg "min" = none
 bmax:mg "max" = none
 dict:mg "dict" = none
 zip:mg "zip" = none
 enumerate:mg "enumerate" = none
 sum:mg "sum" = none
 str:mg "str" = none
section
variable {P:Program}{w:World}{K:PySem.W.Frag}{mg:Str->Option Value}{base:Heap}{c:HX}{co cq ck f P0 P1 cB cT kd cL:Addr}{fd:FuncData}
abbrev fj:Stmt:=f6 8
abbrev nj:List Str:=["row"]
theorem mD:aE nj ["row"] (ah fj):=fZ
abbrev fT:Stmt:=f6 9
abbrev oK:List Str:=["a","b","c","d"]
theorem nU:aE oK ["a","b","c","d"] (ah fT):=fZ
abbrev fN:Stmt:=f6 15
abbrev mW:List Str:=["word"]
theorem qw:aE mW ["word"] (ah fN):=fZ
abbrev dk:Stmt:=f6 16
abbrev kA:List Str:=["figure","unlike","inner"]
theorem dj:aE kA ["figure"] (ah dk):=fZ
abbrev dn:Stmt:=f6 17
abbrev kB:List Str:=["figure","many"]
theorem fv:aE kB ["figure"] (ah dn):=fZ
abbrev cP:Stmt:=f6 18
abbrev fG:List Str:=["figure","guests"]
theorem iy:aE fG ["figure"] (ah cP):=fZ
abbrev cW:Stmt:=eP (f6 19) 0
abbrev jh:List Str:=["self"]
theorem iP:aE jh ["self"] (ah cW):=fZ
abbrev cD:Stmt:=eP (f6 19) 1
abbrev hZ:List Str:=["self","word","figure"]
theorem gH:aE hZ ["self","word","figure"] (ah cD):=fZ
abbrev cN:Stmt:=eP (f6 19) 2
abbrev iK:List Str:=["self"]
theorem ik:aE iK ["self"] (ah cN):=fZ
abbrev cX:Stmt:=eP (f6 19) 3
abbrev ji:List Str:=["self","word"]
theorem iQ:aE ji ["self","word"] (ah cX):=fZ
abbrev cF:Stmt:=eP (f6 19) 4
abbrev ig:List Str:=["self","figure"]
theorem gJ:aE ig ["self","figure"] (ah cF):=fZ
abbrev bG:Stmt:=eP (f6 19) 5
abbrev e7:List Str:=["self","figure","inner"]
theorem cI:aE e7 ["self","figure"] (ah bG):=fZ
abbrev bL:Stmt:=eP (f6 19) 6
abbrev dL:List Str:=["self","figure"]
theorem gI:aE dL ["self","figure"] (ah bL):=fZ
abbrev cE:Stmt:=eP (f6 19) 7
abbrev ic:List Str:=["self","figure","row","inner"]
theorem cy:aE ic ["self","figure"] (ah cE):=fZ
abbrev eh:Stmt:=f6 21
abbrev mv:List Str:=["_law_script","_law_k"]
theorem lX:aE mv ["_law_script","_law_k"] (ah eh):=fZ
abbrev fS:Stmt:=f6 22
abbrev oJ:List Str:=["_law_found"]
theorem nO:aE oJ ["_law_found"] (ah fS):=fZ
abbrev gN:Stmt:=f6 23
abbrev qg:List Str:=["_law_cell"]
theorem pb:aE qg ["_law_cell"] (ah gN):=fZ
abbrev fO:Stmt:=f6 24
abbrev oG:List Str:=["_law_cell","_law_many","_law_base","_law_left","_law_row_here","_law_count","_law_k","_law_now"]
theorem bh:aE oG ["_law_cell","_law_many","_law_base"] (ah fO):=fZ
abbrev fP:Stmt:=f6 25
abbrev oH:List Str:=["_law_k","_law_cell","_law_left","_law_turn","_law_number"]
theorem dP:aE oH ["_law_k","_law_cell"] (ah fP):=fZ
abbrev gM:Stmt:=f6 26
abbrev qf:List Str:=["_law_found"]
theorem o9:aE qf ["_law_found"] (ah gM):=fZ
abbrev fQ:Stmt:=f6 27
abbrev mX:List Str:=["_law_found"]
theorem qx:aE mX ["_law_found"] (ah fQ):=fZ
abbrev gO:Stmt:=f6 28
abbrev qh:List Str:=["_law_cell","_law_letters","_law_word_here","_law_drawn"]
theorem dz:aE qh ["_law_cell"] (ah gO):=fZ
abbrev dS:Stmt:=f6 29
abbrev km:List Str:=["_law_drawn","_law_many","_law_step"]
theorem dQ:aE km ["_law_drawn"] (ah dS):=fZ
abbrev da:Stmt:=f6 30
abbrev gw:List Str:=["_law_drawn","_law_cell","_law_kind","_law_ranks_here","_law_first","_law_step","_law_guests"]
theorem cH:aE gw ["_law_drawn","_law_cell"] (ah da):=fZ
abbrev fR:Stmt:=f6 31
abbrev oI:List Str:=["_law_figure_here"]
theorem nM:aE oI ["_law_figure_here"] (ah fR):=fZ
abbrev bW:Stmt:=f6 32
abbrev dr:List Str:=["_law_shelf","_law_drawn","_law_names","_law_kind","_law_many","_law_parts","_law_deep","_law_part","_law_often"]
theorem bn:aE dr ["_law_shelf","_law_drawn","_law_names"] (ah bW):=fZ
abbrev dv:Stmt:=f6 33
abbrev jj:List Str:=["_law_draws_here","_law_cell","_law_names","_law_shelf","_law_drawn"]
theorem fc:aE jj ["_law_draws_here","_law_cell","_law_names"] (ah dv):=fZ
abbrev dH:Stmt:=f6 34
abbrev lE:List Str:=["_law_kind","_law_k","_law_j"]
theorem kE:aE lE ["_law_kind","_law_k","_law_j"] (ah dH):=fZ
abbrev cY:Stmt:=f6 35
abbrev jk:List Str:=["_law_figure_here","_law_kind","_law_guests","_law_row_here","_law_k","_law_one","_law_j","_law_other"]
theorem aU:aE jk ["_law_figure_here"] (ah cY):=fZ
abbrev gL:Stmt:=f6 36
abbrev qe:List Str:=["_law_figure_here","_law_told","_law_kind","_law_inner","_law_row_here","_law_part","_law_piece"]
theorem cC:aE qe ["_law_figure_here","_law_told"] (ah gL):=fZ
abbrev fh:Stmt:=f6 37
abbrev ni:List Str:=["_law_book","_law_figure_here","_law_word_here","_law_found"]
theorem cf:aE ni ["_law_book","_law_figure_here"] (ah fh):=fZ
abbrev eA:Stmt:=f6 38
abbrev mw:List Str:=["_law_book","_law_word_here","_law_figure_here","_law_told"]
theorem cA:aE mw ["_law_book","_law_word_here","_law_figure_here"] (ah eA):=fZ
abbrev ee:Stmt:=f6 39
abbrev ms:List Str:=["_law_script","_law_start","_law_most","_law_names","_law_figures","_law_k","_law_word_here","_law_draws_here"]
theorem bV:aE ms ["_law_script","_law_start","_law_most"] (ah ee):=fZ
abbrev dG:Stmt:=f6 40
abbrev lD:List Str:=["_law_figure_here","_law_found","_law_part"]
theorem cQ:aE lD ["_law_figure_here"] (ah dG):=fZ
abbrev bS:Stmt:=f6 41
abbrev d8:List Str:=["_law_book","_law_sixty","_law_parts","_law_word_here","_law_found","_law_more"]
theorem bo:aE d8 ["_law_book"] (ah bS):=fZ
abbrev dR:Stmt:=f6 42
abbrev kl:List Str:=["_law_cell","_law_book","_law_names","_law_pair_here","_law_figure_here","_law_name"]
theorem b9:aE kl ["_law_cell"] (ah dR):=fZ
abbrev j3:Stmt:=f6 43
abbrev q8:List Str:=["_law_script","_law_cell","_law_names","_law_figures","_law_book","_law_told","_law_name","_law_figure_here","_law_asked","_law_k","_law_draws_here","_law_spare","_law_due","_law_found"]
theorem cz:aE q8 ["_law_script"] (ah j3):=fZ
variable (T:zy mg)(UO:w8 K mg co cq ck cB cT kd cL)
include T UO
theorem mC (F:dM K "turned_row" "turned_row" fj f fd) : bp P w K mg base dq 1 f fd ["row"] (jA K):=by
 refine F.ok mD (fun vs H Q E h=>?_) (fun cdv A outer s H vs Q E hr h=>?_)
 ·obtain⟨l,xs,rfl,_⟩:=h
  rfl
 ·obtain⟨l,xs,rfl,hS,k⟩:=h
  refine⟨_,ag (am (lT rfl (pv 0) (by rfl) T.list (by rfl) T.reversed)),?_⟩;exact⟨_,rfl,l,xs,rfl,hS,k⟩
theorem nE (F:dM K "quadrille" "quadrille" fT f fd) : bp P w K mg base (iz P w) 2 f fd ["a","b","c","d"] (jy co):=by
 refine F.okX nU (fun vs H Q E h=>?_) (fun cdv A outer s H vs Q E hr h=>?_)
 ·obtain⟨a,b,c,d,rfl,_⟩:=h
  rfl
 ·obtain⟨a,b,c',d,rfl,k1,k2⟩:=h
  have hu:=ja hr
  have two:(2:Nat)<=sizeLine:=by decide
  have four:(4:Nat)<=sizeLine:=by decide
  have six:(6:Nat)<=sizeLine:=by decide
  refine⟨_,ae (aF (ao re (aP rG (by rfl) T.len AW (bM (bB (rL rfl) (by rfl) T.bset PyProof.Rows.boot_set (bM (bD (aA (pv 0) (aA (pv 1) (aA (pv 2) (aA (pv 3) aT))))))))) (af) (au _)) (ag (gF UO.e gq rfl hr.hd rfl UO.m (aj))) (ak)) (
   ag (am (bD (aA (aI (b6 (pv 0) (pv 1))) (aA (aI (b6 (pv 2) (pv 3))) (aA (aI (b6 (pv 0) (pv 2))) (aA (aI (b6 (pv 1) (pv 3))) (aA (aI (b6 (pv 0) (pv 3))) (aA (aI (b6 (pv 1) (pv 2))) aT))))))))),?_⟩
  refine⟨_,rfl,_,rfl,_,rfl,_,rfl,four,fun l hl=>?_⟩;have s1:=ac (o:=.lst [V.int a,V.int b,V.int c',V.int d]) hl;refine⟨l,[a,b,c',d],rfl,aR.of aa,by show (4:Nat)<=1000;decide,fun q S n hq hn hnd=>?_⟩;have s2:=ac (o:=.set S n) hq;refine⟨q,_,_,rfl,aa,_,_,rfl,rfl,_,rfl,?_⟩;have s12:=s1.trans s2;generalize aD (aD H l (.lst [V.int a,V.int b,V.int c',V.int d])) q (.set S n)=H2 at s12 ⊢;have hn:n<=4:=hn;have hnd:n=4↔[a,b,c',d].Nodup:=hnd
  by_cases nd:[a,b,c',d].Nodup
  ·rw[Ab (by have:=hnd.mpr nd;omega)]
   refine aC ⟨_,rfl,_,rfl,two,fun t1 h1=>⟨_,rfl,_,rfl,two,fun t2 h2=>⟨_,rfl,_,rfl,two,fun t3 h3=>⟨_,rfl,_,rfl,two,fun t4 h4=>⟨_,rfl,_,rfl,two,fun t5 h5=>⟨_,rfl,_,rfl,two,fun t6 h6=>⟨six,fun lq hlq=>?_⟩⟩⟩⟩⟩⟩⟩;have g1:=ac (o:=.tup [V.int a,V.int b]) h1;have g2:=ac (o:=.tup [V.int c',V.int d]) h2;have g3:=ac (o:=.tup [V.int a,V.int c']) h3;have g4:=ac (o:=.tup [V.int b,V.int d]) h4;have g5:=ac (o:=.tup [V.int a,V.int d]) h5;have g6:=ac (o:=.tup [V.int b,V.int c']) h6;have g7:=ac (o:=.lst [V.ref t1,V.ref t2,V.ref t3,V.ref t4,V.ref t5,V.ref t6]) hlq;have g67:=g6.trans g7;have g57:=g5.trans g67;have g47:=g4.trans g57;have g37:=g3.trans g47;have g27:=g2.trans g37;have g17:=g1.trans g27;refine k1 nd lq _ (s12.free (g1.free (g2.free (g3.free (g4.free (g5.free (g6.free hlq))))))) (s12.trans g17) ⟨[t1,t2,t3,t4,t5,t6],aa,?_⟩;exact .cons (g27 _ _ aa) (.cons (g37 _ _ aa) (.cons (g47 _ _ aa) (.cons (g57 _ _ aa) (.cons (g67 _ _ aa) (.cons (g7 _ _ aa) .nil)))))
  ·rw[Af (by have:n≠4:=fun z=>nd (hnd.mp z);omega)]
   exact aW (k2 nd H2 s12)
theorem ql (F:dM K "is_name" "is_name" fN f fd) : bp P w K mg base dq 1 f fd ["word"] nZ:=by
 refine F.ok qw (fun vs H Q E h=>?_) (fun cdv A outer s H vs Q E hr h=>?_)
 ·obtain⟨z,rfl,_⟩:=h
  rfl
 ·obtain⟨z,rfl,asc,len,k⟩:=h
  have hu:=ja hr;have sl:sizeLine=16777216:=AQ
  have zl:z.length<=sizeLine:=by omega
  have hz:z.length=z.cps.toList.length:=by rw[Bj];rfl
  refine⟨_,ae (aF (PW.pt (o7 (ao jR (pv 0) (ri (v:=.ref kd) (by rfl) UO.mkd rfl) rfl) (nK (fL (t7 rc rc (af) (aP m8 (by rfl) T.len AW (bM (pv 0))) (gC (by rfl) UO.ml)))))) (ag (am (eR))) (ak)) (
   ag (am (aP (gQ rfl) (by rfl) T.all PyProof.Rows.boot_all (bM (cr (so:=ah fN) (N:=mW) (N':=["sign"]) (src:=[none]) rfl rfl pK rfl (tV (pv 0)) (fun cl C s2 H2 ex=>⟨fz 0 (show (["sign"]:List Str).Nodup by decide +kernel),bE,c8 sj (pv 0) (gC (by rfl) UO.mt) rfl⟩)))))),?_⟩
  obtain⟨o,its,n,k1,k2,k3,k4,k5⟩:=UO.kd;refine⟨_,rfl,kd,kindsL.map V.str,rfl,.inr (.inr ⟨o,its,n,k1,k2,k3,k4,k5⟩),rfl,jG _,_,rfl,?_⟩;unfold iI at k;rw[show (if false=true then !uS (V.str z) (kindsL.map V.str) else uS (V.str z) (kindsL.map V.str))=decide (z∈kindsL) from kG z kindsL]
  by_cases c1:z∈kindsL
  ·rw[Af c1]at k ⊢
   exact aW (k H (av.refl _))
  rw[Ab c1]at k ⊢;refine aC ⟨_,rfl,z,rfl,zl,_,_,rfl,rfl,_,rfl,?_⟩
  by_cases h1:1<=z.length
  ·rw[Af (show (1:Int)<=(z.length:Int) by omega)]
   refine aW ⟨_,_,rfl,rfl,_,rfl,?_⟩
   by_cases h2:z.length<=12
   ·rw[Af (show (z.length:Int)<=12 by omega)]
    rw[Af (show 1<=z.length/\z.length<=12 from ⟨h1,h2⟩)]at k;refine aC ⟨_,rfl,z,rfl,asc,fun q hq=>?_⟩;refine sy (f:=eQ) hq (by omega) (fun c HK Q' sK kk=>?_) (fun H1 s1 hq1=>?_)
    ·refine⟨_,rfl,_,_,rfl,rfl,?_⟩
     rw[ww];exact kk HK (av.refl _)
    refine⟨q,_,rfl,aR.of hq1,?_⟩;rw[show (z.cps.toList.map eQ).all id=z.cps.toList.all eQ by rw[List.all_map];rfl];exact k H1 s1
   ·rw[Ab (show ¬ (z.length:Int)<=12 by omega)]
    rw[Ab (show ¬ (1<=z.length/\z.length<=12) from fun q=>h2 q.2)]at k;exact aW (k H (av.refl _))
  ·rw[Ab (show ¬ (1:Int)<=(z.length:Int) by omega)]
   rw[Ab (show ¬ (1<=z.length/\z.length<=12) from fun q=>h1 q.1)]at k;exact aC ⟨_,rfl,aW (k H (av.refl _))⟩
theorem jP (F:dM K "inner_figures" "inner_figures" dk f fd) : bp P w K mg base dq 1 f fd ["figure"] pe:=by
 refine F.ok dj (fun vs H Q E h=>?_) (fun cdv A outer s H vs Q E hr h=>?_)
 ·obtain⟨p,n,f,rfl,_⟩:=h
  rfl
 ·obtain⟨p,n,f,rfl,hn,hf,k⟩:=h
  have sl:sizeLine=16777216:=AQ
  refine⟨_,ae (aF (ao bd (aB ay (pv 0) (af) (fun _ _=>rfl)) (aj) (au _)) (ag (am (bD (bM (aB ay (pv 0) (af) (fun _ _=>rfl)))))) (ak)) (
   ae (aF (ao lQ (aB ay (pv 0) (af) (fun _ _=>rfl)) (aj) (au _)) (ag (am (bD aT))) (ak)) (
   ae (aJ 1 dj.nd (bD aT)) (
   ae (cx AO rfl (jU (aB ay (pv 0) (af) (fun _ _=>rfl))) (fz 2 dj.nd) (ag (aF (ao (sk 18 (tj hr (by decide))) (pv 2) (pv 1) rfl) (ag (bz (fm Ay AD AE bH (pv 1) (bM (pv 2))))) (ak)))) (
   ag (am (pv 1)))))),?_⟩
  obtain⟨xs,hp⟩:=hf.hd;refine⟨_,rfl,p,_,0,_,rfl,rfl,aG.of hp,ax (j:=0) rfl,rfl,_,rfl,?_⟩
  cases f with
  | pl f =>
   rw[pB];refine aC ⟨_,rfl,p,_,0,_,rfl,rfl,aG.of hp,ax (j:=0) rfl,rfl,_,rfl,?_⟩;rw[pD];exact aW ⟨Au _,fun l hl=>k l [] _ hl (ac hl) aa .nil⟩
  | name w =>
   rw[yc];refine aC ⟨_,rfl,p,_,0,_,rfl,rfl,aG.of hp,ax (j:=0) rfl,rfl,_,rfl,?_⟩;rw[yd];exact aW ⟨Au _,fun l hl=>k l [] _ hl (ac hl) aa .nil⟩
  | back f =>
   obtain⟨q,e1,e2⟩:=hf;rw[py];exact aW ⟨_,rfl,p,_,1,_,rfl,rfl,aG.of e1,rfl,by show (1:Nat)<=sizeLine;decide,fun l hl=>k l [q] _ hl (ac hl) aa (.cons (e2.mono fun _ _ z=>ac hl _ _ z) .nil)⟩
  | row fs =>
   obtain⟨t,as,e1,e2,fl,pr⟩:=hf;have al:=Ao pr;rw[pE];refine aC ⟨_,rfl,p,_,0,_,rfl,rfl,aG.of e1,rfl,rfl,_,rfl,?_⟩;rw[show decide (V.str (Str.ofString "row")=V.str (Str.ofString "row"))=true from Af rfl];refine aC ⟨Au _,fun l hl=>?_⟩;have s1:=ac (o:=.lst []) hl;refine⟨_,rfl,p,_,1,_,rfl,rfl,aG.of (s1 _ _ e1),rfl,t,rfl,⟨_,aG.of (s1 _ _ e2)⟩,?_⟩
   refine gR (K:=K) (a:=t) (xs:=as.map V.ref) (fun i σ HK=>∃ (v:Option V)(bs:List Addr)(gs:List ai),σ=[some (.ref p),some (.ref l),v]/\av H HK/\HK l=some (.lst (bs.map V.ref))/\Paired (aN n HK) bs gs/\gs=(fs.take i).foldl likeStep []/\gs.length<=i)
    ⟨none,[],[],rfl,s1,aa,.nil,rfl,Ad _⟩ (fun i σ HK _ ⟨_,_,_,_,s2,_⟩=>aG.of (s2 _ _ e2)) ?_ ?_
   ·rintro i y σ HK hi ⟨v,bs,gs,rfl,s2,hl2,pg,eg,gl⟩
    obtain⟨b,hb,rfl⟩:=bg hi;have hil:=(List.getElem?_eq_some_iff.mp hb).1;obtain⟨g,hg,hB0⟩:=bQ pr hb;have hB:aN n HK b g:=hB0.mono fun _ _ z=>s2 _ _ z;have bl:=Ao pg
    have rdP:Paired (fun (a:Addr)(e:Dt)=>RD K HK 18 (.ref a) e) bs (gs.map ai.dt):=by
     clear eg gl bl hl2
     induction pg with
     | nil=>exact .nil
     | cons a _ ih=>exact .cons (RD.up a.rd (by omega)) ih
    have es:(fs.take (i+1)).foldl likeStep []=likeStep gs g:=by rw[AB,hg,AL,List.foldl_append,eg];rfl
    refine⟨_,rfl,_,rfl,l,bs,g.dt,gs.map ai.dt,rfl,.inl (aR.of hl2),RD.up hB.rd (by omega),rdP,fun kb hkb=>⟨_,rfl,?_⟩⟩;have hkb:kb=true↔g∈gs:=hkb.trans ⟨fun z=>by obtain⟨u,hu,e⟩:=AH.mp z;rw[ai.dt_inj _ _ e]at hu;exact hu,fun z=>Ba (f:=ai.dt) z⟩
    cases kb with
    | true =>
     refine aC ⟨_,bs,gs,rfl,s2,hl2,pg,?_,by omega⟩;rw[es];unfold likeStep;rw[Ai (hkb.mp rfl)]
    | false =>
     refine aW ⟨_,rfl,.inl ⟨rfl,_,aR.of hl2⟩,_,rfl,l,_,_,rfl,rfl,hl2,by rw[z9];omega,?_⟩
     have up:∀ c xs,HK c=some (.tup xs)->aD HK l (.lst (bs.map V.ref++[.ref b])) c=some (.tup xs):=fun c xs e=>by rw[ap (fun z=>by rw[z,hl2]at e;cases e)];exact e
     refine⟨_,bs++[b],gs++[g],rfl,bc s2 hl,by rw[aa,Ah];rfl,aQ (Paired.mapP pg fun _ _ z=>z.mono up) (.cons (hB.mono up) .nil),?_,by rw[An,AF];omega⟩;rw[es];unfold likeStep;rw[Ag (fun z=>by have:=hkb.mpr z;cases this)]
   rintro σ HK ⟨v,bs,gs,rfl,s2,hl2,pg,eg,gl⟩;rw[z9,al,AC]at eg;subst eg;exact⟨_,rfl,k l bs HK hl s2 hl2 pg⟩
theorem jQ (F:dM K "single_length" "single_length" dn f fd) : bp P w K mg base dq 1 f fd ["figure"] nY:=by
 refine F.ok fv (fun vs H Q E h=>?_) (fun cdv A outer s H vs Q E hr h=>?_)
 ·obtain⟨p,f,rfl,_⟩:=h
  rfl
 ·obtain⟨p,f,rfl,hf,ok,k⟩:=h
  refine⟨_,ae (aF (ao bd (aB ay (pv 0) (af) (fun _ _=>rfl)) (aj) (au _)) (ag (am (af))) (ak)) (
   ae (aF (ao bd (aB ay (pv 0) (af) (fun _ _=>rfl)) (aj) (au _)) (ag (am (af))) (ak)) (
   ae (aJ 1 fv.nd (aP a9 (by rfl) T.len AW (bM (aB ay (pv 0) (af) (fun _ _=>rfl))))) (
   ae (aF (ao bd (aB ay (pv 0) (af) (fun _ _=>rfl)) (aj) (au _)) (ag (am (ar bK (ar dg (pv 1) (ar lR (pv 1) (af))) (af)))) (ak)) (
   ag (am (aP (rH rfl) (by rfl) T.bmax PyProof.Rows.boot_max (b6 (ar lR (pv 1) (af)) (af)))))))),?_⟩
  obtain⟨xs,hp⟩:=hf.hd;refine⟨_,rfl,p,_,0,_,rfl,rfl,aG.of hp,ax (j:=0) rfl,rfl,_,rfl,?_⟩;have o1:=ok.1;have o2:=ok.2.1
  cases f with
  | pair a b =>
   rw[Af (show V.str (aL.pair a b).word=V.str "pair" from rfl)];exact aW k
  | quad a b c d =>
   rw[Ab (fun z=>absurd (V.str.inj z) (by dsimp only[aL.word];decide +kernel))];refine aC ⟨_,rfl,p,_,0,_,rfl,rfl,aG.of hp,ax (j:=0) rfl,rfl,_,rfl,?_⟩;rw[Af (show V.str (aL.quad a b c d).word=V.str "quad" from rfl)];exact aW k
  | line g =>
   obtain⟨q,e1,e2⟩:=hf;have g0:2<=g.length:=o1;rw[Ab (fun z=>absurd (V.str.inj z) (by dsimp only[aL.word];decide +kernel))];refine aC ⟨_,rfl,p,_,0,_,rfl,rfl,aG.of e1,rfl,rfl,_,rfl,?_⟩;rw[Ab (fun z=>absurd (V.str.inj z) (by dsimp only[aL.word];decide +kernel))];refine aC ⟨_,rfl,p,_,1,_,rfl,rfl,aG.of e1,rfl,q,_,rfl,.inr (aG.of e2),_,rfl,p,_,0,_,rfl,rfl,aG.of e1,rfl,rfl,_,rfl,?_⟩;rw[Ab (fun z=>absurd (V.str.inj z) (by dsimp only[aL.word];decide +kernel))];refine aC ⟨_,rfl,_,_,rfl,rfl,_,_,rfl,?_⟩
   have e:(if (0:Int)>(((aL.line g).gs.map V.int).length:Nat)-1 then (0:Int) else (((aL.line g).gs.map V.int).length:Nat)-1)=((aL.line g).row.length:Nat):=by
    show (if (0:Int)>((g.map V.int).length:Nat)-1 then (0:Int) else ((g.map V.int).length:Nat)-1)=((g.zip (g.drop 1)).length:Nat)
    rw[z9,List.length_zip,AI,Ag (by omega)];omega
   rw[e];exact k
  | star g =>
   obtain⟨q,e1,e2⟩:=hf;have g0:2<=g.length:=o1;rw[Ab (fun z=>absurd (V.str.inj z) (by dsimp only[aL.word];decide +kernel))];refine aC ⟨_,rfl,p,_,0,_,rfl,rfl,aG.of e1,rfl,rfl,_,rfl,?_⟩;rw[Ab (fun z=>absurd (V.str.inj z) (by dsimp only[aL.word];decide +kernel))];refine aC ⟨_,rfl,p,_,1,_,rfl,rfl,aG.of e1,rfl,q,_,rfl,.inr (aG.of e2),_,rfl,p,_,0,_,rfl,rfl,aG.of e1,rfl,rfl,_,rfl,?_⟩;rw[Ab (fun z=>absurd (V.str.inj z) (by dsimp only[aL.word];decide +kernel))];refine aC ⟨_,rfl,_,_,rfl,rfl,_,_,rfl,?_⟩
   have e:(if (0:Int)>(((aL.star g).gs.map V.int).length:Nat)-1 then (0:Int) else (((aL.star g).gs.map V.int).length:Nat)-1)=((aL.star g).row.length:Nat):=by
    show (if (0:Int)>((g.map V.int).length:Nat)-1 then (0:Int) else ((g.map V.int).length:Nat)-1)=(((g.drop 1).map fun o=>(g.headD 0,o)).length:Nat)
    rw[z9,z9,AI,Ag (by omega)];omega
   rw[e];exact k
  | all g =>
   obtain⟨q,e1,e2⟩:=hf;have g0:2<=g.length:=o1;have g1:g.length<=60:=o2;rw[Ab (fun z=>absurd (V.str.inj z) (by dsimp only[aL.word];decide +kernel))];refine aC ⟨_,rfl,p,_,0,_,rfl,rfl,aG.of e1,rfl,rfl,_,rfl,?_⟩;rw[Ab (fun z=>absurd (V.str.inj z) (by dsimp only[aL.word];decide +kernel))];refine aC ⟨_,rfl,p,_,1,_,rfl,rfl,aG.of e1,rfl,q,_,rfl,.inr (aG.of e2),_,rfl,p,_,0,_,rfl,rfl,aG.of e1,rfl,rfl,_,rfl,?_⟩;rw[Af (show V.str (aL.all g).word=V.str "all" from rfl)];have lm:((aL.all g).gs.map V.int).length=g.length:=z9 ..;rw[lm];refine aW ⟨_,rfl,_,rfl,_,_,rfl,rfl,_,_,rfl,rfl,.inl ⟨by omega,by omega⟩,_,_,rfl,rfl,⟨by decide,by decide⟩,?_⟩
   have e:((g.length:Nat):Int)*((g.length:Nat)-1)/2=((gi g).length:Nat):=by
    have h:=jf g
    have h2:((2*(gi g).length:Nat):Int)=((g.length*(g.length-1):Nat):Int):=by rw[h]
    rw[Int.natCast_mul,Int.natCast_mul,Int.natCast_sub (by omega)]at h2;have h3:((g.length:Nat):Int)*((g.length:Nat)-1)=2*((gi g).length:Nat):=h2.symm;rw[h3];omega
   rw[e];exact k
theorem mz (F:dM K "single_row" "single_row" cP f fd)(Cquadrille:iZ P w K mg base "quadrille" 2 ["a","b","c","d"] (jy co)) : bp P w K mg base dq 3 f fd ["figure"] iR:=by
 refine F.ok iy (fun vs H Q E h=>?_) (fun cdv A outer s H vs Q E hr h=>?_)
 ·obtain⟨p,f,rfl,_⟩:=h
  rfl
 ·obtain⟨p,f,rfl,hf,ok,k⟩:=h
  have two:(2:Nat)<=sizeLine:=by decide
  refine⟨_,ae (aF (ao bd (aB ay (pv 0) (af) (fun _ _=>rfl)) (aj) (au _)) (ag (am (bD (bM (aI (b6 (aB ay (pv 0) (af) (fun _ _=>rfl)) (aB ay (pv 0) (af) (fun _ _=>rfl)))))))) (ak)) (
   ae (aJ 1 iy.nd (aB ay (pv 0) (af) (fun _ _=>rfl))) (
   ae (aF (ao bd (aB ay (pv 0) (af) (fun _ _=>rfl)) (aj) (au _)) (ag (am (o0 rfl (b6 (pv 1) (ft lY (pv 1) (gX (af)) gW)) (by rfl) T.list (by rfl) T.zip))) (ak)) (
   ae (aF (ao bd (aB ay (pv 0) (af) (fun _ _=>rfl)) (aj) (au _)) (ag (am (cr (so:=ah cP) (N:=fG) (N':=["other","guests"]) (src:=[none,some 1]) rfl rfl pK rfl (jU (ft lY (pv 1) (gX (af)) gW)) (fun cl C s2 H2 ex=>⟨fz 0 (show (["other","guests"]:List Str).Nodup by decide +kernel),bE,aI (b6 (aB (gS K) (pv 1) (af) (fun _ _=>rfl)) (pv 0))⟩)))) (ak)) (
   ae (aF (ao bd (aB ay (pv 0) (af) (fun _ _=>rfl)) (aj) (au _)) (ag (am (tO (so:=ah cP) (N:=fG) (N':=["at","one","other","guests"]) (src:=[none,none,none,some 1]) rfl rfl pK rfl (lU (by rfl) T.enumerate (bM (pv 1))) (fun cl C s2 H2 ex=>⟨vd (n:=2) K rfl (ca (fz 0 (show (["at","one","other","guests"]:List Str).Nodup by decide +kernel)) (ca (fz 1 (show (["at","one","other","guests"]:List Str).Nodup by decide +kernel)) gV)),bE,ve K (ft (vh K) (pv 3) (gX (ar bC (pv 0) (af))) gW),fz 2 (show (["at","one","other","guests"]:List Str).Nodup by decide +kernel),bE,aI (b6 (pv 1) (pv 2))⟩)))) (ak)) (
   ag (am (t9 Cquadrille hr.m rfl tL (aA (aB ay (pv 1) (af) (fun _ _=>rfl)) (aA (aB ay (pv 1) (af) (fun _ _=>rfl)) (aA (aB ay (pv 1) (af) (fun _ _=>rfl)) (aA (aB ay (pv 1) (af) (fun _ _=>rfl)) aT))))))))))),?_⟩
  obtain⟨xs,hp⟩:=hf.hd;refine⟨_,rfl,p,_,0,_,rfl,rfl,aG.of hp,ax (j:=0) rfl,rfl,_,rfl,?_⟩;have o1:=ok.1;have o2:=ok.2.1
  cases f with
  | pair a b =>
   have hp:H p=some (.tup [.str "pair",.int a,.int b]):=hf;rw[Af (show V.str (aL.pair a b).word=V.str "pair" from rfl)];refine aW ⟨_,rfl,p,_,1,_,rfl,rfl,aG.of hp,rfl,_,rfl,p,_,2,_,rfl,rfl,aG.of hp,rfl,two,fun t ht=>⟨by show (1:Nat)<=sizeLine;decide,fun l hl=>?_⟩⟩;have s1:=ac (o:=.tup [.int a,.int b]) ht;exact k l _ (s1.free hl) (s1.trans (ac hl)) ⟨[t],aa,.cons (ac hl _ _ aa) .nil⟩
  | line g =>
   obtain⟨q,e1,e2⟩:=hf;have e2:H q=some (.tup (g.map V.int)):=e2;have g0:2<=g.length:=o1;have g1:g.length<=60:=o2;rw[Ab (fun z=>absurd (V.str.inj z) (by dsimp only[aL.word];decide +kernel))];refine aC ⟨_,rfl,p,_,1,_,rfl,rfl,aG.of e1,rfl,_,rfl,p,_,0,_,rfl,rfl,aG.of e1,rfl,rfl,_,rfl,?_⟩;rw[Af (show V.str (aL.line g).word=V.str "line" from rfl)];refine aW ⟨_,rfl,_,rfl,_,rfl,qk ⟨q,_,rfl,aG.of e2,jO 1 (by decide) (by rw[z9];omega),fun r hr1=>?_⟩⟩;rw[vy,<-List.map_drop];have s1:=ac (o:=.tup ((g.drop 1).map V.int)) hr1;refine⟨q,r,_,_,rfl,aG.of (s1 _ _ e2),aG.of aa,by rw[z9,z9,AI];omega,by rw[z9,AI];omega,fun l ts H' hl s2 hl2 pr=>?_⟩;rw[uB]at pr;exact k l H' (s1.free hl) (s1.trans s2) ⟨ts,hl2,jp (f:=fun p:Int×Int=>(V.int p.1,V.int p.2)) (R:=fun t p=>H' t=some (.tup [p.1,p.2])) pr⟩
  | star g =>
   obtain⟨q,e1,e2⟩:=hf;have e2:H q=some (.tup (g.map V.int)):=e2;have g0:2<=g.length:=o1;have g1:g.length<=60:=o2;rw[Ab (fun z=>absurd (V.str.inj z) (by dsimp only[aL.word];decide +kernel))];refine aC ⟨_,rfl,p,_,1,_,rfl,rfl,aG.of e1,rfl,_,rfl,p,_,0,_,rfl,rfl,aG.of e1,rfl,rfl,_,rfl,?_⟩;rw[Ab (fun z=>absurd (V.str.inj z) (by dsimp only[aL.word];decide +kernel))];refine aC ⟨_,rfl,p,_,0,_,rfl,rfl,aG.of e1,rfl,rfl,_,rfl,?_⟩;rw[Af (show V.str (aL.star g).word=V.str "star" from rfl)];refine aW ⟨_,rfl,_,rfl,qk ⟨q,_,rfl,aG.of e2,jO 1 (by decide) (by rw[z9];omega),fun r hr1=>?_⟩⟩;rw[vy,<-List.map_drop];have s1:=ac (o:=.tup ((g.drop 1).map V.int)) hr1;have hr2:aD H r (.tup ((g.drop 1).map V.int)) r=some (.tup ((g.drop 1).map V.int)):=aa;generalize aD H r (.tup ((g.drop 1).map V.int))=H1 at s1 hr2 ⊢;refine⟨r,rfl,⟨_,aG.of hr2⟩,fun l hl=>?_⟩
   have dl:(g.drop 1).length<=60:=by rw[AI];omega
   refine gR (K:=K) (a:=r) (xs:=(g.drop 1).map V.int) (fun i σ HK=>∃ (v:Option V),σ=[v,some (.ref q)]/\av H1 HK/\bF HK l (((g.drop 1).take i).map fun o=>(g.headD 0,o)))
    ⟨none,rfl,ac hl,⟨[],aa,.nil⟩⟩ (fun i σ HK _ ⟨_,_,s2,_⟩=>aG.of (s2 _ _ hr2)) ?_ ?_
   ·rintro i y σ HK hi ⟨v,rfl,s2,row⟩
    obtain⟨o,ho,rfl⟩:=bg hi;obtain⟨as,hl2,pr⟩:=row;have al:=Ao pr;rw[z9,Av]at al
    obtain⟨x0,gt,rfl⟩:∃ x0 gt,g=x0::gt:=by
     cases g with
     | nil=>simp at g0
     | cons x0 gt=>exact⟨x0,gt,rfl⟩
    refine cu ⟨_,rfl,q,_,0,_,rfl,rfl,aG.of (s2 _ _ (s1 _ _ e2)),ax (j:=0) rfl,_,rfl,two,fun t ht=>?_⟩;have st:=ac (o:=.tup [.int x0,.int o]) ht;refine⟨_,st _ _ hl2,by rw[z9];exact cg (by omega),_,rfl,bc (s2.trans st) hl,?_⟩;have:=lW (a:=x0) (b:=o) hl2 pr ht;rw[AB,ho,AL,Ah];exact this
   rintro σ HK ⟨v,rfl,s2,row⟩;rw[z9,AC]at row;exact k l HK (s1.free hl) (s1.trans s2) row
  | all g =>
   obtain⟨q,e1,e2⟩:=hf;have e2:H q=some (.tup (g.map V.int)):=e2;have g0:2<=g.length:=o1;have g1:g.length<=60:=o2;have rl:=aL.rl ok;have rl:(gi g).length<=2000:=rl;rw[Ab (fun z=>absurd (V.str.inj z) (by dsimp only[aL.word];decide +kernel))];refine aC ⟨_,rfl,p,_,1,_,rfl,rfl,aG.of e1,rfl,_,rfl,p,_,0,_,rfl,rfl,aG.of e1,rfl,rfl,_,rfl,?_⟩;rw[Ab (fun z=>absurd (V.str.inj z) (by dsimp only[aL.word];decide +kernel))];refine aC ⟨_,rfl,p,_,0,_,rfl,rfl,aG.of e1,rfl,rfl,_,rfl,?_⟩;rw[Ab (fun z=>absurd (V.str.inj z) (by dsimp only[aL.word];decide +kernel))];refine aC ⟨_,rfl,p,_,0,_,rfl,rfl,aG.of e1,rfl,rfl,_,rfl,?_⟩;rw[Af (show V.str (aL.all g).word=V.str "all" from rfl)];refine aW ⟨_,rfl,q,rfl,⟨_,aG.of e2⟩,fun l hl=>?_⟩
   refine jH (K:=K) (a:=q) (xs:=g.map V.int) (fun i σ HK=>∃ (v0 v1 v2:Option V)(ps:List (Int×Int)),σ=[v0,v1,v2,some (.ref q)]/\av H HK/\bF HK l ps/\ps++gi (g.drop i)=gi g)
    ⟨none,none,none,[],rfl,ac hl,⟨[],aa,.nil⟩,rfl⟩ (fun i σ HK _ ⟨_,_,_,_,_,s2,_⟩=>aG.of (s2 _ _ e2)) ?_ ?_
   ·rintro i y σ HK T hi ⟨v0,v1,v2,ps,rfl,s2,row,ep⟩ hT
    obtain⟨x,hx,rfl⟩:=bg hi;have hil:=(List.getElem?_eq_some_iff.mp hx).1;have sT:=ac (o:=.tup [.int (i:Int),.int x]) hT;have hTT:aD HK T (.tup [.int (i:Int),.int x]) T=some (.tup [.int (i:Int),.int x]):=aa;have row:=row.mono sT;have s2:=s2.trans sT;generalize aD HK T (.tup [.int (i:Int),.int x])=HK at hTT row s2 ⊢;refine⟨T,_,rfl,aG.of hTT,rfl,_,_,rfl,_,_,rfl,rfl,?_⟩
    have ed:g.drop i=x::g.drop (i+1):=by rw[List.drop_eq_getElem_cons hil,(List.getElem?_eq_some_iff.mp hx).2]
    rw[ed]at ep;have ep:ps++((g.drop (i+1)).map (fun o=>(x,o))++gi (g.drop (i+1)))=gi g:=ep;have epl:=A3 List.length ep;rw[An,An,z9]at epl;have ei:((i:Int)+1)=((i+1:Nat):Int):=rfl;refine uj ⟨_,rfl,_,rfl,_,_,rfl,rfl,_,rfl,qk ⟨q,_,rfl,aG.of (s2 _ _ e2),jO (i+1) (Nat.succ_pos _) (by rw[z9];omega),fun r hr1=>?_⟩⟩;rw[ei,k9,<-List.map_drop];have s3:=ac (o:=.tup ((g.drop (i+1)).map V.int)) hr1;have hr2:aD HK r (.tup ((g.drop (i+1)).map V.int)) r=some (.tup ((g.drop (i+1)).map V.int)):=aa;have row:=row.mono s3;have s3:=s2.trans s3
    have nrl:r≠l:=fun z=>by
     obtain⟨as,hl2,_⟩:=row;rw[<-z,hr2]at hl2;cases hl2
    generalize aD HK r (.tup ((g.drop (i+1)).map V.int))=H3 at row s3 hr2 ⊢;clear s2 hTT hr1;refine⟨r,rfl,⟨_,aG.of hr2⟩,?_⟩
    refine gR (K:=K) (a:=r) (xs:=(g.drop (i+1)).map V.int) (fun j σ H4=>∃ (v:Option V),σ=[some (.int (i:Int)),some (.int x),v,some (.ref q)]/\(∀ b o,H3 b=some o->b≠l->H4 b=some o)/\bF H4 l (ps++((g.drop (i+1)).take j).map fun o=>(x,o)))
     ⟨_,rfl,fun b o e _=>e,by simpa using row⟩ (fun j σ H4 _ ⟨_,_,s4,_⟩=>aG.of (s4 _ _ hr2 nrl)) ?_ ?_
    ·rintro j y σ H4 hj ⟨v,rfl,s4,row4⟩
     obtain⟨o,ho,rfl⟩:=bg hj;obtain⟨as,hl4,pr⟩:=row4;have al:=Ao pr;rw[An,z9,Av]at al;refine cu ⟨_,rfl,_,rfl,two,fun t ht=>?_⟩;have st:=ac (o:=.tup [.int x,.int o]) ht;refine⟨_,st _ _ hl4,by rw[z9];have sl:sizeLine=16777216:=AQ;omega,_,rfl,fun b u e n=>?_,?_⟩
     ·rw[ap n];exact st _ _ (s4 b u e n)
     ·have:=lW (a:=x) (b:=o) hl4 pr ht
      rw[AB,ho,AL,Ah,<-Bz];exact this
    rintro σ H4 ⟨v,rfl,s4,row4⟩;rw[z9,AC]at row4;exact⟨_,_,_,_,rfl,fun b u e=>s4 b u (s3 b u e) (fun z=>by rw[z,hl]at e;cases e),row4,by rw[Bz];exact ep⟩
   rintro σ HK ⟨v0,v1,v2,ps,rfl,s2,row,ep⟩;rw[z9,List.drop_length]at ep;have ep:ps++[]=gi g:=ep;rw[Bt]at ep;rw[ep]at row;exact k l HK hl s2 row
  | quad a b c d =>
   obtain⟨q,e1,e2⟩:=hf;have e2:H q=some (.tup ([a,b,c,d].map V.int)):=e2;rw[Ab (fun z=>absurd (V.str.inj z) (by dsimp only[aL.word];decide +kernel))];refine aC ⟨_,rfl,p,_,1,_,rfl,rfl,aG.of e1,rfl,_,rfl,p,_,0,_,rfl,rfl,aG.of e1,rfl,rfl,_,rfl,?_⟩;rw[Ab (fun z=>absurd (V.str.inj z) (by dsimp only[aL.word];decide +kernel))];refine aC ⟨_,rfl,p,_,0,_,rfl,rfl,aG.of e1,rfl,rfl,_,rfl,?_⟩;rw[Ab (fun z=>absurd (V.str.inj z) (by dsimp only[aL.word];decide +kernel))];refine aC ⟨_,rfl,p,_,0,_,rfl,rfl,aG.of e1,rfl,rfl,_,rfl,?_⟩;rw[Ab (fun z=>absurd (V.str.inj z) (by dsimp only[aL.word];decide +kernel))];exact aC ⟨_,rfl,q,_,0,_,rfl,rfl,aG.of e2,rfl,_,rfl,q,_,1,_,rfl,rfl,aG.of e2,rfl,_,rfl,q,_,2,_,rfl,rfl,aG.of e2,rfl,_,rfl,q,_,3,_,rfl,rfl,aG.of e2,rfl,a,b,c,d,rfl,fun _ l H' hl s1 r1=>k l H' hl s1 r1,fun nn=>absurd (ok.2.2 a b c d rfl) nn⟩
theorem iL (F:dM K "__init__" "FigureBook.__init__" cW f fd) : bp P w K mg base dq 1 f fd ["self"] (kP ck):=by
 refine F.ok iP (fun vs H Q E h=>?_) (fun cdv A outer s H vs Q E hr h=>?_)
 ·obtain⟨b,dx,rfl,_⟩:=h
  rfl
 ·obtain⟨b,dx,rfl,hb,k⟩:=h
  refine⟨_,ae (qu (pv 0) (jr) rfl) (
   ae (qu (pv 0) (jr) rfl) (
   ag (qu (pv 0) (jr) rfl))),?_⟩
  intro d1 h1;have n1:b≠d1:=aH hb h1;refine⟨_,rfl,b,ck,dx,[],rfl,(by rw[ap n1];exact hb),UO.f.cl,UO.f.nF,(by show 0<1000;decide),?_⟩;intro d2 h2
  have n2:b≠d2:=fun z=>by rw[<-z,aa]at h2;cases h2
  refine⟨_,rfl,b,ck,dx,_,rfl,(by rw[ap n2,aa]),UO.f.cl,UO.f.nL,(by show 1<1000;decide),?_⟩;intro d3 h3
  have n3:b≠d3:=fun z=>by rw[<-z,aa]at h3;cases h3
  refine⟨_,rfl,b,ck,dx,_,rfl,(by rw[ap n3,aa]),UO.f.cl,UO.f.nR,(by rw[wa];show 2<1000;decide),?_⟩;rw[oq]
  have h2':aD H d1 (.dK []) d2=none:=by rw[ap (AK n2)]at h2;exact h2
  have h3':aD (aD H d1 (.dK [])) d2 (.dK []) d3=none:=by
   rw[ap (AK n3)]at h3
   by_cases z:d3=d2
   ·rw[z,aa]at h3;cases h3
   ·rw[ap z,ap (AK n3)]at h3;rw[ap z];exact h3
  have s1:=ac (o:=.dK []) h1;have s2:=ac (o:=.dK []) h2';have s3:=ac (o:=.dK []) h3'
  have keep:∀ a o,aD (aD (aD H d1 (.dK [])) d2 (.dK [])) d3 (.dK []) a=some o->a≠b->aD (aD (aD (aD (aD (aD H d1 (.dK [])) b (.ins ck dx (dh "figures" (.ref d1) []))) d2 (.dK [])) b (.ins ck dx (dh "lengths" (.ref d2) (dh "figures" (.ref d1) [])))) d3 (.dK [])) b (.ins ck dx (mi (.ref d1) (.ref d2) (.ref d3))) a=some o:=fun a o e n=>by
   rw[ap n]
   by_cases z3:a=d3
   ·rw[z3,aa]at e ⊢;exact e
   ·rw[ap z3]at e ⊢
    rw[ap n]
    by_cases z2:a=d2
    ·rw[z2,aa]at e ⊢;exact e
    ·rw[ap z2]at e ⊢
     rw[ap n];exact e
  have d12:d1≠d2:=fun z=>by rw[<-z,aa]at h2';cases h2'
  have d13:d1≠d3:=fun z=>by rw[<-z,s2 _ _ aa]at h3';cases h3'
  have d23:d2≠d3:=fun z=>by rw[<-z,aa]at h3';cases h3'
  refine k ⟨dx,d1,d2,d3⟩ _ (fun a o e n=>keep a o (s3 _ _ (s2 _ _ (s1 _ _ e))) n) ⟨aa,keep d1 _ (s3 _ _ (s2 _ _ aa)) (AK n1),keep d2 _ (s3 _ _ aa) (AK n2),keep d3 _ aa (AK n3),(fun e he=>nomatch he),(fun e he=>nomatch he),BU,Au _,d12,d13,d23⟩ h1 (s1.free h2') ((s1.trans s2).free h3')
theorem gy (F:dM K "define" "FigureBook.define" cD f fd)(Cis_name:aq P w K mg base "is_name" 1 ["word"] nZ)(M_FigureBook_check_names:aS P w K mg base (iz P w) ck "check_names" 12 ["self","figure"] (l9 ck cq 9))(M_FigureBook_length:aS P w K mg base dq ck "length" 12 ["self","figure"] (iS ck 9))(M_FigureBook_row_of:aS P w K mg base dq ck "row_of" 13 ["self","figure"] (fM ck 9)) : bp P w K mg base (iz P w) 14 f fd ["self","word","figure"] (jw ck cq cB cT):=by
 refine F.okX gH (fun vs H Q E h=>?_) (fun cdv A outer s H vs Q E hr h=>?_)
 ·obtain⟨b,p,A,bs,w,f,rfl,_⟩:=h
  rfl
 ·obtain⟨b,p,A,bs,w,f,rfl,B,hf,asc,wl,bl,kd0,kd1,kd2,kd3⟩:=h
  have hu:=ja hr;have sl:sizeLine=16777216:=AQ
  refine⟨_,ae (aF (fL (fb (aK Cis_name (hr.mono (by omega)) rfl (bM (pv 1))))) (ag (gF UO.eB gq rfl hr.hd rfl UO.mB (aj))) (ak)) (
   ae (aF (lV (tN hu (pv 1) (e9 (pv 0) rfl))) (ag (gF UO.eT gq rfl hr.hd rfl UO.mT (nJ (eV aj (eV (tP (pv 1)) (eV aj qr)))))) (ak)) (
   ae (bz (fu M_FigureBook_check_names (pv 0) UO.f.cl (hr.mono (by omega)) kK (bM (pv 2)))) (
   ae (kN hu (e9 (pv 0) rfl) (pv 1) (pv 2) rfl) (
   ae (kN hu (e9 (pv 0) rfl) (pv 1) (fu M_FigureBook_length (pv 0) UO.f.cl (hr.mono (by omega)) fX (bM (pv 2))) rfl) (
   ag (aF (ao rc (jq hu (e9 (pv 0) rfl) (pv 1) (fun _ _=>rfl)) (gC (by rfl) UO.mp) (au _)) (ag (kN hu (e9 (pv 0) rfl) (pv 1) (fu M_FigureBook_row_of (pv 0) UO.f.cl (hr.mono (by omega)) fX (bM (pv 2))) rfl)) (ak))))))),?_⟩
  have nC:∀ {x y z:V},(mi x y z).lookup ("check_names" : Str)=none:=d7 (by decide +kernel);have nL:∀ {x y z:V},(mi x y z).lookup ("length" : Str)=none:=d7 (by decide +kernel);have nR:∀ {x y z:V},(mi x y z).lookup ("row_of" : Str)=none:=d7 (by decide +kernel);refine⟨_,rfl,w,rfl,asc,wl,fun H1 s1=>⟨_,rfl,?_⟩⟩;unfold defO at kd0 kd1 kd2 kd3
  cases nm:iI w with
  | false =>
   refine aW ?_;exact kd1 (by rw[Ai nm]) H1 s1
  | true =>
   rw[Ag (by rw[nm];decide)]at kd0 kd1 kd2 kd3;have B1:=B.mono s1
   have g1:eZ H1 A.d1 (.str w) ((iE bs w).map fun e=>V.ref e.p):=by rw[<-db];exact eZ.k (k:=Sum.inr w) B1.f1
   refine aC ⟨_,rfl,_,rfl,b,ck,A.dx,_,_,rfl,B1.ob,UO.f.cl,UO.f.nF,k7,A.d1,_,rfl,g1,_,rfl,?_⟩
   cases e:iE bs w with
   | some x =>
    have hm:w∈bs.map (·.w):=AH.mpr ⟨x,(c5 e).1,(c5 e).2⟩;exact aW ⟨_,rfl,by decide,_,rfl,w,rfl,by omega,fun y hy=>⟨y,rfl,hy,_,rfl,by decide,fun z=>kd2 (by rw[Ai hm]) H1 s1⟩⟩
   | none =>
    have hm:=cO.mp e;rw[Ag hm]at kd0 kd2 kd3;have hf1:aN 9 H1 p f:=hf.mono fun _ _ z=>s1 _ _ z;refine aC ⟨_,rfl,b,A.dx,_,rfl,B1.ob,nC,_,rfl,b,p,A,bs,f,rfl,B1,hf1,fun kn H2 s2=>?_,fun kn H2 s2=>kd3 (by rw[Ag kn]) H2 (s1.trans s2)⟩;rw[Ai kn]at kd0;have B2:=B1.mono s2;have hf2:aN 9 H2 p f:=hf1.mono fun _ _ z=>s2 _ _ z;have s12:=s1.trans s2
    have e1:kx H2 A.d1 (.str w) (.ref p) (aD H2 A.d1 (.dK ((bs.map fun e=>((Sum.inr e.w:cv),V.ref e.p))++[(Sum.inr w,V.ref p)]))):=by
     have q:=kx.k (k:=Sum.inr w) (v:=V.ref p) B2.f1 (by rw[z9];omega)
     rwa [jt _ (by rw[db,e];rfl)]at q
    refine⟨_,rfl,_,rfl,b,ck,A.dx,_,_,rfl,B2.ob,UO.f.cl,UO.f.nF,k7,_,rfl,A.d1,_,rfl,e1,?_⟩;generalize h3:aD H2 A.d1 (.dK ((bs.map fun e=>((Sum.inr e.w:cv),V.ref e.p))++[(Sum.inr w,V.ref p)]))=H3
    have n3:ND H2 H3:=by rw[<-h3];exact lG B2.f1
    have k3:∀ a o,H2 a=some o->a≠A.d1->H3 a=some o:=fun a o z n=>by rw[<-h3,ap n];exact z
    have f31:H3 A.d1=some (.dK ((bs.map fun e=>((Sum.inr e.w:cv),V.ref e.p))++[(Sum.inr w,V.ref p)])):=by rw[<-h3,aa]
    clear h3
    have ob3:=n3 _ _ B2.ob fun _ q=>nomatch q
    refine⟨_,rfl,b,A.dx,_,rfl,ob3,nL,_,rfl,b,p,A,bs,f,rfl,⟨ob3,k3 _ _ B2.f2 (AK B.d12)⟩,hf2.nd n3,kn,fun H4 s4=>?_⟩;have n4:=n3.trans (vA s4);have ob4:=s4 _ _ ob3;have f42:=s4 _ _ (k3 _ _ B2.f2 (AK B.d12))
    have e2:kx H4 A.d2 (.str w) (.int (f.len (dw bs))) (aD H4 A.d2 (.dK ((bs.map fun e=>((Sum.inr e.w:cv),V.int e.n))++[(Sum.inr w,V.int (f.len (dw bs)))]))):=by
     have q:=kx.k (k:=Sum.inr w) (v:=V.int (f.len (dw bs))) f42 (by rw[z9];omega)
     rwa [jt _ (by rw[db,e];rfl)]at q
    refine⟨_,rfl,b,ck,A.dx,_,_,rfl,ob4,UO.f.cl,UO.f.nL,pQ,_,rfl,A.d2,_,rfl,e2,?_⟩;generalize h5:aD H4 A.d2 (.dK ((bs.map fun e=>((Sum.inr e.w:cv),V.int e.n))++[(Sum.inr w,V.int (f.len (dw bs)))]))=H5;have n5:ND H2 H5:=n4.trans (by rw[<-h5];exact lG f42)
    have k5:∀ a o,H4 a=some o->a≠A.d2->H5 a=some o:=fun a o z n=>by rw[<-h5,ap n];exact z
    have f52:H5 A.d2=some (.dK ((bs.map fun e=>((Sum.inr e.w:cv),V.int e.n))++[(Sum.inr w,V.int (f.len (dw bs)))])):=by rw[<-h5,aa]
    clear h5
    have ob5:=n5 _ _ B2.ob fun _ q=>nomatch q
    have f51:=k5 _ _ (s4 _ _ f31) B.d12;have f53:=k5 _ _ (s4 _ _ (k3 _ _ B2.f3 (AK B.d13))) (AK B.d23)
    have g5:eZ H5 A.d2 (.str w) (some (.int (f.len (dw bs)))):=by
     have q:=eZ.k (k:=Sum.inr w) f52
     rwa [m4 _ _ _ _ (by rw[db,e];rfl),Ai rfl]at q
    refine⟨_,rfl,b,ck,A.dx,_,_,rfl,ob5,UO.f.cl,UO.f.nL,pQ,_,rfl,A.d2,_,rfl,g5,_,_,rfl,rfl,_,rfl,?_⟩;have kd0:=kd0 rfl;have kp:∀ a o,H a=some o->a≠A.d1->a≠A.d2->H5 a=some o:=fun a o z m1 m2=>k5 _ _ (s4 _ _ (k3 _ _ (s12 _ _ z) m1)) m2
    by_cases c:f.len (dw bs)<=2000
    ·rw[Af (show ((f.len (dw bs):Nat):Int)<=2000 by omega)]
     have BR:wT ck H5 b A bs:=⟨ob5,f53,fun e he h=>⟨(B2.rw e he h).1.nd n5,(B2.rw e he h).2⟩,B.nd⟩;refine aW ⟨_,rfl,b,A.dx,_,rfl,ob5,nR,_,rfl,b,p,A,bs,f,rfl,BR,hf2.nd n5,kn,c,fun l H6 hl s6 row=>?_⟩;have f63:=s6 _ _ f53;have lf:((bs.filter dF).length)<=bs.length:=List.length_filter_le ..
     have vn:f7 ((bs.filter dF).map fun e=>((Sum.inr e.w:cv),V.ref e.l)) (Sum.inr w)=none:=by
      rw[db,cO.mpr (fun z=>?_)]
      ·rfl
      ·obtain⟨u,hu,eu⟩:=AH.mp z
       exact hm (AH.mpr ⟨u,(List.mem_filter.mp hu).1,eu⟩)
     have e3:kx H6 A.d3 (.str w) (.ref l) (aD H6 A.d3 (.dK (((bs.filter dF).map fun e=>((Sum.inr e.w:cv),V.ref e.l))++[(Sum.inr w,V.ref l)]))):=by
      have q:=kx.k (k:=Sum.inr w) (v:=V.ref l) f63 (by rw[z9];omega)
      rwa [jt _ vn]at q
     refine⟨_,rfl,b,ck,A.dx,_,_,rfl,s6 _ _ ob5,UO.f.cl,UO.f.nR,sO,_,rfl,A.d3,_,rfl,e3,?_⟩;have n7:ND H6 (aD H6 A.d3 (.dK (((bs.filter dF).map fun e=>((Sum.inr e.w:cv),V.ref e.l))++[(Sum.inr w,V.ref l)]))):=lG f63;have n7':=(n5.trans (vA s6)).trans n7;refine kd0 ⟨w,f,f.len (dw bs),f.rowF (mj bs),p,l⟩ _ rfl rfl rfl rfl (fun _=>rfl) ?_ (fun a o z m1 m2 m3=>by rw[ap m3];exact s6 _ _ (kp a o z m1 m2));refine qG B2 n7' hm (by rw[ap B.d13];exact s6 _ _ f51) (by rw[ap B.d23];exact s6 _ _ f52) (by rw[aa];show some (HO.dK (_++_))=some (HO.dK (_++if f.len (dw bs)<=2000 then _ else _));rw[Ai c]) (hf2.nd n7') (fun _=>⟨row.nd n7,ai.row_len (fun e he h=>(B.rw e he h).2) f kn c⟩) bl
    ·rw[Ab (show ¬ ((f.len (dw bs):Nat):Int)<=2000 by omega)]
     refine aC (kd0 ⟨w,f,f.len (dw bs),[],p,p⟩ _ rfl rfl rfl rfl (fun z=>absurd z c) ?_ (fun a o z m1 m2 _=>kp a o z m1 m2));exact qG B2 n5 hm f51 f52 (by rw[f53];show some (HO.dK _)=some (HO.dK (_++if f.len (dw bs)<=2000 then _ else _));rw[Ag c,Bt]) (hf2.nd n5) (fun z=>absurd z c) bl
theorem ii (F:dM K "names" "FigureBook.names" cN f fd) : bp P w K mg base dq 1 f fd ["self"] (fw ck):=by
 refine F.ok ik (fun vs H Q E h=>?_) (fun cdv A outer s H vs Q E hr h=>?_)
 ·obtain⟨b,A,bs,rfl,_⟩:=h
  rfl
 ·obtain⟨b,A,bs,rfl,B,k⟩:=h
  refine⟨_,ag (am (bB (ou rfl) (by rfl) T.list Br (bM (e9 (pv 0) rfl)))),?_⟩;exact⟨_,rfl,b,ck,A.dx,_,_,rfl,B.ob,UO.f.cl,UO.f.nF,k7,A.d1,_,bs.map (·.w),rfl,B.f1,by rw[AS,AS];rfl,fun l hl=>k l hl⟩
theorem iM (F:dM K "told" "FigureBook.told" cX f fd) : bp P w K mg base (iz P w) 2 f fd ["self","word"] (jv ck cq):=by
 refine F.okX iQ (fun vs H Q E h=>?_) (fun cdv A outer s H vs Q E hr h=>?_)
 ·obtain⟨b,A,bs,w,rfl,_⟩:=h
  rfl
 ·obtain⟨b,A,bs,w,rfl,B,wl,k1,k2⟩:=h
  have hu:=ja hr
  refine⟨_,ae (aF (lV (sr hu (pv 1) (e9 (pv 0) rfl))) (ag (gF UO.eU gq rfl hr.hd rfl UO.mU (nJ (eV aj (eV (tP (pv 1)) qr))))) (ak)) (
   ag (am (jq hu (e9 (pv 0) rfl) (pv 1) (fun _ _=>rfl)))),?_⟩
  have g1:eZ H A.d1 (.str w) ((iE bs w).map fun e=>V.ref e.p):=by rw[<-db];exact eZ.k (k:=Sum.inr w) B.f1
  refine⟨_,rfl,_,rfl,b,ck,A.dx,_,_,rfl,B.ob,UO.f.cl,UO.f.nF,k7,A.d1,_,rfl,g1,_,rfl,?_⟩
  cases e:iE bs w with
  | none =>
   exact aW ⟨_,rfl,by decide,_,rfl,w,rfl,by omega,fun y hy=>⟨y,rfl,hy,fun z=>k2 e H (av.refl _)⟩⟩
  | some x =>
   rw[e]at g1;exact aC ⟨_,rfl,b,ck,A.dx,_,_,rfl,B.ob,UO.f.cl,UO.f.nF,k7,_,rfl,A.d1,_,rfl,g1,k1 x e⟩
theorem gB (F:dM K "spread" "FigureBook.spread" cF f fd)(M_FigureBook_check_names:aS P w K mg base (iz P w) ck "check_names" 12 ["self","figure"] (l9 ck cq 9))(M_FigureBook_length:aS P w K mg base dq ck "length" 12 ["self","figure"] (iS ck 9))(M_FigureBook_row_of:aS P w K mg base dq ck "row_of" 13 ["self","figure"] (fM ck 9)) : bp P w K mg base (iz P w) 14 f fd ["self","figure"] (rp ck cq cL):=by
 refine F.okX gJ (fun vs H Q E h=>?_) (fun cdv A outer s H vs Q E hr h=>?_)
 ·obtain⟨b,p,A,bs,f,rfl,_⟩:=h
  rfl
 ·obtain⟨b,p,A,bs,f,rfl,B,hf,k1,k2,k3⟩:=h
  refine⟨_,ae (bz (fu M_FigureBook_check_names (pv 0) UO.f.cl (hr.mono (by omega)) kK (bM (pv 1)))) (
   ae (aF (ao oY (fu M_FigureBook_length (pv 0) UO.f.cl (hr.mono (by omega)) fX (bM (pv 1))) (gC (by rfl) UO.mp) (au _)) (ag (gF UO.eL gq rfl hr.hd rfl UO.mL (nJ (eV aj (eV (va (gC (by rfl) UO.mp)) (eV aj qr)))))) (ak)) (
   ag (am (fu M_FigureBook_row_of (pv 0) UO.f.cl (hr.mono (by omega)) fX (bM (pv 1)))))),?_⟩
  have nC:∀ {x y z:V},(mi x y z).lookup ("check_names" : Str)=none:=d7 (by decide +kernel);have nL:∀ {x y z:V},(mi x y z).lookup ("length" : Str)=none:=d7 (by decide +kernel);have nR:∀ {x y z:V},(mi x y z).lookup ("row_of" : Str)=none:=d7 (by decide +kernel);refine⟨_,rfl,b,A.dx,_,rfl,B.ob,nC,_,rfl,b,p,A,bs,f,rfl,B,hf,fun kn H1 s1=>?_,k1⟩;have B1:=B.mono s1;have hf1:aN 9 H1 p f:=hf.mono fun _ _ z=>s1 _ _ z;refine⟨_,rfl,b,A.dx,_,rfl,B1.ob,nL,_,rfl,b,p,A,bs,f,rfl,B1.l,hf1,kn,fun H2 s2=>?_⟩;have B2:=B1.mono s2;have hf2:aN 9 H2 p f:=hf1.mono fun _ _ z=>s2 _ _ z;have s12:=s1.trans s2;refine⟨_,_,rfl,rfl,_,rfl,?_⟩
  by_cases lg:2000<f.len (dw bs)
  ·rw[Af (show (2000:Int)<((f.len (dw bs):Nat):Int) by omega)]
   exact aW ⟨_,rfl,by decide,2000,rfl,by decide +kernel,fun y hy=>⟨y,rfl,hy,_,rfl,by decide,fun z=>k2 kn lg H2 s12⟩⟩
  ·rw[Ab (show ¬ (2000:Int)<((f.len (dw bs):Nat):Int) by omega)]
   exact aC ⟨_,rfl,b,A.dx,_,rfl,B2.ob,nR,_,rfl,b,p,A,bs,f,rfl,B2.r,hf2,kn,by omega,fun l H3 hl s3 r=>k3 kn (by omega) l H3 (s12.free hl) (s12.trans s3) r⟩
theorem eF (F:dM K "check_names" "FigureBook.check_names" bG f fd)(Cinner_figures:aq P w K mg base "inner_figures" 1 ["figure"] pe)(M_FigureBook_told:aS P w K mg base (iz P w) ck "told" 2 ["self","word"] (jv ck cq)){n:Nat}(hn:n<=9)(M_FigureBook_check_names:aS P w K mg base (iz P w) ck "check_names" (n+3) ["self","figure"] (l9 ck cq n)):bp P w K mg base (iz P w) (n+3+1) f fd ["self","figure"] (l9 ck cq (n+1)):=by
 refine F.okX cI (fun vs H Q E h=>?_) (fun cdv A outer s H vs Q E hr h=>?_)
 ·obtain⟨b,p,A,bs,f,rfl,_⟩:=h
  rfl
 ·obtain⟨b,p,A,bs,f,rfl,B,hf,k1,k2⟩:=h
  refine⟨_,ae (aF (ao bd (aB ay (pv 1) (af) (fun _ _=>rfl)) (aj) (au _)) (ag (bz (fu M_FigureBook_told (pv 0) UO.f.cl (hr.mono (by omega)) kK (bM (aB ay (pv 1) (af) (fun _ _=>rfl)))))) (ak)) (
   ag (cx PassesOwn.leaving rfl (bR (aK Cinner_figures (hr.mono (by omega)) rfl (bM (pv 1)))) (fz 2 cI.nd) (ag (bz (fu M_FigureBook_check_names (pv 0) UO.f.cl (hr.mono (by omega)) kK (bM (pv 2))))))),?_⟩
  obtain⟨xs,hp⟩:=hf.hd;refine⟨_,rfl,p,_,0,_,rfl,rfl,aG.of hp,ax (j:=0) rfl,rfl,_,rfl,?_⟩;have nT:∀ {x y z:V},(mi x y z).lookup ("told" : Str)=none:=d7 (by decide +kernel);have nC:∀ {x y z:V},(mi x y z).lookup ("check_names" : Str)=none:=d7 (by decide +kernel)
  apply gK (fun σ HH=>HH=H/\σ=[some (.ref b),some (.ref p),none]/\∀ w,f=.name w->aM bs f)
  ·intro rest
   cases f with
   | name w =>
    rw[pA];obtain⟨e1,wl⟩:=hf;refine aW ⟨_,rfl,b,A.dx,_,rfl,B.ob,nT,_,rfl,p,_,1,_,rfl,rfl,aG.of e1,rfl,b,A,bs,w,rfl,B,by omega,fun e he=>?_,fun he HX sX=>k2 (fun z=>cO.mp he (bO.mp z)) HX sX⟩;exact rest _ _ ⟨rfl,rfl,fun _ _=>bO.mpr (AH.mpr ⟨e,(c5 he).1,(c5 he).2⟩)⟩
   | pl f=>rw[pC];exact aC (rest _ _ ⟨rfl,rfl,fun w z=>by cases z⟩)
   | back f=>rw[pz];exact aC (rest _ _ ⟨rfl,rfl,fun w z=>by cases z⟩)
   | row fs=>rw[pF];exact aC (rest _ _ ⟨rfl,rfl,fun w z=>by cases z⟩)
  rintro σ HH ⟨rfl,rfl,hname⟩;refine⟨_,rfl,p,n,f,rfl,hn,hf,fun l as H1 hl s1 hl1 pr=>⟨l,rfl,⟨_,aR.of hl1⟩,?_⟩⟩;have al:=Ao pr
  refine bU (K:=K) (a:=l) (xs:=as.map V.ref) (fun i σ HK=>∃ v:Option V,σ=[some (.ref b),some (.ref p),v]/\av H1 HK/\∀ u∈f.inner.take i,aM bs u)
   ⟨none,rfl,av.refl _,fun u hu=>by simp at hu⟩ (fun i σ HK _ ⟨_,_,s2,_⟩=>aR.of (s2 _ _ hl1)) ?_ ?_
  ·rintro i y σ HK hi ⟨v,rfl,s2,kn⟩
   obtain⟨a,ha,rfl⟩:=bg hi;obtain⟨u,hu,hA⟩:=bQ pr ha;have s12:=s1.trans s2;have B2:=B.mono s12;refine⟨_,rfl,b,A.dx,_,rfl,B2.ob,nC,_,rfl,b,a,A,bs,u,rfl,B2,hA.mono (fun _ _ z=>s2 _ _ z),fun ku H3 s3=>?_,fun nk H3 s3=>?_⟩
   ·refine⟨_,rfl,s2.trans s3,fun x hx=>?_⟩
    rw[AB,hu,AL]at hx;rcases AJ.mp hx with z | z
    ·exact kn x z
    ·rw[Ap.mp z];exact ku
   ·refine k2 (fun z=>nk ?_) H3 (s12.trans s3)
    by_cases q:∃ w,f=.name w
    ·obtain⟨w,rfl⟩:=q
     cases (show ([]:List ai)[i]? = some u from hu)
    ·exact (kh (fun w e=>q ⟨w,e⟩)).mp z u (Ax hu)
  rintro σ HK ⟨v,rfl,s2,kn⟩;rw[z9,al,AC]at kn;refine k1 ?_ HK (s1.trans s2)
  by_cases q:∃ w,f=.name w
  ·obtain⟨w,e⟩:=q
   exact hname w e
  ·exact (kh (fun w e=>q ⟨w,e⟩)).mpr kn
theorem gz (F:dM K "length" "FigureBook.length" bL f fd)(Cinner_figures:aq P w K mg base "inner_figures" 1 ["figure"] pe)(Csingle_length:aq P w K mg base "single_length" 1 ["figure"] nY){n:Nat}(hn:n<=9)(M_FigureBook_length:aS P w K mg base dq ck "length" (n+3) ["self","figure"] (iS ck n)):bp P w K mg base dq (n+3+1) f fd ["self","figure"] (iS ck (n+1)):=by
 refine F.ok gI (fun vs H Q E h=>?_) (fun cdv A outer s H vs Q E hr h=>?_)
 ·obtain⟨b,p,A,bs,f,rfl,_⟩:=h
  rfl
 ·obtain⟨b,p,A,bs,f,rfl,B,hf,kn,k⟩:=h
  have hu:=ja hr;have sl:sizeLine=16777216:=AQ
  refine⟨_,ae (aF (ao bd (aB ay (pv 1) (af) (fun _ _=>rfl)) (aj) (au _)) (ag (am (jq hu (e9 (pv 0) rfl) (aB ay (pv 1) (af) (fun _ _=>rfl)) (fun _ _=>rfl)))) (ak)) (
   ae (aF (ao bd (aB ay (pv 1) (af) (fun _ _=>rfl)) (aj) (au _)) (ag (am (fu M_FigureBook_length (pv 0) UO.f.cl (hr.mono (by omega)) fX (bM (aB ay (pv 1) (af) (fun _ _=>rfl)))))) (ak)) (
   ae (aF (ao bd (aB ay (pv 1) (af) (fun _ _=>rfl)) (aj) (au _)) (ag (am (aP (rM rfl) (by rfl) T.sum PyProof.Rows.boot_sum (bM (cr (so:=ah bL) (N:=dL) (N':=["inner","self","figure"]) (src:=[none,some 0,some 1]) rfl rfl pK rfl (bR (aK Cinner_figures (hr.mono (by omega)) rfl (bM (pv 1)))) (fun cl C s2 H2 ex=>⟨fz 0 (show (["inner","self","figure"]:List Str).Nodup by decide +kernel),bE,ar dg (wD K 18 (tj hr (by decide)) (aB (gS K) (pv 2) (af) (fun _ _=>rfl)) (pv 0)) (fu M_FigureBook_length (pv 1) UO.f.cl (hr.mono (by omega)) fX (bM (pv 0)))⟩)))))) (ak)) (
   ag (am (aK Csingle_length (hr.mono (by omega)) rfl (bM (pv 1))))))),?_⟩
  obtain⟨xs,hp⟩:=hf.hd;have nL:∀ {x y z:V},(mi x y z).lookup ("length" : Str)=none:=d7 (by decide +kernel);refine⟨_,rfl,p,_,0,_,rfl,rfl,aG.of hp,ax (j:=0) rfl,rfl,_,rfl,?_⟩
  cases f with
  | name w =>
   rw[pA];obtain⟨e1,wl⟩:=hf
   have g1:eZ H A.d2 (.str w) ((iE bs w).map fun e=>V.int e.n):=by rw[<-db];exact eZ.k (k:=Sum.inr w) B.f2
   cases e:iE bs w with
   | none=>exact absurd (bO.mp kn) (cO.mp e)
   | some x =>
    rw[e]at g1;refine aW ⟨_,rfl,b,ck,A.dx,_,_,rfl,B.ob,UO.f.cl,UO.f.nL,pQ,_,rfl,p,_,1,_,rfl,rfl,aG.of e1,rfl,A.d2,_,rfl,g1,?_⟩;have:=k H (av.refl _);rw[ai.len,show dw bs w=x.n by unfold dw;rw[e]]at this;exact this
  | pl f =>
   rw[pC];refine aC ⟨_,rfl,p,_,0,_,rfl,rfl,aG.of hp,ax (j:=0) rfl,rfl,_,rfl,?_⟩;rw[pB];refine aC ⟨_,rfl,p,_,0,_,rfl,rfl,aG.of hp,ax (j:=0) rfl,rfl,_,rfl,?_⟩;rw[pD];have:=k H (av.refl _);rw[ai.len]at this;exact aC ⟨_,rfl,p,f,rfl,hf.1,hf.2,this⟩
  | back f =>
   rw[pz];refine aC ⟨_,rfl,p,_,0,_,rfl,rfl,aG.of hp,ax (j:=0) rfl,rfl,_,rfl,?_⟩;rw[py];obtain⟨q,e1,e2⟩:=hf;rw[ai.len]at k;exact aW ⟨_,rfl,b,A.dx,_,rfl,B.ob,nL,_,rfl,p,_,1,_,rfl,rfl,aG.of e1,rfl,b,q,A,bs,f,rfl,B,e2,de.mp kn,k⟩
  | row fs =>
   rw[pF];refine aC ⟨_,rfl,p,_,0,_,rfl,rfl,aG.of hp,ax (j:=0) rfl,rfl,_,rfl,?_⟩;rw[pE];refine aC ⟨_,rfl,p,_,0,_,rfl,rfl,aG.of hp,ax (j:=0) rfl,rfl,_,rfl,?_⟩;rw[rB];have hf0:=hf;obtain⟨t,as,e1,e2,fl,pr⟩:=hf;have al:=Ao pr;refine aW ⟨_,rfl,p,n,.row fs,rfl,hn,hf0,fun l us H1 hl s1 hl1 pu=>⟨l,rfl,⟨_,aR.of hl1⟩,fun q hq=>?_⟩⟩;have pu:Paired (aN n H1) us (once fs):=pu;have ul:=Ao pu;have B1:=B.mono s1;have olen:(once fs).length<=100:=AX (tG fs) fl
   refine bU (K:=K) (a:=l) (xs:=us.map V.ref) (fun i σ HK=>∃ v:Option V,σ=[v,some (.ref b),some (.ref p)]/\av H1 HK/\HK q=some (.lst ((((once fs).take i).map fun u=>((cntF fs u*u.len (dw bs):Nat):Int)).map V.int)))
    ⟨none,rfl,ac hq,aa⟩ (fun i σ HK _ ⟨_,_,s2,_⟩=>aR.of (s2 _ _ hl1)) ?_ ?_
   ·rintro i y σ HK hi ⟨v,rfl,s2,hq2⟩
    obtain⟨a,ha,rfl⟩:=bg hi;obtain⟨u,hu,hA⟩:=bQ pu ha;have s12:=s1.trans s2;have B2:=B.mono s12;have e2':=s12 _ _ e2;have prd:Paired (fun (a:Addr)(e:Dt)=>RD K HK 18 (.ref a) e) as (ai.dtL fs):=aN.rds hn (Paired.mapP pr fun _ _ z=>z.mono fun _ _ y=>s12 _ _ y);have hA2:aN n HK a u:=hA.mono fun _ _ z=>s2 _ _ z;have ku:aM bs u:=ce.mp kn u (jm.mp (Ax hu));refine cu ⟨_,rfl,p,_,1,_,rfl,rfl,aG.of (s12 _ _ e1),rfl,t,rfl,⟨_,e2'⟩,_,rfl,as,u.dt,_,e2',RD.up hA2.rd (by omega),prd,fun c hc=>?_⟩;have hc:c=cntF fs u:=wd hc;have cle:=wc fs u;refine⟨_,rfl,b,A.dx,_,rfl,B2.ob,nL,_,rfl,b,a,A,bs,u,rfl,B2,hA2,ku,fun H3 s3=>?_⟩;refine⟨_,_,rfl,rfl,.inl ⟨by omega,by omega⟩,_,s3 _ _ hq2,by rw[z9,z9,Av];omega,_,rfl,bc (s2.trans s3) hq,?_⟩;rw[aa,AB,hu,AL,Ah,Ah,hc,<-Int.natCast_mul];rfl
   rintro σ HK ⟨v,rfl,s2,hq2⟩;rw[z9,ul,AC]at hq2;refine⟨q,_,rfl,aR.of hq2,?_⟩;have:=k HK (s1.trans s2);rw[ai.len,je,<-uK,<-pj,AS]at this;exact this
theorem gA (F:dM K "row_of" "FigureBook.row_of" cE f fd)(Cturned_row:aq P w K mg base "turned_row" 1 ["row"] (jA K))(Csingle_row:aq P w K mg base "single_row" 3 ["figure"] iR){n:Nat}(hn:n<=9)(M_FigureBook_row_of:aS P w K mg base dq ck "row_of" (n+4) ["self","figure"] (fM ck n)):bp P w K mg base dq (n+4+1) f fd ["self","figure"] (fM ck (n+1)):=by
 refine F.ok cy (fun vs H Q E h=>?_) (fun cdv A outer s H vs Q E hr h=>?_)
 ·obtain⟨b,p,A,bs,f,rfl,_⟩:=h
  rfl
 ·obtain⟨b,p,A,bs,f,rfl,B,hf,kn,lt,k⟩:=h
  have hu:=ja hr;have sl:sizeLine=16777216:=AQ
  refine⟨_,ae (aF (ao bd (aB ay (pv 1) (af) (fun _ _=>rfl)) (aj) (au _)) (ag (am (bB fC (by rfl) T.list Br (bM (jq hu (e9 (pv 0) rfl) (aB ay (pv 1) (af) (fun _ _=>rfl)) (fun _ _=>rfl)))))) (ak)) (
   ae (aF (ao bd (aB ay (pv 1) (af) (fun _ _=>rfl)) (aj) (au _)) (ag (am (aK Cturned_row (hr.mono (by omega)) rfl (bM (fu M_FigureBook_row_of (pv 0) UO.f.cl (hr.mono (by omega)) fX (bM (aB ay (pv 1) (af) (fun _ _=>rfl)))))))) (ak)) (
   ae (aF (ao bd (aB ay (pv 1) (af) (fun _ _=>rfl)) (aj) (au _)) (ae (aJ 2 cy.nd (bD aT)) (
   ae (cx AO rfl (jU (aB ay (pv 1) (af) (fun _ _=>rfl))) (fz 3 cy.nd) (ag (bz (fm Ay PySem.F.slot_list_extend PySem.F.type_list_extend sg (pv 2) (bM (fu M_FigureBook_row_of (pv 0) UO.f.cl (hr.mono (by omega)) fX (bM (pv 3)))))))) (
   ag (am (pv 2))))) (ak)) (
   ag (am (aK Csingle_row (hr.mono (by omega)) rfl (bM (pv 1))))))),?_⟩
  obtain⟨xs,hp⟩:=hf.hd;have nL:∀ {x y z:V},(mi x y z).lookup ("row_of" : Str)=none:=d7 (by decide +kernel);have okr:∀ e∈bs,e.n<=2000->e.r.length=e.n:=fun e he h=>(B.rw e he h).2;refine⟨_,rfl,p,_,0,_,rfl,rfl,aG.of hp,ax (j:=0) rfl,rfl,_,rfl,?_⟩
  cases f with
  | name w =>
   rw[pA];obtain⟨e1,wl⟩:=hf
   cases e:iE bs w with
   | none=>exact absurd (bO.mp kn) (cO.mp e)
   | some x =>
    rw[ai.len,show dw bs w=x.n by unfold dw;rw[e]]at lt
    have g1:eZ H A.d3 (.str w) (((iE (bs.filter dF) w).map fun e=>V.ref e.l)):=by rw[<-db];exact eZ.k (k:=Sum.inr w) B.f3
    rw[rF B.nd e lt]at g1;obtain⟨⟨as,hl,pr⟩,rl⟩:=B.rw x (c5 e).1 lt;refine aW ⟨_,rfl,b,ck,A.dx,_,_,rfl,B.ob,UO.f.cl,UO.f.nR,sO,_,rfl,p,_,1,_,rfl,rfl,aG.of e1,rfl,A.d3,_,rfl,g1,x.l,_,rfl,.inl (aR.of hl),fun l2 h2=>?_⟩;refine k l2 _ h2 (ac h2) ?_;rw[ai.rowF,show mj bs w=x.r by unfold mj;rw[e]];exact⟨as,aa,Paired.mapP pr fun _ _ z=>ac h2 _ _ z⟩
  | pl f =>
   rw[pC];refine aC ⟨_,rfl,p,_,0,_,rfl,rfl,aG.of hp,ax (j:=0) rfl,rfl,_,rfl,?_⟩;rw[pB];refine aC ⟨_,rfl,p,_,0,_,rfl,rfl,aG.of hp,ax (j:=0) rfl,rfl,_,rfl,?_⟩;rw[pD];rw[ai.rowF]at k;exact aC ⟨_,rfl,p,f,rfl,hf.1,hf.2,k⟩
  | back f =>
   rw[pz];refine aC ⟨_,rfl,p,_,0,_,rfl,rfl,aG.of hp,ax (j:=0) rfl,rfl,_,rfl,?_⟩;rw[py];obtain⟨q,e1,e2⟩:=hf;rw[ai.len]at lt;rw[ai.rowF]at k;refine aW ⟨_,rfl,b,A.dx,_,rfl,B.ob,nL,_,rfl,p,_,1,_,rfl,rfl,aG.of e1,rfl,b,q,A,bs,f,rfl,B,e2,de.mp kn,lt,fun l H1 hl s1 row=>?_⟩;obtain⟨as,hl1,pr⟩:=row;refine⟨l,_,rfl,aR.of hl1,fun l2 h2=>k l2 _ (s1.free h2) (s1.trans (ac h2)) ?_⟩;rw[<-List.map_reverse];exact⟨as.reverse,aa,d9 (Paired.mapP pr fun _ _ z=>ac h2 _ _ z)⟩
  | row fs =>
   rw[pF];refine aC ⟨_,rfl,p,_,0,_,rfl,rfl,aG.of hp,ax (j:=0) rfl,rfl,_,rfl,?_⟩;rw[pE];refine aC ⟨_,rfl,p,_,0,_,rfl,rfl,aG.of hp,ax (j:=0) rfl,rfl,_,rfl,?_⟩;rw[rB];obtain⟨t,as,e1,e2,fl,pr⟩:=hf;have al:=Ao pr;rw[ai.len]at lt;rw[ai.rowF,gG]at k;have kn:=ce.mp kn;refine aW ⟨Au _,fun l hl=>?_⟩;have s1:=ac (o:=.lst []) hl;refine⟨_,rfl,p,_,1,_,rfl,rfl,aG.of (s1 _ _ e1),rfl,t,rfl,⟨_,aG.of (s1 _ _ e2)⟩,?_⟩
   refine gR (K:=K) (a:=t) (xs:=as.map V.ref) (fun i σ HK=>∃ v:Option V,σ=[some (.ref b),some (.ref p),some (.ref l),v]/\av H HK/\bF HK l ((fs.take i).flatMap (ai.rowF (mj bs))))
    ⟨none,rfl,s1,⟨[],aa,.nil⟩⟩ (fun i σ HK _ ⟨_,_,s2,_⟩=>aG.of (s2 _ _ e2)) ?_ ?_
   ·rintro i y σ HK hi ⟨v,rfl,s2,row⟩
    obtain⟨a,ha,rfl⟩:=bg hi;obtain⟨u,hu,hA⟩:=bQ pr ha;have um:=Ax hu;have ul:=qY (e:=dw bs) um;have B2:=B.mono s2;obtain⟨cs,hl2,pc⟩:=id row;refine⟨_,rfl,.inl ⟨rfl,_,aR.of hl2⟩,_,rfl,b,A.dx,_,rfl,B2.ob,nL,_,rfl,b,a,A,bs,u,rfl,B2,hA.mono (fun _ _ z=>s2 _ _ z),kn u um,by omega,fun l3 H3 hl3 s3 row3=>?_⟩;obtain⟨ds,hl4,pd⟩:=row3;have hl2':=s3 _ _ hl2;have rl1:=Ao pc;have rl2:=Ao pd
    have len1:=ai.row_lenL okr (fs.take i) (fun g hg=>kn g (List.mem_of_mem_take hg)) (by
     have:=gT (e:=dw bs) i fs
     omega)
    rw[gG]at len1;have len2:=ai.row_len okr u (kn u um) (by omega);have lle:=gT (e:=dw bs) i fs;refine⟨l,l3,_,_,rfl,rfl,hl2',hl4,by rw[z9,z9];omega,?_⟩;refine⟨_,rfl,bc (s2.trans s3) hl,?_⟩;rw[AB,hu,AL,List.flatMap_append,List.flatMap_singleton,<-Ah]
    have up:∀ c xs,H3 c=some (.tup xs)->aD H3 l (.lst ((cs++ds).map V.ref)) c=some (.tup xs):=fun c xs e=>by rw[ap (fun z=>by rw[z,hl2']at e;cases e)];exact e
    exact⟨cs++ds,aa,aQ (Paired.mapP pc fun _ _ z=>up _ _ (s3 _ _ z)) (Paired.mapP pd fun _ _ z=>up _ _ z)⟩
   rintro σ HK ⟨v,rfl,s2,row⟩;rw[z9,al,AC]at row;exact⟨_,rfl,k l HK hl s2 row⟩
theorem lJ (F:dM K "_law_cell_at" "_law_cell_at" eh f fd) : bp P w K mg base dq 1 f fd ["_law_script","_law_k"] (l7 K):=by
 refine F.ok lX (fun vs H Q E h=>?_) (fun cdv A outer s H vs Q E hr h=>?_)
 ·obtain⟨a,ns,k,rfl,_⟩:=h
  rfl
 ·obtain⟨a,ns,i,rfl,hS,hi,k⟩:=h
  refine⟨_,ae (aF (ao re (pv 1) (aP a9 (by rfl) T.len AW (aA (pv 0) aT)) (au _)) (ag (am (aB fF (pv 0) (pv 1) (fun _ _=>rfl)))) ak) (ag (am af)),?_⟩;refine⟨_,rfl,_,rfl,a,_,rfl,.inl hS,_,_,rfl,rfl,_,rfl,?_⟩;unfold gk at k;rw[z9]
  by_cases hc:i<(ns.length:Int)
  ·rw[Ai hc]at k
   rw[Af hc];refine aW ⟨_,rfl,_,rfl,a,_,_,_,rfl,rfl,hS,?_,k⟩;have e:i=((i.toNat:Nat):Int):=(Int.toNat_of_nonneg hi).symm
   have hl:i.toNat<ns.length:=by omega
   rw[e];refine ax ?_;rw[List.getElem?_map,List.getD_eq_getElem?_getD,By,List.getElem?_eq_getElem hl];rfl
  ·rw[Ag hc]at k
   rw[Ab hc];exact aC k
theorem nD (F:dM K "_law_whole" "_law_whole" fS f fd) : bp P w K mg base dq 1 f fd ["_law_found"] kU:=by
 refine F.ok nO (fun vs H Q E h=>?_) (fun cdv A outer s H vs Q E hr h=>?_)
 ·obtain⟨i,rfl,_⟩:=h
  rfl
 ·obtain⟨i,rfl,k⟩:=h
  refine⟨_,ag (am (nI (aP i7 (by rfl) T.isinstance Bp (aA (pv 0) (aA (kL (v:=.ty "int") (by rfl) T.int PyProof.Rows.boot_int rfl) aT))) (jS (wE (aP i7 (by rfl) T.isinstance Bp (aA (pv 0) (aA (kL (v:=.ty "bool") (by rfl) T.bool PyProof.Rows.boot_bool rfl) aT))))))),?_⟩;refine⟨_,rfl,_,_,_,true,rfl,gh.int i,rfl,_,rfl,aW ?_⟩;exact⟨_,rfl,_,_,_,false,rfl,gh.int i,rfl,_,rfl,k⟩
theorem oW (F:dM K "_law_size" "_law_size" gN f fd) : bp P w K mg base dq 1 f fd ["_law_cell"] jZ:=by
 refine F.ok pb (fun vs H Q E h=>?_) (fun cdv A outer s H vs Q E hr h=>?_)
 ·obtain⟨c,rfl,_⟩:=h
  rfl
 ·obtain⟨c,rfl,k⟩:=h
  refine⟨_,ae (aF (ao re (pv 0) af (au _)) (ag (am (xH wQ (pv 0)))) ak) (ag (am (pv 0))),?_⟩;refine⟨_,rfl,_,_,rfl,rfl,_,rfl,?_⟩;unfold fB at k
  by_cases hc:c<0
  ·rw[Ai hc]at k
   rw[Af hc];exact aW ⟨_,rfl,_,rfl,k⟩
  ·rw[Ag hc]at k
   rw[Ab hc];exact aC ⟨_,rfl,k⟩
theorem nv (F:dM K "_law_draws" "_law_draws" fO f fd)(bX:aq P w K mg base "_law_size" 1 ["_law_cell"] jZ) : bp P w K mg base dq 2 f fd ["_law_cell","_law_many","_law_base"] gZ:=by
 refine F.ok bh (fun vs H Q E h=>?_) (fun cdv A outer s H vs Q E hr h=>?_)
 ·obtain⟨c,m,b,rfl,_⟩:=h
  rfl
 ·obtain⟨c,m,b,rfl,⟨m0,m1⟩,⟨b0,b1⟩,k⟩:=h
  refine⟨_,ae (dE (i:=3) bh.nd rfl (Or.inl rfl) (aK bX hr rfl (aA (pv 0) aT)))
   (ae (dE (i:=4) bh.nd rfl (Or.inl rfl) (bD aT))
   (ae (aF (ao xF (pv 3) (ar tI af af) (au _))
    (ae (dE (i:=3) bh.nd rfl (Or.inl rfl) (ar lR (pv 3) (ar tI af af)))
    (ae (dE (i:=5) bh.nd rfl (Or.inl rfl) (ar bq (pv 3) (ar bC (pv 1) af)))
    (ae (dE (i:=3) bh.nd rfl (Or.inl rfl) (ar bK (pv 3) (ar bC (pv 1) af)))
    (ae (cx AO rfl (dW rfl T.range (aA (pv 5) aT)) (kM (i:=6) bh.nd rfl (Or.inl rfl))
     (ae (bz (fm Ay AD AE bH (pv 4) (aA (ar bq (pv 3) (pv 2)) aT)))
     (ag (dE (i:=3) bh.nd rfl (Or.inl rfl) (ar bK (pv 3) (pv 2))))))
    (ag (am (pv 4)))))))
    ak)
   (ae (dE (i:=7) bh.nd rfl (Or.inl rfl) (ar bC (ar bq (pv 3) af) af))
   (ae (cx AO rfl (dW rfl T.range (aA (ar bq (pv 3) (ar bC (pv 1) af)) aT)) (kM (i:=6) bh.nd rfl (Or.inl rfl))
     (ae (dE (i:=7) bh.nd rfl (Or.inl rfl) (ar bq (ar dg (pv 7) af) af))
     (ag (bz (fm Ay AD AE bH (pv 4) (aA (ar bq (ar bK (ar bq (ar dg (pv 7) af) af) af) (pv 2)) aT))))))
   (ag (am (pv 4))))))),?_⟩
  refine⟨_,rfl,_,rfl,by show 0<=sizeLine;exact Au _,fun l hl=>?_⟩
  have big:(10:Int) ^ (18:Int).toNat=1000000000000000000:=by decide
  have room:∀ ds:List Int,(ds.length:Int)<=1000->(ds.map V.int).length<sizeLine:=fun ds h=>by rw[z9];exact cg (by omega)
  have app:∀ (ds:List Int)(z:Int),aD (aD H l (.lst (ds.map V.int))) l (.lst (ds.map V.int++[V.int z]))=aD H l (.lst ((ds++[z]).map V.int)):=fun ds z=>by rw[og,Ah];rfl
  have inb:∀ (ds:List Int)(z:Int),(∀ d∈ds,0<=d/\d<b)->∀ d∈ds++[z%b],0<=d/\d<b:=fun ds z h d hd=>by
   rcases AJ.mp hd with hd | hd
   ·exact h d hd
   ·rw[Ap.mp hd];exact⟨Bg _ (by omega),A7 _ b0⟩
  refine⟨_,rfl,_,_,rfl,rfl,⟨by decide,by decide,by decide⟩,_,_,rfl,rfl,_,rfl,?_⟩;refine yN (fun _=>?_) (fun _=>?_)
  ·refine⟨_,rfl,_,_,rfl,rfl,⟨by decide,by decide,by decide⟩,_,_,rfl,rfl,?_⟩
   refine⟨_,rfl,_,rfl,_,_,rfl,rfl,_,_,rfl,rfl,by show (0:Int)<m+1;omega,?_⟩;refine⟨_,rfl,_,rfl,_,_,rfl,rfl,_,_,rfl,rfl,⟨by show (0:Int)<m+1;omega,by show m+1<1073741824;omega⟩,?_⟩;have cb:=A7 (fB c-(10:Int) ^ (18:Int).toNat) (show 0<m+1 by omega);have cn:=Bg (fB c-(10:Int) ^ (18:Int).toNat) (show m+1≠0 by omega)
   refine⟨_,rfl,_,rfl,by omega,by omega,dc (n:=((fB c-(10:Int) ^ (18:Int).toNat)%(m+1)).toNat) (fun i σ H2=>∃ (z:Int)(v:Option V)(ds:List Int),σ=[some (.int c),some (.int m),some (.int b),some (.int z),some (.ref l),some (.int ((fB c-(10:Int) ^ (18:Int).toNat)%(m+1))),v,none]/\H2=aD H l (.lst (ds.map V.int))/\ds.length=i/\∀ d∈ds,0<=d/\d<b)
    ⟨_,none,[],rfl,rfl,rfl,fun _ z=>nomatch z⟩ ?_ ?_⟩
   ·rintro i σ H2 hi ⟨z,v,ds,rfl,rfl,hlen,hds⟩
    refine⟨_,rfl,.inl ⟨rfl,_,aR.of aa⟩,_,rfl,_,rfl,_,_,rfl,rfl,b0,l,_,_,rfl,rfl,aa,room ds (by omega),?_⟩;refine⟨_,rfl,_,rfl,_,_,rfl,rfl,⟨b0,b1⟩,?_⟩;exact⟨_,_,ds++[z%b],rfl,app ds _,by rw[An,hlen];rfl,inb ds z hds⟩
   ·rintro σ H2 ⟨z,v,ds,rfl,rfl,hlen,hds⟩
    exact⟨_,rfl,k l ds hl hds (by omega)⟩
  ·refine⟨_,rfl,_,_,rfl,rfl,by show (0:Int)<2147483629;decide,_,_,rfl,rfl,?_⟩
   have cb:=A7 (fB c) (show 0<m+1 by omega);have cn:=Bg (fB c) (show m+1≠0 by omega);refine⟨_,rfl,_,rfl,_,_,rfl,rfl,_,_,rfl,rfl,by show (0:Int)<m+1;omega,?_⟩
   refine⟨_,rfl,by omega,by omega,dc (n:=(fB c%(m+1)).toNat) (fun i σ H2=>∃ (z:Int)(v:Option V)(ds:List Int),σ=[some (.int c),some (.int m),some (.int b),some (.int (fB c)),some (.ref l),none,v,some (.int z)]/\H2=aD H l (.lst (ds.map V.int))/\ds.length=i/\∀ d∈ds,0<=d/\d<b)
    ⟨_,none,[],rfl,rfl,rfl,fun _ z=>nomatch z⟩ ?_ ?_⟩
   ·rintro i σ H2 hi ⟨z,v,ds,rfl,rfl,hlen,hds⟩
    refine⟨_,rfl,_,_,rfl,rfl,.inr ⟨by decide,by decide⟩,_,_,rfl,rfl,by show (0:Int)<2147483647;decide,?_⟩;refine⟨_,rfl,.inl ⟨rfl,_,aR.of aa⟩,_,rfl,_,_,rfl,rfl,.inr ⟨by decide,by decide⟩,_,_,rfl,rfl,by show (0:Int)<998244353;decide,_,_,rfl,rfl,⟨by decide,by decide⟩,_,rfl,_,_,rfl,rfl,b0,l,_,_,rfl,rfl,aa,room ds (by omega),?_⟩;exact⟨_,_,ds++[_],rfl,app ds _,by rw[An,hlen];rfl,inb ds _ hds⟩
   ·rintro σ H2 ⟨z,v,ds,rfl,rfl,hlen,hds⟩
    exact⟨_,rfl,k l ds hl hds (by omega)⟩
theorem ny (F:dM K "_law_guest" "_law_guest" fP f fd)(bX:aq P w K mg base "_law_size" 1 ["_law_cell"] jZ) : bp P w K mg base dq 2 f fd ["_law_k","_law_cell"] g9:=by
 refine F.ok dP (fun vs H Q E h=>?_) (fun cdv A outer s H vs Q E hr h=>?_)
 ·obtain⟨k,c,rfl,_⟩:=h
  rfl
 ·obtain⟨i,c,rfl,⟨i0,i1⟩,k⟩:=h
  refine⟨_,ae (dE (i:=2) dP.nd rfl (Or.inl rfl) (aK bX hr rfl (aA (pv 1) aT)))
   (ae (dE (i:=3) dP.nd rfl (Or.inl rfl) (ar bC af (ar bq (ar dg (pv 2) af) af)))
   (ae (dE (i:=4) dP.nd rfl (Or.inl rfl) (ar bq (ar bC (ar dg (pv 0) (pv 3)) (ar tH (pv 2) af)) af))
   (ae (aF (ao bd (ar bq (pv 2) af) af (au _)) (ag (am (ar bC (pv 4) af))) ak)
   (ag (am (pv 4)))))),?_⟩
  refine⟨_,rfl,_,rfl,?_⟩;refine⟨_,rfl,_,_,rfl,rfl,.inr ⟨by decide,by decide⟩,_,_,rfl,rfl,by show (0:Int)<2147483646;decide,_,_,rfl,rfl,?_⟩;refine⟨_,rfl,_,rfl,_,_,rfl,rfl,.inl ⟨by show (-(2 ^ 64):Int)<i;omega,by show i<(2 ^ 64:Int);omega⟩,_,rfl,_,_,rfl,rfl,⟨by decide,by decide⟩,_,_,rfl,rfl,_,_,rfl,rfl,by show (0:Int)<2147483647;decide,?_⟩;refine⟨_,rfl,_,_,rfl,rfl,by show (0:Int)<5;decide,rfl,_,rfl,?_⟩;unfold lj at k;dsimp only at k
  by_cases hc:fB c%5=4
  ·rw[Ai hc]at k
   rw[Af (show V.int (fB c%5)=V.int 4 by rw[hc])];exact aW ⟨_,rfl,_,_,rfl,rfl,k⟩
  ·rw[Ag hc]at k
   rw[Ab (show ¬ V.int (fB c%5)=V.int 4 from fun z=>hc (by injection z))];exact aC ⟨_,rfl,k⟩
theorem oV (F:dM K "_law_pair" "_law_pair" gM f fd)(eG:aq P w K mg base "_law_whole" 1 ["_law_found"] kU) : bp P w K mg base dq 2 f fd ["_law_found"] kS:=by
 refine F.ok o9 (fun vs H Q E h=>?_) (fun cdv A outer s H vs Q E hr h=>?_)
 ·obtain⟨a,p,rfl,_⟩:=h
  rfl
 ·obtain⟨a,p,rfl,hp,k⟩:=h
  refine⟨_,ae (aF (o7 (fL (fb (aP i7 (by rfl) T.isinstance Bp (aA (pv 0) (aA (kL (v:=.ty "tuple") (by rfl) T.tuple AU rfl) aT))))) (nK (ao lQ (aP a9 (by rfl) T.len AW (aA (pv 0) aT)) af (au _)))).pt (ag (am eR)) ak)
   (ag (am (nI (aK eG hr rfl (aA (aB ay (pv 0) af (fun _ _=>rfl)) aT)) (jS (aK eG hr rfl (aA (aB ay (pv 0) af (fun _ _=>rfl)) aT)))))),?_⟩
  refine⟨_,rfl,_,_,_,true,rfl,gh.tup hp,rfl,_,rfl,aC ?_⟩;refine⟨_,rfl,a,_,rfl,.inr (aG.of hp),rfl,_,rfl,aC ?_⟩;refine⟨_,rfl,a,_,_,_,rfl,rfl,aG.of hp,rfl,_,rfl,_,rfl,aW ?_⟩;exact⟨_,rfl,a,_,_,_,rfl,rfl,aG.of hp,rfl,_,rfl,k⟩
theorem qm (F:dM K "_law_row" "_law_row" fQ f fd)(iA:aq P w K mg base "_law_pair" 2 ["_law_found"] kS) : bp P w K mg base dq 3 f fd ["_law_found"] me:=by
 refine F.ok qx (fun vs H Q E h=>?_) (fun cdv A outer s H vs Q E hr h=>?_)
 ·obtain⟨l,ps,rfl,_⟩:=h
  rfl
 ·obtain⟨l,ps,rfl,⟨as,hl,hp⟩,hlen,k⟩:=h
  refine⟨_,ae (aF (fL (fb (aP i7 (by rfl) T.isinstance Bp (aA (pv 0) (aA (kL (v:=.ty "list") (by rfl) T.list Br rfl) aT))))) (ag (am eR)) ak)
   (ag (am (aP (gQ rfl) (by rfl) T.all PyProof.Rows.boot_all (aA (cr (so:=ah fQ) (N:=mX) (N':=["_law_pair_here"]) (src:=[none]) rfl rfl ⟨rfl,by decide +kernel,by decide +kernel,by decide +kernel,by decide +kernel,rfl,by decide +kernel⟩ rfl (bR (pv 0))
    (fun cl C s2 H2 ex=>⟨kM (i:=0) (show (["_law_pair_here"]:List Str).Nodup by decide +kernel) rfl (Or.inl rfl),bE,aK iA hr rfl (aA (pv 0) aT)⟩)) aT)))),?_⟩
  refine⟨_,rfl,_,_,_,true,rfl,gh.lst hl,rfl,_,rfl,aC ?_⟩;refine⟨_,rfl,l,rfl,⟨_,aR.of hl⟩,fun q hq=>?_⟩;have hlq:l≠q:=aH hl hq
  refine bU (K:=K) (a:=l) (xs:=as.map V.ref) (fun i σ H2=>∃ (v:Option V),σ=[v]/\av H H2/\H2 q=some (.lst ((List.replicate i true).map V.bl)))
   ⟨none,rfl,ac hq,aa⟩ (fun i σ H2 _ ⟨_,_,s2,_⟩=>aR.of (s2 _ _ hl)) ?_ ?_
  ·rintro i y σ H2 hi ⟨v,rfl,s2,hq2⟩
   have hil:i<as.length:=by have:=(List.getElem?_eq_some_iff.mp hi).1;simpa using this
   obtain⟨a,ha,rfl⟩:=bg hi;obtain⟨p,_,hpa⟩:=bQ hp ha;have hpl:=Ao hp;refine cu ⟨_,rfl,a,p,rfl,s2 _ _ hpa,_,hq2,by rw[z9,List.length_replicate];have sl:sizeLine=16777216:=AQ;omega,?_⟩;exact⟨_,rfl,bc s2 hq,by rw[aa,List.replicate_succ',Ah];rfl⟩
  ·rintro σ H2 ⟨v,rfl,s2,hq2⟩
   refine⟨q,List.replicate as.length true,rfl,aR.of (by rw[hq2,z9]),?_⟩;rw[show (List.replicate as.length true).all id=true by simp];exact k H2 s2
theorem oX (F:dM K "_law_word" "_law_word" gO f fd)(bI:aq P w K mg base "_law_draws" 2 ["_law_cell","_law_many","_law_base"] gZ) : bp P w K mg base dq 3 f fd ["_law_cell"] rz:=by
 refine F.ok dz (fun vs H Q E h=>?_) (fun cdv A outer s H vs Q E hr h=>?_)
 ·obtain⟨c,rfl,_⟩:=h
  rfl
 ·obtain⟨c,rfl,k⟩:=h
  have sl:sizeLine=16777216:=AQ
  refine⟨_,ae (aJ 1 dz.nd (aj)) (
   ae (aJ 2 dz.nd (aj)) (
   ae (cx AO rfl (bR (aK bI hr.m rfl (qp (pv 0) (af) (af)))) (fz 3 dz.nd) (ag (aJ 2 dz.nd (ar lO (pv 2) (aB wk (pv 1) (pv 3) (fun _ _=>rfl)))))) (
   ae (aF (ao jR (pv 2) (bD (fK (fK (fK (fK (fK (fK (fK (fK (fK (aT))))))))))) rfl) (ag (am (aj))) (ak)) (
   ag (am (pv 2)))))),?_⟩
  refine⟨_,rfl,c,12,26,rfl,⟨by decide,by decide⟩,⟨by decide,by decide⟩,fun l ds hl hd hn=>⟨l,rfl,⟨_,aR.of aa⟩,?_⟩⟩;have s1:=ac (o:=.lst (ds.map V.int)) hl
  refine bU (K:=K) (a:=l) (xs:=ds.map V.int) (fun i σ HK=>∃ (v:Option V)(w:Str),σ=[some (.int c),some (.str "abcdefghijklmnopqrstuvwxyz"),some (.str w),v]/\av (aD H l (.lst (ds.map V.int))) HK/\w.cps.toList.all eQ=true/\w.length=i)
   ⟨none,_,rfl,av.refl _,by decide +kernel,by decide +kernel⟩ (fun i σ HK _ ⟨_,_,_,s2,_⟩=>aR.of (s2 _ _ aa)) ?_ ?_
  ·rintro i y σ HK hi ⟨v,w,rfl,s2,aw,lw⟩
   obtain⟨d,hd1,rfl⟩:=bg hi;have hil:=(List.getElem?_eq_some_iff.mp hd1).1;obtain⟨d0,d1⟩:=hd d (Ax hd1);obtain⟨c2,hc,e⟩:=uX d0 d1;refine⟨_,rfl,_,rfl,_,rfl,_,d,c2,rfl,rfl,by rw[sl];decide +kernel,e,w,_,rfl,rfl,?_,?_⟩
   ·show w.length+1<=sizeLine
    omega
   exact⟨_,_,rfl,s2,rX aw hc,by rw[tw,lw]⟩
  rintro σ HK ⟨v,w,rfl,s2,aw,lw⟩;rw[z9]at lw;refine⟨_,rfl,by rw[sl];decide,fun l2 hl2=>⟨l2,_,rfl,.inl (aR.of aa),rfl,rfl,_,rfl,?_⟩⟩;have s3:=(s1.trans s2).trans (ac (o:=.lst (["","pair","line","star","all","quad","row","back","name"].map fun x=>V.str (Str.ofString x))) hl2);refine fE (fun _=>?_) (fun c9=>?_)
  ·exact k _ _ (by decide +kernel) s3
  ·have c9:uS (V.str w) ((("" : Str)::kindsL).map V.str)=false:=c9
   rw[kG]at c9;exact⟨_,rfl,k w _ (xC aw (by omega) (of_decide_eq_false c9)) s3⟩
theorem nA (F:dM K "_law_ranks" "_law_ranks" dS f fd) : bp P w K mg base dq 1 f fd ["_law_drawn"] kT:=by
 refine F.ok dQ (fun vs H Q E h=>?_) (fun cdv A outer s H vs Q E hr h=>?_)
 ·obtain⟨d,rfl,_⟩:=h
  rfl
 ·obtain⟨d,rfl,d0,k⟩:=h
  refine⟨_,ae (aJ 1 dQ.nd (ar bC (af) (ar bq (pv 0) (af)))) (
   ae (aF (ao oY (ar bq (ar bK (pv 0) (af)) (af)) (af) (au _)) (ag (aJ 1 dQ.nd (ar bC (af) (ar bq (ar bK (pv 0) (af)) (af))))) (ak)) (
   ae (aJ 2 dQ.nd (ar bq (ar bK (pv 0) (af)) (af))) (
   ag (am (cr (so:=ah dS) (N:=km) (N':=["_law_k","_law_drawn","_law_step"]) (src:=[none,some 0,some 2]) rfl rfl pK rfl (dW (by rfl) T.range (bM (pv 1))) (fun cl C s2 H2 ex=>⟨fz 0 (show (["_law_k","_law_drawn","_law_step"]:List Str).Nodup by decide +kernel),bE,ar bq (ar bC (ar bK (pv 1) (af)) (ar dg (pv 2) (pv 0))) (af)⟩)))))),?_⟩
  have em:∀ z m:Int,0<m->0<=z%m/\z%m<m:=fun z m h=>⟨Bg _ (by omega),A7 _ h⟩;refine⟨_,rfl,_,_,rfl,rfl,by show (0:Int)<6;decide,_,_,rfl,rfl,?_⟩;refine⟨_,rfl,_,_,rfl,rfl,⟨by decide,by decide⟩,_,_,rfl,rfl,by show (0:Int)<61;decide,_,_,rfl,rfl,_,rfl,?_⟩;have a1:=em d 6 (by decide)
  apply gK (fun σ HH=>HH=H/\∃ m:Nat,σ=[some (.int d),some (.int (m:Int)),none]/\2<=m/\m<=60)
  ·intro rest
   by_cases c1:d/6%61>54
   ·rw[Af c1]
    have a2:=em (d/366) 53 (by decide);refine aW ⟨_,rfl,_,_,rfl,rfl,⟨by decide,by decide⟩,_,_,rfl,rfl,by show (0:Int)<53;decide,_,_,rfl,rfl,?_⟩;exact rest _ _ ⟨rfl,(8+d/366%53).toNat,by rw[Int.toNat_of_nonneg (by omega)];rfl,by omega,by omega⟩
   ·rw[Ab c1]
    exact aC (rest _ _ ⟨rfl,(2+d%6).toNat,by rw[Int.toNat_of_nonneg (by omega)];rfl,by omega,by omega⟩)
  rintro σ HH ⟨rfl,m,rfl,m0,m1⟩;have a3:=em (d/366) 6 (by decide);refine⟨_,rfl,_,_,rfl,rfl,⟨by decide,by decide⟩,_,_,rfl,rfl,by show (0:Int)<6;decide,?_⟩;refine⟨_,rfl,(m:Int),rfl,by omega,by omega,fun l hl=>?_⟩
  refine dc (n:=m) (fun i σ H2=>∃ (v:Option V)(xs:List Int),σ=[v,some (.int d),some (.int (d/366%6))]/\xs.length=i/\(∀ r∈xs,0<=r/\r<12)/\H2=aD HH l (.lst (xs.map V.int)))
   ⟨none,[],rfl,rfl,(fun _ z=>nomatch z),rfl⟩ ?_ ?_
  ·rintro i σ H2 hi ⟨v,xs,rfl,hx,hr2,rfl⟩
   refine cu ⟨_,rfl,_,_,rfl,rfl,⟨by decide,by decide⟩,_,rfl,_,rfl,_,_,rfl,rfl,.inl ⟨by omega,by omega⟩,_,_,rfl,rfl,_,_,rfl,rfl,by show (0:Int)<12;decide,_,aa,by rw[z9];exact cg (by omega),?_⟩;refine⟨_,xs++[(d/2196+d/366%6*(0+(i:Int)))%12],rfl,by rw[An,hx];rfl,fun r hr3=>?_,?_⟩
   ·rcases AJ.mp hr3 with z | z
    ·exact hr2 r z
    ·rw[Ap.mp z];exact em _ 12 (by decide)
   ·rw[og,Ah]
    rfl
  rintro σ H2 ⟨v,xs,rfl,hx,hr2,rfl⟩;exact k l xs hl (by omega) (by omega) hr2
theorem nz (F:dM K "_law_plain" "_law_plain" da f fd)(gc:aq P w K mg base "_law_ranks" 1 ["_law_drawn"] kT)(aX:aq P w K mg base "_law_guest" 2 ["_law_k","_law_cell"] g9) : bp P w K mg base dq 3 f fd ["_law_drawn","_law_cell"] n6:=by
 refine F.ok cH (fun vs H Q E h=>?_) (fun cdv A outer s H vs Q E hr h=>?_)
 ·obtain⟨d,c,rfl,_⟩:=h
  rfl
 ·obtain⟨d,c,rfl,d0,k⟩:=h
  have two:(2:Nat)<=sizeLine:=by decide
  have three:(3:Nat)<=sizeLine:=by decide
  have em:∀ z m:Int,0<m->0<=z%m/\z%m<m:=fun z m h=>⟨Bg _ (by omega),A7 _ h⟩
  refine⟨_,ae (aJ 2 cH.nd (ar bq (pv 0) (af))) (
   ae (aJ 3 cH.nd (aK gc hr.m rfl (bM (ar bK (pv 0) (af))))) (
   ae (aF (ao bd (pv 2) (af) (au _)) (ag (am (aI (qp (aj) (aK aX hr.m rfl (b6 (aB fF (pv 3) (af) (fun _ _=>rfl)) (pv 1))) (aK aX hr.m rfl (b6 (aB fF (pv 3) (af) (fun _ _=>rfl)) (pv 1))))))) (ak)) (
   ae (aF (ao bd (pv 2) (af) (au _)) (ae (aJ 4 cH.nd (ar bq (ar bK (pv 0) (af)) (af))) (
   ae (aJ 5 cH.nd (ar bC (af) (ar bq (ar bK (pv 0) (af)) (af)))) (
   ag (am (aI (b6 (aj) (bB bA (by rfl) T.tuple AU (bM (cr (so:=ah da) (N:=gw) (N':=["_law_k","_law_cell","_law_first","_law_step"]) (src:=[none,some 1,some 4,some 5]) rfl rfl pK rfl (dW (by rfl) T.range (bM (af))) (fun cl C s2 H2 ex=>⟨fz 0 (show (["_law_k","_law_cell","_law_first","_law_step"]:List Str).Nodup by decide +kernel),bE,aK aX hr.m rfl (b6 (ar bq (ar bC (pv 2) (ar dg (pv 3) (pv 0))) (af)) (pv 1))⟩)))))))))) (ak)) (
   ae (aJ 6 cH.nd (bB bA (by rfl) T.tuple AU (bM (cr (so:=ah da) (N:=gw) (N':=["_law_rank","_law_cell"]) (src:=[none,some 1]) rfl rfl pK rfl (bR (pv 3)) (fun cl C s2 H2 ex=>⟨fz 0 (show (["_law_rank","_law_cell"]:List Str).Nodup by decide +kernel),bE,aK aX hr.m rfl (b6 (pv 0) (pv 1))⟩))))) (
   ag (am (aI (b6 (aB fF (bD (qp (aj) (aj) (aj))) (ar lR (pv 2) (af)) (fun _ _=>rfl)) (pv 6))))))))),?_⟩
  refine⟨_,rfl,_,_,rfl,rfl,by show (0:Int)<5;decide,?_⟩;refine⟨_,rfl,_,_,rfl,rfl,⟨by decide,by decide⟩,d/5,rfl,by omega,fun lr rs hlr r0 r1 rb=>?_⟩;have s1:=ac (o:=.lst (rs.map V.int)) hlr;have h1:aD H lr (.lst (rs.map V.int)) lr=some (.lst (rs.map V.int)):=aa;generalize aD H lr (.lst (rs.map V.int))=H1 at s1 h1 ⊢;refine⟨_,rfl,rfl,_,rfl,?_⟩
  by_cases c0:d%5=0
  ·rw[Af (A3 V.int c0)]
   obtain⟨x,y,rt,rfl⟩:∃ x y rt,rs=x::y::rt:=by
    match rs,r0 with
    | x::y::rt,_=>exact⟨x,y,rt,rfl⟩
   have bx:=rb x (by simp);have bY:=rb y (by simp);refine aW ⟨_,rfl,lr,_,0,_,rfl,rfl,aR.of h1,ax (j:=0) rfl,_,rfl,x,c,rfl,⟨bx.1,by omega⟩,_,rfl,lr,_,1,_,rfl,rfl,aR.of h1,ax (j:=1) rfl,_,rfl,y,c,rfl,⟨bY.1,by omega⟩,three,fun t ht=>?_⟩;exact k t (.pair _ _) _ (s1.free ht) (s1.trans (ac ht)) aa ⟨by show (2:Nat)<=2;decide,by show (2:Nat)<=60;decide,fun _ _ _ _ z=>by cases z⟩
  rw[Ab (fun z=>c0 (V.int.inj z))];refine aC ⟨_,rfl,rfl,_,rfl,?_⟩
  by_cases c4:d%5=4
  ·rw[Af (A3 V.int c4)]
   have a1:=em (d/5) 12 (by decide);have a2:=em (d/60) 3 (by decide);refine aW ⟨_,rfl,_,_,rfl,rfl,⟨by decide,by decide⟩,_,_,rfl,rfl,by show (0:Int)<12;decide,?_⟩;refine⟨_,rfl,_,_,rfl,rfl,⟨by decide,by decide⟩,_,_,rfl,rfl,by show (0:Int)<3;decide,_,_,rfl,rfl,?_⟩;refine⟨4,rfl,by decide,by decide,fun l hl=>?_⟩
   refine dc (n:=4) (fun i σ H2=>∃ (v:Option V),σ=[v,some (.int c),some (.int (d/5%12)),some (.int (1+d/60%3))]/\H2=aD H1 l (.lst (((List.range i).map fun j:Nat=>lj ((d/5%12+(1+d/60%3)*(0+(j:Int)))%12) c).map V.int)))
    ⟨none,rfl,rfl⟩ ?_ ?_
   ·rintro i σ H2 hi ⟨v,rfl,rfl⟩
    have a3:=em (d/5%12+(1+d/60%3)*(0+(i:Int))) 12 (by decide);refine cu ⟨_,rfl,_,rfl,_,rfl,_,_,rfl,rfl,.inl ⟨by omega,by omega⟩,_,_,rfl,rfl,_,_,rfl,rfl,by show (0:Int)<12;decide,_,rfl,_,c,rfl,⟨a3.1,by omega⟩,_,aa,by rw[z9,z9,List.length_range];exact cg (by omega),?_⟩;refine⟨_,rfl,?_⟩;rw[og,List.range_succ,Ah,Ah];rfl
   rintro σ H2 ⟨v,rfl,rfl⟩;have s2:=ac (o:=.lst (((List.range 4).map fun j:Nat=>lj ((d/5%12+(1+d/60%3)*(0+(j:Int)))%12) c).map V.int)) hl;refine⟨l,_,rfl,.inl ⟨aR.of aa,fun q hq=>?_⟩⟩;have s3:=ac (o:=.tup (((List.range 4).map fun j:Nat=>lj ((d/5%12+(1+d/60%3)*(0+(j:Int)))%12) c).map V.int)) hq;refine⟨two,fun p hp=>?_⟩;have s4:=ac (o:=.tup [.str "quad",.ref q]) hp
   have nd:∀ i j:Int,0<=i->i<4->0<=j->j<4->i≠j->lj ((d/5%12+(1+d/60%3)*(0+i))%12) c≠lj ((d/5%12+(1+d/60%3)*(0+j))%12) c:=fun i j i0 i1 j0 j1 n e=>by
    have bi:=em (d/5%12+(1+d/60%3)*(0+i)) 12 (by decide);have bj:=em (d/5%12+(1+d/60%3)*(0+j)) 12 (by decide);have:=uR (by omega) (by omega) e;obtain⟨st,est⟩:∃ st,st=d/60%3:=⟨_,rfl⟩;rw[<-est]at this a2
    have:st=0\/st=1\/st=2:=by omega
    rcases this with rfl | rfl | rfl<;>omega
   have s12:=s1.trans s2;refine k p (.quad _ _ _ _) _ (s12.free (s3.free hp)) (s12.trans (s3.trans s4)) ⟨q,aa,s4 _ _ aa⟩ ⟨by show (2:Nat)<=4;decide,by show (4:Nat)<=60;decide,fun a b c' d' z=>?_⟩;cases z;simp only[Bb,Aq,Bd,or_false,not_or,BU,and_true,not_false_eq_true];exact⟨⟨nd 0 1 (by decide) (by decide) (by decide) (by decide) (by decide),nd 0 2 (by decide) (by decide) (by decide) (by decide) (by decide),nd 0 3 (by decide) (by decide) (by decide) (by decide) (by decide)⟩,⟨nd 1 2 (by decide) (by decide) (by decide) (by decide) (by decide),nd 1 3 (by decide) (by decide) (by decide) (by decide) (by decide)⟩,nd 2 3 (by decide) (by decide) (by decide) (by decide) (by decide)⟩
  rw[Ab (fun z=>c4 (V.int.inj z))];refine aC ⟨_,rfl,lr,rfl,⟨_,aR.of h1⟩,fun l hl=>?_⟩
  refine bU (K:=K) (a:=lr) (xs:=rs.map V.int) (fun i σ H2=>∃ (v:Option V),σ=[v,some (.int c)]/\av H1 H2/\H2 l=some (.lst (((rs.take i).map fun r=>lj r c).map V.int)))
   ⟨none,rfl,ac hl,aa⟩ (fun i σ H2 _ ⟨_,_,s2,_⟩=>aR.of (s2 _ _ h1)) ?_ ?_
  ·rintro i y σ H2 hi ⟨v,rfl,s2,hl2⟩
   obtain⟨r,hr3,rfl⟩:=bg hi;have br:=rb r (Ax hr3);refine cu ⟨_,rfl,_,rfl,r,c,rfl,⟨br.1,by omega⟩,_,hl2,by rw[z9,z9,Av];exact cg (by omega),?_⟩;refine⟨_,rfl,bc s2 hl,?_⟩;rw[aa,AB,hr3,AL,Ah,Ah];rfl
  rintro σ H2 ⟨v,rfl,s2,hl2⟩;rw[z9,AC]at hl2;refine⟨l,_,rfl,.inl ⟨aR.of hl2,fun q hq=>?_⟩⟩;have s3:=ac (o:=.tup ((rs.map fun r=>lj r c).map V.int)) hq;have hq3:aD H2 q (.tup ((rs.map fun r=>lj r c).map V.int)) q=some (.tup ((rs.map fun r=>lj r c).map V.int)):=aa;have s13:=s1.trans (s2.trans s3);generalize aD H2 q (.tup ((rs.map fun r=>lj r c).map V.int))=H3 at s13 hq3 ⊢;refine⟨three,fun lw hlw=>?_⟩;have s4:=ac (o:=.lst [.str "line",.str "star",.str "all"]) hlw;have a5:=em d 5 (by decide)
  have fin:∀ (f:aL),f.isP=false->f.gs=rs.map (fun r=>lj r c)->(∀ a b c d,f≠.quad a b c d)->∀ p,aD H3 lw (.lst [.str "line",.str "star",.str "all"]) p=none->Q (.ref p) (aD (aD H3 lw (.lst [.str "line",.str "star",.str "all"])) p (.tup [.str f.word,.ref q])):=fun f fp fg fq p hp=>by
   have s5:=ac (o:=.tup [.str f.word,.ref q]) hp;refine k p f _ (s13.free (s4.free hp)) (s13.trans (s4.trans s5)) (fW.of fp aa (s5 _ _ (s4 _ _ (by rw[fg];exact hq3)))) ⟨?_,?_,fun a b c d z=>absurd z (fq a b c d)⟩
   ·rw[fg,z9];exact r0
   ·rw[fg,z9];exact r1
  obtain⟨z,ez⟩:∃ z,z=d%5:=⟨_,rfl⟩;rw[<-ez]at a5 c0 c4
  have c3:z=1\/z=2\/z=3:=by omega
  refine⟨_,rfl,_,_,rfl,rfl,?_⟩;rw[<-ez];rcases c3 with rfl | rfl | rfl
  ·exact⟨lw,_,_,_,rfl,rfl,aR.of aa,ax (j:=0) rfl,_,rfl,two,fun p hp=>fin (.line (rs.map fun r=>lj r c)) rfl rfl (fun _ _ _ _ z=>by cases z) p hp⟩
  ·exact⟨lw,_,_,_,rfl,rfl,aR.of aa,ax (j:=1) rfl,_,rfl,two,fun p hp=>fin (.star (rs.map fun r=>lj r c)) rfl rfl (fun _ _ _ _ z=>by cases z) p hp⟩
  ·exact⟨lw,_,_,_,rfl,rfl,aR.of aa,ax (j:=2) rfl,_,rfl,two,fun p hp=>fin (.all (rs.map fun r=>lj r c)) rfl rfl (fun _ _ _ _ z=>by cases z) p hp⟩
theorem nB (F:dM K "_law_small" "_law_small" fR f fd) : bp P w K mg base dq 1 f fd ["_law_figure_here"] jz:=by
 refine F.ok nM (fun vs H Q E h=>?_) (fun cdv A outer s H vs Q E hr h=>?_)
 ·obtain⟨p,n,f,rfl,_⟩:=h
  rfl
 ·obtain⟨p,n,f,rfl,hf,pn,k⟩:=h
  have two:(2:Nat)<=sizeLine:=by decide
  cases n with
  | zero=>exact hf.elim
  | succ n =>
  refine⟨_,ag (am ((vD (c8 jR (aB ay (pv 0) (af) (fun _ _=>rfl)) (aI (b6 (aj) (aj))) rfl) (jS (c8 re (aP a9 (by rfl) T.len AW (bM (aB ay (pv 0) (af) (fun _ _=>rfl)))) (af) (au _)))))),?_⟩;obtain⟨xs,hp⟩:=hf.hd;refine⟨_,rfl,p,_,0,_,rfl,rfl,aG.of hp,ax (j:=0) rfl,two,fun t ht=>⟨t,_,rfl,.inr (.inl (Rd.of aa)),rfl,rfl,_,rfl,?_⟩⟩;have s1:=ac (o:=.tup [.str "pair",.str "name"]) ht;rcases pn with ⟨g,rfl⟩ | ⟨w,rfl⟩
  ·cases g with
   | pair a b=>exact aW (k _ _ s1)
   | quad a b c d =>
    obtain⟨q,e1,e2⟩:=hf.1;exact fE (fun _=>k _ _ s1) (fun _=>⟨_,rfl,p,_,1,_,rfl,rfl,aG.of (s1 _ _ e1),rfl,q,_,rfl,.inr (aG.of (s1 _ _ e2)),_,_,rfl,rfl,k _ _ s1⟩)
   | line g =>
    obtain⟨q,e1,e2⟩:=hf.1;exact fE (fun _=>k _ _ s1) (fun _=>⟨_,rfl,p,_,1,_,rfl,rfl,aG.of (s1 _ _ e1),rfl,q,_,rfl,.inr (aG.of (s1 _ _ e2)),_,_,rfl,rfl,k _ _ s1⟩)
   | star g =>
    obtain⟨q,e1,e2⟩:=hf.1;exact fE (fun _=>k _ _ s1) (fun _=>⟨_,rfl,p,_,1,_,rfl,rfl,aG.of (s1 _ _ e1),rfl,q,_,rfl,.inr (aG.of (s1 _ _ e2)),_,_,rfl,rfl,k _ _ s1⟩)
   | all g =>
    obtain⟨q,e1,e2⟩:=hf.1;exact fE (fun _=>k _ _ s1) (fun _=>⟨_,rfl,p,_,1,_,rfl,rfl,aG.of (s1 _ _ e1),rfl,q,_,rfl,.inr (aG.of (s1 _ _ e2)),_,_,rfl,rfl,k _ _ s1⟩)
  ·exact aW (k _ _ s1)
theorem lL (F:dM K "_law_wrapped" "_law_wrapped" bW f fd)(gd:aq P w K mg base "_law_small" 1 ["_law_figure_here"] jz) : bp P w K mg base dq 4 f fd ["_law_shelf","_law_drawn","_law_names"] kW:=by
 refine F.ok bn (fun vs H Q E h=>?_) (fun cdv A outer s H vs Q E hr h=>?_)
 ·obtain⟨s,nm,d,ws,xs,rfl,_⟩:=h
  rfl
 ·obtain⟨s,nm,d,ws,xs,rfl,d0,sh,hn,wl,wn,ok,xl,okn,k⟩:=h
  have two:(2:Nat)<=sizeLine:=by decide
  have sl:sizeLine=16777216:=AQ
  refine⟨_,ae (aJ 3 bn.nd (ar bq (pv 1) (af))) (
   ae (aF (PW.pt (iO (ao bd (pv 3) (af) (au _)) (gY (o6 (pv 2) (fun _=>rfl))))) (ae (bz (fm Ay AD AE bH (pv 0) (bM (aI (b6 (aI (b6 (aj) (aB fF (pv 2) (ar bq (ar bK (pv 1) (af)) (aP a9 (by rfl) T.len AW (bM (pv 2)))) (fun _ _=>rfl)))) (af)))))) (
   ag (rk))) (ak)) (
   ae (aJ 4 bn.nd (ar bC (af) (ar bq (ar bK (pv 1) (af)) (af)))) (
   ae (aF (ao bd (pv 3) (af) (au _)) (ag (aJ 4 bn.nd (af))) (ak)) (
   ae (aJ 5 bn.nd (ft vg (pv 0) (gX (ar lR (aP a9 (by rfl) T.len AW (bM (pv 0))) (aP (rK rfl) (by rfl) T.bmin PyProof.Rows.boot_min (b6 (pv 4) (aP a9 (by rfl) T.len AW (bM (pv 0))))))) gW)) (
   ae (aJ 6 bn.nd (ar bC (af) (vb rfl (by rfl) T.bmax (bM (cr (so:=ah bW) (N:=dr) (N':=["_law_part"]) (src:=[none]) rfl rfl pK rfl (bR (pv 5)) (fun cl C s2 H2 ex=>⟨fz 0 (show (["_law_part"]:List Str).Nodup by decide +kernel),bE,aB (gS K) (pv 0) (af) (fun _ _=>rfl)⟩)))))) (
   ae (aF (ao oY (pv 6) (af) (au _)) (ag (rk)) (ak)) (
   ae (cx AO rfl (bR (pv 5)) (fz 7 bn.nd) (ag (bz (wB Ay PySem.F.slot_list_pop PySem.F.type_list_pop wx (pv 0))))) (
   ag (aF (ao bd (pv 3) (af) (au _)) (ag (bz (fm Ay AD AE bH (pv 0) (bM (aI (b6 (aI (b6 (aj) (aB ay (aB fF (pv 5) (af) (fun _ _=>rfl)) (af) (fun _ _=>rfl)))) (pv 6))))))) (ae (aJ 8 bn.nd (af)) (
   ae (aF (PW.pt (iO (ao bd (pv 6) (af) (au _)) (iO (ao bd (ar bq (ar bK (pv 1) (af)) (af)) (af) (au _)) (gY (fb (aP (gQ rfl) (by rfl) T.all PyProof.Rows.boot_all (bM (cr (so:=ah bW) (N:=dr) (N':=["_law_part"]) (src:=[none]) rfl rfl pK rfl (bR (pv 5)) (fun cl C s2 H2 ex=>⟨fz 0 (show (["_law_part"]:List Str).Nodup by decide +kernel),bE,aK gd hr.m rfl (bM (aB (gS K) (pv 0) (af) (fun _ _=>rfl)))⟩))))))))) (ag (aJ 8 bn.nd (ar bC (af) (ar bq (ar bK (pv 1) (af)) (af))))) (ak)) (
   ag (bz (fm Ay AD AE bH (pv 0) (bM (aI (b6 (aI (b6 (aj) (bB bA (by rfl) T.tuple AU (bM (ar wA (cr (so:=ah bW) (N:=dr) (N':=["_law_part"]) (src:=[none]) rfl rfl pK rfl (bR (pv 5)) (fun cl C s2 H2 ex=>⟨fz 0 (show (["_law_part"]:List Str).Nodup by decide +kernel),bE,aB (gS K) (pv 0) (af) (fun _ _=>rfl)⟩)) (pv 8)))))) (pv 6)))))))))))))))))),?_⟩
  obtain⟨ts,h1,pr⟩:=sh;obtain⟨us,rfl,rfl,hU⟩:=uT pr;rw[AS]at h1;have h1:H s=some (.lst (us.map fun u=>V.ref u.1)):=h1;rw[z9]at xl;refine⟨_,rfl,_,_,rfl,rfl,by show (0:Int)<4;decide,?_⟩;refine⟨_,rfl,rfl,_,rfl,?_⟩
  apply gK (fun σ HH=>H=HH/\σ=[some (.ref s),some (.int d),some (.ref nm),some (.int (d%4)),none,none,none,none,none])
  ·intro rest
   refine fE (fun _=>?_) (fun _=>aC (rest _ _ ⟨rfl,rfl⟩));refine⟨_,rfl,!(ws.map V.str).isEmpty,.inl ⟨_,aR.of hn,rfl⟩,?_⟩;refine fE (fun ne=>?_) (fun _=>rest _ _ ⟨rfl,rfl⟩)
   have wpos:0<ws.length:=by cases ws with | nil=>cases ne | cons _ _=>exact Nat.succ_pos _
   have i0:0<=d/4%(ws.length:Int):=Bg _ (by omega);have i1:d/4%(ws.length:Int)<ws.length:=A7 _ (by omega);obtain⟨j,hj⟩:=Int.eq_ofNat_of_zero_le i0
   have hjl:j<ws.length:=by omega
   have hwj:=List.getElem?_eq_getElem hjl;refine⟨_,rfl,.inl ⟨rfl,_,aR.of h1⟩,_,rfl,_,rfl,_,_,rfl,rfl,⟨by decide,by decide⟩,_,rfl,nm,_,rfl,.inl (aR.of hn),_,_,rfl,rfl,by show (0:Int)<_;rw[z9];omega,nm,_,j,.str ws[j],rfl,by rw[z9,hj],aR.of hn,ax (j:=j) (by rw[List.getElem?_map,hwj];rfl),two,fun p hp=>⟨two,fun t ht=>?_⟩⟩;have s1:=ac (o:=.tup [.str "name",.str ws[j]]) hp;have s2:=s1.trans (ac (o:=.tup [.ref p,.int 1]) ht);refine⟨s,_,_,rfl,rfl,s2 _ _ h1,by rw[z9];omega,?_⟩
   have ts':t≠s:=fun z=>by rw[z,s1 _ _ h1]at ht;cases ht
   have kp:=(lA (s:=s) s2).trans (kI (o:=.lst ((us.map fun u=>V.ref u.1)++[.ref t])));have up:=kp.tup h1
   have hp2:aD (aD (aD H p (.tup [.str "name",.str ws[j]])) t (.tup [.ref p,.int 1])) s (.lst ((us.map fun u=>V.ref u.1)++[.ref t])) p=some (.tup [.str "name",.str ws[j]]):=by
    rw[ap (fun z=>by rw[z,h1]at hp;cases hp)];exact ac ht _ _ aa
   refine k (us.map (·.2.2)++[(.name ws[j],1)]) _ (ug (kJ hU) up (by rw[aa,AS];rfl) ⟨p,by rw[ap ts',aa];rfl,show aN 1 _ p (.name ws[j]) from ⟨hp2,wl _ (List.getElem_mem hjl)⟩⟩) (tF ok ⟨Ad _,by show 1<=7;decide,fun _=>.inr ⟨_,rfl⟩⟩) (by rw[An,AF];exact Ad _) (by rw[jC];exact Ad _) (nq okn fun w hw=>by rw[ai.names]at hw;rw[Ap.mp hw];exact List.getElem_mem hjl) kp
  rintro σ HH ⟨rfl,rfl⟩;have n0:∀ x:Int,0<=x%3/\x%3<3:=fun x=>⟨Bg _ (by decide),A7 _ (by decide)⟩;refine⟨_,rfl,_,_,rfl,rfl,⟨by decide,by decide⟩,_,_,rfl,rfl,by show (0:Int)<3;decide,_,_,rfl,rfl,?_⟩;refine⟨_,rfl,rfl,_,rfl,?_⟩
  apply gK (fun σ HH=>∃ mn:Int,H=HH/\σ=[some (.ref s),some (.int d),some (.ref nm),some (.int (d%4)),some (.int mn),none,none,none,none]/\1<=mn/\mn<=3)
  ·intro rest
   have:=n0 (d/4);refine fE ?tt fun c=>rest _ _ ⟨1+d/4%3,rfl,rfl,by omega,by omega⟩;exact fun _=>rest [some (.ref s),some (.int d),some (.ref nm),some (.int (d%4)),some (.int 1),none,none,none,none] H ⟨1,rfl,rfl,by decide,by decide⟩
  rintro σ HH ⟨mn,rfl,rfl,mn1,mn3⟩;refine⟨_,rfl,_,rfl,s,_,rfl,.inl (aR.of h1),_,rfl,_,rfl,s,_,rfl,.inl (aR.of h1),_,_,rfl,_,_,rfl,rfl,_,rfl,s,_,rfl,aR.of h1,fun q hq=>?_⟩
  obtain⟨j,ej,jl,jl3⟩:∃ j:Nat,(((us.map fun u=>V.ref u.1).length:Int)-(if ((us.map fun u=>V.ref u.1).length:Int)<mn then ((us.map fun u=>V.ref u.1).length:Int) else mn))=(j:Int)/\j<=us.length/\us.length<=j+3:=by
   rw[z9];split
   ·exact⟨0,by omega,Au _,by omega⟩
   ·exact⟨us.length-mn.toNat,by omega,by omega,by omega⟩
  rw[ej,k9,<-List.map_drop]
  have hqs:q≠s:=fun z=>by rw[z,h1]at hq;cases hq
  have s1:=ac (o:=.lst ((us.drop j).map fun u=>V.ref u.1)) hq;have hq1:aD H q (.lst ((us.drop j).map fun u=>V.ref u.1)) q=some (.lst ((us.drop j).map fun u=>V.ref u.1)):=aa;generalize aD H q (.lst ((us.drop j).map fun u=>V.ref u.1))=H1 at s1 hq1 ⊢
  have dl:(us.drop j).length<=3:=by rw[AI];omega
  have du:∀ u∈us.drop j,u∈us:=fun u hu=>List.mem_of_mem_drop hu;refine⟨_,rfl,q,rfl,⟨_,aR.of hq1⟩,fun c hc=>?_⟩;refine gU (fun u:pM=>V.ref u.1) (rs:=us.drop j) (f:=fun u=>.int u.2.2.2) hc hq1 (by omega) (fun u HK Q' hu sK kk=>⟨_,rfl,u.1,_,1,_,rfl,rfl,aG.of (sK _ _ (s1 _ _ (hU u (du u hu)).1)),rfl,kk HK (av.refl _)⟩) (fun H2 s2 hc2=>?_);have s12:=s1.trans s2;have back:∀ H',av H H'->Q .non H':=fun H' s=>k _ H' ⟨us.map (·.1),by rw[AS];exact s _ _ h1,kJ fun u hu=>(hU u hu).mono fun _ _ z=>s _ _ z⟩ ok (Nat.le_succ _) (BG _ _) okn (lA s);refine⟨c,(us.drop j).map (fun u=>(u.2.2.2:Int)),rfl,aR.of (by rw[hc2,AS];rfl),fun _=>?_,fun M hM hle=>?_⟩
  ·exact⟨_,_,rfl,rfl,_,rfl,_,_,rfl,rfl,_,rfl,aW (back _ s12)⟩
  refine⟨_,_,rfl,rfl,_,rfl,_,_,rfl,rfl,_,rfl,fE (fun _=>back _ s12) (fun c7=>?_)⟩;obtain⟨u0,hu0,rfl⟩:=AH.mp hM;generalize eM:u0.2.2.2=M at *
  have M7:M<=6:=by have:=of_decide_eq_false c7;omega
  have hle:∀ u∈us.drop j,u.2.2.2<=M:=fun u hu=>by have:=hle _ (Ba (f:=fun u:pM=>(u.2.2.2:Int)) hu);omega
  have okU:∀ u∈us,jE u.2.2:=fun u hu=>ok _ (Ba (f:=fun u:pM=>u.2.2) hu)
  have M1:1<=M:=by have:=(okU u0 (du _ hu0)).1;omega
  have hs2:=s12 _ _ h1;have hq2:=s2 _ _ hq1;refine⟨_,rfl,q,rfl,⟨_,aR.of hq2⟩,?_⟩
  refine bU (K:=K) (a:=q) (xs:=(us.drop j).map fun u=>V.ref u.1) (fun i σ HK=>∃ v:Option V,σ=[some (.ref s),some (.int d),some (.ref nm),some (.int (d%4)),some (.int mn),some (.ref q),some (.int (1+M)),v,none]/\sN s H2 HK/\HK s=some (.lst ((us.take (us.length-i)).map fun u=>V.ref u.1)))
   ⟨none,rfl,lA (av.refl _),by rw[Nat.sub_zero,AC];exact hs2⟩ (fun i σ HK _ ⟨_,_,kp,_⟩=>aR.of (kp _ _ hq2 hqs)) ?_ ?_
  ·rintro i y σ HK hi ⟨v,rfl,kp,hs⟩
   have hil:=(List.getElem?_eq_some_iff.mp hi).1;rw[z9,AI]at hil
   have hlt:us.length-i-1<us.length:=by omega
   refine⟨_,rfl,.inl ⟨rfl,_,aR.of hs⟩,s,_,V.ref us[us.length-i-1].1,rfl,rfl,hs,?_,_,rfl,kp.trans kI,?_⟩
   ·rw[z9,Av,Nat.min_eq_left (by omega),List.getElem?_map,List.getElem?_take_of_lt (by omega),List.getElem?_eq_getElem hlt];rfl
   ·rw[aa,<-List.map_dropLast,List.dropLast_eq_take,List.take_take,Av]
    congr 4
    omega
  rintro σ H3 ⟨v,rfl,kp,hs3⟩;rw[z9,AI,show us.length-(us.length-j)=j by omega]at hs3;have hq3:=kp _ _ hq2 hqs;have kp:sN s H H3:=(lA s12).trans kp;have up3:=kp.tup h1;have hU3:∀ u∈us,vT H3 u:=fun u hu=>(hU u hu).mono up3;have tU:∀ u∈us.take j,u∈us:=fun u hu=>List.mem_of_mem_take hu
  have wt:mm (us.map (·.2.2))=mm ((us.take j).map (·.2.2))+mm ((us.drop j).map (·.2.2)):=by rw[<-jC,<-Ah,List.take_append_drop]
  have tlen:(us.take j).length<=us.length:=by rw[Av];omega
  clear hq2 hs2 hc2 back
  have fin:∀ (f:ai)(H4:Hp)(p t:Addr),av H3 H4->H4 t=some (.tup [.ref p,.int (1+M)])->aN (M+1) H4 p f->vk (f,M+1)<=mm ((us.drop j).map (·.2.2))->(∀ w∈f.names,w∈ws)->Q .non (aD H4 s (.lst (((us.take j).map fun u=>V.ref u.1)++[.ref t]))):=fun f H4 p t s4 ht hf hw hwn=>by
   have hs4:=s4 _ _ hs3
   have ts':t≠s:=fun z=>by rw[z,hs4]at ht;cases ht
   have kp4:sN s H3 (aD H4 s (.lst (((us.take j).map fun u=>V.ref u.1)++[.ref t]))):=(lA s4).trans kI;have up4:=(kI (s:=s) (H:=H4) (o:=.lst (((us.take j).map fun u=>V.ref u.1)++[.ref t]))).tup hs4;refine k ((us.take j).map (·.2.2)++[(f,M+1)]) _ (ug (kJ fun u hu=>hU3 u (tU u hu)) (kp4.tup hs3) (by rw[aa,AS];rfl) ⟨p,up4 _ _ (by rw[ht,show (1+(M:Int))=((M+1:Nat):Int) by omega]),hf.mono up4⟩) (tF (fun x hx=>?_) ⟨by show 1<=M+1;omega,by show M+1<=7;omega,fun z=>by have z:M+1=1:=z;omega⟩) (by rw[An,AF,z9,z9];omega) (by rw[jC,wt];show _+(vk (f,M+1)+0)<=_;omega) (nq (fun x hx=>?_) hwn) (kp.trans kp4)
   ·obtain⟨u,hu,rfl⟩:=AH.mp hx
    exact okU u (tU u hu)
   ·obtain⟨u,hu,rfl⟩:=AH.mp hx
    exact okn _ (Ba (f:=fun u:pM=>u.2.2) (tU u hu))
  refine⟨_,rfl,rfl,_,rfl,?_⟩;refine fE (fun _=>?_) (fun _=>?_)
  ·cases ed:us.drop j with
   | nil=>rw[ed]at hu0;cases hu0
   | cons u ur =>
    have um:u∈us.drop j:=by rw[ed];exact Am
    have hU:=hU3 u (du u um);rw[ed]at hq3;refine⟨_,rfl,.inl ⟨rfl,_,aR.of hs3⟩,_,rfl,q,_,0,_,rfl,rfl,aR.of hq3,ax (j:=0) rfl,u.1,_,0,_,rfl,rfl,aG.of hU.1,ax (j:=0) rfl,two,fun p hp=>⟨_,rfl,two,fun t ht=>?_⟩⟩;have s4:=(ac (o:=.tup [.str "back",.ref u.2.1]) hp).trans (ac (o:=.tup [.ref p,.int (1+M)]) ht);refine⟨s,_,_,rfl,rfl,s4 _ _ hs3,by rw[z9];omega,fin (.back u.2.2.1) _ p t s4 aa ⟨u.2.1,ac ht _ _ aa,(hU.2.le (hle u um)).mono fun _ _ z=>s4 _ _ z⟩ ?_ (by rw[ai.names];exact okn _ (Ba (f:=fun u:pM=>u.2.2) (du u um)))⟩;have:=(okU u (du u um)).few;rw[ed,Az,mm];unfold vk at *;rw[Ag (show ¬ (M+1=1) by omega)]
    show (ai.back _).names.length<=_
    rw[ai.names];omega
  ·have nt:∀ x:Int,0<=x%20/\x%20<20:=fun x=>⟨Bg _ (by decide),A7 _ (by decide)⟩
   refine⟨_,rfl,rfl,_,rfl,?_⟩
   apply gK (fun σ HH=>∃ n:Nat,av H3 HH/\σ=[some (.ref s),some (.int d),some (.ref nm),some (.int (d%4)),some (.int mn),some (.ref q),some (.int (1+M)),v,some (.int n)]/\(n=1\/(n<=20/\∀ x∈(us.drop j).map (·.2.2),x.2=1)))
   ·intro rest
    refine fE ?tw1 fun _=>aC (rest _ _ ⟨1,av.refl _,rfl,.inl rfl⟩);intro c2
    have M1':M=1:=by have:=V.int.inj (A9 c2);omega
    have one:∀ x∈(us.drop j).map (·.2.2),x.2=1:=fun x hx=>by
     obtain⟨u,hu,rfl⟩:=AH.mp hx;have:=hle u hu;have:=(okU u (du u hu)).1;omega
    refine⟨_,rfl,_,_,rfl,rfl,⟨by decide,by decide⟩,_,_,rfl,rfl,by show (0:Int)<5;decide,rfl,_,rfl,?_⟩;refine fE ?tw2 fun _=>aC (rest _ _ ⟨1,av.refl _,rfl,.inl rfl⟩);intro _;refine⟨_,rfl,q,rfl,⟨_,aR.of hq3⟩,fun c hc=>?_⟩;refine rE (fun u:pM=>V.ref u.1) (rs:=us.drop j) hc hq3 (by omega) (fun u HK Q' hu sK kk=>?_) (fun H4 bs s4 hc4=>?_)
    ·have hU:=(hU3 u (du u hu)).mono fun _ _ z=>sK _ _ z
     exact⟨_,rfl,u.1,_,0,_,rfl,rfl,aG.of hU.1,ax (j:=0) rfl,u.2.1,_,_,rfl,hU.2,(okU u (du u hu)).2.2 (one _ (Ba (f:=fun u:pM=>u.2.2) hu)),fun H5 b s5=>kk H5 b s5⟩
    refine⟨c,bs,rfl,aR.of hc4,_,rfl,fE ?tw3 fun _=>rest _ _ ⟨1,s4,rfl,.inl rfl⟩⟩;intro _;refine⟨_,rfl,_,_,rfl,rfl,⟨by decide,by decide⟩,_,_,rfl,rfl,by show (0:Int)<20;decide,_,_,rfl,rfl,?_⟩;have:=nt (d/60);obtain⟨n,en⟩:=Int.eq_ofNat_of_zero_le this.1;rw[en];exact rest [some (.ref s),some (.int d),some (.ref nm),some (.int (d%4)),some (.int mn),some (.ref q),some (.int (1+M)),v,some (.int (1+n))] H4 ⟨1+n,s4,by rw[Int.natCast_add];rfl,.inr ⟨by omega,one⟩⟩
   rintro σ H4 ⟨n,s4,rfl,hn⟩;have hq4:=s4 _ _ hq3;refine⟨_,rfl,.inl ⟨rfl,_,aR.of (s4 _ _ hs3)⟩,_,rfl,q,rfl,⟨_,aR.of hq4⟩,fun c hc=>?_⟩;refine gU (fun u:pM=>V.ref u.1) (rs:=us.drop j) (f:=fun u=>.ref u.2.1) hc hq4 (by omega) (fun u HK Q' hu sK kk=>⟨_,rfl,u.1,_,0,_,rfl,rfl,aG.of (sK _ _ (s4 _ _ (hU3 u (du u hu)).1)),ax (j:=0) rfl,kk HK (av.refl _)⟩) (fun H5 s5 hc5=>?_)
   have n20:n<=20:=by rcases hn with z | z<;>omega
   have fl:(us.drop j).length*n<=3*20:=Nat.mul_le_mul dl n20;refine⟨_,rfl,c,n,_,rfl,rfl,hc5,by omega,by omega,by rw[z9,By];omega,fun l hl=>?_⟩;rw[By,jM (fun u:pM=>V.ref u.2.1)];refine⟨l,_,rfl,.inl ⟨aR.of aa,fun t2 ht2=>⟨two,fun p hp=>⟨_,rfl,two,fun t ht=>?_⟩⟩⟩⟩;have s6:=(s4.trans s5).trans (((ac hl).trans (ac ht2)).trans ((ac hp).trans (ac (o:=.tup [.ref p,.int (1+M)]) ht)));refine⟨s,_,_,rfl,rfl,s6 _ _ hs3,by rw[z9];omega,fin (.row (List.replicate n ((us.drop j).map (·.2.2.1))).flatten) _ p t s6 aa ⟨t2,(List.replicate n ((us.drop j).map (·.2.1))).flatten,ac ht _ _ aa,((ac hp).trans (ac ht)) _ _ (by rw[aa,jM,AS];rfl),by rw[tu,z9,Nat.mul_comm];omega,kq (qR (fun u hu=>(hU3 u (du u hu)).mono fun _ _ z=>s6 _ _ z) hle) n⟩ ?_ (tE (fun f hf=>?_) n)⟩
   ·have:=wR (k:=n) (d:=M+1) (fun x hx=>?_) (by omega) hn
    ·rw[AS]at this;exact this
    obtain⟨u,hu,rfl⟩:=AH.mp hx;exact okU u (du u hu)
   ·obtain⟨u,hu,rfl⟩:=AH.mp hf
    exact okn _ (Ba (f:=fun u:pM=>u.2.2) (du u hu))
theorem mx (F:dM K "_law_figure" "_law_figure" dv f fd)(gb:aq P w K mg base "_law_plain" 3 ["_law_drawn","_law_cell"] n6)(eY:aq P w K mg base "_law_wrapped" 4 ["_law_shelf","_law_drawn","_law_names"] kW)(aX:aq P w K mg base "_law_guest" 2 ["_law_k","_law_cell"] g9) : bp P w K mg base dq 5 f fd ["_law_draws_here","_law_cell","_law_names"] jx:=by
 refine F.ok fc (fun vs H Q E h=>?_) (fun cdv A outer s H vs Q E hr h=>?_)
 ·obtain⟨l,nm,c,ds,ws,rfl,_⟩:=h
  rfl
 ·obtain⟨l,nm,c,ds,ws,rfl,hl,d0,dl,hn,wl,wn,k⟩:=h
  have two:(2:Nat)<=sizeLine:=by decide
  have sl:sizeLine=16777216:=AQ
  refine⟨_,ae (aJ 3 fc.nd (bD aT)) (
   ae (cx AO rfl (bR (pv 0)) (fz 4 fc.nd) (ag (aF (ao bd (ar bq (pv 4) (af)) (af) (au _)) (ag (bz (fm Ay AD AE bH (pv 3) (bM (aI (b6 (aK gb hr.m rfl (b6 (ar bK (pv 4) (af)) (pv 1))) (af))))))) (ag (bz (aK eY hr.m rfl (qp (pv 3) (ar bK (pv 4) (af)) (pv 2)))))))) (
   ae (aF (fL (o6 (pv 3) (fun _=>rfl))) (ag (am (aI (b6 (aj) (aI (b6 (aK aX hr.m rfl (b6 (af) (pv 1))) (aK aX hr.m rfl (b6 (af) (pv 1))))))))) (ak)) (
   ae (aF (ao bd (aP a9 (by rfl) T.len AW (bM (pv 3))) (af) (au _)) (ag (am (aB ay (aB fF (pv 3) (af) (fun _ _=>rfl)) (af) (fun _ _=>rfl)))) (ak)) (
   ag (am (aI (b6 (aj) (bB bA (by rfl) T.tuple AU (bM (cr (so:=ah dv) (N:=jj) (N':=["_law_part"]) (src:=[none]) rfl rfl pK rfl (bR (pv 3)) (fun cl C s2 H2 ex=>⟨fz 0 (show (["_law_part"]:List Str).Nodup by decide +kernel),bE,aB (gS K) (pv 0) (af) (fun _ _=>rfl)⟩))))))))))),?_⟩
  refine⟨Au _,fun s hs=>⟨_,rfl,l,rfl,⟨_,aR.of (ac hs _ _ hl)⟩,?_⟩⟩
  refine bU (K:=K) (a:=l) (xs:=ds.map V.int) (fun i σ HK=>∃ (v:Option V)(xs:List (ai×Nat)),σ=[some (.ref l),some (.int c),some (.ref nm),some (.ref s),v]/\av H HK/\uI HK s xs/\(∀ x∈xs,jE x)/\xs.length<=i/\mm xs<=20*i/\∀ x∈xs,∀ w∈x.1.names,w∈ws)
   ⟨none,[],rfl,ac hs,⟨[],aa,.nil⟩,(fun x hx=>nomatch hx),Ad _,Ad _,fun x hx=>nomatch hx⟩ (fun i σ HK _ ⟨_,_,_,s2,_⟩=>aR.of (s2 _ _ hl)) ?_ ?_
  ·rintro i y σ HK hi ⟨v,xs,rfl,s2,sh,ok,xl,xw,okn⟩
   obtain⟨d,hd,rfl⟩:=bg hi;have hil:=(List.getElem?_eq_some_iff.mp hd).1;have dd:=d0 d (Ax hd);obtain⟨ts,h1,pr⟩:=id sh;have tl:=Ao pr;refine⟨_,rfl,_,_,rfl,rfl,by show (0:Int)<2;decide,rfl,_,rfl,?_⟩;refine fE (fun _=>?_) (fun _=>?_)
   ·refine⟨_,rfl,.inl ⟨rfl,_,aR.of h1⟩,_,rfl,_,_,rfl,rfl,⟨by decide,by decide⟩,_,rfl,_,c,rfl,by omega,fun p f H1 hp s3 fa fo=>⟨two,fun t ht=>?_⟩⟩
    have h2:=ac (o:=.tup [.ref p,.int 1]) ht _ _ (s3 _ _ h1);refine⟨s,_,_,rfl,rfl,h2,by rw[z9];omega,?_⟩
    have up:∀ b ys,H1 b=some (.tup ys)->aD (aD H1 t (.tup [.ref p,.int 1])) s (.lst (ts.map V.ref++[.ref t])) b=some (.tup ys):=fun b ys e=>by
     rw[ap (fun z=>by rw[z,s3 _ _ h1]at e;cases e)];exact ac ht _ _ e
    have ts':t≠s:=fun z=>by rw[z,s3 _ _ h1]at ht;cases ht
    refine⟨_,xs++[(.pl f,1)],rfl,bc ((s2.trans s3).trans (ac ht)) hs,⟨ts++[t],by rw[aa,Ah];rfl,aQ (Paired.mapP pr fun _ _ z=>z.mono fun b ys e=>up b ys (s3 _ _ e)) (.cons ⟨p,by rw[ap ts',aa];rfl,aN.mono (n:=1) up (show aN 1 H1 p (.pl f) from ⟨fa,fo⟩)⟩ .nil)⟩,fun x hx=>?_,by rw[An,AF];omega,by rw[jC];show mm xs+(20+0)<=_;omega,nq okn fun w hw=>by rw[ai.names]at hw;cases hw⟩;rcases AJ.mp hx with z | z
    ·exact ok x z
    ·rw[Ap.mp z];exact⟨Ad _,by show 1<=7;decide,fun _=>.inl ⟨f,rfl⟩⟩
   ·refine⟨_,rfl,_,rfl,_,_,rfl,rfl,⟨by decide,by decide⟩,_,rfl,s,nm,_,ws,xs,rfl,by omega,sh,s2 _ _ hn,wl,wn,ok,by omega,okn,fun ys H' sh' ok' yl yw okn' kp=>?_⟩
    exact⟨_,ys,rfl,fun a o e=>kp a o (s2 _ _ e) (aH e hs),sh',ok',by omega,by omega,okn'⟩
  rintro σ HK ⟨v,xs,rfl,s2,sh,ok,xl,xw,okn⟩;obtain⟨ts,h1,pr⟩:=sh;have tl:=Ao pr;rw[z9]at xl xw;have nw:=j4 xs ok
  cases pr with
  | nil =>
   refine⟨_,rfl,false,.inl ⟨_,aR.of h1,rfl⟩,?_⟩;refine aW ⟨_,rfl,0,c,rfl,⟨by decide,by decide⟩,_,rfl,1,c,rfl,⟨by decide,by decide⟩,two,fun q hq=>⟨two,fun p hp=>?_⟩⟩;refine k p (.pl (.line [lj 0 c,lj 1 c])) _ (s2.trans ((ac hq).trans (ac hp))) (aN.le (n:=1) ⟨⟨q,aa,ac hp _ _ aa⟩,⟨by show (2:Nat)<=2;decide,by show (2:Nat)<=60;decide,fun _ _ _ _ z=>by cases z⟩⟩ (by decide)) (by rw[ai.names];exact Au _) (fun w hw=>by rw[ai.names]at hw;cases hw)
  | cons a pr2 =>
   rename_i t x ts2 xs2
   refine⟨_,rfl,true,.inl ⟨_,aR.of h1,rfl⟩,?_⟩;refine aC ⟨_,rfl,s,_,rfl,.inl (aR.of h1),rfl,_,rfl,?_⟩;refine fE (fun _=>?_) (fun _=>?_)
   ·obtain⟨p,e1,e2⟩:=a
    have o:=ok x Am;have:=o.2.1;have f1:=o.few;rw[mm]at xw;exact⟨_,rfl,s,_,0,_,rfl,rfl,aR.of h1,ax (j:=0) rfl,t,_,0,_,rfl,rfl,aG.of e1,ax (j:=0) rfl,k p x.1 HK s2 (e2.le (by omega)) (by omega) (okn x Am)⟩
   ·obtain⟨ps,p1,p2⟩:=tp (.cons a pr2) ok
    have pl:=Ao p1;have pl2:=Ao p2;refine⟨_,rfl,s,rfl,⟨_,aR.of h1⟩,fun q hq=>?_⟩
    refine bU (K:=K) (a:=s) (xs:=(t::ts2).map V.ref) (fun i σ H2=>∃ v:Option V,σ=[v]/\av HK H2/\H2 q=some (.lst ((ps.take i).map V.ref)))
     ⟨none,rfl,ac hq,aa⟩ (fun i σ H2 _ ⟨_,_,s3,_⟩=>aR.of (s3 _ _ h1)) ?_ ?_
    ·rintro i y σ H2 hi ⟨v,rfl,s3,hq2⟩
     obtain⟨u,hu,rfl⟩:=bg hi;obtain⟨p,hp,n,e⟩:=bQ p1 hu;refine cu ⟨_,rfl,u,_,0,_,rfl,rfl,aG.of (s3 _ _ e),ax (j:=0) rfl,_,hq2,by rw[z9,Av];omega,_,rfl,bc s3 hq,?_⟩;rw[aa,AB,hp,AL,Ah];rfl
    rintro σ H2 ⟨v,rfl,s3,hq2⟩;rw[z9,pl,AC]at hq2;refine⟨q,_,rfl,.inl ⟨aR.of hq2,fun t2 ht2=>⟨two,fun p hp=>?_⟩⟩⟩;have s4:=s3.trans ((ac (o:=.tup (ps.map V.ref)) ht2).trans (ac (o:=.tup [.str "row",.ref t2]) hp));refine k p (.row ((x::xs2).map (·.1))) _ (s2.trans s4) (aN.le (n:=8) ⟨t2,ps,aa,ac hp _ _ aa,?_,Paired.mapP p2 fun _ _ z=>z.mono fun _ _ e=>s4 _ _ e⟩ (by decide)) (by rw[ai.names];omega) (uZ okn);rw[z9];omega
theorem kD (F:dM K "_law_together" "_law_together" dH f fd) : bp P w K mg base dq 1 f fd ["_law_kind","_law_k","_law_j"] rq:=by
 refine F.ok kE (fun vs H Q E h=>?_) (fun cdv A outer s H vs Q E hr h=>?_)
 ·obtain⟨w,k,j,rfl,_⟩:=h
  rfl
 ·obtain⟨w,kk,j,rfl,k⟩:=h
  refine⟨_,ae (aF (ao rc (pv 2) (pv 1) (au _)) (ag (am (eR))) (ak)) (
   ae (aF (ao bd (pv 0) (aj) (au _)) (ag (am (c8 bd (pv 1) (af) (au _)))) (ak)) (
   ag (am ((vD (c8 bd (pv 0) (aj) (au _)) (jS (c8 bd (pv 2) (ar bC (pv 1) (af)) (au _)))))))),?_⟩
  refine⟨_,rfl,_,rfl,_,_,rfl,rfl,_,rfl,?_⟩;unfold gP at k
  by_cases c1:j<=kk
  ·rw[Af (show (j:Int)<=(kk:Int) by omega)]
   rw[Ai c1]at k;exact aW k
  ·rw[Ab (show ¬ (j:Int)<=(kk:Int) by omega)]
   rw[Ag c1]at k;refine aC ⟨_,rfl,rfl,_,rfl,?_⟩
   by_cases c2:w="star"
   ·rw[Af (A3 V.str c2)]
    rw[Ai c2]at k;refine aW ⟨_,rfl,rfl,?_⟩;rw[show decide (V.int (kk:Int)=V.int 0)=decide (kk=0) from decide_eq_decide.mpr ⟨fun z=>by have:=V.int.inj z;omega,fun z=>by rw[z];rfl⟩];exact k
   ·rw[Ab (fun z=>c2 (V.str.inj z))]
    rw[Ag c2]at k;refine aC ⟨_,rfl,rfl,_,rfl,?_⟩
    by_cases c3:w="all"
    ·rw[Af (A3 V.str c3)]
     rw[Ai c3]at k;exact aW k
    ·rw[Ab (fun z=>c3 (V.str.inj z))]
     rw[Ag c3]at k;refine aC ⟨_,rfl,_,rfl,_,_,rfl,rfl,rfl,?_⟩;rw[show decide (V.int (j:Int)=V.int ((kk:Int)+1))=decide (j=kk+1) from decide_eq_decide.mpr ⟨fun z=>by have:=V.int.inj z;omega,fun z=>by rw[z];rfl⟩];exact k
theorem iN (F:dM K "_law_plain_pairs" "_law_plain_pairs" cY f fd)(Cquadrille:iZ P w K mg base "quadrille" 2 ["a","b","c","d"] (jy co))(dX:aq P w K mg base "_law_together" 1 ["_law_kind","_law_k","_law_j"] rq) : bp P w K mg base dq 3 f fd ["_law_figure_here"] iR:=by
 refine F.ok aU (fun vs H Q E h=>?_) (fun cdv A outer s H vs Q E hr h=>?_)
 ·obtain⟨p,f,rfl,_⟩:=h
  rfl
 ·obtain⟨p,f,rfl,hf,ok,k⟩:=h
  have two:(2:Nat)<=sizeLine:=by decide
  refine⟨_,ae (aJ 1 aU.nd (aB ay (pv 0) (af) (fun _ _=>rfl))) (
   ae (aF (ao bd (pv 1) (aj) (au _)) (ag (am (bD (bM (aI (b6 (aB ay (pv 0) (af) (fun _ _=>rfl)) (aB ay (pv 0) (af) (fun _ _=>rfl)))))))) (ak)) (
   ae (aJ 2 aU.nd (aB ay (pv 0) (af) (fun _ _=>rfl))) (
   ae (aF (ao bd (pv 1) (aj) (au _)) (ag (am (t9 Cquadrille hr.m rfl tL (aA (aB ay (pv 2) (af) (fun _ _=>rfl)) (aA (aB ay (pv 2) (af) (fun _ _=>rfl)) (aA (aB ay (pv 2) (af) (fun _ _=>rfl)) (aA (aB ay (pv 2) (af) (fun _ _=>rfl)) aT))))))) (ak)) (
   ae (aJ 3 aU.nd (bD aT)) (
   ae (cx AO rfl (lU (by rfl) T.enumerate (bM (pv 2))) (jT rfl (ca (fz 4 aU.nd) (ca (fz 5 aU.nd) gV))) (ag (cx AO rfl (lU (by rfl) T.enumerate (bM (pv 2))) (jT rfl (ca (fz 6 aU.nd) (ca (fz 7 aU.nd) gV))) (ag (aF (fb (aK dX hr.m rfl (qp (pv 1) (pv 4) (pv 6)))) (ag (bz (fm Ay AD AE bH (pv 3) (bM (aI (b6 (pv 5) (pv 7))))))) (ak)))))) (
   ag (am (pv 3)))))))),?_⟩
  obtain⟨xs,hp⟩:=hf.hd;refine⟨_,rfl,p,_,0,_,rfl,rfl,aG.of hp,ax (j:=0) rfl,_,rfl,rfl,_,rfl,?_⟩;have o1:=ok.1;have o2:=ok.2.1;have rl:=aL.rl ok
  by_cases cp:f.isP=true
  ·obtain⟨a,b,rfl⟩:∃ a b,f=.pair a b:=by
    cases f with
    | pair a b=>exact⟨a,b,rfl⟩
    | _=>cases cp
   have hp:H p=some (.tup [.str "pair",.int a,.int b]):=hf;rw[Af (show V.str (aL.pair a b).word=V.str "pair" from rfl)];refine aW ⟨_,rfl,p,_,1,_,rfl,rfl,aG.of hp,rfl,_,rfl,p,_,2,_,rfl,rfl,aG.of hp,rfl,two,fun t ht=>⟨by show (1:Nat)<=sizeLine;decide,fun l hl=>?_⟩⟩;have s1:=ac (o:=.tup [.int a,.int b]) ht;exact k l _ (s1.free hl) (s1.trans (ac hl)) ⟨[t],aa,.cons (ac hl _ _ aa) .nil⟩
  have cp:f.isP=false:=by cases q:f.isP with
   | true=>exact absurd q cp
   | false=>rfl
  obtain⟨q,e1,e2⟩:=hf.gr cp
  have nP:f.word≠"pair":=by cases f<;>first | (dsimp only[aL.word];decide +kernel) | cases cp
  rw[Ab (fun z=>nP (V.str.inj z))];refine aC ⟨_,rfl,p,_,1,_,rfl,rfl,aG.of e1,rfl,_,rfl,rfl,_,rfl,?_⟩
  by_cases cq:∃ a b c d,f=.quad a b c d
  ·obtain⟨a,b,c,d,rfl⟩:=cq
   have e2:H q=some (.tup ([a,b,c,d].map V.int)):=e2;rw[Af (show V.str (aL.quad a b c d).word=V.str "quad" from rfl)];exact aW ⟨_,rfl,q,_,0,_,rfl,rfl,aG.of e2,rfl,_,rfl,q,_,1,_,rfl,rfl,aG.of e2,rfl,_,rfl,q,_,2,_,rfl,rfl,aG.of e2,rfl,_,rfl,q,_,3,_,rfl,rfl,aG.of e2,rfl,a,b,c,d,rfl,fun _ l H' hl s1 r1=>k l H' hl s1 r1,fun nn=>absurd (ok.2.2 a b c d rfl) nn⟩
  have nQ:f.word≠"quad":=by
   cases f with
   | quad a b c d=>exact absurd ⟨a,b,c,d,rfl⟩ cq
   | pair=>cases cp
   | _=>dsimp only[aL.word];decide +kernel
  have er:jo f.word f.gs f.gs 0=f.row:=by
   cases f with
   | quad a b c d=>exact absurd ⟨a,b,c,d,rfl⟩ cq
   | pair=>cases cp
   | line g=>exact oZ g g 0 rfl
   | star g=>exact tK g
   | all g=>exact rg g g 0 rfl
  rw[Ab (fun z=>nQ (V.str.inj z))];refine aC ⟨Au _,fun l hl=>?_⟩;have s0:=ac (o:=.lst []) hl;refine⟨_,rfl,q,rfl,⟨_,aG.of (s0 _ _ e2)⟩,?_⟩;generalize hw:f.word=w at er;generalize f.gs=g at er e2 o1 o2
  refine jH (K:=K) (a:=q) (xs:=g.map V.int) (fun i σ HK=>∃ (v4 v5 v6 v7:Option V)(ps:List (Int×Int)),σ=[some (.ref p),some (.str w),some (.ref q),some (.ref l),v4,v5,v6,v7]/\av H HK/\bF HK l ps/\ps++jo w g (g.drop i) i=f.row)
   ⟨none,none,none,none,[],rfl,s0,⟨[],aa,.nil⟩,er⟩ (fun i σ HK _ ⟨_,_,_,_,_,_,s2,_⟩=>aG.of (s2 _ _ e2)) ?_ ?_
  ·rintro i y σ HK T hi ⟨v4,v5,v6,v7,ps,rfl,s2,row,ep⟩ hT
   obtain⟨x,hx,rfl⟩:=bg hi;have hil:=(List.getElem?_eq_some_iff.mp hx).1;have sT:=ac (o:=.tup [.int (i:Int),.int x]) hT;have hTT:aD HK T (.tup [.int (i:Int),.int x]) T=some (.tup [.int (i:Int),.int x]):=aa;have row:=row.mono sT;have s2:=s2.trans sT;generalize aD HK T (.tup [.int (i:Int),.int x])=HK at hTT row s2 ⊢;refine⟨T,_,rfl,aG.of hTT,rfl,_,_,rfl,_,_,rfl,rfl,?_⟩
   have ed:g.drop i=x::g.drop (i+1):=by rw[List.drop_eq_getElem_cons hil,(List.getElem?_eq_some_iff.mp hx).2]
   rw[ed]at ep;have ep:ps++(oA w i x g 0++jo w g (g.drop (i+1)) (i+1))=f.row:=ep;refine⟨_,rfl,q,rfl,⟨_,aG.of (s2 _ _ e2)⟩,?_⟩
   refine jH (K:=K) (a:=q) (xs:=g.map V.int) (fun j σ H4=>∃ (v6 v7:Option V)(qs:List (Int×Int)),σ=[some (.ref p),some (.str w),some (.ref q),some (.ref l),some (.int (i:Int)),some (.int x),v6,v7]/\av H H4/\bF H4 l qs/\qs++(oA w i x (g.drop j) j++jo w g (g.drop (i+1)) (i+1))=f.row)
    ⟨_,_,ps,rfl,s2,row,ep⟩ (fun i σ HK _ ⟨_,_,_,_,s2,_⟩=>aG.of (s2 _ _ e2)) ?_ ?_
   ·rintro j y σ H4 T2 hj ⟨v6,v7,qs,rfl,s4,row4,eq4⟩ hT2
    obtain⟨o,ho,rfl⟩:=bg hj;have hjl:=(List.getElem?_eq_some_iff.mp ho).1;have sT:=ac (o:=.tup [.int (j:Int),.int o]) hT2;have hTT:aD H4 T2 (.tup [.int (j:Int),.int o]) T2=some (.tup [.int (j:Int),.int o]):=aa;have row4:=row4.mono sT;have s4:=s4.trans sT;generalize aD H4 T2 (.tup [.int (j:Int),.int o])=H4 at hTT row4 s4 ⊢;refine⟨T2,_,rfl,aG.of hTT,rfl,_,_,rfl,_,_,rfl,rfl,?_⟩
    have ed2:g.drop j=o::g.drop (j+1):=by rw[List.drop_eq_getElem_cons hjl,(List.getElem?_eq_some_iff.mp ho).2]
    rw[ed2]at eq4;have eq4:qs++(((if gP w i j=true then [(x,o)] else [])++oA w i x (g.drop (j+1)) (j+1))++jo w g (g.drop (i+1)) (i+1))=f.row:=eq4;refine⟨_,rfl,_,rfl,_,rfl,w,i,j,rfl,_,rfl,?_⟩
    by_cases tg:gP w i j=true
    ·rw[tg]
     rw[Ai tg]at eq4;obtain⟨as,hl4,pr⟩:=row4;have al:=Ao pr;have el:=A3 List.length eq4;simp only[An,AF]at el;refine aW ⟨_,rfl,.inl ⟨rfl,_,aR.of hl4⟩,_,rfl,_,rfl,two,fun t ht=>?_⟩;have st:=ac (o:=.tup [.int x,.int o]) ht;refine⟨l,_,_,rfl,rfl,st _ _ hl4,by rw[z9];have sl:sizeLine=16777216:=AQ;omega,_,_,qs++[(x,o)],rfl,bc (s4.trans st) hl,lW hl4 pr ht,?_⟩;rw[<-eq4];simp only[Bz]
    ·rw[Ag tg]at eq4
     rw[show gP w i j=false by cases z:gP w i j with
      | true=>exact absurd z tg
      | false=>rfl]
     exact aC ⟨_,_,qs,rfl,s4,row4,eq4⟩
   rintro σ H4 ⟨v6,v7,qs,rfl,s4,row4,eq4⟩;rw[z9,List.drop_length]at eq4;exact⟨_,_,_,_,qs,rfl,s4,row4,eq4⟩
  rintro σ H4 ⟨v4,v5,v6,v7,qs,rfl,s4,row4,eq4⟩;rw[z9,List.drop_length]at eq4;have eq4:qs++[]=f.row:=eq4;rw[Bt]at eq4;rw[eq4]at row4;exact⟨_,rfl,k l H4 hl s4 row4⟩
theorem oU (F:dM K "_law_flat" "_law_flat" gL f fd)(cZ:aq P w K mg base "_law_plain_pairs" 3 ["_law_figure_here"] iR){n:Nat}(hn:n<=9)(cV:aq P w K mg base "_law_flat" (n+4) ["_law_figure_here","_law_told"] (jY n)):bp P w K mg base dq (n+4+1) f fd ["_law_figure_here","_law_told"] (jY (n+1)):=by
 refine F.ok cC (fun vs H Q E h=>?_) (fun cdv A outer s H vs Q E hr h=>?_)
 ·obtain⟨p,d,bs,tv,f,rfl,_⟩:=h
  rfl
 ·obtain⟨p,d,bs,tv,f,rfl,td,hf,kn,k1,k2⟩:=h
  have hu:=ja hr;have sl:sizeLine=16777216:=AQ
  refine⟨_,ae (aJ 2 cC.nd (aB ay (pv 0) (af) (fun _ _=>rfl))) (
   ae (aF (ao bd (pv 2) (aj) (au _)) (ag (am (jq hu (pv 1) (aB ay (pv 0) (af) (fun _ _=>rfl)) (fun _ _=>rfl)))) (ak)) (
   ae (aF (ao bd (pv 2) (aj) (au _)) (ae (aJ 3 cC.nd (aK cV (hr.mono (by omega)) rfl (b6 (aB ay (pv 0) (af) (fun _ _=>rfl)) (pv 1)))) (
   ae (aF (lV (qq (pv 3))) (ag (am (gD))) (ak)) (
   ag (am (lT rfl (pv 3) (by rfl) T.list (by rfl) T.reversed))))) (ak)) (
   ae (aF (ao lQ (pv 2) (aj) (au _)) (ag (am (aK cZ (hr.mono (by omega)) rfl (bM (pv 0))))) (ak)) (
   ae (aJ 4 cC.nd (bD aT)) (
   ae (cx AO rfl (jU (aB ay (pv 0) (af) (fun _ _=>rfl))) (fz 5 cC.nd) (ae (aJ 6 cC.nd (aK cV (hr.mono (by omega)) rfl (b6 (pv 5) (pv 1)))) (
   ae (aF (PW.pt (o7 (lV (qq (pv 6))) (nK (ao oY (ar bC (aP a9 (by rfl) T.len AW (bM (pv 4))) (aP a9 (by rfl) T.len AW (bM (pv 6)))) (af) (au _))))) (ag (am (gD))) (ak)) (
   ag (aJ 4 cC.nd (ar nG (pv 4) (pv 6))))))) (
   ag (am (pv 4)))))))),?_⟩
  obtain⟨xs,hp⟩:=hf.hd;refine⟨_,rfl,p,_,0,_,rfl,rfl,aG.of hp,ax (j:=0) rfl,?_⟩
  cases f with
  | name w =>
   refine⟨_,rfl,rfl,_,rfl,?_⟩;rw[pA];obtain⟨e1,wl⟩:=hf
   cases e:iE bs w with
   | none=>exact absurd (bO.mp kn) (cO.mp e)
   | some x =>
    have g1:=td.get w;rw[e]at g1;refine aW ⟨_,rfl,_,rfl,p,_,1,_,rfl,rfl,aG.of e1,rfl,d,_,rfl,g1,?_⟩;rw[ai.len,ai.rowF,show dw bs w=x.n by unfold dw;rw[e],show mj bs w=x.r by unfold mj;rw[e]]at k1;rw[ai.len,show dw bs w=x.n by unfold dw;rw[e]]at k2;have tr:=td.r x (c5 e).1
    by_cases lg:2000<x.n
    ·show Q (tv x.w) H
     rw[tr.2 lg];exact k2 lg H (av.refl _)
    ·obtain⟨l,e2,r,_⟩:=tr.1 (by omega)
     show Q (tv x.w) H
     rw[e2];exact k1 (by omega) l H (av.refl _) r
  | pl f =>
   refine⟨_,rfl,rfl,_,rfl,?_⟩;rw[pC];refine aC ⟨_,rfl,rfl,_,rfl,?_⟩;rw[pB];refine aC ⟨_,rfl,rfl,_,rfl,?_⟩;rw[pD];rw[ai.len,ai.rowF]at k1;exact aW ⟨_,rfl,p,f,rfl,hf.1,hf.2,fun l H1 _ s1 r=>k1 (aL.rl hf.2) l H1 s1 r⟩
  | back f =>
   refine⟨_,rfl,rfl,_,rfl,?_⟩;rw[pz];refine aC ⟨_,rfl,rfl,_,rfl,?_⟩;rw[py];obtain⟨q,e1,e2⟩:=hf;rw[ai.len]at k1 k2;rw[ai.rowF]at k1;have kn:=de.mp kn;refine aW ⟨_,rfl,p,_,1,_,rfl,rfl,aG.of e1,rfl,_,rfl,q,d,bs,tv,f,rfl,td,e2,kn,fun le l H1 s1 r=>?_,fun lg H1 s1=>?_⟩
   ·obtain⟨as,hl1,pr⟩:=r
    refine⟨_,rfl,_,rfl,aC ⟨_,rfl,l,_,rfl,aR.of hl1,fun l2 h2=>k1 le l2 _ (s1.trans (ac h2)) ?_⟩⟩;rw[<-List.map_reverse];exact⟨as.reverse,aa,d9 (Paired.mapP pr fun _ _ z=>ac h2 _ _ z)⟩
   ·exact⟨_,rfl,_,rfl,aW (k2 lg H1 s1)⟩
  | row fs =>
   refine⟨_,rfl,rfl,_,rfl,?_⟩;rw[pF];refine aC ⟨_,rfl,rfl,_,rfl,?_⟩;rw[pE];refine aC ⟨_,rfl,rfl,_,rfl,?_⟩;rw[rB];obtain⟨t,as,e1,e2,fl,pr⟩:=hf;have al:=Ao pr;rw[ai.len]at k1 k2;rw[ai.rowF,gG]at k1;have kn:=ce.mp kn;refine aC ⟨Au _,fun l0 hl0=>?_⟩;have s1:=ac (o:=.lst []) hl0;refine⟨_,rfl,p,_,1,_,rfl,rfl,aG.of (s1 _ _ e1),rfl,t,rfl,⟨_,aG.of (s1 _ _ e2)⟩,?_⟩
   refine gR (K:=K) (a:=t) (xs:=as.map V.ref) (fun i σ HK=>∃ (l:Addr)(v3 v5 v6:Option V),σ=[some (.ref p),some (.ref d),some (.str (ai.row fs).word),v3,some (.ref l),v5,v6]/\av H HK/\bF HK l ((fs.take i).flatMap (ai.rowF (mj bs)))/\ai.lenL (dw bs) (fs.take i)<=2000)
    ⟨l0,none,none,none,rfl,s1,⟨[],aa,.nil⟩,by rw[List.take_zero,ai.lenL];exact Au _⟩ (fun i σ HK _ ⟨_,_,_,_,_,s2,_⟩=>aG.of (s2 _ _ e2)) ?_ ?_
   ·rintro i y σ HK hi ⟨l,v3,v5,v6,rfl,s2,row,ll⟩
    obtain⟨a,ha,rfl⟩:=bg hi;obtain⟨u,hu,hA⟩:=bQ pr ha;have um:=Ax hu
    have tk:ai.lenL (dw bs) (fs.take (i+1))=ai.lenL (dw bs) (fs.take i)+u.len (dw bs):=by rw[je,je,AB,hu,AL,Ah,List.sum_append];simp
    have tl:=gT (e:=dw bs) (i+1) fs;refine⟨_,rfl,_,rfl,a,d,bs,tv,u,rfl,td.mono s2,hA.mono (fun _ _ z=>s2 _ _ z),kn u um,fun le l3 H3 s3 r3=>?_,fun lg H3 s3=>?_⟩
    ·have s23:=s2.trans s3
     have r2:=row.mono s3;obtain⟨cs,hl2,pc⟩:=id r2;obtain⟨ds,hl4,pd⟩:=id r3;have rl1:=Ao pc;have rl2:=Ao pd;have len1:=ai.row_lenL td.okr (fs.take i) (fun g hg=>kn g (List.mem_of_mem_take hg)) ll;rw[gG]at len1;have len2:=ai.row_len td.okr u (kn u um) le;refine⟨_,rfl,_,rfl,aC ⟨_,rfl,l,_,rfl,.inl (aR.of hl2),_,rfl,l3,_,rfl,.inl (aR.of hl4),_,_,rfl,rfl,_,_,rfl,rfl,_,rfl,?_⟩⟩;rw[z9,z9]
     by_cases ov:ai.lenL (dw bs) (fs.take i)+u.len (dw bs)<=2000
     ·rw[Ab (by omega)]
      refine aC ⟨_,rfl,_,rfl,l,l3,_,_,rfl,rfl,hl2,hl4,by rw[z9,z9];omega,fun l5 hl5=>?_⟩;refine⟨l5,_,_,_,rfl,s23.trans (ac hl5),?_,by omega⟩;rw[AB,hu,AL,List.flatMap_append,List.flatMap_singleton,<-Ah];exact⟨cs++ds,aa,aQ (Paired.mapP pc fun _ _ z=>ac hl5 _ _ z) (Paired.mapP pd fun _ _ z=>ac hl5 _ _ z)⟩
     ·rw[Af (by omega)]
      exact aW (k2 (by omega) _ s23)
    ·exact⟨_,rfl,_,rfl,aW (aW (k2 (by omega) _ (s2.trans s3)))⟩
   rintro σ HK ⟨l,v3,v5,v6,rfl,s2,row,ll⟩;rw[z9,al,AC]at row ll;exact⟨_,rfl,k1 ll l HK s2 row⟩
theorem my (F:dM K "_law_spread" "_law_spread" fh f fd)(M_FigureBook_spread:aS P w K mg base (iz P w) ck "spread" 14 ["self","figure"] (rp ck cq cL)) : bp P w K mg base dq 15 f fd ["_law_book","_law_figure_here"] (j2 ck):=by
 refine F.ok cf (fun vs H Q E h=>?_) (fun cdv A outer s H vs Q E hr h=>?_)
 ·obtain⟨b,p,A,bs,f,rfl,_⟩:=h
  rfl
 ·obtain⟨b,p,A,bs,f,rfl,B,hf,k1,k2,k3⟩:=h
  have two:(2:Nat)<=sizeLine:=by decide
  refine⟨_,ae (aJ 2 cf.nd (aj)) (
   ae (aJ 3 cf.nd (gD)) (
   ae (rm rfl rfl (fun pins E=>ag (aJ 3 cf.nd (tY M_FigureBook_spread (pv 0) UO.f.cl hr.m tM (bM (pv 1))))) (js rfl UO.mU (fun ea oe=>ag (aJ 2 cf.nd (aj))) (js rfl UO.mL (fun ea oe=>ag (aJ 2 cf.nd (aj))) tT))) (
   ag (am (aI (b6 (pv 2) (pv 3))))))),?_⟩
  have nT:∀ {x y z:V},(mi x y z).lookup ("spread" : Str)=none:=d7 (by decide +kernel);refine⟨_,rfl,b,A.dx,_,rfl,B.ob,nT,_,rfl,b,p,A,bs,f,rfl,B,hf,fun kn H1 s1=>?_,fun kn lg H1 s1=>?_,fun kn lg l H1 hl s1 r=>?_⟩
  ·exact⟨_,UO.uu,aW ⟨_,rfl,_,rfl,two,fun t ht=>k1 kn t _ (s1.free ht) (s1.trans (ac ht)) aa⟩⟩
  ·exact⟨_,UO.lu,aC ⟨_,UO.ll,aW ⟨_,rfl,_,rfl,two,fun t ht=>k2 kn lg t _ (s1.free ht) (s1.trans (ac ht)) aa⟩⟩⟩
  ·exact⟨_,rfl,_,rfl,two,fun t ht=>k3 kn lg t l _ (s1.free ht) hl (s1.trans (ac ht)) aa (r.mono (ac ht))⟩
theorem lK (F:dM K "_law_defined" "_law_defined" eA f fd)(M_FigureBook_define:aS P w K mg base (iz P w) ck "define" 14 ["self","word","figure"] (jw ck cq cB cT)) : bp P w K mg base dq 15 f fd ["_law_book","_law_word_here","_law_figure_here"] (md ck):=by
 refine F.ok cA (fun vs H Q E h=>?_) (fun cdv A outer s H vs Q E hr h=>?_)
 ·obtain⟨b,p,A,bs,w,f,rfl,_⟩:=h
  rfl
 ·obtain⟨b,p,A,bs,w,f,rfl,B,hf,asc,wl,bl,k1,k2⟩:=h
  refine⟨_,ae (aJ 3 cA.nd (aj)) (
   ae (rm rfl rfl (fun pins E=>ag (bz (tY M_FigureBook_define (pv 0) UO.f.cl hr.m tM (b6 (pv 1) (pv 2))))) (js rfl UO.mB (fun ea oe=>ag (aJ 3 cA.nd (aj))) (js rfl UO.mT (fun ea oe=>ag (aJ 3 cA.nd (aj))) (js rfl UO.mU (fun ea oe=>ag (aJ 3 cA.nd (aj))) tT)))) (
   ag (am (pv 3)))),?_⟩
  have nT:∀ {x y z:V},(mi x y z).lookup ("define" : Str)=none:=d7 (by decide +kernel);refine⟨_,rfl,b,A.dx,_,rfl,B.ob,nT,_,rfl,_,rfl,b,p,A,bs,w,f,rfl,B,hf,asc,wl,bl,fun hd x H1 e1 e2 e3 e4 e5 B1 kp=>?_,fun hd H1 s1=>?_,fun hd H1 s1=>?_,fun hd H1 s1=>?_⟩
  ·exact⟨_,rfl,k1 hd x H1 e1 e2 e3 e4 e5 B1 kp⟩
  ·have:=k2 (by rw[hd];simp) H1 s1
   rw[hd]at this;exact⟨_,UO.bb,aW ⟨_,rfl,this⟩⟩
  ·have:=k2 (by rw[hd];simp) H1 s1
   rw[hd]at this;exact⟨_,UO.tb,aC ⟨_,UO.tt,aW ⟨_,rfl,this⟩⟩⟩
  ·have:=k2 (by rw[hd];simp) H1 s1
   rw[hd]at this;exact⟨_,UO.ub,aC ⟨_,UO.ut,aC ⟨_,UO.uu,aW ⟨_,rfl,this⟩⟩⟩⟩
theorem lI (F:dM K "_law_book_of" "_law_book_of" ee f fd)(aY:aq P w K mg base "_law_cell_at" 1 ["_law_script","_law_k"] (l7 K))(bX:aq P w K mg base "_law_size" 1 ["_law_cell"] jZ)(iB:aq P w K mg base "_law_word" 3 ["_law_cell"] rz)(bI:aq P w K mg base "_law_draws" 2 ["_law_cell","_law_many","_law_base"] gZ)(cG:aq P w K mg base "_law_figure" 5 ["_law_draws_here","_law_cell","_law_names"] jx) : bp P w K mg base dq 6 f fd ["_law_script","_law_start","_law_most"] (nX K):=by
 refine F.ok bV (fun vs H Q E h=>?_) (fun cdv A outer s H vs Q E hr h=>?_)
 ·obtain⟨a,ns,rfl,_⟩:=h
  rfl
 ·obtain⟨a,ns,rfl,hS,hlen,k⟩:=h
  have hu:=ja hr
  have two:(2:Nat)<=sizeLine:=by decide
  have sl:sizeLine=16777216:=AQ
  refine⟨_,ae (aJ 3 bV.nd (bD aT)) (
   ae (aJ 4 bV.nd (bD aT)) (
   ae (cx AO rfl (dW (by rfl) T.range (bM (pv 2))) (fz 5 bV.nd) (ae (aJ 6 bV.nd (aK iB hr.m rfl (bM (ar bC (aK bX hr.m rfl (bM (aK aY hr.m rfl (b6 (pv 0) (ar bC (pv 1) (ar dg (af) (pv 5))))))) (ar dg (af) (pv 5)))))) (
   ag (aF (PW.pt (iO (ao jn (pv 6) (pv 3) rfl) (gY (ao oY (aP a9 (by rfl) T.len AW (bM (pv 0))) (ar bC (pv 1) (ar dg (af) (pv 5))) (au _))))) (ae (aJ 7 bV.nd (aK bI hr.m rfl (qp (aK aY hr.m rfl (b6 (pv 0) (ar bC (ar bC (pv 1) (ar dg (af) (pv 5))) (af)))) (af) (af)))) (
   ae (bz (fm Ay AD AE bH (pv 4) (bM (aK cG hr.m rfl (qp (pv 7) (aK aY hr.m rfl (b6 (pv 0) (af))) (bB fC (by rfl) T.list Br (bM (pv 3)))))))) (
   ag (bz (fm Ay AD AE bH (pv 3) (bM (pv 6))))))) (ak))))) (
   ag (am (aI (b6 (pv 3) (pv 4))))))),?_⟩
  refine⟨Au _,fun ln hln=>⟨Au _,fun lf hlf=>?_⟩⟩;have q1:=ac (o:=.lst []) hln;have q2:=ac (o:=.lst []) hlf
  have nef:ln≠lf:=fun z=>by rw[<-z,aa]at hlf;cases hlf
  refine⟨_,rfl,6,rfl,by decide,by decide,?_⟩
  refine dc (fun i σ HK=>∃ (es:List NF)(v5 v6 v7:Option V),σ=[some (.ref a),some (.int 2),some (.int 6),some (.ref ln),some (.ref lf),v5,v6,v7]/\av H HK/\ol HK ln lf es/\es.length<=i)
   ⟨[],none,none,none,rfl,q1.trans q2,⟨by rw[ap nef,aa];rfl,aa,(fun e he=>nomatch he),(fun e he=>nomatch he),BU,(fun i e he=>by cases i<;>cases he)⟩,Ad _⟩ ?_ ?_
  ·rintro i σ H2 hi ⟨es,v5,v6,v7,rfl,s2,x,xl⟩
   have hi:i<6:=hi;have lnN:H ln=none:=hln;have lfN:H lf=none:=q1.free hlf;have cm:∀ j:Int,sJ 2 j:=fun j=>.inl ⟨by decide,by decide⟩;have cm7:∀ j:Int,sJ 7 j:=fun j=>.inl ⟨by decide,by decide⟩;refine⟨_,rfl,_,rfl,_,rfl,_,_,rfl,rfl,cm _,_,_,rfl,rfl,a,ns,_,rfl,s2.seq hS,by omega,_,rfl,_,rfl,_,_,rfl,rfl,cm7 _,_,_,rfl,rfl,_,rfl,fun w H3 nm s3=>?_⟩;have x3:=x.mono s3;have s23:=s2.trans s3;refine⟨_,rfl,_,rfl,ln,_,rfl,.inl (aR.of x3.n),rfl,jG _,_,rfl,?_⟩;rw[show (if true=true then !uS (V.str w) ((es.map (·.1)).map V.str) else uS (V.str w) ((es.map (·.1)).map V.str)) = !decide (w∈es.map (·.1)) by rw[kG];rfl]
   by_cases nw:w∈es.map (·.1)
   ·rw[Af nw]
    exact aC (aC ⟨es,_,_,_,rfl,s23,x3,by omega⟩)
   rw[Ab nw];refine aW ⟨_,rfl,a,_,rfl,.inl (s23.seq hS),_,rfl,_,rfl,_,_,rfl,rfl,cm _,_,_,rfl,rfl,_,_,rfl,rfl,_,rfl,fE (fun _=>?_) (fun _=>⟨es,_,_,_,rfl,s23,x3,by omega⟩)⟩;refine⟨_,rfl,_,rfl,_,rfl,_,_,rfl,rfl,cm _,_,_,rfl,rfl,_,_,rfl,rfl,a,ns,_,rfl,s23.seq hS,by omega,_,9,219600,rfl,⟨by decide,by decide⟩,⟨by decide,by decide⟩,fun l1 ds hl1 dps dln=>?_⟩;have r1:=ac (o:=.lst (ds.map V.int)) hl1;have x4:=x3.mono r1;refine⟨_,rfl,.inl ⟨rfl,_,aR.of x4.f⟩,_,rfl,_,rfl,a,ns,1,rfl,(s23.trans r1).seq hS,by decide,_,rfl,ln,_,rfl,.inl (aR.of x4.n),fun l2 hl2=>?_⟩;have r2:=ac (o:=.lst ((es.map (·.1)).map V.str)) hl2;refine⟨l1,l2,_,ds,es.map (·.1),rfl,r2 _ _ aa,fun d hd=>(dps d hd).1,by omega,aa,fun z hz=>?_,by rw[z9];omega,fun p f H5 s5 hf fn kn=>?_⟩
   ·obtain⟨e,he,rfl⟩:=AH.mp hz
    have:=qj (x.k e he).1;omega
   have x5:=x4.mono (r2.trans s5);have s5:av H H5:=s23.trans (r1.trans (r2.trans s5));refine⟨lf,_,_,rfl,rfl,x5.f,by rw[z9,z9];omega,?_⟩
   have hn6:aD H5 lf (.lst ((es.map (·.2.1)).map V.ref++[.ref p])) ln=some (.lst ((es.map (·.1)).map V.str)):=by rw[ap nef];exact x5.n
   refine⟨_,rfl,.inl ⟨rfl,_,aR.of hn6⟩,_,rfl,ln,_,_,rfl,rfl,hn6,by rw[z9,z9];omega,?_⟩
   have up:∀ b ys,H5 b=some (.tup ys)->aD (aD H5 lf (.lst ((es.map (·.2.1)).map V.ref++[.ref p]))) ln (.lst ((es.map (·.1)).map V.str++[.str w])) b=some (.tup ys):=fun b ys e=>by
    rw[ap (fun z=>by rw[z,x5.n]at e;cases e),ap (fun z=>by rw[z,x5.f]at e;cases e)];exact e
   exact⟨es++[(w,p,f)],_,_,_,rfl,bc (bc s5 lfN) lnN,x5.snoc up aa (by rw[ap (AK nef),aa]) (hf.mono up) nm fn nw kn,by rw[An,AF];omega⟩
  rintro σ HK ⟨es,v5,v6,v7,rfl,s2,x,xl⟩;exact⟨_,rfl,_,rfl,two,fun t ht=>k t ln lf es _ (s2.trans (ac ht)) aa (x.mono (ac ht)) xl⟩
theorem kC (F:dM K "_law_names_of" "_law_names_of" dG f fd){n:Nat}(hn:n<=9)(bT:aq P w K mg base "_law_names_of" (n+1) ["_law_figure_here"] (hG n)):bp P w K mg base dq (n+1+1) f fd ["_law_figure_here"] (hG (n+1)):=by
 refine F.ok cQ (fun vs H Q E h=>?_) (fun cdv A outer s H vs Q E hr h=>?_)
 ·obtain⟨p,f,rfl,_⟩:=h
  rfl
 ·obtain⟨p,f,rfl,hf,nl,k⟩:=h
  have sl:sizeLine=16777216:=AQ
  refine⟨_,ae (aF (ao bd (aB ay (pv 0) (af) (fun _ _=>rfl)) (aj) (au _)) (ag (am (bD (bM (aB ay (pv 0) (af) (fun _ _=>rfl)))))) (ak)) (
   ae (aF (ao bd (aB ay (pv 0) (af) (fun _ _=>rfl)) (aj) (au _)) (ag (am (aK bT (hr.mono (by omega)) rfl (bM (aB ay (pv 0) (af) (fun _ _=>rfl)))))) (ak)) (
   ae (aJ 1 cQ.nd (bD aT)) (
   ae (aF (ao bd (aB ay (pv 0) (af) (fun _ _=>rfl)) (aj) (au _)) (ag (cx AO rfl (jU (aB ay (pv 0) (af) (fun _ _=>rfl))) (fz 2 cQ.nd) (ag (aJ 1 cQ.nd (ar nG (pv 1) (aK bT (hr.mono (by omega)) rfl (bM (pv 2)))))))) (ak)) (
   ag (am (pv 1)))))),?_⟩
  obtain⟨xs,hp⟩:=hf.hd;refine⟨_,rfl,p,_,0,_,rfl,rfl,aG.of hp,ax (j:=0) rfl,rfl,_,rfl,?_⟩
  cases f with
  | name w =>
   rw[pA];obtain⟨e1,wl⟩:=hf;exact aW ⟨_,rfl,p,_,1,_,rfl,rfl,aG.of e1,rfl,by show (1:Nat)<=sizeLine;decide,fun l hl=>k l _ hl (ac hl) aa⟩
  | pl f =>
   rw[pC];refine aC ⟨_,rfl,p,_,0,_,rfl,rfl,aG.of hp,ax (j:=0) rfl,rfl,_,rfl,?_⟩;rw[pB];refine aC ⟨Au _,fun l hl=>?_⟩;have s1:=ac (o:=.lst []) hl;refine⟨_,rfl,p,_,0,_,rfl,rfl,aG.of (s1 _ _ hp),ax (j:=0) rfl,rfl,_,rfl,?_⟩;rw[pD];exact aC ⟨_,rfl,k l _ hl s1 aa⟩
  | back f =>
   rw[pz];refine aC ⟨_,rfl,p,_,0,_,rfl,rfl,aG.of hp,ax (j:=0) rfl,rfl,_,rfl,?_⟩;rw[py];obtain⟨q,e1,e2⟩:=hf;rw[ai.names]at nl k;exact aW ⟨_,rfl,p,_,1,_,rfl,rfl,aG.of e1,rfl,q,f,rfl,e2,nl,k⟩
  | row fs =>
   rw[pF];refine aC ⟨_,rfl,p,_,0,_,rfl,rfl,aG.of hp,ax (j:=0) rfl,rfl,_,rfl,?_⟩;rw[pE];refine aC ⟨Au _,fun l0 hl0=>?_⟩;have s1:=ac (o:=.lst []) hl0;refine⟨_,rfl,p,_,0,_,rfl,rfl,aG.of (s1 _ _ hp),ax (j:=0) rfl,rfl,_,rfl,?_⟩;rw[rB];obtain⟨t,as,e1,e2,fl,pr⟩:=hf;have al:=Ao pr;rw[ai.names]at nl k;refine aW ⟨_,rfl,p,_,1,_,rfl,rfl,aG.of (s1 _ _ e1),rfl,t,rfl,⟨_,aG.of (s1 _ _ e2)⟩,?_⟩
   refine gR (K:=K) (a:=t) (xs:=as.map V.ref) (fun i σ HK=>∃ (v:Option V)(l:Addr),σ=[some (.ref p),some (.ref l),v]/\av H HK/\H l=none/\HK l=some (.lst ((ai.namesL (fs.take i)).map V.str)))
    ⟨none,l0,rfl,s1,hl0,aa⟩ (fun i σ HK _ ⟨_,_,_,s2,_⟩=>aG.of (s2 _ _ e2)) ?_ ?_
   ·rintro i y σ HK hi ⟨v,l,rfl,s2,hl,hl2⟩
    obtain⟨a,ha,rfl⟩:=bg hi;obtain⟨u,hu,hA⟩:=bQ pr ha
    have nt:ai.namesL (fs.take (i+1))=ai.namesL (fs.take i)++u.names:=by rw[AB,hu,AL,fH,ai.namesL,ai.namesL,Bt]
    have nt2:=oM (i+1) fs;have nt3:=A3 List.length nt;rw[An]at nt3;refine⟨_,rfl,_,rfl,a,u,rfl,hA.mono (fun _ _ z=>s2 _ _ z),by omega,fun l3 H3 hl3 s3 h3=>?_⟩;refine⟨l,l3,_,_,rfl,rfl,s3 _ _ hl2,h3,by rw[z9,z9];omega,fun l4 h4=>?_⟩;refine⟨_,l4,rfl,(s2.trans s3).trans (ac h4),(s2.trans s3).free h4,?_⟩;rw[aa,nt,Ah]
   rintro σ HK ⟨v,l,rfl,s2,hl,hl2⟩;rw[z9,al,AC]at hl2;exact⟨_,rfl,k l HK hl s2 hl2⟩
theorem ij (F:dM K "_law_at_the_bound" "_law_at_the_bound" bS f fd)(aV:aq P w K mg base "_law_spread" 15 ["_law_book","_law_figure_here"] (j2 ck))(dU:aq P w K mg base "_law_row" 3 ["_law_found"] me)(MF:sL P w K mg base ck) : bp P w K mg base dq 16 f fd ["_law_book"] (kQ ck):=by
 refine F.ok bo (fun vs H Q E h=>?_) (fun cdv A outer s H vs Q E hr h=>?_)
 ·obtain⟨b,A,bs,rfl,_⟩:=h
  rfl
 ·obtain⟨b,A,bs,rfl,B,k⟩:=h
  have two:(2:Nat)<=sizeLine:=by decide
  have sl:sizeLine=16777216:=AQ
  refine⟨_,ae (aJ 1 bo.nd (bB bA (by rfl) T.tuple AU (bM (cr (so:=ah bS) (N:=d8) (N':=["_law_k"]) (src:=[none]) rfl rfl pK rfl (dW (by rfl) T.range (bM (af))) (fun cl C s2 H2 ex=>⟨fz 0 (show (["_law_k"]:List Str).Nodup by decide +kernel),bE,ar dg (af) (pv 0)⟩))))) (
   ae (aJ 2 bo.nd (bD (qp (aI (b6 (aj) (pv 1))) (aI (b6 (aj) (ft lY (pv 1) gW (gX (af))))) (aI (b6 (aj) (ft lY (pv 1) (gX (af)) gW)))))) (
   ae (tZ (aK aV hr.m rfl (b6 (pv 0) (aI (b6 (aj) (bB bA (by rfl) T.tuple AU (bM (pv 2))))))) (jT rfl (ca (fz 3 bo.nd) (ca (fz 4 bo.nd) gV)))) (
   ae (aF (PW.pt (o7 (ao lQ (pv 3) (aj) (au _)) (o7 (fL (fb (aK dU hr.m rfl (bM (pv 4))))) (nK (ao lQ (aP a9 (by rfl) T.len AW (bM (pv 4))) (af) (au _)))))) (ag (am (eR))) (ak)) (
   ae (aJ 5 bo.nd (ar nG (pv 2) (bD (bM (aI (qp (aj) (af) (af))))))) (
   ae (aF (ao (nH 3 (tj hr (by decide))) (aK aV hr.m rfl (b6 (qo MF UO.f hr.m rfl) (aI (b6 (aj) (bB bA (by rfl) T.tuple AU (bM (ar nG (pv 5) (bD (bM (aI (b6 (aj) (aj)))))))))))) (aI (b6 (aj) (gD))) (au _)) (ag (am (eR))) (ak)) (
   ag (am (c8 (lP 3 (tj hr (by decide))) (aK aV hr.m rfl (b6 (pv 0) (aI (b6 (aj) (bB bA (by rfl) T.tuple AU (bM (pv 5))))))) (aI (b6 (aj) (gD))) (au _))))))))),?_⟩
  refine⟨60,rfl,by decide,by decide,fun c hc=>?_⟩;refine sd (f:=fun k=>.int (3*(0+(k:Int)))) hc (by decide) (fun c HK Q' sK kk=>⟨_,rfl,_,_,rfl,rfl,.inl ⟨by decide,by decide⟩,kk HK (av.refl _)⟩) (fun H1 s1 hc1=>?_);obtain⟨S,eS,lS⟩:∃ S:List Int,(List.range 60).map (fun k:Nat=>V.int (3*(0+(k:Int))))=S.map V.int/\S.length=60:=⟨(List.range 60).map fun k:Nat=>3*(0+(k:Int)),by rw[AS];rfl,by rw[z9,List.length_range]⟩;have hc1:H1 c=some (.lst (S.map V.int)):=hc1.trans (by rw[<-eS];rfl);refine⟨c,_,rfl,.inl ⟨aR.of hc1,fun q hq=>?_⟩⟩;have q1:=ac (o:=.tup (S.map V.int)) hq;refine⟨_,rfl,two,fun p1 hp1=>?_⟩;have a1:=ac (o:=.tup [.str "all",.ref q]) hp1;have hq1:=a1 _ _ (aa (H:=H1) (a:=q) (o:=.tup (S.map V.int)))
  have c20:i8 (S.map V.int) none (some 20)=(S.take 20).map V.int:=by rw[List.map_take];exact we _ 20
  have c19:i8 (S.map V.int) (some 19) none=(S.drop 19).map V.int:=by rw[List.map_drop];exact k9 _ 19
  refine⟨_,rfl,_,rfl,q,_,rfl,aG.of hq1,by rw[z9,lS];decide,fun q2 hq2=>?_⟩;rw[c20];have a2:=ac (o:=.tup ((S.take 20).map V.int)) hq2;refine⟨two,fun p2 hp2=>?_⟩;have a3:=ac (o:=.tup [.str "all",.ref q2]) hp2;have hq3:=(a2.trans a3) _ _ hq1;refine⟨_,rfl,_,rfl,q,_,rfl,aG.of hq3,by rw[z9,lS];decide,fun q3 hq3=>?_⟩;rw[c19];have a4:=ac (o:=.tup ((S.drop 19).map V.int)) hq3;refine⟨two,fun p3 hp3=>⟨by show (3:Nat)<=sizeLine;decide,fun lp hlp=>?_⟩⟩;have a5:=ac (o:=.tup [.str "line",.ref q3]) hp3;have a6:=ac (o:=.lst [.ref p1,.ref p2,.ref p3]) hlp;have ok1:(aL.all S).Ok:=⟨by show 2<=S.length;omega,by show S.length<=60;omega,fun _ _ _ _ z=>by cases z⟩;have ok2:(aL.all (S.take 20)).Ok:=⟨by show 2<=(S.take 20).length;rw[Av];omega,by show (S.take 20).length<=60;rw[Av];omega,fun _ _ _ _ z=>by cases z⟩;have ok3:(aL.line (S.drop 19)).Ok:=⟨by show 2<=(S.drop 19).length;rw[AI];omega,by show (S.drop 19).length<=60;rw[AI];omega,fun _ _ _ _ z=>by cases z⟩;have F1:=(a2.trans (a3.trans (a4.trans (a5.trans a6))));have F2:=(a4.trans (a5.trans a6))
  have fs:Paired (aN 8 (aD (aD (aD (aD (aD (aD (aD H1 q (.tup (S.map V.int))) p1 (.tup [.str "all",.ref q])) q2 (.tup ((S.take 20).map V.int))) p2 (.tup [.str "all",.ref q2])) q3 (.tup ((S.drop 19).map V.int))) p3 (.tup [.str "line",.ref q3])) lp (.lst [.ref p1,.ref p2,.ref p3]))) [p1,p2,p3] [.pl (.all S),.pl (.all (S.take 20)),.pl (.line (S.drop 19))] :=
   .cons ⟨⟨q,F1 _ _ aa,F1 _ _ hq1⟩,ok1⟩ (.cons ⟨⟨q2,F2 _ _ aa,(a3.trans F2) _ _ aa⟩,ok2⟩ (.cons ⟨⟨q3,a6 _ _ aa,(a5.trans a6) _ _ aa⟩,ok3⟩ .nil))
  have s2:=s1.trans (q1.trans (a1.trans F1));have hlp2:aD (aD (aD (aD (aD (aD (aD H1 q (.tup (S.map V.int))) p1 (.tup [.str "all",.ref q])) q2 (.tup ((S.take 20).map V.int))) p2 (.tup [.str "all",.ref q2])) q3 (.tup ((S.drop 19).map V.int))) p3 (.tup [.str "line",.ref q3])) lp (.lst [.ref p1,.ref p2,.ref p3]) lp=some (.lst ([p1,p2,p3].map V.ref)):=aa;generalize aD (aD (aD (aD (aD (aD (aD H1 q (.tup (S.map V.int))) p1 (.tup [.str "all",.ref q])) q2 (.tup ((S.take 20).map V.int))) p2 (.tup [.str "all",.ref q2])) q3 (.tup ((S.drop 19).map V.int))) p3 (.tup [.str "line",.ref q3])) lp (.lst [.ref p1,.ref p2,.ref p3])=H2 at fs s2 hlp2 ⊢
  have len3:∀ e,ai.lenL e [.pl (.all S),.pl (.all (S.take 20)),.pl (.line (S.drop 19))]=2000:=fun e=>by
   have l1:(aL.all S).row.length=1770:=qZ lS (by decide);have l2:(aL.all (S.take 20)).row.length=190:=qZ (n:=20) (by rw[Av];omega) (by decide)
   have l3:(aL.line (S.drop 19)).row.length=40:=by show ((S.drop 19).zip ((S.drop 19).drop 1)).length=40;simp only[List.length_zip,AI,lS];decide
   simp only[ai.lenL,ai.len,l1,l2,l3]
  have kn3:∀ bs:List BE,aM bs (.row [.pl (.all S),.pl (.all (S.take 20)),.pl (.line (S.drop 19))]):=fun bs=>ce.mpr fun g hg=>by
   simp only[Aq,Bd,or_false]at hg;rcases hg with rfl | rfl | rfl<;>exact jc
  clear a1 a2 a3 a4 a5 a6 F1 F2 c19 c20;generalize ai.pl (.all S)=f1 at *;generalize ai.pl (.all (S.take 20))=f2 at *;generalize ai.pl (.line (S.drop 19))=f3 at *;have B2:=B.mono s2;refine⟨_,rfl,_,rfl,lp,_,rfl,.inl ⟨aR.of hlp2,fun t1 ht1=>⟨two,fun r1 hr1=>?_⟩⟩⟩;have b1:=ac (o:=.tup ([p1,p2,p3].map V.ref)) ht1;have b2:=ac (o:=.tup [.str "row",.ref t1]) hr1;have b12:=b1.trans b2;refine⟨b,r1,A,bs,.row [f1,f2,f3],rfl,B2.mono b12,⟨t1,[p1,p2,p3],aa,b2 _ _ aa,by show 3<=100;decide,Paired.mapP fs fun _ _ z=>z.mono fun _ _ y=>b12 _ _ y⟩,fun kn=>absurd (kn3 bs) kn,fun _ lg=>?_,fun kn le t l H3 ht hl s3 h3 r3=>?_⟩
  ·rw[ai.len,len3]at lg
   omega
  have rl:((ai.row [f1,f2,f3]).rowF (mj bs)).length=2000:=by rw[ai.row_len (fun e he h=>(B.rw e he h).2) _ kn le,ai.len,len3]
  generalize (ai.row [f1,f2,f3]).rowF (mj bs)=R at r3 rl;have s23:=b12.trans s3;refine⟨t,_,rfl,aG.of h3,rfl,_,_,rfl,_,_,rfl,rfl,?_⟩;refine⟨_,rfl,rfl,_,rfl,?_⟩;rw[Af (show V.str (Str.ofString "")=V.str (Str.ofString "") from rfl)];refine aC ⟨_,rfl,l,_,rfl,r3,by omega,fun H4 s4=>⟨_,rfl,aC ?_⟩⟩;obtain⟨cs,hl4,pc⟩:=r3.mono s4;have cl:=Ao pc;refine⟨_,rfl,l,_,rfl,.inl (aR.of hl4),rfl,_,rfl,?_⟩;rw[z9,cl,rl];have s24:=s23.trans s4;refine aC ⟨_,rfl,by show (3:Nat)<=sizeLine;decide,fun p4 hp4=>⟨by show (1:Nat)<=sizeLine;decide,fun l4 hl4'=>?_⟩⟩;have c1:=ac (o:=.tup [.str "pair",.int 5,.int 6]) hp4;have c2:=ac (o:=.lst [.ref p4]) hl4';refine⟨lp,l4,_,_,rfl,rfl,(c1.trans c2) _ _ (s24 _ _ hlp2),aa,by show (4:Nat)<=sizeLine;decide,fun lm hlm=>?_⟩;have c3:=ac (o:=.lst ([p1,p2,p3].map V.ref++[.ref p4])) hlm;have c123:=c1.trans (c2.trans c3);have hlm2:aD (aD (aD H4 p4 (.tup [.str "pair",.int 5,.int 6])) l4 (.lst [.ref p4])) lm (.lst ([p1,p2,p3].map V.ref++[.ref p4])) lm=some (.lst ([p1,p2,p3,p4].map V.ref)):=aa;have fs4:Paired (aN 8 (aD (aD (aD H4 p4 (.tup [.str "pair",.int 5,.int 6])) l4 (.lst [.ref p4])) lm (.lst ([p1,p2,p3].map V.ref++[.ref p4])))) [p1,p2,p3,p4] [f1,f2,f3,.pl (.pair 5 6)]:=aQ (Paired.mapP fs fun _ _ z=>z.mono fun _ _ y=>(s24.trans c123) _ _ y) (.cons ⟨(c2.trans c3) _ _ aa,⟨by show 2<=2;decide,by show 2<=60;decide,fun _ _ _ _ z=>by cases z⟩⟩ .nil);have s25:=s24.trans c123;generalize aD (aD (aD H4 p4 (.tup [.str "pair",.int 5,.int 6])) l4 (.lst [.ref p4])) lm (.lst ([p1,p2,p3].map V.ref++[.ref p4]))=H5 at hlm2 fs4 s25 ⊢
  have len4:∀ e,ai.lenL e [f1,f2,f3,.pl (.pair 5 6)]=2001:=fun e=>by
   have h1:=len3 e;have e1:(aL.pair 5 6).row.length=1:=rfl;simp only[ai.lenL,ai.len,e1]at h1 ⊢;omega
  have kn4:∀ bs:List BE,aM bs (.row [f1,f2,f3,.pl (.pair 5 6)]):=fun bs=>ce.mpr fun g hg=>by
   have k3:=ce.mp (kn3 bs);simp only[Aq,Bd,or_false]at hg;rcases hg with rfl | rfl | rfl | rfl
   ·exact k3 _ (by simp)
   ·exact k3 _ (by simp)
   ·exact k3 _ (by simp)
   ·exact jc
  generalize ai.pl (.pair 5 6)=f4 at *;intro b2 dx2 nx2 ndx2 nex2;refine⟨b2,dx2,rfl,aa,fun A2 H6 kp2 B6 _ _ _=>⟨rfl,?_⟩⟩;have s6:=jL nx2 ndx2 kp2;refine⟨_,rfl,two,fun p5 hp5=>⟨by show (1:Nat)<=sizeLine;decide,fun l5 hl5=>?_⟩⟩;have d1:=ac (o:=.tup [.str "name",.str "hey"]) hp5;have d2:=ac (o:=.lst [.ref p5]) hl5;refine⟨lm,l5,_,_,rfl,rfl,(d1.trans d2) _ _ (s6 _ _ hlm2),aa,by show (5:Nat)<=sizeLine;decide,fun l6 hl6=>⟨l6,_,rfl,.inl ⟨aR.of aa,fun t2 ht2=>⟨two,fun r2 hr2=>?_⟩⟩⟩⟩;have d3:=ac (o:=.lst ([p1,p2,p3,p4].map V.ref++[.ref p5])) hl6;have d4:=ac (o:=.tup ([p1,p2,p3,p4].map V.ref++[.ref p5])) ht2;have d5:=ac (o:=.tup [.str "row",.ref t2]) hr2;have dd:=d1.trans (d2.trans (d3.trans (d4.trans d5)));refine⟨b2,r2,A2,[],.row [f1,f2,f3,f4,.name "hey"],rfl,B6.mono dd,⟨t2,[p1,p2,p3,p4,p5],aa,d5 _ _ aa,by show 5<=100;decide,aQ (l:=[p1,p2,p3,p4]) (m:=[f1,f2,f3,f4]) (Paired.mapP fs4 fun _ _ z=>z.mono fun _ _ y=>dd _ _ (s6 _ _ y)) (.cons ⟨(d2.trans (d3.trans (d4.trans d5))) _ _ aa,by decide⟩ .nil)⟩,fun kn t H7 ht s7 h7=>?_,fun kn=>?_,fun kn=>?_⟩
  rotate_left
  ·exact nomatch bO.mp (ce.mp kn (.name "hey") (by simp))
  ·exact nomatch bO.mp (ce.mp kn (.name "hey") (by simp))
  refine⟨two,fun u hu=>⟨t,u,_,_,rfl,rfl,eW (ac hu _ _ h7),eW aa,fun bb hbb=>⟨_,rfl,?_⟩⟩⟩;rw[show (if true=true then !bb else bb)=false by rw[hbb.mpr rfl];rfl];have s57:=s6.trans (dd.trans (s7.trans (ac (o:=.tup [.str "Unknown",.non]) hu)));generalize aD H7 u (.tup [.str "Unknown",.non])=H8 at s57 ⊢;refine aC ⟨_,rfl,_,rfl,lm,_,rfl,.inl ⟨aR.of (s57 _ _ hlm2),fun t3 ht3=>⟨two,fun r3 hr3=>?_⟩⟩⟩;have g1:=ac (o:=.tup ([p1,p2,p3,p4].map V.ref)) ht3;have g2:=ac (o:=.tup [.str "row",.ref t3]) hr3;have g12:=s57.trans (g1.trans g2);refine⟨b,r3,A,bs,.row [f1,f2,f3,f4],rfl,(B2.mono s25).mono g12,⟨t3,[p1,p2,p3,p4],aa,g2 _ _ aa,by show 4<=100;decide,Paired.mapP fs4 fun _ _ z=>z.mono fun _ _ y=>g12 _ _ y⟩,fun kn=>absurd (kn4 bs) kn,fun kn lg t H9 ht s9 h9=>?_,fun kn le=>?_⟩
  ·refine⟨two,fun u2 hu2=>⟨t,u2,_,_,rfl,rfl,eW (ac hu2 _ _ h9),eW aa,fun bb hbb=>?_⟩⟩
   rw[show (if false=true then !bb else bb)=true from hbb.mpr rfl];exact k _ (s2.trans (s25.trans (g12.trans (s9.trans (ac hu2)))))
  ·rw[ai.len,len4]at le
   omega
theorem nu (F:dM K "_law_chain" "_law_chain" dR f fd)(aX:aq P w K mg base "_law_guest" 2 ["_law_k","_law_cell"] g9)(cc:aq P w K mg base "_law_defined" 15 ["_law_book","_law_word_here","_law_figure_here"] (md ck))(aV:aq P w K mg base "_law_spread" 15 ["_law_book","_law_figure_here"] (j2 ck))(MF:sL P w K mg base ck)(M_FigureBook_names:aS P w K mg base dq ck "names" 1 ["self"] (fw ck)) : bp P w K mg base dq 17 f fd ["_law_cell"] kR:=by
 refine F.ok b9 (fun vs H Q E h=>?_) (fun cdv A outer s H vs Q E hr h=>?_)
 ·obtain⟨c,rfl,_⟩:=h
  rfl
 ·obtain⟨c,rfl,k⟩:=h
  have two:(2:Nat)<=sizeLine:=by decide
  have sl:sizeLine=16777216:=AQ
  refine⟨_,ae (aJ 1 b9.nd (qo MF UO.f hr.m rfl)) (
   ae (rj (ix:=2) (so:=ah dR) (N:=kl) (N':=["_law_sign"]) (src:=[none]) rfl rfl pK rfl (tV (aj)) (fun cl C s2 H2 ex=>⟨fz 0 (show (["_law_sign"]:List Str).Nodup by decide +kernel),bE,ar lO (aj) (pv 0)⟩) b9.nd rfl rfl) (
   ae (aJ 3 b9.nd (aI (b6 (aK aX hr.m rfl (b6 (af) (pv 0))) (aK aX hr.m rfl (b6 (af) (pv 0)))))) (
   ae (aJ 4 b9.nd (aI (qp (aj) (aB ay (pv 3) (af) (fun _ _=>rfl)) (aB ay (pv 3) (af) (fun _ _=>rfl))))) (
   ae (cx AO rfl (bR (pv 2)) (fz 5 b9.nd) (ae (aF (ao lQ (aK cc hr.m rfl (qp (pv 1) (pv 5) (pv 4))) (aj) (au _)) (ag (am (eR))) (ak)) (
   ag (aJ 4 b9.nd (aI (b6 (aj) (aI (b6 (aj) (pv 5))))))))) (
   ag (am ((nI (c8 (lP 3 (tj hr (by decide))) (tX M_FigureBook_names (pv 1) UO.f.cl hr.m fX) (pv 2) (au _)) (jS (c8 (lP 3 (tj hr (by decide))) (aK aV hr.m rfl (b6 (pv 1) (pv 4))) (aI (b6 (aj) (bD (bM (pv 3))))) (au _))))))))))),?_⟩
  intro b dx nx ndx nex;refine⟨b,dx,rfl,aa,fun A H1 kp B1 n1 n2 n3=>⟨rfl,?_⟩⟩;have s1:=jL nx ndx kp
  have s0:av H (aD (aD H dx (.own b)) b (.ins ck dx [])):=fun c o e=>by rw[ap (aH e nx),ap (aH e ndx)];exact e
  have d1n:H A.d1=none:=s0.free n1;have d2n:H A.d2=none:=s0.free n2;have d3n:H A.d3=none:=s0.free n3;refine⟨_,rfl,by unfold vo;decide +kernel,fun ln hln=>?_⟩;refine se (f:=fun c=>.str ("x"++⟨#[c]⟩)) hln (by decide +kernel) (fun c HK Q' sK kk=>⟨_,rfl,_,_,rfl,rfl,by show (1:Nat)+1<=sizeLine;decide,kk HK (av.refl _)⟩) (fun H2 s2 hln2=>?_);obtain⟨NS,eN,lN,nN,dN⟩:∃ NS:List Str,(Str.ofString "abcdefghijklmnopqrst").cps.toList.map (fun c=>V.str ("x"++⟨#[c]⟩))=NS.map V.str/\NS.length=20/\(∀ z∈NS,iI z=true)/\NS.Nodup:=⟨(Str.ofString "abcdefghijklmnopqrst").cps.toList.map fun c=>"x"++⟨#[c]⟩,by rw[AS];rfl,by decide +kernel,fun z hz=>Bn.mp (show ((Str.ofString "abcdefghijklmnopqrst").cps.toList.map fun c=>("x"++⟨#[c]⟩:Str)).all iI=true by decide +kernel) z hz,by decide +kernel⟩;have hln2:H2 ln=some (.lst (NS.map V.str)):=hln2.trans (by rw[<-eN]);refine⟨_,rfl,0,c,rfl,⟨by decide,by decide⟩,_,rfl,1,c,rfl,⟨by decide,by decide⟩,two,fun pp hpp=>?_⟩;generalize lj 0 c=g0;generalize lj 1 c=g1;have s3:=ac (o:=.tup [.int g0,.int g1]) hpp;refine⟨_,rfl,pp,_,0,_,rfl,rfl,aG.of aa,ax (j:=0) rfl,_,rfl,pp,_,1,_,rfl,rfl,aG.of aa,rfl,by show (3:Nat)<=sizeLine;decide,fun p0 hp0=>?_⟩;have s4:=ac (o:=.tup [.str "pair",.int g0,.int g1]) hp0;have s34:=s3.trans s4;have hpp4:=s4 _ _ (aa (H:=H2) (a:=pp) (o:=.tup [.int g0,.int g1]));have hl4:=s34 _ _ hln2;have B4:=B1.mono (s2.trans s34);have hf0:aN 9 (aD (aD H2 pp (.tup [.int g0,.int g1])) p0 (.tup [.str "pair",.int g0,.int g1])) p0 (.pl (.pair g0 g1)):=⟨aa,⟨by show 2<=2;decide,by show 2<=60;decide,fun _ _ _ _ z=>by cases z⟩⟩
  have s4:=s1.trans (s2.trans s34);generalize aD (aD H2 pp (.tup [.int g0,.int g1])) p0 (.tup [.str "pair",.int g0,.int g1])=H4 at hpp4 hl4 B4 hf0 s4 ⊢;refine⟨_,rfl,ln,rfl,⟨_,aR.of hl4⟩,?_⟩
  refine bU (K:=K) (a:=ln) (xs:=NS.map V.str) (fun i σ HK=>∃ (bs:List BE)(p:Addr)(f:ai)(v5:Option V),σ=[some (.int c),some (.ref b),some (.ref ln),some (.ref pp),some (.ref p),v5]/\av H HK/\HK ln=some (.lst (NS.map V.str))/\HK pp=some (.tup [.int g0,.int g1])/\dA ck HK b A bs/\bs.map (·.w)=NS.take i/\aN 9 HK p f/\aM bs f/\f.len (dw bs)=1/\f.rowF (mj bs)=[(g0,g1)])
   ⟨[],p0,.pl (.pair g0 g1),none,rfl,s4,hl4,hpp4,B4,rfl,hf0,jc,by rw[ai.len];rfl,by rw[ai.rowF];rfl⟩ (fun i σ HK _ ⟨_,_,_,_,_,_,h,_⟩=>aR.of h) ?_ ?_
  ·rintro i y σ HK hi ⟨bs,p,f,v5,rfl,sH,hl,hp,B,bw,hf,kn,fl,fr⟩
   obtain⟨z,hz,rfl⟩:=bg hi;have hil:=(List.getElem?_eq_some_iff.mp hz).1;have zm:=nN z (Ax hz);have zl:=qj zm
   have bl:bs.length=i:=by
    have:=A3 List.length bw;rw[z9,Av]at this;omega
   have zn:z∉bs.map (·.w):=by
    rw[bw];intro q;obtain⟨j,hj⟩:=List.getElem?_of_mem q
    have hji:j<i:=by
     have:=(List.getElem?_eq_some_iff.mp hj).1;rw[Av]at this;omega
    rw[List.getElem?_take_of_lt hji]at hj;have:=(List.getElem?_inj (by omega) dN).mp (hj.trans hz.symm);omega
   have dd:defO bs z f=.done:=by unfold defO;rw[Ag (by rw[zm];decide),Ag zn,Ai kn]
   refine⟨_,rfl,_,rfl,_,rfl,b,p,A,bs,z,f,rfl,B,hf,tD zm,by omega,by omega,fun _=>?_,fun nd=>absurd dd nd⟩;intro x H5 xw xf xp xn xr B5 kp;refine⟨rfl,_,rfl,?_⟩;rw[show decide (V.str (yi .done)=V.str "done")=true from Af rfl]
   have ne:∀ {a:Addr}{o:HO}{d:Addr}{kv:List (cv×V)},HK a=some o->(∀ kv,o≠.dK kv)->HK d=some (.dK kv)->a≠d:=fun e1 e2 e3 z=>by rw[z,e3]at e1;exact e2 _ (At e1).symm
   have kpn:∀ (a:Addr)(o:HO),HK a=some o->(∀ kv,o≠.dK kv)->H5 a=some o:=fun a o e n=>kp a o e (ne e n B.f1) (ne e n B.f2) (ne e n B.f3);have s5:av H H5:=fun c o e=>kp c o (sH _ _ e) (aH e d1n) (aH e d2n) (aH e d3n);refine aC ⟨_,rfl,two,fun q1 hq1=>⟨two,fun q2 hq2=>?_⟩⟩;have w1:=ac (o:=.tup [.str "name",.str z]) hq1;have w2:=ac (o:=.tup [.str "back",.ref q1]) hq2;have w12:=w1.trans w2
   have bk:iE (bs++[x]) z=some x:=by
    unfold iE;have:=cO.mpr zn;unfold iE at this;rw[List.find?_append,this];simp[xw]
   have x1:x.n=1:=xn.trans fl;refine⟨bs++[x],q2,.back (.name z),_,rfl,s5.trans w12,w12 _ _ (kpn _ _ hl fun _ q=>nomatch q),w12 _ _ (kpn _ _ hp fun _ q=>nomatch q),B5.mono w12,?_,⟨q1,aa,w2 _ _ aa,by omega⟩,?_,?_,?_⟩
   ·rw[Ah,bw,AB,hz]
    show _++[x.w]=_
    rw[xw];rfl
   ·rw[de,bO,Ah]
    exact Ar _ (by rw[List.map_singleton,xw];exact Am)
   ·rw[ai.len,ai.len]
    unfold dw;rw[bk];exact x1
   ·rw[ai.rowF,ai.rowF]
    unfold mj;rw[bk]
    show x.r.reverse=_
    rw[xr (by omega),fr];rfl
  rintro σ HK ⟨bs,p,f,v5,rfl,sH,hl,hp,B,bw,hf,kn,fl,fr⟩;rw[z9,AC]at bw;refine⟨_,rfl,b,A.dx,_,rfl,B.ob,d7 (by decide +kernel),b,A,bs,rfl,B,fun l hl2=>?_⟩;rw[bw];have w1:=ac (o:=.lst (NS.map V.str)) hl2;refine⟨_,rfl,l,ln,_,_,rfl,rfl,RD.up (kO aa) (by decide),RD.up (kO (w1 _ _ hl)) (by decide),fun bb hbb=>?_⟩;rw[show (if false=true then !bb else bb)=true from hbb.mpr rfl];refine⟨_,rfl,aW ⟨_,rfl,_,rfl,b,p,A,bs,f,rfl,B.mono w1,hf.mono (fun _ _ z=>w1 _ _ z),fun nk=>absurd kn nk,fun _ lg=>by omega,fun _ le t l5 H7 ht hl5 s7 h7 r7=>?_⟩⟩;rw[fr]at r7;refine⟨_,rfl,by show (1:Nat)<=sizeLine;decide,fun l6 hl6=>⟨two,fun u hu=>?_⟩⟩;have w2:=ac (o:=.lst [.ref pp]) hl6;have w3:=ac (o:=.tup [.str "",.ref l6]) hu;have w23:=w2.trans w3;have r6:bF (aD (aD H7 l6 (.lst [.ref pp])) u (.tup [.str "",.ref l6])) l6 [(g0,g1)]:=⟨[pp],w3 _ _ aa,.cons (w23 _ _ ((w1.trans s7) _ _ hp)) .nil⟩;refine⟨t,u,_,_,rfl,rfl,RD.succ (RD.tup (aG.of (w23 _ _ h7)) (.cons (RD.flat rfl 2) (.cons (jW (r7.mono w23)) .nil))),RD.succ (RD.tup (aG.of aa) (.cons (RD.flat rfl 2) (.cons (jW r6) .nil))),fun bb hbb=>?_⟩;rw[show (if false=true then !bb else bb)=true from hbb.mpr rfl];exact k _ (sH.trans (w1.trans (s7.trans w23)))
theorem wz (F:dM K "law" "law" j3 f fd)(aY:aq P w K mg base "_law_cell_at" 1 ["_law_script","_law_k"] (l7 K))(eX:aq P w K mg base "_law_book_of" 6 ["_law_script","_law_start","_law_most"] (nX K))(MF:sL P w K mg base ck)(aV:aq P w K mg base "_law_spread" 15 ["_law_book","_law_figure_here"] (j2 ck))(cc:aq P w K mg base "_law_defined" 15 ["_law_book","_law_word_here","_law_figure_here"] (md ck))(cV:aq P w K mg base "_law_flat" 13 ["_law_figure_here","_law_told"] (jY 9))(bI:aq P w K mg base "_law_draws" 2 ["_law_cell","_law_many","_law_base"] gZ)(cG:aq P w K mg base "_law_figure" 5 ["_law_draws_here","_law_cell","_law_names"] jx)(bT:aq P w K mg base "_law_names_of" 10 ["_law_figure_here"] (hG 9))(dU:aq P w K mg base "_law_row" 3 ["_law_found"] me)(cR:aq P w K mg base "_law_at_the_bound" 16 ["_law_book"] (kQ ck))(ga:aq P w K mg base "_law_chain" 17 ["_law_cell"] kR)(M_FigureBook_names:aS P w K mg base dq ck "names" 1 ["self"] (fw ck))(M_FigureBook_told:aS P w K mg base (iz P w) ck "told" 2 ["self","word"] (jv ck cq)) : bp P w K mg base dq 18 f fd ["_law_script"] (pf K):=by
 refine F.ok cz (fun vs H Q E h=>?_) (fun cdv A outer s H vs Q E hr h=>?_)
 ·obtain⟨a,ns,rfl,_⟩:=h
  rfl
 ·obtain⟨a,ns,rfl,hS,hlen,k⟩:=h
  have hu:=ja hr
  have two:(2:Nat)<=sizeLine:=by decide
  have sl:sizeLine=16777216:=AQ
  refine⟨_,ae (aJ 1 cz.nd (aK aY hr.m rfl (b6 (pv 0) (af)))) (
   ae (tZ (aK eX hr.m rfl (qp (pv 0) (af) (af))) (jT rfl (ca (fz 2 cz.nd) (ca (fz 3 cz.nd) gV)))) (
   ae (aJ 4 cz.nd (qo MF UO.f hr.m rfl)) (
   ae (aJ 5 cz.nd jr) (
   ae (cx AO rfl (wG (by rfl) T.zip (b6 (pv 2) (pv 3))) (jT rfl (ca (fz 6 cz.nd) (ca (fz 7 cz.nd) gV))) (ae (aF (ao (nH 19 (tj hr (by decide))) (aK aV hr.m rfl (b6 (pv 4) (aI (b6 (aj) (pv 6))))) (aI (b6 (aj) (gD))) (au _)) (ag (am (eR))) (ak)) (
   ae (aF (ao lQ (aK cc hr.m rfl (qp (pv 4) (pv 6) (pv 7))) (aj) (au _)) (ag (am (eR))) (ak)) (
   ag (kN hu (pv 5) (pv 6) (aK cV hr.m rfl (b6 (pv 7) (pv 5))) rfl))))) (
   ae (rj (ix:=8) (so:=ah j3) (N:=q8) (N':=["_law_name"]) (src:=[none]) rfl rfl pK rfl (bR (pv 2)) (fun cl C s2 H2 ex=>⟨fz 0 (show (["_law_name"]:List Str).Nodup by decide +kernel),bE,aI (b6 (aj) (pv 0))⟩) cz.nd rfl rfl) (
   ae (cx AO rfl (ss (by rfl) T.range (b6 (af) (af))) (fz 9 cz.nd) (ae (aJ 10 cz.nd (aK bI hr.m rfl (qp (aK aY hr.m rfl (b6 (pv 0) (pv 9))) (af) (af)))) (
   ae (aJ 11 cz.nd (tQ (PW.pt (iO (ao bd (ar bq (aK aY hr.m rfl (b6 (pv 0) (pv 9))) (af)) (af) (au _)) (gY (ao jn (aj) (pv 2) rfl)))) (bD (bM (aj))) (bB fC (by rfl) T.list Br (bM (pv 2))))) (
   ag (bz (fm Ay AD AE bH (pv 8) (bM (aK cG hr.m rfl (qp (pv 10) (pv 1) (pv 11)))))))))) (
   ae (cx AO rfl (bR (pv 8)) (fz 7 cz.nd) (ae (aJ 12 cz.nd (aI (b6 (aj) (gD)))) (
   ae (aF (fb (aP (gQ rfl) (by rfl) T.all PyProof.Rows.boot_all (bM (cr (so:=ah j3) (N:=q8) (N':=["_law_name","_law_told"]) (src:=[none,some 5]) rfl rfl pK rfl (bR (aK bT hr.m rfl (bM (pv 7)))) (fun cl C s2 H2 ex=>⟨fz 0 (show (["_law_name","_law_told"]:List Str).Nodup by decide +kernel),bE,wC (tN hu (pv 0) (pv 1))⟩))))) (ae (aJ 12 cz.nd (aI (b6 (aj) (aK cV hr.m rfl (b6 (pv 7) (pv 5)))))) (
   ag (aF (lV (qq (aB ay (pv 12) (af) (fun _ _=>rfl)))) (ag (aJ 12 cz.nd (aI (b6 (aj) (gD))))) (ak)))) (ak)) (
   ae (aJ 13 cz.nd (aK aV hr.m rfl (b6 (pv 4) (pv 7)))) (
   ae (aF (PW.pt (iO (ao bd (aB ay (pv 12) (af) (fun _ _=>rfl)) (aj) (au _)) (gY (fL (fb (aK dU hr.m rfl (bM (aB ay (pv 13) (af) (fun _ _=>rfl))))))))) (ag (am (eR))) (ak)) (
   ae (aF (ao (nH 19 (tj hr (by decide))) (pv 13) (pv 12) (au _)) (ag (am (eR))) (ak)) (
   ae (aF (ao bd (aB ay (pv 12) (af) (fun _ _=>rfl)) (aj) (au _)) (ag (bz (fm Ay AD AE bH (aB ay (pv 13) (af) (fun _ _=>rfl)) (bM (aI (b6 (af) (af))))))) (ak)) (
   ag (aF (ao (nH 19 (tj hr (by decide))) (aK aV hr.m rfl (b6 (pv 4) (pv 7))) (pv 12) (au _)) (ag (am (eR))) (ak)))))))))) (
   ae (aF (PW.pt (iO (ao bd (ar bq (aK aY hr.m rfl (b6 (pv 0) (af))) (af)) (af) (au _)) (gY (fL (fb (aK cR hr.m rfl (bM (pv 4)))))))) (ag (am (eR))) (ak)) (
   ae (aF (fL (fb (aK ga hr.m rfl (bM (pv 1))))) (ag (am (eR))) (ak)) (
   ag (am ((nI (c8 (lP 19 (tj hr (by decide))) (tX M_FigureBook_names (pv 4) UO.f.cl hr.m fX) (pv 2) (au _)) (jS (c8 (lP 19 (tj hr (by decide))) (cr (so:=ah j3) (N:=q8) (N':=["_law_name","_law_book"]) (src:=[none,some 4]) rfl rfl pK rfl (bR (pv 2)) (fun cl C s2 H2 ex=>⟨fz 0 (show (["_law_name","_law_book"]:List Str).Nodup by decide +kernel),bE,fu M_FigureBook_told (pv 1) UO.f.cl hr.m tL (bM (pv 0))⟩)) (pv 3) (au _)))))))))))))))),?_⟩
  refine⟨_,rfl,a,ns,1,rfl,hS,by decide,?_⟩;refine⟨_,rfl,a,ns,rfl,hS,hlen,fun t ln lf es H1 s1 ht x el=>?_⟩;refine⟨t,_,rfl,aG.of ht,rfl,_,_,rfl,_,_,rfl,rfl,?_⟩;intro b dx nx ndx nex;refine⟨b,dx,rfl,aa,fun A H2 kp B2 n1 n2 n3=>⟨rfl,?_⟩⟩;have s2:=jL nx ndx kp
  have s0:av H1 (aD (aD H1 dx (.own b)) b (.ins ck dx [])):=fun c o e=>by rw[ap (aH e nx),ap (aH e ndx)];exact e
  have d1n:H1 A.d1=none:=s0.free n1;have d2n:H1 A.d2=none:=s0.free n2;have d3n:H1 A.d3=none:=s0.free n3;intro dt hdt;have t1:=ac (o:=.dK []) hdt
  have m1:dt≠A.d1:=fun z=>by rw[z,B2.f1]at hdt;cases hdt
  have m2:dt≠A.d2:=fun z=>by rw[z,B2.f2]at hdt;cases hdt
  have m3:dt≠A.d3:=fun z=>by rw[z,B2.f3]at hdt;cases hdt
  have dtn:H1 dt=none:=s2.free hdt;have x2:=x.mono (s2.trans t1);have wl:∀ e∈es,e.1.length<=12:=fun e he=>(qj (x.k e he).1).2;refine⟨_,rfl,_,rfl,ln,lf,rfl,⟨_,aR.of x2.n⟩,⟨_,aR.of x2.f⟩,?_⟩
  refine uP (K:=K) (a:=ln) (b:=lf) (xs:=(es.map (·.1)).map V.str) (ys:=(es.map (·.2.1)).map V.ref) (fun i σ HK=>∃ (bs:List BE)(tv:Str->V)(v6 v7:Option V),σ=[some (.ref a),some (.int (gk ns 1)),some (.ref ln),some (.ref lf),some (.ref b),some (.ref dt),v6,v7,none,none,none,none,none,none]/\av H1 HK/\dA ck HK b A bs/\hW HK dt bs tv/\bs.map (fun x=>(x.w,x.p,x.f))=es.take i)
   (by rw[z9,z9,z9,z9];exact Ad _) ⟨[],fun _=>.non,none,none,rfl,s2.trans t1,B2.mono t1,⟨aa,fun e he=>nomatch he⟩,rfl⟩ (fun i σ HK _ ⟨_,_,_,_,_,s,_⟩=>⟨aR.of (s _ _ x.n),aR.of (s _ _ x.f)⟩) ?_ ?_
  ·rintro i xx yy σ HK T hx hy ⟨bs,tv,v6,v7,rfl,sK,B,td,be⟩ hT
   obtain⟨w,hw,rfl⟩:=bg hx;obtain⟨p,hp,rfl⟩:=bg hy;rw[List.getElem?_map]at hw hp;obtain⟨e,he,rfl⟩:=Option.map_eq_some_iff.mp hw;rw[he]at hp;have hp:e.2.1=p:=At hp;subst hp;have em:=Ax he;have hil:=(List.getElem?_eq_some_iff.mp he).1;have u1:=ac (o:=.tup [.str e.1,.ref e.2.1]) hT;refine⟨T,_,rfl,aG.of aa,rfl,_,_,rfl,_,_,rfl,rfl,?_⟩
   have bwl:bs.map (·.w)=(es.take i).map (·.1):=by rw[<-be,AS];rfl
   have bl:bs.length=i:=by
    have:=A3 List.length be;rw[z9,Av]at this;omega
   have zn:e.1∉bs.map (·.w):=by
    rw[bwl];intro q;obtain⟨j,hj⟩:=List.getElem?_of_mem q
    have hji:j<i:=by
     have:=(List.getElem?_eq_some_iff.mp hj).1;rw[z9,Av]at this;omega
    rw[List.map_take,List.getElem?_take_of_lt hji]at hj
    have he2:(es.map (·.1))[i]? = some e.1:=by rw[List.getElem?_map,he];rfl
    have:=(List.getElem?_inj (by rw[z9];omega) x.nd).mp (hj.trans he2.symm);omega
   have kn:aM bs e.2.2:=fun w hw=>by rw[bwl];exact x.kn i e he w hw
   have zm:=(x.k e em).1;have nk:¬ aM bs (.name e.1):=fun q=>zn (bO.mp q);refine⟨_,rfl,_,rfl,two,fun q hq=>?_⟩;have u2:=ac (o:=.tup [.str "name",.str e.1]) hq;have u12:=u1.trans u2;refine⟨b,q,A,bs,.name e.1,rfl,B.mono u12,⟨aa,by have:=wl e em;omega⟩,fun _ t3 H3 ht3 s3 h3=>?_,fun q=>absurd q nk,fun q=>absurd q nk⟩;refine⟨two,fun u hu=>⟨t3,u,_,_,rfl,rfl,RD.up (eW (ac hu _ _ h3)) (by decide),RD.up (eW aa) (by decide),fun bb hbb=>⟨_,rfl,?_⟩⟩⟩;rw[show (if true=true then !bb else bb)=false by rw[hbb.mpr rfl];rfl];have u5:=u12.trans (s3.trans (ac (o:=.tup [.str "Unknown",.non]) hu));generalize aD H3 u (.tup [.str "Unknown",.non])=H5 at u5 ⊢;have B5:=B.mono u5;have td5:=td.mono u5;have hf5:aN 9 H5 e.2.1 e.2.2:=(x.g e em).mono fun _ _ z=>u5 _ _ (sK _ _ z);have s5:=sK.trans u5
   have dd:defO bs e.1 e.2.2=.done:=by unfold defO;rw[Ag (by rw[zm];decide),Ag zn,Ai kn]
   refine aC ⟨_,rfl,_,rfl,_,rfl,b,e.2.1,A,bs,e.1,e.2.2,rfl,B5,hf5,tD zm,by have:=wl e em;omega,by omega,fun _=>?_,fun nd=>absurd dd nd⟩;intro x6 H6 xw xf xp xn xr B6 kp6;refine⟨rfl,_,rfl,?_⟩;rw[show decide (V.str (yi .done)=V.str "done")=true from Af rfl]
   have ne:∀ {a:Addr}{o:HO}{d:Addr}{kv:List (cv×V)},H5 a=some o->(∀ kv,o≠.dK kv)->H5 d=some (.dK kv)->a≠d:=fun e1 e2 e3 z=>by rw[z,e3]at e1;exact e2 _ (At e1).symm
   have nd6:ND H5 H6:=fun a o e n=>kp6 a o e (ne e n B5.f1) (ne e n B5.f2) (ne e n B5.f3);have s6:av H1 H6:=fun c o e=>kp6 c o (s5 _ _ e) (aH e d1n) (aH e d2n) (aH e d3n);have td6:=td5.keep nd6 (kp6 _ _ td5.h m1 m2 m3);have okr:∀ e∈bs,e.n<=2000->e.r.length=e.n:=td.okr
   have put:∀ (v:V)(H7:Hp),av H6 H7->kx H7 dt (.str e.1) v (aD H7 dt (.dK ((bs.map fun e=>((Sum.inr e.w:cv),tv e.w))++[(Sum.inr e.1,v)]))):=fun v H7 s7=>by
    have q:=kx.k (k:=Sum.inr e.1) (v:=v) (s7 _ _ td6.h) (by rw[z9];omega)
    rwa [jt _ (by rw[db,cO.mpr zn];rfl)]at q
   have fin:∀ (v:V)(H7:Hp),av H6 H7->((x6.n<=2000->∃ l,v=.ref l/\bF H7 l x6.r/\x6.r.length=x6.n)/\(2000<x6.n->v=.non))->∃ tv',dA ck (aD H7 dt (.dK ((bs.map fun e=>((Sum.inr e.w:cv),tv e.w))++[(Sum.inr e.1,v)]))) b A (bs++[x6])/\hW (aD H7 dt (.dK ((bs.map fun e=>((Sum.inr e.w:cv),tv e.w))++[(Sum.inr e.1,v)]))) dt (bs++[x6]) tv'/\av H1 (aD H7 dt (.dK ((bs.map fun e=>((Sum.inr e.w:cv),tv e.w))++[(Sum.inr e.1,v)])))/\(bs++[x6]).map (fun x=>(x.w,x.p,x.f))=es.take (i+1):=fun v H7 s7 r=>by
    have h7:=s7 _ _ td6.h;have nd7:ND H7 (aD H7 dt (.dK ((bs.map fun e=>((Sum.inr e.w:cv),tv e.w))++[(Sum.inr e.1,v)]))):=lG h7;refine⟨_,(B6.mono s7).updD h7 m1 m2 m3,(td6.mono s7).snoc nd7 (x:=x6) (v:=v) (by rw[xw];exact zn) (by rw[aa,xw]) ⟨fun h=>?_,r.2⟩,bc (s6.trans s7) dtn,?_⟩
    ·obtain⟨l,e1,e2,e3⟩:=r.1 h
     exact⟨l,e1,e2.nd nd7,e3⟩
    ·rw[Ah,be,AB,he]
     show _++[(x6.w,x6.p,x6.f)]=_
     rw[xw,xp,xf];rfl
   refine aC ⟨_,rfl,_,rfl,e.2.1,dt,bs,tv,e.2.2,rfl,td6,hf5.nd nd6,kn,fun le l H7 s7 r7=>?_,fun lg H7 s7=>?_⟩
   ·obtain⟨tv',f1,f2,f3,f4⟩:=fin (.ref l) H7 s7 ⟨fun h=>⟨l,rfl,by rw[xr (by omega)];exact r7,by rw[xr (by omega),ai.row_len okr _ kn le,xn]⟩,fun h=>by omega⟩
    exact⟨_,rfl,_,rfl,dt,_,rfl,put _ _ s7,bs++[x6],tv',_,_,rfl,f3,f1,f2,f4⟩
   ·obtain⟨tv',f1,f2,f3,f4⟩:=fin .non H7 s7 ⟨fun h=>by omega,fun h=>rfl⟩
    exact⟨_,rfl,_,rfl,dt,_,rfl,put _ _ s7,bs++[x6],tv',_,_,rfl,f3,f1,f2,f4⟩
  rintro σ H3 ⟨bs,tv,v6,v7,rfl,s3,B3,td3,be⟩;rw[z9,z9,AC]at be
  have bl:bs.length<=6:=by
   have:=A3 List.length be;rw[z9]at this;omega
  have bwl:bs.map (·.w)=es.map (·.1):=by rw[<-be,AS];rfl
  have okr:∀ e∈bs,e.n<=2000->e.r.length=e.n:=td3.okr;clear B2 t1 x2 hdt d1n d2n d3n dtn;refine⟨_,rfl,ln,rfl,⟨_,aR.of (s3 _ _ x.n)⟩,fun la hla=>?_⟩
  refine bU (K:=K) (a:=ln) (xs:=(es.map (·.1)).map V.str) (fun i σ HK=>∃ (v:Option V)(as:List Addr),σ=[v]/\av H3 HK/\HK la=some (.lst (as.map V.ref))/\Paired (aN 9 HK) as ((es.map fun e=>ai.name e.1).take i))
   ⟨none,[],rfl,ac hla,aa,.nil⟩ (fun i σ HK _ ⟨_,_,_,s,_⟩=>aR.of (s _ _ (s3 _ _ x.n))) ?_ ?_
  ·rintro i y σ HK hi ⟨v,as,rfl,sK,hl,pr⟩
   obtain⟨w,hw,rfl⟩:=bg hi;rw[List.getElem?_map]at hw;obtain⟨e,he,rfl⟩:=Option.map_eq_some_iff.mp hw;have hil:=(List.getElem?_eq_some_iff.mp he).1;have al:=Ao pr;rw[Av,z9]at al;refine cu ⟨_,rfl,two,fun q hq=>?_⟩;have u1:=ac (o:=.tup [.str "name",.str e.1]) hq;refine⟨_,u1 _ _ hl,by rw[z9];omega,?_⟩
   have up:∀ b ys,aD HK q (.tup [.str "name",.str e.1]) b=some (.tup ys)->aD (aD HK q (.tup [.str "name",.str e.1])) la (.lst (as.map V.ref++[.ref q])) b=some (.tup ys):=fun b ys z=>by
    rw[ap (fun q=>by rw[q,u1 _ _ hl]at z;cases z)];exact z
   refine⟨_,as++[q],rfl,bc (sK.trans u1) hla,by rw[aa,Ah];rfl,?_⟩;rw[AB,List.getElem?_map,he];exact aQ (Paired.mapP pr fun _ _ z=>z.mono fun b ys y=>up b ys (u1 _ _ y)) (.cons ⟨up _ _ aa,by have:=wl e (Ax he);omega⟩ .nil)
  rintro σ H4 ⟨v,as0,rfl,s4,hl4,pr4⟩;rw[z9,z9,show (es.map fun e=>ai.name e.1).take es.length=es.map fun e=>ai.name e.1 by rw[Bq (by rw[z9];exact Ad _)]]at pr4;refine⟨14,18,rfl,⟨by decide,by decide,by decide,by decide⟩,?_⟩
  refine dc (fun i σ HK=>∃ (as:List Addr)(fs:List ai)(v9 v10 v11:Option V),σ=[some (.ref a),some (.int (gk ns 1)),some (.ref ln),some (.ref lf),some (.ref b),some (.ref dt),v6,v7,some (.ref la),v9,v10,v11,none,none]/\av H3 HK/\HK la=some (.lst (as.map V.ref))/\Paired (aN 9 HK) as fs/\(∀ f∈fs,f.names.length<=200)/\as.length<=6+i)
   ⟨as0,_,none,none,none,rfl,s4,hl4,pr4,(fun f hf=>by obtain⟨e,he,rfl⟩:=AH.mp hf;rw[ai.names];show 1<=200;decide),by have:=Ao pr4;rw[z9]at this;omega⟩ ?_ ?_
  ·rintro i σ HK hi ⟨as,fs,v9,v10,v11,rfl,sK,hl,pr,fn,al⟩
   have hi:i<4:=hi;have sA:=s1.trans (s3.trans sK);refine⟨_,rfl,_,rfl,a,ns,_,rfl,sA.seq hS,by omega,_,9,219600,rfl,⟨by decide,by decide⟩,⟨by decide,by decide⟩,fun l1 ds hl1 dps dln=>?_⟩;have u1:=ac (o:=.lst (ds.map V.int)) hl1;have h1:aD HK l1 (.lst (ds.map V.int)) l1=some (.lst (ds.map V.int)):=aa;generalize aD HK l1 (.lst (ds.map V.int))=H5 at u1 h1 ⊢;have sB:=sA.trans u1;have xn5:=(s3.trans (sK.trans u1)) _ _ x.n
   apply gK (fun σ HH=>∃ (lsp:Addr)(ws:List Str),σ=[some (.ref a),some (.int (gk ns 1)),some (.ref ln),some (.ref lf),some (.ref b),some (.ref dt),v6,v7,some (.ref la),some (.int (14+(i:Int))),some (.ref l1),some (.ref lsp),none,none]/\av H5 HH/\HH lsp=some (.lst (ws.map V.str))/\(∀ w∈ws,w.length<=100)/\ws.length<=100)
   ·intro rest
    have lst:xK K true (.str "lost") (.ref ln) H5=xK K true (.str "lost") (.ref ln) H5:=rfl;have cop:∀ l2,H5 l2=none->av H5 (aD H5 l2 (.lst ((es.map (·.1)).map V.str)))/\aD H5 l2 (.lst ((es.map (·.1)).map V.str)) l2=some (.lst ((es.map (·.1)).map V.str))/\(∀ w∈es.map (·.1),w.length<=100)/\(es.map (·.1)).length<=100:=fun l2 hl2=>⟨ac hl2,aa,fun w hw=>by obtain⟨e,he,rfl⟩:=AH.mp hw;have:=wl e he;omega,by rw[z9];omega⟩;refine⟨_,rfl,_,rfl,a,ns,_,rfl,sB.seq hS,by omega,_,_,rfl,rfl,by show (0:Int)<4;decide,rfl,_,rfl,?_⟩;refine fE ?n1 fun _=>aC ⟨_,rfl,ln,_,rfl,.inl (aR.of xn5),fun l2 hl2=>qT (rest _ _ ⟨l2,_,rfl,cop l2 hl2⟩)⟩;intro _;refine⟨_,rfl,ln,_,rfl,.inl (aR.of xn5),rfl,jG _,_,rfl,?_⟩;refine fE (fun _=>⟨by show (1:Nat)<=sizeLine;decide,fun l2 hl2=>qT (rest _ _ ⟨l2,[("lost" : Str)],rfl,ac hl2,aa,fun w hw=>by rw[Ap.mp hw];decide,by show 1<=100;decide⟩)⟩) fun _=>⟨_,rfl,ln,_,rfl,.inl (aR.of xn5),fun l2 hl2=>qT (rest _ _ ⟨l2,_,rfl,cop l2 hl2⟩)⟩
   rintro σ H6 ⟨lsp,ws,rfl,u6,hsp,wsl,wsn⟩;have hla6:=u6 _ _ (u1 _ _ hl);refine⟨_,rfl,.inl ⟨rfl,_,aR.of hla6⟩,_,rfl,_,rfl,_,rfl,l1,lsp,_,ds,ws,rfl,u6 _ _ h1,fun d hd=>(dps d hd).1,by omega,hsp,wsl,wsn,fun p f H7 u7 hf ff _=>?_⟩;have hla7:=u7 _ _ hla6;refine⟨la,_,_,rfl,rfl,hla7,by rw[z9];omega,?_⟩
   have up:∀ b ys,H7 b=some (.tup ys)->aD H7 la (.lst (as.map V.ref++[.ref p])) b=some (.tup ys):=fun b ys z=>by
    rw[ap (fun q=>by rw[q,hla7]at z;cases z)];exact z
   have u67:=u1.trans (u6.trans u7);refine⟨as++[p],fs++[f],_,_,_,rfl,bc (sK.trans u67) hla,by rw[aa,Ah];rfl,aQ (Paired.mapP pr fun _ _ z=>z.mono fun b ys y=>up b ys (u67 _ _ y)) (.cons (hf.mono up) .nil),fun g hg=>?_,by rw[An,AF];omega⟩;rcases AJ.mp hg with z | z
   ·exact fn g z
   ·rw[Ap.mp z];exact ff
  rintro σ H5 ⟨as,fs,v9,v10,v11,rfl,s5,hl5,pr5,fn5,al⟩;have B5:=B3.mono s5;have td5:=td3.mono s5;have al2:=Ao pr5;have sA:=s1.trans (s3.trans s5);have x5:=x.mono (s3.trans s5);clear pr4 hl4 s4;refine⟨_,rfl,la,rfl,⟨_,aR.of hl5⟩,?_⟩
  refine bU (K:=K) (a:=la) (xs:=as.map V.ref) (fun i σ HK=>∃ (w7 v12 v13:Option V),σ=[some (.ref a),some (.int (gk ns 1)),some (.ref ln),some (.ref lf),some (.ref b),some (.ref dt),v6,w7,some (.ref la),v9,v10,v11,v12,v13]/\av H5 HK)
   ⟨v7,none,none,rfl,av.refl _⟩ (fun i σ HK _ ⟨_,_,_,_,s⟩=>aR.of (s _ _ hl5)) ?_ ?_
  ·rintro i y σ HK hi ⟨w7,v12,v13,rfl,sK⟩
   obtain⟨p,hp,rfl⟩:=bg hi;obtain⟨f,hf,hF0⟩:=bQ pr5 hp;have hF:aN 9 HK p f:=hF0.mono fun _ _ z=>sK _ _ z;have fnn:=fn5 f (Ax hf);refine⟨two,fun u hu=>?_⟩;have u1:=ac (o:=.tup [.str "Unknown",.non]) hu;have hu1:aD HK u (.tup [.str "Unknown",.non]) u=some (.tup [.str "Unknown",.non]):=aa;generalize aD HK u (.tup [.str "Unknown",.non])=H6 at u1 hu1 ⊢;have hF6:aN 9 H6 p f:=hF.mono fun _ _ z=>u1 _ _ z;have td6:=td5.mono (sK.trans u1)
   apply gK (fun σ HH=>∃ (u:Addr)(w:Str)(v:V),σ=[some (.ref a),some (.int (gk ns 1)),some (.ref ln),some (.ref lf),some (.ref b),some (.ref dt),v6,some (.ref p),some (.ref la),v9,v10,v11,some (.ref u),v13]/\av H6 HH/\HH u=some (.tup [.str w,v])/\((¬ aM bs f/\w="Unknown"/\v=.non)\/(aM bs f/\2000<f.len (dw bs)/\w="TooLong"/\v=.non)\/(aM bs f/\f.len (dw bs)<=2000/\w=""/\∃ l,v=.ref l/\bF HH l (f.rowF (mj bs)))))
   ·intro rest
    refine⟨_,rfl,p,f,rfl,hF6,by omega,fun l5 H7 hl5 s7 hl7=>⟨l5,rfl,⟨_,aR.of hl7⟩,fun c hc=>?_⟩⟩;refine gU (fun z:Str=>V.str z) (rs:=f.names) (f:=fun z=>.bl (decide (z∈bs.map (·.w)))) hc hl7 (by omega) (fun z HK Q' hz sK kk=>?_) (fun H8 s8 hc8=>?_)
    ·refine⟨_,rfl,_,rfl,dt,_,rfl,(td6.mono (s7.trans sK)).get z,?_⟩
     rw[wb];exact kk HK (av.refl _)
    refine⟨c,f.names.map fun z=>decide (z∈bs.map (·.w)),rfl,aR.of (by rw[hc8,AS];rfl),_,rfl,?_⟩;have s78:=s7.trans s8
    by_cases kn:aM bs f
    case neg =>
     rw[show (f.names.map fun z=>decide (z∈bs.map (·.w))).all id=false from Bool.eq_false_iff.mpr fun z=>kn (mV.mp z)];exact aC (rest _ _ ⟨u,"Unknown",.non,rfl,s78,s78 _ _ hu1,.inl ⟨kn,rfl,rfl⟩⟩)
    case pos =>
     rw[mV.mpr kn];refine aW ⟨_,rfl,_,rfl,p,dt,bs,tv,f,rfl,td6.mono s78,hF6.mono (fun _ _ z=>s78 _ _ z),kn,fun le l H9 s9 r9=>⟨two,fun u2 hu2=>?_⟩,fun lg H9 s9=>⟨two,fun u2 hu2=>?_⟩⟩
     ·have w1:=ac (o:=.tup [.str "",.ref l]) hu2
      refine⟨_,rfl,u2,_,1,_,rfl,rfl,aG.of aa,rfl,_,rfl,aC (rest _ _ ⟨u2,"",.ref l,rfl,s78.trans (s9.trans w1),aa,.inr (.inr ⟨kn,le,rfl,l,rfl,r9.mono w1⟩)⟩)⟩
     ·have w1:=ac (o:=.tup [.str "",.non]) hu2
      refine⟨_,rfl,u2,_,1,_,rfl,rfl,aG.of aa,rfl,_,rfl,aW ⟨two,fun u3 hu3=>?_⟩⟩;have w2:=ac (o:=.tup [.str "TooLong",.non]) hu3;exact qT (rest _ _ ⟨u3,"TooLong",.non,rfl,s78.trans (s9.trans (w1.trans w2)),aa,.inr (.inl ⟨kn,lg,rfl,rfl⟩)⟩)
   rintro σ H7 ⟨u,w,v,rfl,s7,hu7,due⟩;have sK7:=sK.trans (u1.trans s7);have B7:=B5.mono sK7;have hF7:aN 9 H7 p f:=hF6.mono fun _ _ z=>s7 _ _ z;rcases due with ⟨nk,rfl,rfl⟩ | ⟨kn,lg,rfl,rfl⟩ | ⟨kn,le,rfl,l,rfl,r⟩
   ·refine⟨_,rfl,_,rfl,b,p,A,bs,f,rfl,B7,hF7,fun _ t H8 _ s8 h8=>?_,fun q=>absurd q nk,fun q=>absurd q nk⟩
    refine⟨_,rfl,u,_,0,_,rfl,rfl,aG.of (s8 _ _ hu7),ax (j:=0) rfl,rfl,_,rfl,?_⟩;rw[show decide (V.str (Str.ofString "Unknown")=V.str (Str.ofString ""))=false by decide +kernel];refine aC (aC ⟨_,rfl,_,rfl,t,u,_,_,rfl,rfl,RD.up (eW h8) (by decide),RD.up (eW (s8 _ _ hu7)) (by decide),fun bb hbb=>⟨_,rfl,?_⟩⟩);rw[show (if true=true then !bb else bb)=false by rw[hbb.mpr rfl];rfl];refine aC ⟨_,rfl,u,_,0,_,rfl,rfl,aG.of (s8 _ _ hu7),ax (j:=0) rfl,rfl,_,rfl,?_⟩;rw[show decide (V.str (Str.ofString "Unknown")=V.str (Str.ofString ""))=false by decide +kernel];refine aC ⟨_,rfl,_,rfl,b,p,A,bs,f,rfl,B7.mono s8,hF7.mono (fun _ _ z=>s8 _ _ z),fun _ t2 H9 _ s9 h9=>?_,fun q=>absurd q nk,fun q=>absurd q nk⟩;refine⟨_,rfl,t2,u,_,_,rfl,rfl,RD.up (eW h9) (by decide),RD.up (eW (s9 _ _ (s8 _ _ hu7))) (by decide),fun bb hbb=>⟨_,rfl,?_⟩⟩;rw[show (if true=true then !bb else bb)=false by rw[hbb.mpr rfl];rfl];exact aC ⟨_,_,_,rfl,sK7.trans (s8.trans s9)⟩
   ·refine⟨_,rfl,_,rfl,b,p,A,bs,f,rfl,B7,hF7,fun q=>absurd kn q,fun _ _ t H8 _ s8 h8=>?_,fun _ q=>by omega⟩
    refine⟨_,rfl,u,_,0,_,rfl,rfl,aG.of (s8 _ _ hu7),ax (j:=0) rfl,rfl,_,rfl,?_⟩;rw[show decide (V.str (Str.ofString "TooLong")=V.str (Str.ofString ""))=false by decide +kernel];refine aC (aC ⟨_,rfl,_,rfl,t,u,_,_,rfl,rfl,RD.up (eW h8) (by decide),RD.up (eW (s8 _ _ hu7)) (by decide),fun bb hbb=>⟨_,rfl,?_⟩⟩);rw[show (if true=true then !bb else bb)=false by rw[hbb.mpr rfl];rfl];refine aC ⟨_,rfl,u,_,0,_,rfl,rfl,aG.of (s8 _ _ hu7),ax (j:=0) rfl,rfl,_,rfl,?_⟩;rw[show decide (V.str (Str.ofString "TooLong")=V.str (Str.ofString ""))=false by decide +kernel];refine aC ⟨_,rfl,_,rfl,b,p,A,bs,f,rfl,B7.mono s8,hF7.mono (fun _ _ z=>s8 _ _ z),fun q=>absurd kn q,fun _ _ t2 H9 _ s9 h9=>?_,fun _ q=>by omega⟩;refine⟨_,rfl,t2,u,_,_,rfl,rfl,RD.up (eW h9) (by decide),RD.up (eW (s9 _ _ (s8 _ _ hu7))) (by decide),fun bb hbb=>⟨_,rfl,?_⟩⟩;rw[show (if true=true then !bb else bb)=false by rw[hbb.mpr rfl];rfl];exact aC ⟨_,_,_,rfl,sK7.trans (s8.trans s9)⟩
   ·have rl:(f.rowF (mj bs)).length<=2000:=by rw[ai.row_len okr f kn le];exact le
    generalize hR:f.rowF (mj bs)=R at r rl;refine⟨_,rfl,_,rfl,b,p,A,bs,f,rfl,B7,hF7,fun q=>absurd kn q,fun _ q=>by omega,fun _ _ t l8 H8 ht hl8 s8 h8 r8=>?_⟩;rw[hR]at r8;refine⟨_,rfl,u,_,0,_,rfl,rfl,aG.of (s8 _ _ hu7),ax (j:=0) rfl,rfl,_,rfl,?_⟩;rw[show decide (V.str (Str.ofString "")=V.str (Str.ofString ""))=true from Af rfl];refine aW ⟨_,rfl,t,_,1,_,rfl,rfl,aG.of h8,rfl,l8,_,rfl,r8,by omega,fun H9 s9=>⟨_,rfl,aC ?_⟩⟩;have s89:=s8.trans s9;have h9:=s9 _ _ h8;have r9:=r8.mono s9;have hu9:=s89 _ _ hu7;have ru9:=r.mono s89;refine⟨_,rfl,_,rfl,t,u,_,_,rfl,rfl,RD.up (RD.tup (aG.of h9) (.cons (RD.flat rfl 2) (.cons (jW r9) .nil))) (by decide),RD.up (RD.tup (aG.of hu9) (.cons (RD.flat rfl 2) (.cons (jW ru9) .nil))) (by decide),fun bb hbb=>⟨_,rfl,?_⟩⟩;rw[show (if true=true then !bb else bb)=false by rw[hbb.mpr rfl];rfl];refine aC ⟨_,rfl,u,_,0,_,rfl,rfl,aG.of hu9,ax (j:=0) rfl,rfl,_,rfl,?_⟩;rw[show decide (V.str (Str.ofString "")=V.str (Str.ofString ""))=true from Af rfl];obtain⟨cs,hl9,pc⟩:=id r9;have cl:=Ao pc;refine aW ⟨_,rfl,t,_,1,_,rfl,rfl,aG.of h9,rfl,.inl ⟨rfl,_,aR.of hl9⟩,two,fun q hq=>?_⟩;have w1:=ac (o:=.tup [.int 5,.int 6]) hq;refine⟨l8,_,_,rfl,rfl,w1 _ _ hl9,by rw[z9];omega,?_⟩;have s10:av H7 (aD (aD H9 q (.tup [.int 5,.int 6])) l8 (.lst (cs.map V.ref++[.ref q]))):=bc (s89.trans w1) hl8;generalize aD (aD H9 q (.tup [.int 5,.int 6])) l8 (.lst (cs.map V.ref++[.ref q]))=H10 at s10 ⊢;refine⟨_,rfl,_,rfl,b,p,A,bs,f,rfl,B7.mono s10,hF7.mono (fun _ _ z=>s10 _ _ z),fun q=>absurd kn q,fun _ q=>by omega,fun _ _ t2 l11 H11 ht2 hl11 s11 h11 r11=>?_⟩
    rw[hR]at r11;have s1011:=s10.trans s11;refine⟨_,rfl,t2,u,_,_,rfl,rfl,RD.up (RD.tup (aG.of h11) (.cons (RD.flat rfl 2) (.cons (jW r11) .nil))) (by decide),RD.up (RD.tup (aG.of (s1011 _ _ hu7)) (.cons (RD.flat rfl 2) (.cons (jW (r.mono s1011)) .nil))) (by decide),fun bb hbb=>⟨_,rfl,?_⟩⟩;rw[show (if true=true then !bb else bb)=false by rw[hbb.mpr rfl];rfl];exact aC ⟨_,_,_,rfl,sK7.trans s1011⟩
  rintro σ H6 ⟨w7,v12,v13,rfl,s6⟩
  apply gK (fun σ HH=>σ=[some (.ref a),some (.int (gk ns 1)),some (.ref ln),some (.ref lf),some (.ref b),some (.ref dt),v6,w7,some (.ref la),v9,v10,v11,v12,v13]/\av H5 HH)
  ·intro rest
   refine⟨_,rfl,a,ns,0,rfl,(sA.trans s6).seq hS,by decide,_,_,rfl,rfl,by show (0:Int)<4;decide,rfl,_,rfl,?_⟩;exact fE (fun _=>⟨_,rfl,b,A,bs,rfl,B5.mono s6,fun H7 s7=>⟨_,rfl,aC (rest _ _ ⟨rfl,s6.trans s7⟩)⟩⟩) fun _=>aC (rest _ _ ⟨rfl,s6⟩)
  rintro σ H7 ⟨rfl,s7⟩;refine⟨_,rfl,_,rfl,fun H8 s8=>⟨_,rfl,aC ?_⟩⟩;have B8:=B5.mono (s7.trans s8);have x8:=x5.mono (s7.trans s8);refine⟨_,rfl,b,A.dx,_,rfl,B8.ob,d7 (by decide +kernel),b,A,bs,rfl,B8,fun l hl=>?_⟩;rw[bwl];have w1:=ac (o:=.lst ((es.map (·.1)).map V.str)) hl;refine⟨_,rfl,l,ln,_,_,rfl,rfl,RD.up (kO aa) (by decide),RD.up (kO (w1 _ _ x8.n)) (by decide),fun bb hbb=>?_⟩;rw[show (if false=true then !bb else bb)=true from hbb.mpr rfl];have B9:=B8.mono w1;have x9:=x8.mono w1;have n9:=x9.n.trans (show some (HO.lst ((es.map (·.1)).map V.str))=some (.lst (es.map fun e=>V.str e.1)) by rw[AS];rfl);have f9:=x9.f.trans (show some (HO.lst ((es.map (·.2.1)).map V.ref))=some (.lst (es.map fun e=>V.ref e.2.1)) by rw[AS];rfl);refine⟨_,rfl,aW ⟨_,rfl,ln,rfl,⟨_,aR.of n9⟩,fun lc hlc=>?_⟩⟩;refine gU (fun e:NF=>V.str e.1) (rs:=es) (f:=fun e=>.ref e.2.1) hlc n9 (by omega) (fun e HK Q' he sK kk=>?_) (fun H10 s10 hc10=>?_)
  ·have BK:=B9.mono sK
   obtain⟨xx,hx,hxp⟩:=wy be x.nd he;refine⟨_,rfl,b,A.dx,_,rfl,BK.ob,d7 (by decide +kernel),_,rfl,b,A,bs,e.1,rfl,BK,by have:=wl e he;omega,fun x2 hx2=>?_,fun hn=>?_⟩
   ·rw[hx]at hx2
    cases hx2;rw[hxp];exact kk HK (av.refl _)
   ·rw[hx]at hn
    cases hn
  have x10:=x9.mono s10;refine⟨_,rfl,lc,lf,_,_,rfl,rfl,vC x10.g hc10,vC x10.g (s10 _ _ f9),fun bb hbb=>?_⟩;rw[show (if false=true then !bb else bb)=true from hbb.mpr rfl];exact k _
end
theorem all_mk2 {l:PySem.W.OpenLaw}{w:World}{K:PySem.W.Frag}{h:Heap}{mg:Str->Option Value}{fa:Addr}{co cq ck cB cT kd cL t1 t2 t3:Addr}(X:K.In h)(G:h.Ns mainGlobals mg)(hfa:mg "law" = some (.ref fa))(n_co:PySem.W.nsIn K mainGlobals "Same" = some (some (.ref co)))(n_ck:PySem.W.nsIn K mainGlobals "FigureBook" = some (some (.ref ck)))(n_mp:PySem.W.nsIn K mainGlobals "MOST_PAIRS" = some (some (.int 2000 t1)))(kpg:PySem.W.plainGet K ck Str.empty=true)(khd:PySem.W.hasDictIn K ck=true)(kpo:PySem.W.plainOver K ck=true)(ksa:PySem.W.findIn K (.ref ck) "__setattr__" = some (some (.builtin "object.__setattr__")))(kna_figures:PySem.W.findIn K (.ref ck) "figures" = some none)(kna_lengths:PySem.W.findIn K (.ref ck) "lengths" = some none)(kna_rows:PySem.W.findIn K (.ref ck) "rows" = some none)(kmk:PySem.W.makesIn K ck=true)(kkc:PySem.W.keepIn K (.ref ck)=true)(e_co:dB K co)(x_oo:PySem.W.exmOne K (.ref co) (.ref co)=some true)(n_cq:PySem.W.nsIn K mainGlobals "Unknown" = some (some (.ref cq)))(n_cB:PySem.W.nsIn K mainGlobals "BadName" = some (some (.ref cB)))(n_cT:PySem.W.nsIn K mainGlobals "Taken" = some (some (.ref cT)))(n_ml:PySem.W.nsIn K mainGlobals "LONGEST_NAME" = some (some (.int 12 t2)))(n_mt:PySem.W.nsIn K mainGlobals "LETTERS" = some (some (.str "abcdefghijklmnopqrstuvwxyz" t3)))(n_kd:PySem.W.nsIn K mainGlobals "KINDS" = some (some (.ref kd)))(kdo:∃ (o:Obj)(its:Array Value)(n:Nat),K.lookup kd=some o/\o.cls=.type "tuple"/\o.data=.seq its n/\its.size<=sizeLine/\L2.Vals (Wz.kindsL.map L2.V.str) its.toList)(e_cq:dB K cq)(e_cB:dB K cB)(e_cT:dB K cT)(x_bb:PySem.W.exmOne K (.ref cB) (.ref cB)=some true)(x_tb:PySem.W.exmOne K (.ref cT) (.ref cB)=some false)(x_tt:PySem.W.exmOne K (.ref cT) (.ref cT)=some true)(x_ub:PySem.W.exmOne K (.ref cq) (.ref cB)=some false)(x_ut:PySem.W.exmOne K (.ref cq) (.ref cT)=some false)(x_uu:PySem.W.exmOne K (.ref cq) (.ref cq)=some true)(n_cL:PySem.W.nsIn K mainGlobals "TooLong" = some (some (.ref cL)))(e_cL:dB K cL)(x_lu:PySem.W.exmOne K (.ref cL) (.ref cq)=some false)(x_ll:PySem.W.exmOne K (.ref cL) (.ref cL)=some true)(im:aZ K "_law_cell_at" eh)(kZ:aZ K "_law_size" gN)(j6:aZ K "_law_draws" fO)(k6:aZ K "_law_word" gO)(j9:aZ K "_law_ranks" dS)(j7:aZ K "_law_guest" fP)(j8:aZ K "_law_plain" da)(ka:aZ K "_law_small" fR)(iq:aZ K "_law_wrapped" bW)(iU:aZ K "_law_figure" dv)(il:aZ K "_law_book_of" ee)(eJ:e6 K ck "__init__" "FigureBook.__init__" cW)(fU:aZ K "inner_figures" dk)(eK:e6 K ck "told" "FigureBook.told" cX)(bN:e6 K ck "check_names" "FigureBook.check_names" bG)(fV:aZ K "single_length" dn)(cJ:e6 K ck "length" "FigureBook.length" bL)(iX:aZ K "turned_row" fj)(ke:aZ K "quadrille" fT)(iW:aZ K "single_row" cP)(cK:e6 K ck "row_of" "FigureBook.row_of" cE)(dJ:e6 K ck "spread" "FigureBook.spread" cF)(iV:aZ K "_law_spread" fh)(mH:aZ K "is_name" fN)(dI:e6 K ck "define" "FigureBook.define" cD)(io:aZ K "_law_defined" eA)(gf:aZ K "_law_together" dH)(eO:aZ K "_law_plain_pairs" cY)(iC:aZ K "_law_flat" gL)(d6:aZ K "_law_names_of" dG)(kc:aZ K "_law_whole" fS)(kY:aZ K "_law_pair" gM)(mI:aZ K "_law_row" fQ)(dZ:aZ K "_law_at_the_bound" bS)(dY:e6 K ck "names" "FigureBook.names" cN)(j5:aZ K "_law_chain" dR)(vp:aZ K "law" j3)(vM:PySem.W.nsIn K mainGlobals "len" = some none)(rC:PySem.W.nsIn K mainGlobals "range" = some none)(jD:PySem.W.nsIn K mainGlobals "isinstance" = some none)(rD:PySem.W.nsIn K mainGlobals "tuple" = some none)(uz:PySem.W.nsIn K mainGlobals "list" = some none)(vL:PySem.W.nsIn K mainGlobals "int" = some none)(ux:PySem.W.nsIn K mainGlobals "bool" = some none)(vJ:PySem.W.nsIn K mainGlobals "all" = some none)(vK:PySem.W.nsIn K mainGlobals "any" = some none)(pH:PySem.W.nsIn K mainGlobals "sorted" = some none)(mh:PySem.W.nsIn K mainGlobals "reversed" = some none)(vP:PySem.W.nsIn K mainGlobals "set" = some none)(vO:PySem.W.nsIn K mainGlobals "min" = some none)(vN:PySem.W.nsIn K mainGlobals "max" = some none)(uy:PySem.W.nsIn K mainGlobals "dict" = some none)(vS:PySem.W.nsIn K mainGlobals "zip" = some none)(kt:PySem.W.nsIn K mainGlobals "enumerate" = some none)(vR:PySem.W.nsIn K mainGlobals "sum" = some none)(vQ:PySem.W.nsIn K mainGlobals "str" = some none) :
  ∃ fd:FuncData,(∀ (s:Shared)(v:Value),BindsTo s fd ⟨[v],[]⟩ [("_law_script",v)])/\∀ base:Heap,K.In base->base.Ns mainGlobals mg->bp l.prog w K mg base dq 18 fa fd ["_law_script"] (pf K):=by
 have T:zy mg:=⟨Aw X G vM,Aw X G rC,Aw X G jD,Aw X G rD,Aw X G uz,Aw X G vL,Aw X G ux,Aw X G vJ,Aw X G vK,Aw X G pH,Aw X G mh,Aw X G vP,Aw X G vO,Aw X G vN,Aw X G uy,Aw X G vS,Aw X G kt,Aw X G vR,Aw X G vQ⟩;have UO:w8 K mg co cq ck cB cT kd cL:=⟨⟨⟨e_co,A5 X G n_co,x_oo⟩,⟨⟨kpg,khd,kpo,ksa⟩,kna_figures,kna_lengths,kna_rows,A5 X G n_ck⟩,⟨_,A5 X G n_mp,⟨_,rfl⟩⟩,⟨_,A5 X G n_ml,⟨_,rfl⟩⟩,⟨_,A5 X G n_mt,⟨_,rfl⟩⟩,A5 X G n_kd,kdo,e_cq,A5 X G n_cq,e_cB,A5 X G n_cB,e_cT,A5 X G n_cT,x_bb,x_tb,x_tt,x_ub,x_ut,x_uu⟩,e_cL,A5 X G n_cL,x_lu,x_ll⟩;obtain⟨f_FigureBook_init,iG,a_FigureBook_init,i_FigureBook_init,G_FigureBook_init⟩:=eJ;obtain⟨f_law,wg,a_law,G_law⟩:=vp;have e:=hfa.symm.trans (A5 X G a_law);cases e;refine⟨wg,?_,fun base _ _=>?_⟩
 ·obtain⟨_,_,_,_,_,_,_,_,_,rfl,_,_⟩:=G_law.ex
  exact fun s v=>.of_eq rfl
 ·have aY:aq l.prog w K mg base "_law_cell_at" 1 ["_law_script","_law_k"] (l7 K):=jg X G im fun _ _ h=>lJ T UO h
  have bX:aq l.prog w K mg base "_law_size" 1 ["_law_cell"] jZ:=jg X G kZ fun _ _ h=>oW T UO h;have bI:aq l.prog w K mg base "_law_draws" 2 ["_law_cell","_law_many","_law_base"] gZ:=jg X G j6 fun _ _ h=>nv T UO h bX;have iB:aq l.prog w K mg base "_law_word" 3 ["_law_cell"] rz:=jg X G k6 fun _ _ h=>oX T UO h bI;have gc:aq l.prog w K mg base "_law_ranks" 1 ["_law_drawn"] kT:=jg X G j9 fun _ _ h=>nA T UO h;have aX:aq l.prog w K mg base "_law_guest" 2 ["_law_k","_law_cell"] g9:=jg X G j7 fun _ _ h=>ny T UO h bX;have gb:aq l.prog w K mg base "_law_plain" 3 ["_law_drawn","_law_cell"] n6:=jg X G j8 fun _ _ h=>nz T UO h gc aX;have gd:aq l.prog w K mg base "_law_small" 1 ["_law_figure_here"] jz:=jg X G ka fun _ _ h=>nB T UO h;have eY:aq l.prog w K mg base "_law_wrapped" 4 ["_law_shelf","_law_drawn","_law_names"] kW:=jg X G iq fun _ _ h=>lL T UO h gd;have cG:aq l.prog w K mg base "_law_figure" 5 ["_law_draws_here","_law_cell","_law_names"] jx:=jg X G iU fun _ _ h=>mx T UO h gb eY aX;have eX:aq l.prog w K mg base "_law_book_of" 6 ["_law_script","_law_start","_law_most"] (nX K):=jg X G il fun _ _ h=>lI T UO h aY bX iB bI cG;have MF:sL l.prog w K mg base ck:=⟨f_FigureBook_init,iG,⟨kmk,a_FigureBook_init,i_FigureBook_init,kkc⟩,iL T UO G_FigureBook_init ,(G_FigureBook_init.binds (ps:=["self"]) (by intro _ _ _ _ _ _;(repeat refine ym fun _=>?_);exact yk rfl))⟩;have Cinner_figures:aq l.prog w K mg base "inner_figures" 1 ["figure"] pe:=jg X G fU fun _ _ h=>jP T UO h;have M_FigureBook_told:aS l.prog w K mg base (iz l.prog w) ck "told" 2 ["self","word"] (jv ck cq):=uD eK fun _ _ h=>iM T UO h
  have R_FigureBook_check_names:∀ n:Nat,n<=9->aS l.prog w K mg base (iz l.prog w) ck "check_names" (n+3) ["self","figure"] (l9 ck cq n):=by
   intro n
   induction n with
   | zero=>exact fun _=>uD bN fun _ _ _=>i9 (by intro _ _ _ _ h;cases h;exact (show False from ‹aN 0 _ _ _›))
   | succ n ih=>exact fun hn=>uD bN fun _ _ h=>eF T UO h Cinner_figures M_FigureBook_told (by omega) (ih (by omega))
  have M_FigureBook_check_names:aS l.prog w K mg base (iz l.prog w) ck "check_names" 12 ["self","figure"] (l9 ck cq 9):=R_FigureBook_check_names 9 (Ad _);have Csingle_length:aq l.prog w K mg base "single_length" 1 ["figure"] nY:=jg X G fV fun _ _ h=>jQ T UO h
  have R_FigureBook_length:∀ n:Nat,n<=9->aS l.prog w K mg base dq ck "length" (n+3) ["self","figure"] (iS ck n):=by
   intro n
   induction n with
   | zero=>exact fun _=>uD cJ fun _ _ _=>i9 (by intro _ _ _ _ h;cases h;exact (show False from ‹aN 0 _ _ _›))
   | succ n ih=>exact fun hn=>uD cJ fun _ _ h=>gz T UO h Cinner_figures Csingle_length (by omega) (ih (by omega))
  have M_FigureBook_length:aS l.prog w K mg base dq ck "length" 12 ["self","figure"] (iS ck 9):=R_FigureBook_length 9 (Ad _);have Cturned_row:aq l.prog w K mg base "turned_row" 1 ["row"] (jA K):=jg X G iX fun _ _ h=>mC T UO h;have Cquadrille:iZ l.prog w K mg base "quadrille" 2 ["a","b","c","d"] (jy co):=zK X G ke fun _ _ h=>nE T UO h;have Csingle_row:aq l.prog w K mg base "single_row" 3 ["figure"] iR:=jg X G iW fun _ _ h=>mz T UO h Cquadrille
  have R_FigureBook_row_of:∀ n:Nat,n<=9->aS l.prog w K mg base dq ck "row_of" (n+4) ["self","figure"] (fM ck n):=by
   intro n
   induction n with
   | zero=>exact fun _=>uD cK fun _ _ _=>i9 (by intro _ _ _ _ h;cases h;exact (show False from ‹aN 0 _ _ _›))
   | succ n ih=>exact fun hn=>uD cK fun _ _ h=>gA T UO h Cturned_row Csingle_row (by omega) (ih (by omega))
  have M_FigureBook_row_of:aS l.prog w K mg base dq ck "row_of" 13 ["self","figure"] (fM ck 9):=R_FigureBook_row_of 9 (Ad _);have M_FigureBook_spread:aS l.prog w K mg base (iz l.prog w) ck "spread" 14 ["self","figure"] (rp ck cq cL):=uD dJ fun _ _ h=>gB T UO h M_FigureBook_check_names M_FigureBook_length M_FigureBook_row_of;have aV:aq l.prog w K mg base "_law_spread" 15 ["_law_book","_law_figure_here"] (j2 ck):=jg X G iV fun _ _ h=>my T UO h M_FigureBook_spread;have Cis_name:aq l.prog w K mg base "is_name" 1 ["word"] nZ:=jg X G mH fun _ _ h=>ql T UO h;have M_FigureBook_define:aS l.prog w K mg base (iz l.prog w) ck "define" 14 ["self","word","figure"] (jw ck cq cB cT):=uD dI fun _ _ h=>gy T UO h Cis_name M_FigureBook_check_names M_FigureBook_length M_FigureBook_row_of;have cc:aq l.prog w K mg base "_law_defined" 15 ["_law_book","_law_word_here","_law_figure_here"] (md ck):=jg X G io fun _ _ h=>lK T UO h M_FigureBook_define;have dX:aq l.prog w K mg base "_law_together" 1 ["_law_kind","_law_k","_law_j"] rq:=jg X G gf fun _ _ h=>kD T UO h;have cZ:aq l.prog w K mg base "_law_plain_pairs" 3 ["_law_figure_here"] iR:=jg X G eO fun _ _ h=>iN T UO h Cquadrille dX
  have R_law_flat:∀ n:Nat,n<=9->aq l.prog w K mg base "_law_flat" (n+4) ["_law_figure_here","_law_told"] (jY n):=by
   intro n
   induction n with
   | zero=>exact fun _=>jg X G iC fun _ _ _=>i9 (by intro _ _ _ _ h;cases h;exact (show False from ‹aN 0 _ _ _›))
   | succ n ih=>exact fun hn=>jg X G iC fun _ _ h=>oU T UO h cZ (by omega) (ih (by omega))
  have cV:aq l.prog w K mg base "_law_flat" 13 ["_law_figure_here","_law_told"] (jY 9):=R_law_flat 9 (Ad _)
  have R_law_names_of:∀ n:Nat,n<=9->aq l.prog w K mg base "_law_names_of" (n+1) ["_law_figure_here"] (hG n):=by
   intro n
   induction n with
   | zero=>exact fun _=>jg X G d6 fun _ _ _=>i9 (by intro _ _ _ _ h;cases h;exact (show False from ‹aN 0 _ _ _›))
   | succ n ih=>exact fun hn=>jg X G d6 fun _ _ h=>kC T UO h (by omega) (ih (by omega))
  have bT:aq l.prog w K mg base "_law_names_of" 10 ["_law_figure_here"] (hG 9):=R_law_names_of 9 (Ad _);have eG:aq l.prog w K mg base "_law_whole" 1 ["_law_found"] kU:=jg X G kc fun _ _ h=>nD T UO h;have iA:aq l.prog w K mg base "_law_pair" 2 ["_law_found"] kS:=jg X G kY fun _ _ h=>oV T UO h eG;have dU:aq l.prog w K mg base "_law_row" 3 ["_law_found"] me:=jg X G mI fun _ _ h=>qm T UO h iA;have cR:aq l.prog w K mg base "_law_at_the_bound" 16 ["_law_book"] (kQ ck):=jg X G dZ fun _ _ h=>ij T UO h aV dU MF;have M_FigureBook_names:aS l.prog w K mg base dq ck "names" 1 ["self"] (fw ck):=uD dY fun _ _ h=>ii T UO h;have ga:aq l.prog w K mg base "_law_chain" 17 ["_law_cell"] kR:=jg X G j5 fun _ _ h=>nu T UO h aX cc aV MF M_FigureBook_names;exact wz T UO G_law aY eX MF aV cc cV bI cG bT dU cR ga M_FigureBook_names M_FigureBook_told
theorem walk {l:PySem.W.OpenLaw}{q:Program}{loose:List Str}{XP:(Str->Option Value)->Heap->Prop}{YP:World->Heap->Prop}{d:DefRec}{K:Params->PySem.W.Frag}(hn:l.most=some 63)(hdf:d.params.defaults=[])
  (hY:∀ (w:World)(h:Heap),YP w h->(K w.params).In h)
  (F:∀ (w:World)(mg:Str->Option Value)(fa:Addr)(h:Heap),(K w.params).In h->h.Ns mainGlobals mg->mg d.name=some (.ref fa) ->
   ∃ fd:FuncData,(∀ (s:Shared)(u:Value),BindsTo s fd ⟨[u],[]⟩ [("_law_script",u)])/\∀ base:Heap,(K w.params).In base->base.Ns mainGlobals mg->bp l.prog w (K w.params) mg base dq 18 fa fd ["_law_script"] (pf (K w.params))) :
  PySem.W.WalkO q loose XP YP l.row.toRowW d [] (fun f vs=>PySem.call f vs) :=
 L2.walk_of (n:=63) (k:=18) (x:="_law_script") (CX:=fun _=>dq) (sp:=fun w=>pf (K w.params)) hn (by decide) hdf ⟨rfl,by decide,by decide⟩ hY F (fun _ _ a ns hl _ hS=>⟨a,ns,rfl,hS,hl,fun _=>rfl⟩) fun _ _ _ _ _ z=>z
end Wk44
namespace PySem.W.Fast
def tw10636823361362466512:=0
def tw10582619000834127935:=0
def tw4215121437515479962:=0
def tw11926834394355286763:=0
def tw8040678089491198760:=0
def tw10274250657240233067:=0
def tw6724781489856341495:=0
def tw8021443723877010906:=0
def tw11286274352395245676:=0
def tw13513915851223496178:=0
def tw11390488608960192166:=0
def tw13363077026805091918:=0
def tw16141072218494524316:=0
def tw5246418848987511649:=0
def tw6139703566265691379:=0
def tw5918796362033226773:=0
def tw6675882610719767213:=0
def tw8115428668061686944:=0
def tw2376082551606314753:=0
def tw472976581754931627:=0
def tw12309693133110047956:=0
def tw9543980924667484078:=0
def tw12581899318870720246:=0
def tw7989272522817576780:=0
def tw10111339540161056926:=0
def tw4338938109772395461:=0
def tw10082548691955909339:=0
def tw4066762771869495315:=0
def tw13136331652913523031:=0
def tw921999630360104375:=0
def tw3468491714907409192:=0
def tw2245873523033937517:=0
def tw6735237720115691090:=0
def tw1635290787877963422:=0
def tw12028868308674936154:=0
def tw10700241721487294927:=0
def tw13558248691608225886:=0
def tw2634169730952112312:=0
def tw15266203415895833519:=0
def tw11758861870221276400:=0
def tw14233863188000765278:=0
def tw5346900783001185284:=0
def tw1051300284779093410:=0
def tw6035839565947158819:=0
def tw11782475335487969072:=0
def tw3089223919120559690:=0
def tw6125369293334020729:=0
def tw2544020415840251536:=0
def tw6356947860372014916:=0
def tw15868710231501289528:=0
def tw15634866845675289150:=0
def tw10916605300090917037:=0
def tw12137998979832216055:=0
def tw1706893721850227458:=0
def tw3371651803902188714:=0
def tw14109046911458716810:=0
def tw4131049244694348901:=0
def tw13356174736744871180:=0
def tw13089386579977465657:=0
def tw14094308739394234245:=0
def tw525977212377732775:=0
def tw322714066680978834:=0
def tw16521360502732504250:=0
def tw915947133643096696:=0
def tw14304649859146196776:=0
def tw17776718710383302718:=0
def tw5936356959337586498:=0
def tw11732303769171142741:=0
def tw14021724990921432720:=0
def tw7064315650533261266:=0
def tw14053678892893472995:=0
def tw4978765280410681011:=0
def tw11799819152373638336:=0
def tw10784285032520986373:=0
def tw5439680094670963119:=0
def tw9735807523765690980:=0
def tw2679598246386498284:=0
def tw10640961967614557310:=0
def tw4639604939384858385:=0
def tw14126851950985836859:=0
def tw10850989146296458275:=0
def tw15178004389362546731:=0
def tw18091493905091160292:=0
def tw7055510723968576981:=0
def tw12389531798893096057:=0
def tw6337062682515918264:=0
def tw5731506396440138851:=0
def tw9748841857917819327:=0
def tw11477235491562041782:=0
def tw3287937911374323636:=0
def tw11065793547287335524:=0
def tw16605484874150415402:=0
def tw14871055919819280554:=0
def tw1185116757787772912:=0
def tw332818708505208755:=0
def tw13905393778849355328:=0
def tw5911582916043984949:=0
def tw7042280606078166883:=0
def tw9538541545051834812:=0
def tw14051898488339305903:=0
def tw16894989262342977156:=0
def tw7783424928222713259:=0
def tw17464847965851418148:=0
def tw15929812086528838235:=0
def tw12545285080347278677:=0
def tw8065977597641383561:=0
def tw5624491749631225618:=0
def tw13484000419706690835:=0
def tw16705903911957515817:=0
def tw11181337789132384387:=0
def tw1170174150797476519:=0
def tw2707835643780009071:=0
def tw3816315998403431396:=0
def tw787018373474114977:=0
def tw1184236087475511058:=0
def tw6460792115965155888:=0
def tw785764982323988324:=0
def tw2995569139524425403:=0
def tw13821593862527029755:=0
def tw7608308376025455012:=0
def tw53669365507710767:=0
def tw5901913920192509028:=0
def tw15666207634314356105:=0
def tw9985901353481132838:=0
def tw9115915909766731062:=0
def tw16329778019854383098:=0
def tw9574408098945468436:=0
def tw4339957720951031803:=0
def tw15314579139325143882:=0
def tw1604729469531939722:=0
def tw8970454519776689679:=0
def tw9515838238293704526:=0
def tw210896628677519550:=0
def tw8889496241979016399:=0
def tw17602141856373741535:=0
def tw7194012920223868075:=0
def tw3699711979741756850:=0
def tw15123012976460091612:=0
def tw11052680200745011362:=0
def tw8635218213918893054:=0
def tw16323762311504326029:=0
def tw11227946742378385649:=0
def tw12481901324801766602:=0
def tw16214495464297643969:=0
def tw7312380774519433395:=0
def tw2764941678345523376:=0
def tw5596320843179448588:=0
def tw10081452706361919510:=0
def tw2798921147422659774:=0
def tw18251254684453677670:=0
def tw16154510044793604952:=0
def tw5920752862781438202:=0
def tw17277963071967742924:=0
def tw5440526693499041742:=0
def tw9132822590263409609:=0
def tw7720012202878833253:=0
def tw129778378101578149:=0
def tw1838682579320536556:=0
def tw8796233437355543812:=0
def tw8092415233981883441:=0
def tw9293467992414722143:=0
def tw16002159938724179102:=0
def tw9807991961632382560:=0
def tw17828360079098919955:=0
def tw11460761618735173546:=0
def tw17139321303196901274:=0
def tw10500190599778282828:=0
def tw17050136267416475432:=0
def tw8031790184780311358:=0
def tw1145731411200735427:=0
def tw385395811981785030:=0
def tw6452049136476072074:=0
def tw7940746539360189037:=0
def tw17699406658472367270:=0
def tw6265725312882231102:=0
def tw1162084049268427160:=0
def tw5816602496269503896:=0
def tw5604802215545989233:=0
def tw15773541489010101903:=0
def tw8910443732264315330:=0
def tw16911459094706932260:=0
def tw5477897978448941915:=0
def tw11682192331093040008:=0
end PySem.W.Fast
open PySem PySem.W PyProof.Rows
set_option maxRecDepth 100000 in
set_option maxHeartbeats 0 in
theorem PySem.Challenge.cw_lastwaltz_k44_figures_in_figures_holds : PySem.Challenge.rw_lastwaltz_k44_figures_in_figures.Holds := by
 w_on;o_law;k_head;(case hw=>w_witness2)
 k_fill
 refine Wk44.walk (l:=PySem.Challenge.rw_lastwaltz_k44_figures_in_figures) rfl rfl (fun w h Y=>PySem.W.kIn_of Y) ?F
 case F =>
  intro w mg fa h KX G hmg;refine' Wk44.all_mk2 KX G hmg ?n_co ?n_ck ?n_mp ?kpg ?khd ?kpo ?ksa ?kna_figures ?kna_lengths ?kna_rows ?kmk ?kkc ?e_co ?x_oo ?n_cq ?n_cB ?n_cT ?n_ml ?n_mt ?n_kd ?kdo ?e_cq ?e_cB ?e_cT ?x_bb ?x_tb ?x_tt ?x_ub ?x_ut ?x_uu ?n_cL ?e_cL ?x_lu ?x_ll ?im ?kZ ?j6 ?k6 ?j9 ?j7 ?j8 ?ka ?iq ?iU ?il ?eJ ?fU ?eK ?bN ?fV ?cJ ?iX ?ke ?iW ?cK ?dJ ?iV ?mH ?dI ?io ?gf ?eO ?iC ?d6 ?kc ?kY ?mI ?dZ ?dY ?j5 ?vp ?vM ?rC ?jD ?rD ?uz ?vL ?ux ?vJ ?vK ?pH ?mh ?vP ?vO ?vN ?uy ?vS ?kt ?vR ?vQ
  (case n_co=>k_is)
  (case n_ck=>k_is)
  (case n_mp=>k_is)
  (case e_co=>kernel_rfl)
  (case x_oo=>kernel_rfl)
  (case n_cq=>k_is)
  (case n_cB=>k_is)
  (case n_cT=>k_is)
  (case n_ml=>k_is)
  (case n_mt=>k_is)
  (case n_kd=>k_is)
  (case kdo=>exact⟨_,_,_,rfl,rfl,rfl,by decide,.cons ⟨_,rfl⟩ (.cons ⟨_,rfl⟩ (.cons ⟨_,rfl⟩ (.cons ⟨_,rfl⟩ (.cons ⟨_,rfl⟩ (.cons ⟨_,rfl⟩ (.cons ⟨_,rfl⟩ (.cons ⟨_,rfl⟩ .nil)))))))⟩)
  (case e_cq=>kernel_rfl)
  (case e_cB=>kernel_rfl)
  (case e_cT=>kernel_rfl)
  (case x_bb=>kernel_rfl)
  (case x_tb=>kernel_rfl)
  (case x_tt=>kernel_rfl)
  (case x_ub=>kernel_rfl)
  (case x_ut=>kernel_rfl)
  (case x_uu=>kernel_rfl)
  (case n_cL=>k_is)
  (case e_cL=>kernel_rfl)
  (case x_lu=>kernel_rfl)
  (case x_ll=>kernel_rfl)
  all_goals first | (refine' Wz.fact_mk ?a ?l ?c ?k;(case a=>k_is);(case l=>k_is);(case c=>k_is);(case k=>k_is)) | (refine' Wz.mfact_mk ?a ?i ?l ?c ?k;(case a=>k_is);(case i=>k_is);(case l=>k_is);(case c=>k_is);(case k=>k_is)) | k_is
