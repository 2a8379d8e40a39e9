import PyProof.Rows.All
import Wide.All
import OpenK.AllK
import Wide.FinOn
import Lean
import PyProof.EqAt
import PyProof.EqKinds
import PyProof.TupleCall
import PyProof.NeData
import PyProof.DictItems
import PyProof.JoinWalk
import PyProof.CallStr
import OpenK.KOwn
import KE.KTryMore
import PyProof.EnumMake
import KE.KLam
import KE.KNestM
import KE.KEqDict
import PyProof.Conv_int
import PyProof.StrWalks
import PyProof.StrCalls2
import PyProof.StrLawsIn
import PySem.Challenge.RW_lastwaltz_k49_whole_book
set_option Elab.async false
set_option linter.all false
set_option maxRecDepth 100000
set_option maxHeartbeats 4000000
theorem Bw:type_of% @PySem.wpAny_bind:=@PySem.wpAny_bind
theorem Bx:type_of% @List.length_map:=@List.length_map
theorem By:type_of% @if_neg:=@if_neg
theorem Bz:type_of% @if_pos:=@if_pos
theorem BA:type_of% @PySem.wpAny_pure:=@PySem.wpAny_pure
theorem BB:type_of% @Nat.le_refl:=@Nat.le_refl
theorem BC:type_of% @List.mem_cons_of_mem:=@List.mem_cons_of_mem
theorem BD:type_of% @Bool.false_ne_true:=@Bool.false_ne_true
theorem BE:type_of% @List.mem_cons_self:=@List.mem_cons_self
theorem BF:type_of% @Option.some.inj:=@Option.some.inj
theorem BG:type_of% @PySem.Heap.lt_size:=@PySem.Heap.lt_size
theorem BH:type_of% @List.mem_cons:=@List.mem_cons
theorem BI:type_of% @decide_eq_true:=@decide_eq_true
theorem BJ:type_of% @Nat.ne_of_lt:=@Nat.ne_of_lt
theorem BK:type_of% @List.size_toArray:=@List.size_toArray
theorem BL:type_of% @Ne.symm:=@Ne.symm
theorem BM:type_of% @PySem.Paired.length:=@PySem.Paired.length
theorem BN:type_of% @List.mem_append_right:=@List.mem_append_right
theorem BO:type_of% @List.map_cons:=@List.map_cons
theorem BP:type_of% @Nat.lt_of_lt_of_le:=@Nat.lt_of_lt_of_le
theorem BQ:type_of% @decide_eq_false:=@decide_eq_false
theorem BR:type_of% @List.length_append:=@List.length_append
theorem BS:type_of% @PySem.wpAny_mono:=@PySem.wpAny_mono
theorem BU:type_of% @List.length_cons:=@List.length_cons
theorem BV:type_of% @PySem.W.mg_none_of:=@PySem.W.mg_none_of
theorem BW:type_of% @List.mem_singleton:=@List.mem_singleton
theorem BX:type_of% @List.map_append:=@List.map_append
theorem BY:type_of% @Nat.zero_le:=@Nat.zero_le
theorem BZ:type_of% @List.mem_map:=@List.mem_map
theorem B0:type_of% @List.map_map:=@List.map_map
theorem B1:type_of% @Array.length_toList:=@Array.length_toList
theorem B6:type_of% @Nat.le_trans:=@Nat.le_trans
theorem B7:type_of% @List.mem_append:=@List.mem_append
theorem B8:type_of% @List.nodup_cons:=@List.nodup_cons
theorem B9:type_of% @List.mem_of_getElem?:=@List.mem_of_getElem?
theorem Ca:type_of% @PySem.wpAny_newObj_type:=@PySem.wpAny_newObj_type
theorem Cb:type_of% @List.lookup_cons:=@List.lookup_cons
theorem Cc:type_of% @List.map_congr_left:=@List.map_congr_left
theorem Cd:type_of% @of_decide_eq_true:=@of_decide_eq_true
theorem Ce:type_of% @List.take_add_one:=@List.take_add_one
theorem Cf:type_of% @PySem.wpAny_holding:=@PySem.wpAny_holding
theorem Cg:type_of% @PySem.W.mg_of:=@PySem.W.mg_of
theorem Ci:type_of% @Option.isSome_iff_exists:=@Option.isSome_iff_exists
theorem Cj:type_of% @PySem.F.slot_list_append:=@PySem.F.slot_list_append
theorem Ck:type_of% @PySem.F.type_list_append:=@PySem.F.type_list_append
theorem Cm:type_of% @PySem.W.kia_one:=@PySem.W.kia_one
theorem Cn:type_of% @PySem.Calls.spliced_cons:=@PySem.Calls.spliced_cons
theorem Co:type_of% @Option.toList_some:=@Option.toList_some
theorem Cp:type_of% @PySem.F.plainAttrs_list:=@PySem.F.plainAttrs_list
theorem Cq:type_of% @PySem.wpAny_standAt:=@PySem.wpAny_standAt
theorem Cr:type_of% @PySem.wpAny_typeNameOfWhole_keyiter:=@PySem.wpAny_typeNameOfWhole_keyiter
theorem Cs:type_of% @Int.emod_lt_of_pos:=@Int.emod_lt_of_pos
theorem Ct:type_of% @List.take_length:=@List.take_length
theorem Cu:type_of% @List.not_mem_nil:=@List.not_mem_nil
theorem Cv:type_of% @PySem.sizeLine_eq:=@PySem.sizeLine_eq
theorem Cw:type_of% @PySem.Calls.evalArgs_plain:=@PySem.Calls.evalArgs_plain
theorem Cy:type_of% @PySem.F.slot_dict_keyiterator_next:=@PySem.F.slot_dict_keyiterator_next
theorem Cz:type_of% @beq_eq_false_iff_ne:=@beq_eq_false_iff_ne
theorem CA:type_of% @List.length_take:=@List.length_take
theorem CB:type_of% @List.all_eq_true:=@List.all_eq_true
theorem CD:type_of% @PySem.wpAny_Call_Name_kw:=@PySem.wpAny_Call_Name_kw
theorem CF:type_of% @List.zip_cons_cons:=@List.zip_cons_cons
theorem CG:type_of% @PySem.codeAny_mono:=@PySem.codeAny_mono
theorem CH:type_of% @Int.emod_nonneg:=@Int.emod_nonneg
theorem CI:type_of% @PySem.wpAny_typeNameOf_keyiter:=@PySem.wpAny_typeNameOf_keyiter
theorem CJ:type_of% @PyProof.Rows.boot_sorted:=@PyProof.Rows.boot_sorted
theorem CK:type_of% @PySem.PassesOwn.never:=@PySem.PassesOwn.never
theorem CL:type_of% @PySem.wpAny_truthy_bool:=@PySem.wpAny_truthy_bool
theorem CM:type_of% @PySem.Calls.spliced_nil:=@PySem.Calls.spliced_nil
theorem CN:type_of% @Nat.lt_succ_of_lt:=@Nat.lt_succ_of_lt
theorem CO:type_of% @List.any_cons:=@List.any_cons
theorem CP:type_of% @PySem.mem_of_lookup:=@PySem.mem_of_lookup
theorem CQ:type_of% @Bool.and_eq_true:=@Bool.and_eq_true
theorem CS:type_of% @PySem.Calls.callWith_builtin:=@PySem.Calls.callWith_builtin
theorem CT:type_of% @List.length_singleton:=@List.length_singleton
theorem CU:type_of% @PySem.F.slot_dict_get:=@PySem.F.slot_dict_get
theorem CV:type_of% @congrArg:=@congrArg
theorem CW:type_of% @PySem.F.excBase_ValueError:=@PySem.F.excBase_ValueError
theorem CY:type_of% @PySem.codeAny_call_builtin:=@PySem.codeAny_call_builtin
theorem CZ:type_of% @PySem.Heap.size_push:=@PySem.Heap.size_push
theorem C0:type_of% @PySem.boot_len:=@PySem.boot_len
theorem C2:type_of% @PySem.wpAny_call_entry:=@PySem.wpAny_call_entry
theorem C3:type_of% @List.mem_map_of_mem:=@List.mem_map_of_mem
theorem C4:type_of% @beq_iff_eq:=@beq_iff_eq
theorem C5:type_of% @PySem.tupleKind_room_in1:=@PySem.tupleKind_room_in1
theorem C6:type_of% @Nat.lt_of_le_of_lt:=@Nat.lt_of_le_of_lt
theorem C7:type_of% @PySem.Obj.data_mapFields:=@PySem.Obj.data_mapFields
theorem C8:type_of% @List.filter_append:=@List.filter_append
theorem C9:type_of% @PySem.wpAny_field:=@PySem.wpAny_field
theorem Da:type_of% @PySem.wpAny_pyIter_list:=@PySem.wpAny_pyIter_list
theorem Db:type_of% @PySem.wpAny_loadPart_at:=@PySem.wpAny_loadPart_at
theorem Dc:type_of% @List.mem_range:=@List.mem_range
theorem Dd:type_of% @List.nodup_nil:=@List.nodup_nil
theorem De:type_of% @PySem.wpAny_setField:=@PySem.wpAny_setField
theorem Df:type_of% @PySem.wpAny_call:=@PySem.wpAny_call
namespace L2
open PySem PySem.Spec PyProof.Rows
abbrev bv:=Sum Int Str
def m6:bv->Value->Bool
 | .inl k,v=>Value.isInt k v
 | .inr x,v=>Value.isStrOf x v
def AA (w:World):bv->Int
 | .inl k=>hashInt k
 | .inr x=>hashStr w x
theorem ba:∀ {k:bv}{v:Value},m6 k v=true->(∃ i t,k=Sum.inl i/\v=Value.int i t)\/(∃ x t,k=Sum.inr x/\v=Value.str x t)
 | .inl i,v,h=>by
  obtain⟨t,e⟩:=Value.isInt_shape (k:=i) (v:=v) h;exact .inl ⟨i,t,rfl,e⟩
 | .inr x,v,h=>by
  obtain⟨t,e⟩:=Value.isStrOf_shape (x:=x) (v:=v) h;exact .inr ⟨x,t,rfl,e⟩
theorem tR (i:Int)(t:Tok):m6 (.inl i) (.int i t)=true:=by simp[m6,Value.isInt]
theorem tS (x:Str)(t:Tok):m6 (.inr x) (.str x t)=true:=by simp[m6,Value.isStrOf]
theorem yq (a b:Int):decide ((Sum.inl a:bv)=Sum.inl b)=(a == b):=by
 by_cases e:a=b
 ·subst e;simp
 ·have h:¬ (Sum.inl a:bv)=Sum.inl b:=fun q=>e (Sum.inl.inj q)
  rw[BQ h];exact (Cz.mpr e).symm
theorem yu (a b:Str):decide ((Sum.inr a:bv)=Sum.inr b)=decide (a=b):=by
 by_cases e:a=b
 ·subst e;simp
 ·have h:¬ (Sum.inr a:bv)=Sum.inr b:=fun q=>e (Sum.inr.inj q)
  rw[BQ h,BQ e]
theorem yr (a:Int)(b:Str):decide ((Sum.inl a:bv)=Sum.inr b)=false:=BQ (fun q=>nomatch q)
theorem yt (a:Str)(b:Int):decide ((Sum.inr a:bv)=Sum.inl b)=false:=BQ (fun q=>nomatch q)
def aQ (prog:Program)(w:World):PySem.KeyKind prog w bv where
 is:=m6
 hash:=AA w
 inj:=fun v a b ha hb=>by
  rcases ba ha with ⟨i,t,rfl,rfl⟩ | ⟨x,t,rfl,rfl⟩
  ·rcases ba hb with ⟨j,u,rfl,e⟩ | ⟨y,u,rfl,e⟩
   ·injection e with e1 _;rw[e1]
   ·exact nomatch e
  ·rcases ba hb with ⟨j,u,rfl,e⟩ | ⟨y,u,rfl,e⟩
   ·exact nomatch e
   ·injection e with e1 _;rw[e1]
 byValue:=fun k v h=>by
  rcases ba h with ⟨i,t,rfl,rfl⟩ | ⟨x,t,rfl,rfl⟩<;>rfl
 pyHash:=fun hv h=>by
  rcases ba hv with ⟨i,t,rfl,rfl⟩ | ⟨x,t,rfl,rfl⟩
  ·exact wpAny_pyHash_int h
  ·exact wpAny_pyHash_str h
 eqBool:=fun hu hv h=>by
  rcases ba hu with ⟨i,t,rfl,rfl⟩ | ⟨x,t,rfl,rfl⟩
  ·rcases ba hv with ⟨j,u,rfl,rfl⟩ | ⟨y,u,rfl,rfl⟩
   ·rw[yq]at h;exact wpAny_eqBool_int h
   ·rw[yr]at h;exact SeqAt.EqAt.int_str i t y u _ _ _ _ h
  ·rcases ba hv with ⟨j,u,rfl,rfl⟩ | ⟨y,u,rfl,rfl⟩
   ·rw[yt]at h;exact SeqAt.EqAt.str_int x t j u _ _ _ _ h
   ·rw[yu]at h;exact wpAny_eqBool_str h
 «strs»:=fun k x t v h=>by
  rcases ba h with ⟨i,u,rfl,e⟩ | ⟨y,u,rfl,e⟩
  ·exact nomatch e
  ·injection e with e1 _
   subst e1;cases v<;>rfl
theorem pI (prog:Program)(w:World)(i:Int)(t:Tok):(aQ prog w).is (.inl i) (.int i t)=true:=tR i t
theorem dO (prog:Program)(w:World)(x:Str)(t:Tok):(aQ prog w).is (.inr x) (.str x t)=true:=tS x t
inductive V where
 | non | bl (b:Bool) | int (i:Int) | str (x:Str) | byt (b:Array UInt8) | flt (b:UInt64) | ref (a:Addr) | ty (n:String)
 deriving DecidableEq
def aG:V->Value->Prop
 | .non,u=>u=Value.none
 | .bl b,u=>u=Value.bool b
 | .int i,u=>∃ t,u=Value.int i t
 | .str x,u=>∃ t,u=Value.str x t
 | .byt b,u=>∃ t,u=Value.bytes b t
 | .flt b,u=>∃ t,u=Value.float b t
 | .ref a,u=>u=Value.ref a
 | .ty n,u=>u=Value.type n
abbrev aL:List V->List Value->Prop:=Paired aG
theorem aL.length {xs:List V}{us:List Value}(r:aL xs us):xs.length=us.length:=BM r
theorem aL.get:∀ {xs:List V}{us:List Value}{i:Nat}{x:V},aL xs us->xs[i]? = some x->∃ u,us[i]? = some u/\aG x u
 | _,_,_,_,.nil,e=>by simp at e
 | _,_,0,_,.cons r _,e=>by simp at e;subst e;exact⟨_,rfl,r⟩
 | _,_,i+1,x,.cons _ t,e=>by
  obtain⟨u,h1,h2⟩:=aL.get (i:=i) (x:=x) t (by simpa using e);exact⟨u,by simpa using h1,h2⟩
theorem aL.append:∀ {xs ys:List V}{us ws:List Value},aL xs us->aL ys ws->aL (xs++ys) (us++ws)
 | _,_,_,_,.nil,s=>s
 | _,_,_,_,.cons r t,s=>.cons r (aL.append t s)
theorem aL.take:∀ {xs:List V}{us:List Value}(n:Nat),aL xs us->aL (xs.take n) (us.take n)
 | _,_,0,_=>.nil
 | _,_,_+1,.nil=>.nil
 | _,_,n+1,.cons r t=>.cons r (aL.take n t)
theorem aL.drop:∀ {xs:List V}{us:List Value}(n:Nat),aL xs us->aL (xs.drop n) (us.drop n)
 | _,_,0,r=>r
 | _,_,_+1,.nil=>.nil
 | _,_,n+1,.cons _ t=>aL.drop n t
def d4:Option V->Option Value->Prop
 | some v,some u=>aG v u
 | none,none=>True
 | _,_=>False
def KV {κ:Type}:List (κ×V)->List (κ×Value)->Prop:=Paired fun (p:κ×V)(q:κ×Value)=>p.1=q.1/\aG p.2 q.2
def kV:bv->V
 | .inl i=>.int i
 | .inr x=>.str x
inductive HO where
 | lst (xs:List V)
 | tup (xs:List V)
 | dK (kvs:List (bv×V)) | dT (kvs:List (List bv×V))
 | set (S:Int->Bool) (n:Nat)
 | ins (C dx:Addr) (fs:List (Str×V))
 | own (x:Addr)
 | xd (fs:List (Str×V))
 | met (f x:Addr)
 | rng (lo hi:Int)
 | frz (o:Obj) (u:HO)
 | tbl (ps:Array Value)
 | ext (φ:Heap->Prop)
abbrev Hp:=Addr->Option HO
def upd (H:Hp)(a:Addr)(o:HO):Hp:=fun b=>if b=a then some o else H b
theorem ae {H:Hp}{a:Addr}{o:HO}:upd H a o a=some o:=by unfold upd;rw[Bz rfl]
theorem ac {H:Hp}{a b:Addr}{o:HO}(h:b≠a):upd H a o b=H b:=by unfold upd;rw[By h]
theorem sV {H:Hp}{a:Addr}{o u:HO}:upd (upd H a o) a u=upd H a u:=by
 funext b;unfold upd;split<;>rfl
theorem b9 {H:Hp}{a b:Addr}{o u:HO}(h:H a=some o)(h':H b=some u)(d:o≠u):a≠b:=by
 intro e;subst e;rw[h]at h';exact d (BF h')
theorem ah {H:Hp}{a b:Addr}{o:HO}(h:H a=some o)(h':H b=none):a≠b:=by
 intro e;subst e;rw[h]at h';cases h'
section
variable (P:Program)(w:World)
def aM (H:Hp)(h:Heap)(a:Addr):HO->Prop
 | .lst xs=>xs.length<=sizeLine/\∃ (its:List Value)(n:Nat),aL xs its/\h.get? a=some { cls:=.type "list",data:=.seq its.toArray n }
 | .tup xs=>xs.length<=sizeLine/\∃ its:List Value,aL xs its/\IsTup h a its.toArray
 | .dK kvs=>kvs.length<=sizeLine/\(a == sysModules)=false/\∃ vs,KV kvs vs/\h.DictOf (aQ P w) a vs
 | .dT kvs=>kvs.length<=sizeLine/\(a == sysModules)=false/\∃ xs:List (List bv×Addr×Value),
   Paired (fun (p:List bv×V)(q:List bv×Addr×Value)=>p.1=q.1/\H q.2.1=some (.tup (p.1.map kV))/\aG p.2 q.2.2) kvs xs /\
   ∃ o es ep,h.get? a=some o/\o.ExactDict/\o.data=.dict es ep/\es.toList=xs.map (entryOfKey (tupleKind (aQ P w)))/\(xs.map (·.1)).Nodup
 | .set S n=>h.SetOf (intKind P w) a S n
 | .ins C dx fs=>H dx=some (.own a)/\fs.length<=1000/\dx≠a/\h.get? a=some (PySem.W.instObj C dx) /\
   ∃ mA,h.Ns1 dx mA/\(∀ f,d4 (fs.lookup f) (mA f))/\PySem.Within mA (fs.map (·.1))
 | .own _=>∃ o,h.get? a=some o
 | .xd fs=>∃ mA,h.Ns1 a mA/\∀ f,d4 (fs.lookup f) (mA f)
 | .rng lo hi=>∃ t u v,h.get? a=some { cls:=.type "range",data:=.fields #[.int lo t,.int hi u,.int 1 v] }
 | .frz o u=>h.get? a=some o/\aM H h a u
 | .tbl ps=>h.get? a=some { cls:=.none,data:=.fields ps }
 | .met f x=>h.get? a=some (PySem.W.methodObj (.ref f) (.ref x))
 | .ext φ=>φ h/\(∃ o,h.get? a=some o)/\∀ h1 h2:Heap,φ h1->(∀ o,h1.get? a=some o->h2.get? a=some o)->φ h2
def fD (H:Hp)(h:Heap):Prop:=∀ a o,H a=some o->aM P w H h a o
end
section
variable {P:Program}{w:World}{H H':Hp}{h h':Heap}{a:Addr}{o:HO}
theorem aM.lt (x:aM P w H h a o):a<h.objs.size:=by
 cases o with
 | lst xs=>obtain⟨_,_,_,_,e⟩:=x;exact BG e
 | tup xs=>obtain⟨_,_,_,p⟩:=x;exact p.lt
 | dK kvs=>obtain⟨_,_,_,_,o,_,_,e,_⟩:=x;exact BG e
 | dT kvs=>obtain⟨_,_,_,_,o,_,_,e,_⟩:=x;exact BG e
 | set S n=>obtain⟨o,_,_,_,e,_⟩:=x;exact BG e
 | ins C dx fs=>obtain⟨_,_,_,e,_⟩:=x;exact BG e
 | own y=>obtain⟨_,e⟩:=x;exact BG e
 | xd fs=>obtain⟨_,⟨_,_,_,e,_⟩,_⟩:=x;exact BG e
 | rng lo hi=>obtain⟨_,_,_,e⟩:=x;exact BG e
 | frz ob u=>obtain⟨e,_⟩:=x;exact BG e
 | tbl ps=>exact BG (show h.get? a=some _ from x)
 | met f y=>exact BG (show h.get? a=some _ from x)
 | ext φ=>obtain⟨_,⟨_,e⟩,_⟩:=x;exact BG e
theorem Paired.mapP {α β:Type}{F G:α->β->Prop}:∀ {l₁:List α}{l₂:List β},Paired F l₁ l₂->(∀ a b,F a b->G a b)->Paired G l₁ l₂
 | _,_,.nil,_=>.nil
 | _,_,.cons r t,f=>.cons (f _ _ r) (Paired.mapP t f)
theorem aM.stay (x:aM P w H h a o)(k:∀ b u,(b=a\/H b=some (.own a))->h.get? b=some u->h'.get? b=some u)
  (ho:∀ b,H b=some (.own a)->H' b=some (.own a)) (ht:∀ b xs,H b=some (.tup xs)->H' b=some (.tup xs)):aM P w H' h' a o:=by
 induction o with
 | lst xs=>obtain⟨z,its,n,r,e⟩:=x;exact⟨z,its,n,r,k _ _ (.inl rfl) e⟩
 | tup xs=>obtain⟨z,its,r,ob,e,c⟩:=x;exact⟨z,its,r,ob,k _ _ (.inl rfl) e,c⟩
 | dK kvs=>obtain⟨z,y,vs,r,ob,es,ep,e,c⟩:=x;exact⟨z,y,vs,r,ob,es,ep,k _ _ (.inl rfl) e,c⟩
 | dT kvs =>
  obtain⟨z,y,xs,r,ob,es,ep,e,c⟩:=x;exact⟨z,y,xs,Paired.mapP r fun p q z=>⟨z.1,ht _ _ z.2.1,z.2.2⟩,ob,es,ep,k _ _ (.inl rfl) e,c⟩
 | set S n=>obtain⟨ob,es,ep,t,e,c⟩:=x;exact⟨ob,es,ep,t,k _ _ (.inl rfl) e,c⟩
 | ins C dx fs =>
  obtain⟨d,z,ne,e,mA,⟨od,es,ep,e2,c⟩,r⟩:=x;exact⟨ho _ d,z,ne,k _ _ (.inl rfl) e,mA,⟨od,es,ep,k _ _ (.inr d) e2,c⟩,r⟩
 | own y=>obtain⟨ob,e⟩:=x;exact⟨ob,k _ _ (.inl rfl) e⟩
 | xd fs=>obtain⟨mA,⟨od,es,ep,e,c⟩,r⟩:=x;exact⟨mA,⟨od,es,ep,k _ _ (.inl rfl) e,c⟩,r⟩
 | rng lo hi=>obtain⟨t,u,v,e⟩:=x;exact⟨t,u,v,k _ _ (.inl rfl) e⟩
 | frz ob u ih=>obtain⟨e,q⟩:=x;exact⟨k _ _ (.inl rfl) e,ih q⟩
 | tbl ps =>
  have e:h.get? a=some { cls:=.none,data:=.fields ps }:=x
  show h'.get? a=some { cls:=.none,data:=.fields ps }
  exact k a _ (.inl rfl) e
 | met f y =>
  have e:h.get? a=some (PySem.W.methodObj (.ref f) (.ref y)):=x
  show h'.get? a=some (PySem.W.methodObj (.ref f) (.ref y))
  exact k a _ (.inl rfl) e
 | ext φ=>obtain⟨p,⟨o,e⟩,st⟩:=x;exact⟨st _ _ p fun o q=>k _ _ (.inl rfl) q,⟨o,k _ _ (.inl rfl) e⟩,st⟩
theorem fD.lt (x:fD P w H h)(e:H a=some o):a<h.objs.size:=(x a o e).lt
theorem fD.fresh (x:fD P w H h)(e:h.objs.size<=a):H a=none:=by
 cases q:H a with
 | none=>rfl
 | some u=>exact absurd (BP (x.lt q) e) (Nat.lt_irrefl _)
theorem fD.kept (x:fD P w H h)(k:∀ b u,h.get? b=some u->h'.get? b=some u):fD P w H h':=fun a o e =>
 (x a o e).stay (fun b u _ q=>k b u q) (fun _ q=>q) fun _ _ q=>q
theorem fD.laid (x:fD P w H h)(k:∀ b u,h.get? b=some u->h'.get? b=some u)(hp:h.objs.size<=a)(new:aM P w (upd H a o) h' a o):fD P w (upd H a o) h':=fun b u e=>by
 have hn:=x.fresh hp
 by_cases hb:b=a
 ·subst hb;rw[ae]at e;cases e;exact new
 ·rw[ac hb]at e
  exact (x b u e).stay (fun c v _ q=>k c v q) (fun c q=>by rw[ac (ah q hn)];exact q) fun c xs q=>by rw[ac (ah q hn)];exact q
end
def Rd (H:Hp)(a:Addr)(u:HO):Prop:=H a=some u\/∃ o,H a=some (.frz o u)
theorem Rd.ok {P:Program}{w:World}{H:Hp}{h:Heap}{a:Addr}{u:HO}(r:Rd H a u)(x:fD P w H h):aM P w H h a u:=by
 rcases r with r | ⟨o,r⟩
 ·exact x a u r
 ·obtain⟨_,q⟩:=x a _ r
  exact q
def zp:Option HO->Prop
 | some (.lst _)=>True
 | some (.dK _)=>True
 | some (.dT _)=>True
 | some (.set _ _)=>True
 | some (.ins _ _ _)=>True
 | some (.ext _)=>True
 | _=>False
section
variable {P:Program}{w:World}{H:Hp}{h h':Heap}{x e:Addr}{o':HO}
theorem fD.write (ok:fD P w H h)(mu:zp (H x))(he:e=x\/H e=some (.own x))(k:∀ b u,b≠e->h.get? b=some u->h'.get? b=some u)(heo:∃ u,h'.get? e=some u)
  (new:aM P w (upd H x o') h' x o'):fD P w (upd H x o') h':=fun b u q=>by
 have nown:∀ c y,H c=some (.own y)->c≠x:=fun c y r z=>by subst z;rw[r]at mu;exact mu
 have ntup:∀ c xs,H c=some (.tup xs)->c≠x:=fun c xs r z=>by subst z;rw[r]at mu;exact mu
 by_cases hb:b=x
 ·subst hb;rw[ae]at q;cases q;exact new
 ·rw[ac hb]at q
  by_cases hbe:b=e
  ·have q':H b=some (.own x):=by
    rcases he with z | z
    ·exact absurd (hbe.trans z) hb
    ·rw[hbe];exact z
   rw[q]at q';cases q';obtain⟨v,hv⟩:=heo;exact⟨v,by rw[hbe];exact hv⟩
  ·refine (ok b u q).stay (fun c v hc r=>k c v ?_ r) (fun c r=>by rw[ac (nown c b r)];exact r) fun c xs r=>by rw[ac (ntup c xs r)];exact r
   rcases hc with rfl | hc
   ·exact hbe
   ·rintro rfl
    rcases he with z | z
    ·exact nown c b hc z
    ·rw[hc]at z;cases z;exact hb rfl
end
structure Un (fs ex:List Addr)(H H':Hp)(h h':Heap):Prop where
 keep:∀ b o,h.get? b=some o->H b=none->b∉fs->b∉ex->h'.get? b=some o
 slot:∀ b o,h.get? b=some o->H b=none->b∈fs->b∉ex->∃ sl,h'.get? b=some { o with slots:=sl }
 free:∀ b o,h.get? b=some o->H b=none->b∉ex->H' b=none
 there:∀ b o,h.get? b=some o->b∉ex->∃ o',h'.get? b=some o'
 tups:∀ b xs,H b=some (.tup xs)->H' b=some (.tup xs)
 frzs:∀ b o u,H b=some (.frz o u)->H' b=some (.frz o u)
 tbls:∀ b ps,H b=some (.tbl ps)->∃ more,H' b=some (.tbl (ps++more))
section
variable {fs fs' ex ex':List Addr}{H H1 H2:Hp}{h h1 h2 h':Heap}{a x e:Addr}{o:HO}
theorem Un.any (u:Un fs ex H H1 h h1){b:Addr}{ob:Obj}(q:h.get? b=some ob)(n:H b=none)(hx:b∉ex):∃ sl,h1.get? b=some { ob with slots:=sl }:=by
 by_cases hb:b∈fs
 ·exact u.slot b ob q n hb hx
 ·exact⟨ob.slots,u.keep b ob q n hb hx⟩
theorem Un.kept (k:∀ b u,h.get? b=some u->h'.get? b=some u):Un fs ex H H h h' :=
 ⟨fun b ob q _ _ _=>k b ob q,fun b ob q _ _ _=>⟨ob.slots,k b ob q⟩,fun _ _ _ n _=>n,fun b ob q _=>⟨ob,k b ob q⟩,fun _ _ q=>q,fun _ _ _ q=>q,fun _ ps q=>⟨#[],by rw[q];simp⟩⟩
theorem Un.refl:Un fs ex H H h h:=Un.kept fun _ _ q=>q
theorem Un.laid (k:∀ b u,h.get? b=some u->h'.get? b=some u)(hp:h.objs.size<=a)(hn:H a=none):Un fs ex H (upd H a o) h h' where
 keep:=fun b u q _ _ _=>k b u q
 slot:=fun b u q _ _ _=>⟨u.slots,k b u q⟩
 free:=fun b u q n _=>by rw[ac (BJ (BP (BG q) hp))];exact n
 there:=fun b u q _=>⟨u,k b u q⟩
 tups:=fun b xs q=>by rw[ac (ah q hn)];exact q
 frzs:=fun b u xs q=>by rw[ac (ah q hn)];exact q
 tbls:=fun b ps q=>⟨#[],by rw[ac (ah q hn),q];simp⟩
theorem Un.write (mu:zp (H x))(he:e=x\/H e=some (.own x))(k:∀ b u,b≠e->h.get? b=some u->h'.get? b=some u)(heo:∃ u,h'.get? e=some u):Un fs ex H (upd H x o) h h':=by
 have hx:∀ b,H b=none->b≠x:=fun b n z=>by subst z;rw[n]at mu;exact mu
 have hb:∀ b,H b=none->b≠e:=fun b n z=>by
  subst z;rcases he with r | r
  ·exact hx b n r
  ·rw[n]at r;cases r
 have hm:∀ b u,H b=some u->¬ zp (some u)->b≠x:=fun b u q nm z=>by subst z;rw[q]at mu;exact nm mu
 refine⟨fun b u q n _ _=>k b u (hb b n) q,fun b u q n _ _=>⟨u.slots,k b u (hb b n) q⟩,fun b u q n _=>by rw[ac (hx b n)];exact n,fun b u q _=>?_,
  fun b xs q=>by rw[ac (hm b _ q fun z=>z)];exact q,fun b u xs q=>by rw[ac (hm b _ q fun z=>z)];exact q,fun b ps q=>⟨#[],by rw[ac (hm b _ q fun z=>z),q];simp⟩⟩
 by_cases hbe:b=e
 ·subst hbe;exact heo
 ·exact⟨u,k b u hbe q⟩
end
def Ai (h:Heap)(H:Hp):List Addr:=(List.range h.objs.size).filter fun a=>(H a).isSome
def om (h:Heap)(H:Hp):Heap:=PySem.W.hideAll h (Ai h H)
theorem tO (h:Heap)(H:Hp):(om h H).objs.size=h.objs.size:=PySem.W.hideAll_size _ _
theorem u7 {h:Heap}{H:Hp}{b:Addr}{o:Obj}(e:h.get? b=some o)(n:H b=none):(om h H).get? b=some o :=
 PySem.W.hideAll_get _ e fun hm=>by
  have q:(H b).isSome=true:=(List.mem_filter.mp hm).2;rw[n]at q;simp at q
theorem xj {h:Heap}{H:Hp}{b:Addr}{o:Obj}(e:(om h H).get? b=some o):h.get? b=some o/\H b=none:=by
 have e':h.get? b=some o:=PySem.W.of_hideAll (Ai h H) e;refine⟨e',?_⟩
 cases q:H b with
 | none=>rfl
 | some x =>
  have hm:b∈Ai h H:=List.mem_filter.mpr ⟨Dc.mpr (BG e'),by simp[q]⟩;have z:(om h H).get? b=none:=PySem.W.hideAll_none (Ai h H) hm;rw[z]at e;cases e
structure Mod (K:PySem.W.Frag)(mg:Str->Option Value)(base:Heap):Prop where
 kin:K.In base
 glob:base.Ns mainGlobals mg
 blt:∃ mb,base.Ns builtinsNs mb/\∀ x:Str,x≠"__name__"->mb x=bootBuiltins x
 nolimit:base.NoLimit
structure Cx where
 prog:Program
 w:World
 K:PySem.W.Frag
 mg:Str->Option Value
 base:Heap
 A:Around
 N:List Str
 s₀:Shared
 H₀:Hp
 env:Env
 outer:List Env
 stack:List Env
 ex:List Addr
 fn:Str->Bool
 calm:Bool
 pn:List (Addr×Obj)
 xe:Value->Shared->Prop
def fU (l:List Env):List Addr:=l.filterMap (·.frame)
abbrev Cx.fs (X:Cx):List Addr:=fU X.outer
def Ar (sc:Scope)(x:Str):Prop:=sc.names.lookup x=some .local\/sc.names.lookup x=some .cell\/sc.names.lookup x=some .free
def xJ (sc:Scope)(x:Str):Prop:=sc.names.lookup x=some .local\/sc.names.lookup x=some .cell
def Am (env:Env)(h:Heap)(m:Str->Option Value)(x:Str)(u:Value):Prop :=
 (env.kindOf x=some .local/\m x=some u)\/((env.kindOf x=some .cell\/env.kindOf x=some .free)/\∃ c,env.cells.lookup x=some c/\h.IsCell c (some u))
structure Cx.Ok (X:Cx):Prop where
 mod:Mod X.K X.mg X.base
 kind:X.env.scope.kind=.function
 glob:X.env.globals=mainGlobals
 blt:X.env.builtins=builtinsNs
 above:X.s₀.heap.objs.size<=X.env.locals
 inj:∀ x y c,X.env.cells.lookup x=some c->X.env.cells.lookup y=some c->x=y
 has:∀ x,(X.env.kindOf x=some .cell\/X.env.kindOf x=some .free)->∃ c,X.env.cells.lookup x=some c
 cab:∀ x c,X.fn x=true->X.env.cells.lookup x=some c->X.s₀.heap.objs.size<=c
 hd:X.calm=true->X.A.handled=none
 frames:X.A.frames=some X.stack
 stk:X.stack=X.outer\/(X.stack=X.env::X.outer/\X.env.frame=some X.env.locals)
 exf:∀ b∈X.ex,b≠X.env.locals/\∀ x c,X.env.cells.lookup x=some c->c≠b
 bs:∀ b o,X.base.get? b=some o->X.s₀.heap.get? b=some o/\X.H₀ b=none
 bsz:X.base.objs.size<=X.s₀.heap.objs.size
 noex:∀ b o,X.base.get? b=some o->b∉X.ex
 exfs:∀ b∈X.ex,b∉X.fs
 funs:X.s₀.heap.FunFrames X.base X.outer
 frf:∀ b∈X.fs,X.H₀ b=none
structure ao (X:Cx)(pins:List (Addr×Obj))(σ:List (Option V))(H:Hp)(s:Shared):Prop where
 ok:X.Ok
 os:s.os=X.s₀.os
 bare:AllBare s.gens
 base:Un X.fs X.ex X.H₀ H X.s₀.heap s.heap
 loc:∃ m,s.heap.Ns X.env.locals m/\∀ (i:Nat)(x:Str)(v:V),X.N[i]? = some x->σ[i]? = some (some v)->Ar X.env.scope x->∃ u,aG v u/\Am X.env s.heap m x u
 cell:∀ x c,X.env.cells.lookup x=some c->∃ v,s.heap.IsCell c v
 free:H X.env.locals=none
 freeC:∀ x c,X.env.cells.lookup x=some c->H c=none
 pin:∀ p∈X.pn++pins,s.heap.get? p.1=some p.2/\H p.1=none/\p.1≠X.env.locals/\p.1∉X.fs/\∀ v,p.2.data≠.cell v
 hok:fD X.prog X.w H s.heap
 len:σ.length=X.N.length
section
variable {X:Cx}{pins:List (Addr×Obj)}{σ:List (Option V)}{H H':Hp}{s:Shared}{h':Heap}
theorem Cx.Ok.nofr (ok:X.Ok){b:Addr}{o:Obj}(e:X.base.get? b=some o):b∉X.fs:=fun hb=>by
 have:=(ok.funs.mem hb).1;rw[e]at this;cases this
theorem ao.bs (I:ao X pins σ H s):∀ b o,X.base.get? b=some o->s.heap.get? b=some o/\H b=none:=fun b o e =>
 ⟨I.base.keep b o (I.ok.bs b o e).1 (I.ok.bs b o e).2 (I.ok.nofr e) (I.ok.noex b o e),I.base.free b o (I.ok.bs b o e).1 (I.ok.bs b o e).2 (I.ok.noex b o e)⟩
theorem ao.bk (I:ao X pins σ H s):∀ b o,X.base.get? b=some o->s.heap.get? b=some o:=fun b o e=>(I.bs b o e).1
theorem ao.mod (I:ao X pins σ H s):Mod X.K X.mg X.base:=I.ok.mod
theorem ao.kIn (I:ao X pins σ H s):X.K.In s.heap:=I.ok.mod.kin.keeps I.bk
theorem ao.lt (I:ao X pins σ H s):X.env.locals<s.heap.objs.size:=let ⟨_,hn,_⟩:=I.loc;hn.lt
theorem ao.sz (I:ao X pins σ H s):X.s₀.heap.objs.size<=s.heap.objs.size:=B6 I.ok.above (Nat.le_of_lt I.lt)
theorem ao.nofs (I:ao X pins σ H s){a:Addr}(h:s.heap.objs.size<=a):a∉X.fs:=fun hb=>by
 obtain⟨_,o,ho,_⟩:=I.ok.funs.mem hb;exact absurd (BP (BG ho) (B6 I.sz h)) (Nat.lt_irrefl _)
theorem ao.cne (I:ao X pins σ H s):∀ x c,X.env.cells.lookup x=some c->c≠X.env.locals:=fun x c e z=>by
 obtain⟨v,o,ho,hd⟩:=I.cell x c e;obtain⟨m,⟨o',es,ep,ho',hd',_⟩,_⟩:=I.loc;rw[z,ho']at ho;cases ho;rw[hd']at hd;cases hd
theorem ao.funs (I:ao X pins σ H s):s.heap.FunFrames X.base X.outer:=by
 have all:∀ (l:List Env),(∀ b∈fU l,b∈X.fs)->X.s₀.heap.FunFrames X.base l->s.heap.FunFrames X.base l:=by
  intro l
  induction l with
  | nil=>intro _ _;trivial
  | cons env r ih =>
   intro hs hl;obtain⟨hk,⟨L,o,hf,hn,ho,hd⟩,hr⟩:=hl;have hL:L∈X.fs:=hs L (by unfold fU;rw[List.filterMap_cons,hf];exact BE);obtain⟨sl,e⟩:=I.base.slot L o ho (I.ok.frf L hL) hL fun z=>I.ok.exfs L z hL;exact⟨hk,⟨L,_,hf,hn,e,hd⟩,ih (fun b hb=>hs b (by unfold fU;rw[List.filterMap_cons,hf];exact BC _ hb)) hr⟩
 exact all X.outer (fun _ hb=>hb) I.ok.funs
theorem ao.stack (I:ao X pins σ H s):s.heap.FunFrames X.base X.stack:=by
 rcases I.ok.stk with e | ⟨e,hf⟩
 ·rw[e];exact I.funs
 ·rw[e]
  obtain⟨m,hn,_⟩:=I.loc;refine .cons (by rw[I.ok.kind];decide) hf hn ?_ I.funs;exact Heap.get?_none_of_le (B6 I.ok.bsz I.ok.above)
theorem ao.stkSub (I:ao X pins σ H s):∀ b∈fU X.stack,b∈X.env.locals::X.fs:=fun b hb=>by
 rcases I.ok.stk with e | ⟨e,hf⟩
 ·rw[e]at hb;exact BC _ hb
 ·rw[e]at hb
  unfold fU at hb;rw[List.filterMap_cons,hf]at hb;exact hb
theorem ao.stkFree (I:ao X pins σ H s):∀ b∈fU X.stack,H b=none:=fun b hb=>by
 rcases BH.mp (I.stkSub b hb) with e | hb
 ·rw[e];exact I.free
 ·obtain⟨_,o,ho,_⟩:=I.ok.funs.mem hb
  exact I.base.free b o ho (I.ok.frf b hb) fun z=>I.ok.exfs b z hb
theorem ao.step {g':Array GenState}{t':Nat}{d':Drawn}{ch:List Addr}(I:ao X pins σ H s)
  (hch:∀ b∈ch,(b∈X.ex\/X.s₀.heap.objs.size<=b)/\b≠X.env.locals/\(∀ x c,X.env.cells.lookup x=some c->c≠b)/\∀ p∈X.pn++pins,p.1≠b)
  (keep:∀ b o,b≠X.env.locals->b∉X.fs->b∉ch->s.heap.get? b=some o->H b=none->h'.get? b=some o)
  (slot:∀ b o,b≠X.env.locals->b∈X.fs->b∉ch->s.heap.get? b=some o->H b=none->∃ sl,h'.get? b=some { o with slots:=sl }) (free:∀ b o,b∉ch->s.heap.get? b=some o->H b=none->H' b=none)
  (there:∀ b o,b∉ch->s.heap.get? b=some o->∃ o',h'.get? b=some o')
  (tups:∀ b xs,H b=some (.tup xs)->H' b=some (.tup xs)) (frzs:∀ b o u,H b=some (.frz o u)->H' b=some (.frz o u)) (tbls:∀ b ps,H b=some (.tbl ps)->∃ more,H' b=some (.tbl (ps++more)))
  (ns:∀ m,s.heap.Ns X.env.locals m->h'.Ns X.env.locals m) (hok:fD X.prog X.w H' h') (hg:AllBare g') :
  ao X pins σ H' { s with heap:=h',gens:=g',drawn:=d',toks:=t' }:=by
 have neL:∀ b o,X.s₀.heap.get? b=some o->b≠X.env.locals:=fun b o e=>BJ (BP (BG e) I.ok.above)
 have neC:∀ b o,X.s₀.heap.get? b=some o->b∉X.ex->b∉ch:=fun b o e hx hb=>by
  rcases (hch b hb).1 with z | z
  ·exact hx z
  ·exact absurd (BP (BG e) z) (Nat.lt_irrefl _)
 have cellK:∀ x c,X.env.cells.lookup x=some c->∀ v,s.heap.IsCell c v->h'.IsCell c v:=fun x c e v ⟨o,ho,hd⟩=>by
  have nch:c∉ch:=fun z=>(hch c z).2.2.1 x c e rfl
  by_cases hc:c∈X.fs
  ·obtain⟨sl,q⟩:=slot c o (I.cne x c e) hc nch ho (I.freeC x c e)
   exact⟨_,q,hd⟩
  ·exact⟨o,keep c o (I.cne x c e) hc nch ho (I.freeC x c e),hd⟩
 refine⟨I.ok,I.os,hg,⟨fun b o e n hb hx=>?_,fun b o e n hb hx=>?_,fun b o e n hx=>?_,fun b o e hx=>?_,fun b xs e=>tups b xs (I.base.tups b xs e),fun b o xs e=>frzs b o xs (I.base.frzs b o xs e),fun b ps e=>?_⟩,?_,fun x c e=>?_,?_,fun x c e=>?_,fun p hp=>?_,hok,I.len⟩
 ·exact keep b o (neL b o e) hb (neC b o e hx) (I.base.keep b o e n hb hx) (I.base.free b o e n hx)
 ·obtain⟨sl,e1⟩:=I.base.slot b o e n hb hx
  obtain⟨sl',e2⟩:=slot b _ (neL b o e) hb (neC b o e hx) e1 (I.base.free b o e n hx);exact⟨sl',e2⟩
 ·obtain⟨o',e1⟩:=I.base.there b o e hx
  exact free b o' (neC b o e hx) e1 (I.base.free b o e n hx)
 ·obtain⟨o',e1⟩:=I.base.there b o e hx
  exact there b o' (neC b o e hx) e1
 ·obtain⟨m1,e1⟩:=I.base.tbls b ps e
  obtain⟨m2,e2⟩:=tbls b _ e1;exact⟨m1++m2,by rw[e2,Array.append_assoc]⟩
 ·obtain⟨m,hn,hl⟩:=I.loc
  refine⟨m,ns m hn,fun i x v e1 e2 e3=>?_⟩;obtain⟨u,r,l⟩:=hl i x v e1 e2 e3;refine⟨u,r,?_⟩;rcases l with l | ⟨k,c,e,z⟩
  ·exact .inl l
  ·exact .inr ⟨k,c,e,cellK x c e _ z⟩
 ·obtain⟨v,z⟩:=I.cell x c e
  exact⟨v,cellK x c e v z⟩
 ·obtain⟨m,⟨o,_,_,ho,_⟩,_⟩:=I.loc
  exact free _ o (fun z=>(hch _ z).2.1 rfl) ho I.free
 ·obtain⟨v,o,ho,hd⟩:=I.cell x c e
  exact free c o (fun z=>(hch c z).2.2.1 x c e rfl) ho (I.freeC x c e)
 ·obtain⟨e,n,ne,nf,d⟩:=I.pin p hp
  have nch:p.1∉ch:=fun z=>(hch p.1 z).2.2.2 p hp rfl;exact⟨keep p.1 p.2 ne nf nch e n,free p.1 p.2 nch e n,ne,nf,d⟩
theorem ao.un {t':Nat}(I:ao X pins σ H s)(u:Un X.fs [] H H' s.heap h')(hok:fD X.prog X.w H' h'):ao X pins σ H' { s with heap:=h',toks:=t' }:=by
 obtain⟨m,⟨o,es,ep,ho,r⟩,_⟩:=id I.loc;obtain⟨sl,hL⟩:=u.any ho I.free (by simp)
 exact I.step (g':=s.gens) (d':=s.drawn) (ch:=[]) (fun _ z=>nomatch z) (fun b o _ hb _ e n=>u.keep b o e n hb (by simp)) (fun b o _ hb _ e n=>u.slot b o e n hb (by simp)) (fun b o _ e n=>u.free b o e n (by simp)) (fun b o _ e=>u.there b o e (by simp)) u.tups u.frzs u.tbls (fun m' hm=>by
  obtain⟨o',es',ep',ho',r'⟩:=hm;rw[ho]at ho';cases ho'
  exact⟨_,es',ep',hL,r'⟩) hok I.bare
theorem ao.call {g':Array GenState}{t':Nat}{d':Drawn}{ch:List Addr}(I:ao X pins σ H s)(u:Un (fU X.stack) ch H H' s.heap h')(hok:fD X.prog X.w H' h')(hg:AllBare g')
  (hch:∀ b∈ch,(b∈X.ex\/X.s₀.heap.objs.size<=b)/\b≠X.env.locals/\(∀ x c,X.env.cells.lookup x=some c->c≠b)/\∀ p∈X.pn++pins,p.1≠b) :
  ao X pins σ H' { s with heap:=h',gens:=g',drawn:=d',toks:=t' }:=by
 obtain⟨m,⟨o,es,ep,ho,r⟩,_⟩:=id I.loc;obtain⟨sl,hL⟩:=u.any ho I.free fun z=>(hch _ z).2.1 rfl
 exact I.step (ch:=ch) hch (fun b o hL hb hc e n=>u.keep b o e n (fun z=>(BH.mp (I.stkSub b z)).elim hL hb) hc) (fun b o _ _ hc e n=>u.any e n hc) (fun b o hc e n=>u.free b o e n hc) (fun b o hc e=>u.there b o e hc) u.tups u.frzs u.tbls (fun m' hm=>by
  obtain⟨o',es',ep',ho',r'⟩:=hm;rw[ho]at ho';cases ho'
  exact⟨_,es',ep',hL,r'⟩) hok hg
theorem ao.turned {t':Nat}{it:Addr}(I:ao X pins σ H s)(k:∀ b o,b≠it->s.heap.get? b=some o->h'.get? b=some o)(hn:H it=none)(hL:it≠X.env.locals)
  (h1:it∈X.ex\/X.s₀.heap.objs.size<=it) (h2:∀ x c,X.env.cells.lookup x=some c->c≠it) (h3:∀ p∈X.pn++pins,p.1≠it):ao X pins σ H { s with heap:=h',toks:=t' }:=by
 have nit:∀ b u,H b=some u->b≠it:=fun b u e z=>by rw[z,hn]at e;cases e
 refine I.step (g':=s.gens) (d':=s.drawn) (ch:=[it]) (fun b hb=>?_) (fun b o _ _ hc e _=>k b o (fun z=>hc (by simp[z])) e) (fun b o _ _ hc e _=>⟨o.slots,k b o (fun z=>hc (by simp[z])) e⟩) (fun _ _ _ _ n=>n)
  (fun b o hc e=>⟨o,k b o (fun z=>hc (by simp[z])) e⟩) (fun _ _ e=>e) (fun _ _ _ e=>e) (fun b ps e=>⟨#[],by rw[e];simp⟩) (fun m hm=>?_) (fun b u e=>?_) I.bare
 ·have e:b=it:=by simpa using hb
  subst e;exact⟨h1,hL,h2,h3⟩
 ·obtain⟨o,es,ep,ho,r⟩:=hm
  exact⟨o,es,ep,k _ o (BL hL) ho,r⟩
 ·refine (I.hok b u e).stay (fun c v hc q=>k c v ?_ q) (fun _ q=>q) fun _ _ q=>q
  rcases hc with z | z
  ·rw[z];exact nit b u e
  ·exact nit c _ z
theorem ao.tok (I:ao X pins σ H s)(t:Nat):ao X pins σ H { s with toks:=t }:=I.un (h':=s.heap) (t':=t) Un.refl I.hok
theorem ao.kept {t':Nat}(I:ao X pins σ H s)(k:∀ b u,s.heap.get? b=some u->h'.get? b=some u):ao X pins σ H { s with heap:=h',toks:=t' }:=I.un (Un.kept k) (I.hok.kept k)
theorem ao.laid {a:Addr}{o:HO}{t':Nat}(I:ao X pins σ H s)(k:∀ b u,s.heap.get? b=some u->h'.get? b=some u)(hp:s.heap.objs.size<=a)(new:aM X.prog X.w (upd H a o) h' a o) :
  ao X pins σ (upd H a o) { s with heap:=h',toks:=t' }:=I.un (Un.laid k hp (I.hok.fresh hp)) (I.hok.laid k hp new)
theorem ao.write {x e:Addr}{o:HO}{t':Nat}(I:ao X pins σ H s)(mu:zp (H x))(he:e=x\/H e=some (.own x))(k:∀ b u,b≠e->s.heap.get? b=some u->h'.get? b=some u)(heo:∃ u,h'.get? e=some u)
  (new:aM X.prog X.w (upd H x o) h' x o):ao X pins σ (upd H x o) { s with heap:=h',toks:=t' }:=I.un (Un.write mu he k heo) (I.hok.write mu he k heo new)
theorem ao.pins_of {pins':List (Addr×Obj)}(I:ao X pins σ H s)(h:∀ p∈pins',s.heap.get? p.1=some p.2/\H p.1=none/\p.1≠X.env.locals/\p.1∉X.fs/\∀ v,p.2.data≠.cell v):ao X pins' σ H s :=
 ⟨I.ok,I.os,I.bare,I.base,I.loc,I.cell,I.free,I.freeC,fun p hp=>(B7.mp hp).elim (fun z=>I.pin p (List.mem_append_left _ z)) (h p),I.hok,I.len⟩
theorem k6 {N:List Str}(hN:N.Nodup){i j:Nat}{x:Str}(a:N[i]? = some x)(b:N[j]? = some x):i=j:=by
 obtain⟨h1,e1⟩:=List.getElem?_eq_some_iff.mp a;obtain⟨h2,e2⟩:=List.getElem?_eq_some_iff.mp b;exact (List.getElem_inj hN).mp (e1.trans e2.symm)
theorem nw {M:Model}{A:Around}{E:Value->Shared->Prop}{i:Nat}{x:Str}{v:V}{u:Value}{Q:Unit->Shared->Prop}(I:ao X pins σ H s)(hN:X.N.Nodup)(hi:X.N[i]? = some x)(hx:xJ X.env.scope x)(r:aG v u)
  (h:∀ s',ao X pins (σ.set i (some v)) H s'->(∃ a,Heap.SameBut a s.heap s'.heap/\(a=X.env.locals\/X.env.cells.lookup x=some a))->Q () s') (hf:X.fn x=true\/X.env.scope.names.lookup x=some .local:=by first | exact .inl rfl | exact .inr rfl | assumption):wpAny M A (storeName X.env x u) Q E s:=by
 obtain⟨m,hn,hl⟩:=id I.loc
 have hcls:(X.env.scope.kind == .class||(X.env.scope.kind == .module&&X.env.locals != X.env.globals))=false:=by rw[I.ok.kind];rfl
 have hiσ:i<σ.length:=by rw[I.len];exact (List.getElem?_eq_some_iff.mp hi).1
 have cne:=I.cne
 have tracked:∀ {a:Addr}{h':Heap},(∃ o,s.heap.get? a=some o/\H a=none)->Heap.SameBut a s.heap h'->fD X.prog X.w H h':=fun {a h'} ha hs b ob e=>by
  obtain⟨_,_,hfree⟩:=ha;refine (I.hok b ob e).stay (fun c w' hc q=>(hs.2 c ?_).trans q) (fun _ q=>q) fun _ _ q=>q;rintro rfl;rcases hc with rfl | hc
  ·rw[hfree]at e;cases e
  ·rw[hfree]at hc;cases hc
 rcases hx with hk | hk
 ·refine wpAny_storeName_local hk hn (fun h' hn' hs=>?_) hcls
  obtain⟨oL,_,_,hoL,_⟩:=id hn;refine h _ ⟨I.ok,I.os,I.bare,⟨fun b o e n hb hx=>?_,fun b o e n hb hx=>?_,I.base.free,fun b o e hx=>?_,I.base.tups,I.base.frzs,I.base.tbls⟩,⟨_,hn',fun j y v' e1 e2 e3=>?_⟩,fun y c e=>?_,I.free,I.freeC,fun p hp=>?_,tracked ⟨oL,hoL,I.free⟩ hs,by simpa using I.len⟩ ⟨_,hs,.inl rfl⟩
  ·exact (hs.2 b (BJ (BP (BG e) I.ok.above))).trans (I.base.keep b o e n hb hx)
  ·obtain⟨sl,e1⟩:=I.base.slot b o e n hb hx
   exact⟨sl,(hs.2 b (BJ (BP (BG e) I.ok.above))).trans e1⟩
  ·obtain⟨o',e1⟩:=I.base.there b o e hx
   exact⟨o',(hs.2 b (BJ (BP (BG e) I.ok.above))).trans e1⟩
  ·by_cases hj:j=i
   ·subst hj
    rw[hi]at e1;cases e1;rw[List.getElem?_set_self hiσ]at e2;cases e2;exact⟨u,r,.inl ⟨hk,by simp⟩⟩
   ·rw[List.getElem?_set_ne (BL hj)]at e2
    obtain⟨u',r',q⟩:=hl j y v' e1 e2 e3;refine⟨u',r',?_⟩;rcases q with ⟨k,e⟩ | ⟨k,c,e,z⟩
    ·refine .inl ⟨k,?_⟩
     have:y≠x:=fun e=>hj (k6 hN e1 (e▸hi));simp[this,e]
    ·exact .inr ⟨k,c,e,z.sameBut hs (cne y c e)⟩
  ·obtain⟨w',z⟩:=I.cell y c e
   exact⟨w',z.sameBut hs (cne y c e)⟩
  ·obtain⟨e,n,ne,nf,d⟩:=I.pin p hp
   exact⟨(hs.2 p.1 ne).trans e,n,ne,nf,d⟩
 ·have hfn:X.fn x=true:=by
   rcases hf with z | z
   ·exact z
   ·rw[z]at hk;cases hk
  obtain⟨c,hc⟩:=I.ok.has x (.inl hk);obtain⟨w',z⟩:=I.cell x c hc;refine wpAny_storeName_cell I.ok.kind hk hc z (fun h' hc' hs=>?_);obtain⟨oc,hoc,hocd⟩:=id z;refine h { s with heap:=h' } ⟨I.ok,I.os,I.bare,⟨fun b o e n hb hx=>?_,fun b o e n hb hx=>?_,I.base.free,fun b o e hx=>?_,I.base.tups,I.base.frzs,I.base.tbls⟩,⟨m,hn.sameBut hs (BL (cne x c hc)),fun j y v' e1 e2 e3=>?_⟩,fun y c' e=>?_,I.free,I.freeC,fun p hp=>?_,tracked ⟨oc,hoc,I.freeC x c hc⟩ hs,by simpa using I.len⟩ ⟨c,hs,.inr hc⟩
  ·exact (hs.2 b (BJ (BP (BG e) (I.ok.cab x c hfn hc)))).trans (I.base.keep b o e n hb hx)
  ·obtain⟨sl,e1⟩:=I.base.slot b o e n hb hx
   exact⟨sl,(hs.2 b (BJ (BP (BG e) (I.ok.cab x c hfn hc)))).trans e1⟩
  ·obtain⟨o',e1⟩:=I.base.there b o e hx
   exact⟨o',(hs.2 b (BJ (BP (BG e) (I.ok.cab x c hfn hc)))).trans e1⟩
  ·by_cases hj:j=i
   ·subst hj
    rw[hi]at e1;cases e1;rw[List.getElem?_set_self hiσ]at e2;cases e2;exact⟨u,r,.inr ⟨.inl hk,c,hc,hc'⟩⟩
   ·rw[List.getElem?_set_ne (BL hj)]at e2
    obtain⟨u',r',q⟩:=hl j y v' e1 e2 e3;refine⟨u',r',?_⟩;rcases q with q | ⟨k,c',e,z'⟩
    ·exact .inl q
    ·refine .inr ⟨k,c',e,z'.sameBut hs ?_⟩
     rintro rfl;exact hj (k6 hN e1 (I.ok.inj _ _ _ e hc▸hi))
  ·by_cases hcc:c'=c
   ·subst hcc;exact⟨_,hc'⟩
   ·obtain⟨w2,z2⟩:=I.cell y c' e
    exact⟨w2,z2.sameBut hs hcc⟩
  ·obtain⟨e,n,ne,nf,d⟩:=I.pin p hp
   refine⟨(hs.2 p.1 ?_).trans e,n,ne,nf,d⟩;intro q;rw[q,hoc]at e;have q':oc=p.2:=BF e;exact d w' (by rw[<-q'];exact hocd)
theorem i6 {M:Model}{A:Around}{E:Value->Shared->Prop}{i:Nat}{x:Str}{v:V}{u:Value}{Q:Unit->Shared->Prop}(I:ao X pins σ H s)(hN:X.N.Nodup)(hi:X.N[i]? = some x)(hx:xJ X.env.scope x)(r:aG v u)
  (h:∀ s',ao X pins (σ.set i (some v)) H s'->Q () s') (hf:X.fn x=true\/X.env.scope.names.lookup x=some .local:=by first | exact .inl rfl | exact .inr rfl | assumption):wpAny M A (storeName X.env x u) Q E s :=
 nw I hN hi hx r (fun s' I' _=>h s' I') hf
theorem ao.call' {s':Shared}{ch:List Addr}(I:ao X pins σ H s)(ho:s'.os=s.os)(u:Un (fU X.stack) ch H H' s.heap s'.heap)(hok:fD X.prog X.w H' s'.heap)(hg:AllBare s'.gens)
  (hch:∀ b∈ch,(b∈X.ex\/X.s₀.heap.objs.size<=b)/\b≠X.env.locals/\(∀ x c,X.env.cells.lookup x=some c->c≠b)/\∀ p∈X.pn++pins,p.1≠b):ao X pins σ H' s':=by
 obtain⟨h',g',d',t',o'⟩:=s';have e:o'=s.os:=ho;subst e;exact I.call (g':=g') (t':=t') (d':=d') u hok hg hch
end
abbrev XK:=Value->Option Addr->Hp->Prop
abbrev St:=List (Option V)
abbrev VK:=V->Hp->Prop
abbrev TE:=St->Hp->VK->Prop
abbrev TT:=St->Hp->(Bool->Hp->Prop)->Prop
abbrev TA:=St->Hp->(List V->Hp->Prop)->Prop
structure eB where
 nx:St->Hp->Prop
 rt:VK
 bk:St->Hp->Prop:=fun _ _=>False
 ct:St->Hp->Prop:=fun _ _=>False
abbrev TS:=eB->St->Hp->Prop
def EP (X:Cx)(pins:List (Addr×Obj))(σ:St)(Q:VK)(u:Value)(s':Shared):Prop:=∃ v H',ao X pins σ H' s'/\aG v u/\Q v H'
def TP (X:Cx)(pins:List (Addr×Obj))(σ:St)(Q:Bool->Hp->Prop)(b:Bool)(s':Shared):Prop:=∃ H',ao X pins σ H' s'/\Q b H'
def AP (X:Cx)(pins:List (Addr×Obj))(σ:St)(Q:List V->Hp->Prop)(us:List Value)(s':Shared):Prop:=∃ vs H',ao X pins σ H' s'/\aL vs us/\Q vs H'
def SP (X:Cx)(pins:List (Addr×Obj))(D:eB)(f:Flow)(s':Shared):Prop :=
 match f with
 | .next=>∃ σ' H',ao X pins σ' H' s'/\D.nx σ' H'
 | .brk=>∃ σ' H',ao X pins σ' H' s'/\D.bk σ' H'
 | .cont=>∃ σ' H',ao X pins σ' H' s'/\D.ct σ' H'
 | .ret u=>∃ v σ' H',ao X pins σ' H' s'/\aG v u/\D.rt v H'
def PE (X:Cx)(e:Expr)(t:TE):Prop :=
 ∀ (pins:List (Addr×Obj))(s:Shared)(σ:St)(H:Hp)(Q:VK),ao X pins σ H s->t σ H Q->wpAny (model X.prog X.w) X.A (eval e X.env) (EP X pins σ Q) X.xe s
def PT (X:Cx)(e:Expr)(t:TT):Prop :=
 ∀ (pins:List (Addr×Obj))(s:Shared)(σ:St)(H:Hp)(Q:Bool->Hp->Prop),ao X pins σ H s->t σ H Q->wpAny (model X.prog X.w) X.A (isTrue e X.env (eval e X.env)) (TP X pins σ Q) X.xe s
def PW (X:Cx)(e:Expr)(t:TT):Prop :=
 ∀ (whole:Sem Value)(pins:List (Addr×Obj))(s:Shared)(σ:St)(H:Hp)(Q:Bool->Hp->Prop),ao X pins σ H s->t σ H Q->wpAny (model X.prog X.w) X.A (isTrue e X.env whole) (TP X pins σ Q) X.xe s
theorem PW.pt {X:Cx}{e:Expr}{t:TT}(h:PW X e t):PT X e t:=h _
def PA (X:Cx)(es:List Expr)(t:TA):Prop :=
 ∀ (pos:Pos)(pins:List (Addr×Obj))(s:Shared)(σ:St)(H:Hp)(Q:List V->Hp->Prop),ao X pins σ H s->t σ H Q->wpAny (model X.prog X.w) X.A (spliced (backTo pos (starEach es X.env))) (AP X pins σ Q) X.xe s
def PS (X:Cx)(st:Stmt)(t:TS):Prop :=
 ∀ (pins:List (Addr×Obj))(s:Shared)(σ:St)(H:Hp)(D:eB),ao X pins σ H s->t D σ H->wpAny (model X.prog X.w) X.A (exec st X.env) (SP X pins D) X.xe s
def qq (X:Cx)(st:List Stmt)(t:TS):Prop :=
 ∀ (pins:List (Addr×Obj))(s:Shared)(σ:St)(H:Hp)(D:eB),ao X pins σ H s->t D σ H->wpAny (model X.prog X.w) X.A (execs st X.env) (SP X pins D) X.xe s
theorem aS {α:Type}{t:Sem α}{Q Q':α->Shared->Prop}{M:Model}{A:Around}{E:Value->Shared->Prop}{s:Shared}(h:wpAny M A t Q E s)(hQ:∀ a s,Q a s->Q' a s):wpAny M A t Q' E s:=BS h hQ fun _ _ x=>x
section
variable {X:Cx}
inductive TV (i:Nat) (σ:St) (H:Hp) (Q:VK):Prop
 | mk (v:V) (e:σ[i]? = some (some v)) (h:Q v H):TV i σ H Q
def z8 (i:Nat):TE:=fun σ H Q=>TV i σ H Q
def tC (v:V):TE:=fun _ H Q=>Q v H
theorem yJ {i:Nat}{x:Str}{pos:Pos}(hN:X.N[i]? = some x)(hv:Ar X.env.scope x)(hd:(x == ("__debug__" : Str))=false:=by decide)(hcd:(x == ("__classdict__" : Str))=false:=by decide):PE X (.Name x pos) (z8 i):=by
 intro pins s σ H Q I h;obtain⟨v,e,h⟩:=h;obtain⟨m,hn,hl⟩:=I.loc;obtain⟨u,r,l⟩:=hl i x v hN e hv;have fin:EP X pins σ Q u s:=⟨v,H,I,r,h⟩;rcases l with ⟨hk,hm⟩ | ⟨hk,c,hc,hcell⟩
 ·exact wpAny_Name (wpAny_loadName_local I.ok.kind hk hn hm fin) hd
 ·rcases hk with hk | hk
  ·exact wpAny_Name (wpAny_loadName_cell I.ok.kind hk hc hcell fin) hd
  ·exact wpAny_Name (wpAny_loadName_free I.ok.kind hk hc hcell fin hcd) hd
theorem ai {i j pos}:PE X (.Constant (.int i) j pos) (tC (.int i)):=fun _ _ _ H _ I h=>wpAny_Constant_int ⟨.int i,H,I.tok _,⟨_,rfl⟩,h⟩
theorem fC {b j pos}:PE X (.Constant (.bool b) j pos) (tC (.bl b)):=fun _ _ _ H _ I h=>Constant_bool ⟨.bl b,H,I,rfl,h⟩
theorem cL {j pos}:PE X (.Constant .none j pos) (tC .non):=fun _ _ _ H _ I h=>Constant_none ⟨.non,H,I,rfl,h⟩
theorem ay {x j pos}:PE X (.Constant (.str x) j pos) (tC (.str x)):=fun _ _ _ H _ I h=>Calls.Constant_str ⟨.str x,H,I.tok _,⟨_,rfl⟩,h⟩
def Gl (X:Cx)(x:Str):Prop:=X.env.kindOf x=some .globalImplicit
theorem cU {E:Value->Shared->Prop}{pins:List (Addr×Obj)}{s:Shared}{σ:St}{H:Hp}{x:Str}{u:Value}{pos:Pos}{Q:Value->Shared->Prop}(I:ao X pins σ H s)(hg:Gl X x)(hm:X.mg x=some u)(h:Q u s)
  (hd:(x == ("__debug__" : Str))=false:=by decide):wpAny (model X.prog X.w) X.A (eval (.Name x pos) X.env) Q E s :=
 Calls.Name_function_global I.ok.kind hg (Calls.loadGlobal_global (by rw[I.ok.glob];exact I.mod.glob.keeps I.bk) hm h) hd
theorem kR {E:Value->Shared->Prop}{pins:List (Addr×Obj)}{s:Shared}{σ:St}{H:Hp}{x:Str}{u:Value}{pos:Pos}{Q:Value->Shared->Prop}(I:ao X pins σ H s)(hg:Gl X x)(hm:X.mg x=none)(hv:bootBuiltins x=some u)(h:Q u s)
  (hn:x≠"__name__":=by decide) (hd:(x == ("__debug__" : Str))=false:=by decide):wpAny (model X.prog X.w) X.A (eval (.Name x pos) X.env) Q E s:=by
 obtain⟨mb,h1,h2⟩:=I.mod.blt;exact Calls.Name_function_global I.ok.kind hg (Calls.loadGlobal_builtin (by rw[I.ok.glob];exact I.mod.glob.keeps I.bk) hm (by rw[I.ok.blt];exact h1.keeps I.bk) ((h2 x hn).trans hv) h) hd
theorem sw {x:Str}{v:V}{u:Value}{pos:Pos}(hg:Gl X x)(hm:X.mg x=some u)(r:aG v u)(hd:(x == ("__debug__" : Str))=false:=by decide):PE X (.Name x pos) (tC v) :=
 fun _ _ _ H _ I h=>cU I hg hm ⟨v,H,I,r,h⟩ hd
variable {a b:Expr}{ta tb:TE}{pos:Pos}
def PC (X:Cx)(op:CmpOp)(a b:Expr)(t:TE):Prop :=
 ∀ (pins:List (Addr×Obj))(s:Shared)(σ:St)(H:Hp)(Q:VK),ao X pins σ H s->t σ H Q ->
  wpAny (model X.prog X.w) X.A (eval a X.env) (fun v s₁=>wpAny (model X.prog X.w) X.A (eval b X.env) (fun u s₂=>wpAny (model X.prog X.w) X.A (compareOp op v u) (EP X pins σ Q) X.xe s₂) X.xe s₁) X.xe s
theorem pR (b:Expr){op:CmpOp}(h:op≠.In)(h2:op≠.NotIn):behindInMarks op b=false:=by
 have e1:(op == CmpOp.In)=false:=by cases op<;>first | rfl | exact absurd rfl h
 have e2:(op == CmpOp.NotIn)=false:=by cases op<;>first | rfl | exact absurd rfl h2
 cases b<;>simp[behindInMarks,e1,e2]
def AT (ta:TE):TE:=fun σ H Q=>ta σ H fun x H1=>Q (.bl (decide (x=.non))) H1
def z6 (ta:TE):TE:=fun σ H Q=>ta σ H fun x H1=>Q (.bl (!decide (x=.non))) H1
theorem aG.none_iff {x:V}{v:Value}(r:aG x v):(v == Value.none)=decide (x=.non):=by
 cases x with
 | non=>cases r;rfl
 | bl _=>cases r;rfl
 | int _=>obtain⟨t,rfl⟩:=r;rfl
 | str _=>obtain⟨t,rfl⟩:=r;rfl
 | byt _=>obtain⟨t,rfl⟩:=r;rfl
 | flt _=>obtain⟨t,rfl⟩:=r;rfl
 | ref _=>cases r;rfl
 | ty _=>cases r;rfl
theorem vz {j pos'}(ha:PE X a ta):PC X .Is a (.Constant .none j pos') (AT ta):=by
 intro pins s σ H Q I h;refine aS (ha pins s σ H _ I h) fun v s1 ⟨x,H1,I1,r1,q1⟩=>?_;exact Constant_none (is_none_gen ⟨.bl _,H1,I1,by rw[r1.none_iff];rfl,q1⟩)
theorem su {j pos'}(ha:PE X a ta):PC X .IsNot a (.Constant .none j pos') (z6 ta):=by
 intro pins s σ H Q I h;refine aS (ha pins s σ H _ I h) fun v s1 ⟨x,H1,I1,r1,q1⟩=>?_;exact Constant_none (isnot_none_gen ⟨.bl _,H1,I1,by rw[r1.none_iff];rfl,q1⟩)
inductive Ap (Q:Bool->Hp->Prop) (x:V) (H:Hp):Prop
 | mk (c:Bool) (e:x=.bl c) (h:Q c H):Ap Q x H
def tB (t:TE):TT:=fun σ H Q=>t σ H fun x H1=>Ap Q x H1
theorem vB {op:CmpOp}{t:TE}(h:PC X op a b t)(h1:behindInMarks op b=false:=by first | exact pR _ (by decide) (by decide) | rfl):PE X (.Compare a [op] [b] pos) t:=fun pins s σ H Q I hw=>wpAny_Compare1 (h pins s σ H Q I hw) h1
theorem d6 {op:CmpOp}{t:TE}(h:PC X op a b t)(h1:behindInMarks op b=false:=by first | exact pR _ (by decide) (by decide) | rfl):PT X (.Compare a [op] [b] pos) (tB t):=by
 intro pins s σ H Q I hw;refine wpAny_isTrue_Compare1 (aS (h pins s σ H _ I hw) fun v s1 h1=>aS h1 fun u s2 h2=>aS h2 fun c s3 ⟨x,H1,I1,r1,q1⟩=>?_) h1;obtain⟨d,rfl,q⟩:=q1;cases r1;exact CL ⟨H1,I1,q⟩
theorem jx {e:Expr}{t:TE}(h:PE X e t)(he:∀ whole,isTrue e X.env whole=(do let v <-whole;standAt e.pos;holding [v] (truthy v)):=by intro _;rfl):PT X e (tB t):=by
 intro pins s σ H Q I hw;refine isTrue_plain (aS (h pins s σ H _ I hw) fun v s1 ⟨x,H1,I1,r1,q1⟩=>?_) (he _);obtain⟨d,rfl,q⟩:=q1;cases r1;exact CL ⟨H1,I1,q⟩
variable {tA tB':TT}{rest:List Expr}
def AM (t u:TT):TT:=fun σ H Q=>t σ H fun c H1=>if c=true then u σ H1 Q else Q false H1
def Bp (t u:TT):TT:=fun σ H Q=>t σ H fun c H1=>if c=true then Q true H1 else u σ H1 Q
def AV (t:TT):TT:=fun σ H Q=>t σ H fun c H1=>Q (!c) H1
theorem e8 (ha:PT X a tA):PW X (.BoolOp .And [a] pos) tA:=by
 intro wh pins s σ H Q I h;refine isTrue_and (aS (ha pins s σ H Q I h) fun c s1 e=>?_)
 cases c with
 | true=>exact isTrue_and_nil e
 | false=>exact e
theorem f7 (ha:PT X a tA):PW X (.BoolOp .Or [a] pos) tA:=by
 intro wh pins s σ H Q I h;refine isTrue_or (aS (ha pins s σ H Q I h) fun c s1 e=>?_)
 cases c with
 | false=>exact isTrue_or_nil e
 | true=>exact e
theorem hV (ha:PT X a tA)(hb:PW X (.BoolOp .And (b::rest) pos) tB'):PW X (.BoolOp .And (a::b::rest) pos) (AM tA tB'):=by
 intro wh pins s σ H Q I h;refine isTrue_and (aS (ha pins s σ H _ I h) fun c s1 ⟨H1,I1,q1⟩=>?_)
 cases c with
 | true=>exact hb wh pins s1 σ H1 Q I1 q1
 | false=>exact⟨H1,I1,q1⟩
theorem jV (ha:PT X a tA)(hb:PW X (.BoolOp .Or (b::rest) pos) tB'):PW X (.BoolOp .Or (a::b::rest) pos) (Bp tA tB'):=by
 intro wh pins s σ H Q I h;refine isTrue_or (aS (ha pins s σ H _ I h) fun c s1 ⟨H1,I1,q1⟩=>?_)
 cases c with
 | true=>exact⟨H1,I1,q1⟩
 | false=>exact hb wh pins s1 σ H1 Q I1 q1
theorem jw (ha:PT X a tA):PT X (.UnaryOp .Not a pos) (AV tA):=by
 intro pins s σ H Q I h;exact isTrue_not (ha pins s σ H (fun c H1=>Q (!c) H1) I h)
def zV (ta tb:TE):TE:=fun σ H Q=>ta σ H fun x H1=>∃ c,x=.bl c/\if c=true then tb σ H1 Q else Q (.bl false) H1
theorem yI {op}{t:TE}(h:PE X a t):PE X (.BoolOp op [a] pos) t:=fun pins s σ H Q I hw=>BoolOp_one (h pins s σ H Q I hw)
theorem yG (ha:PE X a ta)(hb:PE X (.BoolOp .And (b::rest) pos) tb):PE X (.BoolOp .And (a::b::rest) pos) (zV ta tb):=by
 intro pins s σ H Q I h;refine BoolOp_and (aS (ha pins s σ H _ I h) fun v s1 ⟨x,H1,I1,r1,q1⟩=>?_);obtain⟨c,rfl,q1⟩:=q1;cases r1;refine CL ?_
 cases c with
 | true=>exact hb pins s1 σ H1 Q I1 q1
 | false=>exact⟨.bl false,H1,I1,rfl,q1⟩
end
def bd (K:PySem.W.Frag)(H:Hp)(a:Addr)(xs:List V):Prop :=
 Rd H a (.lst xs) \/
  ∃ (o:Obj)(its:Array Value)(n:Nat),K.lookup a=some o/\o.cls=.type "list"/\o.dict=none/\o.data=.seq its n/\its.size<=sizeLine/\aL xs its.toList
def cr (K:PySem.W.Frag)(H:Hp)(a:Addr)(xs:List V):Prop :=
 Rd H a (.tup xs) \/
  ∃ (o:Obj)(its:Array Value)(n:Nat),K.lookup a=some o/\o.cls=.type "tuple"/\o.data=.seq its n/\its.size<=sizeLine/\aL xs its.toList
def As:Value->Option V
 | .none=>some .non
 | .bool b=>some (.bl b)
 | .int i _=>some (.int i)
 | .str x _=>some (.str x)
 | .bytes b _=>some (.byt b)
 | .float b _=>some (.flt b)
 | .ref a=>some (.ref a)
 | .type n=>some (.ty n)
 | _=>none
theorem aG.abs {x:V}{u:Value}(r:aG x u):As u=some x:=by
 cases x with
 | non=>cases r;rfl
 | bl _=>cases r;rfl
 | int _=>obtain⟨t,rfl⟩:=r;rfl
 | str _=>obtain⟨t,rfl⟩:=r;rfl
 | byt _=>obtain⟨t,rfl⟩:=r;rfl
 | flt _=>obtain⟨t,rfl⟩:=r;rfl
 | ref _=>cases r;rfl
 | ty _=>cases r;rfl
theorem aG.inj {x y:V}{u:Value}(r:aG x u)(q:aG y u):x=y:=BF (r.abs.symm.trans q.abs)
theorem aL.inj:∀ {xs ys:List V}{us:List Value},aL xs us->aL ys us->xs=ys
 | _,_,_,.nil,.nil=>rfl
 | _,_,_,.cons r t,.cons r' t'=>by rw[r.inj r',aL.inj t t']
section
variable {X:Cx}{pins:List (Addr×Obj)}{σ:St}{H:Hp}{s:Shared}{a:Addr}{xs ys:List V}
theorem bd.of {K:PySem.W.Frag}(h:H a=some (.lst xs)):bd K H a xs:=.inl (.inl h)
theorem cr.of {K:PySem.W.Frag}(h:H a=some (.tup xs)):cr K H a xs:=.inl (.inl h)
theorem ao.list (I:ao X pins σ H s)(h:bd X.K H a xs):∃ its:List Value,aL xs its/\PlainL s.heap a its.toArray/\xs.length<=sizeLine:=by
 rcases h with h | ⟨o,its,n,hk,hc,hd,hs,hz,r⟩
 ·obtain⟨z,its,n,r,e⟩:=h.ok I.hok
  exact⟨its,r,⟨_,n,e,rfl,rfl,rfl⟩,z⟩
 ·refine⟨its.toList,r,⟨o,n,I.kIn a o hk,hc,hd,by simpa using hs⟩,?_⟩
  have e:=r.length;simp only[B1]at e;omega
theorem ao.tuple (I:ao X pins σ H s)(h:cr X.K H a xs):∃ its:List Value,aL xs its/\IsTup s.heap a its.toArray/\xs.length<=sizeLine:=by
 rcases h with h | ⟨o,its,n,hk,hc,hs,hz,r⟩
 ·obtain⟨z,its,r,p⟩:=h.ok I.hok
  exact⟨its,r,p,z⟩
 ·refine⟨its.toList,r,⟨o,I.kIn a o hk,hc,n,by simpa using hs⟩,?_⟩
  have e:=r.length;simp only[B1]at e;omega
theorem ao.list_inj (I:ao X pins σ H s)(h:bd X.K H a xs)(h':bd X.K H a ys):xs=ys:=by
 obtain⟨its,r,⟨o,n,e,_,_,d⟩,_⟩:=I.list h;obtain⟨its',r',⟨o',n',e',_,_,d'⟩,_⟩:=I.list h';rw[e]at e';cases e';rw[d]at d';injection d' with d1 _
 have:its=its':=by simpa using CV Array.toList d1
 subst this;exact r.inj r'
theorem ao.tuple_inj (I:ao X pins σ H s)(h:cr X.K H a xs)(h':cr X.K H a ys):xs=ys:=by
 obtain⟨its,r,⟨o,e,_,n,d⟩,_⟩:=I.tuple h;obtain⟨its',r',⟨o',e',_,n',d'⟩,_⟩:=I.tuple h';rw[e]at e';cases e';rw[d]at d';injection d' with d1 _
 have:its=its':=by simpa using CV Array.toList d1
 subst this;exact r.inj r'
end
abbrev Cx.wish (X:Cx)(E:Value->Shared->Prop):Cx:={ X with xe:=E }
abbrev Cx.nox (X:Cx):Cx:=X.wish fun _ _=>False
theorem Cx.Ok.wish {X:Cx}(ok:X.Ok)(E:Value->Shared->Prop):(X.wish E).Ok :=
 ⟨ok.mod,ok.kind,ok.glob,ok.blt,ok.above,ok.inj,ok.has,ok.cab,ok.hd,ok.frames,ok.stk,ok.exf,ok.bs,ok.bsz,ok.noex,ok.exfs,ok.funs,ok.frf⟩
theorem Cx.Ok.unwish {X:Cx}{E:Value->Shared->Prop}(ok:(X.wish E).Ok):X.Ok :=
 ⟨ok.mod,ok.kind,ok.glob,ok.blt,ok.above,ok.inj,ok.has,ok.cab,ok.hd,ok.frames,ok.stk,ok.exf,ok.bs,ok.bsz,ok.noex,ok.exfs,ok.funs,ok.frf⟩
section
variable {X:Cx}{pins:List (Addr×Obj)}{σ:St}{H:Hp}{s:Shared}{E:Value->Shared->Prop}
theorem ao.wish (I:ao X pins σ H s)(E:Value->Shared->Prop):ao (X.wish E) pins σ H s:=⟨I.ok.wish E,I.os,I.bare,I.base,I.loc,I.cell,I.free,I.freeC,I.pin,I.hok,I.len⟩
theorem ao.unwish (I:ao (X.wish E) pins σ H s):ao X pins σ H s:=⟨I.ok.unwish,I.os,I.bare,I.base,I.loc,I.cell,I.free,I.freeC,I.pin,I.hok,I.len⟩
theorem SP.unwish {D:eB}{f:Flow}{s':Shared}(h:SP (X.wish E) pins D f s'):SP X pins D f s':=by
 cases f with
 | next=>obtain⟨σ',H',I,q⟩:=h;exact⟨σ',H',I.unwish,q⟩
 | brk=>obtain⟨σ',H',I,q⟩:=h;exact⟨σ',H',I.unwish,q⟩
 | cont=>obtain⟨σ',H',I,q⟩:=h;exact⟨σ',H',I.unwish,q⟩
 | ret u=>obtain⟨v,σ',H',I,r,q⟩:=h;exact⟨v,σ',H',I.unwish,r,q⟩
theorem qq.nox {st:List Stmt}{t:TS}(h:qq X.nox st t):qq X st t:=fun pins s σ H D I hw =>
 BS (h pins s σ H D (I.wish _) hw) (fun _ _ q=>q.unwish) fun _ _ z=>False.elim z
end
section
variable {X:Cx}{st:Stmt}{rest:List Stmt}{t u:TS}{e:Expr}{te:TE}{pos:Pos}
def z5:TS:=fun D σ H=>D.nx σ H
def AX (t u:TS):TS:=fun D σ H=>t { D with nx:=u D } σ H
theorem aw:qq X [] z5:=fun _ _ σ H _ I h=>wpAny_execs_nil ⟨σ,H,I,h⟩
theorem af (h1:PS X st t)(h2:qq X rest u):qq X (st::rest) (AX t u):=by
 intro pins s σ H D I h;refine wpAny_execs_cons (aS (h1 pins s σ H { D with nx:=u D } I h) fun f s1 q=>?_)
 cases f with
 | next =>
  obtain⟨σ',H',I',q⟩:=q;exact h2 pins s1 σ' H' D I' q
 | ret v=>exact q
 | brk=>exact q
 | cont=>exact q
theorem ag (h1:PS X st t):qq X [st] t:=by
 intro pins s σ H D I h;refine wpAny_execs_cons (aS (h1 pins s σ H D I h) fun f s1 q=>?_)
 cases f with
 | next=>exact wpAny_execs_nil q
 | ret v=>exact q
 | brk=>exact q
 | cont=>exact q
theorem ao.quiet {pins:List (Addr×Obj)}{σ:St}{H:Hp}{s:Shared}(I:ao X pins σ H s):interactive X.env=false:=by simp[interactive,I.ok.kind]
def zZ (te:TE):TS:=fun D σ H=>te σ H fun _ H1=>D.nx σ H1
theorem a9 (he:PE X e te)(hs:swapsWith e none pos.line X.env=pure false:=by rfl):PS X (.Expr e pos) (zZ te):=by
 intro pins s σ H D I h;exact wpAny_Expr_any (aS (he pins s σ H _ I h) fun v s1 ⟨x,H1,I1,r1,q1⟩=>⟨σ,H1,I1,q1⟩) I.quiet hs
def AW (te:TE):TS:=fun D σ H=>te σ H D.rt
theorem aq (he:PE X e te):PS X (.Return (some e) pos) (AW te):=by
 intro pins s σ H D I h;exact wpAny_Return_some (aS (he pins s σ H _ I h) fun v s1 ⟨x,H1,I1,r1,q1⟩=>⟨x,σ,H1,I1,r1,q1⟩)
def AS (c:TT)(t u:TS):TS:=fun D σ H=>c σ H fun b H1=>if b=true then t D σ H1 else u D σ H1
theorem aP {c:Expr}{a b:List Stmt}{tc:TT}(hc:PT X c tc)(ha:qq X a t)(hb:qq X b u):PS X (.If c a b pos) (AS tc t u):=by
 intro pins s σ H D I h;refine wpAny_If (aS (hc pins s σ H _ I h) fun d s1 ⟨H1,I1,q1⟩=>?_)
 cases d with
 | true=>exact ha pins s1 σ H1 D I1 q1
 | false=>exact hb pins s1 σ H1 D I1 q1
def yZ:TS:=fun _ _ _=>False
theorem p8:PS X st yZ:=fun _ _ _ _ _ _ h=>h.elim
end
abbrev TG:=V->St->Hp->(St->Hp->Prop)->Prop
abbrev wC:=List V->St->Hp->(St->Hp->Prop)->Prop
def PG (X:Cx)(target:Expr)(t:TG):Prop :=
 ∀ (pins:List (Addr×Obj))(s:Shared)(σ:St)(H:Hp)(v:V)(u:Value)(Q:St->Hp->Prop),ao X pins σ H s->aG v u->t v σ H Q ->
  wpAny (model X.prog X.w) X.A (assign target X.env u) (fun _ s'=>∃ σ' H',ao X pins σ' H' s'/\Q σ' H') X.xe s
def Ad (X:Cx)(ts:List Expr)(t:wC):Prop :=
 ∀ (pins:List (Addr×Obj))(s:Shared)(σ:St)(H:Hp)(vs:List V)(us:List Value)(Q:St->Hp->Prop),ao X pins σ H s->aL vs us->t vs σ H Q ->
  wpAny (model X.prog X.w) X.A (assignInOrder ((assignEach ts X.env).map (·.2)) us) (fun _ s'=>∃ σ' H',ao X pins σ' H' s'/\Q σ' H') X.xe s
section
variable {X:Cx}{pos:Pos}
def mV (i:Nat):TG:=fun v σ H Q=>Q (σ.set i (some v)) H
theorem iH {i:Nat}{x:Str}(hN:X.N.Nodup)(hi:X.N[i]? = some x)(hx:xJ X.env.scope x)(hf:X.fn x=true\/X.env.scope.names.lookup x=some .local:=by first | exact .inl rfl | exact .inr rfl | assumption):PG X (.Name x pos) (mV i):=by
 intro pins s σ H v u Q I r h;exact wpAny_assign_Name (i6 I hN hi hx r (fun s' I'=>⟨_,H,I',h⟩) hf)
def Ax:wC:=fun vs σ H Q=>vs=[]/\Q σ H
inductive GC (t:TG) (u:wC) (vs:List V) (σ:St) (H:Hp) (Q:St->Hp->Prop):Prop
 | mk (v:V) (r:List V) (e:vs=v::r) (h:t v σ H fun σ' H'=>u r σ' H' Q):GC t u vs σ H Q
def zv (t:TG)(u:wC):wC:=fun vs σ H Q=>GC t u vs σ H Q
theorem sy:Ad X [] Ax:=by
 intro pins s σ H vs us Q I r h;obtain⟨e,h⟩:=h;subst e;cases r;exact assignInOrder_nil ⟨σ,H,I,h⟩
theorem iI {e:Expr}{es:List Expr}{t:TG}{u:wC}(h1:PG X e t)(h2:Ad X es u)
  (hs:(assignEach (e::es) X.env).map (·.2)=assign e X.env::(assignEach es X.env).map (·.2):=by rfl):Ad X (e::es) (zv t u):=by
 intro pins s σ H vs us Q I r h;obtain⟨v,vr,e1,h⟩:=h;subst e1
 cases r with
 | cons r rr =>
  rw[hs];refine assignInOrder_cons (aS (h1 pins s σ H _ _ _ I r h) fun _ s1 ⟨σ1,H1,I1,q1⟩=>?_);exact h2 pins s1 σ1 H1 _ _ Q I1 rr q1
inductive GT (K:PySem.W.Frag) (n:Nat) (t:wC) (v:V) (σ:St) (H:Hp) (Q:St->Hp->Prop):Prop
 | mk (a:Addr) (xs:List V) (e:v=.ref a) (q:cr K H a xs) (l:xs.length=n) (h:t xs σ H Q):GT K n t v σ H Q
def Ay (K:PySem.W.Frag)(n:Nat)(t:wC):TG:=fun v σ H Q=>GT K n t v σ H Q
theorem vI {es:List Expr}{k:Nat}{t:wC}{n:Nat}(hc:X.calm=true)(h:Ad X es t)
  (hn:(assignEach es X.env).length=n:=by rfl) (hst:(assignEach es X.env).findIdx? (·.1)=none:=by rfl):PG X (.Tuple es k pos) (Ay X.K n t):=by
 intro pins s σ H v u Q I r hw;obtain⟨a,xs,e1,hq,hl,hw⟩:=hw;subst e1;cases r;obtain⟨its,rv,ht,hz⟩:=I.tuple hq;refine assign_Tuple_tuple (I.ok.hd hc) ht (by simp[hn,<-hl,rv.length]) hst fun h' hx=>?_;have I1:ao X pins σ H { s with heap:=h' }:=I.kept (t':=s.toks) fun b o e=>hx b o (BJ (BG e)) e;exact h pins _ σ H xs _ Q I1 (by simpa using rv) hw
def zW (te:TE)(g:TG):TS:=fun D σ H=>te σ H fun x H1=>g x σ H1 D.nx
theorem bU {i:Nat}{x:Str}{e:Expr}{te:TE}{pos':Pos}(hN:X.N.Nodup)(hi:X.N[i]? = some x)(hx:xJ X.env.scope x)(he:PE X e te)(hs:swapsWith e (some (.Name x pos')) pos.line X.env=pure false:=by rfl)(hf:X.fn x=true\/X.env.scope.names.lookup x=some .local:=by first | exact .inl rfl | exact .inr rfl | assumption) :
  PS X (.Assign [.Name x pos'] e pos) (zW te (mV i)):=by
 intro pins s σ H D I h;refine wpAny_Assign_Name (aS (he pins s σ H _ I h) fun v s1 ⟨y,H1,I1,r1,q1⟩=>?_) hs;exact i6 I1 hN hi hx r1 (fun s2 I2=>⟨_,H1,I2,q1⟩) hf
end
structure It where
 go:Nat->Hp->Prop
 yld:Nat->Hp->V->Hp->Prop
 stop:Nat->Hp->Prop
def dR (X:Cx)(pins:List (Addr×Obj))(H:Hp)(b:Addr):Prop :=
 H b=none/\b≠X.env.locals/\b∉X.fs/\(b∈X.ex\/X.s₀.heap.objs.size<=b)/\(∀ x c,X.env.cells.lookup x=some c->c≠b)/\∀ p∈X.pn++pins,p.1≠b
theorem ao.fpOk {X:Cx}{pins:List (Addr×Obj)}{σ:St}{H H':Hp}{s:Shared}{b:Addr}(I:ao X pins σ H s)(hb:s.heap.objs.size<=b)(hn:H' b=none):dR X pins H' b:=by
 refine⟨hn,Nat.ne_of_gt (BP I.lt hb),I.nofs hb,.inr (B6 I.sz hb),fun x c e z=>?_,fun p hp z=>?_⟩
 ·obtain⟨v,q⟩:=I.cell x c e
  exact absurd (BP q.lt (by rw[z];exact hb)) (Nat.lt_irrefl _)
 ·exact absurd (BP (BG (I.pin p hp).1) (by rw[z];exact hb)) (Nat.lt_irrefl _)
structure nL (P:Program)(w:World)(K:PySem.W.Frag)(tg:Expr)(J:It)(fp:List Addr)(it:Addr)(tn:Nat->Heap->Prop):Prop where
 mem:it∈fp
 obj:∀ i h,tn i h->∀ b∈fp,∃ o,h.get? b=some o/\∀ v,o.data≠.cell v
 keep:∀ i h h',tn i h->(∀ b∈fp,∀ o,h.get? b=some o->h'.get? b=some o)->tn i h'
 item:∀ (X:Cx),X.prog=P->X.w=w->X.K=K->X.calm=true->∀ (i:Nat)(pins:List (Addr×Obj))(s:Shared)(σ:St)(H:Hp)(E:Value->Shared->Prop),ao X pins σ H s->(∀ b∈fp,dR X pins H b)->tn i s.heap->J.go i H ->
  wpAny (model P w) X.A (pyNext (.ref it)) (fun r s1=>∃ u,r=some u /\
   wpAny (model P w) X.A (letOwnedTupleGo tg (.ref it) u) (fun _ s2=>∃ x H',ao X pins σ H' s2/\aG x u/\J.yld i H x H'/\tn (i+1) s2.heap/\∀ b∈fp,H' b=none) E s1) E s
 done:∀ (X:Cx),X.prog=P->X.w=w->X.K=K->X.calm=true->∀ (i:Nat)(pins:List (Addr×Obj))(s:Shared)(σ:St)(H:Hp)(E:Value->Shared->Prop),ao X pins σ H s->(∀ b∈fp,dR X pins H b)->tn i s.heap->J.stop i H ->
  wpAny (model P w) X.A (pyNext (.ref it)) (fun r s1=>r=none/\ao X pins σ H s1) E s
 self:∀ (A:Around)(i:Nat)(s:Shared)(Q:Value->Shared->Prop)(E:Value->Shared->Prop),tn i s.heap->Q (.ref it) s->wpAny (model P w) A (pyIter (.ref it)) Q E s
abbrev TI:=St->Hp->(It->Hp->Prop)->Prop
def A0 (X:Cx)(pins:List (Addr×Obj))(σ:St)(tg:Expr)(R:It->Hp->Prop)(itv:Value)(s2:Shared):Prop :=
 ∃ (it:Addr)(fp:List Addr)(tn:Nat->Heap->Prop)(J:It)(H':Hp),itv=.ref it/\ao X pins σ H' s2/\nL X.prog X.w X.K tg J fp it tn/\tn 0 s2.heap/\(∀ b∈fp,dR X pins H' b)/\R J H'
def PI (X:Cx)(tg iter:Expr)(wi:TI):Prop :=
 ∀ (pins:List (Addr×Obj))(s:Shared)(σ:St)(H:Hp)(R:It->Hp->Prop),ao X pins σ H s->wi σ H R ->
  wpAny (model X.prog X.w) X.A (eval iter X.env) (fun v s1=>wpAny (model X.prog X.w) X.A (pyIter v) (A0 X pins σ tg R) X.xe s1) X.xe s
theorem pC {M:Model}{A:Around}{E:Value->Shared->Prop}{s:Shared}{tg:Expr}{it:Addr}{u:Value}{o:Obj}{n:String}{vs:Array Value}{Q:Unit->Shared->Prop}(ho:s.heap.get? it=some o)(hc:o.cls=.type n)(hd:o.data=.fields vs)
  (hn:["enumerate","zip","dict_itemiterator","dict_reverseitemiterator","odict_iterator","itertools.zip_longest","itertools.pairwise"].contains n=false) (hQ:Q () s):wpAny M A (letOwnedTupleGo tg (.ref it) u) Q E s:=by
 unfold letOwnedTupleGo
 cases tg<;>first
  | exact BA hQ
  | (cases u<;>first
    | exact BA hQ
    | (refine Bw (wpAny_load ho ?_)
       rw[hc,hd]
       show wpAny M A (if (["enumerate","zip","dict_itemiterator","dict_reverseitemiterator","odict_iterator","itertools.zip_longest","itertools.pairwise"].contains n&&vs[0]? == some (rawInt _))=true then _ else _) Q E s
       rw[By (by intro h;rw[hn,Bool.false_and]at h;cases h)]
       exact BA hQ))
def y6 (K:PySem.W.Frag)(a:Addr):It :=
 ⟨fun i H=>∃ xs x,bd K H a xs/\xs[i]? = some x,fun i H x H'=>H'=H/\∀ xs,bd K H a xs->xs[i]? = some x,fun i H=>∃ xs,bd K H a xs/\xs.length<=i⟩
def zn (K:PySem.W.Frag)(a:Addr):It :=
 ⟨fun i H=>∃ xs x,cr K H a xs/\xs[i]? = some x,fun i H x H'=>H'=H/\∀ xs,cr K H a xs->xs[i]? = some x,fun i H=>∃ xs,cr K H a xs/\xs.length<=i⟩
def y7 (lo:Int)(n:Nat):It:=⟨fun i _=>i<n,fun i H x H'=>H'=H/\x=.int (lo+i),fun i _=>n<=i⟩
theorem uE {P:Program}{w:World}{K:PySem.W.Frag}{tg:Expr}(a it:Addr):nL P w K tg (y6 K a) [it] it (fun i h=>h.IsListIter it a i) where
 mem:=by simp
 obj:=fun i h st b hb=>by
  have e:b=it:=by simpa using hb
  subst e;obtain⟨o,e,c,d⟩:=st;exact⟨o,e,fun v z=>by rw[d]at z;cases z⟩
 keep:=fun i h h' st k=>st.at fun o e=>k it (by simp) o e
 item:=by
  intro X hP hw hK hc i pins s σ H E I hf st hg;subst hP hw hK;obtain⟨xs,x,hq,hx⟩:=hg;obtain⟨its,rv,p,hz⟩:=I.list hq;obtain⟨u,hu,ru⟩:=rv.get hx;obtain⟨f0,f1,f2,f3,f4,f5⟩:=hf it (by simp);refine wpAny_pyNext_list_item st p.isList (x:=u) (by simpa using hu) fun h' st' sb=>?_;have I1:ao X pins σ H { s with heap:=h' }:=I.turned (t':=s.toks) (fun b o hb e=>(sb.2 b hb).trans e) f0 f1 f3 f4 f5;obtain⟨o,e,c,d⟩:=id st';exact⟨u,rfl,pC (s:={ s with heap:=h' }) e c d (by decide) ⟨x,H,I1,ru,⟨rfl,fun ys hy=>by rw[I.list_inj hy hq];exact hx⟩,st',fun b hb=>(hf b hb).1⟩⟩
 done:=by
  intro X hP hw hK hc i pins s σ H E I hf st hg;subst hP hw hK;obtain⟨xs,hq,hx⟩:=hg;obtain⟨its,rv,p,hz⟩:=I.list hq;obtain⟨f0,f1,f2,f3,f4,f5⟩:=hf it (by simp);have hl:=rv.length;exact wpAny_pyNext_list_end (I.ok.hd hc) st p.isList (by simp;omega) fun h' eb=>⟨rfl,I.turned (t':=s.toks) (fun b o hb e=>eb b o hb e) f0 f1 f3 f4 f5⟩
 self:=fun _ _ _ _ _ st h=>wpAny_pyIter_listiter st h
theorem rH {P:Program}{w:World}{K:PySem.W.Frag}{tg:Expr}(a it:Addr):nL P w K tg (zn K a) [it] it (fun i h=>h.IsTupleIter it a i) where
 mem:=by simp
 obj:=fun i h st b hb=>by
  have e:b=it:=by simpa using hb
  subst e;obtain⟨o,e,c,d⟩:=st;exact⟨o,e,fun v z=>by rw[d]at z;cases z⟩
 keep:=fun i h h' st k=>st.at fun o e=>k it (by simp) o e
 item:=by
  intro X hP hw hK hc i pins s σ H E I hf st hg;subst hP hw hK;obtain⟨xs,x,hq,hx⟩:=hg;obtain⟨its,rv,p,hz⟩:=I.tuple hq;obtain⟨u,hu,ru⟩:=rv.get hx;obtain⟨f0,f1,f2,f3,f4,f5⟩:=hf it (by simp);refine wpAny_pyNext_tuple_item st (show s.heap.IsTuple a its.toArray from p) (x:=u) (by simpa using hu) fun h' st' sb=>?_;have I1:ao X pins σ H { s with heap:=h' }:=I.turned (t':=s.toks) (fun b o hb e=>(sb.2 b hb).trans e) f0 f1 f3 f4 f5;obtain⟨o,e,c,d⟩:=id st';exact⟨u,rfl,pC (s:={ s with heap:=h' }) e c d (by decide) ⟨x,H,I1,ru,⟨rfl,fun ys hy=>by rw[I.tuple_inj hy hq];exact hx⟩,st',fun b hb=>(hf b hb).1⟩⟩
 done:=by
  intro X hP hw hK hc i pins s σ H E I hf st hg;subst hP hw hK;obtain⟨xs,hq,hx⟩:=hg;obtain⟨its,rv,p,hz⟩:=I.tuple hq;obtain⟨f0,f1,f2,f3,f4,f5⟩:=hf it (by simp);have hl:=rv.length;exact wpAny_pyNext_tuple_end (I.ok.hd hc) st (show s.heap.IsTuple a its.toArray from p) (by simp;omega) fun h' eb=>⟨rfl,I.turned (t':=s.toks) (fun b o hb e=>eb b o hb e) f0 f1 f3 f4 f5⟩
 self:=fun _ _ _ _ _ st h=>wpAny_pyIter_tupleiter st h
theorem rG {P:Program}{w:World}{K:PySem.W.Frag}{tg:Expr}(it:Addr)(lo:Int)(n:Nat):nL P w K tg (y7 lo n) [it] it (fun i h=>IsRangeIter h it (lo+(i:Nat)*1) ((n:Int)-(i:Nat)) 1) where
 mem:=by simp
 obj:=fun i h st b hb=>by
  have e:b=it:=by simpa using hb
  subst e
  exact⟨_,st,fun v z=>by
   have z':Data.fields _=Data.cell v:=z
   cases z'⟩
 keep:=fun i h h' st k=>k it (by simp) _ st
 item:=by
  intro X hP hw hK hc i pins s σ H E I hf st hg;subst hP hw hK;obtain⟨f0,f1,f2,f3,f4,f5⟩:=hf it (by simp);have W:=Walks.range (prog:=X.prog) (w:=X.w) (I.ok.hd hc) it lo 1 n;refine W.item i s _ _ hg st fun v h' tk hv st' kk=>?_;obtain⟨t,rfl⟩:=hv;have I1:ao X pins σ H { s with heap:=h',toks:=tk }:=I.turned (fun b o hb e=>kk b o (by simpa using hb) e) f0 f1 f3 f4 f5;refine⟨_,rfl,pC (s:={ s with heap:=h',toks:=tk }) (n:="range_iterator") st' rfl rfl (by decide) ⟨.int (lo+i),H,I1,⟨t,?_⟩,⟨rfl,rfl⟩,st',fun b hb=>(hf b hb).1⟩⟩;rw[Int.mul_one]
 done:=by
  intro X hP hw hK hc i pins s σ H E I hf st hg;subst hP hw hK;obtain⟨f0,f1,f2,f3,f4,f5⟩:=hf it (by simp);exact wpAny_pyNext_range_end (I.ok.hd hc) st (by have:n<=i:=hg;omega) fun h' eb=>⟨rfl,I.turned (t':=s.toks) (fun b o hb e=>eb b o hb e) f0 f1 f3 f4 f5⟩
 self:=fun _ _ _ _ _ st h=>wpAny_pyIter_rangeiter st h
section
variable {X:Cx}{tg:Expr}
inductive AZ (K:PySem.W.Frag) (R:It->Hp->Prop) (x:V) (H:Hp):Prop
 | mk (a:Addr) (e:x=.ref a) (q:∃ xs,bd K H a xs) (h:R (y6 K a) H):AZ K R x H
def xN (K:PySem.W.Frag)(tl:TE):TI:=fun σ H R=>tl σ H fun x H1=>AZ K R x H1
def zA (K:PySem.W.Frag)(tl:TE):TI:=fun σ H R=>tl σ H fun x H1=>∃ a,x=.ref a/\(∃ xs,cr K H1 a xs)/\R (zn K a) H1
theorem dQ {l:Expr}{tl:TE}(hl:PE X l tl):PI X tg l (xN X.K tl):=by
 intro pins s σ H R I h;refine aS (hl pins s σ H _ I h) fun v s1 ⟨x,H1,I1,r1,q1⟩=>?_;obtain⟨a,e,⟨xs,hq⟩,q⟩:=q1;subst e;cases r1;obtain⟨its,rv,p,hz⟩:=I1.list hq;refine Da p.isList ?_;refine⟨s1.heap.objs.size,[s1.heap.objs.size],_,_,H1,rfl,I1.kept (t':=s1.toks) fun b o e=>Heap.get?_push_of_some _ e,uE a _,⟨_,Heap.get?_push_size _ rfl,rfl,rfl⟩,fun b hb=>?_,q⟩
 have e:b=s1.heap.objs.size:=by simpa using hb
 subst e;exact I1.fpOk (BB _) (I1.hok.fresh (BB _))
theorem vL {l:Expr}{tl:TE}(hl:PE X l tl):PI X tg l (zA X.K tl):=by
 intro pins s σ H R I h;refine aS (hl pins s σ H _ I h) fun v s1 ⟨x,H1,I1,r1,q1⟩=>?_;obtain⟨a,e,⟨xs,hq⟩,q⟩:=q1;subst e;cases r1;obtain⟨its,rv,p,hz⟩:=I1.tuple hq;refine wpAny_pyIter_tuple (show s1.heap.IsTuple a its.toArray from p) ?_;refine⟨s1.heap.objs.size,[s1.heap.objs.size],_,_,H1,rfl,I1.kept (t':=s1.toks) fun b o e=>Heap.get?_push_of_some _ e,rH a _,⟨_,Heap.get?_push_size _ rfl,rfl,rfl⟩,fun b hb=>?_,q⟩
 have e:b=s1.heap.objs.size:=by simpa using hb
 subst e;exact I1.fpOk (BB _) (I1.hok.fresh (BB _))
theorem vS {pins:List (Addr×Obj)}{σ:St}{H:Hp}{s:Shared}{R:It->Hp->Prop}{E:Value->Shared->Prop}{lo hi:Int}{t u v:Tok}{tk:Nat}(I:ao X pins σ H s)(h1 : -(2 ^ 62)<=lo)(h2:lo<2 ^ 62)(h3 : -(2 ^ 62)<=hi)(h4:hi<2 ^ 62)
  (q:R (y7 lo (hi-lo).toNat) H):wpAny (model X.prog X.w) X.A (pyIter (.ref s.heap.objs.size)) (A0 X pins σ tg R) E { s with heap:=s.heap.push { cls:=.type "range",data:=.fields #[.int lo t,.int hi u,.int 1 v] },toks:=tk }:=by
 refine wpAny_pyIter_range (IsRange.new ..) (small_one h1 h2 h3 h4) ?_;have I1:ao X pins σ H { s with heap:=s.heap.push { cls:=.type "range",data:=.fields #[.int lo t,.int hi u,.int 1 v] },toks:=tk }:=I.kept fun b o e=>Heap.get?_push_of_some _ e
 refine⟨(s.heap.push { cls:=.type "range",data:=.fields #[.int lo t,.int hi u,.int 1 v] }).objs.size,[(s.heap.push { cls:=.type "range",data:=.fields #[.int lo t,.int hi u,.int 1 v] }).objs.size],_,_,H,rfl,
  I1.kept (t':=tk) fun b o e=>Heap.get?_push_of_some _ e,rG _ lo (hi-lo).toNat,?_,fun b hb=>?_,q⟩
 ·have e1:lo+((0:Nat):Int)*1=lo:=by simp
  have e2:(((hi-lo).toNat:Nat):Int)-((0:Nat):Int)=Builtin.Range.rangeSize lo hi 1:=by rw[rangeSize_one];split<;>omega
  show IsRangeIter _ _ (lo+((0:Nat):Int)*1) ((((hi-lo).toNat:Nat):Int)-((0:Nat):Int)) 1
  rw[e1,e2];exact Heap.get?_push_size _ rfl
 ·have e:b=(s.heap.push { cls:=.type "range",data:=.fields #[.int lo t,.int hi u,.int 1 v] }).objs.size:=by simpa using hb
  subst e;exact I1.fpOk (BB _) (I1.hok.fresh (BB _))
def zy (ta:TA):TI:=fun σ H R=>ta σ H fun vs H1=>∃ j:Int,vs=[.int j]/\-(2 ^ 62)<=j/\j<2 ^ 62/\R (y7 0 j.toNat) H1
theorem jv {a:Expr}{ta:TA}{p pos:Pos}(hg:Gl X "range")(hm:X.mg "range" = none)(ha:PA X [a] ta)(hs:starEach [a] X.env=[(false,eval a X.env)]:=by rfl):PI X tg (.Call (.Name "range" p) [a] [] pos) (zy ta):=by
 intro pins s σ H R I h;refine Call_ (kR I hg hm boot_range (PyProof.Rows.callWith_type1 (aS (ha pos pins s σ H _ I h) fun us s1 ⟨vs,H1,I1,r1,q1⟩=>?_) hs rfl));obtain⟨j,e,q1,q2,q⟩:=q1;subst e
 cases r1 with
 | cons r rr =>
  cases rr;obtain⟨t,rfl⟩:=r;exact call_range_1 (vS I1 (by omega) (by omega) q1 q2 (by simpa using q))
def AR (wi:TI)(g:TG)(tb:TS):TS:=fun D σ H=>wi σ H fun J H1=>∃ W:Nat->Nat->St->Hp->Prop,(∃ m,W 0 m σ H1)/\∀ i m σ H,W i m σ H ->
 (J.stop i H/\D.nx σ H)\/(J.go i H/\∃ N:St->Hp->Prop,(∀ σ' H',N σ' H'->∃ m',m'<m/\W (i+1) m' σ' H')/\∀ x H',J.yld i H x H'->g x σ H' fun σ2 H2=>tb { D with nx:=N,ct:=N,bk:=D.nx } σ2 H2)
def fZ (fp:List Addr)(h:Heap):List (Addr×Obj):=fp.filterMap fun b=>(h.get? b).map fun o=>(b,o)
theorem bt {fp:List Addr}{h:Heap}{b:Addr}{o:Obj}(hb:b∈fp)(e:h.get? b=some o):(b,o)∈fZ fp h:=List.mem_filterMap.mpr ⟨b,hb,by rw[e];rfl⟩
theorem ue {fp:List Addr}{h:Heap}{p:Addr×Obj}(hp:p∈fZ fp h):p.1∈fp/\h.get? p.1=some p.2:=by
 obtain⟨b,hb,e⟩:=List.mem_filterMap.mp hp
 cases q:h.get? b with
 | none=>rw[q]at e;cases e
 | some o =>
  rw[q]at e;have e':(b,o)=p:=BF e;subst e';exact⟨hb,q⟩
theorem ao.pinned {pins:List (Addr×Obj)}{σ:St}{H:Hp}{s:Shared}{fp:List Addr}(I:ao X pins σ H s)(hf:∀ b∈fp,dR X pins H b)(ho:∀ b∈fp,∃ o,s.heap.get? b=some o/\∀ v,o.data≠.cell v):ao X (pins++fZ fp s.heap) σ H s :=
 I.pins_of fun p hp=>(B7.mp hp).elim (fun z=>I.pin p (BN _ z)) fun z=>by
  obtain⟨hb,e⟩:=ue z;obtain⟨f0,f1,f2,_⟩:=hf p.1 hb;obtain⟨o,e',d⟩:=ho p.1 hb;rw[e]at e';cases e';exact⟨e,f0,f1,f2,d⟩
theorem ao.unpinned {pins pl:List (Addr×Obj)}{σ:St}{H:Hp}{s:Shared}(I:ao X (pins++pl) σ H s):ao X pins σ H s:=I.pins_of fun p hp=>I.pin p (BN _ (List.mem_append_left _ hp))
theorem f6 {iter:Expr}{body:List Stmt}{wi:TI}{g:TG}{tb:TS}{pos:Pos}(hp:PassesOwn (model X.prog X.w) X.A X.env X.xe)(hc:X.calm=true)(hi:PI X tg iter wi)(hg:PG X tg g)(hb:qq X body tb)
  (hs:∀ x,foldedSetIterable iter X.env x=pure x:=by intro _;rfl):PS X (.For tg iter body [] pos) (AR wi g tb):=by
 intro pins s σ H D I h;refine wpAny_For (aS (hi pins s σ H _ I h) fun v s1 h1=>aS h1 fun itv s2 h2=>?_) hs;obtain⟨it,fp,tn,J,H2,e,I2,T,st2,f2,W,⟨m0,w0⟩,turn⟩:=h2;subst e;have stat:∀ {H':Hp},(∀ b∈fp,H' b=none)->∀ b∈fp,dR X pins H' b:=fun hn b hb=>⟨hn b hb,(f2 b hb).2⟩;refine codeAny_forLoop_any (fun n s'=>∃ i σ' H',ao X pins σ' H' s'/\tn i s'.heap/\(∀ b∈fp,H' b=none)/\W i n σ' H') ?_ m0 ⟨0,σ,H2,I2,st2,fun b hb=>(f2 b hb).1,w0⟩;rintro n s3 ⟨i,σ3,H3,I3,st3,fr3,w3⟩;rcases turn i n σ3 H3 w3 with ⟨stop,qn⟩ | ⟨go,N,hN,step⟩
 ·refine wpAny_passesOwn hp (aS (T.done X rfl rfl rfl hc i pins s3 σ3 H3 X.xe I3 (stat fr3) st3 stop) fun r s4 ⟨hr,I4⟩=>?_)
  subst hr;exact wpAny_execs_nil ⟨σ3,H3,I4,qn⟩
 ·refine wpAny_passesOwn hp (aS (T.item X rfl rfl rfl hc i pins s3 σ3 H3 X.xe I3 (stat fr3) st3 go) fun r s4 ⟨u,hr,h4⟩=>?_)
  subst hr;refine wpAny_passesOwn hp (aS h4 fun _ s5 ⟨x,H5,I5,r5,y5,st5,fr5⟩=>?_);have I5':=I5.pinned (stat fr5) (T.obj _ _ st5);refine wpAny_passesOwn hp (aS (hg _ s5 σ3 H5 x u _ I5' r5 (step x H5 y5)) fun _ s6 ⟨σ6,H6,I6,q6⟩=>?_);refine wpAny_passesOwn hp (aS (hb _ s6 σ6 H6 _ I6 q6) fun f s7 q7=>?_)
  have again:∀ {σ7:St}{H7:Hp},ao X (pins++fZ fp s5.heap) σ7 H7 s7->N σ7 H7->∃ m,m<n/\∃ i σ' H',ao X pins σ' H' s7/\tn i s7.heap/\(∀ b∈fp,H' b=none)/\W i m σ' H':=fun {σ7 H7} I7 n7=>by
   obtain⟨m',hm,w7⟩:=hN σ7 H7 n7;refine⟨m',hm,i+1,σ7,H7,I7.unpinned,T.keep _ _ _ st5 fun b hb o e=>(I7.pin (b,o) (BN _ (BN _ (bt hb e)))).1,fun b hb=>?_,w7⟩;obtain⟨o,e,d⟩:=T.obj _ _ st5 b hb;exact (I7.pin (b,o) (BN _ (BN _ (bt hb e)))).2.1
  cases f with
  | next=>obtain⟨σ7,H7,I7,n7⟩:=q7;exact again I7 n7
  | cont=>obtain⟨σ7,H7,I7,n7⟩:=q7;exact again I7 n7
  | brk=>obtain⟨σ7,H7,I7,q7⟩:=q7;exact⟨σ7,H7,I7.unpinned,q7⟩
  | ret v=>obtain⟨x7,σ7,H7,I7,r7,q7⟩:=q7;exact⟨x7,σ7,H7,I7.unpinned,r7,q7⟩
end
theorem cZ {K:PySem.W.Frag}{a:Addr}{xs:List V}{g:TG}{tb:TS}{D:eB}{σ:St}{H:Hp}(Pv:Nat->St->Hp->Prop)(h0:Pv 0 σ H)(hl:∀ i σ H,i<=xs.length->Pv i σ H->bd K H a xs)
  (hs:∀ i x σ H,xs[i]? = some x->Pv i σ H->g x σ H fun σ2 H2=>tb { D with nx:=Pv (i+1),ct:=Pv (i+1),bk:=D.nx } σ2 H2) (hd:∀ σ H,Pv xs.length σ H->D.nx σ H) :
  ∃ W:Nat->Nat->St->Hp->Prop,(∃ m,W 0 m σ H)/\∀ i m σ H,W i m σ H ->
   ((y6 K a).stop i H/\D.nx σ H)\/((y6 K a).go i H/\∃ N:St->Hp->Prop,(∀ σ' H',N σ' H'->∃ m',m'<m/\W (i+1) m' σ' H')/\∀ x H',(y6 K a).yld i H x H'->g x σ H' fun σ2 H2=>tb { D with nx:=N,ct:=N,bk:=D.nx } σ2 H2):=by
 refine⟨fun i m σ H=>m=xs.length-i/\i<=xs.length/\Pv i σ H,⟨xs.length,by simp,BY _,h0⟩,?_⟩;rintro i m σ H ⟨rfl,hi,p⟩;have q:=hl i σ H hi p
 by_cases hlt:i<xs.length
 ·refine .inr ⟨⟨xs,xs[i],q,by simp[hlt]⟩,Pv (i+1),fun σ' H' p'=>⟨xs.length-(i+1),by omega,rfl,hlt,p'⟩,fun x H' y=>?_⟩
  obtain⟨e,y⟩:=y;subst e;exact hs i x σ _ (y xs q) p
 ·have e:i=xs.length:=by omega
  subst e;exact .inl ⟨⟨xs,q,BB _⟩,hd σ H p⟩
theorem rW {K:PySem.W.Frag}{a:Addr}{xs:List V}{g:TG}{tb:TS}{D:eB}{σ:St}{H:Hp}(Pv:Nat->St->Hp->Prop)(h0:Pv 0 σ H)(hl:∀ i σ H,i<=xs.length->Pv i σ H->cr K H a xs)
  (hs:∀ i x σ H,xs[i]? = some x->Pv i σ H->g x σ H fun σ2 H2=>tb { D with nx:=Pv (i+1),ct:=Pv (i+1),bk:=D.nx } σ2 H2) (hd:∀ σ H,Pv xs.length σ H->D.nx σ H) :
  ∃ W:Nat->Nat->St->Hp->Prop,(∃ m,W 0 m σ H)/\∀ i m σ H,W i m σ H ->
   ((zn K a).stop i H/\D.nx σ H)\/((zn K a).go i H/\∃ N:St->Hp->Prop,(∀ σ' H',N σ' H'->∃ m',m'<m/\W (i+1) m' σ' H')/\∀ x H',(zn K a).yld i H x H'->g x σ H' fun σ2 H2=>tb { D with nx:=N,ct:=N,bk:=D.nx } σ2 H2):=by
 refine⟨fun i m σ H=>m=xs.length-i/\i<=xs.length/\Pv i σ H,⟨xs.length,by simp,BY _,h0⟩,?_⟩;rintro i m σ H ⟨rfl,hi,p⟩;have q:=hl i σ H hi p
 by_cases hlt:i<xs.length
 ·refine .inr ⟨⟨xs,xs[i],q,by simp[hlt]⟩,Pv (i+1),fun σ' H' p'=>⟨xs.length-(i+1),by omega,rfl,hlt,p'⟩,fun x H' y=>?_⟩
  obtain⟨e,y⟩:=y;subst e;exact hs i x σ _ (y xs q) p
 ·have e:i=xs.length:=by omega
  subst e;exact .inl ⟨⟨xs,q,BB _⟩,hd σ H p⟩
theorem jf {lo:Int}{n:Nat}{g:TG}{tb:TS}{D:eB}{σ:St}{H:Hp}(Pv:Nat->St->Hp->Prop)(h0:Pv 0 σ H)
  (hs:∀ i σ H,i<n->Pv i σ H->g (.int (lo+i)) σ H fun σ2 H2=>tb { D with nx:=Pv (i+1),ct:=Pv (i+1),bk:=D.nx } σ2 H2) (hd:∀ σ H,Pv n σ H->D.nx σ H) :
  ∃ W:Nat->Nat->St->Hp->Prop,(∃ m,W 0 m σ H)/\∀ i m σ H,W i m σ H ->
   ((y7 lo n).stop i H/\D.nx σ H)\/((y7 lo n).go i H/\∃ N:St->Hp->Prop,(∀ σ' H',N σ' H'->∃ m',m'<m/\W (i+1) m' σ' H')/\∀ x H',(y7 lo n).yld i H x H'->g x σ H' fun σ2 H2=>tb { D with nx:=N,ct:=N,bk:=D.nx } σ2 H2):=by
 refine⟨fun i m σ H=>m=n-i/\i<=n/\Pv i σ H,⟨n,by simp,BY _,h0⟩,?_⟩;rintro i m σ H ⟨rfl,hi,p⟩
 by_cases hlt:i<n
 ·refine .inr ⟨hlt,Pv (i+1),fun σ' H' p'=>⟨n-(i+1),by omega,rfl,hlt,p'⟩,fun x H' y=>?_⟩
  obtain⟨e,y⟩:=y;subst e y;exact hs i σ _ hlt p
 ·have e:i=n:=by omega
  subst e;exact .inl ⟨BB _,hd σ H p⟩
abbrev R2:=V->V->Hp->VK->Prop
def ja (X:Cx)(f:Value->Value->Sem Value)(r:R2):Prop :=
 ∀ (pins:List (Addr×Obj))(s:Shared)(σ:St)(H:Hp)(x y:V)(v u:Value)(Q:VK),ao X pins σ H s->aG x v->aG y u->r x y H Q ->
  wpAny (model X.prog X.w) X.A (f v u) (EP X pins σ Q) X.xe s
def Aq (X:Cx)(f:Value->Sem Value)(r:V->Hp->VK->Prop):Prop :=
 ∀ (pins:List (Addr×Obj))(s:Shared)(σ:St)(H:Hp)(x:V)(v:Value)(Q:VK),ao X pins σ H s->aG x v->r x H Q ->
  wpAny (model X.prog X.w) X.A (f v) (EP X pins σ Q) X.xe s
def fq (X:Cx)(f:Value)(r:List V->Hp->VK->Prop):Prop :=
 ∀ (pins:List (Addr×Obj))(s:Shared)(σ:St)(H:Hp)(xs:List V)(us:List Value)(Q:VK),ao X pins σ H s->aL xs us->r xs H Q ->
  wpAny (model X.prog X.w) X.A (call f us) (EP X pins σ Q) X.xe s
def Ah (r:R2)(ta tb:TE):TE:=fun σ H Q=>ta σ H fun x H1=>tb σ H1 fun y H2=>r x y H2 Q
def Br (r:V->Hp->VK->Prop)(ta:TE):TE:=fun σ H Q=>ta σ H fun x H1=>r x H1 Q
inductive RI (C:Int->Int->Prop) (g:Int->Int->V) (x y:V) (H:Hp) (Q:VK):Prop
 | mk (i j:Int) (e1:x=.int i) (e2:y=.int j) (c:C i j) (h:Q (g i j) H):RI C g x y H Q
def rI (C:Int->Int->Prop)(g:Int->Int->V):R2:=fun x y H Q=>RI C g x y H Q
inductive A2 (g:Int->Int->V) (x y:V) (H:Hp) (Q:VK):Prop
 | mk (i j:Int) (e1:x=.int i) (e2:y=.int j) (h:Q (g i j) H):A2 g x y H Q
def xS (g:Int->Int->V):R2:=fun x y H Q=>A2 g x y H Q
def rU (g:Int->V):V->Hp->VK->Prop:=fun x H Q=>∃ i,x=.int i/\Q (g i) H
section
variable {X:Cx}{a b c:Expr}{ta tb tc:TE}{pos:Pos}
theorem yg (ha:PE X a ta)(hb:PE X b tb){pins:List (Addr×Obj)}{s:Shared}{σ:St}{H:Hp}{R:V->V->Hp->Prop}(I:ao X pins σ H s)
  (h:ta σ H fun x H1=>tb σ H1 fun y H2=>R x y H2) {Q:Value->Shared->Prop} {f:Value->Value->Sem Value}
  (hf:∀ v u s2 x y H2,ao X pins σ H2 s2->aG x v->aG y u->R x y H2->wpAny (model X.prog X.w) X.A (f v u) Q X.xe s2) :
  wpAny (model X.prog X.w) X.A (eval a X.env) (fun v s₁=>wpAny (model X.prog X.w) X.A (eval b X.env) (fun u s₂=>wpAny (model X.prog X.w) X.A (f v u) Q X.xe s₂) X.xe s₁) X.xe s:=by
 refine aS (ha pins s σ H _ I h) fun v s1 ⟨x,H1,I1,r1,q1⟩=>?_;refine aS (hb pins s1 σ H1 _ I1 q1) fun u s2 ⟨y,H2,I2,r2,q2⟩=>?_;exact hf v u s2 x y H2 I2 r1 r2 q2
theorem aJ {op:Operator}{r:R2}(ho:ja X (binaryOp op) r)(ha:PE X a ta)(hb:PE X b tb):PE X (.BinOp a op b pos) (Ah r ta tb):=by
 intro pins s σ H Q I h;exact wpAny_BinOp (yg ha hb I h fun v u s2 x y H2 I2 rx ry q=>ho pins s2 σ H2 x y v u Q I2 rx ry q)
theorem vH {op:UnaryOp}{r:V->Hp->VK->Prop}(ho:Aq X (unaryOp op) r)(ha:PE X a ta):PE X (.UnaryOp op a pos) (Br r ta):=by
 intro pins s σ H Q I h;exact UnaryOp_ (aS (ha pins s σ H _ I h) fun v s1 ⟨x,H1,I1,r1,q1⟩=>ho pins s1 σ H1 x v Q I1 r1 q1)
theorem zI {f:Value->Value->Sem Value}{C:Int->Int->Prop}{g:Int->Int->Int}
  (rule:∀ (i j:Int)(t u:Tok)(s:Shared)(Q:Value->Shared->Prop)(E:Value->Shared->Prop),C i j->Q (.int (g i j) s.toks) { s with toks:=s.toks+1 }->wpAny (model X.prog X.w) X.A (f (.int i t) (.int j u)) Q E s) :
  ja X f (rI C fun i j=>.int (g i j)):=by
 intro pins s σ H x y v u Q I rx ry h;obtain⟨i,j,rfl,rfl,hc,q⟩:=h;obtain⟨t,rfl⟩:=rx;obtain⟨t',rfl⟩:=ry;exact rule i j t t' s _ _ hc ⟨.int (g i j),H,I.tok _,⟨_,rfl⟩,q⟩
theorem zJ {f:Value->Value->Sem Value}{g:Int->Int->Int}
  (rule:∀ (i j:Int)(t u:Tok)(s:Shared)(Q:Value->Shared->Prop)(E:Value->Shared->Prop),Q (.int (g i j) s.toks) { s with toks:=s.toks+1 }->wpAny (model X.prog X.w) X.A (f (.int i t) (.int j u)) Q E s) :
  ja X f (xS fun i j=>.int (g i j)):=by
 intro pins s σ H x y v u Q I rx ry h;obtain⟨i,j,rfl,rfl,q⟩:=h;obtain⟨t,rfl⟩:=rx;obtain⟨t',rfl⟩:=ry;exact rule i j t t' s _ _ ⟨.int (g i j),H,I.tok _,⟨_,rfl⟩,q⟩
theorem xk {f:Value->Value->Sem Value}{g:Int->Int->Bool}
  (rule:∀ (i j:Int)(t u:Tok)(s:Shared)(Q:Value->Shared->Prop)(E:Value->Shared->Prop),Q (.bool (g i j)) s->wpAny (model X.prog X.w) X.A (f (.int i t) (.int j u)) Q E s) :
  ja X f (xS fun i j=>.bl (g i j)):=by
 intro pins s σ H x y v u Q I rx ry h;obtain⟨i,j,rfl,rfl,q⟩:=h;obtain⟨t,rfl⟩:=rx;obtain⟨t',rfl⟩:=ry;exact rule i j t t' s _ _ ⟨.bl (g i j),H,I,rfl,q⟩
def Aj (i j:Int):Prop:=0<j/\j<1073741824
def Ak (i j:Int):Prop:=0<=j/\j<=1000000/\i.natAbs<2 ^ 64
def ya (i j:Int):Prop:=(-(2 ^ 64)<i/\i<2 ^ 64)\/(-(2 ^ 64)<j/\j<2 ^ 64)
theorem ya.ok {i j:Int}(h:ya i j):IntMulOk i j:=by
 rcases h with ⟨h1,h2⟩ | ⟨h1,h2⟩
 ·exact .of_left (intBits_le_64 h1 h2)
 ·exact .of_right (intBits_le_64 h1 h2)
theorem d5:ja X (binaryOp .Add) (xS fun i j=>.int (i+j)):=zJ fun _ _ _ _ _ _ _ q=>add_int q
theorem yF:ja X (binaryOp .Sub) (xS fun i j=>.int (i-j)):=zJ fun _ _ _ _ _ _ _ q=>sub_int q
theorem ly:ja X (binaryOp .Mult) (rI ya fun i j=>.int (i*j)):=zI fun _ _ _ _ _ _ _ hc q=>mul_int q hc.ok
theorem dP:ja X (binaryOp .FloorDiv) (rI Aj fun i j=>.int (i/j)):=zI fun i j _ _ _ _ _ hc q=>by
 have h1:(0:Int)<j:=hc.1;have h2:j<1073741824:=hc.2;exact floordiv_int (by omega) (by rw[Int.fdiv_eq_ediv_of_nonneg i (by omega)];exact q) (.inl (PyProof.noPylong_small (by omega)))
theorem bA:ja X (binaryOp .Mod) (rI (fun _ j=>0<j) fun i j=>.int (i%j)):=zI fun i j _ _ _ _ _ hc q=>by
 have h1:(0:Int)<j:=hc;exact mod_int' (by omega) (by rw[Int.fmod_eq_emod_of_nonneg i (by omega)];exact q)
theorem vt:ja X (binaryOp .Pow) (rI Ak fun i j=>.int (i ^ j.toNat)):=zI fun _ _ _ _ _ _ _ hc q=>pow_int_small hc.1 hc.2.1 hc.2.2 q
theorem Bs {f:Value->Sem Value}{g:Int->Int}
  (rule:∀ (i:Int)(t:Tok)(s:Shared)(Q:Value->Shared->Prop)(E:Value->Shared->Prop),Q (.int (g i) s.toks) { s with toks:=s.toks+1 }->wpAny (model X.prog X.w) X.A (f (.int i t)) Q E s) :
  Aq X f (rU fun i=>.int (g i)):=by
 intro pins s σ H x v Q I rx h;obtain⟨i,rfl,q⟩:=h;obtain⟨t,rfl⟩:=rx;exact rule i t s _ _ ⟨.int (g i),H,I.tok _,⟨_,rfl⟩,q⟩
theorem rJ:Aq X (unaryOp .USub) (rU fun i=>.int (-i)):=Bs fun _ _ _ _ _ q=>neg_int q
end
def zU:V->V->Bool
 | .non,.non=>true | .non,.int _=>true | .int _,.non=>true | .non,.bl _=>true | .bl _,.non=>true | .non,.str _=>true | .str _,.non=>true
 | .int _,.int _=>true | .bl _,.bl _=>true | .str _,.str _=>true | .byt _,.byt _=>true
 | .int _,.str _=>true | .str _,.int _=>true | .bl _,.str _=>true | .str _,.bl _=>true
 | _,_=>false
def Bk:R2:=fun x y H Q=>zU x y=true/\Q (.bl (decide (x=y))) H
def Bl:R2:=fun x y H Q=>zU x y=true/\Q (.bl (!decide (x=y))) H
theorem rQ {i j:Int}:decide (V.int i=V.int j)=(i == j):=by
 rw[Bool.eq_iff_iff];simp
theorem uN {i j:Bool}:decide (V.bl i=V.bl j)=(i == j):=by
 rw[Bool.eq_iff_iff];simp
theorem rR {i j:Str}:decide (V.str i=V.str j)=(i == j):=by
 rw[Bool.eq_iff_iff];simp
theorem rP {i j:Array UInt8}:decide (V.byt i=V.byt j)=(i.toList == j.toList):=by
 rw[Bool.eq_iff_iff];cases i;cases j;simp
section
variable {X:Cx}{a b c:Expr}{ta tb tc:TE}{pos:Pos}
theorem aR {pins:List (Addr×Obj)}{σ:St}{H:Hp}{s:Shared}{Q:VK}{k k':Bool}(I:ao X pins σ H s)(q:Q (.bl k) H)(e:k=k'):EP X pins σ Q (.bool k') s:=by
 subst e;exact⟨.bl k,H,I,rfl,q⟩
theorem bR:ja X (compareOp .Eq) Bk:=by
 intro pins s σ H x y v u Q I rx ry h;obtain⟨hs,q⟩:=h
 cases x with
 | non =>
  cases rx
  cases y with
  | non=>cases ry;exact PySem.EqNone.eq_none_none (aR I q (by simp))
  | bl j=>cases ry;exact PySem.EqNone.eq_none_bool (aR I q (by simp))
  | int j=>obtain⟨t',rfl⟩:=ry;exact PySem.EqNone.eq_none_int (aR I q (by simp))
  | str j=>obtain⟨t',rfl⟩:=ry;exact PySem.EqNone.eq_none_str (aR I q (by simp))
  | _=>exact absurd (show false=true from hs) BD
 | bl i =>
  cases rx
  cases y with
  | non=>cases ry;exact PySem.EqNone.eq_bool_none (aR I q (by simp))
  | bl j=>cases ry;exact eq_bool (aR I q uN)
  | str j=>obtain⟨t',rfl⟩:=ry;exact PySem.EqMixed.eq_bool_str (aR I q (by simp))
  | _=>exact absurd (show false=true from hs) BD
 | int i =>
  obtain⟨t,rfl⟩:=rx
  cases y with
  | non=>cases ry;exact PySem.EqNone.eq_int_none (aR I q (by simp))
  | int j=>obtain⟨t',rfl⟩:=ry;exact eq_int (aR I q rQ)
  | str j=>obtain⟨t',rfl⟩:=ry;exact PySem.EqMixed.eq_int_str (aR I q (by simp))
  | _=>exact absurd (show false=true from hs) BD
 | str i =>
  obtain⟨t,rfl⟩:=rx
  cases y with
  | non=>cases ry;exact PySem.EqNone.eq_str_none (aR I q (by simp))
  | bl j=>cases ry;exact PySem.EqMixed.eq_str_bool (aR I q (by simp))
  | int j=>obtain⟨t',rfl⟩:=ry;exact PySem.EqMixed.eq_str_int (aR I q (by simp))
  | str j=>obtain⟨t',rfl⟩:=ry;exact eq_str (aR I q rR)
  | _=>exact absurd (show false=true from hs) BD
 | byt i =>
  obtain⟨t,rfl⟩:=rx
  cases y with
  | byt j=>obtain⟨t',rfl⟩:=ry;exact PySem.W.eq_bytes (aR I q rP)
  | _=>exact absurd (show false=true from hs) BD
 | _=>cases y<;>exact absurd (show false=true from hs) BD
theorem iC:ja X (compareOp .NotEq) Bl:=by
 intro pins s σ H x y v u Q I rx ry h;obtain⟨hs,q⟩:=h
 cases x with
 | non =>
  cases rx
  cases y with
  | non=>cases ry;exact PySem.EqNone.ne_none_none (aR I q (by simp))
  | bl j=>cases ry;exact PySem.EqNone.ne_none_bool (aR I q (by simp))
  | int j=>obtain⟨t',rfl⟩:=ry;exact PySem.EqNone.ne_none_int (aR I q (by simp))
  | str j=>obtain⟨t',rfl⟩:=ry;exact PySem.EqNone.ne_none_str (aR I q (by simp))
  | _=>exact absurd (show false=true from hs) BD
 | bl i =>
  cases rx
  cases y with
  | non=>cases ry;exact PySem.EqNone.ne_bool_none (aR I q (by simp))
  | bl j=>cases ry;exact ne_bool (aR I q (CV not uN))
  | str j=>obtain⟨t',rfl⟩:=ry;exact PySem.EqMixed.ne_bool_str (aR I q (by simp))
  | _=>exact absurd (show false=true from hs) BD
 | int i =>
  obtain⟨t,rfl⟩:=rx
  cases y with
  | non=>cases ry;exact PySem.EqNone.ne_int_none (aR I q (by simp))
  | int j=>obtain⟨t',rfl⟩:=ry;exact ne_int (aR I q (CV not rQ))
  | str j=>obtain⟨t',rfl⟩:=ry;exact PySem.EqMixed.ne_int_str (aR I q (by simp))
  | _=>exact absurd (show false=true from hs) BD
 | str i =>
  obtain⟨t,rfl⟩:=rx
  cases y with
  | non=>cases ry;exact PySem.EqNone.ne_str_none (aR I q (by simp))
  | bl j=>cases ry;exact PySem.EqMixed.ne_str_bool (aR I q (by simp))
  | int j=>obtain⟨t',rfl⟩:=ry;exact PySem.EqMixed.ne_str_int (aR I q (by simp))
  | str j=>obtain⟨t',rfl⟩:=ry;exact ne_str (aR I q (CV not rR))
  | _=>exact absurd (show false=true from hs) BD
 | byt i =>
  obtain⟨t,rfl⟩:=rx
  cases y with
  | byt j=>obtain⟨t',rfl⟩:=ry;exact PySem.W.ne_bytes (aR I q (CV not rP))
  | _=>exact absurd (show false=true from hs) BD
 | _=>cases y<;>exact absurd (show false=true from hs) BD
theorem pZ:ja X (compareOp .Lt) (xS fun i j=>.bl (decide (i<j))):=xk fun _ _ _ _ _ _ _ q=>lt_int q
theorem xQ:ja X (compareOp .LtE) (xS fun i j=>.bl (decide (i<=j))):=xk fun _ _ _ _ _ _ _ q=>le_int q
theorem zL:ja X (compareOp .Gt) (xS fun i j=>.bl (decide (j<i))):=xk fun _ _ _ _ _ _ _ q=>gt_int q
theorem zK:ja X (compareOp .GtE) (xS fun i j=>.bl (decide (j<=i))):=xk fun _ _ _ _ _ _ _ q=>ge_int q
theorem ui:ja X (compareOp .In) (fun x y H Q=>∃ i j,x=.str i/\y=.str j/\Q (.bl (!(Builtin.Str.occurrences j i 0 j.length 1).isEmpty)) H):=by
 intro pins s σ H x y v u Q I rx ry h;obtain⟨i,j,rfl,rfl,q⟩:=h;obtain⟨t,rfl⟩:=rx;obtain⟨t',rfl⟩:=ry;exact in_str (aR I q rfl)
theorem aB (b:Expr){op:CmpOp}(h:op≠.In:=by decide)(h2:op≠.NotIn:=by decide):behindInMarks op b=false:=by
 have e1:(op == CmpOp.In)=false:=by cases op<;>first | rfl | exact absurd rfl h
 have e2:(op == CmpOp.NotIn)=false:=by cases op<;>first | rfl | exact absurd rfl h2
 cases b<;>simp[behindInMarks,e1,e2]
theorem oQ {op:CmpOp}{r:R2}(ho:ja X (compareOp op) r)(ha:PE X a ta)(hb:PE X b tb)(hm:behindInMarks op b=false):PE X (.Compare a [op] [b] pos) (Ah r ta tb):=by
 intro pins s σ H Q I h;exact wpAny_Compare1 (yg ha hb I h fun v u s2 x y H2 I2 rx ry q=>ho pins s2 σ H2 x y v u Q I2 rx ry q) hm
def xW (t:TE):TT:=fun σ H Q=>t σ H fun x H'=>Ap Q x H'
theorem ar {op:CmpOp}{r:R2}(ho:ja X (compareOp op) r)(ha:PE X a ta)(hb:PE X b tb)(hm:behindInMarks op b=false):PT X (.Compare a [op] [b] pos) (xW (Ah r ta tb)):=by
 intro pins s σ H Q I h
 refine wpAny_isTrue_Compare1 (aS (ha pins s σ H _ I h) fun v s1 ⟨x,H1,I1,r1,q1⟩=>aS (hb pins s1 σ H1 _ I1 q1) fun u s2 ⟨y,H2,I2,r2,q2⟩ =>
  aS (ho pins s2 σ H2 x y v u _ I2 r1 r2 q2) fun c s3 ⟨z,H3,I3,r3,k,e,q3⟩=>?_) hm
 subst e;cases r3;exact CL ⟨H3,I3,q3⟩
def yR (r r':R2)(ta tb tc:TE):TE:=fun σ H Q=>ta σ H fun x H1=>tb σ H1 fun y H2=>r x y H2 fun z H3=>∃ k,z=.bl k /\
 (if k=true then tc σ H3 fun w' H4=>r' y w' H4 Q else Q (.bl false) H3)
theorem vP {op op':CmpOp}{r r':R2}(ho:ja X (compareOp op) r)(ho':ja X (compareOp op') r')(ha:PE X a ta)(hb:PE X b tb)(hc:PE X c tc)
  (hm:lastMarks [op,op'] [b,c]=false:=by with_unfolding_all rfl):PT X (.Compare a [op,op'] [b,c] pos) (xW (yR r r' ta tb tc)):=by
 intro pins s σ H Q I h
 refine isTrue_chain (aS (ha pins s σ H _ I h) fun v s1 ⟨x,H1,I1,r1,q1⟩=>test_link (aS (hb pins s1 σ H1 _ I1 q1) fun u s2 ⟨y,H2,I2,r2,q2⟩ =>
  aS (ho pins s2 σ H2 x y v u _ I2 r1 r2 q2) fun d s3 ⟨z,H3,I3,r3,k,e,q3⟩=>?_)) hm
 subst e;cases r3;refine CL ?_
 cases k with
 | false =>
  obtain⟨k',e',q'⟩:=q3;cases e';exact ite_ff ⟨H3,I3,q'⟩
 | true =>
  refine ite_tt (test_last (aS (hc pins s3 σ H3 _ I3 q3) fun w' s4 ⟨z',H4,I4,r4,q4⟩=>aS (ho' pins s4 σ H4 y z' u w' _ I4 r2 r4 q4) fun d' s5 ⟨z2,H5,I5,r5,k2,e2,q5⟩=>?_));subst e2;cases r5;exact CL ⟨H5,I5,q5⟩
theorem kS:(sizeLine:Nat)<2 ^ 63:=by rw[Cv];decide
theorem re:ja X (binaryOp .Add) (fun x y H Q=>∃ i j,x=.str i/\y=.str j/\i.length+j.length<=sizeLine/\Q (.str (i++j)) H):=by
 intro pins s σ H x y v u Q I rx ry h;obtain⟨i,j,rfl,rfl,hz,q⟩:=h;obtain⟨t,rfl⟩:=rx;obtain⟨t',rfl⟩:=ry;exact add_str (fun t' tk=>⟨.str (i++j),H,I.tok _,⟨_,rfl⟩,q⟩) hz
theorem dM {x:V}{us:List Value}(r:aL [x] us):∃ u,us=[u]/\aG x u:=by
 cases r with
 | cons r1 r2=>cases r2;exact⟨_,rfl,r1⟩
end
structure qp (h:Heap)(x dx C:Addr)(mA:Str->Option Value):Prop where
 obj:h.get? x=some (PySem.W.instObj C dx)
 ns:h.Ns1 dx mA
 ne:dx≠x
theorem ng {h:Heap}{dx:Addr}{mA:Str->Option Value}(n:h.Ns1 dx mA):∃ od,h.get? dx=some od/\∀ name,PySem.W.lookIn name od=some (mA name):=by
 obtain⟨o,es,ep,ho,hd,hk,_,hm⟩:=n;refine⟨o,ho,fun name=>?_⟩;have e:=hm name;unfold nsFind findBy at e;rw[<-Array.find?_toList]at e;unfold PySem.W.lookIn;rw[hd];dsimp only;split
 ·rename_i y q
  rw[q]at e;exact CV some e
 ·rename_i q
  rw[q]at e
  have a:es.toList.any (·.refKey)=false:=by
   rw[List.any_eq_false];intro y hy;obtain⟨z,t,hkey⟩:=hk y (Array.mem_toList_iff.mp hy);simp[DictEntry.refKey,hkey]
  have a':¬ es.toList.any (·.refKey)=true:=by rw[a];exact BD
  rw[By a'];exact CV some e
theorem qp.look {h:Heap}{x dx C:Addr}{mA:Str->Option Value}(I:qp h x dx C mA):∃ od,PySem.W.InstAt h x (PySem.W.instObj C dx) C (some od)/\∀ name,PySem.W.lookIn name od=some (mA name) :=
 let ⟨od,ho,hl⟩:=ng I.ns
 ⟨od,⟨I.obj,rfl,rfl,ho⟩,hl⟩
section
variable {prog:Program}{w:World}{A:Around}{E:Value->Shared->Prop}{s:Shared}{K:PySem.W.Frag}{x dx C f:Addr}{mA:Str->Option Value}{name:Str}{v:Value}
theorem wT {expr:Bool}{Q:Value->Shared->Prop}(X:K.In s.heap)(I:qp s.heap x dx C mA)(hg:PySem.W.plainGet K C name=true)(hh:PySem.W.hasDictIn K C=true)
  (ha:PySem.W.findIn K (.ref C) name=some none) (hv:mA name=some v) (hv':PySem.W.handedIn v=true) (h:Q v { s with toks:=s.toks+1 }) :
  wpAny (model prog w) A (getAttr (.ref x) name expr) Q E s:=by
 obtain⟨od,J,hl⟩:=I.look;exact PySem.W.get_value X J (PySem.W.plainGet_of hg).1 (PySem.W.findObj_own hh ha rfl (by rw[hl,hv])) hv' h
theorem u5 {pl:Sem Bool}{Q:Value×List Value->Shared->Prop}(X:K.In s.heap)(I:qp s.heap x dx C mA)(hg:PySem.W.plainGet K C name=true)
  (hf:PySem.W.findIn K (.ref C) name=some (some (.ref f))) (ht:PySem.W.isFn K (.ref f)=true) (hv:mA name=none) (h:Q (.ref f,[.ref x]) s) :
  wpAny (model prog w) A (getMethod (.ref x) name pl) Q E s:=by
 obtain⟨od,J,hl⟩:=I.look;exact PySem.W.method_fn X J (PySem.W.plainGet_of hg).1 (PySem.W.plainGet_of hg).2 hf (C4.mp ht) (by show (PySem.W.lookIn name od).map (·.isSome)=some false;rw[hl,hv];rfl) h
theorem xx {ns:List Str}{Q:Unit->Shared->Prop}(X:K.In s.heap)(I:qp s.heap x dx C mA)
  (hs:PySem.W.findIn K (.ref C) "__setattr__" = some (some (.builtin "object.__setattr__"))) (hp:PySem.W.plainOver K C=true) (ht:PySem.W.takerIn K C name=some none) (hh:PySem.W.hasDictIn K C=true)
  (hw:PySem.Within mA ns) (hsz:ns.length<=sizeLine)
  (h:∀ h',qp h' x dx C (fun y=>if y=name then some v else mA y)->Heap.SameBut dx s.heap h'->Q () { s with heap:=h',toks:=s.toks+2 }) :
  wpAny (model prog w) A (setAttr (.ref x) name v) Q E s:=by
 obtain⟨od,J,hl⟩:=I.look;refine PySem.W.set_plain X J hs (PySem.W.osa_open (s:={ s with toks:=s.toks+1 }) (r:=none) X J hp ht fun b=>?_);obtain⟨cd,hc,hd'⟩:=PySem.W.any_some hh;have hx:s.heap.get? x=some ⟨.ref C,some dx,.plain,#[]⟩:=I.obj;refine Bw (BA (Bw (Bw (wpAny_loadPart hx (Bw (PySem.W.Looks.here (s:={ s with toks:=s.toks+1 }) (PySem.W.looks_clsIn X hc) ?_))))));rw[hd'];refine BA (a:=some dx) (Bw (BA (Bw ?_)));refine wpAny_nsSet1 (s:={ s with toks:=s.toks+1 }) I.ns fun h' hn2 hs2=>?_;obtain⟨oD,esD,epD,hoD,hdD,hcD⟩:=hn2.count (PySem.Within.cons name v hw);refine Bw (wpAny_lookBehind hoD (by rw[hdD];exact pastItsLine_dict (B6 hcD (by rw[BU];omega))) ?_);exact BA (h _ ⟨(hs2.2 _ (BL I.ne)).trans I.obj,hn2,I.ne⟩ hs2)
theorem vf {R:Result->Shared->Prop}{vs:List Value}{kw:List (Str×Value)}(X:K.In s.heap)(hm:PySem.W.makesIn K C=true)
  (hi:PySem.W.findIn K (.ref C) "__init__" = some (some (.ref f))) (hf:PySem.W.typeIn K (.ref f)=some (.type "function"))
  (h:codeAny (model prog w) (A.under (.builtin "type.__call__" ⟨.ref C::vs,kw⟩)) (.call (.ref f) ⟨.ref (s.heap.objs.size+1)::vs,kw⟩) (PySem.W.InitBack (s.heap.objs.size+1) R)
   { s with heap:=(s.heap.push PySem.W.emptyDict).push (PySem.W.instObj C s.heap.objs.size) }) :
  codeAny (model prog w) A (.call (.ref C) ⟨vs,kw⟩) R s:=by
 obtain⟨hh,g,d,t,os⟩:=s;exact PySem.W.make_core (PySem.W.makes_of X hm) (PySem.W.looks_findIn X hi) (fun self=>PySem.W.bind_fn X self hf) (.inl rfl) h
end
def eO (f:Str)(v:V):List (Str×V)->List (Str×V)
 | []=>[(f,v)]
 | (g,x)::r=>if g=f then (g,v)::r else (g,x)::eO f v r
theorem aI (f g:Str)(v:V):∀ fs:List (Str×V),(eO f v fs).lookup g=if g=f then some v else fs.lookup g
 | []=>by
  show List.lookup g [(f,v)]=_
  by_cases h:g=f
  ·have hb:(g == f)=true:=C4.mpr h
   simp only[List.lookup,hb,Bz h]
  ·have hb:(g == f)=false:=Cz.mpr h
   simp only[List.lookup,hb,By h]
 | (k,x)::r=>by
  have ih:=aI f g v r;rw[show eO f v ((k,x)::r)=(if k=f then (k,v)::r else (k,x)::eO f v r) from rfl]
  by_cases hk:k=f
  ·rw[Bz hk]
   by_cases h:g=k
   ·have hb:(g == k)=true:=C4.mpr h
    simp only[List.lookup,hb,Bz (h.trans hk)]
   ·have hb:(g == k)=false:=Cz.mpr h
    simp only[List.lookup,hb,By (fun e:g=f=>h (e.trans hk.symm))]
  ·rw[By hk]
   by_cases h:g=k
   ·have hb:(g == k)=true:=C4.mpr h
    simp only[List.lookup,hb,By (fun e:g=f=>hk (h.symm.trans e))]
   ·have hb:(g == k)=false:=Cz.mpr h
    simp only[List.lookup,hb];exact ih
theorem ji (f:Str)(v:V):∀ fs:List (Str×V),f∈(eO f v fs).map (·.1)/\∀ g,g∈fs.map (·.1)->g∈(eO f v fs).map (·.1)
 | []=>⟨by simp[eO],fun g h=>by simp at h⟩
 | (k,x)::r=>by
  obtain⟨i1,i2⟩:=ji f v r;rw[show eO f v ((k,x)::r)=(if k=f then (k,v)::r else (k,x)::eO f v r) from rfl]
  by_cases hk:k=f
  ·rw[Bz hk]
   subst hk;exact⟨by simp,fun g h=>by simpa using h⟩
  ·rw[By hk]
   refine⟨?_,fun g h=>?_⟩
   ·rw[BO]
    exact BC _ i1
   ·rw[BO]at h ⊢
    rcases BH.mp h with e | e
    ·exact BH.mpr (.inl e)
    ·exact BC _ (i2 g e)
theorem jS (f:Str)(v:V):∀ fs:List (Str×V),(eO f v fs).length<=fs.length+1
 | []=>by simp[eO]
 | (k,x)::r=>by
  have ih:=jS f v r;rw[show eO f v ((k,x)::r)=(if k=f then (k,v)::r else (k,x)::eO f v r) from rfl]
  by_cases hk:k=f
  ·rw[Bz hk,BU,BU];omega
  ·rw[By hk,BU,BU];omega
theorem d4.some_of {v:V}{o:Option Value}(r:d4 (some v) o):∃ u,o=some u/\aG v u:=by
 cases o with
 | none=>exact (show False from r).elim
 | some u=>exact⟨u,rfl,r⟩
theorem d4.none_of {o:Option Value}(r:d4 none o):o=none:=by
 cases o with
 | none=>rfl
 | some u=>exact (show False from r).elim
theorem mZ {v:V}{u:Value}(r:aG v u):PySem.W.handedIn u=true:=by
 cases v with
 | non=>cases (show u=Value.none from r);rfl
 | bl b=>cases (show u=Value.bool b from r);rfl
 | int i=>obtain⟨t,e⟩:=(show ∃ t,u=Value.int i t from r);cases e;rfl
 | str x=>obtain⟨t,e⟩:=(show ∃ t,u=Value.str x t from r);cases e;rfl
 | byt b=>obtain⟨t,e⟩:=(show ∃ t,u=Value.bytes b t from r);cases e;rfl
 | flt b=>obtain⟨t,e⟩:=(show ∃ t,u=Value.float b t from r);cases e;rfl
 | ref a=>cases (show u=Value.ref a from r);rfl
 | ty n=>cases (show u=Value.type n from r);rfl
section
variable {P:Program}{w:World}{H H':Hp}{h h':Heap}{a C dx:Addr}{fs fs':List (Str×V)}
theorem kh (hok:fD P w H h)(e:H a=some (.ins C dx fs)):∃ mA,qp h a dx C mA/\(∀ f,d4 (fs.lookup f) (mA f))/\PySem.Within mA (fs.map (·.1))/\fs.length<=1000/\H dx=some (.own a):=by
 obtain⟨d,z,ne,ob,mA,n,r,q⟩:=(show aM P w H h a (.ins C dx fs) from hok a _ e);exact⟨mA,⟨ob,n,ne⟩,r,q,z,d⟩
end
structure ti (K:PySem.W.Frag)(C:Addr):Prop where
 pg:PySem.W.plainGet K C Str.empty=true
 hd:PySem.W.hasDictIn K C=true
 po:PySem.W.plainOver K C=true
 sa:PySem.W.findIn K (.ref C) "__setattr__" = some (some (.builtin "object.__setattr__"))
theorem ti.get {K:PySem.W.Frag}{C:Addr}(c:ti K C)(f:Str):PySem.W.plainGet K C f=true:=c.pg
def dY (K:PySem.W.Frag)(C:Addr)(f:Str):Prop:=PySem.W.findIn K (.ref C) f=some none
theorem dY.taker {K:PySem.W.Frag}{C:Addr}{f:Str}(n:dY K C f):PySem.W.takerIn K C f=some none:=by
 unfold PySem.W.takerIn;rw[show PySem.W.findIn K (.ref C) f=some none from n];rfl
structure wz (K:PySem.W.Frag)(C:Addr)(m:Str)(f:Addr):Prop where
 at_:PySem.W.findIn K (.ref C) m=some (some (.ref f))
 fn:PySem.W.isFn K (.ref f)=true
 kp:PySem.W.keepIn K (.ref f)=true
section
variable {X:Cx}{pins:List (Addr×Obj)}{σ:St}{H:Hp}{s:Shared}{a C dx:Addr}{fs:List (Str×V)}{f:Str}{v:V}{A:Around}{E:Value->Shared->Prop}
theorem qC {b:Bool}{Q:Value->Shared->Prop}(I:ao X pins σ H s)(e:H a=some (.ins C dx fs))(c:ti X.K C)(n:dY X.K C f)(l:fs.lookup f=some v)
  (h:∀ u s',ao X pins σ H s'->aG v u->Q u s'):wpAny (model X.prog X.w) A (getAttr (.ref a) f b) Q E s:=by
 obtain⟨mA,O,r,_,_,_⟩:=kh I.hok e;obtain⟨u,hu,ru⟩:=d4.some_of (v:=v) (o:=mA f) (by rw[<-l];exact r f);exact wT I.kIn O (c.get f) c.hd n hu (mZ ru) (h u _ (I.tok _) ru)
theorem kN {m:Str}{g:Addr}{pl:Sem Bool}{Q:Value×List Value->Shared->Prop}(I:ao X pins σ H s)(e:H a=some (.ins C dx fs))(c:ti X.K C)(k:wz X.K C m g)(l:fs.lookup m=none)
  (h:Q (.ref g,[.ref a]) s):wpAny (model X.prog X.w) A (getMethod (.ref a) m pl) Q E s:=by
 obtain⟨mA,O,r,_,_,_⟩:=kh I.hok e;have hn:mA m=none:=d4.none_of (by rw[<-l];exact r m);exact u5 I.kIn O (c.get m) k.at_ k.fn hn h
theorem ro {y:V}{u:Value}{Q:Unit->Shared->Prop}(I:ao X pins σ H s)(e:H a=some (.ins C dx fs))(c:ti X.K C)(n:dY X.K C f)(hl:fs.length<1000)(ry:aG y u)
  (h:∀ s',ao X pins σ (upd H a (.ins C dx (eO f y fs))) s'->Q () s'):wpAny (model X.prog X.w) A (setAttr (.ref a) f u) Q E s:=by
 obtain⟨mA,O,r,wi,_,ho⟩:=kh I.hok e
 have hz:(fs.map (·.1)).length<=sizeLine:=by rw[Bx,Cv];omega
 refine xx I.kIn O c.sa c.po n.taker c.hd wi hz fun h' O' sb=>h _ ?_;have hd:∃ o,h'.get? dx=some o:=let ⟨o,_,_,e',_⟩:=O'.ns;⟨o,e'⟩;refine I.write (x:=a) (e:=dx) (by rw[e];exact True.intro) (.inr ho) (fun b q hb z=>(sb.2 b hb).trans z) hd ?_;refine⟨by rw[ac O.ne];exact ho,?_,O.ne,O'.obj,_,O'.ns,fun g=>?_,fun g hg=>?_⟩
 ·have:=jS f y fs;omega
 ·show d4 ((eO f y fs).lookup g) (if g=f then some u else mA g)
  rw[aI]
  by_cases q:g=f
  ·rw[Bz q,Bz q];exact ry
  ·rw[By q,By q];exact r g
 ·by_cases q:g=f
  ·rw[q];exact (ji f y fs).1
  ·refine (ji f y fs).2 g (wi g fun z=>hg ?_)
   show (if g=f then some u else mA g)=none
   rw[By q];exact z
theorem ao.made (I:ao X pins σ H s):ao X pins σ (upd (upd H s.heap.objs.size (.own (s.heap.objs.size+1))) (s.heap.objs.size+1) (.ins C s.heap.objs.size []))
  { s with heap:=(s.heap.push PySem.W.emptyDict).push (PySem.W.instObj C s.heap.objs.size) }:=by
 have e1:(s.heap.push PySem.W.emptyDict).get? s.heap.objs.size=some PySem.W.emptyDict:=Heap.get?_push_size s.heap rfl
 have e2:((s.heap.push PySem.W.emptyDict).push (PySem.W.instObj C s.heap.objs.size)).get? (s.heap.objs.size+1)=some (PySem.W.instObj C s.heap.objs.size):=by
  have:=Heap.get?_push_size (s.heap.push PySem.W.emptyDict) (o:=PySem.W.instObj C s.heap.objs.size) rfl
  rwa [CZ]at this
 have e3:(s.heap.push PySem.W.emptyDict).Ns s.heap.objs.size (fun _=>none):=⟨PySem.W.emptyDict,#[],_,e1,rfl,(fun e he=>absurd he (by simp)),fun _=>rfl⟩;have I1:=I.laid (a:=s.heap.objs.size) (o:=.own (s.heap.objs.size+1)) (h':=s.heap.push PySem.W.emptyDict) (t':=s.toks) (fun b u q=>Heap.get?_push_of_some _ q) (BB _) ⟨_,e1⟩;refine I1.laid (a:=s.heap.objs.size+1) (o:=.ins C s.heap.objs.size []) (t':=s.toks) (fun b u q=>Heap.get?_push_of_some _ q) (Nat.le_of_eq (CZ _ _)) ?_;have ne:s.heap.objs.size≠s.heap.objs.size+1:=BJ (Nat.lt_succ_self _);refine⟨by rw[ac ne,ae],BY _,ne,e2,fun _=>none,(Heap.Ns1.of_empty e3).at fun o q=>Heap.get?_push_of_some _ q,fun _=>True.intro,fun y hy=>absurd rfl hy⟩
theorem rM {prog:Program}{w:World}{env:Env}{e:Expr}{f:Str}{pos:Pos}{s:Shared}{Q:Value->Shared->Prop}(hb:attributeBase e f env (eval e env)=eval e env)
  (h:wpAny (model prog w) A (eval e env) (fun o s₁=>wpAny (model prog w) A (getAttr o f true) Q E s₁) E s):wpAny (model prog w) A (eval (.Attribute e f pos) env) Q E s :=
 Attribute_any_ h (by rw[arm_eval_Attribute,hb])
end
inductive A6 (K:PySem.W.Frag) (f:Str) (Q:VK) (x:V) (H:Hp):Prop
 | mk (a C dx:Addr) (fs:List (Str×V)) (v:V) (e:x=.ref a) (o:H a=some (.ins C dx fs)) (c:ti K C) (n:dY K C f) (l:fs.lookup f=some v) (h:Q v H):A6 K f Q x H
def AQ (K:PySem.W.Frag)(ta:TE)(f:Str):TE:=fun σ H Q=>ta σ H fun x H1=>A6 K f Q x H1
def AL (K:PySem.W.Frag)(ta tv:TE)(f:Str):TS:=fun D σ H=>tv σ H fun y H1=>ta σ H1 fun x H2=>∃ a C dx fs,x=.ref a/\H2 a=some (.ins C dx fs)/\ti K C/\dY K C f/\fs.length<1000 /\
 D.nx σ (upd H2 a (.ins C dx (eO f y fs)))
section
variable {X:Cx}{o e value:Expr}{f:Str}{pos pos' tpos:Pos}{ta tv:TE}
theorem bB (he:PE X e ta)(hb:attributeBase e f X.env (eval e X.env)=eval e X.env):PE X (.Attribute e f pos) (AQ X.K ta f):=by
 intro pins s σ H Q I h;refine rM hb (aS (he pins s σ H _ I h) fun u s1 ⟨x,H1,I1,rx,a,C,dx,fs,v,ex,ea,c,n,l,q⟩=>?_);subst ex;obtain rfl:u=Value.ref a:=rx;exact qC I1 ea c n l fun u' s2 I2 ru=>⟨v,H1,I2,ru,q⟩
theorem oV (ha:PE X o ta)(hv:PE X value tv)(hs:swapsWith value (some (.Attribute o f pos')) pos.line X.env=pure false):PS X (.Assign [.Attribute o f pos'] value pos) (AL X.K ta tv f):=by
 intro pins s σ H D I h;refine plainObj_wpAny_Assign_Attribute (aS (hv pins s σ H _ I h) fun u s1 ⟨y,H1,I1,ry,q⟩=>aS (ha pins s1 σ H1 _ I1 q) fun ov s2 ⟨x,H2,I2,rx,a,C,dx,fs,ex,ea,c,n,l,q2⟩=>?_) hs;subst ex;obtain rfl:ov=Value.ref a:=rx;exact ro I2 ea c n l ry fun s3 I3=>⟨σ,_,I3,q2⟩
end
section
variable {X:Cx}{pins:List (Addr×Obj)}{σ:St}{H:Hp}{s:Shared}{A:Around}{E:Value->Shared->Prop}{Q:Value->Shared->Prop}{c:Value}{b:Bool}
inductive iq (K:PySem.W.Frag) (H:Hp):V->Value->Prop where
 | non:iq K H .non (.type "NoneType")
 | bl (x:Bool):iq K H (.bl x) (.type "bool")
 | int (i:Int):iq K H (.int i) (.type "int")
 | str (x:Str):iq K H (.str x) (.type "str")
 | flt (x:UInt64):iq K H (.flt x) (.type "float")
 | lst {a:Addr} {xs:List V} (e:H a=some (.lst xs)):iq K H (.ref a) (.type "list")
 | frz {a:Addr} {o:Obj} {xs:List V} (e:H a=some (.frz o (.lst xs))):iq K H (.ref a) (.type "list")
 | tup {a:Addr} {xs:List V} (e:H a=some (.tup xs)):iq K H (.ref a) (.type "tuple")
 | dK {a:Addr} {kvs:List (bv×V)} (e:H a=some (.dK kvs)):iq K H (.ref a) (.type "dict")
 | dT {a:Addr} {kvs:List (List bv×V)} (e:H a=some (.dT kvs)):iq K H (.ref a) (.type "dict")
 | ins {a C dx:Addr} {fs:List (Str×V)} (e:H a=some (.ins C dx fs)) (cl:ti K C) (ha:PySem.W.findIn K (.ref C) "__class__" = some (some (.builtin "object.__class__")))
   (hn:PySem.W.specialIn K (.builtin "object.__class__") "__get__" = some (some (.builtin "getset_descriptor.__get__"))) (htk:PySem.W.takesIn K (.builtin "object.__class__")=some true)
   (hm:PySem.W.mroIn K C (.type "object")=some true):iq K H (.ref a) (.ref C)
theorem tQ {x:V}{u t:Value}(I:ao X pins σ H s)(rx:aG x u)(ty:iq X.K H x t)(e:PySem.W.kitOne X.K t c=some b)(h:∀ tk,Q (.bool b) { s with toks:=tk }) :
  wpAny (model X.prog X.w) A (call (.builtin "isinstance") [u,c]) Q E s:=by
 cases ty with
 | non=>cases (show u=Value.none from rx);exact Cm PySem.W.kitx_none I.kIn True.intro e (fun z=>nomatch z) h
 | bl y=>cases (show u=Value.bool y from rx);exact Cm PySem.W.kitx_bool I.kIn True.intro e (fun z=>nomatch z) h
 | int i=>obtain⟨t,q⟩:=(show ∃ t,u=Value.int i t from rx);cases q;exact Cm PySem.W.kitx_int I.kIn True.intro e (fun z=>nomatch z) h
 | str y=>obtain⟨t,q⟩:=(show ∃ t,u=Value.str y t from rx);cases q;exact Cm PySem.W.kitx_str I.kIn True.intro e (fun z=>nomatch z) h
 | flt y=>obtain⟨t,q⟩:=(show ∃ t,u=Value.float y t from rx);cases q;exact Cm PySem.W.kitx_float I.kIn True.intro e (fun z=>nomatch z) h
 | @lst a xs ea =>
  cases (show u=Value.ref a from rx);obtain⟨_,_,n,_,h1⟩:=(show aM X.prog X.w H s.heap a (.lst xs) from I.hok a _ ea);exact Cm PySem.W.kitx_list I.kIn ⟨_,h1,rfl⟩ e (fun z=>nomatch z) h
 | @frz a ob xs ea =>
  cases (show u=Value.ref a from rx);obtain⟨_,_,_,n,_,h1⟩:=(show aM X.prog X.w H s.heap a (.frz ob (.lst xs)) from I.hok a _ ea);exact Cm PySem.W.kitx_list I.kIn ⟨_,h1,rfl⟩ e (fun z=>nomatch z) h
 | @tup a xs ea =>
  cases (show u=Value.ref a from rx);obtain⟨_,_,_,p⟩:=(show aM X.prog X.w H s.heap a (.tup xs) from I.hok a _ ea);obtain⟨o,h1,h2,_⟩:=p;exact Cm PySem.W.kitx_tuple I.kIn ⟨o,h1,h2⟩ e (fun z=>nomatch z) h
 | @dK a kvs ea =>
  cases (show u=Value.ref a from rx);obtain⟨_,_,vs,_,p⟩:=(show aM X.prog X.w H s.heap a (.dK kvs) from I.hok a _ ea);obtain⟨o,es,ep,h1,h2,_⟩:=p;exact Cm PySem.W.kitx_dict I.kIn ⟨o,h1,h2.1⟩ e (fun z=>nomatch z) h
 | @dT a kvs ea =>
  cases (show u=Value.ref a from rx);obtain⟨_,_,xs,_,o,es,ep,h1,h2,_⟩:=(show aM X.prog X.w H s.heap a (.dT kvs) from I.hok a _ ea);exact Cm PySem.W.kitx_dict I.kIn ⟨o,h1,h2.1⟩ e (fun z=>nomatch z) h
 | @ins a C dx fs ea cl ha hn htk hm =>
  cases (show u=Value.ref a from rx);obtain⟨mA,O,_⟩:=kh I.hok ea;obtain⟨od,J,_⟩:=O.look;exact Cm (PySem.W.kitx_own (cl.get _) cl.hd ha hn htk hm) I.kIn J e (fun z=>nomatch z) h
end
structure bC (k:Nat)(A:Around):Prop where
 hd:A.handled=none
 dp:A.depth+3*k+5<recursionLimit
 un:A.units+16*k+200<cLine
theorem bC.mono {j k:Nat}{A:Around}(r:bC k A)(h:j<=k):bC j A:=⟨r.hd,by have:=r.dp;omega,by have:=r.un;omega⟩
theorem bC.deeper {k:Nat}{A:Around}(r:bC (k+1) A)(env:Env):bC k (A.deeper env) :=
 ⟨r.hd,by have:=r.dp;show A.depth+1+3*k+5<_;omega,by have:=r.un;show A.units+3+16*k+200<_;omega⟩
theorem qO {A:Around}{C:Addr}{us:List Value}{kw:List (Str×Value)}:(A.under (.builtin "type.__call__" ⟨.ref C::us,kw⟩)).depth=A.depth+1:=by
 first | rfl | simp[Around.under,Code.weight,Code.isCreation,Code.isGuard,Code.isCaller,Code.frames,Code.isFrame,guardIds]
theorem qP {A:Around}{C:Addr}{us:List Value}{kw:List (Str×Value)}:(A.under (.builtin "type.__call__" ⟨.ref C::us,kw⟩)).units=A.units+1:=by
 first | rfl | simp[Around.under,Code.cUnits,Code.frames,Code.isFrame]
theorem bC.make {k:Nat}{A:Around}(r:bC (k+1) A)(C:Addr)(us:List Value)(kw:List (Str×Value)):bC k (A.under (.builtin "type.__call__" ⟨.ref C::us,kw⟩)) :=
 ⟨r.hd,by have:=r.dp;rw[qO];omega,by have:=r.un;rw[qP];omega⟩
theorem bC.depth {k:Nat}{A:Around}(r:bC k A):A.depth<recursionLimit:=by have:=r.dp;omega
theorem bC.units {k:Nat}{A:Around}(r:bC k A):A.units+64<cLine:=by have:=r.un;omega
def ke:TA:=fun _ H Q=>Q [] H
def gT (ta:TE)(tr:TA):TA:=fun σ H Q=>ta σ H fun x H1=>tr σ H1 fun xs H2=>Q (x::xs) H2
section
variable {X:Cx}{e:Expr}{es:List Expr}{te:TE}{t:TA}{pos:Pos}
theorem az:PA X [] ke:=fun _ _ _ _ H Q I h=>CM ⟨[],H,I,.nil,h⟩
theorem aj (ha:PE X e te)(hr:PA X es t)(hs:starEach (e::es) X.env=(false,eval e X.env)::starEach es X.env:=by rfl):PA X (e::es) (gT te t):=by
 intro pos pins s σ H Q I h;rw[hs]
 show wpAny _ _ (spliced ((false,eval e X.env)::backTo pos (starEach es X.env))) _ _ s
 refine Cn (aS (ha pins s σ H _ I h) fun u s1 ⟨x,H1,I1,r1,q1⟩=>?_);exact aS (hr pos pins s1 σ H1 _ I1 q1) fun us s2 ⟨xs,H2,I2,r2,q2⟩=>⟨x::xs,H2,I2,.cons r1 r2,q2⟩
def AY (t:TA):TE:=fun σ H Q=>t σ H fun xs H1=>xs.length<=sizeLine/\∀ p,H1 p=none->Q (.ref p) (upd H1 p (.tup xs))
def AU (t:TA):TE:=fun σ H Q=>t σ H fun xs H1=>xs.length<=sizeLine/\∀ p,H1 p=none->Q (.ref p) (upd H1 p (.lst xs))
theorem bG {x1}(h:PA X es t):PE X (.Tuple es x1 pos) (AY t):=by
 intro pins s σ H Q I hq;refine wpAny_Tuple_spliced (aS (h pos pins s σ H _ I hq) fun us s1 ⟨xs,H1,I1,r,z,q⟩=>⟨by rw[<-r.length];exact z,?_⟩);have hf:H1 s1.heap.objs.size=none:=I1.hok.fresh (BB _);refine⟨.ref s1.heap.objs.size,upd H1 s1.heap.objs.size (.tup xs),I1.laid (t':=s1.toks) (fun b u e=>Heap.get?_push_of_some _ e) (BB _) ?_,rfl,q _ hf⟩;exact⟨z,us,r,⟨_,Heap.get?_push_size _ rfl,rfl,_,rfl⟩⟩
theorem oR (h:PA X es t):PE X (.List es pos) (AU t):=by
 intro pins s σ H Q I hq;refine wpAny_List_spliced (aS (h pos pins s σ H _ I hq) fun us s1 ⟨xs,H1,I1,r,z,q⟩=>⟨by rw[<-r.length];exact z,?_⟩);have hf:H1 s1.heap.objs.size=none:=I1.hok.fresh (BB _);refine⟨.ref s1.heap.objs.size,upd H1 s1.heap.objs.size (.lst xs),I1.laid (t':=s1.toks) (fun b u e=>Heap.get?_push_of_some _ e) (BB _) ?_,rfl,q _ hf⟩;exact⟨z,us,0,r,Heap.get?_push_size _ rfl⟩
end
abbrev Sp:=List V->Hp->VK->XK->Prop
abbrev ql:=List Env->Hp->Shared->XK->Value->Shared->Prop
structure qm (P:Program)(w:World)(K:PySem.W.Frag)(mg:Str->Option Value)(base:Heap)(A:Around)(outer:List Env)(s:Shared)(H:Hp):Prop where
 frames:A.frames=some outer
 mod:Mod K mg base
 bs:∀ b o,base.get? b=some o->s.heap.get? b=some o/\H b=none
 bsz:base.objs.size<=s.heap.objs.size
 funs:s.heap.FunFrames base outer
 frf:∀ b∈fU outer,H b=none
 hok:fD P w H s.heap
 bare:AllBare s.gens
def CE (outer:List Env)(P:Program)(w:World)(H:Hp)(s:Shared)(Q:VK)(u:Value)(s':Shared):Prop :=
 ∃ v H',s'.os=s.os/\AllBare s'.gens/\Un (fU outer) [] H H' s.heap s'.heap/\fD P w H' s'.heap/\aG v u/\Q v H'
def CR (CX:ql)(outer:List Env)(P:Program)(w:World)(H:Hp)(s:Shared)(Q:VK)(E:XK)(r:Result)(s':Shared):Prop :=
 match r with
 | .ok (.ret u)=>CE outer P w H s Q u s'
 | .ok _=>False
 | .error e=>CX outer H s E e s'
structure aV (P:Program)(w:World)(K:PySem.W.Frag)(mg:Str->Option Value)(base:Heap)(CX:ql)(k:Nat)(f:Addr)(fd:FuncData)(ps:List Str)(sp:Sp):Prop where
 len:∀ vs H Q E,sp vs H Q E->vs.length=ps.length
 run:∀ (A:Around)(outer:List Env)(s:Shared)(H:Hp)(args:Args)(us:List Value)(vs:List V)(Q:VK)(E:XK),bC k A->qm P w K mg base A outer s H->BindsTo s fd args (ps.zip us)->aL vs us->sp vs H Q E ->
  codeAny (model P w) A (.call (.ref f) args) (CR CX outer P w H s Q E) s
theorem qm.make {P:Program}{w:World}{K:PySem.W.Frag}{mg:Str->Option Value}{base:Heap}{A:Around}{outer:List Env}{s:Shared}{H:Hp}(e:qm P w K mg base A outer s H)(C:Addr)(us:List Value)(kw:List (Str×Value)) :
  qm P w K mg base (A.under (.builtin "type.__call__" ⟨.ref C::us,kw⟩)) outer s H:=⟨by first | exact e.frames | (simpa [Around.under,Code.envs,Code.isFrame,pushEnvs] using e.frames),e.mod,e.bs,e.bsz,e.funs,e.frf,e.hok,e.bare⟩
section
variable {X:Cx}{pins:List (Addr×Obj)}{σ:St}{H:Hp}{s s':Shared}
theorem ao.env0 (I:ao X pins σ H s):qm X.prog X.w X.K X.mg X.base X.A X.stack s H :=
 ⟨I.ok.frames,I.ok.mod,I.bs,B6 I.ok.bsz I.sz,I.stack,I.stkFree,I.hok,I.bare⟩
theorem ao.after {Q:VK}{u:Value}(I:ao X pins σ H s)(h:CE X.stack X.prog X.w H s Q u s'):EP X pins σ Q u s':=by
 obtain⟨v,H',os,bare,un,hok,r,q⟩:=h;obtain⟨hh,g,d,t,os'⟩:=s';obtain rfl:os'=s.os:=os;exact⟨v,H',I.call (h':=hh) (g':=g) (d':=d) (t':=t) (ch:=[]) un hok bare (fun b z=>absurd z (by simp)),r,q⟩
end
def v7 (sp:Sp)(dvs:List V)(E:XK)(t:TA):TE:=fun σ H Q=>t σ H fun vs H1=>sp (vs++dvs) H1 Q E
inductive A7 (C:Addr) (m:Str) (sp:Sp) (dvs:List V) (E:XK) (t:TA) (σ:St) (Q:VK) (x:V) (H:Hp):Prop
 | mk (a dx:Addr) (fs:List (Str×V)) (e:x=.ref a) (o:H a=some (.ins C dx fs)) (l:fs.lookup m=none) (h:t σ H fun vs H2=>sp (x::(vs++dvs)) H2 Q E):A7 C m sp dvs E t σ Q x H
def sP (C:Addr)(m:Str)(sp:Sp)(dvs:List V)(E:XK)(ta:TE)(t:TA):TE:=fun σ H Q=>ta σ H fun x H1=>A7 C m sp dvs E t σ Q x H1
def xV (C:Addr)(sp:Sp)(dvs:List V)(E:XK)(t:TA):TE:=fun σ H Q=>t σ H fun vs H1=>∀ x dx,H1 x=none->H1 dx=none->dx≠x ->
 sp (.ref x::(vs++dvs)) (upd (upd H1 dx (.own x)) x (.ins C dx [])) (fun v H2=>v=.non/\Q (.ref x) H2) E
def c8 (K:PySem.W.Frag)(fd:FuncData)(ps:List Str)(ds:List Value):Prop :=
 ∀ (s:Shared)(us:List Value),K.In s.heap->(us++ds).length=ps.length->BindsTo s fd ⟨us,[]⟩ (ps.zip (us++ds))
theorem c8.all {K:PySem.W.Frag}{fd:FuncData}{ps:List Str}(h:∀ us:List Value,us.length=ps.length->bindArgs fd ⟨us,[]⟩=pure (ps.zip us)):c8 K fd ps []:=fun s us _ hl=>by
 rw[List.append_nil]at hl ⊢;exact .of_eq (h us hl)
def c4 (CX:ql)(X:Cx)(E:XK):Prop:=∀ (pins:List (Addr×Obj))(σ:St)(H:Hp)(s:Shared)(e:Value)(s':Shared),ao X pins σ H s->CX X.stack H s E e s'->X.xe e s'
section
variable {X:Cx}{CX:ql}{k:Nat}{f C:Addr}{fd:FuncData}{ps:List Str}{sp:Sp}{dvs:List V}{ds:List Value}{E:XK}{x m:Str}{p pos apos:Pos}{e o:Expr}{es:List Expr}{ta:TE}{t:TA}
theorem rj {pins:List (Addr×Obj)}{σ:St}{H:Hp}{s:Shared}{Q:VK}{us:List Value}{vs:List V}(F:aV X.prog X.w X.K X.mg X.base CX k f fd ps sp)(hr:bC k X.A)(hb:c8 X.K fd ps ds)(hd:aL dvs ds)(hx:c4 CX X E)
  (I:ao X pins σ H s) (r:aL vs us) (h:sp (vs++dvs) H Q E):wpAny (model X.prog X.w) X.A (call (.ref f) us) (EP X pins σ Q) X.xe s:=by
 have r2:aL (vs++dvs) (us++ds):=r.append hd
 have hl:(us++ds).length=ps.length:=by rw[<-r2.length];exact F.len _ _ _ _ h
 refine Df (CG (F.run X.A X.stack s H ⟨us,[]⟩ (us++ds) (vs++dvs) Q E hr I.env0 (hb s us I.kIn hl) r2 h) fun r s' hq=>?_)
 cases r with
 | error e=>exact hx pins σ H s e s' I hq
 | ok fl =>
  cases fl with
  | ret u=>exact I.after hq
  | next=>exact False.elim hq
  | brk=>exact False.elim hq
  | cont=>exact False.elim hq
theorem sv (F:aV X.prog X.w X.K X.mg X.base CX k f fd ps sp)(hr:bC k X.A)(hg:Gl X x)(hm:X.mg x=some (.ref f))(hk:PySem.W.keepIn X.K (.ref f)=true)(hb:c8 X.K fd ps ds)(hd:aL dvs ds)(hx:c4 CX X E)
  (ha:PA X (e::es) t) (hdb:(x == ("__debug__" : Str))=false:=by decide) (he:starEach (e::es) X.env=(false,eval e X.env)::starEach es X.env:=by rfl) (hpl:(backTo pos (starEach es X.env)).any (·.1)=false:=by rfl) :
  PE X (.Call (.Name x p) (e::es) [] pos) (v7 sp dvs E t):=by
 intro pins s σ H Q I h;refine CD (cU I hg hm ?_ hdb);refine PySem.W.callWith_K (h₀:=X.base) I.ok.mod.kin hk (aS (ha pos pins s σ H _ I h) fun us s1 ⟨vs,H1,I1,r,q⟩=>⟨I1.kIn,?_⟩) he hpl;exact rj F hr hb hd hx I1 r q
theorem xo {pl:Sem Bool}(he:PE X o ta)(c:ti X.K C)(hm:wz X.K C m f)(F:aV X.prog X.w X.K X.mg X.base CX k f fd ps sp)(hr:bC k X.A)(hb:c8 X.K fd ps ds)(hd:aL dvs ds)(hx:c4 CX X E)(ha:PA X (e::es) t)
  (hst:starEach (e::es) X.env=(false,eval e X.env)::starEach es X.env:=by rfl) (hpl:(backTo pos (starEach es X.env)).any (·.1)=false:=by rfl)
  (ht:eval (.Call (.Attribute o m apos) (e::es) [] pos) X.env=(do
   let ov <-eval o X.env
   standAt apos.atName
   let (f,first) <-holding [ov] (getMethod ov m pl)
   callWith pos f first (backTo pos (starEach (e::es) X.env)) (backToKw pos (keywordEach [] X.env))):=by rfl) :
  PE X (.Call (.Attribute o m apos) (e::es) [] pos) (sP C m sp dvs E ta t):=by
 intro pins s σ H Q I h;refine PySem.W.methodCall_KW (pl:=pl) (aS (he pins s σ H _ I h) fun u s1 ⟨x,H1,I1,rx,a,dx,fs,ex,ea,l,q⟩=>?_) ht;subst ex;obtain rfl:u=Value.ref a:=rx;refine kN I1 ea c hm l ?_;refine PySem.W.callWith_K (first:=[.ref a]) (h₀:=X.base) I.ok.mod.kin hm.kp (aS (ha pos pins s1 σ H1 _ I1 q) fun us s2 ⟨vs,H2,I2,r,q2⟩=>⟨I2.kIn,?_⟩) hst hpl;exact rj (us:=.ref a::us) (vs:=.ref a::vs) F hr hb hd hx I2 (.cons rfl r) q2
theorem vG {pl:Sem Bool}(he:PE X o ta)(c:ti X.K C)(hm:wz X.K C m f)(F:aV X.prog X.w X.K X.mg X.base CX k f fd ps sp)(hr:bC k X.A)(hb:c8 X.K fd ps ds)(hd:aL dvs ds)(hx:c4 CX X E)
  (ht:eval (.Call (.Attribute o m apos) [] [] pos) X.env=(do
   let ov <-eval o X.env
   standAt apos.atName
   let (f,first) <-holding [ov] (getMethod ov m pl)
   callWith pos f first (backTo pos (starEach [] X.env)) (backToKw pos (keywordEach [] X.env))):=by rfl) :
  PE X (.Call (.Attribute o m apos) [] [] pos) (sP C m sp dvs E ta ke):=by
 intro pins s σ H Q I h;refine PySem.W.methodCall_KW (pl:=pl) (aS (he pins s σ H _ I h) fun u s1 ⟨x,H1,I1,rx,a,dx,fs,ex,ea,l,q⟩=>?_) ht;subst ex;obtain rfl:u=Value.ref a:=rx;refine kN I1 ea c hm l ?_;exact PySem.W.callWith_K0 (first:=[.ref a]) I1.kIn hm.kp (rj (us:=[.ref a]) (vs:=[.ref a]) F hr hb hd hx I1 (.cons rfl .nil) q)
structure Mk (K:PySem.W.Frag)(C f:Addr):Prop where
 makes:PySem.W.makesIn K C=true
 init:PySem.W.findIn K (.ref C) "__init__" = some (some (.ref f))
 fn:PySem.W.isFn K (.ref f)=true
 kp:PySem.W.keepIn K (.ref C)=true
theorem vZ {pins:List (Addr×Obj)}{σ:St}{H:Hp}{s:Shared}{Q:VK}{us:List Value}{vs:List V}(M:Mk X.K C f)(F:aV X.prog X.w X.K X.mg X.base CX k f fd ps sp)(hr:bC (k+1) X.A)(hb:c8 X.K fd ps ds)(hd:aL dvs ds)
  (hx:c4 CX X E) (I:ao X pins σ H s) (r:aL vs us)
  (h:∀ x dx,H x=none->H dx=none->dx≠x->sp (.ref x::(vs++dvs)) (upd (upd H dx (.own x)) x (.ins C dx [])) (fun v H2=>v=.non/\Q (.ref x) H2) E) :
  wpAny (model X.prog X.w) X.A (call (.ref C) us) (EP X pins σ Q) X.xe s:=by
 have hq:=h (s.heap.objs.size+1) s.heap.objs.size (I.hok.fresh (Nat.le_succ _)) (I.hok.fresh (BB _)) (BJ (Nat.lt_succ_self _));have I2:=ao.made (C:=C) I;have r2:aL (V.ref (s.heap.objs.size+1)::(vs++dvs)) (Value.ref (s.heap.objs.size+1)::(us++ds)):=.cons rfl (r.append hd)
 have hl:(Value.ref (s.heap.objs.size+1)::us++ds).length=ps.length:=by
  have e:=r2.length;rw[F.len _ _ _ _ hq]at e;exact e.symm
 refine Df (vf (f:=f) I.kIn M.makes M.init (C4.mp M.fn) (CG (F.run _ X.stack _ _ ⟨Value.ref (s.heap.objs.size+1)::us,[]⟩ (Value.ref (s.heap.objs.size+1)::(us++ds)) _ _ E (hr.make C us [])
  (I2.env0.make C us []) (hb _ (Value.ref (s.heap.objs.size+1)::us) I2.kIn hl) r2 hq) fun r s' hq'=>?_))
 cases r with
 | error e=>exact hx pins σ _ _ e s' I2 hq'
 | ok fl =>
  cases fl with
  | ret u =>
   obtain⟨v,H',I3,rv,ev,q3⟩:=I2.after hq';subst ev;exact⟨rv,⟨V.ref (s.heap.objs.size+1),H',I3,rfl,q3⟩⟩
  | next=>exact False.elim hq'
  | brk=>exact False.elim hq'
  | cont=>exact False.elim hq'
theorem vF (M:Mk X.K C f)(F:aV X.prog X.w X.K X.mg X.base CX k f fd ps sp)(hr:bC (k+1) X.A)(hg:Gl X x)(hm:X.mg x=some (.ref C))(hb:c8 X.K fd ps ds)(hd:aL dvs ds)(hx:c4 CX X E)
  (hdb:(x == ("__debug__" : Str))=false:=by decide):PE X (.Call (.Name x p) [] [] pos) (xV C sp dvs E ke):=by
 intro pins s σ H Q I h;refine CD (cU I hg hm ?_ hdb);exact PySem.W.callWith_K0 I.kIn M.kp (vZ (us:=[]) M F hr hb hd hx I .nil h)
end
def PK (X:Cx)(kws:List Keyword)(t:TA):Prop :=
 ∀ (pos:Pos)(pins:List (Addr×Obj))(s:Shared)(σ:St)(H:Hp)(Q:List V->Hp->Prop),ao X pins σ H s->t σ H Q->wpAny (model X.prog X.w) X.A (evalAll ((backToKw pos (keywordEach kws X.env)).map (·.2))) (AP X pins σ Q) X.xe s
section
variable {X:Cx}{CX:ql}{k:Nat}{f C:Addr}{fd:FuncData}{ps ks:List Str}{sp:Sp}{E:XK}{x m:Str}{p pos apos kpos:Pos}{e o:Expr}{es:List Expr}{kws:List Keyword}{te ta:TE}{t tk:TA}{nm:Option Str}
theorem yM:PK X [] ke:=fun _ _ _ _ H Q I h=>wpAny_evalAll_nil ⟨[],H,I,.nil,h⟩
theorem xt (ha:PE X e te)(hr:PK X kws t):PK X (⟨nm,e,kpos⟩::kws) (gT te t):=by
 intro pos pins s σ H Q I h
 show wpAny _ _ (evalAll ((do let v <-eval e X.env;standAt pos;pure v)::(backToKw pos (keywordEach kws X.env)).map (·.2))) _ _ s
 refine wpAny_evalAll_cons (Bw (aS (ha pins s σ H _ I h) fun u s1 ⟨x,H1,I1,r1,q1⟩=>Bw (Cq (BA ?_))));exact aS (hr pos pins s1 σ H1 _ I1 q1) fun us s2 ⟨xs,H2,I2,r2,q2⟩=>⟨x::xs,H2,I2,.cons r1 r2,q2⟩
variable {g:List Value->List Value->List Value}{gV:List V->List V->List V}
end
structure av (N P:List Str)(sc:Scope):Prop where
 kind:sc.kind=.function
 co:sc.isCoroutine=false
 gen:sc.isGenerator=false
 nd:N.Nodup
 pre:N.take P.length=P
 par:∀ x∈P,sc.names.lookup x=some .local\/sc.names.lookup x=some .cell
 nofree:∀ y∈sc.names,y.2≠.free
theorem mQ {kindOf:Str->Option NameKind}{x:Str}:∀ {binds:List (Str×Value)}{m:Str->Option Value},(∀ v,(x,v)∉binds)->bindL kindOf binds m x=m x
 | [],_,_=>rfl
 | (n,v)::r,m,h=>by
  unfold bindL;rw[mQ fun w hw=>h w (BC _ hw)];split
  ·have:x≠n:=by rintro rfl;exact h v BE
   simp[this]
  ·rfl
theorem mO {kindOf:Str->Option NameKind}{x:Str}:∀ {binds:List (Str×Value)}{m:Str->Option Value},(∀ v,(x,v)∉binds)->bindC kindOf binds m x=m x
 | [],_,_=>rfl
 | (n,v)::r,m,h=>by
  unfold bindC;rw[mO fun w hw=>h w (BC _ hw)];split
  ·rfl
  ·have:x≠n:=by rintro rfl;exact h v BE
   simp[this]
theorem mP {kindOf:Str->Option NameKind}{x:Str}{v:Value}:∀ {P:List Str}{vs:List Value}{i:Nat}{m:Str->Option Value},P.Nodup->P[i]? = some x->vs[i]? = some v->kindOf x=some .local ->
  bindL kindOf (P.zip vs) m x=some v
 | [],_,_,_,_,h,_,_=>by simp at h
 | _::_,[],_,_,_,_,h,_=>by simp at h
 | p::P,w::vs,0,m,nd,h1,h2,hk=>by
  simp at h1 h2;subst h1;subst h2
  show bindL kindOf ((p,w)::P.zip vs) m p=_
  unfold bindL;rw[mQ fun v hv=>(B8.mp nd).1 (List.of_mem_zip hv).1,Bz hk];simp
 | p::P,w::vs,i+1,m,nd,h1,h2,hk=>by
  show bindL kindOf ((p,w)::P.zip vs) m x=_
  unfold bindL;exact mP (i:=i) (B8.mp nd).2 (by simpa using h1) (by simpa using h2) hk
theorem mL {kindOf:Str->Option NameKind}{x:Str}{v:Value}:∀ {P:List Str}{vs:List Value}{i:Nat}{m:Str->Option Value},P.Nodup->P[i]? = some x->vs[i]? = some v->kindOf x≠some .local ->
  bindC kindOf (P.zip vs) m x=some v
 | [],_,_,_,_,h,_,_=>by simp at h
 | _::_,[],_,_,_,_,h,_=>by simp at h
 | p::P,w::vs,0,m,nd,h1,h2,hk=>by
  simp at h1 h2;subst h1;subst h2
  show bindC kindOf ((p,w)::P.zip vs) m p=_
  unfold bindC;rw[mO fun v hv=>(B8.mp nd).1 (List.of_mem_zip hv).1,By hk];simp
 | p::P,w::vs,i+1,m,nd,h1,h2,hk=>by
  show bindC kindOf ((p,w)::P.zip vs) m x=_
  unfold bindC;exact mL (i:=i) (B8.mp nd).2 (by simpa using h1) (by simpa using h2) hk
def iZ (N:List Str)(vs:List V):St:=vs.map some++List.replicate (N.length-vs.length) none
def kH (CX:ql)(P:Program)(w:World)(K:PySem.W.Frag)(mg:Str->Option Value)(base:Heap)(N:List Str)(qual:Str)(scope:Scope)(f:Addr)(cd:Value)(A:Around)(outer:List Env)(s:Shared)(H:Hp)(E:XK):Cx where
 prog:=P
 w:=w
 K:=K
 mg:=mg
 base:=base
 A:=A.deeper (envOfC qual scope s.heap.objs.size f cd)
 N:=N
 s₀:=s
 H₀:=H
 env:=envOfC qual scope s.heap.objs.size f cd
 outer:=outer
 stack:=envOfC qual scope s.heap.objs.size f cd::outer
 ex:=[]
 calm:=true
 fn:=fun _=>true
 pn:=[]
 xe:=fun e s'=>wpAny (model P w) (A.deeper (envOfC qual scope s.heap.objs.size f cd)) (leaving (envOfC qual scope s.heap.objs.size f cd) e) (fun _ s''=>CX outer H s E e s'') (fun e' s''=>CX outer H s E e' s'') s'
theorem pp {sc:Scope}{n:Nat}{x:Str}(h:sc.names.lookup x=some .cell):∃ c,(cellsFrom n sc.names []).lookup x=some c:=by
 have q:=PySem.W.cellsFrom_some sc.names n [] (.inl h);exact Ci.mp q
theorem tP {CX:ql}{P:Program}{w:World}{K:PySem.W.Frag}{mg:Str->Option Value}{base:Heap}{N ps:List Str}{qual:Str}{scope:Scope}{f:Addr}{cd:Value}{A:Around}{outer:List Env}{s s1:Shared}{H:Hp}{E:XK}{us:List Value}{vs:List V}
  (S:av N ps scope) (hd:A.handled=none) (e0:qm P w K mg base A outer s H) (hl:vs.length=ps.length) (r:aL vs us)
  (x:InCallC s s.heap.objs.size (bindL (envOfC qual scope s.heap.objs.size f cd).kindOf (ps.zip us) fun _=>none) (cellsFrom (s.heap.objs.size+1) scope.names []) (bindC (envOfC qual scope s.heap.objs.size f cd).kindOf (ps.zip us) fun _=>none) s1) :
  ao (kH CX P w K mg base N qual scope f cd A outer s H E) [] (iZ N vs) H s1:=by
 have hpl:ps.length<=N.length:=by have:=CV List.length S.pre;rw[CA]at this;omega
 obtain⟨h1,tk,rfl,hk⟩:=x.done;have noA:∀ b:Addr,b∉(kH CX P w K mg base N qual scope f cd A outer s H E).ex:=fun b z=>absurd (show b∈([]:List Addr) from z) (by simp)
 refine⟨⟨e0.mod,S.kind,rfl,rfl,BB _,fun y z c h1 h2=>?_,fun y hy=>?_,fun y c _ h=>?_,fun _=>hd,Around.frames_deeper e0.frames,.inr ⟨rfl,rfl⟩,fun b z=>absurd z (noA b),e0.bs,e0.bsz,fun b _ _=>noA b,fun b z=>absurd z (noA b),e0.funs,e0.frf⟩,
  rfl,e0.bare,Un.kept hk,⟨_,x.toInCall.ns,fun i y v h1 h2 h3=>?_⟩,fun y c h=>⟨_,x.cell y c h⟩,e0.hok.fresh (BB _),fun y c h=>?_,fun p hp=>absurd (show p∈([]:List (Addr×Obj)) from hp) (by simp),e0.hok.kept hk,?_⟩
 ·exact name_of_addr x.apart (CP h1) (CP h2)
 ·have hy:scope.names.lookup y=some .cell\/scope.names.lookup y=some .free:=hy
  rcases hy with hy | hy
  ·exact pp hy
  ·exact absurd rfl (S.nofree _ (CP hy))
 ·exact Nat.le_of_lt (x.above y c (CP h))
 ·have hi:i<vs.length:=by
   unfold iZ at h2
   by_cases hi:i<vs.length
   ·exact hi
   ·rw[List.getElem?_append_right (by simpa using hi)]at h2
    rw[List.getElem?_replicate]at h2;split at h2<;>cases h2
  have ha:vs[i]? = some v:=by
   unfold iZ at h2;rw[List.getElem?_append_left (by simpa using hi),List.getElem?_map]at h2
   cases e:vs[i]? with
   | none=>rw[e]at h2;cases h2
   | some a=>rw[e]at h2;cases h2;rfl
  obtain⟨u,hu,rv⟩:=r.get ha
  have hp:ps[i]? = some y:=by
   rw[<-S.pre,List.getElem?_take_of_lt (by omega)];exact h1
  have ndP:ps.Nodup:=by rw[<-S.pre];exact S.nd.sublist (List.take_sublist _ _)
  refine⟨u,rv,?_⟩;rcases S.par y (B9 hp) with k | k
  ·exact .inl ⟨k,mP ndP hp hu k⟩
  ·obtain⟨c,e⟩:=pp (n:=s.heap.objs.size+1) k
   refine .inr ⟨.inl k,c,e,?_⟩;have q:=x.cell y c e;rw[mL ndP hp hu (by show scope.names.lookup y≠_;rw[k];decide)]at q;exact q
 ·exact e0.hok.fresh (Nat.le_of_lt (x.above y c (CP h)))
 ·unfold iZ
  show _=N.length
  rw[BR,Bx,List.length_replicate];omega
theorem xL {CX:ql}{P:Program}{w:World}{K:PySem.W.Frag}{mg:Str->Option Value}{base:Heap}{k:Nat}{f:Addr}{name qual:Str}{params:Arguments}{body:List Stmt}{scope:Scope}{dV kV doc pm cdv ct oc:Value}{an od:Option Addr}
  {osl:Array (Option Value)} {N ps:List Str} {sp:Sp} (lk:K.lookup f=some ⟨oc,od,.func (PySem.W.fnOf name qual params body scope dV kV doc pm an cdv ct),osl⟩) (hcd:PySem.W.codeIn K cdv qual=true) (S:av N ps scope)
  (len:∀ vs H Q E,sp vs H Q E->vs.length=ps.length)
  (hbody:∀ (A:Around)(outer:List Env)(s:Shared)(H:Hp)(vs:List V)(Q:VK)(E:XK),bC k (A.deeper (envOfC qual scope s.heap.objs.size f cdv))->sp vs H Q E ->
   ∃ t,qq (kH CX P w K mg base N qual scope f cdv A outer s H E) body t/\t { nx:=fun _ H'=>Q .non H',rt:=Q } (iZ N vs) H) :
  aV P w K mg base CX (k+1) f (PySem.W.fnOf name qual params body scope dV kV doc pm an cdv ct) ps sp:=by
 refine⟨len,fun A outer s H args us vs Q E hr e0 hb r hsp=>?_⟩;have hl:=len _ _ _ _ hsp;have KX:K.In s.heap:=e0.mod.kin.keeps fun b o e=>(e0.bs b o e).1;have lim:s.heap.NoLimit:=e0.mod.nolimit.keeps fun b o e=>(e0.bs b o e).1
 have hkind:∀ y∈ps.zip us,scope.names.lookup y.1=some .local\/(scope.names.lookup y.1=some .cell/\((cellsFrom (s.heap.objs.size+1) scope.names []).lookup y.1).isSome=true):=fun ⟨n,v⟩ hy=>by
  rcases S.par n (List.of_mem_zip hy).1 with q | q
  ·exact .inl q
  ·exact .inr ⟨q,PySem.W.cellsFrom_some _ _ _ (.inl q)⟩
 refine codeAny_call_function hr.depth (KX _ _ lk) rfl S.co S.gen rfl (PySem.W.codeRec_of KX hcd) (hb _ _ _ _ ?_);refine wpAny_newFunctionEnv_cells S.kind hkind fun env he s1 x=>?_;subst he;refine⟨lim.keeps x.toInCall.keep,codeAny_func ?_⟩;obtain⟨t,ht,hq⟩:=hbody A outer s H vs Q E (hr.deeper _) hsp;have I:ao (kH CX P w K mg base N qual scope f cdv A outer s H E) [] (iZ N vs) H s1:=tP S hr.hd e0 hl r x;refine BS (ht [] s1 (iZ N vs) H _ I hq) (fun fl s' hs=>?_) fun e s' hs=>hs
 have fin:∀ {σ':St}{H':Hp}{v:V}{u:Value},ao (kH CX P w K mg base N qual scope f cdv A outer s H E) [] σ' H' s'->aG v u->Q v H'->CE outer P w H s Q u s' :=
  fun {σ' H' v u} J rv q=>⟨v,H',J.os,J.bare,J.base,J.hok,rv,q⟩
 cases fl with
 | ret u =>
  obtain⟨v,σ',H',J,rv,q⟩:=hs;exact fin J rv q
 | next =>
  obtain⟨σ',H',J,q⟩:=hs;exact fin (v:=V.non) (u:=Value.none) J rfl q
 | brk =>
  obtain⟨_,_,_,q⟩:=hs;exact False.elim q
 | cont =>
  obtain⟨_,_,_,q⟩:=hs;exact False.elim q
section
variable {X:Cx}{x:Str}{p pos:Pos}{e:Expr}{es:List Expr}{t:TA}{id T:String}{r:List V->Hp->VK->Prop}
def Bb (r:List V->Hp->VK->Prop)(t:TA):TE:=fun σ H Q=>t σ H fun vs H1=>r vs H1 Q
theorem bq (hc:fq X (.builtin id) r)(hg:Gl X x)(hm:X.mg x=none)(hv:bootBuiltins x=some (.builtin id))(ha:PA X (e::es) t)(hn:x≠"__name__":=by decide)(hdb:(x == ("__debug__" : Str))=false:=by decide)
  (he:starEach (e::es) X.env=(false,eval e X.env)::starEach es X.env:=by rfl) (hpl:(backTo pos (starEach es X.env)).any (·.1)=false:=by rfl):PE X (.Call (.Name x p) (e::es) [] pos) (Bb r t):=by
 intro pins s σ H Q I h;refine CD (kR I hg hm hv ?_ hn hdb);exact PyProof.Rows.callWith_builtin1 (aS (ha pos pins s σ H _ I h) fun us s1 ⟨vs,H1,I1,r1,q1⟩=>hc pins s1 σ H1 vs us Q I1 r1 q1) he hpl
theorem gy (hc:fq X (.type T) r)(hg:Gl X x)(hm:X.mg x=none)(hv:bootBuiltins x=some (.type T))(ha:PA X (e::es) t)(hn:x≠"__name__":=by decide)(hdb:(x == ("__debug__" : Str))=false:=by decide)
  (he:starEach (e::es) X.env=(false,eval e X.env)::starEach es X.env:=by rfl) (hpl:(backTo pos (starEach es X.env)).any (·.1)=false:=by rfl):PE X (.Call (.Name x p) (e::es) [] pos) (Bb r t):=by
 intro pins s σ H Q I h;refine CD (kR I hg hm hv ?_ hn hdb);exact PyProof.Rows.callWith_type1 (aS (ha pos pins s σ H _ I h) fun us s1 ⟨vs,H1,I1,r1,q1⟩=>hc pins s1 σ H1 vs us Q I1 r1 q1) he hpl
end
end L2
namespace HT
open PySem PyProof.Rows
section
variable {prog:Program}{w:World}{A:Around}{E:Value->Shared->Prop}{s:Shared}
theorem cat_tup {t b:Addr}{vs ws:List Value}{Q:Value->Shared->Prop}(ht:IsTup s.heap t vs.toArray)(hb:IsTup s.heap b ws.toArray)(hv:vs≠[])
  (h1:ws=[]->Q (.ref t) s) (h2:ws≠[]->Q (.ref s.heap.objs.size) { s with heap:=s.heap.push { cls:=.type "tuple",data:=.seq (vs++ws).toArray } })
  (hsz:vs.length+ws.length<=sizeLine):wpAny (model prog w) A (binaryOp .Add (.ref t) (.ref b)) Q E s:=by
 obtain⟨⟨cls,dd,data,sl⟩,ho,hc,n,hd⟩:=id ht;obtain⟨⟨cls2,dd2,data2,sl2⟩,ho2,hc2,n2,hd2⟩:=id hb;simp only at hc hd hc2 hd2;subst hc hd hc2 hd2
 have e:vs.toArray++ws.toArray=(vs++ws).toArray:=by simp
 by_cases hw:ws=[]
 ·exact concat_meets ⟨_,ho,rfl⟩ ⟨_,ho2,rfl⟩ noFill_tuple_add seq_tuple_add PySem.F.slot_tuple_add PySem.F.entry_tuple_add (PySem.F.args_tuple_add_2 _ _)
   (tuple_addW1 t b vs.toArray ws.toArray n n2 dd dd2 sl sl2 (by simpa using hv) (by simp[hw])) ⟨ho,ho2,h1 hw⟩
 ·refine concat_meets ⟨_,ho,rfl⟩ ⟨_,ho2,rfl⟩ noFill_tuple_add seq_tuple_add PySem.F.slot_tuple_add PySem.F.entry_tuple_add (PySem.F.args_tuple_add_2 _ _)
   (tuple_addW2 t b vs.toArray ws.toArray n n2 dd dd2 sl sl2 (by simpa using hv) (by simpa using hw) (by rw[BK,BK];exact hsz)) ⟨ho,ho2,?_⟩
  rw[e];exact h2 hw
def sIx (n d:Nat):Option Int->Nat
 | none=>d
 | some v=>if v<0 then (v+(n:Int)).toNat else min v.toNat n
theorem sIx_none (n d:Nat):sIx n d none=d:=rfl
theorem sIx_nat (n d k:Nat):sIx n d (some (k:Int))=min k n:=by
 show (if (k:Int)<0 then ((k:Int)+(n:Int)).toNat else min (k:Int).toNat n)=min k n
 rw[By (by omega),Int.toNat_natCast]
theorem yP (n d:Nat)(hd:d<=n)(o:Option Int):sIx n d o<=n:=by
 cases o with
 | none=>exact hd
 | some v =>
  show (if v<0 then (v+(n:Int)).toNat else min v.toNat n)<=n
  by_cases hv:v<0
  ·rw[Bz hv];omega
  ·rw[By hv];exact Nat.min_le_right _ _
theorem rN (v:Int)(n d:Nat):(if v<0 then max (v+(n:Int)) 0 else min v (n:Int))=((sIx n d (some v):Nat):Int):=by
 show (if v<0 then max (v+(n:Int)) 0 else min v (n:Int))=(((if v<0 then (v+(n:Int)).toNat else min v.toNat n):Nat):Int)
 by_cases hv:v<0
 ·simp only[Bz hv];omega
 ·simp only[By hv];omega
theorem qt (lo hi:Option Int)(n:Nat):Builtin.Slice.sliceAdjust lo hi 1 (n:Int)=(((sIx n 0 lo:Nat):Int),((sIx n n hi:Nat):Int)):=by
 have h1:¬ ((1:Int)<0):=by omega
 unfold Builtin.Slice.sliceAdjust;simp only[h1,if_false];refine Prod.ext ?_ ?_
 ·cases lo with
  | none=>rfl
  | some v=>exact rN v n 0
 ·cases hi with
  | none=>rfl
  | some v=>exact rN v n n
theorem rh (i j:Nat):Builtin.Slice.slicePlaces (i:Int) (j:Int) 1=j-i:=by
 unfold Builtin.Slice.slicePlaces
 have h1:(1:Int)>0:=by omega
 simp only[h1,if_true,Int.ediv_one];split<;>omega
theorem lO {v:Value}{o:Option Int}{Q:Option Int->Shared->Prop}(p:IsPart v o)(h:Q o s):wpAny (model prog w) A (Builtin.Slice.slicePartIndex v) Q E s:=by
 cases p with
 | none=>exact slicePart_none h
 | int i t=>exact slicePart_int h
theorem jA {sl:Addr}{vl vu:Value}{lo hi:Option Int}{n:Nat}{Q:Int×Int×Nat->Shared->Prop}(hs:s.heap.IsSliceOf sl vl vu .none)(pl:IsPart vl lo)(pu:IsPart vu hi)
  (h:Q (((sIx n 0 lo:Nat):Int),1,sIx n n hi-sIx n 0 lo) s):wpAny (model prog w) A (Builtin.Slice.sliceApplied (.ref sl) (pure (n:Int))) Q E s:=by
 obtain⟨os,hos,hcs,hds⟩:=id hs;unfold Builtin.Slice.sliceApplied Builtin.Slice.sliceFields;refine Bw (Bw (C9 hos hds (x:=vl) rfl (Bw (C9 hos hds (x:=vu) rfl (Bw (C9 hos hds (x:=.none) rfl (BA ?_)))))));refine Bw (slicePart_none ?_)
 show wpAny _ _ (if ((1:Int) == 0)=true then _ else _) _ _ s
 rw[By (by decide)];refine Bw (lO pl (Bw (lO pu (Bw (BA ?_)))))
 show wpAny _ _ (match Builtin.Slice.sliceAdjust lo hi 1 (n:Int) with | (lo,hi)=>pure (lo,(1:Int),Builtin.Slice.slicePlaces lo hi 1)) _ _ s
 rw[qt lo hi n]
 show wpAny _ _ (pure (((sIx n 0 lo:Nat):Int),(1:Int),Builtin.Slice.slicePlaces ((sIx n 0 lo:Nat):Int) ((sIx n n hi:Nat):Int) 1)) _ _ s
 rw[rh];exact BA h
theorem vM (xs:Array Value)(i k:Nat):((List.range k).filterMap fun (m:Nat)=>xs[((i:Int)+(m:Int)*1).toNat]?).toArray=((xs.toList.drop i).take k).toArray:=by
 have e:(fun (m:Nat)=>xs[((i:Int)+(m:Int)*1).toNat]?)=fun m=>xs[i+m]?:=by
  funext m
  have:((i:Int)+(m:Int)*1).toNat=i+m:=by omega
  rw[this]
 rw[e];have:=pick_run xs i k;rw[List.filterMap_map]at this;have e2:((fun x=>xs[x]?) ∘ fun x=>i+x)=fun m=>xs[i+m]?:=rfl;rw[e2]at this;rw[this]
theorem getItem_tuple_cut {t sl:Addr}{items:Array Value}{vl vu:Value}{lo hi:Option Int}{Q:Value->Shared->Prop}(ht:IsTup s.heap t items)(hs:s.heap.IsSliceOf sl vl vu .none)(pl:IsPart vl lo)(pu:IsPart vu hi)
  (hw:¬ (sIx items.size 0 lo=0/\sIx items.size items.size hi=items.size))
  (h:Q (.ref s.heap.objs.size) { s with heap:=s.heap.push { cls:=.type "tuple",data:=.seq ((items.toList.drop (sIx items.size 0 lo)).take (sIx items.size items.size hi-sIx items.size 0 lo)).toArray } })
  (hsz:items.size<=sizeLine):wpAny (model prog w) A (getItem (.ref t) (.ref sl)) Q E s:=by
 have htake:sizeOk (.seq ((items.toList.drop (sIx items.size 0 lo)).take (sIx items.size items.size hi-sIx items.size 0 lo)).toArray):=by
  show ((items.toList.drop (sIx items.size 0 lo)).take (sIx items.size items.size hi-sIx items.size 0 lo)).toArray.size<=sizeLine
  rw[BK,CA,List.length_drop,B1];omega
 have hj:sIx items.size items.size hi<=items.size:=yP _ _ (BB _) hi;obtain⟨os,hos,hcs,hds⟩:=id hs;have hTs:s.TypeIs (.ref sl) "slice":=⟨os,hos,hcs⟩;unfold getItem
 try with_reducible refine Cf ?_
 first | refine Bw (BA ?_) | skip
 refine Bw (wpAny_sequenceKey ht.typeIs (by decide) ?_)
 refine Bw (wpAny_callSpecial?_slot (name:=Str.ofString "__getitem__") ht.typeIs PyProof.Rows.slot_tuple_getitem
  (C2 PyProof.Rows.slot_tuple_getitem ht.typeIs entry_tuple_getitem ?_ (args_tuple_getitem _ _)))
 show wpAny _ _ (Builtin.Tuple.tupleItemsOf (.ref t) >>= _) _ _ s
 refine Bw (tupleItemsOf_ ht ?_);refine Bw (wpAny_typeOf hTs ?_);rw[Bz (by decide)];refine Bw (jA hs pl pu ?_)
 have hno:¬ ((((sIx items.size 0 lo:Nat):Int) == 0&&(1:Int) == 1&&(sIx items.size items.size hi-sIx items.size 0 lo) == items.size)=true):=by
  intro q;rw[CQ,CQ]at q;have q1:((sIx items.size 0 lo:Nat):Int)=0:=eq_of_beq q.1.1;have q2:sIx items.size items.size hi-sIx items.size 0 lo=items.size:=eq_of_beq q.2;exact hw ⟨by omega,by omega⟩
 show wpAny _ _ (if (((sIx items.size 0 lo:Nat):Int) == 0&&(1:Int) == 1&&(sIx items.size items.size hi-sIx items.size 0 lo) == items.size)=true then _ else _) _ _ s
 rw[By hno,vM]
 first
  | exact Bw (m:=Builtin.Tuple.tupleExact _) (Ca (BA ⟨_,rfl,BA h⟩) htake)
  | exact Bw (m:=Builtin.Tuple.tupleExact _) (Ca (Bw (BA (BA ⟨_,rfl,BA h⟩))) htake)
  | exact Bw (Bw (m:=Builtin.Tuple.tupleExact _) (Ca (BA (BA ⟨_,rfl,BA h⟩)) htake))
  | exact Bw (Bw (m:=Builtin.Tuple.tupleExact _) (Ca (BA ⟨_,rfl,BA h⟩) htake))
end
end HT
namespace L2
open PySem PySem.Spec PyProof.Rows
abbrev TO:=St->Hp->(Option Int->Hp->Prop)->Prop
def PO (X:Cx)(e:Option Expr)(t:TO):Prop :=
 ∀ (pins:List (Addr×Obj))(s:Shared)(σ:St)(H:Hp)(Q:Option Int->Hp->Prop),ao X pins σ H s->t σ H Q ->
  wpAny (model X.prog X.w) X.A (evalPart e X.env) (fun u s'=>∃ o H',ao X pins σ H' s'/\IsPart u o/\Q o H') X.xe s
def sQ:TO:=fun _ H Q=>Q none H
def z7 (t:TE):TO:=fun σ H Q=>t σ H fun x H1=>∃ i,x=.int i/\Q (some i) H1
section
variable {X:Cx}{e:Expr}{te:TE}{lo hi:Option Expr}{tl th:TO}{pos p2:Pos}
theorem oS:PO X none sQ:=by
 intro pins s σ H Q I h;rw[evalPart_none];exact BA ⟨none,H,I,.none,h⟩
theorem iJ (h:PE X e te):PO X (some e) (z7 te):=by
 intro pins s σ H Q I hw;rw[evalPart_some];refine aS (h pins s σ H _ I hw) fun u s1 ⟨x,H1,I1,r1,q1⟩=>?_;obtain⟨i,rfl,q⟩:=q1;obtain⟨t,rfl⟩:=r1;exact⟨some i,H1,I1,.int i t,q⟩
def Ao (X:Cx)(r:V->Option Int->Option Int->Hp->VK->Prop):Prop :=
 ∀ (pins:List (Addr×Obj))(s:Shared)(σ:St)(H:Hp)(x:V)(v vl vu:Value)(lo hi:Option Int)(sl:Addr)(Q:VK),ao X pins σ H s->aG x v->s.heap.IsSliceOf sl vl vu .none->IsPart vl lo->IsPart vu hi->r x lo hi H Q ->
  ∃ T id,typeLookup (.type T) "__getitem__" = pure (some (.builtin id))/\s.TypeIs v T/\wpAny (model X.prog X.w) X.A (getItem v (.ref sl)) (EP X pins σ Q) X.xe s
def Bq (r:V->Option Int->Option Int->Hp->VK->Prop)(te:TE)(tl th:TO):TE:=fun σ H Q=>te σ H fun x H1=>tl σ H1 fun l H2=>th σ H2 fun u H3=>r x l u H3 Q
theorem iG {r:V->Option Int->Option Int->Hp->VK->Prop}(hr:Ao X r)(he:PE X e te)(hl:PO X lo tl)(hu:PO X hi th):PE X (.Subscript e (.Slice lo hi none p2) pos) (Bq r te tl th):=by
 intro pins s σ H Q I h;refine Subscript_ (aS (he pins s σ H _ I h) fun v s1 ⟨x,H1,I1,r1,q1⟩=>?_);refine wpAny_Slice (aS (hl pins s1 σ H1 _ I1 q1) fun vl s2 ⟨l,H2,I2,pl,q2⟩=>aS (hu pins s2 σ H2 _ I2 q2) fun vu s3 ⟨u,H3,I3,pu,q3⟩=>?_);rw[evalPart_none];refine BA ?_;have I4:ao X pins σ H3 { s3 with heap:=s3.heap.push { cls:=.type "slice",data:=.fields #[vl,vu,.none] } }:=I3.kept (t':=s3.toks) fun b ob q=>Heap.get?_push_of_some _ q;obtain⟨T,id,hT,ht,hg⟩:=hr pins { s3 with heap:=s3.heap.push { cls:=.type "slice",data:=.fields #[vl,vu,.none] } } σ H3 x v vl vu l u s3.heap.objs.size Q I4 r1 (Heap.IsSliceOf.new ..) pl pu q3
 show wpAny (model X.prog X.w) X.A (subscriptTail e (.Slice lo hi none p2) v (.ref s3.heap.objs.size)) (EP X pins σ Q) X.xe { s3 with heap:=s3.heap.push { cls:=.type "slice",data:=.fields #[vl,vu,.none] } }
 exact tail_any (ops:=[.ref s3.heap.objs.size,v]) ht hT hg (by with_unfolding_all rfl)
def gE (xs:List V)(lo hi:Option Int):List V:=(xs.drop (HT.sIx xs.length 0 lo)).take (HT.sIx xs.length xs.length hi-HT.sIx xs.length 0 lo)
theorem jQ (xs:List V)(lo hi:Option Int):(gE xs lo hi).length<=xs.length:=by
 unfold gE;rw[CA,List.length_drop];omega
def AJ (K:PySem.W.Frag):V->Option Int->Option Int->Hp->VK->Prop:=fun x lo hi H Q=>∃ a xs,x=.ref a/\cr K H a xs /\
 ¬ (HT.sIx xs.length 0 lo=0/\HT.sIx xs.length xs.length hi=xs.length)/\∀ p,H p=none->Q (.ref p) (upd H p (.tup (gE xs lo hi)))
theorem yQ:Ao X (AJ X.K):=by
 intro pins s σ H x v vl vu lo hi sl Q I rx hs pl pu h;obtain⟨a,xs,rfl,hx,hw,q⟩:=h;cases rx;obtain⟨its,r,ht,hz⟩:=I.tuple hx
 have hlen:its.toArray.size=xs.length:=by rw[BK];exact r.length.symm
 refine⟨"tuple",_,PyProof.Rows.slot_tuple_getitem.lookup,ht.typeIs,?_⟩;refine HT.getItem_tuple_cut ht hs pl pu (by rw[hlen];exact hw) ?_ (by rw[hlen];exact hz);rw[hlen];refine⟨.ref s.heap.objs.size,_,I.laid (t':=s.toks) (o:=.tup (gE xs lo hi)) (fun b ob q=>Heap.get?_push_of_some _ q) (BB _) ?_,rfl,q _ (I.hok.fresh (BB _))⟩;exact⟨B6 (jQ xs lo hi) hz,_,(r.drop (HT.sIx xs.length 0 lo)).take (HT.sIx xs.length xs.length hi-HT.sIx xs.length 0 lo),IsTup.new _ _⟩
def zQ (K:PySem.W.Frag):R2:=fun x y H Q=>∃ a b xs ys,x=.ref a/\y=.ref b/\cr K H a xs/\cr K H b ys/\xs≠[]/\xs.length+ys.length<=sizeLine /\
 (ys=[]->Q (.ref a) H)/\(ys≠[]->∀ p,H p=none->Q (.ref p) (upd H p (.tup (xs++ys))))
theorem aL.nil_iff {xs:List V}{us:List Value}(r:aL xs us):us=[]↔xs=[]:=by
 cases r with
 | nil=>simp
 | cons _ _=>simp
theorem xl:ja X (binaryOp .Add) (zQ X.K):=by
 intro pins s σ H x y v u Q I rx ry h;obtain⟨a,b,xs,ys,rfl,rfl,ha,hb,hx,hz,q1,q2⟩:=h;cases rx;cases ry;obtain⟨its,r1,p1,_⟩:=I.tuple ha;obtain⟨its2,r2,p2,_⟩:=I.tuple hb;refine HT.cat_tup p1 p2 (fun z=>hx (r1.nil_iff.mp z)) (fun z=>⟨.ref a,H,I,rfl,q1 (r2.nil_iff.mp z)⟩) (fun z=>?_) (by rw[<-r1.length,<-r2.length];exact hz);refine⟨.ref s.heap.objs.size,_,I.laid (t':=s.toks) (o:=.tup (xs++ys)) (fun b ob q=>Heap.get?_push_of_some _ q) (BB _) ?_,rfl,q2 (fun w=>z (r2.nil_iff.mpr w)) _ (I.hok.fresh (BB _))⟩;exact⟨by rw[BR];exact hz,_,r1.append r2,IsTup.new _ _⟩
end
def xO (n:Nat)(i:Int):Option Nat:=if 0<=i then (if i<n then some i.toNat else none) else if -(n:Int)<=i then some (i+n).toNat else none
def ww {α:Type}(xs:List α)(i:Int):Option α:=(xO xs.length i).bind fun j=>xs[j]?
theorem wX {n:Nat}{i:Int}{j:Nat}(h:xO n i=some j):seqIndex? i n=some j/\j<n/\-(n:Int)<=i/\i<n:=by
 unfold xO at h
 by_cases h0:0<=i
 ·rw[Bz h0]at h
  by_cases h1:i<n
  ·rw[Bz h1]at h
   have e:i.toNat=j:=BF h;exact⟨by rw[seqIndex_of h0 h1,e],by omega,by omega,h1⟩
  ·rw[By h1]at h;cases h
 ·rw[By h0]at h
  by_cases h1 : -(n:Int)<=i
  ·rw[Bz h1]at h
   have e:(i+n).toNat=j:=BF h;exact⟨by rw[seqIndex_neg (by omega) h1,e],by omega,h1,by omega⟩
  ·rw[By h1]at h;cases h
theorem nV {α:Type}{xs:List α}{i:Int}{v:α}(h:ww xs i=some v):∃ j,seqIndex? i xs.length=some j/\xs[j]? = some v/\j<xs.length/\-(xs.length:Int)<=i/\i<xs.length:=by
 unfold ww at h
 cases e:xO xs.length i with
 | none=>rw[e]at h;cases h
 | some j =>
  rw[e]at h;obtain⟨h1,h2,h3,h4⟩:=wX e;exact⟨j,h1,h,h2,h3,h4⟩
theorem gr {α:Type}{xs:List α}{j:Nat}{v:α}(h:xs[j]? = some v):ww xs (j:Int)=some v:=by
 have hj:j<xs.length:=(List.getElem?_eq_some_iff.mp h).1
 have e:xO xs.length (j:Int)=some j:=by
  unfold xO;rw[Bz (by omega),Bz (by omega)];simp
 unfold ww;rw[e];exact h
theorem uJ {α:Type}(xs:List α)(v:α):ww (xs++[v]) (-1)=some v:=by
 have hl:(xs++[v]).length=xs.length+1:=by simp
 have e:xO (xs++[v]).length (-1)=some xs.length:=by
  unfold xO;rw[hl,By (by decide),Bz (by omega)]
  congr 1
  omega
 unfold ww;rw[e]
 show (xs++[v])[xs.length]? = some v
 simp
def wA (b:Expr):Prop:=∀ o i,subscripted b false o i=operate [o,i] (getItem o i)
def Ac (X:Cx)(r:R2):Prop :=
 ∀ (value slice:Expr)(pins:List (Addr×Obj))(s:Shared)(σ:St)(H:Hp)(x y:V)(v u:Value)(Q:VK),ao X pins σ H s->aG x v->aG y u->r x y H Q ->
  subscripted slice false v u=operate [v,u] (getItem v u)->wpAny (model X.prog X.w) X.A (subscriptTail value slice v u) (EP X pins σ Q) X.xe s
def An (X:Cx)(id:String)(r:V->List V->Hp->VK->Prop):Prop :=
 ∀ (pins:List (Addr×Obj))(s:Shared)(σ:St)(H:Hp)(x:V)(xs:List V)(v:Value)(us:List Value)(Q:VK),ao X pins σ H s->aG x v->aL xs us->r x xs H Q ->
  wpAny (model X.prog X.w) X.A (call (.builtin id) (v::us)) (EP X pins σ Q) X.xe s
section
variable {X:Cx}{a b:Expr}{ta tb:TE}{pos:Pos}
theorem aT {r:R2}(hr:Ac X r)(ha:PE X a ta)(hb:PE X b tb)(hs:wA b):PE X (.Subscript a b pos) (Ah r ta tb):=by
 intro pins s σ H Q I h;exact Subscript_ (yg ha hb I h fun v u s2 x y H2 I2 rx ry q=>hr a b pins s2 σ H2 x y v u Q I2 rx ry q (hs _ _))
inductive A3 (K:PySem.W.Frag) (x y:V) (H:Hp) (Q:VK):Prop
 | mk (p:Addr) (xs:List V) (i:Int) (v:V) (e1:x=.ref p) (e2:y=.int i) (q:bd K H p xs) (a:ww xs i=some v) (h:Q v H):A3 K x y H Q
def AG (K:PySem.W.Frag):R2:=fun x y H Q=>A3 K x y H Q
inductive A4 (K:PySem.W.Frag) (x y:V) (H:Hp) (Q:VK):Prop
 | mk (p:Addr) (xs:List V) (i:Int) (v:V) (e1:x=.ref p) (e2:y=.int i) (q:cr K H p xs) (a:ww xs i=some v) (h:Q v H):A4 K x y H Q
def AI (K:PySem.W.Frag):R2:=fun x y H Q=>A4 K x y H Q
def AH:R2:=fun x y H Q=>∃ z i c,x=.str z/\y=.int i/\z.length<=sizeLine/\ww z.cps.toList i=some c/\Q (.str ⟨#[c]⟩) H
theorem oo:Ac X (AG X.K):=by
 intro value slice pins s σ H x y v u Q I rx ry h hs;obtain⟨p,xs,i,z,rfl,rfl,hq,he,q⟩:=h;cases rx;obtain⟨t,rfl⟩:=ry;obtain⟨its,r,pl,hz⟩:=I.list hq;obtain⟨j,h1,h2,h3,h4,h5⟩:=nV he;obtain⟨w,ew,rw'⟩:=r.get h2;have hl:=r.length;have hn:=kS;have fin:EP X pins σ Q w s:=⟨z,H,I,rw',q⟩
 by_cases h0:0<=i
 ·have hj:i.toNat=j:=by
   rw[seqIndex_of h0 h5]at h1;exact BF h1
  exact item_listR pl.isList h0 (by omega) (by rw[hj];simpa using ew) fin hs
 ·have hj:(i+(its.toArray.size:Int)).toNat=j:=by
   rw[seqIndex_neg (by omega) h4]at h1;rw[BK,<-hl];exact BF h1
  exact subscriptTail_builtinR (x:=w) pl.isList.typeIs slot_list_getitem.lookup
   (wpAny_getItem_list_neg (Q:=fun r s'=>r=w/\EP X pins σ Q r s') pl.isList (by omega) (by rw[BK]<;>omega) (by omega) (by rw[hj];simpa using ew) ⟨rfl,fin⟩) hs
theorem aK:Ac X (AI X.K):=by
 intro value slice pins s σ H x y v u Q I rx ry h hs;obtain⟨p,xs,i,z,rfl,rfl,hq,he,q⟩:=h;cases rx;obtain⟨t,rfl⟩:=ry;obtain⟨its,r,pl,hz⟩:=I.tuple hq;obtain⟨j,h1,h2,h3,h4,h5⟩:=nV he;obtain⟨w,ew,rw'⟩:=r.get h2;have hl:=r.length;have hn:=kS;have fin:EP X pins σ Q w s:=⟨z,H,I,rw',q⟩
 exact subscriptTail_builtinR (x:=w) pl.typeIs slot_tuple_getitem.lookup
  (getItem_tuple (j:=j) (Q:=fun r s'=>r=w/\EP X pins σ Q r s') pl (by omega) (by omega) (by rw[BK,<-hl];exact h1) (by simpa using ew) ⟨rfl,fin⟩) hs
theorem yp:Ac X AH:=by
 intro value slice pins s σ H x y v u Q I rx ry h hs;obtain⟨z,i,c,rfl,rfl,hz,he,q⟩:=h;obtain⟨t,rfl⟩:=rx;obtain⟨t',rfl⟩:=ry;obtain⟨j,h1,h2,h3,h4,h5⟩:=nV he
 have hl:z.cps.toList.length=z.length:=by simp[Str.length]
 rw[hl]at h1 h4 h5;have hn:=kS
 exact tail_any (typeIs_str s z t) slot_str_getitem.lookup (getItem_str (c:=c) (by
  have e1:decide (i < -(2 ^ 63:Int))=false:=BQ (by omega);have e2:decide (i>=2 ^ 63)=false:=BQ (by omega)
  rw[e1,e2,Bool.or_false]) (by rw[h1];simpa using h2) ⟨.str ⟨#[c]⟩,H,I.tok _,⟨_,rfl⟩,q⟩) hs
theorem o5 (lo hi:Option Int)(n:Nat):(sliceBounds lo hi none n).1=((HT.sIx n 0 lo:Nat):Int)/\(sliceBounds lo hi none n).2.1=((HT.sIx n n hi:Nat):Int)/\(sliceBounds lo hi none n).2.2=1:=by
 refine⟨?_,?_,rfl⟩
 ·cases lo with
  | none=>simp[sliceBounds,HT.sIx]
  | some i =>
   simp only[sliceBounds,HT.sIx,Option.getD_none,show (1:Int)>0 by decide,if_true]
   by_cases h:i<0
   ·simp only[h,if_true]<;>omega
   ·simp only[h,if_false]<;>omega
 ·cases hi with
  | none=>simp[sliceBounds,HT.sIx]
  | some i =>
   simp only[sliceBounds,HT.sIx,Option.getD_none,show (1:Int)>0 by decide,if_true]
   by_cases h:i<0
   ·simp only[h,if_true]<;>omega
   ·simp only[h,if_false]<;>omega
theorem mz (its:List Value)(lo hi:Option Int):slicePick its.toArray lo hi none=((its.drop (HT.sIx its.length 0 lo)).take (HT.sIx its.length its.length hi-HT.sIx its.length 0 lo)).toArray:=by
 obtain⟨h1,h2,h3⟩:=o5 lo hi its.toArray.size;unfold slicePick;rw[h1,h2,h3];simp only[sliceRange_one,pick_run,BK]<;>rfl
inductive zS (K:PySem.W.Frag) (x:V) (lo:Option Int) (hi:Option Int) (H:Hp) (Q:VK):Prop
 | mk (a:Addr) (xs:List V) (h_0:x=.ref a) (h_1:bd K H a xs) (h_2:∀ p,H p=none->Q (.ref p) (upd H p (.lst (gE xs lo hi)))):zS K x lo hi H Q
theorem o4:Ao X (zS X.K):=by
 intro pins s σ H x v vl vu lo hi sl Q I rx hs pl pu h;obtain⟨a,xs,rfl,hx,q⟩:=h;cases rx;obtain⟨its,r,ht,hz⟩:=I.list hx;have hlen:=r.length;refine⟨"list",_,slot_list_getitem.lookup,ht.isList.typeIs,?_⟩;refine wpAny_getItem_list_slice ht.isList hs pl pu .none (by simp) ?_ (by rw[BK]<;>omega);rw[mz,<-hlen];refine⟨.ref s.heap.objs.size,_,I.laid (t':=s.toks) (o:=.lst (gE xs lo hi)) (fun b ob q=>Heap.get?_push_of_some _ q) (BB _) ?_,rfl,q _ (I.hok.fresh (BB _))⟩;exact⟨B6 (jQ xs lo hi) hz,_,0,(r.drop (HT.sIx xs.length 0 lo)).take (HT.sIx xs.length xs.length hi-HT.sIx xs.length 0 lo),Heap.get?_push_size _ rfl⟩
def gM:V->Bool
 | .non=>true
 | .bl _=>true
 | .int _=>true
 | .str _=>true
 | _=>false
def uW:V->V->Bool
 | .non,.non=>true
 | .bl a,.bl b=>a == b
 | .bl a,.int b=>(if a then 1 else 0) == b
 | .int a,.bl b=>a == (if b then 1 else 0)
 | .int a,.int b=>a == b
 | .str a,.str b=>a == b
 | _,_=>false
theorem uU {A:Around}{s:Shared}{y x:V}{u v:Value}(ry:aG y u)(rx:aG x v)(fy:gM y=true)(fx:gM x=true):SeqAt.EqAt A s u v (uW y x):=by
 cases y with
 | non =>
  cases ry
  cases x with
  | non=>cases rx;exact SeqAt.EqAt.same _
  | bl b=>cases rx;exact SeqAt.EqAt.none_bool b
  | int b=>obtain⟨t,rfl⟩:=rx;exact SeqAt.EqAt.none_int b t
  | str b=>obtain⟨t,rfl⟩:=rx;exact SeqAt.EqAt.none_str b t
  | _=>exact absurd (show false=true from fx) BD
 | bl a =>
  cases ry
  cases x with
  | non=>cases rx;exact SeqAt.EqAt.bool_none a
  | bl b=>cases rx;exact SeqAt.EqAt.bool_bool a b
  | int b=>obtain⟨t,rfl⟩:=rx;exact SeqAt.EqAt.bool_int a b t
  | str b=>obtain⟨t,rfl⟩:=rx;exact SeqAt.EqAt.bool_str a b t
  | _=>exact absurd (show false=true from fx) BD
 | int a =>
  obtain⟨t',rfl⟩:=ry
  cases x with
  | non=>cases rx;exact SeqAt.EqAt.int_none a t'
  | bl b=>cases rx;exact SeqAt.EqAt.int_bool a t' b
  | int b=>obtain⟨t,rfl⟩:=rx;exact SeqAt.EqAt.int_int a t' b t
  | str b=>obtain⟨t,rfl⟩:=rx;exact SeqAt.EqAt.int_str a t' b t
  | _=>exact absurd (show false=true from fx) BD
 | str a =>
  obtain⟨t',rfl⟩:=ry
  cases x with
  | non=>cases rx;exact SeqAt.EqAt.str_none a t'
  | bl b=>cases rx;exact SeqAt.EqAt.str_bool a t' b
  | int b=>obtain⟨t,rfl⟩:=rx;exact SeqAt.EqAt.str_int a t' b t
  | str b=>obtain⟨t,rfl⟩:=rx;exact SeqAt.EqAt.str_str a t' b t
  | _=>exact absurd (show false=true from fx) BD
 | _=>exact absurd (show false=true from fy) BD
def wL (x:V)(u:Value):Bool:=match u with
 | .none=>uW .non x
 | .bool b=>uW (.bl b) x
 | .int i _=>uW (.int i) x
 | .str z _=>uW (.str z) x
 | _=>false
theorem uV {x y:V}{u:Value}(r:aG y u)(f:gM y=true):wL x u=uW y x:=by
 cases y with
 | non=>cases r;rfl
 | bl b=>cases r;rfl
 | int i=>obtain⟨t,rfl⟩:=r;rfl
 | str z=>obtain⟨t,rfl⟩:=r;rfl
 | _=>exact absurd (show false=true from f) BD
theorem nU {x:V}:∀ {xs:List V}{us:List Value},aL xs us->xs.all gM=true->us.any (wL x)=xs.any fun y=>uW y x
 | _,_,.nil,_=>rfl
 | y::xs,u::us,.cons r t,f=>by
  rw[List.all_cons,CQ]at f;rw[CO,CO,uV r f.1,nU t f.2]
theorem kU {A:Around}{s:Shared}{x:V}{v:Value}(rx:aG x v)(fx:gM x=true):∀ {xs:List V}{us:List Value},aL xs us->xs.all gM=true->∀ u∈us,SeqAt.EqAt A s u v (wL x u)
 | _,_,.nil,_=>fun u hu=>by cases hu
 | y::xs,u::us,.cons r t,f=>fun u' hu=>by
  rw[List.all_cons,CQ]at f;rcases BH.mp hu with rfl | hu
  ·rw[uV r f.1];exact uU r rx f.1 fx
  ·exact kU rx fx t f.2 u' hu
def zB (x:V)(xs:List V):Bool:=xs.any fun y=>uW y x
inductive A9 (K:PySem.W.Frag) (neg:Bool) (x:V) (y:V) (H:Hp) (Q:VK):Prop
 | mk (p:Addr) (xs:List V) (h_0:y=.ref p) (h_1:(bd K H p xs\/cr K H p xs)) (h_2:gM x=true) (h_3:xs.all gM=true) (h_4:Q (.bl (if neg then !zB x xs else zB x xs)) H):A9 K neg x y H Q
theorem uh:ja X (compareOp .In) (A9 X.K false):=by
 intro pins s σ H x y v u Q I rx ry h;obtain⟨p,xs,rfl,hq,fx,fs,q⟩:=h;cases ry;rcases hq with hq | hq
 ·obtain⟨its,r,pl,hz⟩:=I.list hq
  refine SeqAt.in_listAt (wL x) pl.isList (fun w hw=>kU rx fx r fs w (by simpa using hw)) ⟨.bl _,H,I,rfl,?_⟩;rw[show its.toArray.any (wL x)=its.any (wL x) by simp,nU r fs];exact q
 ·obtain⟨its,r,pl,hz⟩:=I.tuple hq
  refine SeqAt.in_tupleAt (wL x) pl (fun w hw=>kU rx fx r fs w (by simpa using hw)) ⟨.bl _,H,I,rfl,?_⟩;rw[show its.toArray.any (wL x)=its.any (wL x) by simp,nU r fs];exact q
theorem bO:fq X (.builtin "len") (fun xs H Q=>∃ p ys,xs=[.ref p]/\(bd X.K H p ys\/cr X.K H p ys)/\Q (.int ys.length) H):=by
 intro pins s σ H xs us Q I r h;obtain⟨p,ys,rfl,hq,q⟩:=h;obtain⟨u,rfl,rx⟩:=dM r;cases rx;have hn:=kS;rcases hq with hq | hq
 ·obtain⟨its,r',pl,hz⟩:=I.list hq
  have hlen:=r'.length;exact Calls.call_len_list pl.isList (by simp only[BK]<;>omega) ⟨.int ys.length,H,I.tok _,⟨s.toks+1,by rw[BK,hlen]⟩,q⟩
 ·obtain⟨its,r',pl,hz⟩:=I.tuple hq
  have hlen:=r'.length;exact len_tuple pl (by simp only[BK]<;>omega) ⟨.int ys.length,H,I.tok _,⟨s.toks+1,by rw[BK,hlen]⟩,q⟩
theorem nZ:fq X (.builtin "len") (fun xs H Q=>∃ z,xs=[.str z]/\z.length<=sizeLine/\Q (.int z.length) H):=by
 intro pins s σ H xs us Q I r h;obtain⟨z,rfl,hz,q⟩:=h;obtain⟨u,rfl,t,rfl⟩:=dM r;have hn:=kS;exact len_str (by omega) ⟨.int z.length,H,I.tok _,⟨_,rfl⟩,q⟩
theorem n6:fq X (.type "list") (fun xs H Q=>∃ p ys,xs=[.ref p]/\(bd X.K H p ys\/cr X.K H p ys)/\∀ l,H l=none->Q (.ref l) (upd H l (.lst ys))):=by
 intro pins s σ H xs us Q I r h;obtain⟨p,ys,rfl,hq,q⟩:=h;obtain⟨u,rfl,rx⟩:=dM r;cases rx
 have fin:∀ (its:List Value),aL ys its->ys.length<=sizeLine->∀ (h':Heap)(c':Nat),(∀ b o',s.heap.get? b=some o'->h'.get? b=some o') ->
   h'.get? s.heap.objs.size=some { cls:=.type "list",dict:=none,data:=.seq its.toArray c',slots:=#[] }->EP X pins σ Q (.ref s.heap.objs.size) { s with heap:=h' }:=fun its r' hz h' c' kp e =>
  ⟨.ref s.heap.objs.size,_,I.laid (t':=s.toks) kp (BB _) (show aM X.prog X.w _ h' _ (.lst ys) from ⟨hz,its,c',r',e⟩),rfl,q _ (I.hok.fresh (BB _))⟩
 rcases hq with hq | hq
 ·obtain⟨its,r',pl,hz⟩:=I.list hq
  have hlen:=r'.length;obtain⟨o,ho,hc,n,hd⟩:=pl.isList;exact call_list_seq p (.inl rfl) ho hc hd (fun h' c' kp e=>fin its r' hz h' c' kp e) (by simp only[BK]<;>omega)
 ·obtain⟨its,r',pl,hz⟩:=I.tuple hq
  have hlen:=r'.length;obtain⟨o,ho,hc,n,hd⟩:=pl;exact call_list_seq p (.inr rfl) ho hc hd (fun h' c' kp e=>fin its r' hz h' c' kp e) (by simp only[BK]<;>omega)
theorem lX:fq X (.type "tuple") (fun xs H Q=>∃ p ys,xs=[.ref p]/\((bd X.K H p ys/\∀ l,H l=none->Q (.ref l) (upd H l (.tup ys)))\/(cr X.K H p ys/\Q (.ref p) H))):=by
 intro pins s σ H xs us Q I r h;obtain⟨p,ys,rfl,h⟩:=h;obtain⟨u,rfl,rx⟩:=dM r;cases rx;rcases h with ⟨hq,q⟩ | ⟨hq,q⟩
 ·obtain⟨its,r',pl,hz⟩:=I.list hq
  have hlen:=r'.length;refine call_tuple_list pl.isList (fun h' kp=>?_) (by simp only[BK]<;>omega);have I1:ao X pins σ H { s with heap:=h' }:=I.kept (t':=s.toks) kp
  have I2:ao X pins σ (upd H h'.objs.size (.tup ys)) { s with heap:=h'.push { cls:=.type "tuple",data:=.seq its.toArray } } :=
   I1.laid (t':=s.toks) (fun b o e=>Heap.get?_push_of_some _ e) (BB _) (show aM X.prog X.w _ _ _ (.tup ys) from ⟨hz,its,r',IsTup.new _ _⟩)
  exact⟨.ref h'.objs.size,_,I2,rfl,q _ (I1.hok.fresh (BB _))⟩
 ·obtain⟨its,r',pl,hz⟩:=I.tuple hq
  exact call_tuple_same pl ⟨.ref p,H,I,rfl,q⟩
def Bc (K:PySem.W.Frag)(T:String)(x:V)(H:Hp):Prop:=match x with
 | .str _=>T="str"
 | .int _=>T="int"
 | .ref p=>(T="list"/\∃ xs,bd K H p xs)\/(T="tuple"/\∃ o,K.lookup p=some o/\o.cls=.type "tuple"/\o.dict=none) \/
   (T="dict"/\((∃ kvs,H p=some (.dK kvs))\/∃ kvs,H p=some (.dT kvs)))\/(T="set"/\∃ S n,H p=some (.set S n))
 | _=>False
theorem y4 {pins:List (Addr×Obj)}{σ:St}{H:Hp}{s:Shared}{T:String}{x:V}{v:Value}(I:ao X pins σ H s)(r:aG x v)(ty:Bc X.K T x H) :
  s.TypeIs v T/\∀ a,v=.ref a->∃ ob,s.heap.get? a=some ob/\ob.dict=none:=by
 cases x with
 | str z =>
  obtain⟨t,rfl⟩:=r;cases (show T="str" from ty);exact⟨typeIs_str s z t,fun _ e=>nomatch e⟩
 | int i =>
  obtain⟨t,rfl⟩:=r;cases (show T="int" from ty);exact⟨typeIs_int s i t,fun _ e=>nomatch e⟩
 | ref p =>
  cases r;rcases ty with ⟨rfl,xs,hq⟩ | ⟨rfl,o,hk,hc,hd⟩ | ⟨rfl,hk⟩ | ⟨rfl,S,n,hk⟩
  ·obtain⟨its,_,pl,_⟩:=I.list hq
   refine⟨pl.isList.typeIs,fun a e=>?_⟩;cases e;obtain⟨o,n,e,c,hd,_⟩:=pl;exact⟨o,e,hd⟩
  ·refine⟨⟨o,I.kIn p o hk,hc⟩,fun a e=>?_⟩
   cases e;exact⟨o,I.kIn _ o hk,hd⟩
  ·have z:∃ o,s.heap.get? p=some o/\o.ExactDict:=by
    rcases hk with ⟨kvs,hk⟩ | ⟨kvs,hk⟩
    ·obtain⟨_,_,_,_,o,_,_,e,ex,_⟩:=I.hok p _ hk
     exact⟨o,e,ex⟩
    ·obtain⟨_,_,_,_,o,_,_,e,ex,_⟩:=I.hok p _ hk
     exact⟨o,e,ex⟩
   obtain⟨o,e,ex⟩:=z;refine⟨⟨o,e,ex.1⟩,fun a e2=>?_⟩;cases e2;exact⟨o,e,ex.2.1⟩
  ·obtain⟨o,_,_,_,e,ex,_⟩:=I.hok p _ hk
   refine⟨⟨o,e,ex.1⟩,fun a e2=>?_⟩;cases e2;exact⟨o,e,ex.2.1⟩
 | _=>exact False.elim ty
def AN (K:PySem.W.Frag)(T:String)(r:V->List V->Hp->VK->Prop)(to:TE)(t:TA):TE:=fun σ H Q=>to σ H fun x H1=>Bc K T x H1/\t σ H1 fun xs H2=>r x xs H2 Q
variable {o e:Expr}{es:List Expr}{to:TE}{t:TA}{name:Str}{apos cpos:Pos}{T id:String}{r:V->List V->Hp->VK->Prop}
theorem iE (pa:PlainAttrs T)(slot:Slot T name id)(hty:typeOf (.builtin id)=pure (.type "method_descriptor"))(hm:An X id r)(ho:PE X o to)(ha:PA X (e::es) t)
  (hbase:attributeBase o name X.env (eval o X.env)=eval o X.env:=by rfl)
  (hfew:((backTo cpos (starEach (e::es) X.env)).all (fun x=>!x.1)&&(backToKw cpos (keywordEach [] X.env)).all (fun x=>x.1.isSome)
   && decide ((e::es).length+([]:List Keyword).length+(if ([]:List Keyword).isEmpty then 0 else 1)<30))=true:=by rfl)
  (hline:(apos.endLine == cpos.line)=true:=by rfl) (hs:starEach (e::es) X.env=(false,eval e X.env)::starEach es X.env:=by rfl) (hplain:(backTo cpos (starEach es X.env)).any (·.1)=false:=by rfl) :
  PE X (.Call (.Attribute o name apos) (e::es) [] cpos) (AN X.K T r to t):=by
 intro pins s σ H Q I h;refine wpAny_Call_method_late hbase hfew hline rfl (aS (ho pins s σ H _ I h) fun v s1 ⟨x,H1,I1,r1,ty,q1⟩=>?_);obtain⟨h1,h2⟩:=y4 I1 r1 ty;refine⟨T,id,pa,slot,hty,h1,h2,?_⟩;have hA:=ha cpos pins s1 σ H1 _ I1 q1;rw[hs]at hA ⊢;refine CS (by show (false||(backTo cpos (starEach es X.env)).any (·.1))=false;rw[hplain]<;>rfl) (Cw ?_);exact aS hA fun us s2 ⟨vs,H2,I2,r2,q2⟩=>hm pins s2 σ H2 x vs v us Q I2 r1 r2 q2
end
def Be (X:Cx)(id:String)(r:V->List V->Hp->VK->Prop):Prop :=
 ∀ (pins:List (Addr×Obj))(s:Shared)(σ:St)(H:Hp)(x:V)(xs:List V)(v:Value)(us:List Value)(Q:VK),ao X pins σ H s->aG x v->aL xs us->r x xs H Q ->
  wpAny (model X.prog X.w) X.A (call (.builtin id) (v::us)) (EP X pins σ Q) X.xe s
theorem aL.one:∀ {x:V}{us:List Value},aL [x] us->∃ u,us=[u]/\aG x u
 | _,_,.cons r .nil=>⟨_,rfl,r⟩
theorem aL.two:∀ {x y:V}{us:List Value},aL [x,y] us->∃ u v,us=[u,v]/\aG x u/\aG y v
 | _,_,_,.cons r (.cons q .nil)=>⟨_,_,rfl,r,q⟩
section
variable {X:Cx}{pins:List (Addr×Obj)}{σ:St}{H:Hp}{s:Shared}{l b:Addr}{xs ys zs:List V}
theorem ao.lset {its its':List Value}{n:Nat}{f:Array Value->Array Value}{t':Nat}(I:ao X pins σ H s)(hH:H l=some (.lst xs))
  (e:s.heap.get? l=some { cls:=.type "list",data:=.seq its.toArray n }) (hf:f its.toArray=its'.toArray) (hv:aL ys its') (hz:ys.length<=sizeLine) :
  ao X pins σ (upd H l (.lst ys)) { s with heap:=s.heap.update l (Obj.mapSeq f),toks:=t' }:=by
 have q:=PySem.IsL.update e f;rw[hf]at q;refine I.write (x:=l) (e:=l) (by rw[hH];exact trivial) (.inl rfl) (fun b' u hb hu=>(Heap.get?_update_other s.heap (Obj.mapSeq f) (BL hb)).trans hu) ⟨_,q⟩ ?_;exact⟨hz,its',_,hv,q⟩
theorem ao.lnew {its:List Value}{t':Nat}(I:ao X pins σ H s)(hv:aL ys its)(hz:ys.length<=sizeLine) :
  ao X pins σ (upd H s.heap.objs.size (.lst ys)) { s with heap:=s.heap.push { cls:=.type "list",data:=.seq its.toArray },toks:=t' } :=
 I.laid (fun _ _ q=>Heap.get?_push_of_some _ q) (BB _) ⟨hz,its,0,hv,Heap.get?_push_size _ rfl⟩
theorem ao.fresh (I:ao X pins σ H s):H s.heap.objs.size=none:=I.hok.fresh (BB _)
theorem ao.lstM (I:ao X pins σ H s)(hH:H l=some (.lst xs)):xs.length<=sizeLine/\∃ (its:List Value)(n:Nat),aL xs its/\xs.length=its.length/\s.heap.get? l=some { cls:=.type "list",data:=.seq its.toArray n }:=by
 obtain⟨z,its,n,r,e⟩:=I.hok l _ hH;exact⟨z,its,n,r,r.length,e⟩
end
section
variable {X:Cx}
inductive sE (x:V) (vs:List V) (H:Hp) (Q:VK):Prop
 | mk (l:Addr) (xs:List V) (y:V) (h_0:x=.ref l) (h_1:vs=[y]) (h_2:H l=some (.lst xs)) (h_3:xs.length<sizeLine) (h_4:Q .non (upd H l (.lst (xs++[y])))):sE x vs H Q
theorem cK:Be X "list.append" sE:=by
 intro pins s σ H x vs v us Q I rx rv h;obtain⟨l,xs,y,rfl,rfl,hH,hz,q⟩:=h;cases rx;obtain⟨u,rfl,ru⟩:=rv.one;obtain⟨z,its,n,r,hl,e⟩:=I.lstM hH;refine call_meets F.slot_list_append ⟨_,e,rfl⟩ F.entry_list_append (F.args_list_append_2 _ _) (PySem.list_append l its.toArray n u (by rw[BK];omega)) ⟨e,?_⟩;refine⟨.non,_,I.lset (its':=its++[u]) hH e (by simp) (r.append (.cons ru .nil)) ?_,rfl,q⟩;rw[BR,CT];omega
inductive zP (x:V) (y:V) (H:Hp) (Q:VK):Prop
 | mk (l b:Addr) (xs zs:List V) (h_0:x=.ref l) (h_1:y=.ref b) (h_2:H l=some (.lst xs)) (h_3:H b=some (.lst zs)) (h_4:xs.length+zs.length<=sizeLine) (h_5:∀ p,H p=none->Q (.ref p) (upd H p (.lst (xs++zs)))):zP x y H Q
theorem yE:ja X (binaryOp .Add) zP:=by
 intro pins s σ H x y v u Q I rx ry h;obtain⟨l,b,xs,zs,rfl,rfl,hH,hB,hz,q⟩:=h;cases rx;cases ry;obtain⟨z,its,n,r,hl,e⟩:=I.lstM hH;obtain⟨z2,its2,n2,r2,hl2,e2⟩:=I.lstM hB;refine PySem.P.add_list e e2 ?_ (by rw[BK,BK];omega)
 have ea:its.toArray++its2.toArray=(its++its2).toArray:=by simp
 rw[ea];exact⟨.ref _,_,I.lnew (t':=s.toks) (r.append r2) (by rw[BR];omega),rfl,q _ I.fresh⟩
end
section
variable {κ:Type} [DecidableEq κ]
def b5 (kvs:List (κ×V))(k:κ):Option V:=(kvs.find? fun kv=>decide (kv.1=k)).map (·.2)
def dN (kvs:List (κ×V))(k:κ)(v:V):List (κ×V) :=
 if (kvs.any fun kv=>decide (kv.1=k))=true then kvs.map (fun kv=>if kv.1=k then (kv.1,v) else kv) else kvs++[(k,v)]
def kK (kvs:List (κ×V))(k:κ):List (κ×V):=kvs.filter fun kv=>decide (kv.1≠k)
theorem gm {p:κ×V}{r:List (κ×V)}{k:κ}(e:p.1=k):b5 (p::r) k=some p.2:=by simp[b5,List.find?_cons,e]
theorem gl {p:κ×V}{r:List (κ×V)}{k:κ}(e:¬ p.1=k):b5 (p::r) k=b5 r k:=by simp[b5,List.find?_cons,e]
theorem gk (k:κ):∀ kvs:List (κ×V),(kvs.any fun kv=>decide (kv.1=k))=(b5 kvs k).isSome
 | []=>rfl
 | p::r=>by
  rw[CO]
  by_cases e:p.1=k
  ·simp only[gm e,BI e,Bool.true_or,Option.isSome_some]
  ·rw[gl e,BQ e,Bool.false_or];exact gk k r
theorem fV (kvs:List (κ×V))(k:κ)(v:V):(dN kvs k v).length<=kvs.length+1:=by
 unfold dN;split
 ·rw[Bx];omega
 ·rw[BR,BU,List.length_nil];omega
theorem vQ {kvs:List (κ×V)}{k:κ}(v:V)(h:b5 kvs k=none):dN kvs k v=kvs++[(k,v)]:=by
 unfold dN;rw[gk,h];exact By (by decide)
theorem d4.isSome_eq {o:Option V}{u:Option Value}(r:d4 o u):o.isSome=u.isSome:=by
 cases o with
 | none=>cases u with
  | none=>rfl
  | some _=>exact (show False from r).elim
 | some _=>cases u with
  | none=>exact (show False from r).elim
  | some _=>rfl
theorem d4.getD {o:Option V}{u:Option Value}{d:V}{d':Value}(r:d4 o u)(rd:aG d d'):aG (o.getD d) (u.getD d'):=by
 cases o with
 | none=>cases u with
  | none=>exact rd
  | some _=>exact (show False from r).elim
 | some _=>cases u with
  | none=>exact (show False from r).elim
  | some _=>exact r
theorem KV.val {kvs:List (κ×V)}{vs:List (κ×Value)}(r:KV kvs vs)(k:κ):d4 (b5 kvs k) (valueAt vs k):=by
 unfold KV at r
 induction r with
 | nil=>exact True.intro
 | @cons p q ps qs h t ih =>
  obtain⟨h1,h2⟩:=h
  by_cases e:p.1=k
  ·have e':q.1=k:=h1.symm.trans e
   have b:valueAt (q::qs) k=some q.2:=by simp[valueAt,List.find?_cons,e']
   rw[gm e,b];exact h2
  ·have e':¬ q.1=k:=fun z=>e (h1.trans z)
   have b:valueAt (q::qs) k=valueAt qs k:=by simp[valueAt,List.find?_cons,e']
   rw[gl e,b];exact ih
theorem KV.any {kvs:List (κ×V)}{vs:List (κ×Value)}(r:KV kvs vs)(k:κ):(kvs.any fun kv=>decide (kv.1=k))=vs.any fun kv=>decide (kv.1=k):=by
 unfold KV at r
 induction r with
 | nil=>rfl
 | cons h t ih=>rw[CO,CO,ih,h.1]
theorem KV.repl {kvs:List (κ×V)}{vs:List (κ×Value)}(r:KV kvs vs)(k:κ){y:V}{u:Value}(ry:aG y u) :
  KV (kvs.map fun kv=>if kv.1=k then (kv.1,y) else kv) (vs.map fun kv=>if kv.1=k then (kv.1,u) else kv):=by
 unfold KV at r ⊢
 induction r with
 | nil=>exact .nil
 | @cons p q ps qs h t ih =>
  rw[BO,BO];refine .cons ?_ ih;obtain⟨h1,h2⟩:=h
  by_cases e:p.1=k
  ·rw[Bz e,Bz (h1.symm.trans e)];exact⟨h1,ry⟩
  ·rw[By e,By (fun z=>e (h1.trans z))];exact⟨h1,h2⟩
theorem KV.put {kvs:List (κ×V)}{vs:List (κ×Value)}(r:KV kvs vs)(k:κ){y:V}{u:Value}(ry:aG y u):KV (dN kvs k y) (stored vs k u):=by
 unfold dN stored;rw[r.any k]
 by_cases e:(vs.any fun kv=>decide (kv.1=k))=true
 ·rw[Bz e,Bz e];exact r.repl k ry
 ·rw[By e,By e];exact Paired.snoc r ⟨rfl,ry⟩
theorem KV.drop {kvs:List (κ×V)}{vs:List (κ×Value)}(r:KV kvs vs)(k:κ):KV (kK kvs k) (without vs k):=by
 unfold KV at r ⊢;unfold kK without
 induction r with
 | nil=>exact .nil
 | @cons p q ps qs h t ih =>
  obtain⟨h1,h2⟩:=h;rw[List.filter_cons,List.filter_cons]
  by_cases e:p.1=k
  ·have a:¬ decide (p.1≠k)=true:=by simp[e]
   have b:¬ decide (q.1≠k)=true:=by simp[h1.symm.trans e]
   rw[By a,By b];exact ih
  ·have e':¬ q.1=k:=fun z=>e (h1.trans z)
   have a:decide (p.1≠k)=true:=by simp[e]
   have b:decide (q.1≠k)=true:=by simp[e']
   rw[Bz a,Bz b];exact .cons ⟨h1,h2⟩ ih
theorem KV.keys {kvs:List (κ×V)}{vs:List (κ×Value)}(r:KV kvs vs):kvs.map (·.1)=vs.map (·.1):=by
 unfold KV at r
 induction r with
 | nil=>rfl
 | cons h t ih=>rw[BO,BO,ih,h.1]
theorem KV.length {kvs:List (κ×V)}{vs:List (κ×Value)}(r:KV kvs vs):kvs.length=vs.length:=BM r
theorem uR (kvs:List (κ×V))(k:κ):(kK kvs k).length<=kvs.length:=List.length_filter_le _ _
end
theorem jR {P:Program}{w:World}{k:bv}{u:Value}(r:aG (kV k) u):(aQ P w).is k u=true:=by
 cases k with
 | inl i=>obtain⟨t,e⟩:=(show ∃ t,u=Value.int i t from r);subst e;exact pI P w i t
 | inr x=>obtain⟨t,e⟩:=(show ∃ t,u=Value.str x t from r);subst e;exact dO P w x t
theorem m5 {P:Program}{w:World}:∀ {ks:List bv}{us:List Value},aL (ks.map kV) us->ItemsAre (aQ P w) ks us
 | [],_,r=>by rw[List.map_nil]at r;cases r;exact .nil
 | k::ks,_,r=>by
  rw[BO]at r
  cases r with
  | cons h t=>exact .cons (jR h) (m5 t)
abbrev KT (H:Hp):List (List bv×V)->List (List bv×Addr×Value)->Prop:=Paired fun p q=>p.1=q.1/\H q.2.1=some (.tup (p.1.map kV))/\aG p.2 q.2.2
theorem KT.val {H:Hp}{kvs:List (List bv×V)}{xs:List (List bv×Addr×Value)}(r:KT H kvs xs)(k:List bv):d4 (b5 kvs k) ((atKey xs k).map (·.2)):=by
 induction r with
 | nil=>exact True.intro
 | @cons p q ps qs h t ih =>
  obtain⟨h1,_,h2⟩:=h
  by_cases e:p.1=k
  ·have e':q.1=k:=h1.symm.trans e
   have b:atKey (q::qs) k=some q.2:=by simp[atKey,List.find?_cons,e']
   rw[gm e,b];exact h2
  ·have e':¬ q.1=k:=fun z=>e (h1.trans z)
   have b:atKey (q::qs) k=atKey qs k:=by simp[atKey,List.find?_cons,e']
   rw[gl e,b];exact ih
theorem KT.repl {H:Hp}{kvs:List (List bv×V)}{xs:List (List bv×Addr×Value)}(r:KT H kvs xs)(k:List bv){y:V}{u:Value}(ry:aG y u) :
  KT H (kvs.map fun kv=>if kv.1=k then (kv.1,y) else kv) (xs.map (putAt k u)):=by
 induction r with
 | nil=>exact .nil
 | @cons p q ps qs h t ih =>
  rw[BO,BO];refine .cons ?_ ih;obtain⟨h1,h2,h3⟩:=h;unfold putAt
  by_cases e:p.1=k
  ·rw[Bz e,Bz (h1.symm.trans e)];exact⟨h1,h2,ry⟩
  ·rw[By e,By (fun z=>e (h1.trans z))];exact⟨h1,h2,h3⟩
theorem KT.put {H:Hp}{kvs:List (List bv×V)}{xs:List (List bv×Addr×Value)}(r:KT H kvs xs)(k:List bv){b:Addr}{y:V}{u:Value}(hb:H b=some (.tup (k.map kV)))(ry:aG y u) :
  KT H (dN kvs k y) (storedH xs k b u):=by
 have e:(kvs.any fun kv=>decide (kv.1=k))=(atKey xs k).isSome:=by
  rw[gk,(r.val k).isSome_eq,Option.isSome_map]
 unfold dN storedH;rw[e]
 by_cases q:(atKey xs k).isSome=true
 ·rw[Bz q,Bz q];exact r.repl k ry
 ·rw[By q,By q];exact Paired.snoc r ⟨rfl,hb,ry⟩
theorem KT.keeps {H H':Hp}{kvs:List (List bv×V)}{xs:List (List bv×Addr×Value)}(r:KT H kvs xs)(ht:∀ b ys,H b=some (.tup ys)->H' b=some (.tup ys)):KT H' kvs xs :=
 Paired.mapP r fun _ _ z=>⟨z.1,ht _ _ z.2.1,z.2.2⟩
section
variable {P:Program}{w:World}{H:Hp}{h:Heap}{a:Addr}
theorem xU {u:HO}(ok:fD P w H h)(e:Rd H a u):aM P w H h a u:=e.ok ok
theorem kJ {kvs:List (bv×V)}(ok:fD P w H h)(e:Rd H a (.dK kvs)):kvs.length<=sizeLine/\(a == sysModules)=false/\∃ vs,KV kvs vs/\h.DictOf (aQ P w) a vs :=
 show aM P w H h a (.dK kvs) from xU ok e
theorem uP {kvs:List (bv×V)}(ok:fD P w H h)(e:H a=some (.dK kvs)):kvs.length<=sizeLine/\(a == sysModules)=false/\∃ vs,KV kvs vs/\h.DictOf (aQ P w) a vs:=kJ ok (.inl e)
theorem jh {ks:List bv}(ok:fD P w H h)(e:H a=some (.tup (ks.map kV))):(tupleKind (aQ P w)).is h ks a:=by
 obtain⟨_,its,r,o,h1,h2,n,h3⟩:=(show aM P w H h a (.tup (ks.map kV)) from ok a _ e);exact⟨o,its.toArray,n,h1,h2,h3,by simpa using m5 r⟩
theorem kM {kvs:List (List bv×V)}(ok:fD P w H h)(e:Rd H a (.dT kvs)):kvs.length<=sizeLine/\(a == sysModules)=false /\
  ∃ xs,KT H kvs xs/\h.DictOfH (tupleKind (aQ P w)) a xs:=by
 obtain⟨z,y,xs,r,o,es,ep,h1,h2,h3,h4,h5⟩:=(show aM P w H h a (.dT kvs) from xU ok e);refine⟨z,y,xs,r,o,es,ep,h1,h2,h3,h4,fun x hx=>?_,h5⟩
 have all:∀ {l:List (List bv×V)}{m:List (List bv×Addr×Value)},KT H l m->∀ x∈m,(tupleKind (aQ P w)).is h x.1 x.2.1:=by
  intro l m q
  induction q with
  | nil=>intro x hx;exact nomatch hx
  | @cons p q ps qs hq t ih =>
   intro x hx;rcases BH.mp hx with e | hx
   ·subst e
    exact jh ok (by rw[<-hq.1];exact hq.2.1)
   ·exact ih x hx
 exact all r x hx
theorem zu {kvs:List (List bv×V)}(ok:fD P w H h)(e:H a=some (.dT kvs)):kvs.length<=sizeLine/\(a == sysModules)=false /\
  ∃ xs,KT H kvs xs/\h.DictOfH (tupleKind (aQ P w)) a xs:=kM ok (.inl e)
end
def bS (H:Hp)(a:Addr)(y:V)(r:Option V):Prop :=
 (∃ kvs k,Rd H a (.dK kvs)/\y=kV k/\r=b5 kvs k)\/∃ kvs k b,Rd H a (.dT kvs)/\y=.ref b/\H b=some (.tup (k.map kV))/\r=b5 kvs k
def ii (H:Hp)(a:Addr)(y v:V)(H':Hp):Prop :=
 (∃ kvs k,H a=some (.dK kvs)/\y=kV k/\kvs.length<sizeLine/\H'=upd H a (.dK (dN kvs k v))) \/
 ∃ kvs k b,H a=some (.dT kvs)/\y=.ref b/\H b=some (.tup (k.map kV))/\kvs.length<sizeLine/\H'=upd H a (.dT (dN kvs k v))
theorem bS.k {H:Hp}{a:Addr}{kvs:List (bv×V)}{k:bv}(e:H a=some (.dK kvs)):bS H a (kV k) (b5 kvs k):=.inl ⟨kvs,k,.inl e,rfl,rfl⟩
theorem bS.t {H:Hp}{a b:Addr}{kvs:List (List bv×V)}{k:List bv}(e:H a=some (.dT kvs))(eb:H b=some (.tup (k.map kV))):bS H a (.ref b) (b5 kvs k):=.inr ⟨kvs,k,b,.inl e,rfl,eb,rfl⟩
theorem ii.k {H:Hp}{a:Addr}{kvs:List (bv×V)}{k:bv}{v:V}(e:H a=some (.dK kvs))(hl:kvs.length<sizeLine):ii H a (kV k) v (upd H a (.dK (dN kvs k v))):=.inl ⟨kvs,k,e,rfl,hl,rfl⟩
theorem ii.t {H:Hp}{a b:Addr}{kvs:List (List bv×V)}{k:List bv}{v:V}(e:H a=some (.dT kvs))(eb:H b=some (.tup (k.map kV)))(hl:kvs.length<sizeLine) :
  ii H a (.ref b) v (upd H a (.dT (dN kvs k v))):=.inr ⟨kvs,k,b,e,rfl,eb,hl,rfl⟩
section
variable {X:Cx}{pins:List (Addr×Obj)}{σ:St}{H:Hp}{s:Shared}{a:Addr}{y v:V}{u r:Value}{o:Option V}{A:Around}{E:Value->Shared->Prop}
theorem ao.big (I:ao X pins σ H s):sysModules<s.heap.objs.size:=by
 have h:mainGlobals<s.heap.objs.size:=(I.mod.glob.keeps I.bk).lt;exact Nat.lt_trans (by decide) h
theorem tz {Q:Value->Shared->Prop}(hu:A.units+1<cLine)(I:ao X pins σ H s)(g:bS H a y (some v))(ry:aG y u)(h:∀ w' s',ao X pins σ H s'->aG v w'->Q w' s') :
  wpAny (model X.prog X.w) A (getItem (.ref a) u) Q E s:=by
 rcases g with ⟨kvs,k,e,ey,l⟩ | ⟨kvs,k,b,e,ey,eb,l⟩
 ·subst ey
  obtain⟨z,hd,vs,rel,dd⟩:=kJ I.hok e;obtain⟨w',hw,rw'⟩:=d4.some_of (v:=v) (o:=valueAt vs k) (by rw[l];exact rel.val k);exact wpAny_getItem_of (jR ry) dd.mapOf hw (h w' _ (I.tok _) rw')
 ·subst ey
  cases (show u=Value.ref b from ry);obtain⟨z,hd,xs,rel,dd⟩:=kM I.hok e;obtain⟨w',hw,rw'⟩:=d4.some_of (v:=v) (o:=(atKey xs k).map (·.2)) (by rw[l];exact rel.val k);obtain⟨p,hp,hp2⟩:=Option.map_eq_some_iff.mp hw;refine wpAny_getItem_heap (C5 hu) (jh I.hok eb) dd hp ?_;rw[hp2];exact h w' _ (I.tok _) rw'
theorem Av {Q:Value->Shared->Prop}(hu:A.units+1<cLine)(I:ao X pins σ H s)(g:bS H a y o)(ry:aG y u)(h:∀ s',ao X pins σ H s'->Q (.bool o.isSome) s') :
  wpAny (model X.prog X.w) A (compareOp .In u (.ref a)) Q E s:=by
 rcases g with ⟨kvs,k,e,ey,l⟩ | ⟨kvs,k,b,e,ey,eb,l⟩
 ·subst ey
  obtain⟨z,hd,vs,rel,dd⟩:=kJ I.hok e;refine wpAny_in_of (jR ry) hd dd.mapOf ?_;rw[<-(rel.val k).isSome_eq,<-l];exact h _ (I.tok _)
 ·subst ey
  cases (show u=Value.ref b from ry);obtain⟨z,hd,xs,rel,dd⟩:=kM I.hok e;refine wpAny_in_heap (C5 hu) (jh I.hok eb) hd dd ?_;have q:=(rel.val k).isSome_eq;rw[Option.isSome_map]at q;rw[<-q,<-l];exact h _ (I.tok _)
theorem wJ {Q:Value->Shared->Prop}(hu:A.units+1<cLine)(I:ao X pins σ H s)(g:bS H a y o)(ry:aG y u)(h:∀ s',ao X pins σ H s'->Q (.bool (!o.isSome)) s') :
  wpAny (model X.prog X.w) A (compareOp .NotIn u (.ref a)) Q E s:=by
 rcases g with ⟨kvs,k,e,ey,l⟩ | ⟨kvs,k,b,e,ey,eb,l⟩
 ·subst ey
  obtain⟨z,hd,vs,rel,dd⟩:=kJ I.hok e;refine wpAny_notIn_of (jR ry) hd dd.mapOf ?_;rw[<-(rel.val k).isSome_eq,<-l];exact h _ (I.tok _)
 ·subst ey
  cases (show u=Value.ref b from ry);obtain⟨z,hd,xs,rel,dd⟩:=kM I.hok e;refine wpAny_notIn_heap (C5 hu) (jh I.hok eb) hd dd ?_;have q:=(rel.val k).isSome_eq;rw[Option.isSome_map]at q;rw[<-q,<-l];exact h _ (I.tok _)
theorem kf {h':Heap}{t':Nat}{ob:HO}(I:ao X pins σ H s)(mu:zp (H a))(hs:Heap.SameBut a s.heap h')(he:∃ q,h'.get? a=some q)(new:aM X.prog X.w (upd H a ob) h' a ob) :
  ao X pins σ (upd H a ob) { s with heap:=h',toks:=t' } :=
 I.write (x:=a) (e:=a) mu (.inl rfl) (fun b q hb z=>(hs.2 b hb).trans z) he new
theorem qy {P:Program}{w:World}{H':Hp}{h':Heap}{kvs:List (bv×V)}{vs:List (bv×Value)}(z:kvs.length<=sizeLine)(hd:(a == sysModules)=false)(rel:KV kvs vs)(dd:h'.DictOf (aQ P w) a vs) :
  aM P w H' h' a (.dK kvs):=⟨z,hd,vs,rel,dd⟩
theorem tD {H':Hp}{Q:Unit->Shared->Prop}(hu:A.units+1<cLine)(I:ao X pins σ H s)(g:ii H a y v H')(ry:aG y u)(rv:aG v r)(h:∀ s',ao X pins σ H' s'->Q () s') :
  wpAny (model X.prog X.w) A (setItem (.ref a) u r) Q E s:=by
 rcases g with ⟨kvs,k,e,ey,l,eH⟩ | ⟨kvs,k,b,e,ey,eb,l,eH⟩
 ·subst ey eH
  obtain⟨z,hd,vs,rel,dd⟩:=uP I.hok e
  have hz:vs.length<=sizeLine:=by rw[<-rel.length];exact z
  have hl:(dN kvs k v).length<=sizeLine:=by have:=fV kvs k v;omega
  refine wpAny_setItem_pairs (hsz:=hz) (jR ry) dd fun h' dd' hs=>h _ ?_;have he:∃ q,h'.get? a=some q:=let ⟨q,_,_,hq,_⟩:=dd';⟨q,hq⟩;exact kf I (by rw[e];exact True.intro) hs he (qy hl hd (rel.put k rv) dd')
 ·subst ey eH
  cases (show u=Value.ref b from ry);obtain⟨z,hd,xs,rel,dd⟩:=zu I.hok e
  have hz:xs.length<=sizeLine:=by rw[<-BM rel];exact z
  have hl:(dN kvs k v).length<=sizeLine:=by have:=fV kvs k v;omega
  refine wpAny_setItem_heap (hsz:=hz) (C5 hu) (jh I.hok eb) dd fun h' dd' hs=>h _ ?_;obtain⟨q,es,ep,hq,h2,h3,h4,_,h5⟩:=dd';refine kf I (by rw[e];exact True.intro) hs ⟨q,hq⟩ ⟨hl,hd,_,(rel.put k eb rv).keeps fun c ys ec=>?_,q,es,ep,hq,h2,h3,h4,h5⟩;rw[ac (b9 ec e (fun z=>nomatch z))];exact ec
end
section
variable {X:Cx}{pins:List (Addr×Obj)}{σ:St}{H:Hp}{s:Shared}{a:Addr}{kvs:List (bv×V)}{k:bv}{u:Value}{A:Around}{E:Value->Shared->Prop}
theorem zt {v:V}{more:List Value}{Q:Value->Shared->Prop}(I:ao X pins σ H s)(e:H a=some (.dK kvs))(ry:aG (kV k) u)(l:b5 kvs k=some v)(hm:more=[]\/∃ x,more=[x])
  (h:∀ w' s',ao X pins σ (upd H a (.dK (kK kvs k))) s'->aG v w'->Q w' s'):wpAny (model X.prog X.w) A (call (.builtin "dict.pop") (.ref a::u::more)) Q E s:=by
 obtain⟨z,hd,vs,rel,dd⟩:=uP I.hok e;obtain⟨w',hw,rw'⟩:=d4.some_of (v:=v) (o:=valueAt vs k) (by rw[<-l];exact rel.val k)
 have hp:(keyPart u).isSome=true:=by
  cases k with
  | inl i=>obtain⟨t,q⟩:=(show ∃ t,u=Value.int i t from ry);subst q;rfl
  | inr x=>obtain⟨t,q⟩:=(show ∃ t,u=Value.str x t from ry);subst q;rfl
 have ha:argsOk "dict.pop" ⟨.ref a::u::more,[]⟩:=by
  rcases hm with q | ⟨x,q⟩
  ·subst q;exact PySem.F.args_dict_pop_2 _ _
  ·subst q;exact PySem.F.args_dict_pop_3 _ _ _
 refine call_meetsIn PySem.F.slot_dict_pop dd.typeIs PySem.F.entry_dict_pop ha (meets_dict_pop_there (aQ X.prog X.w) a (jR ry) more hm hp)
  ⟨vs,w',dd,by rw[<-rel.length];exact z,hw,fun h' dd' hs=>h w' _ ?_ rw'⟩
 have he:∃ q,h'.get? a=some q:=let ⟨q,_,_,hq,_⟩:=dd';⟨q,hq⟩;exact kf I (by rw[e];exact True.intro) hs he (qy (B6 (uR kvs k) z) hd (rel.drop k) dd')
end
def zq (i:Expr):Prop:=∀ ov iv,subscripted i false ov iv=operate [ov,iv] (getItem ov iv)
theorem xC {prog:Program}{w:World}{A:Around}{E:Value->Shared->Prop}{s:Shared}{env:Env}{value slice:Expr}{pos:Pos}{T id:String}{Q:Value->Shared->Prop}
  (hl:typeLookup (.type T) "__getitem__" = pure (some (.builtin id))) (hs:zq slice)
  (h:wpAny (model prog w) A (eval value env) (fun o s₁=>wpAny (model prog w) A (eval slice env) (fun i s₂=>s₂.TypeIs o T/\wpAny (model prog w) A (getItem o i) Q E s₂) E s₁) E s) :
  wpAny (model prog w) A (eval (.Subscript value slice pos) env) Q E s:=by
 refine Subscript_ (BS h (fun o s₁ h₁=>BS h₁ (fun i s₂ h₂=>?_) fun _ _ x=>x) fun _ _ x=>x);obtain⟨hT,h₂⟩:=h₂;unfold subscriptTail;refine Bw ?_;rw[getitemInPython_of_ne hT.not_modules];refine Bw (wpAny_specialOf hT hl ?_)
 have fin:wpAny (model prog w) A (subscripted slice false o i) (fun r s₃=>wpAny (model prog w) A (letTemporaryGo value o r >>= fun _=>pure r) Q E s₃) E s₂:=by
  rw[hs o i];exact wpAny_operating (BS h₂ (fun r s₃ h₃=>Bw (wpAny_letTemporaryGo (BA h₃))) fun _ _ x=>x)
 first
  | exact BA (Bw fin)
  | exact Bw (BA (Bw fin))
  | exact Bw fin
theorem pq {X:Cx}{pins:List (Addr×Obj)}{σ:St}{H:Hp}{s:Shared}{a:Addr}{y:V}{o:Option V}(I:ao X pins σ H s)(g:bS H a y o):s.TypeIs (.ref a) "dict":=by
 rcases g with ⟨kvs,k,e,_,_⟩ | ⟨kvs,k,b,e,_,_,_⟩
 ·obtain⟨_,_,vs,_,dd⟩:=kJ I.hok e
  exact dd.typeIs
 ·obtain⟨_,_,xs,_,dd⟩:=kM I.hok e
  exact dd.typeIs
inductive A5 (x y:V) (Q:VK) (H:Hp):Prop
 | mk (a:Addr) (v:V) (e:x=.ref a) (g:bS H a y (some v)) (h:Q v H):A5 x y Q H
def zY (td ty:TE):TE:=fun σ H Q=>td σ H fun x H1=>ty σ H1 fun y H2=>A5 x y Q H2
def AO (ty td:TE):TE:=fun σ H Q=>ty σ H fun y H1=>td σ H1 fun x H2=>∃ a o,x=.ref a/\bS H2 a y o/\Q (.bl o.isSome) H2
def xD (ty td:TE):TE:=fun σ H Q=>ty σ H fun y H1=>td σ H1 fun x H2=>∃ a o,x=.ref a/\bS H2 a y o/\Q (.bl (!o.isSome)) H2
def zT (td ty tv:TE):TS:=fun D σ H=>tv σ H fun v H1=>td σ H1 fun x H2=>ty σ H2 fun y H3=>∃ a H4,x=.ref a/\ii H3 a y v H4/\D.nx σ H4
section
variable {X:Cx}{o i e value:Expr}{pos pos' tpos:Pos}{td ty tv:TE}
theorem eY (hu:X.A.units+1<cLine)(ho:PE X o td)(hi:PE X i ty)(hs:zq i):PE X (.Subscript o i pos) (zY td ty):=by
 intro pins s σ H Q I h;refine xC PySem.F.slot_dict_getitem.lookup hs (aS (ho pins s σ H _ I h) fun u s1 ⟨x,H1,I1,rx,q1⟩=>aS (hi pins s1 σ H1 _ I1 q1) fun iv s2 ⟨y,H2,I2,ry,a,v,ex,g,q2⟩=>?_);subst ex;obtain rfl:u=Value.ref a:=rx;exact⟨pq I2 g,tz hu I2 g ry fun w' s3 I3 rw'=>⟨v,H2,I3,rw',q2⟩⟩
theorem lA (hu:X.A.units+1<cLine)(hi:PE X i ty)(ho:PE X o td):PC X .In i o (AO ty td):=by
 intro pins s σ H Q I h;refine aS (hi pins s σ H _ I h) fun iv s1 ⟨y,H1,I1,ry,q1⟩=>aS (ho pins s1 σ H1 _ I1 q1) fun u s2 ⟨x,H2,I2,rx,a,ov,ex,g,q2⟩=>?_;subst ex;obtain rfl:u=Value.ref a:=rx;exact Av hu I2 g ry fun s3 I3=>⟨.bl ov.isSome,H2,I3,rfl,q2⟩
theorem ju (hu:X.A.units+1<cLine)(hi:PE X i ty)(ho:PE X o td):PC X .NotIn i o (xD ty td):=by
 intro pins s σ H Q I h;refine aS (hi pins s σ H _ I h) fun iv s1 ⟨y,H1,I1,ry,q1⟩=>aS (ho pins s1 σ H1 _ I1 q1) fun u s2 ⟨x,H2,I2,rx,a,ov,ex,g,q2⟩=>?_;subst ex;obtain rfl:u=Value.ref a:=rx;exact wJ hu I2 g ry fun s3 I3=>⟨.bl (!ov.isSome),H2,I3,rfl,q2⟩
theorem e6 (hu:X.A.units+1<cLine)(ho:PE X o td)(hi:PE X i ty)(hv:PE X value tv)(hs:swapsWith value (some (.Subscript o i pos')) pos.line X.env=pure false) :
  PS X (.Assign [.Subscript o i pos'] value pos) (zT td ty tv):=by
 intro pins s σ H D I h;refine wpAny_Assign_Subscript (aS (hv pins s σ H _ I h) fun r s1 ⟨v,H1,I1,rv,q1⟩=>aS (ho pins s1 σ H1 _ I1 q1) fun u s2 ⟨x,H2,I2,rx,q2⟩=>aS (hi pins s2 σ H2 _ I2 q2) fun iv s3 ⟨y,H3,I3,ry,a,H4,ex,g,q3⟩=>?_) hs;subst ex;obtain rfl:u=Value.ref a:=rx;exact tD hu I3 g ry rv fun s4 I4=>⟨σ,H4,I4,q3⟩
end
theorem uO {P:Program}{w:World}{H:Hp}(h:Heap)(hb:sysModules<h.objs.size):aM P w H (h.push { cls:=.type "dict",data:=.dict #[] }) h.objs.size (.dK []) :=
 ⟨BY _,Cz.mpr (BL (BJ hb)),[],.nil,Heap.DictOf.new h⟩
theorem uS {P:Program}{w:World}{H:Hp}(h:Heap)(hb:sysModules<h.objs.size):aM P w H (h.push { cls:=.type "dict",data:=.dict #[] }) h.objs.size (.dT []) :=
 ⟨BY _,Cz.mpr (BL (BJ hb)),[],.nil,_,#[],0,Heap.get?_push_size _ rfl,⟨rfl,rfl,rfl⟩,rfl,rfl,Dd⟩
def yV:TE:=fun _ H Q=>∀ p,H p=none->Q (.ref p) (upd H p (.dK []))
def yW:TE:=fun _ H Q=>∀ p,H p=none->Q (.ref p) (upd H p (.dT []))
section
variable {X:Cx}{pos:Pos}
theorem dC:PE X (.Dict [] [] pos) yV:=fun pins s σ H Q I h =>
 wpAny_Dict_empty ⟨.ref s.heap.objs.size,_,I.laid (a:=s.heap.objs.size) (o:=.dK []) (t':=s.toks) (fun _ _ q=>Heap.get?_push_of_some _ q) (BB _) (uO s.heap I.big),rfl,h _ (I.hok.fresh (BB _))⟩
theorem vD:PE X (.Dict [] [] pos) yW:=fun pins s σ H Q I h =>
 wpAny_Dict_empty ⟨.ref s.heap.objs.size,_,I.laid (a:=s.heap.objs.size) (o:=.dT []) (t':=s.toks) (fun _ _ q=>Heap.get?_push_of_some _ q) (BB _) (uS s.heap I.big),rfl,h _ (I.hok.fresh (BB _))⟩
end
structure M1 (X:Cx)(o:Expr)(m:Str)(apos:Pos)(e:Expr)(cpos:Pos):Prop where
 base:attributeBase o m X.env (eval o X.env)=eval o X.env
 few:((backTo cpos (starEach [e] X.env)).all (fun x=>!x.1)&&(backToKw cpos (keywordEach [] X.env)).all (fun x=>x.1.isSome)
  && decide (([e]:List Expr).length+([]:List Keyword).length+(if ([]:List Keyword).isEmpty then 0 else 1)<30))=true
 line:(apos.endLine == cpos.line)=true
 trees:backTo cpos (starEach [e] X.env)=[(false,eval e X.env)]
structure M2 (X:Cx)(o:Expr)(m:Str)(apos:Pos)(e f:Expr)(cpos:Pos):Prop where
 base:attributeBase o m X.env (eval o X.env)=eval o X.env
 few:((backTo cpos (starEach [e,f] X.env)).all (fun x=>!x.1)&&(backToKw cpos (keywordEach [] X.env)).all (fun x=>x.1.isSome)
  && decide (([e,f]:List Expr).length+([]:List Keyword).length+(if ([]:List Keyword).isEmpty then 0 else 1)<30))=true
 line:(apos.endLine == cpos.line)=true
 trees:backTo cpos (starEach [e,f] X.env)=[(false,eval e X.env),(false,eval f X.env)]
def Ab (H:Hp)(a:Addr):Prop:=(∃ kvs,Rd H a (.dK kvs))\/∃ kvs,Rd H a (.dT kvs)
theorem qG {X:Cx}{pins:List (Addr×Obj)}{σ:St}{H:Hp}{s:Shared}{a:Addr}(I:ao X pins σ H s)(d:Ab H a) :
  s.TypeIs (.ref a) "dict"/\(∀ b,Value.ref a=.ref b->∃ ob,s.heap.get? b=some ob/\ob.dict=none)/\(a == sysModules)=false:=by
 rcases d with ⟨kvs,e⟩ | ⟨kvs,e⟩
 ·obtain⟨_,hd,vs,_,dd⟩:=kJ I.hok e
  refine⟨dd.typeIs,fun b q=>?_,hd⟩;cases q;obtain⟨ob,_,_,h1,h2,_⟩:=dd;exact⟨ob,h1,h2.2.1⟩
 ·obtain⟨_,hd,xs,_,dd⟩:=kM I.hok e
  refine⟨dd.typeIs,fun b q=>?_,hd⟩;cases q;obtain⟨ob,_,_,h1,h2,_⟩:=dd;exact⟨ob,h1,h2.2.1⟩
section
variable {X:Cx}{pins:List (Addr×Obj)}{σ:St}{H:Hp}{s:Shared}{a:Addr}{y d:V}{u r:Value}{o:Option V}{A:Around}{E:Value->Shared->Prop}
theorem yi {Q:Value->Shared->Prop}(hu:A.units+1<cLine)(I:ao X pins σ H s)(g:bS H a y o)(ry:aG y u)(rd:aG d r)(h:∀ w' s',ao X pins σ H s'->aG (o.getD d) w'->Q w' s') :
  wpAny (model X.prog X.w) A (call (.builtin "dict.get") [.ref a,u,r]) Q E s:=by
 rcases g with ⟨kvs,k,e,ey,l⟩ | ⟨kvs,k,b,e,ey,eb,l⟩
 ·subst ey
  obtain⟨z,hd,vs,rel,dd⟩:=kJ I.hok e;refine call_meetsIn CU dd.typeIs PySem.F.entry_dict_get (PySem.F.args_dict_get_3 _ _ _) (meets_dict_get_default (aQ X.prog X.w) a (jR ry) hd r) ⟨_,dd.mapOf,h _ _ (I.tok _) ?_⟩;rw[l];exact (rel.val k).getD rd
 ·subst ey
  cases (show u=Value.ref b from ry);obtain⟨z,hd,xs,rel,dd⟩:=kM I.hok e;refine call_meetsIn CU dd.typeIs PySem.F.entry_dict_get (PySem.F.args_dict_get_3 _ _ _) (meetsH_dict_get_default (tupleKind (aQ X.prog X.w)) a b hd r) ⟨C5 hu,k,xs,jh I.hok eb,dd,h _ _ (I.tok _) ?_⟩;rw[l];exact (rel.val k).getD rd
end
def yU (td ty tx:TE):TE:=fun σ H Q=>td σ H fun x H1=>∃ a,x=.ref a/\Ab H1 a/\ty σ H1 fun y H2=>tx σ H2 fun z H3=>∃ o,bS H3 a y o/\Q (o.getD z) H3
def yX (td ty:TE):TE:=fun σ H Q=>td σ H fun x H1=>∃ a,x=.ref a/\Ab H1 a/\ty σ H1 fun y H2=>∃ kvs k v,H2 a=some (.dK kvs)/\y=kV k/\b5 kvs k=some v/\Q v (upd H2 a (.dK (kK kvs k)))
section
variable {X:Cx}{o e f:Expr}{apos cpos:Pos}{td ty tx:TE}
theorem p3 (hu:X.A.units+1<cLine)(ho:PE X o td)(he:PE X e ty)(hf:PE X f tx)(m:M2 X o "get" apos e f cpos):PE X (.Call (.Attribute o "get" apos) [e,f] [] cpos) (yU td ty tx):=by
 intro pins s σ H Q I h;refine wpAny_Call_method m.base m.few m.line PySem.F.plainAttrs_dict CU PySem.F.type_dict_get (aS (ho pins s σ H _ I h) fun u s1 ⟨x,H1,I1,rx,a,ex,d,q1⟩=>?_);subst ex;obtain rfl:u=Value.ref a:=rx;obtain⟨t1,t2,_⟩:=qG I1 d;refine⟨t1,t2,?_⟩;rw[m.trees]
 refine CS rfl (Cw (Cn (aS (he pins s1 σ H1 _ I1 q1) fun iv s2 ⟨y,H2,I2,ry,q2⟩ =>
  Cn (aS (hf pins s2 σ H2 _ I2 q2) fun fv s3 ⟨z,H3,I3,rz,ov,g,q3⟩=>CM ?_))))
 exact yi hu I3 g ry rz fun w' s4 I4 rw'=>⟨_,H3,I4,rw',q3⟩
theorem lC (ho:PE X o td)(he:PE X e ty)(m:M1 X o "pop" apos e cpos):PE X (.Call (.Attribute o "pop" apos) [e] [] cpos) (yX td ty):=by
 intro pins s σ H Q I h;refine wpAny_Call_method m.base m.few m.line PySem.F.plainAttrs_dict PySem.F.slot_dict_pop PySem.F.type_dict_pop (aS (ho pins s σ H _ I h) fun u s1 ⟨x,H1,I1,rx,a,ex,d,q1⟩=>?_);subst ex;obtain rfl:u=Value.ref a:=rx;obtain⟨t1,t2,_⟩:=qG I1 d;refine⟨t1,t2,?_⟩;rw[m.trees];refine CS rfl (Cw (Cn (aS (he pins s1 σ H1 _ I1 q1) fun iv s2 ⟨y,H2,I2,ry,kvs,k,v,ea,ey,l,q2⟩=>CM ?_)));subst ey;exact zt I2 ea ry l (.inl rfl) fun w' s3 I3 rw'=>⟨v,_,I3,rw',q2⟩
end
end L2
namespace Att
open PySem PySem.W PySem.Calls PyProof.Rows
theorem j6 {P:Params}{h:Heap}:∀ (ns:List Int)(vs:List Value),WellAll P h vs (ns.map WData.int)->IntsAre vs ns:=by
 intro ns
 induction ns with
 | nil =>
  intro vs w;rw[List.map_nil]at w;cases w;exact .nil
 | cons n ns ih =>
  intro vs w;rw[BO]at w
  cases w with
  | cons a b =>
   cases a;exact .cons _ _ (ih _ b)
theorem uw {l:OpenLaw}{n:Nat}(hn:l.most=some n){P:Params}{h:Heap}{args:List WData}{vals:List Value}
  (hpre:l.row.toRowW.claim.pre args=true) (hwl:WellAll P h vals args) :
  ∃ a vs ns,vals=[Value.ref a]/\args=[WData.list (ns.map WData.int)]/\h.get? a=some { cls:=.type "list",data:=.seq vs.toArray }/\IntsAre vs ns/\ns.length<=n:=by
 have hsh:WShape.hasAll [] args [.list .int]=true:=(pre_splitW hpre).1;have hc:l.pre.holds [] { args:=args }=true:=(pre_splitW hpre).2;obtain⟨d,r,rfl,h1,h2⟩:=hasAllW_cons hsh;obtain rfl:=hasAllW_nil h2;obtain⟨xs,rfl,h3⟩:=hasW_list h1;obtain⟨ns,rfl⟩:=items_int h3
 have hlen:ns.length<=n:=by
  unfold OpenLaw.pre at hc
  have h4:(WTm.not (.lt (.lit (.int (n:Int))) (.len (.arg 0)))).holds [] { args:=[.list (ns.map .int)] }=true:=by
   have h4:=(holds_andW hc).1;rw[hn]at h4;exact h4
  have h5:=condW_of h4 (w_not (w_lt w_lit (w_len_list (w_arg rfl))));rw[Bx]at h5;refine Nat.le_of_not_lt fun q=>?_
  have q':(n:Int)<((ns.length:Nat):Int):=by omega
  first
   | (rw[BI q']at h5;exact absurd h5 (by decide))
   | (simp at h5;omega)
 cases hwl with
 | cons w1 w2 =>
  cases w2
  cases w1 with
  | list ho hall=>exact⟨_,_,ns,rfl,rfl,ho,j6 ns _ hall,hlen⟩
theorem ul (l:OpenLaw)(args:List WData):l.row.toRowW.claim.post args (.bool true) args=true :=
 postW_of (r:=l.row.toRowW) (X:=(true == true))
  (show WShape.has [] (.bool true) .bool=true by first | rfl | decide | simp[WShape.has,WShape.arms,WShape.armsAll])
  (show (WTm.eq .res (.lit (.bool true))).value [] { args:=args,res:=some (.bool true),after:=args }=some (.bool (true == true)) from w_eq_bool (w_res rfl) w_lit) rfl
theorem attach_call {l:OpenLaw}{n:Nat}{q:Program}{loose:List Str}{XP:(Str->Option Value)->Heap->Prop}{YP:World->Heap->Prop}{d:DefRec}
  (hn:l.most=some n) (hdf:d.params.defaults=[])
  (call:∀ (w:World)(s₀ s₁:Shared)(mg mb:Str->Option Value)(fa:Addr)(o:Obj)(pm cd doc:Value)(a:Addr)(vs:List Value)(ns:List Int),
   Ground q loose [] XP w s₀ mg mb s₁.heap->YP w s₁.heap ->
   s₁.heap.get? fa=some o->o.data=.func (docDef d.name d.params d.body d.scope pm cd doc)->s₁.heap.CodeRec cd d.name->mg d.name=some (.ref fa) ->
   s₁.heap.get? a=some { cls:=.type "list",data:=.seq vs.toArray }->IntsAre vs ns->ns.length<=n->s₁.gens = #[] ->
   codeAny (model l.prog w) callerA (.call (.ref fa) ⟨[.ref a],[]⟩) (fun r s'=>r=.ok (.ret (.bool true))/\OldK s₁.heap s'.heap/\s'.os=s₁.os/\AllBare s'.gens) s₁) :
  WalkO q loose XP YP l.row.toRowW d [] (fun f vs=>PySem.call f vs):=by
 intro w s₀ s₁ mg mb G Y fa o pm cd doc dV kV ho hd hcd hD hmg hg args vals as hpre hlay hrd hwl hlo;obtain rfl:dV=.none:=Dflts.none hD hdf;obtain rfl:kV=.none:=Dflts.noKw hD;obtain⟨a,vs,ns,rfl,rfl,hobj,hints,hlen⟩:=uw hn hpre hwl;refine enter_call (CG (call w s₀ s₁ mg mb fa o pm cd doc a vs ns G Y ho (fd_plain hd) hcd hmg hobj hints hlen hg) fun r s' hq=>?_);obtain⟨rfl,h2,h3,h4⟩:=hq;exact⟨.inl ⟨.bool true,.bool true,[],rfl,fun _=>rfl,.bool true,ul l _,fun _=>⟨List.Pairwise.nil,fun _ hm=>(nomatch hm)⟩⟩,h2,h3,h4⟩
section
variable {prog:Program}{w:World}{A:Around}{E:Value->Shared->Prop}{s:Shared}{K:Frag}
def AC (h:Heap):Heap:={ h with objs:=#[] }
def AB (h:Heap)(L d:Addr):List (Addr×Obj):=(List.range h.objs.size).filterMap fun a=>if a=L\/a=d then none else (h.get? a).map fun o=>(a,o)
end
end Att
namespace L2
open PySem PySem.Spec PyProof.Rows
theorem ny:∀ {vs:List Value}{ns:List Int},IntsAre vs ns->aL (ns.map V.int) vs
 | _,_,.nil=>.nil
 | _,_,.cons n t h=>.cons ⟨t,rfl⟩ (ny h)
def yb (H:Hp):Prop:=∀ b,H b=none\/∃ o xs,H b=some (.frz o (.lst xs))
theorem vb {P:Program}{w:World}{K:PySem.W.Frag}{mg mb:Str->Option Value}{CX:ql}{k:Nat}{fa a:Addr}{fd:FuncData}{x:Str}{sp:Sp}{s₁:Shared}{vs:List Value}{ns:List Int}
  (KX:K.In s₁.heap) (hns:s₁.heap.Ns mainGlobals mg) (hb:s₁.heap.Ns builtinsNs mb) (hbb:∀ x:Str,x≠"__name__"->mb x=bootBuiltins x) (hlim:s₁.heap.NoLimit) (hg:s₁.gens = #[])
  (ha:s₁.heap.get? a=some { cls:=.type "list",data:=.seq vs.toArray }) (hi:IntsAre vs ns) (hl:ns.length<=sizeLine) (hr:bC k callerA)
  (F:∀ base:Heap,K.In base->base.Ns mainGlobals mg->aV P w K mg base CX k fa fd [x] sp) (hbind:∀ (s:Shared)(u:Value),BindsTo s fd ⟨[u],[]⟩ [(x,u)])
  (hsp:∀ H:Hp,yb H->bd K H a (ns.map V.int)->sp [.ref a] H (fun v _=>v=.bl true) fun _ _ _=>False)
  (hCX:∀ H e s',CX [] H s₁ (fun _ _ _=>False) e s'->False) :
  codeAny (model P w) callerA (.call (.ref fa) ⟨[.ref a],[]⟩) (fun r s'=>r=.ok (.ret (.bool true))/\OldK s₁.heap s'.heap/\s'.os=s₁.os/\AllBare s'.gens) s₁:=by
 have rv:=ny hi;have lenV:=hi.length
 have core:∀ H:Hp,yb H->bd K H a (ns.map V.int)->fD P w H s₁.heap->(∀ b,H b≠none->b=a)->(H a≠none->K.lookup a=none) ->
   codeAny (model P w) callerA (.call (.ref fa) ⟨[.ref a],[]⟩) (fun r s'=>r=.ok (.ret (.bool true))/\OldK s₁.heap s'.heap/\s'.os=s₁.os/\AllBare s'.gens) s₁:=by
  intro H hO hS hok hA hK;have base_of:∀ {b:Addr}{o:Obj},s₁.heap.get? b=some o->H b=none->(om s₁.heap H).get? b=some o:=fun e n=>u7 e n
  have noA:∀ {b:Addr}{o:Obj}{es:Array DictEntry}{ep:Nat},s₁.heap.get? b=some o->o.data=.dict es ep->H b=none:=fun {b o es ep} e d=>by
   cases q:H b with
   | none=>rfl
   | some u =>
    have e':b=a:=hA b (by rw[q];simp);subst e';rw[ha]at e;cases e;have d':Data.seq vs.toArray _=Data.dict es ep:=d;cases d'
  have nsK:∀ {b:Addr}{m:Str->Option Value},s₁.heap.Ns b m->(om s₁.heap H).Ns b m:=fun {b m} ⟨o,es,ep,e,d,r⟩=>⟨o,es,ep,base_of e (noA e d),d,r⟩
  have hKb:K.In (om s₁.heap H):=fun b o e=>base_of (KX b o e) (by
   cases q:H b with
   | none=>rfl
   | some u =>
    have e':b=a:=hA b (by rw[q];simp);subst e'
    rw[hK (by rw[q];simp)]at e;cases e)
  have hM:Mod K mg (om s₁.heap H):=⟨hKb,nsK hns,⟨mb,nsK hb,hbb⟩,let ⟨mc,h1,h2⟩:=hlim;⟨mc,nsK h1,h2⟩⟩;have e0:qm P w K mg (om s₁.heap H) callerA [] s₁ H:=⟨rfl,hM,fun b o e=>xj e,Nat.le_of_eq (tO _ _),trivial,fun b hb=>absurd (show b∈([]:List Addr) from hb) (by simp),hok,.of_eq hg⟩;refine CG ((F _ hKb (nsK hns)).run callerA [] s₁ H ⟨[.ref a],[]⟩ [.ref a] [.ref a] _ _ hr e0 (hbind s₁ (.ref a)) (.cons rfl .nil) (hsp H hO hS)) fun r s' h=>?_
  cases r with
  | error e=>exact (hCX H e s' h).elim
  | ok fl =>
   cases fl with
   | next=>exact False.elim h
   | brk=>exact False.elim h
   | cont=>exact False.elim h
   | ret u =>
    obtain⟨v,H',os,bare,un,hok',r',q⟩:=h;have q':v=.bl true:=q;subst q';obtain rfl:u=Value.bool true:=r';refine⟨rfl,OldK.of_keep fun b o e=>?_,os,bare⟩
    cases q:H b with
    | none=>exact un.keep b o e q (by intro z;exact absurd (show b∈([]:List Addr) from z) (by simp)) (by simp)
    | some u =>
     rcases hO b with z | ⟨ob,xs,z⟩
     ·rw[q]at z;cases z
     ·have z2:=un.frzs b ob _ z
      obtain⟨e1,_⟩:=hok b _ z;obtain⟨e2,_⟩:=hok' b _ z2;rw[e]at e1;cases e1;exact e2
 cases hk:K.lookup a with
 | some o =>
  have e:=KX a o hk;rw[ha]at e;cases e;refine core (fun _=>none) (fun _=>.inl rfl) (.inr ⟨_,vs.toArray,_,hk,rfl,rfl,rfl,by rw[BK,lenV];exact hl,by simpa using rv⟩) (fun b u z=>by have z':(none:Option HO)=some u:=z;cases z') (fun b z=>absurd rfl z) fun z=>absurd rfl z
 | none =>
  refine core (fun b=>if b=a then some (.frz { cls:=.type "list",data:=.seq vs.toArray } (.lst (ns.map V.int))) else none) (fun b=>?_) (.inl (.inr ⟨{ cls:=.type "list",data:=.seq vs.toArray },Bz rfl⟩)) (fun b u z=>?_) (fun b z=>?_) fun _=>hk
  ·by_cases hb:b=a
   ·exact .inr ⟨_,_,Bz hb⟩
   ·exact .inl (By hb)
  ·by_cases hb:b=a
   ·have z':=(Bz hb).symm.trans z
    cases z';subst hb;exact⟨ha,by rw[Bx];exact hl,vs,_,rv,ha⟩
   ·have z':=(By hb).symm.trans z
    cases z'
  ·by_cases hb:b=a
   ·exact hb
   ·exact absurd (By hb) z
theorem walk_of {l:PySem.W.OpenLaw}{n k:Nat}{q:Program}{loose:List Str}{XP:(Str->Option Value)->Heap->Prop}{YP:World->Heap->Prop}{d:DefRec}{K:Params->PySem.W.Frag}{CX:World->ql}{sp:World->Sp}{x:Str}
  (hn:l.most=some n) (hn2:n<=sizeLine) (hdf:d.params.defaults=[]) (hr:bC k callerA)
  (hY:∀ (w:World)(h:Heap),YP w h->(K w.params).In h)
  (F:∀ (w:World)(mg:Str->Option Value)(fa:Addr)(h:Heap),(K w.params).In h->h.Ns mainGlobals mg->mg d.name=some (.ref fa) ->
   ∃ fd:FuncData,(∀ (s:Shared)(u:Value),BindsTo s fd ⟨[u],[]⟩ [(x,u)]) /\
    ∀ base:Heap,(K w.params).In base->base.Ns mainGlobals mg->aV l.prog w (K w.params) mg base (CX w) k fa fd [x] (sp w))
  (hsp:∀ (w:World)(H:Hp)(a:Addr)(ns:List Int),ns.length<=n->yb H->bd (K w.params) H a (ns.map V.int)->sp w [.ref a] H (fun v _=>v=.bl true) fun _ _ _=>False)
  (hCX:∀ (w:World)(H:Hp)(s:Shared)(e:Value)(s':Shared),CX w [] H s (fun _ _ _=>False) e s'->False) :
  PySem.W.WalkO q loose XP YP l.row.toRowW d [] (fun f vs=>PySem.call f vs):=by
 refine Att.attach_call hn hdf fun w s₀ s₁ mg mb fa o pm cd doc a vs ns G Y ho hd hcd hmg hobj hints hlen hg=>?_;have KX:=hY w _ Y;obtain⟨fd,hb,hF⟩:=F w mg fa _ KX G.T.g hmg;exact vb KX G.T.g G.T.b G.T.builtins G.T.nolimit hg hobj hints (B6 hlen hn2) hr hF hb (fun H hO hS=>hsp w H a ns hlen hO hS) fun H e s'=>hCX w H s₁ e s'
def bx (s:Stmt)(j:Nat):Stmt:=match s with
 | .ClassDef _ _ _ body _ _ _ _ _ _ _=>body.getD j (.Pass ⟨0,0,0,0⟩)
 | _=>.Pass ⟨0,0,0,0⟩
def db (s:Stmt):Arguments:=match s with
 | .FunctionDef _ a _ _ _ _ _ _ _ _=>a
 | _=>{ posonlyargs:=[],args:=[],vararg:=none,kwonlyargs:=[],kw_defaults:=[],kwarg:=none,defaults:=[] }
def cx (s:Stmt):List Stmt:=match s with
 | .FunctionDef _ _ b _ _ _ _ _ _ _=>b
 | _=>[]
def ak (s:Stmt):Scope:=match s with
 | .FunctionDef _ _ _ _ _ _ sc _ _ _=>sc
 | _=>{ kind:=.function,names:=[],isGenerator:=false,isCoroutine:=false }
abbrev cf:ql:=fun _ _ _ _ _ _=>False
abbrev E0:XK:=fun _ _ _=>False
theorem dB {X:Cx}:c4 cf X E0:=fun _ _ _ _ _ _ _ h=>h.elim
structure dj (K:PySem.W.Frag)(x qual:Str)(st:Stmt)(f:Addr)(fd:FuncData):Prop where
 ex:∃ (oc:Value)(od:Option Addr)(kV doc pm:Value)(an:Option Addr)(cdv ct:Value)(osl:Array (Option Value)),
  fd=PySem.W.fnOf x qual (db st) (cx st) (ak st) .none kV doc pm an cdv ct/\K.lookup f=some ⟨oc,od,.func fd,osl⟩/\PySem.W.codeIn K cdv qual=true
 kp:PySem.W.keepIn K (.ref f)=true
section
variable {P:Program}{w:World}{K:PySem.W.Frag}{mg:Str->Option Value}{base:Heap}
theorem dj.ok {x qual:Str}{st:Stmt}{f:Addr}{fd:FuncData}{N ps:List Str}{k:Nat}{sp:Sp}(F:dj K x qual st f fd)(S:av N ps (ak st))(len:∀ vs H Q E,sp vs H Q E->vs.length=ps.length)
  (hbody:∀ (cdv:Value)(A:Around)(outer:List Env)(s:Shared)(H:Hp)(vs:List V)(Q:VK)(E:XK),bC k (A.deeper (envOfC qual (ak st) s.heap.objs.size f cdv))->sp vs H Q E ->
   ∃ t,qq (kH cf P w K mg base N qual (ak st) f cdv A outer s H E).nox (cx st) t/\t { nx:=fun _ H'=>Q .non H',rt:=Q } (iZ N vs) H):aV P w K mg base cf (k+1) f fd ps sp:=by
 obtain⟨oc,od,kV,doc,pm,an,cdv,ct,osl,rfl,lk,hcd⟩:=F.ex;refine xL lk hcd S len fun A outer s H vs Q E hr hsp=>?_;obtain⟨t,h,q⟩:=hbody cdv A outer s H vs Q E hr hsp;exact⟨t,h.nox,q⟩
theorem dj.binds {x qual:Str}{st:Stmt}{f:Addr}{fd:FuncData}{ps:List Str}(F:dj K x qual st f fd)
  (h:∀ (kV doc pm:Value)(an:Option Addr)(cdv ct:Value)(us:List Value),us.length=ps.length->bindArgs (PySem.W.fnOf x qual (db st) (cx st) (ak st) .none kV doc pm an cdv ct) ⟨us,[]⟩=pure (ps.zip us)):c8 K fd ps []:=by
 obtain⟨oc,od,kV,doc,pm,an,cdv,ct,osl,rfl,lk,hcd⟩:=F.ex;exact .all (h kV doc pm an cdv ct)
theorem u3 {x qual:Str}{st:Stmt}{f:Addr}{oc:Value}{od an:Option Addr}{osl:Array (Option Value)}{kV doc pm cdv ct:Value}(l:K.lookup f=some ⟨oc,od,.func (PySem.W.fnOf x qual (db st) (cx st) (ak st) .none kV doc pm an cdv ct),osl⟩)
  (c:PySem.W.codeIn K cdv qual=true) (k:PySem.W.keepIn K (.ref f)=true):dj K x qual st f (PySem.W.fnOf x qual (db st) (cx st) (ak st) .none kV doc pm an cdv ct):=⟨⟨oc,od,kV,doc,pm,an,cdv,ct,osl,rfl,l,c⟩,k⟩
end
theorem c9 {A:Around}{k:Nat}(hr:bC k A):A.units+1<cLine:=C6 (Nat.add_le_add_left (by decide:1<=64) _) hr.units
theorem aZ {n:Nat}(h:n<=1000):n<sizeLine:=C6 h (by decide)
section
variable {X:Cx}
theorem pv (i:Nat){x:Str}{pos:Pos}(hN:X.N[i]? = some x:=by rfl)(hv:Ar X.env.scope x:=by first | exact Or.inl rfl | exact Or.inr (Or.inl rfl) | exact Or.inr (Or.inr rfl))(hd:(x == ("__debug__" : Str))=false:=by decide)
  (hcd:(x == ("__classdict__" : Str))=false:=by decide):PE X (.Name x pos) (z8 i):=yJ hN hv hd hcd
end
theorem aD {A B:Prop}(h:B):if false=true then A else B:=by
 rw[By BD];exact h
theorem bj {A B:Prop}(h:A):if true=true then A else B:=by
 rw[Bz rfl];exact h
theorem qH {c A B:Prop} [Decidable c] (h1:c->A)(h2:¬ c->B):if c then A else B:=by
 by_cases h:c
 ·rw[Bz h]
  exact h1 h
 ·rw[By h]
  exact h2 h
def aH (H H':Hp):Prop:=∀ b o,H b=some o->H' b=some o
theorem aH.refl (H:Hp):aH H H:=fun _ _ h=>h
theorem aH.trans {H H1 H2:Hp}(a:aH H H1)(b:aH H1 H2):aH H H2:=fun c o h=>b c o (a c o h)
theorem aH.free {H H':Hp}(e:aH H H'){l:Addr}(h:H' l=Option.none):H l=Option.none:=by
 cases q:H l with
 | none=>rfl
 | some o =>
  rw[e l o q]at h;cases h
theorem aH.seq {K:PySem.W.Frag}{H H':Hp}{a:Addr}{xs:List V}(e:aH H H')(h:bd K H a xs):bd K H' a xs:=by
 rcases h with (h | ⟨o,h⟩) | h
 ·exact .inl (.inl (e _ _ h))
 ·exact .inl (.inr ⟨o,e _ _ h⟩)
 ·exact .inr h
section
variable {κ:Type} [DecidableEq κ]
theorem kj:∀ {l:List κ}{k:κ},l.Nodup->¬ k∈l->(l++[k]).Nodup
 | [],k,_,_=>by simp
 | a::r,k,h,hk=>by
  obtain⟨h1,h2⟩:=B8.mp h
  show (a::(r++[k])).Nodup
  refine B8.mpr ⟨fun m=>?_,kj h2 fun m=>hk (BH.mpr (Or.inr m))⟩;rcases B7.mp m with q | q
  ·exact h1 q
  ·exact hk (BH.mpr (Or.inl (BW.mp q).symm))
end
end L2
set_option maxHeartbeats 4000000
namespace L2
open PySem PySem.Spec PyProof.Rows
structure mF (so sc:Scope)(N N':List Str)(src:List (Option Nat)):Prop where
 kind:sc.kind=.function
 nocell:∀ y∈sc.names,y.2≠.cell
 loc:∀ y∈sc.names,y.2=.local->sc.names.lookup y.1=some .local
 fre:∀ y∈sc.names,y.2=.free->so.names.lookup y.1=some .cell\/so.names.lookup y.1=some .free
 nd:N'.Nodup
 len:src.length=N'.length
 cap:∀ p∈N'.zip src,(match p.2 with | none=>true | some j=>decide (N[j]? = some p.1/\sc.names.lookup p.1=some .free))=true
def fT (src:List (Option Nat))(σ:St):St:=src.map fun o=>o.bind fun j=>(σ[j]?).join
def bT (X:Cx)(sc:Scope)(cl:List (Str×Addr))(C:Addr)(N':List Str)(s:Shared)(H:Hp)(ex:List Addr):Cx where
 prog:=X.prog
 w:=X.w
 K:=X.K
 mg:=X.mg
 base:=X.base
 A:=X.A
 N:=N'
 s₀:=s
 H₀:=H
 env:=compEnvC sc cl C X.env
 outer:=X.stack
 stack:=X.stack
 ex:=ex
 fn:=fun _=>false
 calm:=X.calm
 pn:=[]
 xe:=fun _ _=>False
theorem eX {env:Env}:∀ (names:List (Str×NameKind))(cs:List (Str×Addr)),(∀ y∈names,y.2=.free->∃ c,env.cells.lookup y.1=some c) ->
  (∀ x c,cs.lookup x=some c->env.cells.lookup x=some c) ->
  ∃ cl:List (Str×Addr),(forIn names cs fun x r=>if (x.2 == NameKind.free)=true then (do let a <-cellOf env x.1;pure (ForInStep.yield ((x.1,a)::r))) else pure (ForInStep.yield r):Sem (List (Str×Addr)))=pure cl /\
   (∀ x c,cl.lookup x=some c->env.cells.lookup x=some c)/\(∀ x,(∃ c,cs.lookup x=some c)->∃ c,cl.lookup x=some c)/\∀ y∈names,y.2=.free->∃ c,cl.lookup y.1=some c
 | [],cs,_,h2=>⟨cs,by rw[List.forIn_nil],h2,fun _ h=>h,fun _ h=>nomatch h⟩
 | (n,k)::r,cs,h1,h2=>by
  by_cases hk:k=.free
  ·subst hk
   obtain⟨c,hc⟩:=h1 (n,.free) BE rfl
   have h2':∀ x d,((n,c)::cs).lookup x=some d->env.cells.lookup x=some d:=fun x d e=>by
    rw[Cb]at e;split at e
    ·rename_i hx
     cases e
     have:x=n:=by simpa using hx
     rw[this];exact hc
    ·exact h2 x d e
   obtain⟨cl,e,q1,q2,q3⟩:=eX r ((n,c)::cs) (fun y hy=>h1 y (BC _ hy)) h2';have has:∃ d,((n,c)::cs).lookup n=some d:=⟨c,by simp⟩;refine⟨cl,?_,q1,fun x ⟨d,hd⟩=>q2 x ?_,fun y hy hf=>?_⟩
   ·rw[List.forIn_cons,<-e]
    simp[cellOf,hc]
   ·rw[Cb]
    split
    ·exact⟨_,rfl⟩
    ·exact⟨d,hd⟩
   ·rcases BH.mp hy with rfl | hy
    ·exact q2 _ has
    ·exact q3 y hy hf
  ·obtain⟨cl,e,q1,q2,q3⟩:=eX r cs (fun y hy=>h1 y (BC _ hy)) h2
   have hb:(k == NameKind.free)=false:=by simpa using hk
   refine⟨cl,?_,q1,q2,fun y hy hf=>?_⟩
   ·rw[List.forIn_cons,<-e]
    simp[hb]
   ·rcases BH.mp hy with rfl | hy
    ·exact absurd hf hk
    ·exact q3 y hy hf
theorem gY {sc:Scope}{env:Env}(h:∀ y∈sc.names,y.2=.free->∃ c,env.cells.lookup y.1=some c) :
  ∃ cl:List (Str×Addr),closureFor sc env=pure cl/\(∀ x c,cl.lookup x=some c->env.cells.lookup x=some c)/\∀ y∈sc.names,y.2=.free->∃ c,cl.lookup y.1=some c:=by
 obtain⟨cl,e,q1,_,q3⟩:=eX sc.names [] h (fun x c z=>by simp at z);refine⟨cl,?_,q1,q3⟩;unfold closureFor
 show (forIn sc.names [] _ >>= fun cs=>pure cs)=_
 refine Eq.trans (CV (fun t=>t >>= fun cs=>pure cs) (Eq.trans ?_ e)) (by simp)
 congr 1
theorem iM {env:Env}:∀ {names:List (Str×NameKind)}{x:Str},(∀ y∈names,y.2≠.cell) ->
  ((names.map fun (n,k)=>if (k == NameKind.free&&env.scope.kind == .function&&env.kindOf n == some .cell) then (n,NameKind.cell) else (n,k)).lookup x=some .cell \/
    (names.map fun (n,k)=>if (k == NameKind.free&&env.scope.kind == .function&&env.kindOf n == some .cell) then (n,NameKind.cell) else (n,k)).lookup x=some .free)->(x,NameKind.free)∈names
 | [],_,_,h=>by simp at h
 | (n,k)::r,x,hc,h=>by
  have ih:=@iM env r x (fun y hy=>hc y (BC _ hy));have h:List.lookup x ((if (k == NameKind.free&&env.scope.kind == .function&&env.kindOf n == some .cell)=true then (n,NameKind.cell) else (n,k))::_)=some .cell\/List.lookup x ((if (k == NameKind.free&&env.scope.kind == .function&&env.kindOf n == some .cell)=true then (n,NameKind.cell) else (n,k))::_)=some .free:=h
  by_cases hb:(k == NameKind.free&&env.scope.kind == .function&&env.kindOf n == some .cell)=true
  ·rw[Bz hb]at h
   cases hx:x == n with
   | true =>
    have e:x=n:=by simpa using hx
    subst e
    have:k=NameKind.free:=by
     simp only[CQ,C4]at hb;exact hb.1.1
    subst this;exact BE
   | false =>
    simp only[Cb,hx]at h;exact BC _ (ih h)
  ·rw[By hb]at h
   cases hx:x == n with
   | true =>
    have e:x=n:=by simpa using hx
    subst e;have hk:=hc (x,k) BE;simp only[Cb,beq_self_eq_true,Option.some.injEq]at h;rcases h with h | h
    ·exact absurd h hk
    ·subst h;exact BE
   | false =>
    simp only[Cb,hx]at h;exact BC _ (ih h)
theorem gQ {env:Env}:∀ {names:List (Str×NameKind)}{x:Str},names.lookup x=some .free ->
  ((names.map fun (n,k)=>if (k == NameKind.free&&env.scope.kind == .function&&env.kindOf n == some .cell) then (n,NameKind.cell) else (n,k)).lookup x=some .cell \/
    (names.map fun (n,k)=>if (k == NameKind.free&&env.scope.kind == .function&&env.kindOf n == some .cell) then (n,NameKind.cell) else (n,k)).lookup x=some .free)
 | [],_,h=>by simp at h
 | (n,k)::r,x,h=>by
  have ih:=@gQ env r x
  show List.lookup x ((if (k == NameKind.free&&env.scope.kind == .function&&env.kindOf n == some .cell)=true then (n,NameKind.cell) else (n,k))::_)=some .cell\/List.lookup x ((if (k == NameKind.free&&env.scope.kind == .function&&env.kindOf n == some .cell)=true then (n,NameKind.cell) else (n,k))::_)=some .free
  cases hx:x == n with
  | true =>
   simp only[Cb,hx,Option.some.injEq]at h;subst h
   by_cases hb:(NameKind.free == NameKind.free&&env.scope.kind == .function&&env.kindOf n == some .cell)=true
   ·rw[Bz hb];left;simp only[Cb,hx]
   ·rw[By hb];right;simp only[Cb,hx]
  | false =>
   simp only[Cb,hx]at h
   by_cases hb:(k == NameKind.free&&env.scope.kind == .function&&env.kindOf n == some .cell)=true
   ·rw[Bz hb];simp only[Cb,hx];exact ih h
   ·rw[By hb];simp only[Cb,hx];exact ih h
theorem cY {prog:Program}{w:World}{A:Around}{R:Result->Shared->Prop}{s:Shared}{elt target iter:Expr}{ifs:List Expr}{scope:Scope}{pos:Pos}{it acc:Value}{env:Env}(I:Nat->Shared->Prop)
  (turn:∀ n s,I n s->wpAny (model prog w) A (pyNext it) (fun r s₁=>match r with
   | none=>R (.ok .next) s₁
   | some v=>wpAny (model prog w) A (letOwnedTupleGo target it v) (fun _ s₁'=>wpAny (model prog w) A (assign target env v) (fun _ s₂ =>
     wpAny (model prog w) A (forIn ifs true fun c r=>if r=true then do let ok <-isTrue c env (eval c env);pure (ForInStep.yield ok) else pure (ForInStep.yield r)) (fun ok s₃ =>
      if ok=true then wpAny (model prog w) A (eval elt env) (fun x s₄ =>
       wpAny (model prog w) A (call (.builtin "list.append") [acc,x]) (fun _ s₅=>∃ m,m<n/\I m s₅) (fun _ _=>False) s₄) (fun _ _=>False) s₃
      else ∃ m,m<n/\I m s₃) (fun _ _=>False) s₂) (fun _ _=>False) s₁') (fun _ _=>False) s₁) (fun _ _=>False) s)
  (n:Nat) (h:I n s) :
  codeAny (model prog w) A (.compLoop (.ListComp elt [⟨target,iter,ifs,0⟩] scope pos) 0 it acc env) R s:=by
 refine codeAny_loop rfl I (fun n s hI=>?_) n h
 show wpAny _ A ((compTurn (.ListComp elt [⟨target,iter,ifs,0⟩] scope pos) 0 it acc env).onRaise (fun x=>do noteFrame x env;theTreesLotGoes x)) _ _ s
 refine wpAny_noted ?_;rw[compTurn_list];refine Bw (Cq (Bw (BS (turn n s hI) (fun r s₁ h₁=>?_) fun _ _ h'=>h'.elim)))
 cases r with
 | none=>exact BA h₁
 | some v =>
  refine Bw (BS h₁ (fun _ s₁' h₁'=>?_) fun _ _ h'=>h'.elim);refine Bw (BS h₁' (fun _ s₂ h₂=>Bw (BS h₂ (fun ok s₃ h₃=>?_) fun _ _ h'=>h'.elim)) fun _ _ h'=>h'.elim)
  cases ok with
  | false=>exact BA ⟨rfl,h₃⟩
  | true =>
   exact Bw (Bw (BS h₃ (fun x s₄ h₄=>Bw (BS h₄ (fun _ s₅ h₅=>BA (BA ⟨rfl,h₅⟩)) fun _ _ h'=>h'.elim)) fun _ _ h'=>h'.elim))
def yd (X:Cx)(ifs:List Expr)(t:TT):Prop :=
 ∀ (pins:List (Addr×Obj))(s:Shared)(σ:St)(H:Hp)(Q:Bool->Hp->Prop),ao X pins σ H s->t σ H Q ->
  wpAny (model X.prog X.w) X.A (forIn ifs true fun c r=>if r=true then do let ok <-isTrue c X.env (eval c X.env);pure (ForInStep.yield ok) else pure (ForInStep.yield r)) (TP X pins σ Q) X.xe s
def rD:TT:=fun _ H Q=>Q true H
theorem e7 {X:Cx}:yd X [] rD:=fun pins s σ H Q I h=>wpAny_tests_nil ⟨H,I,h⟩
theorem sD {X:Cx}{c:Expr}{t:TT}(h:PT X c t):yd X [c] t:=fun pins s σ H Q I hq=>wpAny_tests_one (h pins s σ H Q I hq)
def wy (tt:TT)(te:TE)(a:Addr):TS:=fun D σ H=>tt σ H fun b H1=>if b=true then te σ H1 fun y H2=>∃ ys,H2 a=some (.lst ys)/\ys.length<sizeLine/\D.nx σ (upd H2 a (.lst (ys++[y]))) else D.nx σ H1
def jO (J:It)(g:TG)(tb:TS)(D:eB)(σ:St)(H:Hp):Prop:=∃ W:Nat->Nat->St->Hp->Prop,(∃ m,W 0 m σ H)/\∀ i m σ H,W i m σ H ->
 (J.stop i H/\D.nx σ H)\/(J.go i H/\∃ N:St->Hp->Prop,(∀ σ' H',N σ' H'->∃ m',m'<m/\W (i+1) m' σ' H')/\∀ x H',J.yld i H x H'->g x σ H' fun σ2 H2=>tb { D with nx:=N,ct:=N,bk:=D.nx } σ2 H2)
def zX (wi:TI)(g:TG)(tt:TT)(te:TE)(src:List (Option Nat)):TE:=fun σ H Q=>wi σ H fun J H1=>∀ a,H1 a=none ->
 jO J g (wy tt te a) { nx:=fun _ H'=>Q (.ref a) H',rt:=fun _ _=>False } (fT src σ) (upd H1 a (.lst []))
theorem kP {X:Cx}{pins:List (Addr×Obj)}{σ:St}{H:Hp}{s:Shared}{sc so:Scope}{N':List Str}{src:List (Option Nat)}{cl:List (Str×Addr)}{fp:List Addr}{h':Heap}
  (I:ao X pins σ H s) (hso:X.env.scope=so) (S:mF so sc X.N N' src) (q1:∀ x c,cl.lookup x=some c->X.env.cells.lookup x=some c) (q3:∀ y∈sc.names,y.2=.free->∃ c,cl.lookup y.1=some c)
  (hf:∀ b∈fp,dR X pins H b) (hlt:∀ b∈fp,b<s.heap.objs.size) (hns:h'.Ns s.heap.objs.size fun _=>none) (hk:∀ b o,s.heap.get? b=some o->h'.get? b=some o) (tk:Nat) :
  ao (bT X sc cl s.heap.objs.size N' s H fp) [] (fT src σ) H { s with heap:=h',toks:=tk }:=by
 have hb:∀ b∈fp,b≠s.heap.objs.size/\∀ x c,cl.lookup x=some c->c≠b:=fun b z=>⟨BJ (hlt b z),fun x c e=>(hf b z).2.2.2.2.1 x c (q1 x c e)⟩
 refine⟨⟨I.ok.mod,?_,I.ok.glob,I.ok.blt,BB _,fun x y c h1 h2=>I.ok.inj x y c (q1 _ _ h1) (q1 _ _ h2),fun x hx=>?_,fun x c hx _=>(by cases hx),I.ok.hd,I.ok.frames,.inl rfl,hb,I.bs,B6 I.ok.bsz I.sz,fun b o e z=>?_,fun b z hz=>?_,I.stack,I.stkFree⟩,
  rfl,I.bare,Un.kept hk,⟨_,hns,fun i x v h1 h2 h3=>?_⟩,fun x c e=>?_,I.hok.fresh (BB _),fun x c e=>I.freeC x c (q1 x c e),fun p hp=>absurd (show p∈([]:List (Addr×Obj)) from hp) (by simp),I.hok.kept hk,?_⟩
 ·show (relabel sc X.env).kind=_
  exact S.kind
 ·have hx':(x,NameKind.free)∈sc.names:=iM S.nocell hx
  exact q3 _ hx' rfl
 ·rcases (hf b z).2.2.2.1 with y | y
  ·exact I.ok.noex b o e y
  ·exact absurd (BP (BG e) (B6 I.ok.bsz y)) (Nat.lt_irrefl _)
 ·rcases BH.mp (I.stkSub b hz) with y | y
  ·exact (hf b z).2.1 y
  ·exact (hf b z).2.2.1 y
 ·-- the captured names
  have h1':N'[i]? = some x:=h1;have h2':(fT src σ)[i]? = some (some v):=h2;unfold fT at h2';rw[List.getElem?_map]at h2'
  cases hs:src[i]? with
  | none=>rw[hs]at h2';cases h2'
  | some o =>
   rw[hs]at h2';have h2'':(o.bind fun j=>(σ[j]?).join)=some v:=BF h2'
   cases o with
   | none=>cases h2''
   | some j =>
    have hj:(σ[j]?).join=some v:=h2''
    have hσ:σ[j]? = some (some v):=by
     cases e:σ[j]? with
     | none=>rw[e]at hj;cases hj
     | some z=>rw[e]at hj;rw[show z=some v from hj]
    have hzip:(x,some j)∈N'.zip src:=by
     have:(N'.zip src)[i]? = some (x,some j):=by
      rw[List.getElem?_zip_eq_some];exact⟨h1',hs⟩
     exact B9 this
    have hc:=Cd (S.cap _ hzip);obtain⟨hN,hfr⟩:X.N[j]? = some x/\sc.names.lookup x=some .free:=hc;have hmem:(x,NameKind.free)∈sc.names:=CP hfr;have hvis:=S.fre _ hmem rfl;rw[<-hso]at hvis;obtain⟨m,hn,hl⟩:=I.loc;obtain⟨u,ru,lk⟩:=hl j x v hN hσ (.inr hvis);refine⟨u,ru,.inr ⟨gQ hfr,?_⟩⟩;obtain⟨c,hcl⟩:=q3 _ hmem rfl;refine⟨c,hcl,?_⟩;rcases lk with ⟨k,_⟩ | ⟨_,c',e',z⟩
    ·have k:X.env.scope.names.lookup x=some .local:=k
     rcases hvis with y | y<;>(rw[k]at y;cases y)
    ·have:=q1 x c hcl
     rw[e']at this;cases this;obtain⟨ob,e1,e2⟩:=z;exact⟨ob,hk _ _ e1,e2⟩
 ·obtain⟨v,ob,e1,e2⟩:=I.cell x c (q1 x c e)
  exact⟨v,ob,hk _ _ e1,e2⟩
 ·show (fT src σ).length=N'.length
  unfold fT;rw[Bx];exact S.len
theorem fQ {X:Cx}{pins:List (Addr×Obj)}{σ:St}{H:Hp}{s:Shared}{l:Addr}{xs:List V}{y:V}{u:Value}{E:Value->Shared->Prop}(I:ao X pins σ H s)(hH:H l=some (.lst xs))(hz:xs.length<sizeLine)(ru:aG y u) :
  wpAny (model X.prog X.w) X.A (call (.builtin "list.append") [.ref l,u]) (fun _ s'=>ao X pins σ (upd H l (.lst (xs++[y]))) s') E s:=by
 obtain⟨z,its,n,r,hl,e⟩:=I.lstM hH;refine call_meets F.slot_list_append ⟨_,e,rfl⟩ F.entry_list_append (F.args_list_append_2 _ _) (PySem.list_append l its.toArray n u (by rw[BK];omega)) ⟨e,?_⟩;refine I.lset (its':=its++[u]) hH e (by simp) (r.append (.cons ru .nil)) ?_;rw[BR,CT];omega
theorem km {X:Cx}{elt tg iter:Expr}{ifs:List Expr}{sc so:Scope}{pos:Pos}{N':List Str}{src:List (Option Nat)}{wi:TI}{g:TG}{tt:TT}{te:TE}{N:List Str}(hso:X.env.scope=so)(hXN:X.N=N)(S:mF so sc N N' src)(hc:X.calm=true)(hi:PI X tg iter wi)
  (hb:∀ (cl:List (Str×Addr))(C:Addr)(s:Shared)(H:Hp)(ex:List Addr),PG (bT X sc cl C N' s H ex) tg g/\yd (bT X sc cl C N' s H ex) ifs tt/\PE (bT X sc cl C N' s H ex) elt te)
  (hs:∀ x,foldedSetIterable iter X.env x=pure x:=by intro _;rfl):PE X (.ListComp elt [⟨tg,iter,ifs,0⟩] sc pos) (zX wi g tt te src):=by
 subst hXN;intro pins s σ H Q I h
 obtain⟨cl,hcl,q1,q3⟩:=gY (sc:=sc) (env:=X.env) fun y hy hf=>by
  have:=S.fre y hy hf;rw[<-hso]at this;exact I.ok.has y.1 this
 rw[eval_ListComp];refine wpAny_comprehension_free (use:=none) rfl hs hcl S.kind S.loc (aS (hi pins s σ H _ I h) fun v s1 h1=>aS h1 fun itv s2 h2=>?_);obtain⟨it,fp,tn,J,H2,e,I2,T,st2,f2,hR⟩:=h2;subst e;refine Ca ?_
 have I3:ao X pins σ (upd H2 s2.heap.objs.size (.lst [])) { s2 with heap:=s2.heap.push { cls:=.type "list",dict:=none,data:=.seq ([]:List Value).toArray } } :=
  I2.laid (t':=s2.toks) (fun b u q=>Heap.get?_push_of_some _ q) (BB _) ⟨BY _,[],0,.nil,Heap.get?_push_size _ rfl⟩
 have hfr:=I2.hok.fresh (BB s2.heap.objs.size);obtain⟨W,⟨m0,w0⟩,turn⟩:=hR _ hfr
 have flt:∀ b∈fp,b<s2.heap.objs.size:=fun b hb=>by obtain⟨o,e,_⟩:=T.obj _ _ st2 b hb;exact BG e
 generalize hs3:({ s2 with heap:=s2.heap.push { cls:=.type "list",dict:=none,data:=.seq ([]:List Value).toArray } }:Shared)=s3 at I3 ⊢
 have e3:s3.heap=s2.heap.push { cls:=.type "list",dict:=none,data:=.seq ([]:List Value).toArray }:=by rw[<-hs3]
 have sz3:s3.heap.objs.size=s2.heap.objs.size+1:=by rw[e3,CZ]
 have hf3:∀ b∈fp,dR X pins (upd H2 s2.heap.objs.size (.lst [])) b:=fun b hb=>⟨by rw[ac (BJ (flt b hb))];exact (f2 b hb).1,(f2 b hb).2⟩
 have flt3:∀ b∈fp,b<s3.heap.objs.size:=fun b hb=>by rw[sz3];exact CN (flt b hb)
 have st3:tn 0 s3.heap:=T.keep _ _ _ st2 fun b _ o e=>by rw[e3];exact Heap.get?_push_of_some _ e
 refine wpAny_newFunctionEnv S.nocell (by intro y hy;simp at hy) (fun h4 hns4 hsb4=>?_) S.kind;have kp4:∀ b o,s3.heap.get? b=some o->h4.get? b=some o:=fun b o e=>hsb4.extBut b o (BJ (BG e)) (Heap.get?_push_of_some _ e);have I4:=kP (h':=h4) I3 hso S q1 q3 hf3 flt3 (by simpa using hns4) kp4 (s3.toks+([]:List (Str×Value)).length);have st4:tn 0 h4:=T.keep _ _ _ st3 fun b _ o e=>kp4 b o e;generalize hC:s3.heap.objs.size=C at I4 hns4 hsb4 ⊢;obtain⟨hg,ht,he⟩:=hb cl C s3 (upd H2 s2.heap.objs.size (.lst [])) fp
 let Y:Cx:=bT X sc cl C N' s3 (upd H2 s2.heap.objs.size (.lst [])) fp
 have loop:∀ s5:Shared,s5={ s3 with heap:=h4,toks:=s3.toks+([]:List (Str×Value)).length }->codeAny (model X.prog X.w) X.A (.compLoop (.ListComp elt [⟨tg,iter,ifs,0⟩] sc pos) 0 (.ref it) (.ref s2.heap.objs.size) (compEnvC sc cl C X.env))
   (compPost (model X.prog X.w) X.A X.xe none (EP X pins σ Q) (.ref s2.heap.objs.size) C) s5:=by
  rintro s5 rfl
  have stat:∀ {H':Hp},(∀ b∈fp,H' b=none)->∀ b∈fp,dR Y [] H' b:=fun {H'} hn b hb=>by
   obtain⟨f0,f1,f2',f3,f4,f5⟩:=hf3 b hb;refine⟨hn b hb,?_,fun z=>?_,.inl hb,fun x c e=>f4 x c (q1 x c e),fun p hp=>absurd (show p∈([]:List (Addr×Obj)) from hp) (by simp)⟩
   ·show b≠C
    rw[<-hC];exact BJ (flt3 b hb)
   ·have z:b∈fU X.stack:=z
    rcases BH.mp (I3.stkSub b z) with y | y
    ·exact f1 y
    ·exact f2' y
  refine cY (fun n s'=>∃ i σ' H',ao Y [] σ' H' s'/\tn i s'.heap/\(∀ b∈fp,H' b=none)/\W i n σ' H') ?_ m0 ⟨0,_,_,I4,st4,fun b hb=>(hf3 b hb).1,w0⟩;rintro n s6 ⟨i,σ6,H6,I6,st6,fr6,w6⟩;rcases turn i n σ6 H6 w6 with ⟨stop,qn⟩ | ⟨go,Nx,hN,step⟩
  ·refine aS (T.done Y rfl rfl rfl hc i [] s6 σ6 H6 _ I6 (stat fr6) st6 stop) fun r s7 ⟨hr,I7⟩=>?_
   subst hr;obtain⟨m,hn,_⟩:=id I7.loc;refine⟨m,hn,fun h' hsb=>?_⟩
   have neC:∀ b o,s3.heap.get? b=some o->b≠C:=fun b o e=>by rw[<-hC];exact BJ (BG e)
   have freeC:H6 C=none:=I7.free
   have un:Un (fU X.stack) fp (upd H2 s2.heap.objs.size (.lst [])) H6 s3.heap h' :=
    ⟨fun b o e n hb hx=>(hsb.2 b (neC b o e)).trans (I7.base.keep b o e n hb hx),fun b o e n hb hx=>by
      obtain⟨sl,q⟩:=I7.base.slot b o e n hb hx
      exact⟨sl,(hsb.2 b (neC b o e)).trans q⟩,I7.base.free,fun b o e hx=>by
      obtain⟨o',q⟩:=I7.base.there b o e hx
      exact⟨o',(hsb.2 b (neC b o e)).trans q⟩,I7.base.tups,I7.base.frzs,I7.base.tbls⟩
   have hok:fD X.prog X.w H6 h':=fun b ob e=>by
    refine (I7.hok b ob e).stay (fun c w' hc' q=>(hsb.2 c ?_).trans q) (fun _ q=>q) fun _ _ q=>q;rintro rfl;rcases hc' with z | z
    ·rw[<-z,freeC]at e;cases e
    ·rw[freeC]at z;cases z
   have J7:ao X pins σ H6 { s7 with heap:=h' }:=I3.call' (ch:=fp) (s':={ s7 with heap:=h' }) I7.os un hok I7.bare fun b hb=>⟨(hf3 b hb).2.2.2.1,(hf3 b hb).2.1,(hf3 b hb).2.2.2.2.1,(hf3 b hb).2.2.2.2.2⟩;exact⟨.ref s2.heap.objs.size,H6,J7,rfl,qn⟩
  ·refine aS (T.item Y rfl rfl rfl hc i [] s6 σ6 H6 _ I6 (stat fr6) st6 go) fun r s7 ⟨u,hr,h7⟩=>?_
   subst hr;refine aS h7 fun _ s8 ⟨x,H8,I8,r8,y8,st8,fr8⟩=>?_;have I8':=I8.pinned (stat fr8) (T.obj _ _ st8);refine aS (hg _ s8 σ6 H8 x u _ I8' r8 (step x H8 y8)) fun _ s9 ⟨σ9,H9,I9,q9⟩=>?_
   have again:∀ {s':Shared}{σ7:St}{H7:Hp},ao Y ([]++fZ fp s8.heap) σ7 H7 s'->Nx σ7 H7->∃ m,m<n/\∃ i σ' H',ao Y [] σ' H' s'/\tn i s'.heap/\(∀ b∈fp,H' b=none)/\W i m σ' H':=fun {s' σ7 H7} I7 n7=>by
    obtain⟨m',hm,w7⟩:=hN σ7 H7 n7;refine⟨m',hm,i+1,σ7,H7,I7.unpinned,T.keep _ _ _ st8 fun b hb o e=>(I7.pin (b,o) (BN _ (BN _ (bt hb e)))).1,fun b hb=>?_,w7⟩;obtain⟨o,e,d⟩:=T.obj _ _ st8 b hb;exact (I7.pin (b,o) (BN _ (BN _ (bt hb e)))).2.1
   refine aS (ht _ s9 σ9 H9 _ I9 q9) fun ok s10 ⟨H10,I10,q10⟩=>?_
   cases ok with
   | false =>
    rw[By BD]at q10 ⊢;exact again I10 q10
   | true =>
    rw[Bz rfl]at q10 ⊢;refine aS (he _ s10 σ9 H10 _ I10 q10) fun y s11 ⟨yv,H11,I11,ry,ys,hys,hlen,q11⟩=>?_;exact aS (fQ (X:=Y) I11 hys hlen ry) fun _ s12 I12=>again I12 q11
 exact codeAny_compStart_list (loop _ rfl) (T.self _ 0 _ _ _ st4 (loop _ rfl))
def yT (wi:TI)(g:TG)(tt:TT)(te:TE)(src:List (Option Nat))(i:Nat):TS:=fun D σ H=>wi σ H fun J H1=>∀ a,H1 a=none ->
 jO J g (wy tt te a) { nx:=fun _ H'=>D.nx (σ.set i (some (.ref a))) H',rt:=fun _ _=>False } (fT src σ) (upd H1 a (.lst []))
theorem oU {X:Cx}{ix:Nat}{x:Str}{px spos:Pos}{elt tg iter:Expr}{ifs:List Expr}{sc so:Scope}{pos:Pos}{N':List Str}{src:List (Option Nat)}{wi:TI}{g:TG}{tt:TT}{te:TE}{N:List Str}(hso:X.env.scope=so)(hXN:X.N=N)(S:mF so sc N N' src)(hc:X.calm=true)(hi:PI X tg iter wi)
  (hb:∀ (cl:List (Str×Addr))(C:Addr)(s:Shared)(H:Hp)(ex:List Addr),PG (bT X sc cl C N' s H ex) tg g/\yd (bT X sc cl C N' s H ex) ifs tt/\PE (bT X sc cl C N' s H ex) elt te)
  (hnd:X.N.Nodup) (hix:X.N[ix]? = some x) (hx:X.env.scope.names.lookup x=some .local)
  (hsw:swapsWith (.ListComp elt [⟨tg,iter,ifs,0⟩] sc pos) (some (.Name x px)) spos.line X.env=pure true:=by rfl)
  (hs:∀ x,foldedSetIterable iter X.env x=pure x:=by intro _;rfl):PS X (.Assign [.Name x px] (.ListComp elt [⟨tg,iter,ifs,0⟩] sc pos) spos) (yT wi g tt te src ix):=by
 subst hXN;intro pins s σ H D I h
 obtain⟨cl,hcl,q1,q3⟩:=gY (sc:=sc) (env:=X.env) fun y hy hf=>by
  have:=S.fre y hy hf;rw[<-hso]at this;exact I.ok.has y.1 this
 rw[exec_Assign_Name_used _ _ _ _ hsw];refine Bw (Cq (Bw ?_))
 show wpAny _ X.A (do let _ <-comprehension (.ListComp elt [⟨tg,iter,ifs,0⟩] sc pos) sc X.env _ (newList []) false (eval iter X.env) (some (assign (.Name x px) X.env))) _ _ s
 refine Bw (BS (wpAny_comprehension_free (use:=some (assign (.Name x px) X.env)) (Q:=fun _ s'=>SP X pins D .next s') rfl hs hcl S.kind S.loc (aS (hi pins s σ H _ I h) fun v s1 h1=>aS h1 fun itv s2 h2=>?_)) (fun _ s' hq=>BA (BA hq)) fun _ _ e=>e);obtain⟨it,fp,tn,J,H2,e,I2,T,st2,f2,hR⟩:=h2;subst e;refine Ca ?_
 have I3:ao X pins σ (upd H2 s2.heap.objs.size (.lst [])) { s2 with heap:=s2.heap.push { cls:=.type "list",dict:=none,data:=.seq ([]:List Value).toArray } } :=
  I2.laid (t':=s2.toks) (fun b u q=>Heap.get?_push_of_some _ q) (BB _) ⟨BY _,[],0,.nil,Heap.get?_push_size _ rfl⟩
 have hfr:=I2.hok.fresh (BB s2.heap.objs.size);obtain⟨W,⟨m0,w0⟩,turn⟩:=hR _ hfr
 have flt:∀ b∈fp,b<s2.heap.objs.size:=fun b hb=>by obtain⟨o,e,_⟩:=T.obj _ _ st2 b hb;exact BG e
 generalize hs3:({ s2 with heap:=s2.heap.push { cls:=.type "list",dict:=none,data:=.seq ([]:List Value).toArray } }:Shared)=s3 at I3 ⊢
 have e3:s3.heap=s2.heap.push { cls:=.type "list",dict:=none,data:=.seq ([]:List Value).toArray }:=by rw[<-hs3]
 have sz3:s3.heap.objs.size=s2.heap.objs.size+1:=by rw[e3,CZ]
 have hf3:∀ b∈fp,dR X pins (upd H2 s2.heap.objs.size (.lst [])) b:=fun b hb=>⟨by rw[ac (BJ (flt b hb))];exact (f2 b hb).1,(f2 b hb).2⟩
 have flt3:∀ b∈fp,b<s3.heap.objs.size:=fun b hb=>by rw[sz3];exact CN (flt b hb)
 have st3:tn 0 s3.heap:=T.keep _ _ _ st2 fun b _ o e=>by rw[e3];exact Heap.get?_push_of_some _ e
 refine wpAny_newFunctionEnv S.nocell (by intro y hy;simp at hy) (fun h4 hns4 hsb4=>?_) S.kind;have kp4:∀ b o,s3.heap.get? b=some o->h4.get? b=some o:=fun b o e=>hsb4.extBut b o (BJ (BG e)) (Heap.get?_push_of_some _ e);have I4:=kP (h':=h4) I3 hso S q1 q3 hf3 flt3 (by simpa using hns4) kp4 (s3.toks+([]:List (Str×Value)).length);have st4:tn 0 h4:=T.keep _ _ _ st3 fun b _ o e=>kp4 b o e;generalize hC:s3.heap.objs.size=C at I4 hns4 hsb4 ⊢;obtain⟨hg,ht,he⟩:=hb cl C s3 (upd H2 s2.heap.objs.size (.lst [])) fp
 let Y:Cx:=bT X sc cl C N' s3 (upd H2 s2.heap.objs.size (.lst [])) fp
 have loop:∀ s5:Shared,s5={ s3 with heap:=h4,toks:=s3.toks+([]:List (Str×Value)).length }->codeAny (model X.prog X.w) X.A (.compLoop (.ListComp elt [⟨tg,iter,ifs,0⟩] sc pos) 0 (.ref it) (.ref s2.heap.objs.size) (compEnvC sc cl C X.env))
   (compPost (model X.prog X.w) X.A X.xe (some (assign (.Name x px) X.env)) (fun _ s'=>SP X pins D .next s') (.ref s2.heap.objs.size) C) s5:=by
  rintro s5 rfl
  have stat:∀ {H':Hp},(∀ b∈fp,H' b=none)->∀ b∈fp,dR Y [] H' b:=fun {H'} hn b hb=>by
   obtain⟨f0,f1,f2',f3,f4,f5⟩:=hf3 b hb;refine⟨hn b hb,?_,fun z=>?_,.inl hb,fun x c e=>f4 x c (q1 x c e),fun p hp=>absurd (show p∈([]:List (Addr×Obj)) from hp) (by simp)⟩
   ·show b≠C
    rw[<-hC];exact BJ (flt3 b hb)
   ·have z:b∈fU X.stack:=z
    rcases BH.mp (I3.stkSub b z) with y | y
    ·exact f1 y
    ·exact f2' y
  refine cY (fun n s'=>∃ i σ' H',ao Y [] σ' H' s'/\tn i s'.heap/\(∀ b∈fp,H' b=none)/\W i n σ' H') ?_ m0 ⟨0,_,_,I4,st4,fun b hb=>(hf3 b hb).1,w0⟩;rintro n s6 ⟨i,σ6,H6,I6,st6,fr6,w6⟩;rcases turn i n σ6 H6 w6 with ⟨stop,qn⟩ | ⟨go,Nx,hN,step⟩
  ·refine aS (T.done Y rfl rfl rfl hc i [] s6 σ6 H6 _ I6 (stat fr6) st6 stop) fun r s7 ⟨hr,I7⟩=>?_
   subst hr;obtain⟨m,hn,_⟩:=id I7.loc;have freeC:H6 C=none:=I7.free;have J7:ao X pins σ H6 s7:=I3.call' (ch:=fp) (s':=s7) I7.os I7.base I7.hok I7.bare fun b hb=>⟨(hf3 b hb).2.2.2.1,(hf3 b hb).2.1,(hf3 b hb).2.2.2.2.1,(hf3 b hb).2.2.2.2.2⟩
   have hC3:∀ b o,s3.heap.get? b=some o->b≠C:=fun b o e=>by rw[<-hC];exact BJ (BG e)
   have hlC:X.env.locals≠C:=by obtain⟨m3,⟨o3,_,_,e3',_⟩,_⟩:=I3.loc;exact hC3 _ _ e3'
   have hcC:∀ y c,X.env.cells.lookup y=some c->c≠C:=fun y c e=>by obtain⟨v3,o3,e3',_⟩:=I3.cell y c e;exact hC3 _ _ e3'
   have hpC:∀ p∈X.pn++pins,p.1≠C:=fun p hp=>hC3 _ _ (I3.pin p hp).1;refine wpAny_assign_Name (nw (i:=ix) (v:=.ref s2.heap.objs.size) J7 hnd hix (.inl hx) rfl (fun s8 I8 ⟨a8,sb8,ha8⟩=>?_) (.inr hx))
   have ha8C:C≠a8:=by
    rcases ha8 with z | z
    ·rw[z];exact BL hlC
    ·exact BL (hcC _ _ z)
   refine⟨m,hn.sameBut sb8 ha8C,fun h' hsb=>?_⟩
   have I9:ao X pins (σ.set ix (some (.ref s2.heap.objs.size))) H6 { s8 with heap:=h' } :=
    I8.turned (it:=C) (t':=s8.toks) (fun b o hb e=>(hsb.2 b hb).trans e) freeC (BL hlC) (.inr (by rw[<-hC];exact I3.sz)) hcC hpC
   exact⟨_,H6,I9,qn⟩
  ·refine aS (T.item Y rfl rfl rfl hc i [] s6 σ6 H6 _ I6 (stat fr6) st6 go) fun r s7 ⟨u,hr,h7⟩=>?_
   subst hr;refine aS h7 fun _ s8 ⟨x,H8,I8,r8,y8,st8,fr8⟩=>?_;have I8':=I8.pinned (stat fr8) (T.obj _ _ st8);refine aS (hg _ s8 σ6 H8 x u _ I8' r8 (step x H8 y8)) fun _ s9 ⟨σ9,H9,I9,q9⟩=>?_
   have again:∀ {s':Shared}{σ7:St}{H7:Hp},ao Y ([]++fZ fp s8.heap) σ7 H7 s'->Nx σ7 H7->∃ m,m<n/\∃ i σ' H',ao Y [] σ' H' s'/\tn i s'.heap/\(∀ b∈fp,H' b=none)/\W i m σ' H':=fun {s' σ7 H7} I7 n7=>by
    obtain⟨m',hm,w7⟩:=hN σ7 H7 n7;refine⟨m',hm,i+1,σ7,H7,I7.unpinned,T.keep _ _ _ st8 fun b hb o e=>(I7.pin (b,o) (BN _ (BN _ (bt hb e)))).1,fun b hb=>?_,w7⟩;obtain⟨o,e,d⟩:=T.obj _ _ st8 b hb;exact (I7.pin (b,o) (BN _ (BN _ (bt hb e)))).2.1
   refine aS (ht _ s9 σ9 H9 _ I9 q9) fun ok s10 ⟨H10,I10,q10⟩=>?_
   cases ok with
   | false =>
    rw[By BD]at q10 ⊢;exact again I10 q10
   | true =>
    rw[Bz rfl]at q10 ⊢;refine aS (he _ s10 σ9 H10 _ I10 q10) fun y s11 ⟨yv,H11,I11,ry,ys,hys,hlen,q11⟩=>?_;exact aS (fQ (X:=Y) I11 hys hlen ry) fun _ s12 I12=>again I12 q11
 exact codeAny_compStart_list (loop _ rfl) (T.self _ 0 _ _ _ st4 (loop _ rfl))
section
variable {X:Cx}
def zh (i j:Int):Prop:=0<j/\j<1152921504606846976
theorem vq:ja X (binaryOp .FloorDiv) (rI zh fun i j=>.int (i/j)):=zI fun i j _ _ _ _ _ hc q=>by
 have h1:(0:Int)<j:=hc.1;have h2:j<1152921504606846976:=hc.2;refine floordiv_int (by omega) (by rw[Int.fdiv_eq_ediv_of_nonneg i (by omega)];exact q) (.inl (PyProof.noPylong_of_log2 ?_))
 have h0:j.natAbs≠0:=by omega
 have:j.natAbs.log2<60:=(Nat.log2_lt h0).mpr (by omega);omega
theorem qh {A:Around}{bs:List Bool}{its:List Value}(r:aL (bs.map V.bl) its) :
  TruthOf X.prog X.w A (fun i v=>its.toArray[i]? = some v) (fun i=>bs.getD i false):=by
 intro i v s Q E hv hq
 have hv':its[i]? = some v:=by simpa using hv
 have hi:i<its.length:=(List.getElem?_eq_some_iff.mp hv').1;have hl:=r.length;rw[Bx]at hl;obtain⟨u,hu,ru⟩:=r.get (i:=i) (x:=V.bl (bs[i]'(by omega))) (by rw[List.getElem?_map,List.getElem?_eq_getElem (by omega)];rfl);rw[hv']at hu;cases hu;cases ru
 have e:bs.getD i false=bs[i]'(by omega):=by simp[List.getD,List.getElem?_eq_getElem (show i<bs.length by omega)]
 have hq':Q (bs.getD i false) s:=hq;rw[e]at hq';exact CL hq'
theorem uo (bs:List Bool):(List.range bs.length).all (fun i=>bs.getD i false)=bs.all id:=by
 have h:(List.range bs.length).map (fun i=>bs.getD i false)=bs:=by
  apply List.ext_getElem
  ·simp
  ·intro i h1 h2;simp[List.getD,List.getElem?_eq_getElem h2]
 have e:(List.range bs.length).all (fun i=>bs.getD i false)=((List.range bs.length).map (fun i=>bs.getD i false)).all id:=by rw[List.all_map];rfl
 rw[e,h]
theorem tV {pins:List (Addr×Obj)}{σ:St}{H:Hp}{s:Shared}{A:Around}{E:Value->Shared->Prop}{p:Addr}{xs:List V}{its:List Value}{R:Value->Shared->Prop}(I:ao X pins σ H s)(hA:A.handled=none)(pl:PlainL s.heap p its.toArray)
  (h:∀ (I':Addr)(St:Nat->Heap->Prop)(s2:Shared),s2.heap.objs.size=s.heap.objs.size+1->I'=s.heap.objs.size->Walks X.prog X.w A I' [I',p] [I'] its.length (fun i v=>its.toArray[i]? = some v) St->St 0 s2.heap->(∀ b o,s.heap.get? b=some o->s2.heap.get? b=some o)->(∀ h' tk,(∀ b o,b∉[I']->s2.heap.get? b=some o->h'.get? b=some o)->ao X pins σ H { s2 with heap:=h',toks:=tk })->R (.ref I') s2) :
  wpAny (model X.prog X.w) A (pyIter (.ref p)) R E s:=by
 refine Da pl.isList ?_
 have hlt:p<s.heap.objs.size:=by obtain⟨o,n,e,_⟩:=pl;exact BG e
 have W:=Walks.list (prog:=X.prog) (w:=X.w) hA s.heap.objs.size p (BJ hlt) its.toArray;rw[BK]at W;refine h _ _ _ (by rw[CZ]) rfl W ⟨⟨_,Heap.get?_push_size _ rfl,rfl,rfl⟩,pl.isList.at fun o e=>Heap.get?_push_of_some _ e⟩ (fun b o e=>Heap.get?_push_of_some _ e) fun h' tk kp=>?_;exact I.kept (t':=tk) fun b o e=>kp b o (by simpa using BJ (BG e)) (Heap.get?_push_of_some _ e)
theorem tp (hc:X.calm=true):fq X (.builtin "all") (fun xs H Q=>∃ (p:Addr)(bs:List Bool),xs=[.ref p]/\bd X.K H p (bs.map V.bl)/\Q (.bl (bs.all id)) H):=by
 intro pins s σ H xs us Q I r h;obtain⟨p,bs,rfl,hq,q⟩:=h;obtain⟨u,rfl,rx⟩:=dM r;cases rx;obtain⟨its,rv,pl,hz⟩:=I.list hq;have hl:=rv.length;rw[Bx]at hl;refine call_all_walk (tV (xs:=bs.map V.bl) I (I.ok.hd hc) pl fun I' St s2 hs2 hI W st kp fin=>?_);refine⟨I',_,_,_,_,St,_,rfl,W,st,qh rv,fun h' tk k=>⟨.bl _,H,fin h' tk k,rfl,?_⟩⟩;rw[<-hl,uo];exact q
theorem iu:∀ {ns:List Int}{us:List Value},aL (ns.map V.int) us->IntsAre us ns
 | [],_,r=>by cases r;exact IntsAre.nil
 | n::ns,_,r=>by
  cases r with
  | cons r t=>obtain⟨tk,rfl⟩:=r;exact IntsAre.cons _ _ (iu t)
theorem pb:∀ {ns:List Int}{us:List Value},IntsAre us ns->aL (ns.map V.int) us:=by
 intro ns
 induction ns with
 | nil=>intro us h;cases h;exact .nil
 | cons n ns ih =>
  intro us h
  cases h with
  | cons _ _ t=>exact .cons ⟨_,rfl⟩ (ih t)
def bi:List Int->List Int:=fun l=>l.mergeSort (fun a b=>decide (a<=b))
theorem qd {l m:List Int}(hp:m.Perm l)(hs:m.Pairwise (·<=·)):m=bi l:=by
 have h1:(bi l).Pairwise (fun a b=>decide (a<=b)=true):=List.pairwise_mergeSort (by intro a b c;simp;omega) (by intro a b;simp;omega) l;have h2:(bi l).Pairwise (·<=·):=h1.imp (by simp);have h3:m.Perm (bi l):=hp.trans (List.mergeSort_perm l _).symm;exact h3.eq_of_pairwise (fun a b _ _ h1 h2=>Int.le_antisymm h1 h2) hs h2
theorem sW:∀ {xs:List V}{us:List Value},xs.length=us.length->(∀ (i:Nat) x u,xs[i]? = some x->us[i]? = some u->aG x u)->aL xs us
 | [],[],_,_=>.nil
 | x::xs,u::us,hl,h=>.cons (h 0 x u rfl rfl) (sW (by simpa using hl) fun i y v e1 e2=>h (i+1) y v (by simpa using e1) (by simpa using e2))
 | [],_::_,hl,_=>by simp at hl
 | _::_,[],hl,_=>by simp at hl
theorem da (hc:X.calm=true):fq X (.builtin "sorted") (fun xs H Q=>∃ (p:Addr)(kvs:List (bv×V))(ns:List Int),xs=[.ref p]/\H p=some (.dK kvs)/\kvs.map (·.1)=ns.map Sum.inl/\ns.length<64/\∀ l,H l=none->Q (.ref l) (upd H l (.lst ((bi ns).map V.int)))):=by
 intro pins s σ H xs us Q I r h;obtain⟨p,kvs,ns,rfl,hH,hk,h64,q⟩:=h;obtain⟨u,rfl,rx⟩:=dM r;cases rx;obtain⟨hz,lo,vs,rel,dd⟩:=(show aM X.prog X.w H s.heap p (.dK kvs) from I.hok p _ hH);obtain⟨ep,hat⟩:=dd.dictAt
 have hlk:kvs.length=ns.length:=by have:=CV List.length hk;simpa using this
 have hlv:kvs.length=vs.length:=BM rel;refine PySem.Calls.call_function_entry kind_sorted plain_sorted entry_sorted (args_sorted1 _) ?_;unfold Builtin.«sorted»;refine Bw (m:=checkCount "sorted" 1 1 _) (BA ?_);refine Bw (PySem.W.kdu_collect (A:=X.A.in1) (PySem.W.kdl_dict (knd:=aQ X.prog X.w) (kvs:=vs) (ep:=ep) lo) (I.ok.hd hc) hat (by rw[<-hlv];exact hz) fun h' tk acc kp hacc=>?_)
 have hal:acc.toList.length=vs.length:=by rw[B1];exact hacc.1
 refine Bw (wpAny_newList ?_ (by rw[hal,<-hlv];exact hz))
 have rI:aL (ns.map V.int) acc.toList:=sW (by rw[Bx,hal];omega) fun i x v e1 e2=>by
  obtain⟨k,y,hx,hks⟩:=hacc.2 i v (by rw[<-Array.getElem?_toList];exact e2)
  have e3:(vs.map (·.1))[i]? = some k:=by rw[List.getElem?_map,hx];rfl
  rw[<-rel.keys,hk,List.getElem?_map]at e3;rw[List.getElem?_map]at e1
  cases en:ns[i]? with
  | none=>rw[en]at e1;cases e1
  | some n =>
   rw[en]at e1 e3;have e1':V.int n=x:=BF e1;subst e1';have e4:(Sum.inl n:bv)=k:=BF e3;subst e4;rcases ba (k:=Sum.inl n) (v:=v) hks with ⟨j,t,ej,ev⟩ | ⟨j,t,ej,_⟩
   ·cases ej;exact⟨t,ev⟩
   ·cases ej
 have hoL:(h'.push (seqObj "list" acc.toList.toArray 0)).get? h'.objs.size=some (seqObj "list" acc.toList.toArray 0):=Heap.get?_push_size _ rfl;refine Bw (Cf (C2 slot_list_sort ⟨_,hoL,rfl⟩ entry_list_sort (list_sort_tree hoL (iu rI) (by rw[hal];omega) fun out ns' a1 a2 a3=>⟨_,rfl,?_⟩) (args_list_sort _)));refine BA ⟨_,rfl,?_⟩;have en:ns'=bi ns:=qd a2 a3;subst en;obtain⟨e,he⟩:=sortedHeap_at (vs:=acc.toList) (out:=out) hoL;have I1:ao X pins σ H { s with heap:=h',toks:=tk }:=I.kept kp;refine⟨.ref h'.objs.size,_,I1.laid (t':=tk) (a:=h'.objs.size) (o:=.lst ((bi ns).map V.int)) (fun b o e=>?_) (BB _) ⟨?_,out.toList,e,pb a1,by simpa using he⟩,rfl,q _ (I1.hok.fresh (BB _))⟩
 ·rw[sortedHeap_old (BJ (BG e)) (by rw[size_push'];exact CN (BG e))]
  exact Heap.get?_push_of_some _ e
 ·have:=a2.length_eq
  rw[Bx];omega
end
inductive Dt where
 | at (v:V)
 | sq (tup:Bool) (ds:List Dt)
def fA:V->Bool
 | .non=>true
 | .int _=>true
 | .str _=>true
 | _=>false
theorem g9 {v:V}(h:fA v=true):gM v=true:=by cases v<;>first | rfl | cases h
theorem n9 {x y:V}(hx:fA x=true)(hy:fA y=true):uW x y=true↔x=y:=by
 cases x<;>cases y<;>first | (cases hx;done) | (cases hy;done) | simp[uW]
def j3 (K:PySem.W.Frag)(H:Hp)(t:Bool)(a:Addr)(xs:List V):Prop:=if t=true then cr K H a xs else bd K H a xs
def RD (K:PySem.W.Frag)(H:Hp):Nat->V->Dt->Prop
 | 0,v,d=>fA v=true/\d=.at v
 | n+1,v,d=>(fA v=true/\d=.at v)\/∃ a t xs ds,v=.ref a/\d=.sq t ds/\j3 K H t a xs/\Paired (RD K H n) xs ds
theorem RD.flat {K:PySem.W.Frag}{H:Hp}{v:V}(h:fA v=true):∀ n,RD K H n v (.at v)
 | 0=>⟨h,rfl⟩
 | _+1=>.inl ⟨h,rfl⟩
theorem RD.lst {K:PySem.W.Frag}{H:Hp}{a:Addr}{xs:List V}{ds:List Dt}{n:Nat}(h:bd K H a xs)(r:Paired (RD K H n) xs ds):RD K H (n+1) (.ref a) (.sq false ds) :=
 .inr ⟨a,false,xs,ds,rfl,rfl,by unfold j3;rw[By BD];exact h,r⟩
theorem RD.tup {K:PySem.W.Frag}{H:Hp}{a:Addr}{xs:List V}{ds:List Dt}{n:Nat}(h:cr K H a xs)(r:Paired (RD K H n) xs ds):RD K H (n+1) (.ref a) (.sq true ds) :=
 .inr ⟨a,true,xs,ds,rfl,rfl,by unfold j3;rw[Bz rfl];exact h,r⟩
section
variable {X:Cx}{pins:List (Addr×Obj)}{σ:St}{H:Hp}{s:Shared}
theorem RD.inj (I:ao X pins σ H s):∀ {n m:Nat}{v:V}{d e:Dt},RD X.K H n v d->RD X.K H m v e->d=e:=by
 intro n
 induction n with
 | zero =>
  intro m v d e h1 h2;obtain⟨f,rfl⟩:=h1
  cases m with
  | zero=>exact h2.2.symm
  | succ m =>
   rcases h2 with h2 | ⟨a,t,xs,ds,rfl,_⟩
   ·exact h2.2.symm
   ·cases f
 | succ n ih =>
  intro m v d e h1 h2;rcases h1 with h1 | ⟨a,t,xs,ds,rfl,rfl,q,r⟩
  ·obtain⟨f,rfl⟩:=h1
   cases m with
   | zero=>exact h2.2.symm
   | succ m =>
    rcases h2 with h2 | ⟨a,t,xs,ds,rfl,_⟩
    ·exact h2.2.symm
    ·cases f
  ·cases m with
   | zero=>cases h2.1
   | succ m =>
    rcases h2 with h2 | ⟨a',t',xs',ds',ea,rfl,q',r'⟩
    ·cases h2.1
    ·cases ea
     have pr:∀ {l:List V}{l1 l2:List Dt},Paired (RD X.K H n) l l1->Paired (RD X.K H m) l l2->l1=l2:=by
      intro l
      induction l with
      | nil=>intro l1 l2 p1 p2;cases p1;cases p2;rfl
      | cons z l ihl =>
       intro l1 l2 p1 p2
       cases p1 with
       | cons r1 t1 =>
        cases p2 with
        | cons r2 t2=>rw[ih r1 r2,ihl t1 t2]
     cases t with
     | false =>
      have q:bd X.K H a xs:=by unfold j3 at q;rwa [By BD]at q
      cases t' with
      | false =>
       have q':bd X.K H a xs':=by unfold j3 at q';rwa [By BD]at q'
       have:=I.list_inj q q';subst this;rw[pr r r']
      | true =>
       have q':cr X.K H a xs':=by unfold j3 at q';rwa [Bz rfl]at q'
       obtain⟨_,_,p1,_⟩:=I.list q;obtain⟨_,_,p2,_⟩:=I.tuple q';exact absurd rfl (SeqAt.ne_of_list_tuple p1.isList p2)
     | true =>
      have q:cr X.K H a xs:=by unfold j3 at q;rwa [Bz rfl]at q
      cases t' with
      | false =>
       have q':bd X.K H a xs':=by unfold j3 at q';rwa [By BD]at q'
       obtain⟨_,_,p1,_⟩:=I.tuple q;obtain⟨_,_,p2,_⟩:=I.list q';exact absurd rfl (SeqAt.ne_of_list_tuple p2.isList p1)
      | true =>
       have q':cr X.K H a xs':=by unfold j3 at q';rwa [Bz rfl]at q'
       have:=I.tuple_inj q q';subst this;rw[pr r r']
theorem yO (I:ao X pins σ H s):∀ (n:Nat){A:Around}{l b:Addr}{d e:Dt},A.units+n<cLine->RD X.K H (n+1) (.ref l) d->RD X.K H (n+1) (.ref b) e ->
  (∀ {A:Around}{y x:V}{u v:Value}{d e:Dt},A.units+n<cLine+1->RD X.K H n y d->RD X.K H n x e->aG y u->aG x v->∃ k:Bool,(k=true↔d=e)/\SeqAt.EqAt A s u v k) ->
  ∃ k:Bool,(k=true↔d=e)/\SeqAt.RcAt A s (.ref l) (.ref b) k:=by
 intro n A l b d e hu h1 h2 ih;rcases h1 with h1 | ⟨a,t,xs,ds,ea,rfl,q,r⟩
 ·cases h1.1
 cases ea;rcases h2 with h2 | ⟨a',t',xs',ds',ea,rfl,q',r'⟩
 ·cases h2.1
 cases ea
 have pw:∀ {us us':List Value},aL xs us->aL xs' us'->∃ ks:Nat->Bool,(∀ j (h1:j<us.length) (h2:j<us'.length),SeqAt.EqAt A.in1 s us[j] us'[j] (ks j)) /\
   (∀ j d1 d2,ds[j]? = some d1->ds'[j]? = some d2->(ks j=true↔d1=d2)):=by
  intro us us' rv rv'
  have ex:∀ j:Nat,∃ k:Bool,(∀ (h1:j<us.length)(h2:j<us'.length),SeqAt.EqAt A.in1 s us[j] us'[j] k)/\(∀ d1 d2,ds[j]? = some d1->ds'[j]? = some d2->(k=true↔d1=d2)):=by
   intro j
   by_cases hj:j<us.length/\j<us'.length
   ·obtain⟨h1,h2⟩:=hj
    have l1:=rv.length;have l2:=rv'.length;have l3:=BM r;have l4:=BM r';have gx:xs[j]? = some xs[j]:=List.getElem?_eq_getElem (by omega);have gx':xs'[j]? = some xs'[j]:=List.getElem?_eq_getElem (by omega);obtain⟨u,eu,ru⟩:=rv.get gx;obtain⟨u',eu',ru'⟩:=rv'.get gx'
    have eu2:us[j]=u:=by rw[List.getElem?_eq_getElem h1]at eu;exact BF eu
    have eu2':us'[j]=u':=by rw[List.getElem?_eq_getElem h2]at eu';exact BF eu'
    have pget:∀ {m:Nat}{zs:List V}{es:List Dt}(j:Nat){z:V},Paired (RD X.K H m) zs es->zs[j]? = some z->∃ f,es[j]? = some f/\RD X.K H m z f:=by
     intro m zs
     induction zs with
     | nil=>intro es j z p hz;simp at hz
     | cons z0 zs ihz =>
      intro es j z p hz
      cases p with
      | cons p1 p2 =>
       cases j with
       | zero=>simp at hz;subst hz;exact⟨_,rfl,p1⟩
       | succ j=>obtain⟨f,e1,e2⟩:=ihz j p2 (by simpa using hz);exact⟨f,by simpa using e1,e2⟩
    obtain⟨f,ef,rf⟩:=pget j r gx;obtain⟨f',ef',rf'⟩:=pget j r' gx';obtain⟨k,hk,he⟩:=ih (A:=A.in1) (by show A.units+1+n<cLine+1;omega) rf rf' ru ru';refine⟨k,fun _ _=>by rw[eu2,eu2'];exact he,fun d1 d2 e1 e2=>?_⟩;rw[ef]at e1;rw[ef']at e2;cases e1;cases e2;exact hk
   ·refine⟨false,fun h1 h2=>absurd ⟨h1,h2⟩ hj,fun d1 d2 e1 e2=>?_⟩
    have l1:=rv.length;have l2:=rv'.length;have l3:=BM r;have l4:=BM r';have:=(List.getElem?_eq_some_iff.mp e1).1;have:=(List.getElem?_eq_some_iff.mp e2).1;exact absurd ⟨by omega,by omega⟩ hj
  exact⟨fun j=>Classical.choose (ex j),fun j h1 h2=>(Classical.choose_spec (ex j)).1 h1 h2,fun j=>(Classical.choose_spec (ex j)).2⟩
 have allEq:∀ (ks:Nat->Bool),(∀ j d1 d2,ds[j]? = some d1->ds'[j]? = some d2->(ks j=true↔d1=d2))->ds.length=ds'.length->((List.range ds.length).all ks=true↔ds=ds'):=by
  intro ks hk hl;rw[CB];constructor
  ·intro h
   apply List.ext_getElem hl
   intro j h1 h2;exact (hk j _ _ (List.getElem?_eq_getElem h1) (List.getElem?_eq_getElem h2)).mp (h j (Dc.mpr h1))
  ·rintro rfl j hj
   have h1:=Dc.mp hj;exact (hk j _ _ (List.getElem?_eq_getElem h1) (List.getElem?_eq_getElem h1)).mpr rfl
 have l3:=BM r;have l4:=BM r'
 cases t with
 | false =>
  have q:bd X.K H l xs:=by unfold j3 at q;rwa [By BD]at q
  obtain⟨us,rv,p1,_⟩:=I.list q;have l1:=rv.length
  cases t' with
  | true =>
   have q':cr X.K H b xs':=by unfold j3 at q';rwa [Bz rfl]at q'
   obtain⟨us',rv',p2,_⟩:=I.tuple q';exact⟨false,by simp,SeqAt.RcAt.list_tuple p1.isList p2 (by omega)⟩
  | false =>
   have q':bd X.K H b xs':=by unfold j3 at q';rwa [By BD]at q'
   obtain⟨us',rv',p2,_⟩:=I.list q';have l2:=rv'.length
   by_cases hl:us.length=us'.length
   ·obtain⟨ks,he,hk⟩:=pw rv rv'
    refine⟨(List.range us.toArray.size).all ks,?_,SeqAt.RcAt.lists p1.isList p2.isList (by simpa using hl) (by omega) fun j h1 h2=>by simpa using he j (by simpa using h1) (by simpa using h2)⟩;rw[BK,show us.length=ds.length by omega,allEq ks hk (by omega)];constructor
    ·rintro rfl;rfl
    ·intro h;injection h
   ·refine⟨false,?_,SeqAt.RcAt.lists_lengths p1.isList p2.isList (by simpa using hl) (by omega)⟩
    constructor
    ·intro h;cases h
    ·intro h
     injection h with _ h;exact absurd (by rw[<-l1,l3,h,<-l4,l2]) hl
 | true =>
  have q:cr X.K H l xs:=by unfold j3 at q;rwa [Bz rfl]at q
  obtain⟨us,rv,p1,_⟩:=I.tuple q;have l1:=rv.length
  cases t' with
  | false =>
   have q':bd X.K H b xs':=by unfold j3 at q';rwa [By BD]at q'
   obtain⟨us',rv',p2,_⟩:=I.list q';exact⟨false,by simp,SeqAt.RcAt.tuple_list p1 p2.isList (by omega)⟩
  | true =>
   have q':cr X.K H b xs':=by unfold j3 at q';rwa [Bz rfl]at q'
   obtain⟨us',rv',p2,_⟩:=I.tuple q';have l2:=rv'.length;obtain⟨ks,he,hk⟩:=pw rv rv';refine⟨_,?_,SeqAt.RcAt.tuples (e:=ks) (show s.heap.IsTuple l us.toArray from p1) (show s.heap.IsTuple b us'.toArray from p2) (by omega) fun j h1 h2=>by simpa using he j (by simpa using h1) (by simpa using h2)⟩
   by_cases hl:us.length=us'.length
   ·rw[BK,BK,<-hl,Nat.min_self,beq_self_eq_true,Bool.and_true,show us.length=ds.length by omega,allEq ks hk (by omega)]
    constructor
    ·rintro rfl;rfl
    ·intro h;injection h
   ·have:(us.toArray.size == us'.toArray.size)=false:=by simpa using hl
    rw[this,Bool.and_false];constructor
    ·intro h;cases h
    ·intro h
     injection h with _ h;exact absurd (by rw[<-l1,l3,h,<-l4,l2]) hl
theorem vV (I:ao X pins σ H s):∀ (n:Nat){A:Around}{l b:Addr}{d e:Dt},A.units+n<cLine->RD X.K H (n+1) (.ref l) d->RD X.K H (n+1) (.ref b) e ->
  (∀ {A:Around}{y x:V}{u v:Value}{d e:Dt},A.units+n<cLine+1->RD X.K H n y d->RD X.K H n x e->aG y u->aG x v->∃ k:Bool,(k=true↔d=e)/\SeqAt.EqAt A s u v k) ->
  ∃ k:Bool,(k=true↔d=e)/\SeqAt.RcNeAt A s (.ref l) (.ref b) (!k):=by
 intro n A l b d e hu h1 h2 ih;rcases h1 with h1 | ⟨a,t,xs,ds,ea,rfl,q,r⟩
 ·cases h1.1
 cases ea;rcases h2 with h2 | ⟨a',t',xs',ds',ea,rfl,q',r'⟩
 ·cases h2.1
 cases ea
 have pw:∀ {us us':List Value},aL xs us->aL xs' us'->∃ ks:Nat->Bool,(∀ j (h1:j<us.length) (h2:j<us'.length),SeqAt.EqAt A.in1 s us[j] us'[j] (ks j)) /\
   (∀ j d1 d2,ds[j]? = some d1->ds'[j]? = some d2->(ks j=true↔d1=d2)):=by
  intro us us' rv rv'
  have ex:∀ j:Nat,∃ k:Bool,(∀ (h1:j<us.length)(h2:j<us'.length),SeqAt.EqAt A.in1 s us[j] us'[j] k)/\(∀ d1 d2,ds[j]? = some d1->ds'[j]? = some d2->(k=true↔d1=d2)):=by
   intro j
   by_cases hj:j<us.length/\j<us'.length
   ·obtain⟨h1,h2⟩:=hj
    have l1:=rv.length;have l2:=rv'.length;have l3:=BM r;have l4:=BM r';have gx:xs[j]? = some xs[j]:=List.getElem?_eq_getElem (by omega);have gx':xs'[j]? = some xs'[j]:=List.getElem?_eq_getElem (by omega);obtain⟨u,eu,ru⟩:=rv.get gx;obtain⟨u',eu',ru'⟩:=rv'.get gx'
    have eu2:us[j]=u:=by rw[List.getElem?_eq_getElem h1]at eu;exact BF eu
    have eu2':us'[j]=u':=by rw[List.getElem?_eq_getElem h2]at eu';exact BF eu'
    have pget:∀ {m:Nat}{zs:List V}{es:List Dt}(j:Nat){z:V},Paired (RD X.K H m) zs es->zs[j]? = some z->∃ f,es[j]? = some f/\RD X.K H m z f:=by
     intro m zs
     induction zs with
     | nil=>intro es j z p hz;simp at hz
     | cons z0 zs ihz =>
      intro es j z p hz
      cases p with
      | cons p1 p2 =>
       cases j with
       | zero=>simp at hz;subst hz;exact⟨_,rfl,p1⟩
       | succ j=>obtain⟨f,e1,e2⟩:=ihz j p2 (by simpa using hz);exact⟨f,by simpa using e1,e2⟩
    obtain⟨f,ef,rf⟩:=pget j r gx;obtain⟨f',ef',rf'⟩:=pget j r' gx';obtain⟨k,hk,he⟩:=ih (A:=A.in1) (by show A.units+1+n<cLine+1;omega) rf rf' ru ru';refine⟨k,fun _ _=>by rw[eu2,eu2'];exact he,fun d1 d2 e1 e2=>?_⟩;rw[ef]at e1;rw[ef']at e2;cases e1;cases e2;exact hk
   ·refine⟨false,fun h1 h2=>absurd ⟨h1,h2⟩ hj,fun d1 d2 e1 e2=>?_⟩
    have l1:=rv.length;have l2:=rv'.length;have l3:=BM r;have l4:=BM r';have:=(List.getElem?_eq_some_iff.mp e1).1;have:=(List.getElem?_eq_some_iff.mp e2).1;exact absurd ⟨by omega,by omega⟩ hj
  exact⟨fun j=>Classical.choose (ex j),fun j h1 h2=>(Classical.choose_spec (ex j)).1 h1 h2,fun j=>(Classical.choose_spec (ex j)).2⟩
 have allEq:∀ (ks:Nat->Bool),(∀ j d1 d2,ds[j]? = some d1->ds'[j]? = some d2->(ks j=true↔d1=d2))->ds.length=ds'.length->((List.range ds.length).all ks=true↔ds=ds'):=by
  intro ks hk hl;rw[CB];constructor
  ·intro h
   apply List.ext_getElem hl
   intro j h1 h2;exact (hk j _ _ (List.getElem?_eq_getElem h1) (List.getElem?_eq_getElem h2)).mp (h j (Dc.mpr h1))
  ·rintro rfl j hj
   have h1:=Dc.mp hj;exact (hk j _ _ (List.getElem?_eq_getElem h1) (List.getElem?_eq_getElem h1)).mpr rfl
 have l3:=BM r;have l4:=BM r'
 cases t with
 | false =>
  have q:bd X.K H l xs:=by unfold j3 at q;rwa [By BD]at q
  obtain⟨us,rv,p1,_⟩:=I.list q;have l1:=rv.length
  cases t' with
  | true =>
   have q':cr X.K H b xs':=by unfold j3 at q';rwa [Bz rfl]at q'
   obtain⟨us',rv',p2,_⟩:=I.tuple q';exact⟨false,by simp,SeqAt.RcNeAt.list_tuple p1.isList p2 (by omega)⟩
  | false =>
   have q':bd X.K H b xs':=by unfold j3 at q';rwa [By BD]at q'
   obtain⟨us',rv',p2,_⟩:=I.list q';have l2:=rv'.length
   by_cases hl:us.length=us'.length
   ·obtain⟨ks,he,hk⟩:=pw rv rv'
    refine⟨(List.range us.toArray.size).all ks,?_,SeqAt.RcNeAt.lists p1.isList p2.isList (by simpa using hl) (by omega) fun j h1 h2=>by simpa using he j (by simpa using h1) (by simpa using h2)⟩;rw[BK,show us.length=ds.length by omega,allEq ks hk (by omega)];constructor
    ·rintro rfl;rfl
    ·intro h;injection h
   ·refine⟨false,?_,SeqAt.RcNeAt.lists_lengths p1.isList p2.isList (by simpa using hl) (by omega)⟩
    constructor
    ·intro h;cases h
    ·intro h
     injection h with _ h;exact absurd (by rw[<-l1,l3,h,<-l4,l2]) hl
 | true =>
  have q:cr X.K H l xs:=by unfold j3 at q;rwa [Bz rfl]at q
  obtain⟨us,rv,p1,_⟩:=I.tuple q;have l1:=rv.length
  cases t' with
  | false =>
   have q':bd X.K H b xs':=by unfold j3 at q';rwa [By BD]at q'
   obtain⟨us',rv',p2,_⟩:=I.list q';exact⟨false,by simp,SeqAt.RcNeAt.tuple_list p1 p2.isList (by omega)⟩
  | true =>
   have q':cr X.K H b xs':=by unfold j3 at q';rwa [Bz rfl]at q'
   obtain⟨us',rv',p2,_⟩:=I.tuple q';have l2:=rv'.length;obtain⟨ks,he,hk⟩:=pw rv rv';refine⟨(List.range (min us.toArray.size us'.toArray.size)).all ks&&us.toArray.size == us'.toArray.size,?_,SeqAt.RcNeAt.tuples (e:=ks) (show s.heap.IsTuple l us.toArray from p1) (show s.heap.IsTuple b us'.toArray from p2) (by omega) fun j h1 h2=>by simpa using he j (by simpa using h1) (by simpa using h2)⟩
   by_cases hl:us.length=us'.length
   ·rw[BK,BK,<-hl,Nat.min_self,beq_self_eq_true,Bool.and_true,show us.length=ds.length by omega,allEq ks hk (by omega)]
    constructor
    ·rintro rfl;rfl
    ·intro h;injection h
   ·have:(us.toArray.size == us'.toArray.size)=false:=by simpa using hl
    rw[this,Bool.and_false];constructor
    ·intro h;cases h
    ·intro h
     injection h with _ h;exact absurd (by rw[<-l1,l3,h,<-l4,l2]) hl
theorem yk (I:ao X pins σ H s):∀ (n:Nat){A:Around}{y x:V}{u v:Value}{d e:Dt},A.units+n<cLine+1->RD X.K H n y d->RD X.K H n x e->aG y u->aG x v->∃ k:Bool,(k=true↔d=e)/\SeqAt.EqAt A s u v k:=by
 intro n
 have flatCase:∀ {A:Around}{y x:V}{u v:Value},fA y=true->fA x=true->aG y u->aG x v->∃ k:Bool,(k=true↔Dt.at y=Dt.at x)/\SeqAt.EqAt A s u v k:=by
  intro A y x u v fy fx ry rx;refine⟨uW y x,?_,uU ry rx (g9 fy) (g9 fx)⟩;rw[n9 fy fx];constructor
  ·rintro rfl;rfl
  ·intro h;injection h
 induction n with
 | zero =>
  intro A y x u v d e hu h1 h2 ry rx;obtain⟨f1,rfl⟩:=h1;obtain⟨f2,rfl⟩:=h2;exact flatCase f1 f2 ry rx
 | succ n ih =>
  intro A y x u v d e hu h1 h2 ry rx;rcases id h1 with ⟨f1,rfl⟩ | ⟨a,t,xs,ds,rfl,rfl,q,r⟩
  ·rcases id h2 with ⟨f2,rfl⟩ | ⟨a',t',xs',ds',rfl,rfl,q',r'⟩
   ·exact flatCase f1 f2 ry rx
   ·cases rx
    refine⟨false,by simp,?_⟩
    cases t' with
    | false =>
     have q':bd X.K H a' xs':=by unfold j3 at q';rwa [By BD]at q'
     obtain⟨_,_,p,_⟩:=I.list q'
     cases y with
     | non=>cases ry;exact SeqAt.EqAt.none_list p.isList (by omega)
     | int _=>obtain⟨tk,rfl⟩:=ry;exact SeqAt.EqAt.int_list _ _ p.isList (by omega)
     | str _=>obtain⟨tk,rfl⟩:=ry;exact SeqAt.EqAt.str_list _ _ p.isList (by omega)
     | _=>cases f1
    | true =>
     have q':cr X.K H a' xs':=by unfold j3 at q';rwa [Bz rfl]at q'
     obtain⟨_,_,p,_⟩:=I.tuple q'
     cases y with
     | non=>cases ry;exact SeqAt.EqAt.none_tuple p (by omega)
     | int _=>obtain⟨tk,rfl⟩:=ry;exact SeqAt.EqAt.int_tuple _ _ p (by omega)
     | str _=>obtain⟨tk,rfl⟩:=ry;exact SeqAt.EqAt.str_tuple _ _ p (by omega)
     | _=>cases f1
  ·cases ry
   rcases id h2 with ⟨f2,rfl⟩ | ⟨a',t',xs',ds',rfl,rfl,q',r'⟩
   ·refine⟨false,by simp,?_⟩
    cases t with
    | false =>
     have q:bd X.K H a xs:=by unfold j3 at q;rwa [By BD]at q
     obtain⟨_,_,p,_⟩:=I.list q
     cases x with
     | non=>cases rx;exact SeqAt.EqAt.list_none p.isList (by omega)
     | int _=>obtain⟨tk,rfl⟩:=rx;exact SeqAt.EqAt.list_int _ _ p.isList (by omega)
     | str _=>obtain⟨tk,rfl⟩:=rx;exact SeqAt.EqAt.list_str _ _ p.isList (by omega)
     | _=>cases f2
    | true =>
     have q:cr X.K H a xs:=by unfold j3 at q;rwa [Bz rfl]at q
     obtain⟨_,_,p,_⟩:=I.tuple q
     cases x with
     | non=>cases rx;exact SeqAt.EqAt.tuple_none p (by omega)
     | int _=>obtain⟨tk,rfl⟩:=rx;exact SeqAt.EqAt.tuple_int _ _ p (by omega)
     | str _=>obtain⟨tk,rfl⟩:=rx;exact SeqAt.EqAt.tuple_str _ _ p (by omega)
     | _=>cases f2
   ·cases rx
    by_cases hab:a=a'
    ·subst hab
     exact⟨true,by rw[RD.inj I h1 h2];simp,SeqAt.EqAt.same _⟩
    ·obtain⟨k,hk,hr⟩:=yO I n (A:=A) (by omega) h1 h2 (fun hu'=>ih hu')
     exact⟨k,hk,.of_refs hab hr⟩
end
inductive A1 (K:PySem.W.Frag) (n:Nat) (neg:Bool) (x y:V) (H:Hp) (Q:VK):Prop
 | mk (a b:Addr) (d e:Dt) (e1:x=.ref a) (e2:y=.ref b) (r1:RD K H (n+1) x d) (r2:RD K H (n+1) y e) (h:∀ k:Bool,(k=true↔d=e)->Q (.bl (if neg then !k else k)) H):A1 K n neg x y H Q
def AF (K:PySem.W.Frag)(n:Nat)(neg:Bool):R2:=fun x y H Q=>A1 K n neg x y H Q
section
variable {X:Cx}
theorem lz (n:Nat)(hu:X.A.units+n<cLine):ja X (compareOp .NotEq) (AF X.K n true):=by
 intro pins s σ H x y v u Q I rx ry h;obtain⟨a,b,d,e,rfl,rfl,h1,h2,q⟩:=h;cases rx;cases ry;obtain⟨k,hk,hr⟩:=vV I n (A:=X.A) hu h1 h2 (fun hu'=>yk I n hu');exact hr _ _ _ _ ⟨.bl (!k),H,I,rfl,q k hk⟩
end
end L2
namespace Wz
open PySem L2
def c5 (c:Int):Int:=if c<0 then -c else c
def eW (ns:List Int)(k:Int):Int:=if k<(ns.length:Int) then ns.getD k.toNat 0 else 0
def pD (k c:Int):Int :=
 let left:=c5 c
 let number:=(k*(1+left*1234567891%2147483646)+left/2147483646)%2147483647
 if left%5=4 then number+997852516353 else number
def dk (l:List (Int×Int)):List (bv×V):=l.map fun p=>(Sum.inl p.1,V.int p.2)
def look:List (Int×Int)->Int->Option Int
 | [],_=>none
 | p::r,g=>if p.1=g then some p.2 else look r g
def put (l:List (Int×Int))(g m:Int):List (Int×Int):=if (l.any fun p=>decide (p.1=g))=true then l.map (fun p=>if p.1=g then (p.1,m) else p) else l++[(g,m)]
def wr (l:List (Int×Int))(g:Int):Int:=(look l g).getD g
def aA (l:List (Int×Int)):List Int:=l.map (·.1)
theorem bY:∀ (l:List (Int×Int))(g:Int),b5 (dk l) (Sum.inl g:bv)=(look l g).map V.int
 | [],_=>rfl
 | p::r,g=>by
  by_cases h:p.1=g
  ·have e:b5 (dk (p::r)) (Sum.inl g:bv)=some (V.int p.2):=gm (p:=(Sum.inl p.1,V.int p.2)) (r:=dk r) (by rw[h])
   rw[e];simp[look,h]
  ·have e:b5 (dk (p::r)) (Sum.inl g:bv)=b5 (dk r) (Sum.inl g):=gl (p:=(Sum.inl p.1,V.int p.2)) (r:=dk r) (fun z=>h (Sum.inl.inj z))
   rw[e,bY r g];simp[look,h]
theorem ye (l:List (Int×Int))(g:Int):((dk l).any fun kv=>decide (kv.1=(Sum.inl g:bv)))=l.any fun p=>decide (p.1=g):=by
 unfold dk;rw[List.any_map]
 congr 1
 funext p
 simp[Function.comp]
theorem iL (l:List (Int×Int))(g m:Int):dN (dk l) (Sum.inl g:bv) (V.int m)=dk (put l g m):=by
 unfold dN put;rw[ye]
 by_cases h:(l.any fun p=>decide (p.1=g))=true
 ·rw[Bz h,Bz h]
  unfold dk;rw[B0,B0]
  apply Cc
  intro p _;simp only[Function.comp]
  by_cases e:p.1=g
  ·rw[Bz (by rw[e]),Bz e]
  ·rw[By (fun z=>e (Sum.inl.inj z)),By e]
 ·rw[By h,By h]
  unfold dk;simp
theorem kT (l:List (Int×Int))(g:Int):(l.any fun p=>decide (p.1=g))=(look l g).isSome:=by
 induction l with
 | nil=>rfl
 | cons p r ih =>
  rw[CO,ih]
  show _=(if p.1=g then some p.2 else look r g).isSome
  by_cases h:p.1=g<;>simp[h]
theorem cz {l:List (Int×Int)}{g:Int}:(look l g).isSome=true↔g∈aA l:=by
 rw[<-kT,List.any_eq_true];unfold aA;simp
theorem ve (l:List (Int×Int))(g m h:Int):look (l.map (fun p=>if p.1=g then (p.1,m) else p)) h=if h=g then (look l g).map (fun _=>m) else look l h:=by
 induction l with
 | nil=>simp[look]
 | cons p r ih =>
  rw[BO]
  by_cases hp:p.1=g
  ·rw[Bz hp]
   show (if p.1=h then some m else look _ h)=_
   rw[ih]
   by_cases hh:h=g
   ·subst hh;simp[hp,look]
   ·have:¬ p.1=h:=fun z=>hh (z.symm.trans hp)
    simp[hh,this,look]
  ·rw[By hp]
   show (if p.1=h then some p.2 else look _ h)=_
   rw[ih]
   by_cases hh:h=g
   ·subst hh;simp[hp,look]
   ·simp[hh,look]
theorem pG (l r:List (Int×Int))(h:Int):look (l++r) h=(look l h).orElse fun _=>look r h:=by
 induction l with
 | nil=>rfl
 | cons p l ih =>
  show (if p.1=h then some p.2 else look (l++r) h)=_
  rw[ih]
  by_cases e:p.1=h<;>simp[look,e]
theorem cB (l:List (Int×Int))(g m h:Int):look (put l g m) h=if h=g then some m else look l h:=by
 unfold put;rw[kT]
 by_cases e:(look l g).isSome=true
 ·rw[Bz e,ve]
  obtain⟨v,hv⟩:=Ci.mp e
  by_cases hh:h=g
  ·simp[hh,hv]
  ·simp[hh]
 ·rw[By e,pG]
  have hn:look l g=none:=by simpa using e
  by_cases hh:h=g
  ·subst hh;simp[hn,look]
  ·have:¬ g=h:=fun z=>hh z.symm
   simp[hh,look,this]
theorem pF (l:List (Int×Int))(g m:Int):aA (put l g m)=if g∈aA l then aA l else aA l++[g]:=by
 unfold put;rw[kT]
 by_cases e:(look l g).isSome=true
 ·rw[Bz e,Bz (cz.mp e)]
  unfold aA;rw[B0]
  apply Cc
  intro p _;simp only[Function.comp];split<;>rfl
 ·rw[By e,By (fun z=>e (cz.mpr z))]
  simp[aA]
theorem oy (l:List (Int×Int))(g m:Int):(put l g m).length<=l.length+1:=by
 unfold put;split<;>simp
theorem eK:∀ {l m:List Int},l.Nodup->(∀ x∈l,x∈m)->l.length<=m.length
 | [],_,_,_=>BY _
 | a::r,m,h,hs=>by
  obtain⟨h1,h2⟩:=B8.mp h;have ha:a∈m:=hs a BE;have hl:(m.erase a).length=m.length-1:=List.length_erase_of_mem ha;have hpos:0<m.length:=List.length_pos_of_mem ha;have ih:=eK (l:=r) (m:=m.erase a) h2 fun x hx=>(List.mem_erase_of_ne (show x≠a from fun e=>h1 (by rw[<-e];exact hx))).mpr (hs x (BC _ hx));rw[BU];omega
theorem jm {l:List Int}{x:Int}:x∈bi l↔x∈l:=(List.mergeSort_perm l _).mem_iff
theorem tU (l:List Int):(bi l).length=l.length:=(List.mergeSort_perm l _).length_eq
theorem qL (l:List (Int×Int)):(dk l).length=l.length:=by unfold dk;simp
def aE (P:Program)(w:World)(K:PySem.W.Frag)(mg:Str->Option Value)(base:Heap)(x:Str)(k:Nat)(ps:List Str)(sp:Sp):Prop :=
 ∃ (f:Addr)(fd:FuncData),aV P w K mg base cf k f fd ps sp/\mg x=some (.ref f)/\PySem.W.keepIn K (.ref f)=true/\c8 K fd ps []
theorem bb {X:Cx}{x:Str}{k:Nat}{ps:List Str}{sp:Sp}{e:Expr}{es:List Expr}{t:TA}{p pos:Pos}(C:aE X.prog X.w X.K X.mg X.base x k ps sp)(hr:bC k X.A)(hg:Gl X x)(ha:PA X (e::es) t)
  (hdb:(x == ("__debug__" : Str))=false:=by decide) (he:starEach (e::es) X.env=(false,eval e X.env)::starEach es X.env:=by rfl) (hpl:(backTo pos (starEach es X.env)).any (·.1)=false:=by rfl) :
  PE X (.Call (.Name x p) (e::es) [] pos) (v7 sp [] E0 t):=by
 obtain⟨f,fd,G,hm,hk,hb⟩:=C;exact sv G hr hg hm hk hb .nil dB ha hdb he hpl
def jP (H:Hp)(l:Addr)(ps:List (Int×Int)):Prop:=∃ as:List Addr,H l=some (.lst (as.map V.ref))/\Paired (fun a (p:Int×Int)=>H a=some (.tup [.int p.1,.int p.2])) as ps
theorem jP.mono {H H':Hp}{l:Addr}{ps:List (Int×Int)}(r:jP H l ps)(s:aH H H'):jP H' l ps:=by
 obtain⟨as,h,p⟩:=r;exact⟨as,s _ _ h,Paired.mapP p fun a q z=>s _ _ z⟩
theorem am {H:Hp}{l:Addr}{o:HO}(h:H l=none):aH H (upd H l o):=fun b u e=>by rw[ac (ah e h)];exact e
theorem bW {H H':Hp}{l:Addr}{o:HO}(s:aH H H')(h:H l=none):aH H (upd H' l o):=fun b u e=>by rw[ac (ah e h)];exact s b u e
theorem bM {α β:Type}{F:α->β->Prop}:∀ {l:List α}{m:List β}{i:Nat}{a:α},Paired F l m->l[i]? = some a->∃ b,m[i]? = some b/\F a b
 | _,_,_,_,.nil,h=>by simp at h
 | _,_,0,_,.cons r _,h=>by simp at h;subst h;exact⟨_,rfl,r⟩
 | _,_,i+1,a,.cons _ t,h=>by
  obtain⟨b,e1,e2⟩:=bM (i:=i) (a:=a) t (by simpa using h);exact⟨b,by simpa using e1,e2⟩
theorem bu {α β:Type}{F:α->β->Prop}:∀ {l l':List α}{m m':List β},Paired F l m->Paired F l' m'->Paired F (l++l') (m++m')
 | _,_,_,_,.nil,s=>s
 | _,_,_,_,.cons r t,s=>.cons r (bu t s)
theorem bP {α β:Type}{f:α->β}{l:List α}{i:Nat}{y:β}(h:(l.map f)[i]? = some y):∃ x,l[i]? = some x/\y=f x:=by
 rw[List.getElem?_map]at h
 cases e:l[i]? with
 | none=>rw[e]at h;cases h
 | some x=>rw[e]at h;exact⟨x,rfl,(BF h).symm⟩
theorem uB {α:Type}{l:List α}{i:Nat}{x:α}(h:l[i]? = some x):l.take (i+1)=l.take i++[x]:=by
 rw[Ce,h];rfl
theorem fo {te:TE}{a:Addr}{D:eB}{σ:St}{H:Hp}(h:te σ H fun y H2=>∃ ys,H2 a=some (.lst ys)/\ys.length<sizeLine/\D.nx σ (upd H2 a (.lst (ys++[y])))):wy rD te a D σ H:=by
 unfold wy rD;dsimp only;rw[Bz rfl];exact h
theorem wf {tt:TT}{te:TE}{a:Addr}{D:eB}{σ:St}{H:Hp}(h:tt σ H fun b H1=>if b=true then te σ H1 fun y H2=>∃ ys,H2 a=some (.lst ys)/\ys.length<sizeLine/\D.nx σ (upd H2 a (.lst (ys++[y]))) else D.nx σ H1):wy tt te a D σ H:=h
inductive lP (K:PySem.W.Frag) (vs:List V) (H:Hp) (Q:VK) (E_:XK):Prop
 | mk (a:Addr) (ns:List Int) (k:Int) (h_0:vs=[.ref a,.int k]) (h_1:bd K H a (ns.map V.int)) (h_2:0<=k) (h_3:Q (.int (eW ns k)) H):lP K vs H Q E_
inductive jB (vs:List V) (H:Hp) (Q:VK) (E_:XK):Prop
 | mk (c:Int) (h_0:vs=[.int c]) (h_1:Q (.int (c5 c)) H):jB vs H Q E_
inductive kx (vs:List V) (H:Hp) (Q:VK) (E_:XK):Prop
 | mk (c m b:Int) (h_0:vs=[.int c,.int m,.int b]) (h_1:(0<=m/\m<=1000)) (h_2:(0<b/\b<1073741824)) (h_3:∀ (l:Addr)(ds:List Int),H l=none->(∀ d∈ds,0<=d/\d<b)->(ds.length:Int)<=m->Q (.ref l) (upd H l (.lst (ds.map V.int)))):kx vs H Q E_
inductive o6 (K:PySem.W.Frag) (vs:List V) (H:Hp) (Q:VK) (E_:XK):Prop
 | mk (a:Addr) (ns:List Int) (st m b:Int) (h_0:vs=[.ref a,.int st,.int m,.int b]) (h_1:bd K H a (ns.map V.int)) (h_2:(0<=st/\st<=63)) (h_3:(0<=m/\m<=1000)) (h_4:(0<b/\b<1073741824)) (h_5:∀ (l:Addr)(H':Hp)(ds:List Int),H l=none->aH H H'->H' l=some (.lst (ds.map V.int))->(∀ d∈ds,0<=d/\d<b)->(ds.length:Int)<=m->Q (.ref l) H'):o6 K vs H Q E_
inductive iR (vs:List V) (H:Hp) (Q:VK) (E_:XK):Prop
 | mk (k c:Int) (h_0:vs=[.int k,.int c]) (h_1:(0<=k/\k<=1000000)) (h_2:Q (.int (pD k c)) H):iR vs H Q E_
inductive qf (K:PySem.W.Frag) (vs:List V) (H:Hp) (Q:VK) (E_:XK):Prop
 | mk (a:Addr) (ns:List Int) (h_0:vs=[.ref a]) (h_1:bd K H a (ns.map V.int)) (h_2:ns.length<=63) (h_3:∀ H',Q (.bl true) H'):qf K vs H Q E_
def zN (p:Int×Int):Dt:=.sq true [.at (.int p.1),.at (.int p.2)]
def AK (ps:List (Int×Int)):Dt:=.sq false (ps.map zN)
theorem vX {K:PySem.W.Frag}{H:Hp}{l:Addr}{ps:List (Int×Int)}(r:jP H l ps):RD K H 2 (.ref l) (AK ps):=by
 obtain⟨as,h,p⟩:=r;refine RD.lst (bd.of h) ?_;clear h
 induction p with
 | nil=>exact .nil
 | cons h _ ih=>exact .cons (RD.tup (cr.of h) (.cons (RD.flat rfl 0) (.cons (RD.flat rfl 0) .nil))) ih
def zH (ns:List Int):Dt:=.sq false (ns.map fun n=>.at (.int n))
theorem vn {σ:St}{H:Hp}{Q:Option Int->Hp->Prop}(h:Q none H):sQ σ H Q:=h
end Wz
namespace L2
open PySem PySem.Spec PyProof.Rows
def xK (g B:Heap)(e:Addr)(c:Value)(od:Option Addr)(fl:Value):Prop :=
 ∃ oe us T oT ts,g.get? e=some oe/\(oe.cls=c/\oe.dict=od)/\oe.data=.fields us/\us[1]? = some (.ref T)/\B.get? T=none/\T≠e/\g.get? T=some oT/\oT.data=.fields ts/\ts[3]? = some fl
def jc (B:Heap)(l:List Env)(e:Addr)(c:Value)(od:Option Addr)(g:Heap):Prop:=B.StaysIn g/\B.get? e=none/\g.FunFrames B l/\xK g B e c od .none
def xI (B:Heap)(l:List Env)(e:Addr)(c:Value)(od:Option Addr)(L:Addr)(g:Heap):Prop:=B.StaysIn g/\B.get? e=none/\g.FunFrames B l/\xK g B e c od (rawInt L)
theorem wK (f:Array Value->Array Value)(o:Obj):(Obj.mapFields f o).dict=o.dict:=by
 unfold Obj.mapFields;split<;>rfl
theorem jc.obj {B g:Heap}{l:List Env}{e:Addr}{c:Value}{od:Option Addr}(x:jc B l e c od g):∃ ob us,g.get? e=some ob/\ob.cls=c/\ob.dict=od/\ob.data=.fields us:=by
 obtain⟨_,_,_,oe,us,_,_,_,he,hc,hd,_⟩:=x;exact⟨oe,us,he,hc.1,hc.2,hd⟩
section
variable {M:Model}{A:Around}{E:Value->Shared->Prop}{s:Shared}{B:Heap}{env:Env}{outer:List Env}{L e:Addr}{od:Option Addr}{c:Value}
def Ae (g g':Heap):Prop:=∀ b o,g.get? b=some o->(∀ us,o.data≠.fields us)->∃ sl,g'.get? b=some { o with slots:=sl }
theorem uT {oe:Obj}{us:Array Value}{head:Value}{hn:Bool}{Q:Unit->Shared->Prop}(fr:A.frames=some (env::outer))(hl:s.heap.FunFrames B (env::outer))(hf:env.frame=some L)
  (he:s.heap.get? e=some oe) (hk:B.StaysIn s.heap) (hb:B.get? e=none) (hd:oe.data=.fields us) (h1:1<us.size)
  (h:∀ g,B.StaysIn g->g.FunFrames B (env::outer)->xK g B e oe.cls oe.dict (rawInt L)->Ae s.heap g->Q () { s with heap:=g }) :
  wpAny M A (do let a <-frameOf env;let pl <-entryPlaceOf L hn;let b <-EntryCells.newEntry head a .none (rawInt L) .none pl;setField (.ref e) 1 b) Q E s:=by
 have hne:e∉(env::outer).filterMap (·.frame):=fun z=>by
  obtain⟨_,o,ho,nf⟩:=hl.mem z;rw[he]at ho;cases ho;exact nf us hd
 refine Bw (wpAny_frameOf_fun fr hl hf fun g1 sl1=>Bw (wpAny_entryPlaceOf fun pl hpl=>?_));unfold EntryCells.newEntry newFields;refine Bw (Ca ?_ (hpl.sizeOk5 _ _ _ _ _));have e1:g1.get? e=some oe:=(sl1.2.1 e hne).trans he;have k1:B.StaysIn g1:=fun b o q=>(sl1.2.1 b fun z=>by rw[(hl.mem z).1]at q;cases q).trans (hk b o q);generalize hob:({ cls:=.type "traceback",dict:=none,data:=.fields ([head,.ref L,.none,rawInt L,.none]++(if pl.isEmpty then List.replicate 6 Value.none else pl)).toArray }:Obj)=ob
 have obd:ob.data=.fields ([head,.ref L,.none,rawInt L,.none]++(if pl.isEmpty then List.replicate 6 Value.none else pl)).toArray:=by rw[<-hob]
 have e2:=Heap.get?_push_of_some (h:=g1) ob e1;refine De e2 hd h1 ?_;have ne:g1.objs.size≠e:=Nat.ne_of_gt (BG e1);have d3:=C7 hd (·.setIfInBounds 1 (Value.ref g1.objs.size));have e3:=Heap.get?_update_self (Obj.mapFields (·.setIfInBounds 1 (Value.ref g1.objs.size))) e2 (Obj.isFreed_of_fields d3)
 have keep:∀ b o,b≠e->g1.get? b=some o->((g1.push ob).update e (Obj.mapFields (·.setIfInBounds 1 (Value.ref g1.objs.size)))).get? b=some o:=fun b o n q=>by
  rw[Heap.get?_update_other _ _ (BL n)];exact Heap.get?_push_of_some _ q
 have nr:∀ b o,s.heap.get? b=some o->(∀ vs,o.data≠.fields vs)->b≠e:=fun b o q nf z=>by
  rw[z,he]at q;cases q;exact nf us hd
 refine h _ (fun b o q=>keep b o (fun z=>by rw[z,hb]at q;cases q) (k1 b o q)) (hl.of_keeps fun b o q nf=>?_) ?_ fun b o q nf=>?_
 ·obtain⟨sl,z⟩:=sl1.2.2 b o q
  exact⟨_,keep b _ (nr b o q nf) z,rfl⟩
 ·refine⟨_,_,g1.objs.size,ob,_,e3,⟨Obj.cls_mapFields _ _,wK _ _⟩,d3,by simp[h1],k1.fresh,ne,?_,obd,by first | (simp;done) | (rcases hpl with rfl | ⟨_,_,_,_,_,_,_,rfl⟩<;>simp)⟩
  rw[Heap.get?_update_other _ _ (BL ne)];exact Heap.get?_push_size g1 (by rw[<-hob];rfl)
 ·obtain⟨sl,z⟩:=sl1.2.2 b o q
  exact⟨sl,keep b _ (nr b o q nf) z⟩
theorem pS {oe:Obj}{us:Array Value}{Q:Unit->Shared->Prop}(fr:A.frames=some (env::outer))(hl:s.heap.FunFrames B (env::outer))(hf:env.frame=some L)
  (he:s.heap.get? e=some oe) (hk:B.StaysIn s.heap) (hb:B.get? e=none) (hd:oe.data=.fields us) (h1:us[1]? = some .none)
  (h:∀ g,B.StaysIn g->g.FunFrames B (env::outer)->xK g B e oe.cls oe.dict (rawInt L)->Ae s.heap g->Q () { s with heap:=g }):wpAny M A (noteFrame (.ref e) env) Q E s:=by
 unfold noteFrame;simp only[hf];refine Bw (C9 he hd h1 ?_);rw[By (by decide)];exact uT fr hl hf he hk hb hd (Array.getElem?_eq_some_iff.mp h1).1 h
theorem k7 {Q:Unit->Shared->Prop}(fr:A.frames=some (env::outer))(hl:s.heap.FunFrames B (env::outer))(hf:env.frame=some L)(ht:xK s.heap B e c od .none)(hk:B.StaysIn s.heap)(hb:B.get? e=none)
  (h:∀ g,B.StaysIn g->g.FunFrames B (env::outer)->xK g B e c od (rawInt L)->Ae s.heap g->Q () { s with heap:=g }):wpAny M A (noteFrame (.ref e) env) Q E s:=by
 obtain⟨oe,us,T,oT,ts,he,⟨rfl,rfl⟩,hd,h1,nT,ne,hT,dT,h3⟩:=ht;unfold noteFrame;simp only[hf];refine Bw (C9 he hd h1 ?_);rw[Bz (show (Value.ref T != Value.none)=true by simp)];refine Bw (C9 hT dT h3 ?_);rw[By (show ¬((Value.none == rawInt L)=true) by simp[rawInt])];refine Bw (De hT dT (Array.getElem?_eq_some_iff.mp h3).1 ?_);have ot:∀ b,b≠T->(s.heap.update T (Obj.mapFields (·.setIfInBounds 3 Value.none))).get? b=s.heap.get? b:=fun b z=>Heap.get?_update_other _ _ (BL z)
 have nr:∀ b o,s.heap.get? b=some o->(∀ vs,o.data≠.fields vs)->b≠T:=fun b o q nf z=>by
  rw[z,hT]at q;cases q;exact nf ts dT
 refine uT fr (hl.of_keeps fun b o q nf=>⟨o,(ot b (nr b o q nf)).trans q,rfl⟩) hf ((ot e (BL ne)).trans he) (fun b o q=>(ot b fun z=>by rw[z,nT]at q;cases q).trans (hk b o q)) hb hd (Array.getElem?_eq_some_iff.mp h1).1 fun g a1 a2 a3 a4=>h g a1 a2 a3 fun b o q nf=>?_;exact a4 b o ((ot b (nr b o q nf)).trans q) nf
theorem kg {l:List Env}{fl:Value}{Q:Unit->Shared->Prop}(hk:B.StaysIn s.heap)(hl:s.heap.FunFrames B l)(ht:xK s.heap B e c od fl)
  (h:∀ g,B.StaysIn g->g.FunFrames B l->xK g B e c od .none->s.heap.UpToSlots g->Q () { s with heap:=g }):wpAny M A (setFlight (.ref e) none) Q E s:=by
 obtain⟨oe,us,T,oT,ts,he,hc,hd,h1,nT,ne,hT,dT,h3⟩:=ht;have z3:3<ts.size:=(Array.getElem?_eq_some_iff.mp h3).1;have ot:∀ b,b≠T->(s.heap.update T (Obj.mapFields (·.setIfInBounds 3 ((none:Option Addr).elim Value.none fun f=>rawInt f)))).get? b=s.heap.get? b:=fun b z=>Heap.get?_update_other _ _ (BL z)
 have nr:∀ b o,s.heap.get? b=some o->(∀ vs,o.data≠.fields vs)->b≠T:=fun b o q nf z=>by
  rw[z,hT]at q;cases q;exact nf ts dT
 unfold setFlight;refine Bw (C9 he hd h1 ?_);rw[Bz (show (Value.ref T != Value.none)=true by simp)];refine De hT dT z3 (h _ (fun b o q=>(ot b fun z=>by rw[z,nT]at q;cases q).trans (hk b o q)) (hl.of_keeps fun b o q nf=>⟨o,(ot b (nr b o q nf)).trans q,rfl⟩) ?_ fun b o q nf=>⟨o.slots,(ot b (nr b o q nf)).trans q⟩);exact⟨oe,us,T,_,_,(ot e (BL ne)).trans he,hc,hd,h1,nT,ne,Heap.get?_update_self _ hT (Obj.isFreed_of_fields (C7 dT _)),C7 dT _,by simp[z3]⟩
theorem vY {g g' g'':Heap}(a:Ae g g')(b:g'.UpToSlots g''):g.UpToSlots g'':=fun x o q nf=>by
 obtain⟨sl,z⟩:=a x o q nf;obtain⟨sl2,z2⟩:=b x _ z nf;exact⟨sl2,z2⟩
theorem ou {oe:Obj}{us:Array Value}{Q:Unit->Shared->Prop}(fr:A.frames=some (env::outer))(hf:env.frame=some L)(hk:B.StaysIn s.heap)(hl:s.heap.FunFrames B (env::outer))
  (he:s.heap.get? e=some oe) (hb:B.get? e=none) (hd:oe.data=.fields us) (h1:us[1]? = some .none)
  (hq:∀ g,jc B outer e oe.cls oe.dict g->s.heap.UpToSlots g->Q () { s with heap:=g }):wpAny M A (leaving env (.ref e)) Q E s:=by
 unfold leaving;refine Bw (pS fr hl hf he hk hb hd h1 fun g a1 a2 a3 a4=>?_);exact kg (s:={ s with heap:=g }) a1 a2 a3 fun g2 b1 b2 b3 b4=>hq g2 ⟨b1,hb,b2.2.2,b3⟩ (vY a4 b4)
theorem qK {Q:Unit->Shared->Prop}(fr:A.frames=some (env::outer))(hf:env.frame=some L)(fl:jc B (env::outer) e c od s.heap)
  (hq:∀ g,jc B outer e c od g->s.heap.UpToSlots g->Q () { s with heap:=g }):wpAny M A (leaving env (.ref e)) Q E s:=by
 obtain⟨f1,f2,f3,f4⟩:=fl;unfold leaving;refine Bw (k7 fr f3 hf f4 f1 f2 fun g a1 a2 a3 a4=>?_);exact kg (s:={ s with heap:=g }) a1 a2 a3 fun g2 b1 b2 b3 b4=>hq g2 ⟨b1,f2,b2.2.2,b3⟩ (vY a4 b4)
theorem tW {Q:Unit->Shared->Prop}(fr:A.frames=some (env::outer))(hf:env.frame=some L)(fl:jc B (env::outer) e c od s.heap)
  (hq:∀ g,xI B (env::outer) e c od L g->s.heap.UpToSlots g->Q () { s with heap:=g }):wpAny M A (noteFrame (.ref e) env) Q E s:=by
 obtain⟨f1,f2,f3,f4⟩:=fl;exact k7 fr f3 hf f4 f1 f2 fun g a1 a2 a3 a4=>hq g ⟨a1,f2,a2,a3⟩ a4
theorem yw {l:List Env}{Q:Unit->Shared->Prop}(hh:xI B l e c od L s.heap)(hq:∀ g,jc B l e c od g->s.heap.UpToSlots g->Q () { s with heap:=g }):wpAny M A (setFlight (.ref e) none) Q E s:=by
 obtain⟨f1,f2,f3,f4⟩:=hh;exact kg f1 f3 f4 fun g a1 a2 a3 a4=>hq g ⟨a1,f2,a2,a3⟩ a4
theorem iw {l:List Env}{Q:Unit->Shared->Prop}(hh:jc B l e c od s.heap)(hq:∀ g,jc B l e c od g->s.heap.UpToSlots g->Q () { s with heap:=g }):wpAny M A (setFlight (.ref e) none) Q E s:=by
 obtain⟨f1,f2,f3,f4⟩:=hh;exact kg f1 f3 f4 fun g a1 a2 a3 a4=>hq g ⟨a1,f2,a2,a3⟩ a4
end
abbrev qk:List Value:=[.type "ValueError",.type "Exception",.type "BaseException",.type "object"]
def exOb (C t:Addr)(od:Option Addr):Obj:={ cls:=.ref C,dict:=od,data:=.fields #[.ref t,.none,.none,.none,.bool false,.none] }
def eL:List Value->Bool
 | .ref _::r=>eL r
 | l=>l == qk
theorem jW (self:Value):∀ {l:List Value},eL l=true->refuseLoop self "__setattr__" l=pure ()
 | .ref c::r,e=>by rw[refuseLoop_ref];exact jW self (l:=r) e
 | [],e=>by cases e
 | .type a::r,e=>by rw[show (.type a::r:List Value)=qk from C4.mp e];exact PySem.F.store_ValueError.passes self
 | .none::_,e=>by simp[eL,qk]at e
 | .bool _::_,e=>by simp[eL,qk]at e
 | .int _ _::_,e=>by simp[eL,qk]at e
 | .str _ _::_,e=>by simp[eL,qk]at e
 | .bytes _ _::_,e=>by simp[eL,qk]at e
 | .float _ _::_,e=>by simp[eL,qk]at e
 | .builtin _::_,e=>by simp[eL,qk]at e
 | .ellipsis::_,e=>by simp[eL,qk]at e
 | .notImplemented::_,e=>by simp[eL,qk]at e
def gZ (K:PySem.W.Frag)(C fI:Addr):Bool:=match K.lookup C with
 | some ⟨.type "type",_,.cls cd,sl⟩=>(match cd.mro,sl.toList with
  | .ref D::bm,[_,_,_,_,some (.builtin n),_]=>D == C&&n == "ValueError.__new__"&&!cd.hasDel&&PySem.W.tailIn K qk bm&&PySem.W.nsOkIn K cd.ns&&PySem.W.nsIn K cd.ns "__init__" == some (some (.ref fI))
  | _,_=>false)
 | _=>false
theorem qW {K:PySem.W.Frag}{h:Heap}{N:Addr}{mg:Str->Option Value}{n:Str}{v:Value}(X:K.In h)(G:h.Ns N mg)(e:PySem.W.nsIn K N n=some (some v)):mg n=some v:=by
 obtain⟨o,es,ep,ho,hd,hk,hf⟩:=G;unfold PySem.W.nsIn at e;split at e
 ·rename_i oc od es2 n2 sl hl
  have:=X _ _ hl;rw[ho]at this;cases this;cases hd;split at e
  ·rename_i en he
   cases e;rw[<-hf n];unfold nsFind findBy;rw[<-Array.find?_toList,he];rfl
  ·split at e<;>cases e
 ·cases e
theorem pA {K:PySem.W.Frag}{h:Heap}{C fI:Addr}(X:K.In h)(q:gZ K C fI=true) :
  ∃ bm N nm qn bs hdct sn sub ab col dd k0 k1 k2 k3 k5 mN,h.get? C=some (excClassObj nm qn C N bs bm hdct sn sub ab col dd k0 k1 k2 k3 k5 "ValueError.__new__")/\h.Ns N mN/\mN "__init__" = some (.ref fI)/\OwnTail h qk bm:=by
 unfold gZ at q;split at q
 ·rename_i dd cd sl ho
  split at q
  ·rename_i D bm k0 k1 k2 k3 n k5 hm hs
   simp only[CQ,C4,Bool.not_eq_true']at q;obtain⟨⟨⟨⟨⟨rfl,rfl⟩,hdel⟩,ht⟩,hok⟩,hni⟩:=q;obtain⟨nm,bs,mro,ns,qn,hd,sn,sub,ab,col,del⟩:=cd;dsimp only at hm hdel hok hni;subst hm hdel
   have hsl:sl = #[k0,k1,k2,k3,some (.builtin "ValueError.__new__"),k5]:=by
    obtain⟨l⟩:=sl;simp only at hs;rw[hs]
   subst hsl;have G:h.Ns ns _:=.of_isNs (PySem.W.isNs_of_in X hok);exact⟨bm,ns,nm,qn,bs,hd,sn,sub,ab,col,dd,k0,k1,k2,k3,k5,_,X _ _ ho,G,qW X G hni,PySem.W.tail_of_in X ht⟩
  ·cases q
 ·cases q
structure zc (K:PySem.W.Frag)(C:Addr)(f:Str):Prop where
 ga:PySem.W.findIn K (.ref C) "__getattribute__" = some (some (.builtin "BaseException.__getattribute__"))
 gh:PySem.W.findIn K (.ref C) "__getattr__" = some none
 sa:PySem.W.findIn K (.ref C) "__setattr__" = some (some (.builtin "object.__setattr__"))
 na:PySem.W.findIn K (.ref C) f=some none
 hd:PySem.W.hasDictIn K C=true
 mb:PySem.W.mroIn K C (.type "BaseException")=some true
 mo:PySem.W.mroIn K C (.type "object")=some true
 ov:((PySem.W.clsIn K C).any fun cd=>eL cd.mro)=true
section
variable {prog:Program}{w:World}{A:Around}{E:Value->Shared->Prop}{s:Shared}{K:PySem.W.Frag}{x dx C:Addr}{mA:Str->Option Value}{f:Str}{v:Value}
theorem yA {expr:Bool}{ox:Obj}{us:Array Value}{Q:Value->Shared->Prop}(X:K.In s.heap)(c:zc K C f)(hx:s.heap.get? x=some ox)(hc:ox.cls=.ref C)(hd:ox.dict=some dx)(hf:ox.data=.fields us)
  (n:s.heap.Ns1 dx mA) (hv:mA f=some v) (hh:PySem.W.handedIn v=true) (h:Q v { s with toks:=s.toks+1 }):wpAny (model prog w) A (getAttr (.ref x) f expr) Q E s:=by
 obtain⟨od,ho,hl⟩:=ng n;have J:PySem.W.InstAt s.heap x ox C (some od):=⟨hx,hc,by unfold PySem.W.notCls;rw[hf],by rw[hd];exact ho⟩;have L0:=J.type (M:=model prog w);have L1:=PySem.W.looks_findIn (M:=model prog w) X c.ga;have L2:=PySem.W.looks_findIn (M:=model prog w) X c.gh;have L3:=PySem.W.looks_find (M:=model prog w) X J (PySem.W.findObj_own c.hd c.na rfl (by rw[hl,hv]));have L4:PySem.W.Looks (model prog w) s.heap (isInstance (.ref x) (.type "BaseException")) true:=L0.andThen (PySem.W.looks_mroIn X c.mb);have G:=PySem.F.excAttr_ValueError.ga;refine Bw (wpAny_mkText (Cf (Bw (L0 _ _ _ _ (fun _ _ e=>e) (Bw (L1 _ _ _ _ (fun _ _ e=>e) ?_))))));dsimp only
 have hx2:(Value.builtin "BaseException.__getattribute__" == Value.builtin "object.__getattribute__")=false:=by decide +kernel
 rw[hx2,Bool.and_false,By (by decide)];refine Bw ?_;unfold hookBefore;rw[Bz (show onTheHeap (Value.ref C)=true from rfl)];refine L2 _ _ _ _ (fun _ _ e=>e) (Bw (wpAny_attempt (Cf ?_)));unfold callGetattribute;rw[show (expr&&onTheHeap (Value.builtin "BaseException.__getattribute__"))=false from Bool.and_false _,By (by decide)];unfold boundAndCalled;rw[G.bind];refine Bw (BA ?_)
 show wpAny _ _ (call (.builtin "BaseException.__getattribute__") [.ref x,.str f s.toks]) _ _ _
 refine Df (CY G.plain PySem.F.entry_bexc_ga ?_);refine @PySem.W.check_slot (model prog w) _ _ { s with toks:=s.toks+1 } "BaseException.__getattribute__" "BaseException" "__getattribute__" (.ref x) [.str f s.toks] [] _ (by decide +kernel) (by decide +kernel) L4 (PySem.F.args_bexc_ga _ _) ?_;refine Bw (BA (Bw (BA (Bw (L0 _ _ _ _ (fun _ _ e=>e) (Bw (L3 _ _ _ _ (fun _ _ e=>e) ?_)))))));refine BA ?_
 show wpAny _ _ (handedOut v) _ _ _
 rw[PySem.W.handedOut_of hh];exact BA h
theorem yB {t:Addr}{Q:Unit->Shared->Prop}(X:K.In s.heap)(c:zc K C f)(hx:s.heap.get? x=some (exOb C t none))
  (h:∀ h' tk,h'.get? x=some (exOb C t (some s.heap.objs.size))->h'.Ns1 s.heap.objs.size (fun y=>if y=f then some v else none)->(∀ b o,b≠x->s.heap.get? b=some o->h'.get? b=some o)->Q () { s with heap:=h',toks:=tk }) :
  wpAny (model prog w) A (setAttr (.ref x) f v) Q E s:=by
 have J:PySem.W.InstAt s.heap x (exOb C t none) C none:=⟨hx,rfl,rfl,trivial⟩;have SF:=PySem.F.store_ValueError;obtain⟨cd,hcd,ho⟩:=PySem.W.any_some c.ov;obtain⟨cd',hcd',hd'⟩:=PySem.W.any_some c.hd
 have e0:cd'=cd:=by rw[hcd]at hcd';exact (BF hcd').symm
 subst e0;have L0:=J.type (M:=model prog w);have sub:PySem.W.Looks (model prog w) s.heap (isInstance (.ref x) (.type "object")) true:=L0.andThen (PySem.W.looks_mroIn X c.mo);have hm:PySem.W.Looks (model prog w) s.heap (mroOf (.ref C)) cd'.mro:=(PySem.W.looks_clsIn X hcd).andThen .now;refine PySem.W.set_plain X J c.sa ?_;refine CY SF.slot.plain SF.entry (@PySem.W.check_slot (model prog w) _ _ { s with toks:=s.toks+1 } "object.__setattr__" "object" "__setattr__" (.ref x) [.str f s.toks,v] [] _ SF.kind SF.split sub (SF.args (.ref x) (.str f s.toks) v) ?_);rw[PySem.W.osa_eq,refuse_eq];refine Bw (Bw (L0 _ _ _ _ (fun _ _ e=>e) (Bw (hm _ _ _ _ (fun _ _ e=>e) ?_))));rw[jW _ ho];refine BA (Bw (L0 _ _ _ _ (fun _ _ e=>e) (Bw (PySem.W.looks_findIn X c.na _ _ _ _ (fun _ _ e=>e) (Bw (BA ?_))))));refine Bw (BA (Bw (Bw (wpAny_loadPart hx (Bw (PySem.W.Looks.here (s:={ s with toks:=s.toks+1 }) (PySem.W.looks_clsIn X hcd) ?_))))));rw[hd'];rw[By (by decide)];have hxs:x≠s.heap.objs.size:=BJ (BG hx);have hx1:(s.heap.push { cls:=.type "dict",data:=.dict #[] }).get? x=some (exOb C t none):=Heap.get?_push_of_some _ hx
 show wpAny (model prog w) A.in1 (alloc { cls:=.type "dict",data:=.dict #[] } >>= fun dA=>(update x fun o=>{ cls:=o.cls,dict:=some dA,data:=o.data,slots:=o.slots }) >>= fun _=>dictMade (Value.ref C) x dA) _ _ _
 refine Bw (wpAny_alloc' (Bw (wpAny_update' hx1 (BA ?_))));generalize hg:((s.heap.push { cls:=.type "dict",data:=.dict #[] }).update x fun o=>{ cls:=o.cls,dict:=some s.heap.objs.size,data:=o.data,slots:=o.slots })=g1
 have hgd:g1.get? s.heap.objs.size=some { cls:=.type "dict",data:=.dict #[] }:=by
  rw[<-hg,Heap.get?_update_ne _ _ _ _ hxs.symm];exact Heap.get?_push_at rfl rfl
 have hgx:g1.get? x=some (exOb C t (some s.heap.objs.size)):=by rw[<-hg];exact Heap.get?_update_self _ hx1 rfl
 have hgo:∀ b o,b≠x->s.heap.get? b=some o->g1.get? b=some o:=fun b o n q=>by rw[<-hg,Heap.get?_update_ne _ _ _ _ n];exact Heap.get?_push_of_some _ q
 have hnd:g1.Ns s.heap.objs.size (fun _=>none):=⟨_,#[],_,hgd,rfl,fun e he=>absurd he (by simp),fun _=>rfl⟩
 show wpAny _ _ (Builtin.ObjectAttr.storeInDict s.heap.objs.size (.str f s.toks) f v) _ _ _
 unfold Builtin.ObjectAttr.storeInDict Builtin.ObjectAttr.newKeyGuard;refine Bw (BA (Bw (wpAny_nsSet1 (Heap.Ns1.of_empty hnd) fun h' hn2 hs2=>?_)));obtain⟨oD,esD,epD,hoD,hdD,hcD⟩:=hn2.count (PySem.Within.cons f v PySem.Within.nil);refine Bw (wpAny_lookBehind hoD (by rw[hdD];exact pastItsLine_dict (B6 hcD (by rw[BU,List.length_nil,Cv];omega))) ?_);refine BA (h h' _ ((hs2.2 x hxs).trans hgx) hn2 fun b o n q=>?_);exact (hs2.2 b (BJ (BG q))).trans (hgo b o n q)
theorem vm {t fI:Addr}{u:Value}{Q:Value->Shared->Prop}(X:K.In s.heap)(c:gZ K C fI=true)(hx:s.heap.get? x=some (exOb C t none))
  (h:∀ h' t',h'.get? x=some (exOb C t' none)->(∀ b o,b≠x->s.heap.get? b=some o->h'.get? b=some o)->Q .none { s with heap:=h' }) :
  wpAny (model prog w) A (call (.builtin "ValueError.__init__") [.ref x,u]) Q E s:=by
 have F:=CW;obtain⟨bm,N,nm,qn,bs,hdct,sn,sub,ab,col,dd,k0,k1,k2,k3,k5,mN,hC,hN,hni,T⟩:=pA X c;obtain⟨hp,g,d,tk,os⟩:=s;refine Df (CY F.init.plain F.initEntry (wpAny_check_init_subT F T hC hx rfl ?_));unfold Builtin.«BaseException.__init__»;dsimp only;rw[By (by simp)];unfold newTuple Builtin.BaseException.bexcPut;have hx1:=Heap.get?_push_of_some (h:=hp) { cls:=.type "tuple",data:=.seq #[u] } hx;refine Bw (Ca (Bw (Bw (C9 hx1 rfl rfl (Bw (De hx1 rfl (by show 0<6;decide) ?_))))) (by size_fits));refine wpAny_letGo (BA (h _ hp.objs.size ?_ fun b o n q=>?_))
 ·exact Heap.get?_update_self _ hx1 rfl
 ·rw[Heap.get?_update_other _ _ (BL n)];exact Heap.get?_push_of_some _ q
end
end L2
namespace PySem
open Sem (wp)
section
variable {prog:Program}{w:World}{A:Around}{E:Value->Shared->Prop}{h:Heap}{g:Array GenState}{d:Drawn}{t:Nat}{os:OsState}
variable {nm q:Str}{C N:Addr}{bs bm bmB:List Value}{hdct:Bool}{sn:List Str}{sub:List Value}{ab:Bool}{col:Option Bool}{dd:Option Addr}{k0 k1 k2 k3 k5:Option Value}{B newId initId:String}
theorem i8 (F:ExcBaseFacts B newId initId bmB)(T:OwnTail h bmB bm){mN:Str->Option Value}{rest:List Value}{fI:Addr}{oI:Obj}{Q:Fin->Shared->Prop}
  (hC:h.get? C=some (excClassObj nm q C N bs bm hdct sn sub ab col dd k0 k1 k2 k3 k5 newId)) (hn:h.Ns N mN) (hi:mN "__init__" = some (.ref fI)) (hfI:h.get? fI=some oI) (hfc:oI.cls=.type "function")
  (hq:∀ h' e,Heap.MadeExcOf h h' e (.ref C) rest->wpAny (model prog w) A (call (.ref fI) (.ref e::rest)) (fun r s'=>r=.none/\Q (.done (.ret (.ref e))) s') E ⟨h',g,d,t,os⟩) (hrest:rest.length<=sizeLine) :
  wpAny (model prog w) A (Builtin.«type.__call__» ⟨.ref C::rest,[]⟩) Q E ⟨h,g,d,t,os⟩:=by
 repeat (first | with_reducible refine Db hC ?_ | with_reducible refine wpAny_madeBy_exc hC ?_ | wp_step)
 refine codeAny_call_builtin_code (Code.quiet_builtin _ F.quiet) (wpAny_check_new_subT F T hC ?_);refine codeAny_exc_new_subT F T hC ?_ hrest
 show wpAny _ _ _ _ _ _
 have keep:∀ b o,h.get? b=some o->((h.push { cls:=.type "tuple",data:=.seq rest.toArray }).push { cls:=.ref C,data:=.fields #[.ref h.objs.size,.none,.none,.none,.bool false,.none] }).get? b=some o:=fun b o e=>Heap.get?_push_of_some _ (Heap.get?_push_of_some _ e);have hC1:=keep _ _ hC;have hn1:=hn.keeps keep
 have hget:((h.push { cls:=.type "tuple",data:=.seq rest.toArray }).push { cls:=.ref C,data:=.fields #[.ref h.objs.size,.none,.none,.none,.bool false,.none] }).get? (h.objs.size+1)=some { cls:=.ref C,data:=.fields #[.ref h.objs.size,.none,.none,.none,.bool false,.none] }:=by heap_get
 have hcC:(Value.ref C::bm).contains (.ref C)=true:=by simp
 have T1:=T.keeps keep;unfold isInstance
 repeat (first | with_reducible refine Db hget ?_ | (with_reducible refine wpAny_isSubtype_exc hC1 ?_;rw[hcC]) | wp_step)
 show wpAny _ _ (typeLookup (.ref C) _) _ _ _
 refine wpAny_typeLookup_tail hC1 hn1 T1 F.mroIs F.init.lookup ?_;rw[hi];refine Cf (Bw ?_);unfold bindSpecial;refine Bw (wpAny_typeOf (T:="function") ⟨_,keep _ _ hfI,hfc⟩ ?_);rw[Bz (by decide)];refine BA (Bw (BS (hq _ (h.objs.size+1) ⟨keep,Heap.get?_none_of_le (Nat.le_succ _),h.objs.size,hget,Heap.get?_none_of_le (BB _),Heap.get?_push_of_some _ (Heap.get?_push_at rfl rfl)⟩) (fun r s' hr=>?_) fun _ _ x=>x));obtain⟨rfl,hQ⟩:=hr
 wp_walk
 exact hQ
theorem pc (F:ExcBaseFacts B newId initId bmB)(T:OwnTail h bmB bm){mN:Str->Option Value}{rest:List Value}{fI:Addr}{oI:Obj}{Q:Value->Shared->Prop}
  (hC:h.get? C=some (excClassObj nm q C N bs bm hdct sn sub ab col dd k0 k1 k2 k3 k5 newId)) (hn:h.Ns N mN) (hi:mN "__init__" = some (.ref fI)) (hfI:h.get? fI=some oI) (hfc:oI.cls=.type "function")
  (hq:∀ h' e,Heap.MadeExcOf h h' e (.ref C) rest->wpAny (model prog w) (A.under (.builtin "type.__call__" ⟨.ref C::rest,[]⟩)) (call (.ref fI) (.ref e::rest)) (fun r s'=>r=.none/\Q (.ref e) s') E ⟨h',g,d,t,os⟩) (hrest:rest.length<=sizeLine) :
  wpAny (model prog w) A (call (.ref C) rest) Q E ⟨h,g,d,t,os⟩:=by
 have f1:=tc_lookup;have f2:=tc_bind (.ref C);have hT:(⟨h,g,d,t,os⟩:Shared).TypeIs (.ref C) "type":=⟨_,hC,rfl⟩;refine Df (codeAny_of_tree ?_)
 show wpAny _ _ (callAny (.ref C) _) _ _ _
 repeat (any_goals (first | assumption | with_reducible refine Db hC ?_ | wp_step))
 refine⟨rfl,?_⟩;refine codeAny_call_builtin_at (Code.quiet_builtin _ (by decide +kernel)) entry_typeCall (wpAny_check_type_call_sub hC (i8 F T hC hn hi hfI hfc (fun h' e hm=>?_) hrest));exact hq h' e hm
theorem wq {x:Sem Value}{s:Shared}{env:Env}{Q:Flow->Shared->Prop}(hbase:bm.contains (.type "BaseException")=true)(hh:A.handled=none)
  (h:wpAny (model prog w) A x (fun v s1=>∃ e t od,v=.ref e/\s1.heap.get? C=some (excClassObj nm q C N bs bm hdct sn sub ab col dd k0 k1 k2 k3 k5 newId)/\s1.heap.get? e=some (L2.exOb C t od)/\E (.ref e) s1) E s) :
  wpAny (model prog w) A (raiseStmt env (some x) none) Q E s:=by
 have hcB:(Value.ref C::bm).contains (.type "BaseException")=true:=by rw[List.contains_cons,hbase,Bool.or_true]
 unfold raiseStmt;refine Bw (BS h (fun v s1 h1=>?_) fun _ _ x=>x);obtain⟨e,t,od,rfl,hC,he,hE⟩:=h1;obtain⟨hp,g,d,tk,os⟩:=s1;unfold L2.exOb at he
 repeat (first | with_reducible refine Db he ?_ | with_reducible refine Db hC ?_ | (with_reducible refine wpAny_isSubtype_exc hC ?_;rw[hcB]) | wp_step)
 exact wpAny_raiseNew_none hh hE
end
end PySem
namespace L2
open PySem PySem.Spec PyProof.Rows
abbrev dZ (K:PySem.W.Frag)(C:Addr):Prop:=PySem.W.excIn K C qk "ValueError.__new__" = true
theorem wP {K:PySem.W.Frag}{h:Heap}{C:Addr}(X:K.In h)(q:dZ K C) :
  ∃ bm N nm qn bs hdct sn sub ab col dd k0 k1 k2 k3 k5 mN,h.get? C=some (excClassObj nm qn C N bs bm hdct sn sub ab col dd k0 k1 k2 k3 k5 "ValueError.__new__")/\h.Ns N mN/\mN "__init__" = none/\OwnTail h qk bm:=by
 have q:PySem.W.excIn K C qk "ValueError.__new__" = true:=q;unfold PySem.W.excIn at q;split at q
 ·rename_i dd cd sl ho
  split at q
  ·rename_i C' bm k0 k1 k2 k3 n k5 hm hs
   simp only[CQ,C4,Bool.not_eq_true']at q;obtain⟨⟨⟨⟨⟨rfl,rfl⟩,hdel⟩,ht⟩,hok⟩,hni⟩:=q;obtain⟨nm,bs,mro,ns,qn,hd,sn,sub,ab,col,del⟩:=cd;dsimp only at hm hdel hok hni;subst hm hdel
   have hsl:sl = #[k0,k1,k2,k3,some (.builtin "ValueError.__new__"),k5]:=by
    obtain⟨l⟩:=sl;simp only at hs;rw[hs]
   subst hsl;exact⟨bm,ns,nm,qn,bs,hd,sn,sub,ab,col,dd,k0,k1,k2,k3,k5,_,X _ _ ho,.of_isNs (PySem.W.isNs_of_in X hok),PySem.W.nsMap_none_of_in X hok hni,PySem.W.tail_of_in X ht⟩
  ·cases q
 ·cases q
def pz (e C:Addr)(od:Option Addr):HO:=.ext fun h=>∃ t,h.get? e=some (exOb C t od)
theorem qA {P:Program}{w:World}{H:Hp}{h:Heap}{e C t:Addr}{od:Option Addr}(q:h.get? e=some (exOb C t od)):aM P w H h e (pz e C od):=⟨⟨t,q⟩,⟨_,q⟩,fun h1 h2 ⟨t,q⟩ k=>⟨t,k _ q⟩⟩
def mD (H:Hp)(a:Addr):Hp:=fun b=>if b=a then none else H b
theorem gB {H:Hp}{a b:Addr}(h:b≠a):mD H a b=H b:=by unfold mD;rw[By h]
theorem uF {H:Hp}{a:Addr}:mD H a a=none:=by unfold mD;rw[Bz rfl]
theorem ao.untrack {X:Cx}{pins:List (Addr×Obj)}{σ:St}{H:Hp}{s:Shared}{a:Addr}{φ:Heap->Prop}(I:ao X pins σ H s)(e:H a=some (.ext φ)):ao X pins σ (mD H a) s:=by
 have ne:∀ b o,H b=some o->(∀ ψ,o≠.ext ψ)->b≠a:=fun b o q n z=>by rw[z,e]at q;cases q;exact n _ rfl
 have u:Un X.fs [] H (mD H a) s.heap s.heap :=
  ⟨fun b o q _ _ _=>q,fun b o q _ _ _=>⟨o.slots,q⟩,fun b o q n _=>by unfold mD;split<;>first | rfl | exact n,fun b o q _=>⟨o,q⟩,fun b xs q=>by rw[gB (ne b _ q fun ψ z=>nomatch z)];exact q,fun b o u q=>by rw[gB (ne b _ q fun ψ z=>nomatch z)];exact q,fun b ps q=>⟨#[],by rw[gB (ne b _ q fun ψ z=>nomatch z),q];simp⟩⟩
 have hk:fD X.prog X.w (mD H a) s.heap:=fun b o q=>by
  by_cases hb:b=a
  ·rw[hb,uF]at q;cases q
  ·rw[gB hb]at q
   exact (I.hok b o q).stay (fun c v _ r=>r) (fun c r=>by rw[gB (ne c _ r fun ψ z=>nomatch z)];exact r) fun c xs r=>by rw[gB (ne c _ r fun ψ z=>nomatch z)];exact r
 exact I.un (t':=s.toks) u hk
theorem aM.has {P:Program}{w:World}{H:Hp}{h:Heap}{a:Addr}{o:HO}(x:aM P w H h a o):∃ u,h.get? a=some u:=by
 cases o with
 | lst xs=>obtain⟨_,_,_,_,e⟩:=x;exact⟨_,e⟩
 | tup xs=>obtain⟨_,_,_,u,e,_⟩:=x;exact⟨u,e⟩
 | dK kvs=>obtain⟨_,_,_,_,o,_,_,e,_⟩:=x;exact⟨o,e⟩
 | dT kvs=>obtain⟨_,_,_,_,o,_,_,e,_⟩:=x;exact⟨o,e⟩
 | set S n=>obtain⟨o,_,_,_,e,_⟩:=x;exact⟨o,e⟩
 | ins C dx fs=>obtain⟨_,_,_,e,_⟩:=x;exact⟨_,e⟩
 | own y=>exact x
 | xd fs=>obtain⟨_,⟨o,_,_,e,_⟩,_⟩:=x;exact⟨o,e⟩
 | rng lo hi=>obtain⟨_,_,_,e⟩:=x;exact⟨_,e⟩
 | frz ob u=>obtain⟨e,_⟩:=x;exact⟨ob,e⟩
 | tbl ps=>exact⟨_,(show h.get? a=some _ from x)⟩
 | met f y=>exact⟨_,(show h.get? a=some _ from x)⟩
 | ext φ=>obtain⟨_,e,_⟩:=x;exact e
def gn (P:Program)(w:World):ql:=fun outer H s E e s'=>∃ (ea C:Addr)(od:Option Addr)(H':Hp)(B:Heap),e=.ref ea/\jc B outer ea (.ref C) od s'.heap/\Un (fU outer) [] H H' s.heap s'.heap/\fD P w H' s'.heap/\s'.os=s.os/\AllBare s'.gens /\
 (∀ b o,s.heap.get? b=some o->b∉fU outer->∃ o',B.get? b=some o')/\(∀ b o,H' b=some o->∃ o',B.get? b=some o')/\E (.ref C) od H'
theorem wk {fs:List Addr}{H H':Hp}{h h1 h2 B:Heap}(u:Un fs [] H H' h h1)(b1:B.StaysIn h1)(b2:B.StaysIn h2)(hb:∀ b o,h.get? b=some o->b∉fs->∃ o',B.get? b=some o')(sl:∀ b o,b∈fs->h.get? b=some o->H b=none->∃ sl,h2.get? b=some { o with slots:=sl })(th:∀ b o,b∈fs->h.get? b=some o->∃ o',h2.get? b=some o'):Un fs [] H H' h h2:=by
 have eq:∀ b o,h.get? b=some o->b∉fs->h2.get? b=h1.get? b:=fun b o e hf=>by
  obtain⟨o',e'⟩:=hb b o e hf;rw[b1 b o' e',b2 b o' e']
 refine⟨fun b o e n hf hx=>(eq b o e hf).trans (u.keep b o e n hf hx),fun b o e n hf hx=>sl b o hf e n,u.free,fun b o e hx=>?_,u.tups,u.frzs,u.tbls⟩
 by_cases hf:b∈fs
 ·exact th b o hf e
 ·rw[eq b o e hf];exact u.there b o e hx
theorem qF {P:Program}{w:World}{H:Hp}{h1 h2 B:Heap}(x:fD P w H h1)(b1:B.StaysIn h1)(b2:B.StaysIn h2)(hb:∀ b o,H b=some o->∃ o',B.get? b=some o'):fD P w H h2:=fun a o e =>
 (x a o e).stay (fun b u hc q=>by
  have:∃ o',B.get? b=some o':=by
   rcases hc with z | z
   ·rw[z];exact hb a o e
   ·exact hb b _ z
  obtain⟨o',e'⟩:=this;rw[b1 b o' e']at q;rw[<-q]
  exact b2 b o' e') (fun _ q=>q) fun _ _ q=>q
def rL (X:Cx)(E:XK):Prop:=∀ (pins:List (Addr×Obj))(σ:St)(H:Hp)(s:Shared)(ea C t:Addr)(od:Option Addr),ao X pins σ H s->s.heap.get? ea=some (exOb C t od)->H ea=none->X.s₀.heap.get? ea=none->E (.ref C) od H->X.xe (.ref ea) s
section
variable {P:Program}{w:World}{K:PySem.W.Frag}{mg:Str->Option Value}{base:Heap}{N:List Str}{qual:Str}{sc:Scope}{f:Addr}{cd:Value}{A:Around}{outer:List Env}{s0:Shared}{H0:Hp}{E:XK}
theorem eG:rL (kH (gn P w) P w K mg base N qual sc f cd A outer s0 H0 E) E:=by
 intro pins σ H s ea C t od I hx hn hs hE
 let X:Cx:=kH (gn P w) P w K mg base N qual sc f cd A outer s0 H0 E
 show wpAny _ _ (leaving _ _) _ _ _
 have hstk:(X.A.frames:Option (List Env))=some (X.env::outer):=I.ok.frames
 have frS:fU X.stack=X.env.locals::fU outer:=by unfold fU;rfl
 let B:Heap:=PySem.W.hideAll s.heap (ea::fU X.stack)
 have hkb:B.StaysIn s.heap:=fun b o q=>PySem.W.of_hideAll _ q;have inB:∀ b o,s.heap.get? b=some o->b≠ea->b∉fU X.stack->B.get? b=some o:=fun b o e ne hf=>PySem.W.hideAll_get _ e (fun z=>(BH.mp z).elim ne hf);have hl:s.heap.FunFrames B (X.env::outer):=PySem.W.funFrames_hide I.stack fun env he a hf=>BC _ (List.mem_filterMap.mpr ⟨env,he,hf⟩);refine ou (s:=s) hstk rfl hkb hl hx (PySem.W.hideAll_none _ BE) rfl rfl fun h2 fl ups=>?_;have ltl:∀ b o,s0.heap.get? b=some o->b≠X.env.locals:=fun b o e=>BJ (BP (BG e) I.ok.above)
 have h0B:∀ b o,s0.heap.get? b=some o->b∉fU outer->∃ o',B.get? b=some o':=fun b o e hf=>by
  obtain⟨o',e'⟩:=I.base.there b o e (by intro z;exact absurd (show b∈([]:List Addr) from z) (by simp));refine⟨o',inB b o' e' (fun z=>?_) ?_⟩
  ·have hs':s0.heap.get? ea=none:=hs
   rw[z,hs']at e;cases e
  ·rw[frS]
   intro z;rcases BH.mp z with z | z
   ·exact ltl b o e z
   ·exact hf z
 have trB:∀ b o,H b=some o->∃ o',B.get? b=some o':=fun b o e=>by
  obtain⟨u,q⟩:=(I.hok b o e).has;exact⟨u,inB b u q (fun z=>by rw[z,hn]at e;cases e) fun z=>by rw[I.stkFree b z]at e;cases e⟩
 have noEx:∀ b,b∉X.ex:=fun b z=>absurd (show b∈([]:List Addr) from z) (by simp)
 have slot2:∀ b o,b∈fU outer->s0.heap.get? b=some o->H0 b=none->∃ sl,h2.get? b=some { o with slots:=sl }:=fun b o hf e n=>by
  obtain⟨sl,e1⟩:=I.base.slot b o e n hf (noEx b);obtain⟨_,o2,ho2,hnf⟩:=I.ok.funs.mem hf
  have e2:o2=o:=by
   have:s0.heap.get? b=some o2:=ho2;rw[e]at this;exact (BF this).symm
  subst e2;obtain⟨sl2,e3⟩:=ups b _ e1 hnf;exact⟨sl2,e3⟩
 refine⟨ea,C,od,H,B,rfl,fl,?_,qF I.hok hkb fl.1 trB,I.os,I.bare,h0B,trB,hE⟩;refine wk (h1:=s.heap) I.base hkb fl.1 h0B (fun b o hf e n=>?_) fun b o hf e=>?_
 ·exact slot2 b o hf e n
 ·obtain⟨sl,q⟩:=slot2 b o hf e (I.ok.frf b hf)
  exact⟨_,q⟩
theorem cV:c4 (gn P w) (kH (gn P w) P w K mg base N qual sc f cd A outer s0 H0 E) E:=by
 intro pins σ H s e s' I hc;obtain⟨ea,C,od,H',B,rfl,fl,un,hok,os,bare,hsB,trB,hE⟩:=hc
 let X:Cx:=kH (gn P w) P w K mg base N qual sc f cd A outer s0 H0 E
 show wpAny _ _ (leaving _ _) _ _ _
 have hstk:(X.A.frames:Option (List Env))=some (X.env::outer):=I.ok.frames
 have frS:fU X.stack=X.env.locals::fU outer:=by unfold fU;rfl
 refine qK hstk rfl fl fun h2 fl2 ups=>?_;have ltl:∀ b o,s0.heap.get? b=some o->b≠X.env.locals:=fun b o e=>BJ (BP (BG e) I.ok.above);have noEx:∀ b,b∉X.ex:=fun b z=>absurd (show b∈([]:List Addr) from z) (by simp)
 have h0B:∀ b o,s0.heap.get? b=some o->b∉fU outer->∃ o',B.get? b=some o':=fun b o e hf=>by
  obtain⟨o',e'⟩:=I.base.there b o e (noEx b);refine hsB b o' e' ?_;rw[frS];intro z;rcases BH.mp z with z | z
  ·exact ltl b o e z
  ·exact hf z
 have unS:Un (fU outer) [] H0 H' s0.heap s'.heap:=by
  have u1:Un (fU outer) [] H0 H s0.heap s.heap:=I.base;refine⟨fun b o e n hf hx=>?_,fun b o e n hf hx=>?_,fun b o e n hx=>?_,fun b o e hx=>?_,fun b xs q=>un.tups b xs (u1.tups b xs q),fun b o u q=>un.frzs b o u (u1.frzs b o u q),fun b ps q=>?_⟩
  ·refine un.keep b o (u1.keep b o e n hf hx) (u1.free b o e n hx) ?_ hx
   rw[frS];intro z;rcases BH.mp z with z | z
   ·exact ltl b o e z
   ·exact hf z
  ·obtain⟨sl,e1⟩:=u1.slot b o e n hf hx
   obtain⟨sl2,e2⟩:=un.slot b _ e1 (u1.free b o e n hx) (by rw[frS];exact BC _ hf) hx;exact⟨sl2,e2⟩
  ·obtain⟨o',e'⟩:=u1.there b o e hx
   exact un.free b o' e' (u1.free b o e n hx) hx
  ·obtain⟨o',e'⟩:=u1.there b o e hx
   exact un.there b o' e' hx
  ·obtain⟨m1,e1⟩:=u1.tbls b ps q
   obtain⟨m2,e2⟩:=un.tbls b _ e1;exact⟨m1++m2,by rw[e2,Array.append_assoc]⟩
 have slot2:∀ b o,b∈fU outer->s0.heap.get? b=some o->H0 b=none->∃ sl,h2.get? b=some { o with slots:=sl }:=fun b o hf e n=>by
  obtain⟨sl,e1⟩:=unS.slot b o e n hf (by simp);obtain⟨_,o2,ho2,hnf⟩:=I.ok.funs.mem hf
  have e2:o2=o:=by
   have:s0.heap.get? b=some o2:=ho2;rw[e]at this;exact (BF this).symm
  subst e2;obtain⟨sl2,e3⟩:=ups b _ e1 hnf;exact⟨sl2,e3⟩
 refine⟨ea,C,od,H',B,rfl,fl2,?_,qF hok fl.1 fl2.1 trB,os.trans I.os,bare,h0B,trB,hE⟩;refine wk (h1:=s'.heap) unS fl.1 fl2.1 h0B (fun b o hf e n=>slot2 b o hf e n) fun b o hf e=>?_;obtain⟨sl,q⟩:=slot2 b o hf e (I.ok.frf b hf);exact⟨_,q⟩
end
theorem ao.fresh0 {X:Cx}{pins:List (Addr×Obj)}{σ:St}{H:Hp}{s:Shared}{a:Addr}(I:ao X pins σ H s)(hx:a∉X.ex)(h:s.heap.get? a=none):X.s₀.heap.get? a=none:=by
 cases e:X.s₀.heap.get? a with
 | none=>rfl
 | some o =>
  obtain⟨o',q⟩:=I.base.there a o e hx;rw[h]at q;cases q
theorem ao.unheld {X:Cx}{pins:List (Addr×Obj)}{σ:St}{H:Hp}{s:Shared}{a:Addr}(I:ao X pins σ H s)(h:s.heap.get? a=none):H a=none:=by
 cases e:H a with
 | none=>rfl
 | some o =>
  obtain⟨u,q⟩:=(I.hok a o e).has;rw[h]at q;cases q
def y0 (te:TE)(C:Addr)(E:XK):TS:=fun _ σ H=>te σ H fun _ H1=>E (.ref C) none H1
theorem iK {X:Cx}{C:Addr}{E:XK}{x:Str}{e:Expr}{te:TE}{np cpos pos:Pos}(q:dZ X.K C)(hfl:rL X E)(hex:X.ex=[])(hh:X.A.handled=none)(hg:Gl X x)(hm:X.mg x=some (.ref C))(he:PE X e te)
  (hdb:(x == ("__debug__" : Str))=false:=by decide) (hs:starEach [e] X.env=[(false,eval e X.env)]:=by rfl) :
  PS X (.Raise (some (.Call (.Name x np) [e] [] cpos)) none pos) (y0 te C E):=by
 intro pins s σ H D I h;obtain⟨bm,N,nm,qn,bs,hdct,sn,sub,ab,col,dd,k0,k1,k2,k3,k5,mN,hC,hN,hni,T⟩:=wP I.ok.mod.kin q
 refine wpAny_Raise_call_subT (C:=C) (nm:=nm) (q:=qn) (N:=N) (bs:=bs) (bm:=bm) (hdct:=hdct) (sn:=sn) (sub:=sub) (ab:=ab) (col:=col) (dd:=dd) (k0:=k0) (k1:=k1) (k2:=k2) (k3:=k3) (k5:=k5)
  CW (mN:=mN) (T.hasType CW.hasBase) hh (by rw[hs];rfl) hni (cU I hg hm ⟨rfl,?_⟩ hdb)
 rw[hs];refine Cw (Cn (aS (he pins s σ H _ I h) fun u s1 ⟨v,H1,I1,rv,q1⟩=>CM ?_));refine⟨rfl,(show 1<=sizeLine by decide),I1.bk _ _ hC,hN.keeps I1.bk,T.keeps I1.bk,fun h' ea hx=>?_⟩;obtain⟨t,hea,_,_⟩:=hx.there;exact hfl pins σ H1 { s1 with heap:=h' } ea C t none (I1.kept (t':=s1.toks) hx.keeps) hea (I1.unheld hx.new) (I1.fresh0 (by rw[hex];simp) hx.new) q1
section
variable {X:Cx}{pins:List (Addr×Obj)}{σ:St}{H:Hp}{s:Shared}
theorem ao.laidN {a:Addr}{o:HO}{h':Heap}{t':Nat}(I:ao X pins σ H s)(k:∀ b u,s.heap.get? b=some u->h'.get? b=some u)(hp:s.heap.get? a=none)(new:aM X.prog X.w (upd H a o) h' a o) :
  ao X pins σ (upd H a o) { s with heap:=h',toks:=t' }:=by
 have hn:=I.unheld hp
 have ne:∀ b u,s.heap.get? b=some u->b≠a:=fun b u q z=>by rw[z,hp]at q;cases q
 refine I.un ⟨fun b u q _ _ _=>k b u q,fun b u q _ _ _=>⟨u.slots,k b u q⟩,fun b u q n _=>by rw[ac (ne b u q)];exact n,fun b u q _=>⟨u,k b u q⟩,fun b xs q=>by rw[ac (ah q hn)];exact q,fun b u xs q=>by rw[ac (ah q hn)];exact q,fun b ps q=>⟨#[],by rw[ac (ah q hn),q];simp⟩⟩ fun b u e=>?_
 by_cases hb:b=a
 ·subst hb;rw[ae]at e;cases e;exact new
 ·rw[ac hb]at e
  exact (I.hok b u e).stay (fun c v _ q=>k c v q) (fun c q=>by rw[ac (ah q hn)];exact q) fun c xs q=>by rw[ac (ah q hn)];exact q
end
inductive xy (C:Addr) (f:Str) (vs:List V) (H:Hp) (Q:VK) (E_:XK):Prop
 | mk (ea:Addr) (g:Int) (h_0:vs=[.ref ea,.int g]) (h_1:g.natAbs<10 ^ 100) (h_2:H ea=some (pz ea C none)) (h_3:∀ dx,H dx=none->Q .non (upd (upd H ea (pz ea C (some dx))) dx (.xd [(f,.int g)]))):xy C f vs H Q E_
theorem vA {X:Cx}{pl:Sem Bool}{W fI:Addr}{x:Str}{e:Expr}{es:List Expr}{t:TA}{np apos pos:Pos}(hg:Gl X x)(hm:X.mg x=some (.ref W))(hsp:PySem.W.specialIn X.K (.ref W) "__getattribute__" = some (some (.builtin "type.__getattribute__")))
  (hrd:PySem.W.readsIn X.K W (.type "type")=true) (hfc:PySem.W.findCls X.K (.ref W) (.type "type") "__init__" = some (.val (.builtin "ValueError.__init__"))) (ha:PA X (e::es) t)
  (hdb:(x == ("__debug__" : Str))=false:=by decide) (he:starEach (e::es) X.env=(false,eval e X.env)::starEach es X.env:=by rfl) (hpl:(backTo pos (starEach es X.env)).any (·.1)=false:=by rfl)
  (ht:eval (.Call (.Attribute (.Name x np) "__init__" apos) (e::es) [] pos) X.env=(do
   let ov <-eval (.Name x np) X.env
   standAt apos.atName
   let (f,first) <-holding [ov] (getMethod ov "__init__" pl)
   callWith pos f first (backTo pos (starEach (e::es) X.env)) (backToKw pos (keywordEach [] X.env))):=by rfl) :
  PE X (.Call (.Attribute (.Name x np) "__init__" apos) (e::es) [] pos) (fun σ H Q=>t σ H fun vs H1=>∃ ea C u,vs=[.ref ea,u]/\H1 ea=some (pz ea C none)/\gZ X.K C fI=true/\Q .non H1):=by
 intro pins s σ H Q I h;refine PySem.W.methodCall_KW (pl:=pl) (cU I hg hm ?_ hdb) ht;refine PySem.W.method_cls I.kIn hsp (PySem.W.cls_value I.kIn hrd hfc rfl ?_);refine PyProof.Rows.callWith_builtin1 (aS (ha pos pins _ σ H _ (I.tok _) h) fun us s1 ⟨vs,H1,I1,r1,ea,C,v,ev,hx,c,q1⟩=>?_) he hpl;subst ev;obtain⟨u1,u2,rfl,ru1,ru2⟩:=r1.two;cases ru1;obtain⟨⟨t0,hx0⟩,_,_⟩:=(show aM X.prog X.w H1 s1.heap ea (pz ea C none) from I1.hok ea _ hx);refine vm I1.kIn c hx0 fun h' t' q k=>?_
 have e:upd H1 ea (pz ea C none)=H1:=by funext b;unfold upd;split<;>rename_i z<;>first | (rw[z,hx]) | rfl
 refine⟨.non,H1,?_,rfl,q1⟩;have:=I1.write (x:=ea) (e:=ea) (o:=pz ea C none) (h':=h') (t':=s1.toks) (by rw[hx];exact True.intro) (.inl rfl) (fun b o n z=>k b o n z) ⟨_,q⟩ (qA q)
 rwa [e]at this
theorem vN {X:Cx}{o value:Expr}{f:Str}{pos pos':Pos}{ta tv:TE}(ha:PE X o ta)(hv:PE X value tv)(hs:swapsWith value (some (.Attribute o f pos')) pos.line X.env=pure false) :
  PS X (.Assign [.Attribute o f pos'] value pos) (fun D σ H=>tv σ H fun y H1=>ta σ H1 fun x H2=>∃ ea C,x=.ref ea/\H2 ea=some (pz ea C none)/\zc X.K C f/\∀ dx,H2 dx=none->D.nx σ (upd (upd H2 ea (pz ea C (some dx))) dx (.xd [(f,y)]))):=by
 intro pins s σ H D I h;refine plainObj_wpAny_Assign_Attribute (aS (hv pins s σ H _ I h) fun u s1 ⟨y,H1,I1,ry,q⟩=>aS (ha pins s1 σ H1 _ I1 q) fun ov s2 ⟨x,H2,I2,rx,ea,C,ex,hx,c,q2⟩=>?_) hs;subst ex;obtain rfl:ov=Value.ref ea:=rx;obtain⟨⟨t0,hx0⟩,_,_⟩:=(show aM X.prog X.w H2 s2.heap ea (pz ea C none) from I2.hok ea _ hx);refine yB I2.kIn c hx0 fun h' tk hx1 hns k=>⟨σ,_,?_,q2 s2.heap.objs.size I2.fresh⟩;have hd:=I2.fresh
 have ned:s2.heap.objs.size≠ea:=fun z=>by rw[z,hx]at hd;cases hd
 have ne1:∀ b u,H2 b=some u->(∀ ψ,u≠.ext ψ)->b≠ea:=fun b u q n z=>by rw[z,hx]at q;cases q;exact n _ rfl
 have ned2:∀ b u,s2.heap.get? b=some u->b≠s2.heap.objs.size:=fun b u q=>BJ (BG q)
 have up:∀ b u,H2 b=some u->(∀ ψ,u≠.ext ψ)->upd (upd H2 ea (pz ea C (some s2.heap.objs.size))) s2.heap.objs.size (.xd [(f,y)]) b=some u:=fun b u q n=>by
  rw[ac (ah q hd),ac (ne1 b u q n)];exact q
 refine I2.un ⟨fun b u q n _ _=>k b u (fun z=>by rw[z,hx]at n;cases n) q,fun b u q n _ _=>⟨u.slots,k b u (fun z=>by rw[z,hx]at n;cases n) q⟩,fun b u q n _=>?_,fun b u q _=>?_,fun b xs q=>up b _ q (fun ψ z=>nomatch z),fun b u xs q=>up b _ q (fun ψ z=>nomatch z),fun b ps q=>⟨#[],by rw[up b _ q (fun ψ z=>nomatch z)];simp⟩⟩ fun b u q=>?_
 ·rw[ac (ned2 b u q),ac (fun z=>by rw[z,hx]at n;cases n)];exact n
 ·by_cases hb:b=ea
  ·exact⟨_,by rw[hb];exact hx1⟩
  ·exact⟨u,k b u hb q⟩
 ·by_cases hb:b=s2.heap.objs.size
  ·rw[hb,ae]at q
   cases q;rw[hb];refine⟨_,hns,fun g=>?_⟩
   show d4 (List.lookup g [(f,y)]) (if g=f then some _ else none)
   by_cases hgf:g=f
   ·rw[Bz hgf,hgf];simp only[List.lookup,beq_self_eq_true];exact ry
   ·have hb:(g == f)=false:=Cz.mpr hgf
    rw[By hgf];simp only[List.lookup,hb];trivial
  ·rw[ac hb]at q
   by_cases hb2:b=ea
   ·rw[hb2,ae]at q
    cases q;rw[hb2];exact qA hx1
   ·rw[ac hb2]at q
    refine (I2.hok b u q).stay (fun c v hc r=>k c v ?_ r) (fun c r=>up c _ r fun ψ z=>nomatch z) fun c xs r=>up c _ r fun ψ z=>nomatch z
    rcases hc with z | z
    ·rw[z];exact hb2
    ·exact ne1 c _ z fun ψ z=>nomatch z
def sR (te:TE)(C:Addr)(f:Str)(E:XK):TS:=fun _ σ H=>te σ H fun v H1=>∃ g:Int,v=.int g/\g.natAbs<10 ^ 100/\∀ dx,H1 dx=none->E (.ref C) (some dx) (upd H1 dx (.xd [(f,.int g)]))
theorem um {X:Cx}{C fI:Addr}{k:Nat}{fd:FuncData}{E:XK}{x f sl gp:Str}{e:Expr}{te:TE}{np cpos pos:Pos}(c:gZ X.K C fI=true)(hfn:PySem.W.typeIn X.K (.ref fI)=some (.type "function"))
  (G:aV X.prog X.w X.K X.mg X.base cf k fI fd [sl,gp] (xy C f)) (hr:bC (k+1) X.A) (hb:c8 X.K fd [sl,gp] [])
  (hfl:rL X E) (hex:X.ex=[]) (hh:X.A.handled=none) (hg:Gl X x) (hm:X.mg x=some (.ref C)) (he:PE X e te)
  (hdb:(x == ("__debug__" : Str))=false:=by decide) (hs:starEach [e] X.env=[(false,eval e X.env)]:=by rfl) :
  PS X (.Raise (some (.Call (.Name x np) [e] [] cpos)) none pos) (sR te C f E):=by
 intro pins s σ H D I h;obtain⟨bm,N,nm,qn,bs,hdct,sn,sub,ab,col,dd,k0,k1,k2,k3,k5,mN,hC,hN,hni,T⟩:=pA I.ok.mod.kin c;have F:=CW;have hbase:=T.hasType F.hasBase;rw[arm_exec_Raise];refine Bw (Cq (wq (C:=C) (nm:=nm) (q:=qn) (N:=N) (bs:=bs) (bm:=bm) (hdct:=hdct) (sn:=sn) (sub:=sub) (ab:=ab) (col:=col) (dd:=dd) (k0:=k0) (k1:=k1) (k2:=k2) (k3:=k3) (k5:=k5) (newId:="ValueError.__new__") hbase hh (Bw (BS (wpAny_Call_ofName (cU I hg hm ?_ hdb)) (fun v s3 h3=>Bw (Cq (BA h3))) fun _ _ x=>x))));rw[hs];unfold callWith;refine Bw (Cf (Cw (Cn (aS (he pins s σ H _ I h) fun u s1 ⟨v,H1,I1,rv,g,ev,hgb,q1⟩=>CM (Bw (Cq ?_))))));subst ev;dsimp only;have hC1:=I1.bk _ _ hC;have hN1:=hN.keeps I1.bk;have T1:=T.keeps I1.bk
 have hf1:∃ oI,s1.heap.get? fI=some oI/\oI.cls=.type "function":=by
  unfold PySem.W.typeIn at hfn;obtain⟨o,ho,hc⟩:=Option.map_eq_some_iff.mp hfn;exact⟨o,I1.kIn _ _ ho,hc⟩
 obtain⟨oI,hfI,hfc⟩:=hf1;obtain⟨hp,gs,d,tk,os⟩:=s1;refine Bw (wpAny_keeperOf_exc hC1 ?_);refine Bw (pc (rest:=[u]) F T1 hC1 hN1 hni hfI hfc (fun h' ea hx=>?_) (show 1<=sizeLine by decide));obtain⟨t0,hea,_,_⟩:=hx.there;have hfr:=I1.fresh0 (by rw[hex];simp) hx.new;have xM:=I1.unheld hx.new;have I2:ao X pins σ (upd H1 ea (pz ea C none)) ⟨h',gs,d,tk,os⟩:=I1.laidN (a:=ea) (o:=pz ea C none) (h':=h') (t':=tk) hx.keeps hx.new (qA hea);have r2:aL [V.ref ea,V.int g] [Value.ref ea,u]:=.cons rfl (.cons rv .nil)
 refine Df (CG (G.run _ X.stack _ _ ⟨[Value.ref ea,u],[]⟩ [Value.ref ea,u] [V.ref ea,V.int g] (fun v H3=>v=.non/\∃ dx,H1 dx=none/\dx≠ea/\H3=upd (upd (upd H1 ea (pz ea C none)) ea (pz ea C (some dx))) dx (.xd [(f,.int g)])) E0 (hr.make C [u] [])
  (I2.env0.make C [u] []) (hb _ [Value.ref ea,u] I2.kIn rfl) r2 ⟨ea,g,rfl,hgb,ae,fun dx hdx=>⟨rfl,dx,?_,?_,rfl⟩⟩) fun r s' hq'=>?_)
 ·by_cases z:dx=ea
  ·rw[z,ae]at hdx;cases hdx
  ·rwa [ac z]at hdx
 ·intro z;rw[z,ae]at hdx;cases hdx
 cases r with
 | error e=>exact hq'.elim
 | ok fl =>
  cases fl with
  | ret u2 =>
   obtain⟨v,H3,I3,rv3,ev,dx,hdx,hne,eH⟩:=I2.after hq';subst ev;refine⟨rv3,Bw (Cf (wpAny_point (BA ?_)))⟩
   have h3:H3 ea=some (pz ea C (some dx)):=by rw[eH,ac (BL hne),ae]
   obtain⟨⟨t3,hx3⟩,_,_⟩:=(show aM X.prog X.w H3 s'.heap ea (pz ea C (some dx)) from I3.hok ea _ h3);have I4:=I3.untrack (φ:=fun h=>∃ t,h.get? ea=some (exOb C t (some dx))) h3
   have e4:mD H3 ea=upd H1 dx (.xd [(f,.int g)]):=by
    funext b
    unfold mD
    by_cases hb:b=ea
    ·rw[Bz hb,hb,ac (BL hne),xM]
    ·rw[By hb,eH]
     by_cases hd:b=dx
     ·rw[hd,ae,ae]
     ·rw[ac hd,ac hb,ac hb,ac hd]
   rw[e4]at I4;exact⟨ea,t3,some dx,rfl,I4.bk _ _ hC,hx3,hfl pins σ _ s' ea C t3 (some dx) I4 hx3 (by rw[ac (BL hne)];exact xM) hfr (q1 dx hdx)⟩
  | next=>exact hq'.elim
  | brk=>exact hq'.elim
  | cont=>exact hq'.elim
def zo (X:Cx)(pins:List (Addr×Obj))(σ:St)(H:Hp)(ea C:Addr)(od:Option Addr)(B:Heap)(s':Shared):Prop:=H ea=none/\∀ h2,jc B X.stack ea (.ref C) od h2->s'.heap.UpToSlots h2->ao X pins σ H { s' with heap:=h2 }
theorem w4 {X:Cx}{pins:List (Addr×Obj)}{σ:St}{H H':Hp}{s s':Shared}{ea C:Addr}{od:Option Addr}{B:Heap}(I:ao X pins σ H s)(fl:jc B X.stack ea (.ref C) od s'.heap)(un:Un (fU X.stack) [] H H' s.heap s'.heap)(hok:fD X.prog X.w H' s'.heap)(os:s'.os=s.os)(bare:AllBare s'.gens)
  (hsB:∀ b o,s.heap.get? b=some o->b∉fU X.stack->∃ o',B.get? b=some o') (trB:∀ b o,H' b=some o->∃ o',B.get? b=some o'):zo X pins σ H' ea C od B s':=by
 refine⟨?_,fun h2 fl2 ups=>?_⟩
 ·cases e:H' ea with
  | none=>rfl
  | some o =>
   obtain⟨o',q⟩:=trB ea o e;rw[fl.2.1]at q;cases q
 have slot2:∀ b o,b∈fU X.stack->s.heap.get? b=some o->H b=none->∃ sl,h2.get? b=some { o with slots:=sl }:=fun b o hf e n=>by
  obtain⟨sl,e1⟩:=un.slot b o e n hf (by simp);obtain⟨_,o2,ho2,hnf⟩:=I.stack.mem hf
  have e2:o2=o:=by
   have:s.heap.get? b=some o2:=ho2;rw[e]at this;exact (BF this).symm
  subst e2;obtain⟨sl2,e3⟩:=ups b _ e1 hnf;exact⟨sl2,e3⟩
 refine I.call' (ch:=[]) (s':={ s' with heap:=h2 }) os ?_ (qF hok fl.1 fl2.1 trB) bare fun b z=>absurd z (by simp);refine wk (h1:=s'.heap) un fl.1 fl2.1 hsB (fun b o hf e n=>slot2 b o hf e n) fun b o hf e=>?_;obtain⟨sl,q⟩:=slot2 b o hf e (I.stkFree b hf);exact⟨_,q⟩
def Cx.marked (X:Cx)(ea:Addr)(oe:Obj):Cx:={ X with A:=X.A.mark (some (.ref ea)),calm:=false,xe:=fun _ _=>False,pn:=(ea,oe)::X.pn }
theorem ao.marked {X:Cx}{pins:List (Addr×Obj)}{σ:St}{H:Hp}{s:Shared}{ea:Addr}{oe:Obj}{us:Array Value}(I:ao X pins σ H s)(he:s.heap.get? ea=some oe)(hd:oe.data=.fields us)(hn:H ea=none):ao (X.marked ea oe) pins σ H s:=by
 refine⟨⟨I.ok.mod,I.ok.kind,I.ok.glob,I.ok.blt,I.ok.above,I.ok.inj,I.ok.has,I.ok.cab,fun z=>(by cases z),I.ok.frames,I.ok.stk,I.ok.exf,I.ok.bs,I.ok.bsz,I.ok.noex,I.ok.exfs,I.ok.funs,I.ok.frf⟩,I.os,I.bare,I.base,I.loc,I.cell,I.free,I.freeC,fun p hp=>?_,I.hok,I.len⟩;rcases BH.mp (show p∈(ea,oe)::(X.pn++pins) from hp) with z | z
 ·subst z
  refine⟨he,hn,fun z=>?_,fun z=>?_,fun v z=>?_⟩
  ·obtain⟨m,⟨o,es,ep,ho,hdd,_⟩,_⟩:=I.loc
   have z:ea=X.env.locals:=z;rw[<-z,he]at ho;cases ho;rw[hd]at hdd;cases hdd
  ·obtain⟨_,o,ho,nf⟩:=I.funs.mem z
   rw[he]at ho;cases ho;exact nf us hd
  ·have z:oe.data=.cell v:=z
   rw[hd]at z;cases z
 ·exact I.pin p z
theorem ao.unmarked {X:Cx}{pins:List (Addr×Obj)}{σ:St}{H:Hp}{s:Shared}{ea:Addr}{oe:Obj}(ok:X.Ok)(I:ao (X.marked ea oe) pins σ H s):ao X pins σ H s :=
 ⟨ok,I.os,I.bare,I.base,I.loc,I.cell,I.free,I.freeC,fun p hp=>I.pin p (show p∈(ea,oe)::(X.pn++pins) from BC _ hp),I.hok,I.len⟩
theorem SP.unmarked {X:Cx}{pins:List (Addr×Obj)}{D:eB}{f:Flow}{s':Shared}{ea:Addr}{oe:Obj}(ok:X.Ok)(h:SP (X.marked ea oe) pins D f s'):SP X pins D f s':=by
 cases f with
 | next=>obtain⟨σ',H',I,q⟩:=h;exact⟨σ',H',I.unmarked ok,q⟩
 | brk=>obtain⟨σ',H',I,q⟩:=h;exact⟨σ',H',I.unmarked ok,q⟩
 | cont=>obtain⟨σ',H',I,q⟩:=h;exact⟨σ',H',I.unmarked ok,q⟩
 | ret u=>obtain⟨v,σ',H',I,r,q⟩:=h;exact⟨v,σ',H',I.unmarked ok,r,q⟩
def yc (X:Cx)(hdl:List ExceptHandler)(th:Value->Option Addr->TS):Prop:=∀ (pins:List (Addr×Obj))(σ:St)(H:Hp)(D:eB)(ea C:Addr)(od:Option Addr)(B:Heap)(s':Shared)(h:Heap),zo X pins σ H ea C od B s'->jc B X.stack ea (.ref C) od h->s'.heap.UpToSlots h->th (.ref C) od D σ H ->
 wpAny (model X.prog X.w) X.A (handleBy (.ref ea) X.env hdl) (SP X pins D) X.xe { s' with heap:=h }
theorem gu {X:Cx}{pins:List (Addr×Obj)}{σ:St}{H:Hp}{s:Shared}{i:Nat}{n:Str}{pos:Pos}{E:Value->Shared->Prop}{Q:Unit->Shared->Prop}(I:ao X pins σ H s)(hN:X.N.Nodup)(hi:X.N[i]? = some n)(hk:X.env.scope.names.lookup n=some .local)
  (h:∀ s',ao X pins (σ.set i none) H s'->Q () s'):wpAny (model X.prog X.w) X.A (do bindName X.env n .none;unbindBehindTheSuite X.env n pos) Q E s:=by
 obtain⟨m,hn,hl⟩:=id I.loc
 have hcls:(X.env.scope.kind == .class||(X.env.scope.kind == .module&&X.env.locals != X.env.globals))=false:=by rw[I.ok.kind];rfl
 have cne:=I.cne;obtain⟨oL,_,_,hoL,_⟩:=id hn;refine wpAny_nameGoes_keeps hk hn hcls fun h' v hn' hs=>h _ ?_;refine⟨I.ok,I.os,I.bare,⟨fun b o e n hb hx=>?_,fun b o e n hb hx=>?_,I.base.free,fun b o e hx=>?_,I.base.tups,I.base.frzs,I.base.tbls⟩,⟨_,hn',fun j y v' e1 e2 e3=>?_⟩,fun y c e=>?_,I.free,I.freeC,fun p hp=>?_,fun b ob e=>?_,by simpa using I.len⟩
 ·exact (hs.2 b (BJ (BP (BG e) I.ok.above))).trans (I.base.keep b o e n hb hx)
 ·obtain⟨sl,e1⟩:=I.base.slot b o e n hb hx
  exact⟨sl,(hs.2 b (BJ (BP (BG e) I.ok.above))).trans e1⟩
 ·obtain⟨o',e1⟩:=I.base.there b o e hx
  exact⟨o',(hs.2 b (BJ (BP (BG e) I.ok.above))).trans e1⟩
 ·by_cases hj:j=i
  ·subst hj
   have hiσ:j<σ.length:=by rw[I.len];exact (List.getElem?_eq_some_iff.mp hi).1
   rw[List.getElem?_set_self hiσ]at e2;cases e2
  ·rw[List.getElem?_set_ne (BL hj)]at e2
   obtain⟨u',r',q⟩:=hl j y v' e1 e2 e3;refine⟨u',r',?_⟩;rcases q with ⟨k,e⟩ | ⟨k,c,e,z⟩
   ·refine .inl ⟨k,?_⟩
    have:y≠n:=fun e=>hj (k6 hN e1 (e▸hi));simp[this,e]
   ·exact .inr ⟨k,c,e,z.sameBut hs (cne y c e)⟩
 ·obtain⟨w',z⟩:=I.cell y c e
  exact⟨w',z.sameBut hs (cne y c e)⟩
 ·obtain⟨e,n,ne,nf,d⟩:=I.pin p hp
  exact⟨(hs.2 p.1 ne).trans e,n,ne,nf,d⟩
 ·refine (I.hok b ob e).stay (fun c w' hc q=>(hs.2 c ?_).trans q) (fun _ q=>q) fun _ _ q=>q
  rintro rfl;rcases hc with hc | hc
  ·rw[<-hc,I.free]at e;cases e
  ·rw[I.free]at hc;cases hc
def u0 (i:Nat)(D:eB):eB:={ nx:=fun σ H=>D.nx (σ.set i none) H,rt:=D.rt,bk:=fun σ H=>D.bk (σ.set i none) H,ct:=fun σ H=>D.ct (σ.set i none) H }
theorem ko {X:Cx}{y:Str}{C1:Addr}{b0:Stmt}{suite:List Stmt}{t1:TS}{th:Value->Option Addr->TS}{np pos:Pos}{rest:List ExceptHandler}(hg:Gl X y)(hm:X.mg y=some (.ref C1))(hs:∀ ea oe,qq (X.marked ea oe) (b0::suite) t1)(hr:yc X rest th)
  (hdb:(y == ("__debug__" : Str))=false:=by decide):yc X (.ExceptHandler (some (.Name y np)) none (b0::suite) pos::rest) (fun cls od D σ H=>∃ b,PySem.W.exmOne X.K cls (.ref C1)=some b/\if b=true then t1 D σ H else th cls od D σ H):=by
 intro pins σ H D ea C od B s' h ld fl ups ht;obtain⟨b,hb,ht⟩:=ht;have I:=ld.2 h fl ups;obtain⟨ob,us,hob,hobc,hobd,hobf⟩:=fl.obj;have Im:=I.marked (ea:=ea) hob hobf ld.1
 have LT:PySem.W.Looks (model X.prog X.w) h (typeOf (.ref ea)) (.ref C):=by
  rw[<-hobc];exact (PySem.W.Looks.ld hob).andThen .now
 refine wpAny_handleBy_cons (codeAny_handlers_test (cU (X:=X.marked ea ob) Im hg hm ?_ hdb)) (by intro z;cases z);refine (PySem.W.exm_one (K:=X.K) I.kIn LT hb).here ?_
 cases b with
 | true =>
  rw[Bz rfl]at ht;refine codeAny_handlers_suite ?_;refine iw fl fun h6 fl6 ups6=>?_;obtain⟨oe,us6,hoe,hoec,hoed,hoef⟩:=fl6.obj;have I6:=(ld.2 h6 fl6 (ups.trans ups6)).marked (ea:=ea) hoe hoef ld.1;exact BS (hs ea oe pins _ σ H D I6 ht) (fun f s2 hq=>hq.unmarked I.ok) fun _ _ z=>z.elim
 | false =>
  rw[By BD]at ht;exact hr pins σ H D ea C od B s' h ld fl ups ht
theorem yK {X:Cx}:yc X [] (fun _ _ _ _ _=>False):=fun _ _ _ _ _ _ _ _ _ _ _ _ _ h=>h.elim
theorem zO {X:Cx}{y n:Str}{i:Nat}{C1:Addr}{b0:Stmt}{suite:List Stmt}{t1:Addr->Addr->Option Addr->TS}{th:Value->Option Addr->TS}{np pos:Pos}{rest:List ExceptHandler}(hg:Gl X y)(hm:X.mg y=some (.ref C1))
  (hN:X.N.Nodup) (hi:X.N[i]? = some n) (hk:X.env.scope.names.lookup n=some .local) (hs:∀ ea oe C od us,oe.cls=.ref C->oe.dict=od->oe.data=.fields us->qq (X.marked ea oe) (b0::suite) (t1 ea C od)) (hr:yc X rest th)
  (hdb:(y == ("__debug__" : Str))=false:=by decide):yc X (.ExceptHandler (some (.Name y np)) (some n) (b0::suite) pos::rest) (fun cls od D σ H=>∃ b,PySem.W.exmOne X.K cls (.ref C1)=some b/\if b=true then ∃ C,cls=.ref C/\∀ ea,t1 ea C od (u0 i D) (σ.set i (some (.ref ea))) H else th cls od D σ H):=by
 intro pins σ H D ea C od B s' h ld fl ups ht;obtain⟨b,hb,ht⟩:=ht;have I:=ld.2 h fl ups;obtain⟨ob,us,hob,hobc,hobd,hobf⟩:=fl.obj;have Im:=I.marked (ea:=ea) hob hobf ld.1
 have LT:PySem.W.Looks (model X.prog X.w) h (typeOf (.ref ea)) (.ref C):=by
  rw[<-hobc];exact (PySem.W.Looks.ld hob).andThen .now
 refine wpAny_handleBy_cons (codeAny_handlers_test (cU (X:=X.marked ea ob) Im hg hm ?_ hdb)) (by intro z;cases z);refine (PySem.W.exm_one (K:=X.K) I.kIn LT hb).here ?_
 cases b with
 | true =>
  rw[Bz rfl]at ht;obtain⟨C',eC,ht⟩:=ht;cases eC;refine codeAny_handlers_suite_as ?_;refine iw fl fun h6 fl6 ups6=>?_;obtain⟨oe,us6,hoe,hoec,hoed,hoef⟩:=fl6.obj;have I6:=(ld.2 h6 fl6 (ups.trans ups6)).marked (ea:=ea) hoe hoef ld.1;refine i6 (X:=X.marked ea oe) (v:=.ref ea) I6 hN hi (.inl hk) rfl (fun s7 I7=>?_) (.inr hk);refine BS (hs ea oe C od us6 hoec hoed hoef pins s7 _ H (u0 i D) I7 (ht ea)) (fun f s8 hq=>?_) fun _ _ z=>z.elim;have hq:=hq.unmarked I.ok
  cases f with
  | next=>obtain⟨σ',H',I8,q⟩:=hq;exact gu I8 hN hi hk fun s9 I9=>⟨_,H',I9,q⟩
  | brk=>obtain⟨σ',H',I8,q⟩:=hq;exact gu I8 hN hi hk fun s9 I9=>⟨_,H',I9,q⟩
  | cont=>obtain⟨σ',H',I8,q⟩:=hq;exact gu I8 hN hi hk fun s9 I9=>⟨_,H',I9,q⟩
  | ret u=>obtain⟨v,σ',H',I8,r,q⟩:=hq;exact gu I8 hN hi hk fun s9 I9=>⟨v,_,H',I9,r,q⟩
 | false =>
  rw[By BD]at ht;exact hr pins σ H D ea C od B s' h ld fl ups ht
theorem yH {X:Cx}{e:Expr}{f:Str}{pos:Pos}{te:TE}{ea C:Addr}{oe:Obj}{od:Option Addr}{us:Array Value}(hp:(ea,oe)∈X.pn)(hc:oe.cls=.ref C)(ho:oe.dict=od)(hd:oe.data=.fields us)(hv:PE X e te)(hb:attributeBase e f X.env (eval e X.env)=eval e X.env) :
  PE X (.Attribute e f pos) (fun σ H Q=>te σ H fun x H1=>x=.ref ea/\zc X.K C f/\∃ dx fs v,od=some dx/\H1 dx=some (.xd fs)/\fs.lookup f=some v/\Q v H1):=by
 intro pins s σ H Q I h;refine rM hb (aS (hv pins s σ H _ I h) fun u s1 ⟨x,H1,I1,rx,ex,c,dx,fs,v,eo,hx,l,q⟩=>?_);subst ex;obtain rfl:u=Value.ref ea:=rx;obtain⟨mA,hns,hr⟩:=(show aM X.prog X.w H1 s1.heap dx (.xd fs) from I1.hok dx _ hx);obtain⟨u,hu,ru⟩:=d4.some_of (v:=v) (o:=mA f) (by rw[<-l];exact hr f);exact yA I1.kIn c (I1.pin _ (List.mem_append_left _ hp)).1 hc (ho.trans eo) hd hns hu (mZ ru) ⟨v,H1,I1.tok _,ru,q⟩
theorem xm {X:Cx}(K:PySem.W.Frag){e:Expr}{f:Str}{pos:Pos}{te:TE}{ea C:Addr}{oe:Obj}{od:Option Addr}{us:Array Value}(hp:(ea,oe)∈X.pn)(hc:oe.cls=.ref C)(ho:oe.dict=od)(hd:oe.data=.fields us)(hv:PE X e te)(hb:attributeBase e f X.env (eval e X.env)=eval e X.env)(hK:X.K=K:=by rfl) :
  PE X (.Attribute e f pos) (fun σ H Q=>te σ H fun x H1=>x=.ref ea/\zc K C f/\∃ dx fs v,od=some dx/\H1 dx=some (.xd fs)/\fs.lookup f=some v/\Q v H1):=by subst hK;exact yH hp hc ho hd hv hb
def xX (sp:Sp)(t:TA)(i:Nat)(th:Value->Option Addr->TS):TS:=fun D σ H=>t σ H fun vs H1=>sp vs H1 (fun v H2=>D.nx (σ.set i (some v)) H2) (fun cls od H2=>th cls od D σ H2)
theorem ri {X:Cx}{k:Nat}{f:Addr}{fd:FuncData}{ps:List Str}{sp:Sp}{i:Nat}{x fn:Str}{e:Expr}{es:List Expr}{t:TA}{hd0:ExceptHandler}{hdl:List ExceptHandler}{th:Value->Option Addr->TS}{px p cpos spos pos:Pos}
  (G:aV X.prog X.w X.K X.mg X.base (gn X.prog X.w) k f fd ps sp) (hr:bC k X.A) (hg:Gl X fn) (hm:X.mg fn=some (.ref f)) (hk:PySem.W.keepIn X.K (.ref f)=true) (hb:c8 X.K fd ps []) (ha:PA X.nox (e::es) t)
  (hst:X.stack=X.env::X.outer) (hfr:X.env.frame=some X.env.locals) (hN:X.N.Nodup) (hi:X.N[i]? = some x) (hx:xJ X.env.scope x) (hh:yc X (hd0::hdl) th)
  (hs:swapsWith (.Call (.Name fn p) (e::es) [] cpos) (some (.Name x px)) spos.line X.env=pure false:=by rfl) (hf:X.fn x=true\/X.env.scope.names.lookup x=some .local:=by first | exact .inl rfl | exact .inr rfl | assumption)
  (hdb:(fn == ("__debug__" : Str))=false:=by decide) (he:starEach (e::es) X.env=(false,eval e X.env)::starEach es X.env:=by rfl) (hpl:(backTo cpos (starEach es X.env)).any (·.1)=false:=by rfl) :
  PS X (.Try [.Assign [.Name x px] (.Call (.Name fn p) (e::es) [] cpos) spos] (hd0::hdl) [] [] pos) (xX sp t i th):=by
 intro pins s σ H D I h;refine wpAny_Try_except ?_;refine wpAny_execs_cons ?_;refine wpAny_Assign_Name ?_ hs;refine CD (cU I hg hm ?_ hdb);refine PySem.W.callWith_K (h₀:=X.base) I.ok.mod.kin hk (BS (ha cpos pins s σ H _ (I.wish _) h) (fun us s1 ⟨vs,H1,I1,r,q⟩=>⟨I1.unwish.kIn,?_⟩) fun _ _ z=>z.elim) he hpl;have I1:=I1.unwish
 have hl:us.length=ps.length:=by rw[<-r.length];exact G.len _ _ _ _ q
 have hb':=hb s1 us I1.kIn (by rw[List.append_nil];exact hl);rw[List.append_nil]at hb';refine Df (CG (G.run X.A X.stack s1 H1 ⟨us,[]⟩ us vs _ _ hr I1.env0 hb' r q) fun rs s' hq=>?_)
 cases rs with
 | error er =>
  obtain⟨ea,C,od,H',B,rfl,fl,un,hok,os,bare,hsB,trB,hE⟩:=hq;have ld:=w4 I1 fl un hok os bare hsB trB;have fl':=fl;rw[hst]at fl';refine tW (by rw[I.ok.frames,hst]) hfr fl' fun h4 held ups4=>?_;refine yw held fun h5 fl5 ups5=>?_;rw[<-hst]at fl5;exact hh pins σ H' D ea C od B s' h5 ld fl5 (ups4.trans ups5) hE
 | ok fl =>
  cases fl with
  | ret u =>
   obtain⟨v,H2,I2,rv,q2⟩:=I1.after hq;exact i6 I2 hN hi hx rv (fun s3 I3=>wpAny_execs_nil (wpAny_execs_nil ⟨_,H2,I3,q2⟩)) hf
  | next=>exact False.elim hq
  | brk=>exact False.elim hq
  | cont=>exact False.elim hq
theorem dj.okX {P:Program}{w:World}{K:PySem.W.Frag}{mg:Str->Option Value}{base:Heap}{x qual:Str}{st:Stmt}{f:Addr}{fd:FuncData}{N ps:List Str}{k:Nat}{sp:Sp}(F:dj K x qual st f fd)(S:av N ps (ak st))(len:∀ vs H Q E,sp vs H Q E->vs.length=ps.length)
  (hbody:∀ (cdv:Value)(A:Around)(outer:List Env)(s:Shared)(H:Hp)(vs:List V)(Q:VK)(E:XK),bC k (A.deeper (envOfC qual (ak st) s.heap.objs.size f cdv))->sp vs H Q E ->
   ∃ t,qq (kH (gn P w) P w K mg base N qual (ak st) f cdv A outer s H E) (cx st) t/\t { nx:=fun _ H'=>Q .non H',rt:=Q } (iZ N vs) H):aV P w K mg base (gn P w) (k+1) f fd ps sp:=by
 obtain⟨oc,od,kV,doc,pm,an,cdv,ct,osl,rfl,lk,hcd⟩:=F.ex;exact xL lk hcd S len fun A outer s H vs Q E hr hsp=>hbody cdv A outer s H vs Q E hr hsp
def PJ (X:Cx)(es:List Expr)(t:TA):Prop:=∀ (out:Str)(m:Nat)(pins:List (Addr×Obj))(s:Shared)(σ:St)(H:Hp)(Q:VK),out.length<=1000*m->m+es.length<=100->ao X pins σ H s->t σ H (fun _ H'=>∀ x:Str,Q (.str x) H')->wpAny (model X.prog X.w) X.A (joinParts out (evalEach es X.env)) (EP X pins σ Q) X.xe s
theorem lD {X:Cx}:PJ X [] ke:=by
 intro out m pins s σ H Q ho hm I h;refine joinParts_nil ⟨.str out,H,I.tok _,⟨_,rfl⟩,h out⟩ ?_;exact B6 ho (B6 (Nat.mul_le_mul_left 1000 (show m<=100 by simpa using hm)) (by decide))
def tJ (te:TE)(t:TA):TA:=fun σ H Q=>te σ H fun x H1=>∃ y:Str,x=.str y/\y.length<=1000/\t σ H1 Q
theorem bQ {X:Cx}{e:Expr}{es:List Expr}{te:TE}{t:TA}(he:PE X e te)(h:PJ X es t):PJ X (e::es) (tJ te t):=by
 intro out m pins s σ H Q ho hm I hq
 show wpAny _ _ (joinParts out (eval e X.env::evalEach es X.env)) _ _ s
 refine joinParts_cons (aS (he pins s σ H _ I hq) fun u s1 ⟨x,H1,I1,rx,y,ex,hy,q1⟩=>?_);subst ex;obtain⟨tk,rfl⟩:=rx
 have hl:(out++y).length<=1000*(m+1):=by rw[strLen_append];omega
 rw[BU]at hm;refine⟨B6 hl (B6 (Nat.mul_le_mul_left 1000 (show m+1<=100 by omega)) (by decide)),?_⟩;exact h (out++y) (m+1) pins s1 σ H1 Q hl (by omega) I1 q1
def Bn (t:TA):TE:=fun σ H Q=>t σ H fun _ H'=>∀ x:Str,Q (.str x) H'
theorem iF {X:Cx}{e1 e2:Expr}{es:List Expr}{t:TA}{pos:Pos}(h:PJ X (e1::e2::es) t)(hn:(e1::e2::es).length<=100:=by decide):PE X (.JoinedStr (e1::e2::es) pos) (Bn t):=by
 intro pins s σ H Q I hq;refine JoinedStr_many ?_;exact h Str.empty 0 pins s σ H Q (by show 0<=_;exact BY _) (by simpa using hn) I hq
def Bm (te:TE):TE:=fun σ H Q=>te σ H fun x H1=>∃ i:Int,x=.int i/\i.natAbs<10 ^ 100/\∀ y:Str,y.length<=1000->Q (.str y) H1
theorem eZ {X:Cx}{e:Expr}{te:TE}{pos:Pos}(he:PE X e te):PE X (.FormattedValue e (-1) none pos) (Bm te):=by
 intro pins s σ H Q I h;refine FormattedValue_plain (aS (he pins s σ H _ I h) fun u s1 ⟨x,H1,I1,rx,i,ex,hi,q⟩=>?_);subst ex;obtain⟨tk,rfl⟩:=rx
 have hd:i.natAbs.log2<1920:=by
  by_cases h0:i.natAbs=0
  ·rw[h0];decide
  ·exact (Nat.log2_lt h0).mpr (BP hi (by decide +kernel))
 refine wpAny_formatField_int hd ⟨.str (toString i),H1,I1.tok _,⟨_,rfl⟩,q _ ?_⟩;have:=PySem.int_text_length_le10 (a:=i) (k:=100) (by decide) hi
 show (Str.ofString (toString i)).length<=1000
 rw[PySem.ofString_length];omega
end L2
namespace Wz
open PySem L2
def ax (P:Program)(w:World)(K:PySem.W.Frag)(mg:Str->Option Value)(base:Heap)(CX:ql)(C:Addr)(m:Str)(k:Nat)(ps:List Str)(sp:Sp):Prop :=
 ∃ (f:Addr)(fd:FuncData),aV P w K mg base CX k f fd ps sp/\wz K C m f/\c8 K fd ps []
def eU (P:Program)(w:World)(K:PySem.W.Frag)(mg:Str->Option Value)(base:Heap)(x:Str)(k:Nat)(ps:List Str)(sp:Sp):Prop :=
 ∃ (f:Addr)(fd:FuncData),aV P w K mg base (gn P w) k f fd ps sp/\mg x=some (.ref f)/\PySem.W.keepIn K (.ref f)=true/\c8 K fd ps []
section
variable {X:Cx}{CX:ql}{k:Nat}{C:Addr}{ps:List Str}{sp:Sp}{E:XK}{m x:Str}{p pos apos:Pos}{e o:Expr}{es:List Expr}{ta:TE}{t:TA}
theorem ca {pl:Sem Bool}(M:ax X.prog X.w X.K X.mg X.base CX C m k ps sp)(he:PE X o ta)(c:ti X.K C)(hr:bC k X.A)(hx:c4 CX X E)(ha:PA X (e::es) t)
  (hst:starEach (e::es) X.env=(false,eval e X.env)::starEach es X.env:=by rfl) (hpl:(backTo pos (starEach es X.env)).any (·.1)=false:=by rfl)
  (ht:eval (.Call (.Attribute o m apos) (e::es) [] pos) X.env=(do
   let ov <-eval o X.env
   standAt apos.atName
   let (f,first) <-holding [ov] (getMethod ov m pl)
   callWith pos f first (backTo pos (starEach (e::es) X.env)) (backToKw pos (keywordEach [] X.env))):=by rfl) :
  PE X (.Call (.Attribute o m apos) (e::es) [] pos) (sP C m sp [] E ta t):=by
 obtain⟨f,fd,G,hm,hb⟩:=M;exact xo he c hm G hr hb .nil hx ha hst hpl ht
theorem lE {pl:Sem Bool}(M:ax X.prog X.w X.K X.mg X.base CX C m k ps sp)(he:PE X o ta)(c:ti X.K C)(hr:bC k X.A)(hx:c4 CX X E)
  (ht:eval (.Call (.Attribute o m apos) [] [] pos) X.env=(do
   let ov <-eval o X.env
   standAt apos.atName
   let (f,first) <-holding [ov] (getMethod ov m pl)
   callWith pos f first (backTo pos (starEach [] X.env)) (backToKw pos (keywordEach [] X.env))):=by rfl) :
  PE X (.Call (.Attribute o m apos) [] [] pos) (sP C m sp [] E ta ke):=by
 obtain⟨f,fd,G,hm,hb⟩:=M;exact vG he c hm G hr hb .nil hx ht
theorem yN (M:eU X.prog X.w X.K X.mg X.base x k ps sp)(hr:bC k X.A)(hg:Gl X x)(hx:c4 (gn X.prog X.w) X E)(ha:PA X (e::es) t)
  (hdb:(x == ("__debug__" : Str))=false:=by decide) (he:starEach (e::es) X.env=(false,eval e X.env)::starEach es X.env:=by rfl) (hpl:(backTo pos (starEach es X.env)).any (·.1)=false:=by rfl) :
  PE X (.Call (.Name x p) (e::es) [] pos) (v7 sp [] E t):=by
 obtain⟨f,fd,G,hm,hk,hb⟩:=M;exact sv G hr hg hm hk hb .nil hx ha hdb he hpl
theorem AE {X:Cx}{k:Nat}{ps:List Str}{sp:Sp}{i:Nat}{x fn:Str}{e:Expr}{es:List Expr}{t:TA}{hd0:ExceptHandler}{hdl:List ExceptHandler}{th:Value->Option Addr->TS}{px p cpos spos pos:Pos}
  (M:eU X.prog X.w X.K X.mg X.base fn k ps sp) (hr:bC k X.A) (hg:Gl X fn) (ha:PA X.nox (e::es) t)
  (hst:X.stack=X.env::X.outer) (hfr:X.env.frame=some X.env.locals) (hN:X.N.Nodup) (hi:X.N[i]? = some x) (hx:xJ X.env.scope x) (hh:yc X (hd0::hdl) th)
  (hs:swapsWith (.Call (.Name fn p) (e::es) [] cpos) (some (.Name x px)) spos.line X.env=pure false:=by rfl) (hf:X.fn x=true\/X.env.scope.names.lookup x=some .local:=by first | exact .inl rfl | exact .inr rfl | assumption)
  (hdb:(fn == ("__debug__" : Str))=false:=by decide) (he:starEach (e::es) X.env=(false,eval e X.env)::starEach es X.env:=by rfl) (hpl:(backTo cpos (starEach es X.env)).any (·.1)=false:=by rfl) :
  PS X (.Try [.Assign [.Name x px] (.Call (.Name fn p) (e::es) [] cpos) spos] (hd0::hdl) [] [] pos) (xX sp t i th):=by
 obtain⟨f,fd,G,hm,hk,hb⟩:=M;exact ri G hr hg hm hk hb ha hst hfr hN hi hx hh hs hf hdb he hpl
end
inductive aF where
 | come (g:Int) | go (g:Int) | exch (a b:Int)
 deriving DecidableEq
def a7:aF->HO
 | .come g=>.tup [.str "come",.int g]
 | .go g=>.tup [.str "go",.int g]
 | .exch a b=>.tup [.str "exchange",.int a,.int b]
structure bw where
 worn:List (Int×Int)
 hold:List (Int×Int)
 circ:List (Int×List Int)
 deeds:List aF
def bV:List Addr->List (Int×List Int)->List (bv×V)
 | a::as,x::xs=>(Sum.inl x.1,V.ref a)::bV as xs
 | _,_=>[]
def m7 (ks:List Int):List (bv×V):=ks.map fun k=>(Sum.inl k,V.bl true)
structure HA where
 dx:Addr
 w:Addr
 h:Addr
 c:Addr
 d:Addr
 cs:List Addr
def HA.fp (A:HA):List Addr:=A.w::A.h::A.c::A.d::A.cs
def aX (A:HA):List (Str×V):=eO "deeds" (.ref A.d) (eO "circles" (.ref A.c) (eO "holders" (.ref A.h) (eO "worn" (.ref A.w) [])))
theorem s1:¬ (("worn" : Str)="holders"):=by decide +kernel
theorem s2:¬ (("worn" : Str)="circles"):=by decide +kernel
theorem s3:¬ (("worn" : Str)="deeds"):=by decide +kernel
theorem s4:¬ (("holders" : Str)="circles"):=by decide +kernel
theorem s5:¬ (("holders" : Str)="deeds"):=by decide +kernel
theorem s6:¬ (("circles" : Str)="deeds"):=by decide +kernel
theorem qE (A:HA):(aX A).lookup ("worn" : Str)=some (.ref A.w):=by
 unfold aX;rw[aI,By s3,aI,By s2,aI,By s1,aI,Bz rfl]
theorem wW (A:HA):(aX A).lookup ("holders" : Str)=some (.ref A.h):=by
 unfold aX;rw[aI,By s5,aI,By s4,aI,Bz rfl]
theorem wV (A:HA):(aX A).lookup ("circles" : Str)=some (.ref A.c):=by
 unfold aX;rw[aI,By s6,aI,Bz rfl]
theorem u6 (A:HA):(aX A).lookup ("deeds" : Str)=some (.ref A.d):=by
 unfold aX;rw[aI,Bz rfl]
theorem gO (A:HA){m:Str}(h1:¬ m="worn")(h2:¬ m="holders")(h3:¬ m="circles")(h4:¬ m="deeds"):(aX A).lookup m=none:=by
 unfold aX;rw[aI,By h4,aI,By h3,aI,By h2,aI,By h1];rfl
theorem lV (A:HA) {m:Str} (h:¬ m="worn"/\¬ m="holders"/\¬ m="circles"/\¬ m="deeds"):(aX A).lookup m=none:=gO A h.1 h.2.1 h.2.2.1 h.2.2.2
def bI (H:Hp)(d:Addr)(ds:List aF):Prop:=∃ as:List Addr,H d=some (.lst (as.map V.ref))/\Paired (fun a x=>H a=some (a7 x)) as ds
structure au (C:Addr)(H:Hp)(p:Addr)(A:HA)(st:bw):Prop where
 ob:H p=some (.ins C A.dx (aX A))
 nd:A.fp.Nodup
 w:H A.w=some (.dK (dk st.worn))
 h:H A.h=some (.dK (dk st.hold))
 c:H A.c=some (.dK (bV A.cs st.circ))
 cs:Paired (fun a (x:Int×List Int)=>H a=some (.dK (m7 x.2))) A.cs st.circ
 d:bI H A.d st.deeds
def Kp (fp:List Addr)(H H':Hp):Prop:=∀ b o,H b=some o->b∉fp->H' b=some o
theorem Kp.of_same {fp:List Addr}{H H':Hp}(s:aH H H'):Kp fp H H':=fun b o e _=>s b o e
theorem Kp.trans {fp fp':List Addr}{H H1 H2:Hp}(a:Kp fp H H1)(b:Kp fp' H1 H2)(h:∀ x∈fp',x∈fp\/H x=none):Kp fp H H2:=fun x o e n =>
 b x o (a x o e n) fun z=>(h x z).elim n fun y=>by rw[e]at y;cases y
theorem bL {H H':Hp}{d:Addr}{ds:List aF}(r:bI H d ds)(s:aH H H'):bI H' d ds:=by
 obtain⟨as,h,p⟩:=r;exact⟨as,s _ _ h,Paired.mapP p fun a q z=>s _ _ z⟩
theorem au.mono {C:Addr}{H H':Hp}{p:Addr}{A:HA}{st:bw}(x:au C H p A st)(s:aH H H'):au C H' p A st :=
 ⟨s _ _ x.ob,x.nd,s _ _ x.w,s _ _ x.h,s _ _ x.c,Paired.mapP x.cs fun a q z=>s _ _ z,bL x.d s⟩
theorem au.kept {C:Addr}{H H':Hp}{p:Addr}{A:HA}{st:bw}{fp:List Addr}(x:au C H p A st)(k:Kp fp H H')(hp:p∉fp)(hd:∀ b∈A.fp,b∉fp)(ht:∀ b xs,H b=some (.tup xs)->b∉fp):au C H' p A st:=by
 have m:∀ b∈A.fp,∀ o,H b=some o->H' b=some o:=fun b hb o e=>k b o e (hd b hb);refine⟨k _ _ x.ob hp,x.nd,m _ (by simp[HA.fp]) _ x.w,m _ (by simp[HA.fp]) _ x.h,m _ (by simp[HA.fp]) _ x.c,?_,?_⟩
 ·have:∀ (cs:List Addr)(ci:List (Int×List Int)),(∀ b∈cs,b∈A.fp)->Paired (fun a (x:Int×List Int)=>H a=some (.dK (m7 x.2))) cs ci->Paired (fun a (x:Int×List Int)=>H' a=some (.dK (m7 x.2))) cs ci:=by
   intro cs ci hc hp
   induction hp with
   | nil=>exact .nil
   | cons e _ ih=>exact .cons (m _ (hc _ BE) _ e) (ih fun b hb=>hc b (BC _ hb))
  exact this _ _ (fun b hb=>by simp[HA.fp,hb]) x.cs
 ·obtain⟨as,h,hp⟩:=x.d
  refine⟨as,m _ (by simp[HA.fp]) _ h,Paired.mapP hp fun a q z=>?_⟩
  cases q with
  | come g=>exact k _ _ z (ht _ _ z)
  | go g=>exact k _ _ z (ht _ _ z)
  | exch a b=>exact k _ _ z (ht _ _ z)
def bD (l:List (Int×Int))(g:Int):List (Int×Int):=l.filter fun p=>decide (p.1≠g)
theorem kL (l:List (Int×Int))(g:Int):kK (dk l) (Sum.inl g:bv)=dk (bD l g):=by
 unfold kK dk bD;rw[List.filter_map]
 congr 1
 apply List.filter_congr
 intro p _;simp[Function.comp]
theorem eI (l:List (Int×Int))(g h:Int):look (bD l g) h=if h=g then none else look l h:=by
 induction l with
 | nil=>simp[bD,look]
 | cons p r ih =>
  unfold bD at ih ⊢;rw[List.filter_cons]
  by_cases e:p.1=g
  ·rw[By (by simp[e]),ih]
   by_cases hh:h=g
   ·simp[hh]
   ·have:¬ p.1=h:=fun z=>hh (z.symm.trans e)
    simp[hh,look,this]
  ·rw[Bz (by simp[e])]
   show (if p.1=h then some p.2 else look _ h)=_
   rw[ih]
   by_cases hh:h=g
   ·subst hh;simp[e]
   ·simp[hh,look]
theorem jk {l:List (Int×Int)}{g h:Int}:h∈aA (bD l g)↔h∈aA l/\h≠g:=by
 rw[<-cz,eI,<-cz]
 by_cases e:h=g<;>simp[e]
inductive tj where
 | done | already | masked | same | met | noguest (g:Int)
 deriving DecidableEq
def eV:List (Int×List Int)->Int->List Int
 | [],_=>[]
 | x::r,g=>if x.1=g then x.2 else eV r g
def fE (c:List (Int×List Int))(a b:Int):Bool:=decide (b∈eV c a)
def gC (ks:List Int)(b:Int):List Int:=if b∈ks then ks else ks++[b]
def bg:List (Int×List Int)->Int->Int->List (Int×List Int)
 | [],a,b=>[(a,[b])]
 | x::r,a,b=>if x.1=a then (x.1,gC x.2 b)::r else x::bg r a b
def aN (st:bw):aF->tj
 | .come g=>if (look st.worn g).isSome then .already else .done
 | .go g=>match look st.worn g with | none=>.noguest g | some m=>if m=g then .done else .masked
 | .exch a b=>match look st.worn a with
  | none=>.noguest a
  | some _=>match look st.worn b with
   | none=>.noguest b
   | some _=>if a=b then .same else if fE st.circ a b then .met else .done
def after (st:bw):aF->bw
 | .come g=>{ worn:=put st.worn g g,hold:=put st.hold g g,circ:=st.circ,deeds:=st.deeds++[.come g] }
 | .go g=>{ worn:=bD st.worn g,hold:=bD st.hold g,circ:=st.circ,deeds:=st.deeds++[.go g] }
 | .exch a b=>{ worn:=put (put st.worn a (wr st.worn b)) b (wr st.worn a),hold:=put (put st.hold (wr st.worn b) a) (wr st.worn a) b,circ:=bg (bg st.circ a b) b a,deeds:=st.deeds++[.exch a b] }
def names:aF->List Int
 | .come g=>[g]
 | .go g=>[g]
 | .exch a b=>[a,b]
def bp (g:Int):Prop:=g.natAbs<10 ^ 100
structure qo (st:bw):Prop where
 w:st.worn.length<1000
 h:st.hold.length<1000
 c:st.circ.length<1000
 k:∀ x∈st.circ,x.2.length<1000
 d:st.deeds.length<1000
structure HX where
 C:Addr
 cW:Addr
 cA:Addr
 cM:Addr
 cS:Addr
 cT:Addr
 cN:Addr
 fN:Addr
def nK (c:HX)(E:XK)(H:Hp):tj->Prop
 | .done=>False
 | .already=>∀ H',aH H H'->E (.ref c.cA) none H'
 | .masked=>∀ H',aH H H'->E (.ref c.cM) none H'
 | .same=>∀ H',aH H H'->E (.ref c.cS) none H'
 | .met=>∀ H',aH H H'->E (.ref c.cT) none H'
 | .noguest g=>∀ dx H',aH H H'->H' dx=some (.xd [("guest",.int g)])->E (.ref c.cN) (some dx) H'
def Tr (H H':Hp):Prop:=∀ b o,H b=some o->∃ o',H' b=some o'
theorem Tr.refl {H:Hp}:Tr H H:=fun _ o e=>⟨o,e⟩
theorem Tr.trans {H H1 H2:Hp}(a:Tr H H1)(b:Tr H1 H2):Tr H H2:=fun x o e=>let ⟨o',e'⟩:=a x o e;b x o' e'
theorem Tr.of_same {H H':Hp}(s:aH H H'):Tr H H':=fun b o e=>⟨o,s b o e⟩
theorem Tr.upd {H H1:Hp}(a:Tr H H1)(x:Addr)(u:HO):Tr H (upd H1 x u):=fun b o e=>by
 by_cases h:b=x
 ·exact⟨u,by rw[h,ae]⟩
 ·obtain⟨o',e'⟩:=a b o e
  exact⟨o',by rw[ac h];exact e'⟩
theorem Tr.free {H H':Hp}(a:Tr H H'){b:Addr}(h:H' b=none):H b=none:=by
 cases e:H b with
 | none=>rfl
 | some o=>obtain⟨o',e'⟩:=a b o e;rw[h]at e';cases e'
def fP (C:Addr)(H:Hp)(p:Addr)(A:HA)(st':bw)(H':Hp):Prop:=∃ A':HA,au C H' p A' st'/\Kp A.fp H H'/\(∀ b∈A'.fp,b∈A.fp\/H b=none)/\Tr H H'
def lW (c:HX)(H:Hp)(p:Addr)(A:HA)(st:bw)(d:aF)(Q:VK)(E:XK):Prop :=
 if aN st d=.done then ∀ H',fP c.C H p A (after st d) H'->Q .non H' else nK c E H (aN st d)
inductive sM (C:Addr) (vs:List V) (H:Hp) (Q:VK) (E_:XK):Prop
 | mk (p dx:Addr) (h_0:vs=[.ref p]) (h_1:H p=some (.ins C dx [])) (h_2:∀ (A:HA)(H':Hp),au C H' p A ⟨[],[],[],[]⟩->(∀ b o,H b=some o->b≠p->H' b=some o)->(∀ b∈A.fp,H b=none)->Q .non H'):sM C vs H Q E_
inductive lQ (c:HX) (vs:List V) (H:Hp) (Q:VK) (E:XK):Prop
 | mk (p:Addr) (A:HA) (st:bw) (g:Int) (h_0:vs=[.ref p,.int g]) (h_1:au c.C H p A st) (h_2:qo st) (h_3:bp g) (h_4:lW c H p A st (.come g) Q E):lQ c vs H Q E
inductive v1 (c:HX) (vs:List V) (H:Hp) (Q:VK) (E:XK):Prop
 | mk (p:Addr) (A:HA) (st:bw) (g:Int) (h_0:vs=[.ref p,.int g]) (h_1:au c.C H p A st) (h_2:qo st) (h_3:bp g) (h_4:(∀ m,look st.worn g=some m->bp m/\(m=g->(look st.hold g).isSome))) (h_5:lW c H p A st (.go g) Q E):v1 c vs H Q E
inductive lR (c:HX) (vs:List V) (H:Hp) (Q:VK) (E:XK):Prop
 | mk (p:Addr) (A:HA) (st:bw) (a b:Int) (h_0:vs=[.ref p,.int a,.int b]) (h_1:au c.C H p A st) (h_2:qo st) (h_3:bp a) (h_4:bp b) (h_5:lW c H p A st (.exch a b) Q E):lR c vs H Q E
inductive iQ (C:Addr) (vs:List V) (H:Hp) (Q:VK) (E_:XK):Prop
 | mk (p:Addr) (A:HA) (st:bw) (g m:Int) (h_0:vs=[.ref p,.int g,.int m]) (h_1:au C H p A st) (h_2:st.worn.length<2000) (h_3:st.hold.length<2000) (h_4:Q .non (upd (upd H A.w (.dK (dk (put st.worn g m)))) A.h (.dK (dk (put st.hold m g))))):iQ C vs H Q E_
inductive gz (c:HX) (vs:List V) (H:Hp) (Q:VK) (E:XK):Prop
 | mk (p:Addr) (A:HA) (st:bw) (g:Int) (h_0:vs=[.ref p,.int g]) (h_1:au c.C H p A st) (h_2:bp g) (h_3:match look st.worn g with
 | some m=>Q (.int m) H
 | none=>nK c E H (.noguest g)):gz c vs H Q E
inductive iY (c:HX) (vs:List V) (H:Hp) (Q:VK) (E:XK):Prop
 | mk (p:Addr) (A:HA) (st:bw) (g:Int) (h_0:vs=[.ref p,.int g]) (h_1:au c.C H p A st) (h_2:bp g) (h_3:match look st.hold g with
 | some m=>Q (.int m) H
 | none=>nK c E H (.noguest g)):iY c vs H Q E
inductive iU (C:Addr) (vs:List V) (H:Hp) (Q:VK) (E_:XK):Prop
 | mk (p:Addr) (A:HA) (st:bw) (g:Int) (h_0:vs=[.ref p,.int g]) (h_1:au C H p A st) (h_2:Q (.bl (look st.worn g).isSome) H):iU C vs H Q E_
inductive iS (C:Addr) (vs:List V) (H:Hp) (Q:VK) (E_:XK):Prop
 | mk (p:Addr) (A:HA) (st:bw) (h_0:vs=[.ref p]) (h_1:au C H p A st) (h_2:st.worn.length<64) (h_3:∀ l,H l=none->Q (.ref l) (upd H l (.lst ((bi (aA st.worn)).map V.int)))):iS C vs H Q E_
inductive sL (C:Addr) (vs:List V) (H:Hp) (Q:VK) (E_:XK):Prop
 | mk (p:Addr) (A:HA) (st:bw) (a b:Int) (h_0:vs=[.ref p,.int a,.int b]) (h_1:au C H p A st) (h_2:∀ H',aH H H'->Q (.bl (fE st.circ a b)) H'):sL C vs H Q E_
inductive sI (C:Addr) (vs:List V) (H:Hp) (Q:VK) (E_:XK):Prop
 | mk (p:Addr) (A:HA) (st:bw) (a b:Int) (h_0:vs=[.ref p,.int a,.int b]) (h_1:au C H p A st) (h_2:st.circ.length<2000) (h_3:(∀ x∈st.circ,x.2.length<2000)) (h_4:∀ H',fP C H p A { st with circ:=bg st.circ a b } H'->Q .non H'):sI C vs H Q E_
inductive iV (C:Addr) (vs:List V) (H:Hp) (Q:VK) (E_:XK):Prop
 | mk (p:Addr) (A:HA) (st:bw) (h_0:vs=[.ref p]) (h_1:au C H p A st) (h_2:Q (.int st.deeds.length) H):iV C vs H Q E_
structure HT (K:PySem.W.Frag)(mg:Str->Option Value)(c:HX):Prop where
 cl:ti K c.C
 nW:dY K c.C "worn"
 nH:dY K c.C "holders"
 nC:dY K c.C "circles"
 nD:dY K c.C "deeds"
 mC:mg "Hall" = some (.ref c.C)
 eA:dZ K c.cA
 eM:dZ K c.cM
 eS:dZ K c.cS
 eT:dZ K c.cT
 mA:mg "AlreadyIn" = some (.ref c.cA)
 mM:mg "Masked" = some (.ref c.cM)
 mS:mg "Same" = some (.ref c.cS)
 mT:mg "Met" = some (.ref c.cT)
 mN:mg "NoGuest" = some (.ref c.cN)
 mW:mg "WaltzError" = some (.ref c.cW)
 eN:gZ K c.cN c.fN=true
 gN:zc K c.cN "guest"
 tN:PySem.W.typeIn K (.ref c.fN)=some (.type "function")
 wS:PySem.W.specialIn K (.ref c.cW) "__getattribute__" = some (some (.builtin "type.__getattribute__"))
 wR:PySem.W.readsIn K c.cW (.type "type")=true
 wI:PySem.W.findCls K (.ref c.cW) (.type "type") "__init__" = some (.val (.builtin "ValueError.__init__"))
structure HM (K:PySem.W.Frag)(c:HX):Prop where
 aa:PySem.W.exmOne K (.ref c.cA) (.ref c.cA)=some true
 ma:PySem.W.exmOne K (.ref c.cM) (.ref c.cA)=some false
 mm:PySem.W.exmOne K (.ref c.cM) (.ref c.cM)=some true
 sa:PySem.W.exmOne K (.ref c.cS) (.ref c.cA)=some false
 sm:PySem.W.exmOne K (.ref c.cS) (.ref c.cM)=some false
 ss:PySem.W.exmOne K (.ref c.cS) (.ref c.cS)=some true
 ta:PySem.W.exmOne K (.ref c.cT) (.ref c.cA)=some false
 tm:PySem.W.exmOne K (.ref c.cT) (.ref c.cM)=some false
 ts:PySem.W.exmOne K (.ref c.cT) (.ref c.cS)=some false
 tt:PySem.W.exmOne K (.ref c.cT) (.ref c.cT)=some true
 na:PySem.W.exmOne K (.ref c.cN) (.ref c.cA)=some false
 nm:PySem.W.exmOne K (.ref c.cN) (.ref c.cM)=some false
 ns:PySem.W.exmOne K (.ref c.cN) (.ref c.cS)=some false
 nt:PySem.W.exmOne K (.ref c.cN) (.ref c.cT)=some false
 nn:PySem.W.exmOne K (.ref c.cN) (.ref c.cN)=some true
def ip (P:Program)(w:World)(K:PySem.W.Frag)(mg:Str->Option Value)(base:Heap)(c:HX):Prop:=∃ fd:FuncData,aV P w K mg base cf 1 c.fN fd ["self","guest"] (xy c.cN "guest")/\c8 K fd ["self","guest"] []
theorem p0 {X:Cx}{c:HX}{E:XK}{e:Expr}{te:TE}{np cpos pos:Pos}(N:ip X.prog X.w X.K X.mg X.base c)(U:HT X.K X.mg c)(hr:bC 2 X.A)(hfl:rL X E)(hex:X.ex=[])(hh:X.A.handled=none)(hg:Gl X "NoGuest")(he:PE X e te)
  (hs:starEach [e] X.env=[(false,eval e X.env)]:=by rfl):PS X (.Raise (some (.Call (.Name "NoGuest" np) [e] [] cpos)) none pos) (sR te c.cN "guest" E):=by
 obtain⟨fd,G,hb⟩:=N;exact um U.eN U.tN G hr hb hfl hex hh hg U.mN he (by decide) hs
section
variable {C:Addr}{H:Hp}{p t:Addr}{A:HA}{st:bw}
structure rK (A:HA):Prop where
 wh:A.w≠A.h
 wc:A.w≠A.c
 wd:A.w≠A.d
 hc:A.h≠A.c
 hd:A.h≠A.d
 cd:A.c≠A.d
 w:A.w∉A.cs
 h:A.h∉A.cs
 c:A.c∉A.cs
 d:A.d∉A.cs
 cs:A.cs.Nodup
theorem au.apart (S:au C H p A st):rK A:=by
 have:=S.nd;simp only[HA.fp,B8,BH,not_or]at this;obtain⟨⟨a1,a2,a3,a4⟩,⟨b1,b2,b3⟩,⟨c1,c2⟩,d1,e⟩:=this;exact⟨a1,a2,a3,b1,b2,c1,a4,b3,c2,d1,e⟩
theorem au.pne (S:au C H p A st):p∉A.fp:=by
 have n1:p≠A.w:=b9 S.ob S.w (by intro z;cases z);have n2:p≠A.h:=b9 S.ob S.h (by intro z;cases z);have n3:p≠A.c:=b9 S.ob S.c (by intro z;cases z);obtain⟨as,hd,_⟩:=S.d;have n4:p≠A.d:=b9 S.ob hd (by intro z;cases z)
 have n5:p∉A.cs:=fun z=>by
  obtain⟨i,hi,e⟩:=List.getElem_of_mem z;obtain⟨b,_,q⟩:=bM S.cs (List.getElem?_eq_getElem hi);rw[e,S.ob]at q;cases q
 simp[HA.fp,n1,n2,n3,n4,n5]
theorem ir {H H':Hp}:∀ {cs:List Addr}{ci:List (Int×List Int)},Paired (fun a (x:Int×List Int)=>H a=some (.dK (m7 x.2))) cs ci->(∀ b∈cs,∀ o,H b=some o->H' b=some o)->Paired (fun a (x:Int×List Int)=>H' a=some (.dK (m7 x.2))) cs ci:=by
 intro cs ci hp k
 induction hp with
 | nil=>exact .nil
 | cons e _ ih=>exact .cons (k _ BE _ e) (ih fun b hb=>k b (BC _ hb))
theorem bz (x:aF):∃ xs,a7 x=.tup xs:=by cases x<;>exact⟨_,rfl⟩
theorem au.tup (S:au C H p A st){b:Addr}{xs:List V}(e:H b=some (.tup xs)):b∉A.fp:=by
 have n1:b≠A.w:=b9 e S.w (by intro z;cases z);have n2:b≠A.h:=b9 e S.h (by intro z;cases z);have n3:b≠A.c:=b9 e S.c (by intro z;cases z);obtain⟨as,hd,_⟩:=S.d;have n4:b≠A.d:=b9 e hd (by intro z;cases z)
 have n5:b∉A.cs:=fun z=>by
  obtain⟨i,hi,e'⟩:=List.getElem_of_mem z;obtain⟨y,_,q⟩:=bM S.cs (List.getElem?_eq_getElem hi);rw[e',e]at q;cases q
 simp[HA.fp,n1,n2,n3,n4,n5]
theorem au.tracked (S:au C H p A st){b:Addr}(h:b∈A.fp):∃ o,H b=some o:=by
 simp only[HA.fp,BH]at h;rcases h with rfl | rfl | rfl | rfl | h
 ·exact⟨_,S.w⟩
 ·exact⟨_,S.h⟩
 ·exact⟨_,S.c⟩
 ·obtain⟨as,hd,_⟩:=S.d;exact⟨_,hd⟩
 ·obtain⟨i,hi,rfl⟩:=List.getElem_of_mem h
  obtain⟨y,_,q⟩:=bM S.cs (List.getElem?_eq_getElem hi);exact⟨_,q⟩
theorem rK.fp {A:HA}(a:rK A):A.fp.Nodup:=by
 simp only[HA.fp,B8,BH,not_or];exact⟨⟨a.wh,a.wc,a.wd,a.w⟩,⟨a.hc,a.hd,a.h⟩,⟨a.cd,a.c⟩,a.d,a.cs⟩
theorem dy {fp:List Addr}{a:Addr}{o:HO}(h:a∈fp):Kp fp H (upd H a o):=fun b u e n=>by
 rw[ac (fun z:b=a=>n (by rw[z];exact h))];exact e
theorem qJ {fp:List Addr}{a:Addr}{o:HO}(h:H a=none):Kp fp H (upd H a o):=fun b u e n=>by
 rw[ac (ah e h)];exact e
theorem Kp.on {fp:List Addr}{H1 H2:Hp}(a:Kp fp H H1)(b:Kp fp H1 H2):Kp fp H H2:=fun x o e n=>b x o (a x o e n) n
theorem oj (S:au C H p A st)(w':List (Int×Int)):au C (upd H A.w (.dK (dk w'))) p A { st with worn:=w' }:=by
 have a:=S.apart;have np:=S.pne;simp only[HA.fp,BH,not_or]at np;refine⟨by rw[ac np.1];exact S.ob,S.nd,ae,by rw[ac (BL a.wh)];exact S.h,by rw[ac (BL a.wc)];exact S.c,ir S.cs fun b hb o e=>by rw[ac (fun z:b=A.w=>a.w (by rw[<-z];exact hb))];exact e,?_⟩;obtain⟨as,hd,hp⟩:=S.d;refine⟨as,by rw[ac (BL a.wd)];exact hd,Paired.mapP hp fun b x e=>?_⟩;obtain⟨xs,ex⟩:=bz x;rw[ac (fun z=>S.tup (xs:=xs) (by rw[<-ex];exact e) (by rw[z];simp[HA.fp]))];exact e
theorem oh (S:au C H p A st)(w':List (Int×Int)):au C (upd H A.h (.dK (dk w'))) p A { st with hold:=w' }:=by
 have a:=S.apart;have np:=S.pne;simp only[HA.fp,BH,not_or]at np;refine⟨by rw[ac np.2.1];exact S.ob,S.nd,by rw[ac a.wh];exact S.w,ae,by rw[ac (BL a.hc)];exact S.c,ir S.cs fun b hb o e=>by rw[ac (fun z:b=A.h=>a.h (by rw[<-z];exact hb))];exact e,?_⟩;obtain⟨as,hd,hp⟩:=S.d;refine⟨as,by rw[ac (BL a.hd)];exact hd,Paired.mapP hp fun b x e=>?_⟩;obtain⟨xs,ex⟩:=bz x;rw[ac (fun z=>S.tup (xs:=xs) (by rw[<-ex];exact e) (by rw[z];simp[HA.fp]))];exact e
theorem jg (S:au C H p A st){as:List Addr}(hd:H A.d=some (.lst (as.map V.ref)))(hp:Paired (fun a x=>H a=some (a7 x)) as st.deeds)(x:aF)(ht:H t=none) :
  au C (upd (upd H t (a7 x)) A.d (.lst (as.map V.ref++[.ref t]))) p A { st with deeds:=st.deeds++[x] }:=by
 have a:=S.apart;have np:=S.pne;simp only[HA.fp,BH,not_or]at np;have n:∀ b o,H b=some o->b≠t:=fun b o e=>ah e ht
 have e1:∀ b o,H b=some o->b≠A.d->(upd (upd H t (a7 x)) A.d (.lst (as.map V.ref++[.ref t]))) b=some o:=fun b o e h=>by rw[ac h,ac (n b o e)];exact e
 have td:t≠A.d:=fun z=>by rw[z,hd]at ht;cases ht
 refine⟨e1 _ _ S.ob np.2.2.2.1,S.nd,e1 _ _ S.w a.wd,e1 _ _ S.h a.hd,e1 _ _ S.c a.cd,ir S.cs fun b hb o e=>e1 b o e (fun z=>a.d (by rw[<-z];exact hb)),as++[t],by rw[ae,BX];rfl,?_⟩;refine bu (Paired.mapP hp fun b y e=>?_) (.cons (by rw[ac td,ae]) .nil);obtain⟨xs,ex⟩:=bz y;exact e1 b _ e (fun z=>S.tup (xs:=xs) (by rw[<-ex];exact e) (by rw[z];simp[HA.fp]))
theorem se:A.w∈A.fp:=by simp[HA.fp]
theorem sd:A.h∈A.fp:=by simp[HA.fp]
theorem xP:A.c∈A.fp:=by simp[HA.fp]
theorem vh:A.d∈A.fp:=by simp[HA.fp]
end
theorem je {c:HX}{H:Hp}{p:Addr}{A:HA}{st:bw}{d:aF}{Q:VK}{E:XK}(k:lW c H p A st d Q E)(h:aN st d=.done):∀ H',fP c.C H p A (after st d) H'->Q .non H':=by
 unfold lW at k;rwa [Bz h]at k
theorem dw {c:HX}{H:Hp}{p:Addr}{A:HA}{st:bw}{d:aF}{Q:VK}{E:XK}{o:tj}(k:lW c H p A st d Q E)(h:aN st d=o)(ho:o≠.done):nK c E H o:=by
 unfold lW at k;rwa [h,By ho]at k
theorem iy:∀ (ci:List (Int×List Int))(a b:Int),(bg ci a b).length<=ci.length+1
 | [],_,_=>by simp[bg]
 | x::r,a,b=>by
  unfold bg;split
  ·simp
  ·have:=iy r a b;simp;omega
theorem vc (ks:List Int)(b:Int):(gC ks b).length<=ks.length+1:=by unfold gC;split<;>simp
theorem kD {ci:List (Int×List Int)}{a b:Int}{n:Nat}(h:∀ x∈ci,x.2.length<=n)(hn:0<n+1):∀ x∈bg ci a b,x.2.length<=n+1:=by
 induction ci with
 | nil=>intro x hx;simp[bg]at hx;subst hx;simp
 | cons y r ih =>
  intro x hx;unfold bg at hx;split at hx
  ·rcases BH.mp hx with z | z
   ·subst z;have:=vc y.2 b;have:=h y BE;simp only;omega
   ·have:=h x (BC _ z);omega
  ·rcases BH.mp hx with z | z
   ·subst z;have:=h x BE;omega
   ·exact ih (fun x hx=>h x (BC _ hx)) x z
theorem xv (ks:List Int)(b:Int):dN (m7 ks) (Sum.inl b:bv) (V.bl true)=m7 (gC ks b):=by
 unfold dN gC m7
 have e:((ks.map fun k=>((Sum.inl k:bv),V.bl true)).any fun kv=>decide (kv.1=(Sum.inl b:bv)))=decide (b∈ks):=by
  rw[List.any_map]
  induction ks with
  | nil=>rfl
  | cons x r ih=>rw[CO,ih];by_cases h:x=b<;>simp[h,eq_comm]
 rw[e]
 by_cases h:b∈ks
 ·rw[Bz (BI h),Bz h,B0]
  apply Cc
  intro k _;simp only[Function.comp];split<;>rfl
 ·rw[By (by simp[h]),By h,BX]
  rfl
theorem xF (ks:List Int)(b:Int):(b5 (m7 ks) (Sum.inl b:bv)).isSome=decide (b∈ks):=by
 rw[<-gk];unfold m7;rw[List.any_map]
 induction ks with
 | nil=>rfl
 | cons x r ih=>rw[CO,ih];by_cases h:x=b<;>simp[h,eq_comm]
section
variable {H:Hp}
abbrev Al (H:Hp)(cs:List Addr)(ci:List (Int×List Int)):Prop:=Paired (fun a (x:Int×List Int)=>H a=some (.dK (m7 x.2))) cs ci
theorem eF:∀ {cs:List Addr}{ci:List (Int×List Int)}(a:Int),Al H cs ci ->
  (b5 (bV cs ci) (Sum.inl a:bv)=none/\eV ci a=[]/\∀ b,bg ci a b=ci++[(a,[b])]) \/
  ∃ ad,ad∈cs/\b5 (bV cs ci) (Sum.inl a:bv)=some (.ref ad)/\H ad=some (.dK (m7 (eV ci a))) /\
   ∀ b (H':Hp),cs.Nodup->(∀ x∈cs,x≠ad->∀ o,H x=some o->H' x=some o)->H' ad=some (.dK (m7 (gC (eV ci a) b)))->Al H' cs (bg ci a b)/\bV cs (bg ci a b)=bV cs ci
 | _,_,a,.nil=>.inl ⟨rfl,rfl,fun b=>rfl⟩
 | c::cs,x::ci,a,.cons e r=>by
  by_cases h:x.1=a
  ·refine .inr ⟨c,BE,gm (p:=((Sum.inl x.1:bv),V.ref c)) (by rw[h]),by simp only[eV,Bz h];exact e,fun b H' nd k k'=>?_⟩
   simp only[eV,Bz h]at k';simp only[bg,Bz h];refine⟨.cons k' (ir r fun y hy o z=>k y (BC _ hy) (fun q=>(B8.mp nd).1 (by rw[<-q];exact hy)) o z),rfl⟩
  ·have hk:b5 (bV (c::cs) (x::ci)) (Sum.inl a:bv)=b5 (bV cs ci) (Sum.inl a:bv):=gl (p:=((Sum.inl x.1:bv),V.ref c)) (fun z=>h (Sum.inl.inj z))
   have hc:eV (x::ci) a=eV ci a:=by simp only[eV,By h]
   rcases eF a r with ⟨h1,h2,h3⟩ | ⟨ad,h1,h2,h3,h4⟩
   ·exact .inl ⟨by rw[hk];exact h1,by rw[hc];exact h2,fun b=>by simp only[bg,By h,h3 b,List.cons_append]⟩
   ·refine .inr ⟨ad,BC _ h1,by rw[hk];exact h2,by rw[hc];exact h3,fun b H' nd k k'=>?_⟩
    rw[hc]at k';obtain⟨n1,n2⟩:=B8.mp nd;obtain⟨q1,q2⟩:=h4 b H' n2 (fun y hy=>k y (BC _ hy)) k';simp only[bg,By h];refine⟨.cons (k c BE (fun z=>n1 (by rw[z];exact h1)) _ e) q1,?_⟩
    show _::bV cs (bg ci a b)=_::bV cs ci
    rw[q2]
theorem kF:∀ {cs:List Addr}{ci:List (Int×List Int)}(a:Int)(ks:List Int)(l:Addr),cs.length=ci.length->bV (cs++[l]) (ci++[(a,ks)])=bV cs ci++[(Sum.inl a,V.ref l)]
 | [],[],_,_,_,_=>rfl
 | c::cs,x::ci,a,ks,l,h=>by
  show _::bV (cs++[l]) (ci++[(a,ks)])=_
  rw[kF a ks l (by simpa using h)];rfl
theorem m8:∀ {cs:List Addr}{ci:List (Int×List Int)},cs.length=ci.length->(bV cs ci).length=ci.length
 | [],[],_=>rfl
 | c::cs,x::ci,h=>by show (bV cs ci).length+1=_;rw[m8 (by simpa using h)];rfl
end
end Wz
namespace L2
open PySem PySem.Spec PyProof.Rows
def yY (td ty tx:TE):TE:=fun σ H Q=>td σ H fun x H1=>∃ a,x=.ref a/\Ab H1 a/\ty σ H1 fun y H2=>tx σ H2 fun z H3=>∃ kvs k,H3 a=some (.dK kvs)/\y=kV k/\kvs.length<sizeLine /\
 (∀ v,b5 kvs k=some v->Q v H3)/\(b5 kvs k=none->Q z (upd H3 a (.dK (dN kvs k z))))
theorem vE {X:Cx}{o e f:Expr}{apos cpos:Pos}{td ty tx:TE}(ho:PE X o td)(he:PE X e ty)(hf:PE X f tx)(m:M2 X o "setdefault" apos e f cpos):PE X (.Call (.Attribute o "setdefault" apos) [e,f] [] cpos) (yY td ty tx):=by
 intro pins s σ H Q I h;refine wpAny_Call_method m.base m.few m.line PySem.F.plainAttrs_dict PySem.F.slot_dict_setdefault PySem.F.type_dict_setdefault (aS (ho pins s σ H _ I h) fun u s1 ⟨x,H1,I1,rx,a,ex,d,q1⟩=>?_);subst ex;obtain rfl:u=Value.ref a:=rx;obtain⟨t1,t2,_⟩:=qG I1 d;refine⟨t1,t2,?_⟩;rw[m.trees]
 refine CS rfl (Cw (Cn (aS (he pins s1 σ H1 _ I1 q1) fun iv s2 ⟨y,H2,I2,ry,q2⟩ =>
  Cn (aS (hf pins s2 σ H2 _ I2 q2) fun fv s3 ⟨z,H3,I3,rz,kvs,k,ea,ey,hlt,q3,q4⟩=>CM ?_))))
 subst ey;obtain⟨hz,hd,vs,rel,dd⟩:=uP I3.hok ea
 refine call_meetsIn PySem.F.slot_dict_setdefault dd.typeIs PySem.F.entry_dict_setdefault (PySem.F.args_dict_setdefault_3 _ _ _) (kt_meets_setdefault (aQ X.prog X.w) a (jR ry) hd fv)
  ⟨vs,dd,by rw[<-rel.length];exact hz,fun v' hv'=>?_,fun hn h' dd' hs=>?_⟩
 ·cases l:b5 kvs k with
  | none=>have:=rel.val k;rw[l,hv']at this;exact this.elim
  | some v =>
   have:=rel.val k;rw[l,hv']at this;exact⟨v,H3,I3.tok _,this,q3 v l⟩
 ·cases l:b5 kvs k with
  | some v=>have:=rel.val k;rw[l,hn]at this;exact this.elim
  | none =>
   have he:∃ q,h'.get? a=some q:=let ⟨q,_,_,hq,_⟩:=dd';⟨q,hq⟩;exact⟨z,_,kf I3 (by rw[ea];exact True.intro) hs he (qy (by have:=fV kvs k z;omega) hd (rel.put k rz) dd'),rz,q4 l⟩
end L2
namespace Wz
open PySem L2
theorem xM {A:Around}{k n:Nat}(hr:bC k A)(h:n<=200):A.units+n<cLine:=by have:=hr.un;omega
theorem cc:decide (V.str "come" = V.str "come")=true:=by decide +kernel
theorem cg:decide (V.str "come" = V.str "go")=false:=by decide +kernel
theorem ce:decide (V.str "come" = V.str "exchange")=false:=by decide +kernel
theorem gc:decide (V.str "go" = V.str "come")=false:=by decide +kernel
theorem gg:decide (V.str "go" = V.str "go")=true:=by decide +kernel
theorem ge:decide (V.str "go" = V.str "exchange")=false:=by decide +kernel
theorem ec:decide (V.str "exchange" = V.str "come")=false:=by decide +kernel
theorem eg:decide (V.str "exchange" = V.str "go")=false:=by decide +kernel
theorem ee:decide (V.str "exchange" = V.str "exchange")=true:=by decide +kernel
def bh:aF->Str
 | .come _=>"come"
 | .go _=>"go"
 | .exch _ _=>"exchange"
def be (d:aF):List V:=V.str (bh d)::(names d).map V.int
theorem cw (d:aF):a7 d=.tup (be d):=by cases d<;>rfl
theorem uM (d:aF):gE (be d) (some 1) none=(names d).map V.int:=by cases d<;>rfl
theorem wH (d:aF):¬ (HT.sIx (be d).length 0 (some 1)=0/\HT.sIx (be d).length (be d).length none=(be d).length):=by cases d<;>(intro h;have h1:=h.1;simp[be,names,HT.sIx]at h1)
def bn (w:List (Int×Int))(m:Int->Int->Bool):aF->tj
 | .come g=>if (look w g).isSome then .already else .done
 | .go g=>match look w g with | none=>.noguest g | some x=>if x=g then .done else .masked
 | .exch a b=>match look w a with
  | none=>.noguest a
  | some _=>match look w b with
   | none=>.noguest b
   | some _=>if a=b then .same else if m a b then .met else .done
theorem wY (st:bw)(d:aF):aN st d=bn st.worn (fE st.circ) d:=by cases d<;>rfl
theorem oq {w:List (Int×Int)}{m m':Int->Int->Bool}(h:∀ a b,m a b=m' a b)(d:aF):bn w m d=bn w m' d:=by cases d<;>simp only[bn,h]
def de (a b:Int):Int×Int:=if b<a then (b,a) else (a,b)
def kW (ml:List (Int×Int))(a b:Int):Bool:=decide (de a b∈ml)
def nh (ml:List (Int×Int)):List (List bv×V):=ml.map fun p=>([Sum.inl p.1,Sum.inl p.2],V.bl true)
def kE (ml:List (Int×Int))(p:Int×Int):List (Int×Int):=if p∈ml then ml else ml++[p]
def mq:tj->List V
 | .done=>[.str "done",.non]
 | .already=>[.str "AlreadyIn",.non]
 | .masked=>[.str "Masked",.non]
 | .same=>[.str "Same",.non]
 | .met=>[.str "Met",.non]
 | .noguest g=>[.str "NoGuest",.int g]
def nO (w:List (Int×Int)):aF->List (Int×Int)
 | .come g=>put w g g
 | .go g=>bD w g
 | .exch a b=>put (put w a (wr w b)) b (wr w a)
def qu (ml:List (Int×Int)):aF->List (Int×Int)
 | .come _=>ml
 | .go _=>ml
 | .exch a b=>kE ml (de a b)
theorem qv (st:bw)(d:aF):(after st d).worn=nO st.worn d:=by cases d<;>rfl
theorem si (ml:List (Int×Int))(p:Int×Int):((nh ml).any fun kv=>decide (kv.1=([Sum.inl p.1,Sum.inl p.2]:List bv)))=decide (p∈ml):=by
 unfold nh;rw[List.any_map]
 induction ml with
 | nil=>rfl
 | cons x r ih =>
  rw[CO,ih]
  have:(decide ((([Sum.inl x.1,Sum.inl x.2]:List bv))=[Sum.inl p.1,Sum.inl p.2]))=decide (p=x):=by
   by_cases h:p=x
   ·subst h;simp
   ·rw[BQ h,BQ]
    intro z;simp only[List.cons.injEq,Sum.inl.injEq,and_true]at z;exact h (Prod.ext z.1.symm z.2.symm)
  simp only[Function.comp];rw[this]
  by_cases h:p=x<;>simp[h]
theorem xb (ml:List (Int×Int))(p:Int×Int):(b5 (nh ml) ([Sum.inl p.1,Sum.inl p.2]:List bv)).isSome=decide (p∈ml):=by rw[<-gk,si]
theorem xa (ml:List (Int×Int))(p:Int×Int):dN (nh ml) ([Sum.inl p.1,Sum.inl p.2]:List bv) (V.bl true)=nh (kE ml p):=by
 unfold dN kE;rw[si]
 by_cases h:p∈ml
 ·rw[Bz (BI h),Bz h]
  unfold nh;rw[B0]
  apply Cc
  intro x _;simp only[Function.comp];split<;>rfl
 ·rw[By (by simp[h]),By h]
  unfold nh;rw[BX];rfl
theorem u9 {w:List (Int×Int)}{m:Int->Int->Bool}{d:aF}{i:Nat}{x:Int}(hc:bh d≠"come")(hp:∀ y∈(names d).take i,(look w y).isSome=true)(hi:(names d)[i]? = some x)(hx:look w x=none):bn w m d=.noguest x:=by
 cases d with
 | come g=>exact absurd rfl hc
 | go g =>
  cases i with
  | zero=>simp[names]at hi;subst hi;simp[bn,hx]
  | succ i=>simp[names]at hi
 | exch a b =>
  cases i with
  | zero=>simp[names]at hi;subst hi;simp[bn,hx]
  | succ i =>
   cases i with
   | zero =>
    simp[names]at hi;subst hi;have:=hp a (by simp[names]);obtain⟨v,hv⟩:=Ci.mp this;simp[bn,hv,hx]
   | succ i=>simp[names]at hi
inductive qe (vs:List V) (H:Hp) (Q:VK) (E_:XK):Prop
 | mk (a b:Int) (h_0:vs=[.int a,.int b]) (h_1:∀ t,H t=none->Q (.ref t) (upd H t (.tup [.int (de a b).1,.int (de a b).2]))):qe vs H Q E_
inductive sJ (vs:List V) (H:Hp) (Q:VK) (E_:XK):Prop
 | mk (w m t:Addr) (wl ml:List (Int×Int)) (d:aF) (h_0:vs=[.ref w,.ref m,.ref t]) (h_1:H w=some (.dK (dk wl))) (h_2:H m=some (.dT (nh ml))) (h_3:H t=some (a7 d)) (h_4:∀ (r:Addr)(H':Hp),H r=none->aH H H'->H' r=some (.tup (mq (bn wl (kW ml) d)))->Q (.ref r) H'):sJ vs H Q E_
inductive kq (vs:List V) (H:Hp) (Q:VK) (E_:XK):Prop
 | mk (w m t:Addr) (wl ml:List (Int×Int)) (d:aF) (h_0:vs=[.ref w,.ref m,.ref t]) (h_1:H w=some (.dK (dk wl))) (h_2:H m=some (.dT (nh ml))) (h_3:H t=some (a7 d)) (h_4:wl.length<=1000) (h_5:ml.length<=4000) (h_6:bn wl (kW ml) d=.done) (h_7:∀ H',H' w=some (.dK (dk (nO wl d)))->H' m=some (.dT (nh (qu ml d)))->(∀ b o,H b=some o->b≠w->b≠m->H' b=some o)->Q .non H'):kq vs H Q E_
structure eE (st:bw):Prop where
 wn:(aA st.worn).Nodup
 wh:∀ g m,look st.worn g=some m↔look st.hold m=some g
 ow:∀ g m,look st.worn g=some m->m∈aA st.worn
 sm:∀ g m,look st.worn g=some m->bp m
 cy:∀ a b,fE st.circ a b=fE st.circ b a
def aO (st:bw)(d:aF):bw:=if aN st d=.done then after st d else st
inductive rB (c:HX) (vs:List V) (H:Hp) (Q:VK) (E:XK):Prop
 | mk (p t:Addr) (A:HA) (st:bw) (d:aF) (h_0:vs=[.ref p,.ref t]) (h_1:H t=some (a7 d)) (h_2:au c.C H p A st) (h_3:qo st) (h_4:eE st) (h_5:(∀ g∈names d,bp g)) (h_6:lW c H p A st d Q E):rB c vs H Q E
inductive o8 (c:HX) (vs:List V) (H:Hp) (Q:VK) (E_:XK):Prop
 | mk (p t:Addr) (A:HA) (st:bw) (d:aF) (h_0:vs=[.ref p,.ref t]) (h_1:H t=some (a7 d)) (h_2:au c.C H p A st) (h_3:qo st) (h_4:eE st) (h_5:(∀ g∈names d,bp g)) (h_6:∀ (r:Addr)(H':Hp),H r=none->H' r=some (.tup (mq (aN st d)))->fP c.C H p A (aO st d) H'->Q (.ref r) H'):o8 c vs H Q E_
def a6 (m c:Int):List Int:=(List.range m.toNat).map fun (k:Nat)=>pD (k:Int) c
theorem qQ {C:Addr}{H H':Hp}{p:Addr}{A:HA}{st:bw}(S:au C H p A st)(s:aH H H'):fP C H p A st H':=⟨A,S.mono s,.of_same s,fun b hb=>.inl hb,.of_same s⟩
theorem fP.on {C:Addr}{H H1 H2:Hp}{p:Addr}{A:HA}{st:bw}(m:fP C H p A st H1)(s:aH H1 H2):fP C H p A st H2:=by
 obtain⟨A',S,k,f,t⟩:=m;exact⟨A',S.mono s,fun b o e n=>s _ _ (k b o e n),f,t.trans (.of_same s)⟩
theorem tM (k c:Int):bp (pD k c):=by
 unfold bp pD;have h:∀ x:Int,0<=x%2147483647/\x%2147483647<2147483647:=fun x=>⟨CH _ (by decide),Cs _ (by decide)⟩;dsimp only;generalize hx:(k*(1+c5 c*1234567891%2147483646)+c5 c/2147483646)%2147483647=x;have:=h (k*(1+c5 c*1234567891%2147483646)+c5 c/2147483646);rw[hx]at this
 have e:(10:Nat) ^ 100=10 ^ 15*10 ^ 85:=by rw[<-Nat.pow_add]
 have e2:(0:Nat)<10 ^ 85:=Nat.pow_pos (by decide)
 have:x.natAbs<10 ^ 15/\(x+997852516353).natAbs<10 ^ 15:=by constructor<;>omega
 split
 ·calc _<10 ^ 15:=this.2
   _<=10 ^ 15*10 ^ 85:=Nat.le_mul_of_pos_right _ e2
   _=10 ^ 100:=e.symm
 ·calc _<10 ^ 15:=this.1
   _<=10 ^ 15*10 ^ 85:=Nat.le_mul_of_pos_right _ e2
   _=10 ^ 100:=e.symm
theorem nX (x:Int):∀ (c:List (Int×List Int))(a b:Int),eV (bg c a b) x=if x=a then gC (eV c a) b else eV c x
 | [],a,b=>by
  by_cases h:x=a
  ·subst h;simp[bg,eV,gC]
  ·simp[bg,eV,h,BL h]
 | y::r,a,b=>by
  unfold bg
  by_cases h:y.1=a
  ·rw[Bz h]
   by_cases hx:x=a
   ·subst hx;simp[eV,h]
   ·have:¬ y.1=x:=fun z=>hx (z.symm.trans h)
    simp[eV,hx,this]
  ·rw[By h]
   by_cases hx:x=a
   ·subst hx
    simp only[eV,By h,if_true];rw[nX x r x b,Bz rfl]
   ·simp only[eV,nX x r a b,By hx]
theorem pH {ks:List Int}{b y:Int}:y∈gC ks b↔y∈ks\/y=b:=by
 unfold gC;split
 ·rename_i h
  constructor
  ·exact .inl
  ·rintro (z | z)
   ·exact z
   ·rw[z];exact h
 ·simp
theorem sf (c:List (Int×List Int))(a b x y:Int):fE (bg c a b) x y=(fE c x y||(decide (x=a)&&decide (y=b))):=by
 unfold fE;rw[nX]
 by_cases h:x=a
 ·subst h
  rw[Bz rfl]
  by_cases hy:y=b
  ·have:y∈gC (eV c x) b:=pH.mpr (.inr hy)
   simp[hy,this];rw[hy]at this;exact this
  ·have:(y∈gC (eV c x) b)↔y∈eV c x:=by rw[pH];simp[hy]
   simp[hy,this]
 ·rw[By h];simp[h]
theorem oA (c:List (Int×List Int))(a b x y:Int):fE (bg (bg c a b) b a) x y=(fE c x y||(decide (x=a)&&decide (y=b))||(decide (x=b)&&decide (y=a))):=by rw[sf,sf]
theorem jp {l:List (Int×Int)}(h:(aA l).Nodup)(g m:Int):(aA (put l g m)).Nodup:=by
 rw[pF];split
 ·exact h
 ·rename_i n
  exact kj h n
theorem sk {l:List (Int×Int)}(h:(aA l).Nodup)(g:Int):(aA (bD l g)).Nodup:=by
 unfold aA bD at *;exact (List.filter_sublist.map _).nodup h
theorem kO:eE ⟨[],[],[],[]⟩:=by
 refine⟨Dd,fun g m=>?_,fun g m h=>?_,fun g m h=>?_,fun a b=>rfl⟩
 ·simp[look]
 ·simp[look]at h
 ·simp[look]at h
theorem mY {st:bw}{d:aF}(G:eE st)(sm:∀ g∈names d,bp g):eE (aO st d):=by
 unfold aO
 by_cases hd:aN st d=.done
 ·rw[Bz hd]
  have kw:∀ g m,look st.worn g=some m->g∈aA st.worn:=fun g m h=>cz.mp (by rw[h];rfl)
  cases d with
  | come g =>
   have hn:look st.worn g=none:=by
    cases e:look st.worn g with
    | none=>rfl
    | some m=>simp[aN,e]at hd
   have hh:look st.hold g=none:=by
    cases e:look st.hold g with
    | none=>rfl
    | some m =>
     have:=G.ow m g ((G.wh m g).mpr e);rw[<-cz,hn]at this;cases this
   refine⟨jp G.wn g g,fun x m=>?_,fun x m h=>?_,fun x m h=>?_,G.cy⟩
   ·show look (put st.worn g g) x=some m↔look (put st.hold g g) m=some x
    rw[cB,cB]
    by_cases hx:x=g
    ·subst hx
     by_cases hm:m=x
     ·subst hm;simp
     ·rw[Bz rfl,By hm]
      constructor
      ·intro z;exact absurd (BF z).symm hm
      ·intro z
       have:=(G.wh x m).mpr z;rw[hn]at this;cases this
    ·rw[By hx]
     by_cases hm:m=g
     ·subst hm
      rw[Bz rfl];constructor
      ·intro z
       have:=(G.wh x m).mp z;rw[hh]at this;cases this
      ·intro z;exact absurd (BF z).symm hx
     ·rw[By hm];exact G.wh x m
   ·have h:look (put st.worn g g) x=some m:=h
    show m∈aA (put st.worn g g)
    rw[cB]at h;rw[<-cz,cB]
    by_cases hx:x=g
    ·rw[Bz hx]at h;cases h;rw[Bz rfl];rfl
    ·rw[By hx]at h
     have:=G.ow x m h;rw[<-cz]at this;split
     ·rfl
     ·exact this
   ·have h:look (put st.worn g g) x=some m:=h
    rw[cB]at h
    by_cases hx:x=g
    ·rw[Bz hx]at h;cases h;exact sm g (by simp[names])
    ·rw[By hx]at h;exact G.sm x m h
  | go g =>
   have hg:look st.worn g=some g:=by
    cases e:look st.worn g with
    | none=>simp[aN,e]at hd
    | some m =>
     by_cases z:m=g
     ·rw[z]
     ·simp[aN,e,z]at hd
   have hh:look st.hold g=some g:=(G.wh g g).mp hg;refine⟨sk G.wn g,fun x m=>?_,fun x m h=>?_,fun x m h=>?_,G.cy⟩
   ·show look (bD st.worn g) x=some m↔look (bD st.hold g) m=some x
    rw[eI,eI]
    by_cases hx:x=g
    ·subst hx
     rw[Bz rfl]
     by_cases hm:m=x
     ·rw[Bz hm];simp
     ·rw[By hm]
      constructor
      ·intro z;cases z
      ·intro z
       have:=(G.wh x m).mpr z;rw[hg]at this;exact absurd (BF this).symm hm
    ·rw[By hx]
     by_cases hm:m=g
     ·subst hm
      rw[Bz rfl];constructor
      ·intro z
       have:=(G.wh x m).mp z;rw[hh]at this;exact absurd (BF this).symm hx
      ·intro z;cases z
     ·rw[By hm];exact G.wh x m
   ·have h:look (bD st.worn g) x=some m:=h
    show m∈aA (bD st.worn g)
    rw[eI]at h
    by_cases hx:x=g
    ·rw[Bz hx]at h;cases h
    ·rw[By hx]at h
     refine jk.mpr ⟨G.ow x m h,fun z=>?_⟩;rw[z]at h;have:=(G.wh x g).mp h;rw[hh]at this;exact hx (BF this).symm
   ·have h:look (bD st.worn g) x=some m:=h
    rw[eI]at h
    by_cases hx:x=g
    ·rw[Bz hx]at h;cases h
    ·rw[By hx]at h;exact G.sm x m h
  | exch a b =>
   obtain⟨ma,ea⟩:∃ m,look st.worn a=some m:=by
    cases e:look st.worn a with
    | none=>simp[aN,e]at hd
    | some m=>exact⟨m,rfl⟩
   obtain⟨mb,eb⟩:∃ m,look st.worn b=some m:=by
    cases e:look st.worn b with
    | none=>simp[aN,ea,e]at hd
    | some m=>exact⟨m,rfl⟩
   have hab:a≠b:=fun z=>by simp[aN,ea,eb,z]at hd
   have wa:wr st.worn a=ma:=by unfold wr;rw[ea];rfl
   have wb:wr st.worn b=mb:=by unfold wr;rw[eb];rfl
   have ha:=(G.wh a ma).mp ea;have hb:=(G.wh b mb).mp eb
   have hmm:ma≠mb:=fun z=>by rw[z,hb]at ha;exact hab (BF ha).symm
   have lw:∀ x,look (put (put st.worn a mb) b ma) x=if x=b then some ma else if x=a then some mb else look st.worn x:=fun x=>by rw[cB,cB]
   have lh:∀ x,look (put (put st.hold mb a) ma b) x=if x=ma then some b else if x=mb then some a else look st.hold x:=fun x=>by rw[cB,cB]
   show eE { worn:=put (put st.worn a (wr st.worn b)) b (wr st.worn a),hold:=put (put st.hold (wr st.worn b) a) (wr st.worn a) b,circ:=bg (bg st.circ a b) b a,deeds:=st.deeds++[.exch a b] }
   rw[wa,wb];refine⟨jp (jp G.wn a mb) b ma,fun x m=>?_,fun x m h=>?_,fun x m h=>?_,fun x y=>?_⟩
   ·show look (put (put st.worn a mb) b ma) x=some m↔look (put (put st.hold mb a) ma b) m=some x
    rw[lw,lh]
    by_cases hxb:x=b
    ·subst hxb
     rw[Bz rfl]
     by_cases hm:m=ma
     ·rw[Bz hm,hm];simp
     ·rw[By hm]
      constructor
      ·intro z;exact absurd (BF z).symm hm
      ·intro z
       by_cases hm2:m=mb
       ·rw[Bz hm2]at z;exact absurd (BF z) hab
       ·rw[By hm2]at z
        have:=(G.wh x m).mpr z;rw[eb]at this;exact absurd (BF this).symm hm2
    ·rw[By hxb]
     by_cases hxa:x=a
     ·subst hxa
      rw[Bz rfl]
      by_cases hm:m=ma
      ·rw[Bz hm]
       constructor
       ·intro z;exact absurd ((BF z).trans hm).symm hmm
       ·intro z;exact absurd (BF z).symm hab
      ·rw[By hm]
       by_cases hm2:m=mb
       ·rw[Bz hm2,hm2];simp
       ·rw[By hm2]
        constructor
        ·intro z;exact absurd (BF z).symm hm2
        ·intro z
         have:=(G.wh x m).mpr z;rw[ea]at this;exact absurd (BF this).symm hm
     ·rw[By hxa]
      by_cases hm:m=ma
      ·rw[Bz hm]
       constructor
       ·intro z
        have:=(G.wh x m).mp z;rw[hm,ha]at this;exact absurd (BF this).symm hxa
       ·intro z;exact absurd (BF z).symm hxb
      ·rw[By hm]
       by_cases hm2:m=mb
       ·rw[Bz hm2]
        constructor
        ·intro z
         have:=(G.wh x m).mp z;rw[hm2,hb]at this;exact absurd (BF this).symm hxb
        ·intro z;exact absurd (BF z).symm hxa
       ·rw[By hm2];exact G.wh x m
   ·have h:look (put (put st.worn a mb) b ma) x=some m:=h
    show m∈aA (put (put st.worn a mb) b ma)
    have key:∀ y,y∈aA st.worn->y∈aA (put (put st.worn a mb) b ma):=fun y hy=>by
     rw[<-cz]at hy ⊢;rw[lw];split
     ·rfl
     ·split
      ·rfl
      ·exact hy
    rw[lw]at h;split at h
    ·cases h;exact key _ (G.ow a _ ea)
    ·split at h
     ·cases h;exact key _ (G.ow b _ eb)
     ·exact key _ (G.ow x m h)
   ·have h:look (put (put st.worn a mb) b ma) x=some m:=h
    rw[lw]at h;split at h
    ·cases h;exact G.sm a _ ea
    ·split at h
     ·cases h;exact G.sm b _ eb
     ·exact G.sm x m h
   ·show fE (bg (bg st.circ a b) b a) x y=fE (bg (bg st.circ a b) b a) y x
    rw[oA,oA,G.cy x y];cases decide (x=a)<;>cases decide (x=b)<;>cases decide (y=a)<;>cases decide (y=b)<;>simp
 ·rw[By hd];exact G
theorem sF {K:PySem.W.Frag}{H:Hp}{l:Addr}{ns:List Int}(h:bd K H l (ns.map V.int)):RD K H 2 (.ref l) (zH ns):=by
 refine RD.lst h ?_;clear h
 induction ns with
 | nil=>exact .nil
 | cons n r ih=>exact .cons (RD.flat rfl 1) ih
def y2 (xs:List V):Dt:=.sq true (xs.map fun v=>.at v)
theorem vW {K:PySem.W.Frag}{H:Hp}{l:Addr}{xs:List V}(h:H l=some (.tup xs))(hf:∀ x∈xs,fA x=true):RD K H 2 (.ref l) (y2 xs):=by
 refine RD.tup (cr.of h) ?_;clear h
 induction xs with
 | nil=>exact .nil
 | cons n r ih=>exact .cons (RD.flat (hf n BE) 1) (ih fun x hx=>hf x (BC _ hx))
theorem vv (o:tj):∀ x∈mq o,fA x=true:=by
 cases o<;>(intro x hx;simp[mq]at hx;rcases hx with rfl | rfl<;>rfl)
theorem oW {K:PySem.W.Frag}{H:Hp}{l:Addr}{o:tj}(h:H l=some (.tup (mq o))):RD K H 2 (.ref l) (y2 (mq o)):=vW h (vv o)
def Aa (P:Program)(w:World)(K:PySem.W.Frag)(mg:Str->Option Value)(base:Heap)(c:HX):Prop:=∃ (fI:Addr)(fd:FuncData),Mk K c.C fI/\aV P w K mg base cf 1 fI fd ["self"] (sM c.C)/\c8 K fd ["self"] []
theorem xR {X:Cx}{c:HX}{p pos:Pos}(M:Aa X.prog X.w X.K X.mg X.base c)(U:HT X.K X.mg c)(hr:bC 2 X.A)(hg:Gl X "Hall"):PE X (.Call (.Name "Hall" p) [] [] pos) (xV c.C (sM c.C) [] E0 ke):=by
 obtain⟨fI,fd,M,G,hb⟩:=M;exact vF M G hr hg U.mC hb .nil dB
structure Ev (c:HX)(H0 H:Hp)(x:Addr)(B:HA)(st:bw):Prop where
 same:aH H0 H
 hall:au c.C H x B st
 good:eE st
 nfp:∀ b∈B.fp,H0 b=none
theorem Ev.on {c:HX}{H0 H H':Hp}{x:Addr}{B:HA}{st:bw}(e:Ev c H0 H x B st)(s:aH H H'):Ev c H0 H' x B st:=⟨e.same.trans s,e.hall.mono s,e.good,e.nfp⟩
theorem Ev.moved {c:HX}{H0 H H':Hp}{x:Addr}{B:HA}{st st':bw}(e:Ev c H0 H x B st)(m:fP c.C H x B st' H')(g:eE st') :
  ∃ B',Ev c H0 H' x B' st'/\(∀ y o,H y=some o->y∉B.fp->H' y=some o/\y∉B'.fp)/\Tr H H':=by
 obtain⟨B',S,k,f,t⟩:=m;refine⟨B',⟨fun b o q=>k b o (e.same b o q) (fun z=>by rw[e.nfp b z]at q;cases q),S,g,fun b hb=>?_⟩,fun y o q n=>⟨k y o q n,fun z=>?_⟩,t⟩
 ·rcases f b hb with z | z
  ·exact e.nfp b z
  ·exact e.same.free z
 ·rcases f y z with z | z
  ·exact n z
  ·rw[q]at z;cases z
theorem Ev.write {c:HX}{H0 H H':Hp}{x:Addr}{B:HA}{st:bw}{ws:List Addr}(e:Ev c H0 H x B st)(k:Kp ws H H')(h1:∀ y∈ws,y∉B.fp)(h2:x∉ws)(h3:∀ y∈ws,H0 y=none)(h4:∀ b xs,H b=some (.tup xs)->b∉ws):Ev c H0 H' x B st :=
 ⟨fun b o q=>k b o (e.same b o q) (fun z=>by rw[h3 b z]at q;cases q),e.hall.kept k h2 (fun b hb z=>h1 b z hb) h4,e.good,e.nfp⟩
theorem Ev.fits {st:bw}(h1:st.worn.length<=100)(h2:st.hold.length<=100)(h3:st.circ.length<=900)(h4:∀ x∈st.circ,x.2.length<=900)(h5:st.deeds.length<=900):qo st:=⟨by omega,by omega,by omega,fun x hx=>by have:=h4 x hx;omega,by omega⟩
def Of (L:List Int)(st:bw):Prop:=(∀ g∈aA st.worn,g∈L)/\(∀ g∈aA st.hold,g∈L)/\(aA st.hold).Nodup
theorem of_empty {L:List Int}:Of L ⟨[],[],[],[]⟩:=⟨fun g h=>by simp[aA]at h,fun g h=>by simp[aA]at h,Dd⟩
theorem eJ {l:List (Int×Int)}{g m x:Int}:x∈aA (put l g m)↔x∈aA l\/x=g:=by
 rw[pF];split
 ·rename_i h
  constructor
  ·exact .inl
  ·rintro (z | z)
   ·exact z
   ·rw[z];exact h
 ·simp
theorem sr {L:List Int}{st:bw}{d:aF}(G:eE st)(o:Of L st)(hn:∀ g∈names d,g∈L):Of L (aO st d):=by
 unfold aO
 by_cases hd:aN st d=.done
 ·rw[Bz hd]
  obtain⟨o1,o2,o3⟩:=o
  cases d with
  | come g =>
   refine⟨fun x hx=>?_,fun x hx=>?_,jp o3 g g⟩
   ·rcases eJ.mp (show x∈aA (put st.worn g g) from hx) with z | z
    ·exact o1 x z
    ·rw[z];exact hn g (by simp[names])
   ·rcases eJ.mp (show x∈aA (put st.hold g g) from hx) with z | z
    ·exact o2 x z
    ·rw[z];exact hn g (by simp[names])
  | go g =>
   exact⟨fun x hx=>o1 x (jk.mp (show x∈aA (bD st.worn g) from hx)).1,fun x hx=>o2 x (jk.mp (show x∈aA (bD st.hold g) from hx)).1,sk o3 g⟩
  | exch a b =>
   obtain⟨ma,ea⟩:∃ m,look st.worn a=some m:=by
    cases e:look st.worn a with
    | none=>simp[aN,e]at hd
    | some m=>exact⟨m,rfl⟩
   obtain⟨mb,eb⟩:∃ m,look st.worn b=some m:=by
    cases e:look st.worn b with
    | none=>simp[aN,ea,e]at hd
    | some m=>exact⟨m,rfl⟩
   have wa:wr st.worn a=ma:=by unfold wr;rw[ea];rfl
   have wb:wr st.worn b=mb:=by unfold wr;rw[eb];rfl
   refine⟨fun x hx=>?_,fun x hx=>?_,jp (jp o3 _ _) _ _⟩
   ·rcases eJ.mp (show x∈aA (put (put st.worn a (wr st.worn b)) b (wr st.worn a)) from hx) with z | z
    ·rcases eJ.mp z with z | z
     ·exact o1 x z
     ·rw[z];exact hn a (by simp[names])
    ·rw[z];exact hn b (by simp[names])
   ·rcases eJ.mp (show x∈aA (put (put st.hold (wr st.worn b) a) (wr st.worn a) b) from hx) with z | z
    ·rcases eJ.mp z with z | z
     ·exact o2 x z
     ·rw[z,wb];exact o1 _ (G.ow b mb eb)
    ·rw[z,wa];exact o1 _ (G.ow a ma ea)
 ·rw[By hd];exact o
theorem qX {L:List Int}{st:bw}(G:eE st)(o:Of L st):st.worn.length<=L.length/\st.hold.length<=L.length:=by
 have e1:st.worn.length=(aA st.worn).length:=by simp[aA]
 have e2:st.hold.length=(aA st.hold).length:=by simp[aA]
 exact⟨by rw[e1];exact eK G.wn o.1,by rw[e2];exact eK o.2.2 o.2.1⟩
theorem qV (st:bw)(d:aF):(aO st d).deeds.length<=st.deeds.length+1:=by
 unfold aO;split
 ·cases d<;>simp[after]
 ·omega
theorem ud (st:bw)(d:aF):(aO st d).worn=if aN st d=.done then nO st.worn d else st.worn:=by
 unfold aO;split
 ·exact qv st d
 ·rfl
def zM:tj->Str
 | .done=>"done"
 | .already=>"AlreadyIn"
 | .masked=>"Masked"
 | .same=>"Same"
 | .met=>"Met"
 | .noguest _=>"NoGuest"
theorem AD (o:tj):(mq o)[0]? = some (V.str (zM o)):=by cases o<;>rfl
theorem uk (o:tj):decide (V.str (zM o)=V.str "done")=decide (o=.done):=by
 cases o with
 | done=>exact (show decide (V.str "done" = V.str "done")=true by decide +kernel)
 | already=>exact (show decide (V.str "AlreadyIn" = V.str "done")=false by decide +kernel)
 | masked=>exact (show decide (V.str "Masked" = V.str "done")=false by decide +kernel)
 | same=>exact (show decide (V.str "Same" = V.str "done")=false by decide +kernel)
 | met=>exact (show decide (V.str "Met" = V.str "done")=false by decide +kernel)
 | noguest g =>
  rw[BQ (show ¬ tj.noguest g=.done by simp)];exact (show decide (V.str "NoGuest" = V.str "done")=false by decide +kernel)
theorem tT (m c:Int):(a6 m c).length=m.toNat:=by unfold a6;simp
theorem Ev.track {c:HX}{H0 H:Hp}{x:Addr}{B:HA}{st:bw}(e:Ev c H0 H x B st){y:Addr}(h:H y=none):y∉B.fp:=fun z=>by
 obtain⟨o,q⟩:=e.hall.tracked z;rw[h]at q;cases q
inductive ku (vs:List V) (H:Hp) (Q:VK) (E_:XK):Prop
 | mk (dr m c:Int) (h_0:vs=[.int dr,.int m,.int c]) (h_1:(0<=dr/\dr<=100000)) (h_2:(2<=m/\m<=40)) (h_3:∀ (t:Addr)(d:aF),H t=none->(∀ g∈names d,g∈a6 40 c)->Q (.ref t) (upd H t (a7 d))):ku vs H Q E_
inductive kr (vs:List V) (H:Hp) (Q:VK) (E_:XK):Prop
 | mk (c:Int) (h_0:vs=[.int c]) (h_1:∀ m:Int,2<=m/\m<=40->Q (.int m) H):kr vs H Q E_
theorem qD {k c:Int}(h:0<=k/\k<40):pD k c∈a6 40 c:=by
 unfold a6;rw[BZ];exact⟨k.toNat,Dc.mpr (by omega),by rw[Int.toNat_of_nonneg h.1]⟩
theorem kI {H:Hp}{l t:Addr}{as:List Addr}{ds:List aF}(hl:H l=some (.lst (as.map V.ref)))(hp:Paired (fun a x=>H a=some (a7 x)) as ds)(ht:H t=none)(d:aF):bI (upd (upd H t (a7 d)) l (.lst (as.map V.ref++[.ref t]))) l (ds++[d]):=by
 have tl:t≠l:=fun z=>by rw[z,hl]at ht;cases ht
 refine⟨as++[t],by rw[ae,BX];rfl,bu (Paired.mapP hp fun b y e=>?_) (.cons (by rw[ac tl,ae]) .nil)⟩;obtain⟨xs,ex⟩:=bz y;rw[ac (fun z=>by rw[z,hl,ex]at e;cases e),ac (ah e ht)];exact e
inductive iX (C:Addr) (vs:List V) (H:Hp) (Q:VK) (E_:XK):Prop
 | mk (p:Addr) (A:HA) (st:bw) (h_0:vs=[.ref p]) (h_1:au C H p A st) (h_2:∀ (l:Addr)(H':Hp),H l=none->aH H H'->bI H' l st.deeds->Q (.ref l) H'):iX C vs H Q E_
theorem wZ {a b x y:Int}:de x y=de a b↔(x=a/\y=b)\/(x=b/\y=a):=by
 unfold de
 by_cases h1:y<x<;>by_cases h2:b<a
 ·rw[Bz h1,Bz h2,Prod.mk.injEq];omega
 ·rw[Bz h1,By h2,Prod.mk.injEq];omega
 ·rw[By h1,Bz h2,Prod.mk.injEq];omega
 ·rw[By h1,By h2,Prod.mk.injEq];omega
theorem vg {ml:List (Int×Int)}{p q:Int×Int}:q∈kE ml p↔q∈ml\/q=p:=by
 unfold kE;split
 ·rename_i h
  constructor
  ·exact .inl
  ·rintro (z | z)
   ·exact z
   ·rw[z];exact h
 ·simp
def jF (st:bw)(ml:List (Int×Int)):Prop:=∀ a b,fE st.circ a b=kW ml a b
theorem pj:jF ⟨[],[],[],[]⟩ []:=fun a b=>by unfold fE kW;simp[eV]
def fB (st:bw)(ml:List (Int×Int))(d:aF):List (Int×Int):=if aN st d=.done then qu ml d else ml
theorem qw {st:bw}{ml:List (Int×Int)}{d:aF}(h:jF st ml):jF (aO st d) (fB st ml d):=by
 unfold aO fB
 by_cases hd:aN st d=.done
 ·rw[Bz hd,Bz hd]
  cases d with
  | come g=>exact h
  | go g=>exact h
  | exch a b =>
   intro x y
   show fE (bg (bg st.circ a b) b a) x y=kW (kE ml (de a b)) x y
   rw[oA,h x y];unfold kW
   have e:decide (de x y∈kE ml (de a b))=(decide (de x y∈ml)||decide ((x=a/\y=b)\/(x=b/\y=a))):=by
    rw[<-Bool.decide_or]
    congr 1
    rw[vg,wZ]
   rw[e,Bool.decide_or,Bool.decide_and,Bool.decide_and,Bool.or_assoc]
 ·rw[By hd,By hd];exact h
theorem pE {st:bw}{ml:List (Int×Int)}(h:jF st ml)(d:aF):bn st.worn (kW ml) d=aN st d:=by rw[wY];exact oq (fun a b=>(h a b).symm) d
structure Sz (n:Nat)(st:bw):Prop where
 c:st.circ.length<=2*n
 k:∀ x∈st.circ,x.2.length<=2*n
 d:st.deeds.length<=n
theorem Ba:Sz 0 ⟨[],[],[],[]⟩:=⟨BB _,(fun x hx=>nomatch hx),BB _⟩
theorem sO {n:Nat}{st:bw}(h:Sz n st)(d:aF):Sz (n+1) (aO st d):=by
 have keep:Sz (n+1) st:=⟨by have:=h.c;omega,fun x hx=>by have:=h.k x hx;omega,by have:=h.d;omega⟩;refine⟨?_,?_,by have:=qV st d;have:=h.d;omega⟩
 ·unfold aO
  split
  ·cases d with
   | come g=>exact keep.c
   | go g=>exact keep.c
   | exch a b =>
    show (bg (bg st.circ a b) b a).length<=_
    have:=iy (bg st.circ a b) b a;have:=iy st.circ a b;have:=h.c;omega
  ·exact keep.c
 ·unfold aO
  split
  ·cases d with
   | come g=>exact keep.k
   | go g=>exact keep.k
   | exch a b =>
    intro x hx;have:=kD (n:=2*n+1) (kD (n:=2*n) (a:=a) (b:=b) h.k (by omega)) (by omega) x hx;omega
  ·exact keep.k
theorem rV {L:List Int}{n:Nat}{st:bw}(G:eE st)(o:Of L st)(hL:L.length<=100)(z:Sz n st)(hn:n<=400):qo st:=by
 have:=qX G o;exact Ev.fits (by omega) (by omega) (by have:=z.c;omega) (fun x hx=>by have:=z.k x hx;omega) (by have:=z.d;omega)
def Bi (ds:List aF):Dt:=.sq false (ds.map fun d=>y2 (be d))
theorem tF (d:aF):∀ x∈be d,fA x=true:=by
 cases d<;>(intro x hx;simp[be,names]at hx)
 ·rcases hx with rfl | rfl<;>rfl
 ·rcases hx with rfl | rfl<;>rfl
 ·rcases hx with rfl | rfl | rfl<;>rfl
theorem p9 {K:PySem.W.Frag}{H:Hp}{l:Addr}{ds:List aF}(h:bI H l ds):RD K H 2 (.ref l) (Bi ds):=by
 obtain⟨as,hl,hp⟩:=h;refine RD.lst (bd.of hl) ?_;clear hl
 induction hp with
 | nil=>exact .nil
 | cons e _ ih =>
  rename_i a d _ _ _
  refine .cons ?_ ih;rw[cw]at e;refine RD.tup (cr.of e) ?_;have hf:=tF d;generalize be d=xs at hf;clear e ih
  induction xs with
  | nil=>exact .nil
  | cons n r ih2=>exact .cons (RD.flat (hf n BE) 0) (ih2 fun x hx=>hf x (BC _ hx))
theorem tH {H:Hp}{l t:Addr}{as:List Addr}{ds:List aF}{d:aF}(hl:H l=some (.lst (as.map V.ref)))(hp:Paired (fun a x=>H a=some (a7 x)) as ds)(ht:H t=some (a7 d)):bI (upd H l (.lst (as.map V.ref++[.ref t]))) l (ds++[d]):=by
 have nt:∀ b y,H b=some (a7 y)->b≠l:=fun b y e z=>by obtain⟨xs,ex⟩:=bz y;rw[z,hl,ex]at e;cases e
 refine⟨as++[t],by rw[ae,BX];rfl,bu (Paired.mapP hp fun b y e=>?_) (.cons (by rw[ac (nt t d ht)];exact ht) .nil)⟩;rw[ac (nt b y e)];exact e
theorem xf (st:bw)(d:aF):(aO st d).deeds=if aN st d=.done then st.deeds++[d] else st.deeds:=by
 unfold aO;split
 ·cases d<;>rfl
 ·rfl
structure j0 (H0 H:Hp)(B:HA)(w m ls:Addr)(st:bw)(ml:List (Int×Int)):Prop where
 hw:H w=some (.dK (dk st.worn))
 hm:H m=some (.dT (nh ml))
 hs:bI H ls st.deeds
 al:jF st ml
 wB:w∉B.fp
 mB:m∉B.fp
 sB:ls∉B.fp
 w0:H0 w=none
 m0:H0 m=none
 s0:H0 ls=none
theorem j0.on {H0 H H':Hp}{B:HA}{w m ls:Addr}{st:bw}{ml:List (Int×Int)}(e:j0 H0 H B w m ls st ml)(s:aH H H'):j0 H0 H' B w m ls st ml :=
 ⟨s _ _ e.hw,s _ _ e.hm,bL e.hs s,e.al,e.wB,e.mB,e.sB,e.w0,e.m0,e.s0⟩
theorem j0.ws {H0 H:Hp}{B:HA}{w m ls:Addr}{st:bw}{ml:List (Int×Int)}(e:j0 H0 H B w m ls st ml):w≠ls:=by obtain⟨as,h,_⟩:=e.hs;exact b9 e.hw h (by intro z;cases z)
theorem j0.ms {H0 H:Hp}{B:HA}{w m ls:Addr}{st:bw}{ml:List (Int×Int)}(e:j0 H0 H B w m ls st ml):m≠ls:=by obtain⟨as,h,_⟩:=e.hs;exact b9 e.hm h (by intro z;cases z)
theorem j0.moved {H0 H H':Hp}{B B':HA}{C x w m ls:Addr}{st:bw}{ml:List (Int×Int)}(e:j0 H0 H B w m ls st ml)(S:au C H x B st)(k:∀ y o,H y=some o->y∉B.fp->H' y=some o/\y∉B'.fp):j0 H0 H' B' w m ls st ml:=by
 obtain⟨as,h,hp⟩:=e.hs;refine⟨(k _ _ e.hw e.wB).1,(k _ _ e.hm e.mB).1,⟨as,(k _ _ h e.sB).1,Paired.mapP hp fun b y q=>?_⟩,e.al,(k _ _ e.hw e.wB).2,(k _ _ e.hm e.mB).2,(k _ _ h e.sB).2,e.w0,e.m0,e.s0⟩;obtain⟨xs,ex⟩:=bz y;rw[ex]at q ⊢;exact (k _ _ q (S.tup q)).1
theorem j0.done {H0 H H1:Hp}{B:HA}{w m ls:Addr}{st:bw}{ml:List (Int×Int)}{d:aF}(e:j0 H0 H B w m ls st ml)(hj:aN st d=.done)
  (h1:H1 w=some (.dK (dk (nO st.worn d)))) (h2:H1 m=some (.dT (nh (qu ml d)))) (k:∀ b o,H b=some o->b≠w->b≠m->H1 b=some o)
  {as:List Addr} (hl:H ls=some (.lst (as.map V.ref))) (hp:Paired (fun a x=>H a=some (a7 x)) as st.deeds) {t:Addr} (ht:H t=some (a7 d)) :
  j0 H0 (upd H1 ls (.lst (as.map V.ref++[.ref t]))) B w m ls (aO st d) (fB st ml d)/\H1 ls=some (.lst (as.map V.ref)):=by
 have nt:∀ b y,H b=some (a7 y)->b≠w/\b≠m:=fun b y q=>by
  obtain⟨xs,ex⟩:=bz y;rw[ex]at q;exact⟨b9 q e.hw (by intro z;cases z),b9 q e.hm (by intro z;cases z)⟩
 have hl1:=k _ _ hl (BL e.ws) (BL e.ms);have d1:bI (upd H1 ls (.lst (as.map V.ref++[.ref t]))) ls (st.deeds++[d]):=tH hl1 (Paired.mapP hp fun b y q=>k _ _ q (nt b y q).1 (nt b y q).2) (k _ _ ht (nt t d ht).1 (nt t d ht).2);refine⟨⟨?_,?_,?_,qw e.al,e.wB,e.mB,e.sB,e.w0,e.m0,e.s0⟩,hl1⟩
 ·rw[ac e.ws,ud,Bz hj];exact h1
 ·rw[ac e.ms];unfold fB;rw[Bz hj];exact h2
 ·rw[xf,Bz hj];exact d1
theorem j0.not {H0 H:Hp}{B:HA}{w m ls:Addr}{st:bw}{ml:List (Int×Int)}{d:aF}(e:j0 H0 H B w m ls st ml)(hj:aN st d≠.done):j0 H0 H B w m ls (aO st d) (fB st ml d):=by
 unfold aO fB;rw[By hj,By hj];exact e
theorem b8 {m c g:Int}(h:g∈a6 m c):bp g:=by
 unfold a6 at h;obtain⟨k,_,rfl⟩:=BZ.mp h;exact tM _ _
end Wz
namespace L2
open PySem PySem.Spec PyProof.Rows
theorem vy {X:Cx}{P:Program}{w:World}:c4 (gn P w) X (fun _ _ _=>False):=by
 intro pins σ H s e s' I hc;obtain⟨ea,C,od,H',B,rfl,fl,un,hok,os,bare,hsB,trB,hE⟩:=hc;exact hE.elim
def zj (d:Addr)(o:Obj)(kvs:List (bv×V)):It :=
 ⟨fun i H=>H d=some (.frz o (.dK kvs))/\i<kvs.length,fun i H x H'=>H'=H/\∃ p,kvs[i]? = some p/\x=kV p.1,fun i H=>H d=some (.frz o (.dK kvs))/\kvs.length<=i⟩
theorem rS {P:Program}{w:World}{H:Hp}{h:Heap}{d:Addr}{o:Obj}{kvs:List (bv×V)}{ep:Nat}(hep:∀ es ep',o.data=.dict es ep'->ep'=ep)(x:aM P w H h d (.frz o (.dK kvs))):(d == sysModules)=false/\∃ vs,KV kvs vs/\h.DictAt (aQ P w) d vs ep:=by
 obtain⟨hg,hz,lo,vs,rel,dd⟩:=x;obtain⟨ep',hat⟩:=dd.dictAt;refine⟨lo,vs,rel,?_⟩;obtain⟨od,es,hod,hcd,hdd,r⟩:=id hat;rw[hg]at hod;cases hod;rw[<-hep _ _ hdd];exact hat
theorem uC {P:Program}{w:World}{K:PySem.W.Frag}{tg:Expr}(d it:Addr)(o:Obj)(kvs:List (bv×V))(ep:Nat)(hep:∀ es ep',o.data=.dict es ep'->ep'=ep):nL P w K tg (zj d o kvs) [it] it (fun i h=>h.IsKeyIter it d i kvs.length ep) where
 mem:=by simp
 obj:=fun i h st b hb=>by
  have e:b=it:=by simpa using hb
  subst e;obtain⟨o,e,c,d⟩:=st;exact⟨o,e,fun v z=>by rw[d]at z;cases z⟩
 keep:=fun i h h' st k=>st.at fun o e=>k it (by simp) o e
 item:=by
  intro X hP hw hK hc i pins s σ H E I hf st hg;subst hP hw hK;obtain⟨hH,hi⟩:=hg;obtain⟨lo,vs,rel,hat⟩:=rS hep (I.hok d _ hH);obtain⟨f0,f1,f2,f3,f4,f5⟩:=hf it (by simp);have hl:kvs.length=vs.length:=BM rel;obtain⟨p,hp⟩:∃ p,kvs[i]? = some p:=⟨kvs[i],by simp[hi]⟩;obtain⟨q,hq⟩:∃ q,vs[i]? = some q:=⟨vs[i]'(by omega),by simp[show i<vs.length by omega]⟩;obtain⟨k,v⟩:=q
  have ek:p.1=k:=by
   have e1:(kvs.map (·.1))[i]? = some p.1:=by rw[List.getElem?_map,hp];rfl
   rw[rel.keys,List.getElem?_map,hq]at e1;exact (BF e1).symm
  rw[hl]at st;refine wpAny_pyNext_dict_item (knd:=aQ X.prog X.w) st hat hq fun key h' hk st' sb=>?_;have I1:ao X pins σ H { s with heap:=h' }:=I.turned (t':=s.toks) (fun b o hb e=>(sb.2 b hb).trans e) f0 f1 f3 f4 f5;obtain⟨o2,e,c,d2⟩:=id st';refine⟨key,rfl,pC (s:={ s with heap:=h' }) e c d2 (by decide) ⟨kV k,H,I1,?_,⟨rfl,p,hp,by rw[ek]⟩,by rw[hl];exact st',fun b hb=>(hf b hb).1⟩⟩;rcases ba (k:=k) (v:=key) hk with ⟨j,t,ej,ev⟩ | ⟨j,t,ej,ev⟩
  ·subst ej;exact⟨t,ev⟩
  ·subst ej;exact⟨t,ev⟩
 done:=by
  intro X hP hw hK hc i pins s σ H E I hf st hg;subst hP hw hK;obtain⟨hH,hi⟩:=hg;obtain⟨lo,vs,rel,hat⟩:=rS hep (I.hok d _ hH);have hl:kvs.length=vs.length:=BM rel;obtain⟨f0,f1,f2,f3,f4,f5⟩:=hf it (by simp);rw[hl]at st;exact wpAny_pyNext_dict_end (knd:=aQ X.prog X.w) (I.ok.hd hc) st hat (by simp;omega) fun h' eb=>⟨rfl,I.turned (t':=s.toks) (fun b o hb e=>eb b o hb e) f0 f1 f3 f4 f5⟩
 self:=fun _ _ _ _ _ st h=>wpAny_pyIter_keyiter st h
def zw (tl:TE):TI:=fun σ H R=>tl σ H fun x H1=>∃ d kvs,x=.ref d/\H1 d=some (.dK kvs)/\∀ o:Obj,R (zj d o kvs) (upd H1 d (.frz o (.dK kvs)))
theorem xp {X:Cx}{tg l:Expr}{tl:TE}(hl:PE X l tl):PI X tg l (zw tl):=by
 intro pins s σ H R I h;refine aS (hl pins s σ H _ I h) fun v s1 ⟨x,H1,I1,r1,q1⟩=>?_;obtain⟨d,kvs,e,hH,q⟩:=q1;subst e;cases r1;obtain⟨hz,lo,vs,rel,dd⟩:=(show aM X.prog X.w H1 s1.heap d (.dK kvs) from I1.hok d _ hH);obtain⟨ep,hat⟩:=dd.dictAt;obtain⟨o,es,ho,hc,hdat,r⟩:=id hat;have hl2:kvs.length=vs.length:=BM rel;refine wpAny_pyIter_dict (knd:=aQ X.prog X.w) lo hat ?_;have I2:ao X pins σ (upd H1 d (.frz o (.dK kvs))) { s1 with heap:=s1.heap,toks:=s1.toks }:=I1.write (by rw[hH];trivial) (.inl rfl) (fun b u _ e=>e) ⟨_,ho⟩ ⟨ho,hz,lo,vs,rel,dd⟩;refine⟨s1.heap.objs.size,[s1.heap.objs.size],_,_,_,rfl,I2.kept (t':=s1.toks) fun b o e=>Heap.get?_push_of_some _ e,uC d _ o kvs ep (fun es' ep' e=>?_),⟨_,Heap.get?_push_size _ rfl,rfl,by rw[hl2];rfl⟩,fun b hb=>?_,q o⟩
 ·rw[hdat]at e;cases e;rfl
 ·have e:b=s1.heap.objs.size:=by simpa using hb
  subst e;exact I2.fpOk (BB _) (I2.hok.fresh (BB _))
theorem uY {d:Addr}{o:Obj}{kvs:List (bv×V)}{g:TG}{tb:TS}{D:eB}{σ:St}{H:Hp}(Pv:Nat->St->Hp->Prop)(h0:Pv 0 σ H)(hl:∀ i σ H,i<=kvs.length->Pv i σ H->H d=some (.frz o (.dK kvs)))
  (hs:∀ i p σ H,kvs[i]? = some p->Pv i σ H->g (kV p.1) σ H fun σ2 H2=>tb { D with nx:=Pv (i+1),ct:=Pv (i+1),bk:=D.nx } σ2 H2) (hd:∀ σ H,Pv kvs.length σ H->D.nx σ H) :
  ∃ W:Nat->Nat->St->Hp->Prop,(∃ m,W 0 m σ H)/\∀ i m σ H,W i m σ H ->
   ((zj d o kvs).stop i H/\D.nx σ H)\/((zj d o kvs).go i H/\∃ N:St->Hp->Prop,(∀ σ' H',N σ' H'->∃ m',m'<m/\W (i+1) m' σ' H')/\∀ x H',(zj d o kvs).yld i H x H'->g x σ H' fun σ2 H2=>tb { D with nx:=N,ct:=N,bk:=D.nx } σ2 H2):=by
 refine⟨fun i m σ H=>m=kvs.length-i/\i<=kvs.length/\Pv i σ H,⟨kvs.length,by simp,BY _,h0⟩,?_⟩;rintro i m σ H ⟨rfl,hi,p⟩;have q:=hl i σ H hi p
 by_cases hlt:i<kvs.length
 ·refine .inr ⟨⟨q,hlt⟩,Pv (i+1),fun σ' H' p'=>⟨kvs.length-(i+1),by omega,rfl,hlt,p'⟩,fun x H' y=>?_⟩
  obtain⟨e,p2,hp,ex⟩:=y;subst e ex;exact hs i p2 σ _ hp p
 ·have e:i=kvs.length:=by omega
  subst e;exact .inl ⟨⟨q,BB _⟩,hd σ H p⟩
end L2
namespace Wz
open PySem L2
def hW (ds:List aF):bw:=ds.foldl after ⟨[],[],[],[]⟩
theorem nv (ds:List aF)(d:aF):hW (ds++[d])=after (hW ds) d:=by unfold hW;rw[List.foldl_append];rfl
def gq (ds:List aF):Prop:=∀ i d,ds[i]? = some d->aN (hW (ds.take i)) d=.done
theorem ph (st:bw)(d:aF):(after st d).deeds=st.deeds++[d]:=by cases d<;>rfl
theorem jT:∀ {l:List (Int×Int)}{g m:Int},(aA l).Nodup->(g,m)∈l->look l g=some m
 | p::l,g,m,nd,h=>by
  unfold aA at nd;rw[BO,B8]at nd;unfold look;rcases BH.mp h with z | z
  ·rw[<-z,Bz rfl]
  ·rw[By (fun e=>nd.1 (by rw[e];exact C3 (f:=(·.1)) z))]
   exact jT nd.2 z
end Wz
namespace L2
open PySem PySem.Spec PyProof.Rows
theorem ao.turned2 {X:Cx}{pins:List (Addr×Obj)}{σ:St}{H:Hp}{s:Shared}{h':Heap}{t':Nat}{e it:Addr}(I:ao X pins σ H s)(k:∀ b o,b≠e->b≠it->s.heap.get? b=some o->h'.get? b=some o)(fe:dR X pins H e)(fi:dR X pins H it):ao X pins σ H { s with heap:=h',toks:=t' }:=by
 obtain⟨e0,e1,e2,e3,e4,e5⟩:=fe;obtain⟨i0,i1,i2,i3,i4,i5⟩:=fi;have nit:∀ b u,H b=some u->b≠e/\b≠it:=fun b u q=>⟨(fun z=>by rw[z,e0]at q;cases q),(fun z=>by rw[z,i0]at q;cases q)⟩
 have nn:∀ b,b∉[e,it]->b≠e/\b≠it:=fun b hb=>by simpa using hb
 refine I.step (g':=s.gens) (d':=s.drawn) (ch:=[e,it]) (fun b hb=>?_) (fun b o _ _ hc q _=>k b o (nn b hc).1 (nn b hc).2 q) (fun b o _ _ hc q _=>⟨o.slots,k b o (nn b hc).1 (nn b hc).2 q⟩) (fun _ _ _ _ n=>n)
  (fun b o hc q=>⟨o,k b o (nn b hc).1 (nn b hc).2 q⟩) (fun _ _ q=>q) (fun _ _ _ q=>q) (fun b ps q=>⟨#[],by rw[q];simp⟩) (fun m hm=>?_) (fun b u q=>?_) I.bare
 ·have hb:b=e\/b=it:=by simpa using hb
  rcases hb with rfl | rfl
  ·exact⟨e3,e1,e4,e5⟩
  ·exact⟨i3,i1,i4,i5⟩
 ·obtain⟨o,es,ep,ho,r⟩:=hm
  exact⟨o,es,ep,k _ o (BL e1) (BL i1) ho,r⟩
 ·refine (I.hok b u q).stay (fun c v hc z=>k c v ?_ ?_ z) (fun _ z=>z) fun _ _ z=>z
  ·rcases hc with z | z
   ·rw[z];exact (nit b u q).1
   ·exact (nit c _ z).1
  ·rcases hc with z | z
   ·rw[z];exact (nit b u q).2
   ·exact (nit c _ z).2
def zk (K:PySem.W.Frag)(l:Addr):It :=
 ⟨fun i H=>∃ xs x,bd K H l xs/\xs[i]? = some x,fun i H y H'=>∃ T x,H T=none/\y=.ref T/\H'=upd H T (.tup [.int i,x])/\∀ xs,bd K H l xs->xs[i]? = some x,fun i H=>∃ xs,bd K H l xs/\xs.length<=i⟩
theorem uD {P:Program}{w:World}{K:PySem.W.Frag}{elts:List Expr} {kk}{pos:Pos}(e it l:Addr)(hne:e≠it):nL P w K (.Tuple elts kk pos) (zk K l) [e,it] e (fun i h=>(∃ old,IsEnum h e it (i:Nat) old)/\h.IsListIter it l i) where
 mem:=by simp
 obj:=fun i h st b hb=>by
  obtain⟨⟨old,he⟩,⟨o,eo,c,d⟩⟩:=st
  have hb:b=e\/b=it:=by simpa using hb
  rcases hb with rfl | rfl
  ·exact⟨_,he,fun v z=>by cases z⟩
  ·exact⟨o,eo,fun v z=>by rw[d]at z;cases z⟩
 keep:=fun i h h' st k=>⟨st.1.elim fun old he=>⟨old,k e (by simp) _ he⟩,st.2.at fun o x=>k it (by simp) o x⟩
 item:=by
  intro X hP hw hK hc i pins s σ H E I hf st hg;subst hP hw hK;obtain⟨xs,x,hq,hx⟩:=hg;obtain⟨its,rv,p,hz⟩:=I.list hq;obtain⟨u,hu,ru⟩:=rv.get hx;obtain⟨⟨old,he⟩,hit⟩:=st;have fe:=hf e (by simp);have fi:=hf it (by simp);have lte:e<s.heap.objs.size:=BG he
  have lti:it<s.heap.objs.size:=by obtain⟨_,q,_⟩:=id hit;exact BG q
  refine wpAny_pyNext_enum_item he hit p.isList (x:=u) (by simpa using hu) hne fun h' ho hit' hT hsz hk=>⟨.ref s.heap.objs.size,rfl,?_⟩;refine wpAny_letOwnedTupleGo_enum (s:={ s with heap:=h',toks:=s.toks+1 }) ho fun h2 he2 sb2=>?_;have hfr:H s.heap.objs.size=none:=I.hok.fresh (BB _)
  have IL:ao X pins σ (upd H s.heap.objs.size (.tup [.int i,x])) { s with heap:=s.heap.push { cls:=.type "tuple",data:=.seq #[.int i s.toks,u] },toks:=s.toks } :=
   I.laid (fun b o q=>Heap.get?_push_of_some _ q) (BB _) ⟨by show 2<=sizeLine;decide,[.int i s.toks,u],.cons ⟨_,rfl⟩ (.cons ru .nil),⟨_,Heap.get?_push_size _ rfl,rfl,_,rfl⟩⟩
  have fp':∀ b,b<s.heap.objs.size->dR X pins H b->dR X pins (upd H s.heap.objs.size (.tup [.int i,x])) b:=fun b hb ⟨f0,f1,f2,f3,f4,f5⟩=>⟨by rw[ac (BJ hb)];exact f0,f1,f2,f3,f4,f5⟩
  have I2:ao X pins σ (upd H s.heap.objs.size (.tup [.int i,x])) { s with heap:=h2,toks:=s.toks+1 }:=IL.turned2 (t':=s.toks+1) (h':=h2) (fun b o n1 n2 q=>by
   refine (sb2.2 b n1).trans ?_
   show h'.get? b=some o
   by_cases hb:b=s.heap.objs.size
   ·subst hb
    have q:(s.heap.push { cls:=.type "tuple",data:=.seq #[.int i s.toks,u] }).get? s.heap.objs.size=some o:=q;rw[Heap.get?_push_size _ rfl]at q;cases q;exact hT
   ·have q:(s.heap.push { cls:=.type "tuple",data:=.seq #[.int i s.toks,u] }).get? b=some o:=q
    refine hk b o n1 n2 ?_;rw[Heap.get?_push_ne _ _ _ hb]at q
    exact q) (fp' e lte fe) (fp' it lti fi)
  refine⟨.ref s.heap.objs.size,_,I2,rfl,⟨s.heap.objs.size,x,hfr,rfl,rfl,fun ys hy=>by rw[I.list_inj hy hq];exact hx⟩,⟨⟨_,by simpa using he2⟩,hit'.at fun o q=>(sb2.2 it (BL hne)).trans q⟩,fun b hb=>?_⟩
  have hb':b=e\/b=it:=by simpa using hb
  rcases hb' with rfl | rfl
  ·exact (fp' _ lte fe).1
  ·exact (fp' _ lti fi).1
 done:=by
  intro X hP hw hK hc i pins s σ H E I hf st hg;subst hP hw hK;obtain⟨xs,hq,hx⟩:=hg;obtain⟨its,rv,p,hz⟩:=I.list hq;obtain⟨⟨old,he⟩,hit⟩:=st;obtain⟨f0,f1,f2,f3,f4,f5⟩:=hf it (by simp);have hl:=rv.length;exact wpAny_pyNext_enum_end (I.ok.hd hc) he hit p.isList (by simp;omega) fun h' eb=>⟨rfl,I.turned (t':=s.toks) (fun b o hb q=>eb b o hb q) f0 f1 f3 f4 f5⟩
 self:=fun _ _ _ _ _ st h=>st.1.elim fun old he=>wpAny_pyIter_enum he h
def zx (K:PySem.W.Frag)(t:TA):TI:=fun σ H R=>t σ H fun vs H1=>∃ l,vs=[.ref l]/\(∃ xs,bd K H1 l xs)/\R (zk K l) H1
theorem xq {X:Cx}{elts:List Expr} {kk}{tpos:Pos}{a:Expr}{ta:TA}{p pos:Pos}(hg:Gl X "enumerate")(hm:X.mg "enumerate" = none)(ha:PA X [a] ta)
  (he:starEach [a] X.env=(false,eval a X.env)::starEach [] X.env:=by rfl) (hpl:(backTo pos (starEach [] X.env)).any (·.1)=false:=by rfl):PI X (.Tuple elts kk tpos) (.Call (.Name "enumerate" p) [a] [] pos) (zx X.K ta):=by
 intro pins s σ H R I h;refine CD (kR I hg hm boot_enumerate ?_ (by decide) (by decide));refine PyProof.Rows.callWith_type1 (aS (ha pos pins s σ H _ I h) fun us s1 ⟨vs,H1,I1,r1,l,e1,⟨xs,hq⟩,q⟩=>?_) he hpl;subst e1;obtain⟨u,rfl,rx⟩:=dM r1;cases rx;obtain⟨its,rv,pl,hz⟩:=I1.list hq;refine call_enumerate_list pl.isList fun h' hE hI hsz hk=>?_;have I2:ao X pins σ H1 { s1 with heap:=h',toks:=s1.toks }:=I1.kept hk;refine wpAny_pyIter_enum (s:={ s1 with heap:=h' }) hE ?_;refine⟨s1.heap.objs.size+1,[s1.heap.objs.size+1,s1.heap.objs.size],_,_,H1,rfl,I2,uD _ _ l (Nat.succ_ne_self _),⟨⟨_,hE⟩,hI⟩,fun b hb=>?_,q⟩
 have hb:b=s1.heap.objs.size+1\/b=s1.heap.objs.size:=by simpa using hb
 rcases hb with rfl | rfl
 ·exact I1.fpOk (Nat.le_succ _) (I1.hok.fresh (Nat.le_succ _))
 ·exact I1.fpOk (BB _) (I1.hok.fresh (BB _))
theorem uZ {K:PySem.W.Frag}{a:Addr}{xs:List V}{g:TG}{tb:TS}{D:eB}{σ:St}{H:Hp}(Pv:Nat->St->Hp->Prop)(h0:Pv 0 σ H)(hl:∀ i σ H,i<=xs.length->Pv i σ H->bd K H a xs)
  (hs:∀ i x σ H T,xs[i]? = some x->Pv i σ H->H T=none->g (.ref T) σ (upd H T (.tup [.int i,x])) fun σ2 H2=>tb { D with nx:=Pv (i+1),ct:=Pv (i+1),bk:=D.nx } σ2 H2) (hd:∀ σ H,Pv xs.length σ H->D.nx σ H) :
  ∃ W:Nat->Nat->St->Hp->Prop,(∃ m,W 0 m σ H)/\∀ i m σ H,W i m σ H ->
   ((zk K a).stop i H/\D.nx σ H)\/((zk K a).go i H/\∃ N:St->Hp->Prop,(∀ σ' H',N σ' H'->∃ m',m'<m/\W (i+1) m' σ' H')/\∀ x H',(zk K a).yld i H x H'->g x σ H' fun σ2 H2=>tb { D with nx:=N,ct:=N,bk:=D.nx } σ2 H2):=by
 refine⟨fun i m σ H=>m=xs.length-i/\i<=xs.length/\Pv i σ H,⟨xs.length,by simp,BY _,h0⟩,?_⟩;rintro i m σ H ⟨rfl,hi,p⟩;have q:=hl i σ H hi p
 by_cases hlt:i<xs.length
 ·refine .inr ⟨⟨xs,xs[i],q,by simp[hlt]⟩,Pv (i+1),fun σ' H' p'=>⟨xs.length-(i+1),by omega,rfl,hlt,p'⟩,fun y H' z=>?_⟩
  obtain⟨T,x,hT,e1,e2,hx⟩:=z;subst e1 e2;exact hs i x σ _ T (hx xs q) p hT
 ·have e:i=xs.length:=by omega
  subst e;exact .inl ⟨⟨xs,q,BB _⟩,hd σ H p⟩
end L2
namespace Wz
open PySem L2
theorem rq (l:List Int):(bi l).Pairwise (·<=·):=by
 have h1:(bi l).Pairwise (fun a b=>decide (a<=b)=true):=List.pairwise_mergeSort (by intro a b c;simp;omega) (by intro a b;simp;omega) l;exact h1.imp (by simp)
theorem rA (l:List Int):(bi l).Perm l:=List.mergeSort_perm l _
end Wz
namespace L2
open PySem PySem.Spec PyProof.Rows
theorem lY (elt t0 i0:Expr)(c0:List Expr)(t1 i1:Expr)(c1:List Expr)(scope:Scope)(pos:Pos)(it acc:Value)(env:Env) :
  compTurn (.ListComp elt [⟨t0,i0,c0,0⟩,⟨t1,i1,c1,0⟩] scope pos) 0 it acc env=(do
   standAt i0.pos
   match <-pyNext it with
   | none=>pure (.done .next)
   | some v =>
    letOwnedTupleGo t0 it v
    assign t0 env v
    let mut ok:=true
    for c in c0 do
     if ok then ok <-isTrue c env (eval c env)
    if ok then
     let x <-eval i1 env
     standAt i1.pos
     let x <-foldedSetIterable i1 env x
     let it1 <-holding [x] (pyIter x)
     let _ <-runOwn (.compStart (.ListComp elt [⟨t0,i0,c0,0⟩,⟨t1,i1,c1,0⟩] scope pos) 1 it1 acc env) env
     again (.compLoop (.ListComp elt [⟨t0,i0,c0,0⟩,⟨t1,i1,c1,0⟩] scope pos) 0 it acc env)
    else
     again (.compLoop (.ListComp elt [⟨t0,i0,c0,0⟩,⟨t1,i1,c1,0⟩] scope pos) 0 it acc env)):=by rfl
theorem lZ (elt t0 i0:Expr)(c0:List Expr)(t1 i1:Expr)(c1:List Expr)(scope:Scope)(pos:Pos)(it acc:Value)(env:Env) :
  compTurn (.ListComp elt [⟨t0,i0,c0,0⟩,⟨t1,i1,c1,0⟩] scope pos) 1 it acc env=(do
   standAt i1.pos
   match <-pyNext it with
   | none=>pure (.done .next)
   | some v =>
    letOwnedTupleGo t1 it v
    assign t1 env v
    let mut ok:=true
    for c in c1 do
     if ok then ok <-isTrue c env (eval c env)
    if ok then
     (do let _ <-call (.builtin "list.append") [acc,<-eval elt env])
    again (.compLoop (.ListComp elt [⟨t0,i0,c0,0⟩,⟨t1,i1,c1,0⟩] scope pos) 1 it acc env)):=by rfl
section
variable {prog:Program}{w:World}{A:Around}{R:Result->Shared->Prop}{s:Shared}{elt t0 i0 t1 i1:Expr}{c0 c1:List Expr}{scope:Scope}{pos:Pos}{it acc:Value}{env:Env}
theorem gD (I:Nat->Shared->Prop)
  (turn:∀ n s,I n s->wpAny (model prog w) A (pyNext it) (fun r s₁=>match r with
   | none=>R (.ok .next) s₁
   | some v=>wpAny (model prog w) A (letOwnedTupleGo t1 it v) (fun _ s₁'=>wpAny (model prog w) A (assign t1 env v) (fun _ s₂ =>
     wpAny (model prog w) A (forIn c1 true fun c r=>if r=true then do let ok <-isTrue c env (eval c env);pure (ForInStep.yield ok) else pure (ForInStep.yield r)) (fun ok s₃ =>
      if ok=true then wpAny (model prog w) A (eval elt env) (fun x s₄ =>
       wpAny (model prog w) A (call (.builtin "list.append") [acc,x]) (fun _ s₅=>∃ m,m<n/\I m s₅) (fun _ _=>False) s₄) (fun _ _=>False) s₃
      else ∃ m,m<n/\I m s₃) (fun _ _=>False) s₂) (fun _ _=>False) s₁') (fun _ _=>False) s₁) (fun _ _=>False) s)
  (n:Nat) (h:I n s) :
  codeAny (model prog w) A (.compLoop (.ListComp elt [⟨t0,i0,c0,0⟩,⟨t1,i1,c1,0⟩] scope pos) 1 it acc env) R s:=by
 refine codeAny_loop rfl I (fun n s hI=>?_) n h
 show wpAny _ A ((compTurn (.ListComp elt [⟨t0,i0,c0,0⟩,⟨t1,i1,c1,0⟩] scope pos) 1 it acc env).onRaise (fun x=>do noteFrame x env;theTreesLotGoes x)) _ _ s
 refine wpAny_noted ?_;rw[lZ];refine Bw (Cq (Bw (BS (turn n s hI) (fun r s₁ h₁=>?_) fun _ _ h'=>h'.elim)))
 cases r with
 | none=>exact BA h₁
 | some v =>
  refine Bw (BS h₁ (fun _ s₁' h₁'=>?_) fun _ _ h'=>h'.elim);refine Bw (BS h₁' (fun _ s₂ h₂=>Bw (BS h₂ (fun ok s₃ h₃=>?_) fun _ _ h'=>h'.elim)) fun _ _ h'=>h'.elim)
  cases ok with
  | false=>exact BA ⟨rfl,h₃⟩
  | true =>
   exact Bw (Bw (BS h₃ (fun x s₄ h₄=>Bw (BS h₄ (fun _ s₅ h₅=>BA (BA ⟨rfl,h₅⟩)) fun _ _ h'=>h'.elim)) fun _ _ h'=>h'.elim))
theorem fR (hs:∀ x,foldedSetIterable i1 env x=pure x)(I:Nat->Shared->Prop)
  (turn:∀ n s,I n s->wpAny (model prog w) A (pyNext it) (fun r s₁=>match r with
   | none=>R (.ok .next) s₁
   | some v=>wpAny (model prog w) A (letOwnedTupleGo t0 it v) (fun _ s₁'=>wpAny (model prog w) A (assign t0 env v) (fun _ s₂ =>
     wpAny (model prog w) A (forIn c0 true fun c r=>if r=true then do let ok <-isTrue c env (eval c env);pure (ForInStep.yield ok) else pure (ForInStep.yield r)) (fun ok s₃ =>
      if ok=true then wpAny (model prog w) A (eval i1 env) (fun x s₄ =>
       wpAny (model prog w) A (pyIter x) (fun it1 s₅=>codeAny (model prog w) A (.compStart (.ListComp elt [⟨t0,i0,c0,0⟩,⟨t1,i1,c1,0⟩] scope pos) 1 it1 acc env) (fun r s₆=>r=.ok .next/\∃ m,m<n/\I m s₆) s₅) (fun _ _=>False) s₄) (fun _ _=>False) s₃
      else ∃ m,m<n/\I m s₃) (fun _ _=>False) s₂) (fun _ _=>False) s₁') (fun _ _=>False) s₁) (fun _ _=>False) s)
  (n:Nat) (h:I n s) :
  codeAny (model prog w) A (.compLoop (.ListComp elt [⟨t0,i0,c0,0⟩,⟨t1,i1,c1,0⟩] scope pos) 0 it acc env) R s:=by
 refine codeAny_loop rfl I (fun n s hI=>?_) n h
 show wpAny _ A ((compTurn (.ListComp elt [⟨t0,i0,c0,0⟩,⟨t1,i1,c1,0⟩] scope pos) 0 it acc env).onRaise (fun x=>do noteFrame x env;theTreesLotGoes x)) _ _ s
 refine wpAny_noted ?_;rw[lY];refine Bw (Cq (Bw (BS (turn n s hI) (fun r s₁ h₁=>?_) fun _ _ h'=>h'.elim)))
 cases r with
 | none=>exact BA h₁
 | some v =>
  refine Bw (BS h₁ (fun _ s₁' h₁'=>?_) fun _ _ h'=>h'.elim);refine Bw (BS h₁' (fun _ s₂ h₂=>Bw (BS h₂ (fun ok s₃ h₃=>?_) fun _ _ h'=>h'.elim)) fun _ _ h'=>h'.elim)
  cases ok with
  | false=>exact BA ⟨rfl,h₃⟩
  | true =>
   refine Bw (BS h₃ (fun x s₄ h₄=>?_) fun _ _ h'=>h'.elim);refine Bw (Cq (Bw (wpAny_of_eq (hs x) ?_)));refine Bw (Cf (BS h₄ (fun it1 s₅ h₅=>?_) fun _ _ h'=>h'.elim));refine Bw (wpAny_runOwn (CG h₅ fun r s₆ h₆=>?_));obtain⟨rfl,h₆⟩:=h₆;exact BA ⟨rfl,h₆⟩
theorem fS
  (h0:codeAny (model prog w) A (.compLoop (.ListComp elt [⟨t0,i0,c0,0⟩,⟨t1,i1,c1,0⟩] scope pos) 1 it acc env) R s)
  (h:wpAny (model prog w) A (pyIter it) (fun it' s'=>codeAny (model prog w) A (.compLoop (.ListComp elt [⟨t0,i0,c0,0⟩,⟨t1,i1,c1,0⟩] scope pos) 1 it' acc env) R s')
   (notedBy (model prog w) A env fun x s'=>R (.error x) s') s) :
  codeAny (model prog w) A (.compStart (.ListComp elt [⟨t0,i0,c0,0⟩,⟨t1,i1,c1,0⟩] scope pos) 1 it acc env) R s:=by
 refine codeAny_of_tree ?_
 show wpAny _ _ ((compStart (.ListComp elt [⟨t0,i0,c0,0⟩,⟨t1,i1,c1,0⟩] scope pos) 1 it acc env).onRaise (fun x=>do noteFrame x env;standAt theWindowsPlace)) _ _ s
 refine wpAny_notedAt ?_;unfold compStart
 show wpAny _ _ (ask >>= _) _ _ s
 refine Bw (wpAny_askSetting (wpAny_ite ?_));split
 ·first
   | exact Bw (BA (BA (And.intro rfl h0)))
   | exact BA (And.intro rfl h0)
 ·first
   | exact Bw (wpAny_rule (Bw (Cq (Bw (BS h (fun it' s' h'=>BA (And.intro rfl h')) fun _ _ x=>x)))))
   | (refine Bw (wpAny_rule ?_);show wpAny _ _ (standAt i1.pos >>= _) _ _ s;exact Bw (Cq (Bw (BS h (fun it' s' h'=>BA (And.intro rfl h')) fun _ _ x=>x))))
end
theorem qx {Y:Cx}{P:List (Addr×Obj)}{σ:St}{H:Hp}{s:Shared}{elt t0 i0 t1 i1:Expr}{c0 c1:List Expr}{sc:Scope}{pos:Pos}{it a:Addr}{fp:List Addr}{tn:Nat->Heap->Prop}{J:It}{g:TG}{tt:TT}{te:TE}{nx:St->Hp->Prop}{rt:VK}{bk ct:St->Hp->Prop}
  (hc:Y.calm=true) (hxe:Y.xe=fun _ _=>False) (I:ao Y P σ H s) (T:nL Y.prog Y.w Y.K t1 J fp it tn) (st:tn 0 s.heap) (f:∀ b∈fp,dR Y P H b) (hL:jO J g (wy tt te a) ⟨nx,rt,bk,ct⟩ σ H) (hg:PG Y t1 g) (ht:yd Y c1 tt) (he:PE Y elt te) :
  codeAny (model Y.prog Y.w) Y.A (.compLoop (.ListComp elt [⟨t0,i0,c0,0⟩,⟨t1,i1,c1,0⟩] sc pos) 1 (.ref it) (.ref a) Y.env) (fun r s'=>r=.ok .next/\∃ σ' H',ao Y P σ' H' s'/\nx σ' H') s:=by
 obtain⟨W,⟨m0,w0⟩,turn⟩:=hL;have stat:∀ {H':Hp},(∀ b∈fp,H' b=none)->∀ b∈fp,dR Y P H' b:=fun {H'} hn b hb=>⟨hn b hb,(f b hb).2⟩;refine gD (fun n s'=>∃ i σ' H',ao Y P σ' H' s'/\tn i s'.heap/\(∀ b∈fp,H' b=none)/\W i n σ' H') ?_ m0 ⟨0,_,_,I,st,fun b hb=>(f b hb).1,w0⟩;rintro n s6 ⟨i,σ6,H6,I6,st6,fr6,w6⟩;rcases turn i n σ6 H6 w6 with ⟨stop,qn⟩ | ⟨go,Nx,hN,step⟩
 ·refine aS (T.done Y rfl rfl rfl hc i P s6 σ6 H6 _ I6 (stat fr6) st6 stop) fun r s7 ⟨hr,I7⟩=>?_
  subst hr;exact⟨rfl,σ6,H6,I7,qn⟩
 ·refine aS (T.item Y rfl rfl rfl hc i P s6 σ6 H6 _ I6 (stat fr6) st6 go) fun r s7 ⟨u,hr,h7⟩=>?_
  subst hr;refine aS h7 fun _ s8 ⟨x,H8,I8,r8,y8,st8,fr8⟩=>?_;have I8':=I8.pinned (stat fr8) (T.obj _ _ st8);have hgx:=hg _ s8 σ6 H8 x u _ I8' r8 (step x H8 y8);rw[hxe]at hgx;refine aS hgx fun _ s9 ⟨σ9,H9,I9,q9⟩=>?_
  have again:∀ {s':Shared}{σ7:St}{H7:Hp},ao Y (P++fZ fp s8.heap) σ7 H7 s'->Nx σ7 H7->∃ m,m<n/\∃ i σ' H',ao Y P σ' H' s'/\tn i s'.heap/\(∀ b∈fp,H' b=none)/\W i m σ' H':=fun {s' σ7 H7} I7 n7=>by
   obtain⟨m',hm,w7⟩:=hN σ7 H7 n7;refine⟨m',hm,i+1,σ7,H7,I7.unpinned,T.keep _ _ _ st8 fun b hb o e=>(I7.pin (b,o) (BN _ (BN _ (bt hb e)))).1,fun b hb=>?_,w7⟩;obtain⟨o,e,d⟩:=T.obj _ _ st8 b hb;exact (I7.pin (b,o) (BN _ (BN _ (bt hb e)))).2.1
  have htx:=ht _ s9 σ9 H9 _ I9 q9;rw[hxe]at htx;refine aS htx fun ok s10 ⟨H10,I10,q10⟩=>?_
  cases ok with
  | false =>
   rw[By BD]at q10 ⊢;exact again I10 q10
  | true =>
   rw[Bz rfl]at q10 ⊢;have hex:=he _ s10 σ9 H10 _ I10 q10;rw[hxe]at hex;refine aS hex fun y s11 ⟨yv,H11,I11,ry,ys,hys,hlen,q11⟩=>?_;exact aS (fQ (X:=Y) I11 hys hlen ry) fun _ s12 I12=>again I12 q11
def y1 (tt0:TT)(wi1:TI)(g1:TG)(tt1:TT)(te:TE)(a:Addr):TS:=fun D σ H=>tt0 σ H fun b H1=>if b=true then wi1 σ H1 fun J1 H2=>jO J1 g1 (wy tt1 te a) { nx:=D.nx,rt:=fun _ _=>False } σ H2 else D.nx σ H1
def yS (wi:TI)(g0:TG)(tt0:TT)(wi1:TI)(g1:TG)(tt1:TT)(te:TE)(src:List (Option Nat)):TE:=fun σ H Q=>wi σ H fun J H1=>∀ a,H1 a=none ->
 jO J g0 (y1 tt0 wi1 g1 tt1 te a) { nx:=fun _ H'=>Q (.ref a) H',rt:=fun _ _=>False } (fT src σ) (upd H1 a (.lst []))
theorem vC {X:Cx}{elt tg iter t1 i1:Expr}{ifs c1:List Expr}{sc so:Scope}{pos:Pos}{N':List Str}{src:List (Option Nat)}{wi wi1:TI}{g g1:TG}{tt tt1:TT}{te:TE}{N:List Str}(hso:X.env.scope=so)(hXN:X.N=N)(S:mF so sc N N' src)(hc:X.calm=true)(hi:PI X tg iter wi)
  (hb:∀ (cl:List (Str×Addr))(C:Addr)(s:Shared)(H:Hp)(ex:List Addr),PG (bT X sc cl C N' s H ex) tg g/\yd (bT X sc cl C N' s H ex) ifs tt/\PI (bT X sc cl C N' s H ex) t1 i1 wi1/\PG (bT X sc cl C N' s H ex) t1 g1/\yd (bT X sc cl C N' s H ex) c1 tt1/\PE (bT X sc cl C N' s H ex) elt te)
  (hs:∀ x,foldedSetIterable iter X.env x=pure x:=by intro _;rfl) (hs1:∀ env x,foldedSetIterable i1 env x=pure x:=by intro _ _;rfl):PE X (.ListComp elt [⟨tg,iter,ifs,0⟩,⟨t1,i1,c1,0⟩] sc pos) (yS wi g tt wi1 g1 tt1 te src):=by
 subst hXN;intro pins s σ H Q I h
 obtain⟨cl,hcl,q1,q3⟩:=gY (sc:=sc) (env:=X.env) fun y hy hf=>by
  have:=S.fre y hy hf;rw[<-hso]at this;exact I.ok.has y.1 this
 rw[eval_ListComp];refine wpAny_comprehension_free (use:=none) rfl hs hcl S.kind S.loc (aS (hi pins s σ H _ I h) fun v s1 h1=>aS h1 fun itv s2 h2=>?_);obtain⟨it,fp,tn,J,H2,e,I2,T,st2,f2,hR⟩:=h2;subst e;refine Ca ?_
 have I3:ao X pins σ (upd H2 s2.heap.objs.size (.lst [])) { s2 with heap:=s2.heap.push { cls:=.type "list",dict:=none,data:=.seq ([]:List Value).toArray } } :=
  I2.laid (t':=s2.toks) (fun b u q=>Heap.get?_push_of_some _ q) (BB _) ⟨BY _,[],0,.nil,Heap.get?_push_size _ rfl⟩
 have hfr:=I2.hok.fresh (BB s2.heap.objs.size);obtain⟨W,⟨m0,w0⟩,turn⟩:=hR _ hfr
 have flt:∀ b∈fp,b<s2.heap.objs.size:=fun b hb=>by obtain⟨o,e,_⟩:=T.obj _ _ st2 b hb;exact BG e
 generalize hs3:({ s2 with heap:=s2.heap.push { cls:=.type "list",dict:=none,data:=.seq ([]:List Value).toArray } }:Shared)=s3 at I3 ⊢
 have e3:s3.heap=s2.heap.push { cls:=.type "list",dict:=none,data:=.seq ([]:List Value).toArray }:=by rw[<-hs3]
 have sz3:s3.heap.objs.size=s2.heap.objs.size+1:=by rw[e3,CZ]
 have hf3:∀ b∈fp,dR X pins (upd H2 s2.heap.objs.size (.lst [])) b:=fun b hb=>⟨by rw[ac (BJ (flt b hb))];exact (f2 b hb).1,(f2 b hb).2⟩
 have flt3:∀ b∈fp,b<s3.heap.objs.size:=fun b hb=>by rw[sz3];exact CN (flt b hb)
 have st3:tn 0 s3.heap:=T.keep _ _ _ st2 fun b _ o e=>by rw[e3];exact Heap.get?_push_of_some _ e
 refine wpAny_newFunctionEnv S.nocell (by intro y hy;simp at hy) (fun h4 hns4 hsb4=>?_) S.kind;have kp4:∀ b o,s3.heap.get? b=some o->h4.get? b=some o:=fun b o e=>hsb4.extBut b o (BJ (BG e)) (Heap.get?_push_of_some _ e);have I4:=kP (h':=h4) I3 hso S q1 q3 hf3 flt3 (by simpa using hns4) kp4 (s3.toks+([]:List (Str×Value)).length);have st4:tn 0 h4:=T.keep _ _ _ st3 fun b _ o e=>kp4 b o e;generalize hC:s3.heap.objs.size=C at I4 hns4 hsb4 ⊢;obtain⟨hg,ht,hi1,hg1,ht1,he⟩:=hb cl C s3 (upd H2 s2.heap.objs.size (.lst [])) fp
 let Y:Cx:=bT X sc cl C N' s3 (upd H2 s2.heap.objs.size (.lst [])) fp
 have loop:∀ s5:Shared,s5={ s3 with heap:=h4,toks:=s3.toks+([]:List (Str×Value)).length }->codeAny (model X.prog X.w) X.A (.compLoop (.ListComp elt [⟨tg,iter,ifs,0⟩,⟨t1,i1,c1,0⟩] sc pos) 0 (.ref it) (.ref s2.heap.objs.size) (compEnvC sc cl C X.env))
   (compPost (model X.prog X.w) X.A X.xe none (EP X pins σ Q) (.ref s2.heap.objs.size) C) s5:=by
  rintro s5 rfl
  have stat:∀ {H':Hp},(∀ b∈fp,H' b=none)->∀ b∈fp,dR Y [] H' b:=fun {H'} hn b hb=>by
   obtain⟨f0,f1,f2',f3,f4,f5⟩:=hf3 b hb;refine⟨hn b hb,?_,fun z=>?_,.inl hb,fun x c e=>f4 x c (q1 x c e),fun p hp=>absurd (show p∈([]:List (Addr×Obj)) from hp) (by simp)⟩
   ·show b≠C
    rw[<-hC];exact BJ (flt3 b hb)
   ·have z:b∈fU X.stack:=z
    rcases BH.mp (I3.stkSub b z) with y | y
    ·exact f1 y
    ·exact f2' y
  refine fR (fun x=>hs1 _ x) (fun n s'=>∃ i σ' H',ao Y [] σ' H' s'/\tn i s'.heap/\(∀ b∈fp,H' b=none)/\W i n σ' H') ?_ m0 ⟨0,_,_,I4,st4,fun b hb=>(hf3 b hb).1,w0⟩;rintro n s6 ⟨i,σ6,H6,I6,st6,fr6,w6⟩;rcases turn i n σ6 H6 w6 with ⟨stop,qn⟩ | ⟨go,Nx,hN,step⟩
  ·refine aS (T.done Y rfl rfl rfl hc i [] s6 σ6 H6 _ I6 (stat fr6) st6 stop) fun r s7 ⟨hr,I7⟩=>?_
   subst hr;obtain⟨m,hn,_⟩:=id I7.loc;refine⟨m,hn,fun h' hsb=>?_⟩
   have neC:∀ b o,s3.heap.get? b=some o->b≠C:=fun b o e=>by rw[<-hC];exact BJ (BG e)
   have freeC:H6 C=none:=I7.free
   have un:Un (fU X.stack) fp (upd H2 s2.heap.objs.size (.lst [])) H6 s3.heap h' :=
    ⟨fun b o e n hb hx=>(hsb.2 b (neC b o e)).trans (I7.base.keep b o e n hb hx),fun b o e n hb hx=>by
      obtain⟨sl,q⟩:=I7.base.slot b o e n hb hx
      exact⟨sl,(hsb.2 b (neC b o e)).trans q⟩,I7.base.free,fun b o e hx=>by
      obtain⟨o',q⟩:=I7.base.there b o e hx
      exact⟨o',(hsb.2 b (neC b o e)).trans q⟩,I7.base.tups,I7.base.frzs,I7.base.tbls⟩
   have hok:fD X.prog X.w H6 h':=fun b ob e=>by
    refine (I7.hok b ob e).stay (fun c w' hc' q=>(hsb.2 c ?_).trans q) (fun _ q=>q) fun _ _ q=>q;rintro rfl;rcases hc' with z | z
    ·rw[<-z,freeC]at e;cases e
    ·rw[freeC]at z;cases z
   have J7:ao X pins σ H6 { s7 with heap:=h' }:=I3.call' (ch:=fp) (s':={ s7 with heap:=h' }) I7.os un hok I7.bare fun b hb=>⟨(hf3 b hb).2.2.2.1,(hf3 b hb).2.1,(hf3 b hb).2.2.2.2.1,(hf3 b hb).2.2.2.2.2⟩;exact⟨.ref s2.heap.objs.size,H6,J7,rfl,qn⟩
  ·refine aS (T.item Y rfl rfl rfl hc i [] s6 σ6 H6 _ I6 (stat fr6) st6 go) fun r s7 ⟨u,hr,h7⟩=>?_
   subst hr;refine aS h7 fun _ s8 ⟨x,H8,I8,r8,y8,st8,fr8⟩=>?_;have I8':=I8.pinned (stat fr8) (T.obj _ _ st8);refine aS (hg _ s8 σ6 H8 x u _ I8' r8 (step x H8 y8)) fun _ s9 ⟨σ9,H9,I9,q9⟩=>?_
   have again:∀ {s':Shared}{σ7:St}{H7:Hp},ao Y ([]++fZ fp s8.heap) σ7 H7 s'->Nx σ7 H7->∃ m,m<n/\∃ i σ' H',ao Y [] σ' H' s'/\tn i s'.heap/\(∀ b∈fp,H' b=none)/\W i m σ' H':=fun {s' σ7 H7} I7 n7=>by
    obtain⟨m',hm,w7⟩:=hN σ7 H7 n7;refine⟨m',hm,i+1,σ7,H7,I7.unpinned,T.keep _ _ _ st8 fun b hb o e=>(I7.pin (b,o) (BN _ (BN _ (bt hb e)))).1,fun b hb=>?_,w7⟩;obtain⟨o,e,d⟩:=T.obj _ _ st8 b hb;exact (I7.pin (b,o) (BN _ (BN _ (bt hb e)))).2.1
   refine aS (ht _ s9 σ9 H9 _ I9 q9) fun ok s10 ⟨H10,I10,q10⟩=>?_
   cases ok with
   | false =>
    rw[By BD]at q10 ⊢;exact again I10 q10
   | true =>
    rw[Bz rfl]at q10 ⊢;refine aS (hi1 _ s10 σ9 H10 _ I10 q10) fun x1 s11 h11=>aS h11 fun it1 s12 h12=>?_;obtain⟨ia,fp1,tn1,J1,H12,e1,I12,T1,st12,f12,hR1⟩:=h12;subst e1;have inner:=qx (Y:=Y) (t0:=tg) (i0:=iter) (c0:=ifs) (i1:=i1) (sc:=sc) (pos:=pos) hc rfl I12 T1 st12 f12 hR1 hg1 ht1 he;have inner':=CG inner (R':=fun r s₆=>r=.ok .next/\∃ m,m<n/\∃ i σ' H',ao Y [] σ' H' s₆/\tn i s₆.heap/\(∀ b∈fp,H' b=none)/\W i m σ' H') fun r s6 ⟨er,σ7,H7,I7,n7⟩=>⟨er,again I7 n7⟩;exact fS inner' (T1.self _ 0 _ _ _ st12 inner')
 exact codeAny_compStart_list (loop _ rfl) (T.self _ 0 _ _ _ st4 (loop _ rfl))
end L2
namespace Qs
open PySem PySem.W PyProof.Rows
structure uI (n:Nat)(lt:Nat->Nat->Bool):Prop where
 irr:∀ i,lt i i=false
 tot:∀ i j,i<n->j<n->i≠j->lt i j=true\/lt j i=true
 tr:∀ i j k,lt i j=true->lt j k=true->lt i k=true
def ask {α:Type}(lt:Nat->Nat->Bool):KasT α->α
 | .ret a=>a
 | .ask i j k=>ask lt (k (lt i j))
def ze {α:Type}(n:Nat)(lt:Nat->Nat->Bool):KasT α->Prop
 | .ret _=>True
 | .ask i j k=>i<n/\j<n/\ze n lt (k (lt i j))
theorem pk {α β:Type}{lt:Nat->Nat->Bool}{f:α->KasT β}:∀ t:KasT α,ask lt (t.bind f)=ask lt (f (ask lt t))
 | .ret _=>rfl
 | .ask i j k=>pk (k (lt i j))
theorem pY {α β:Type}{n:Nat}{lt:Nat->Nat->Bool}{f:α->KasT β}:∀ t:KasT α,ze n lt t->ze n lt (f (ask lt t))->ze n lt (t.bind f)
 | .ret _,_,h=>h
 | .ask i j k,⟨h1,h2,h3⟩,h=>⟨h1,h2,pY (k (lt i j)) h3 h⟩
def qj {α:Type}(n:Nat)(lt:Nat->Nat->Bool)(t:KasT α)(R:α->Prop):Prop:=ze n lt t/\R (ask lt t)
theorem f8 {α β:Type}{n:Nat}{lt:Nat->Nat->Bool}{t:KasT α}{f:α->KasT β}{R:β->Prop}(h:qj n lt t fun a=>qj n lt (f a) R):qj n lt (t.bind f) R :=
 ⟨pY t h.1 h.2.1,by rw[pk];exact h.2.2⟩
theorem dD {α:Type}{n:Nat}{lt:Nat->Nat->Bool}{t:KasT α}{R R':α->Prop}(h:qj n lt t R)(hr:∀ a,R a->R' a):qj n lt t R':=⟨h.1,hr _ h.2⟩
theorem cD {α:Type}{n:Nat}{lt:Nat->Nat->Bool}{a:α}{R:α->Prop}(h:R a):qj n lt (.ret a) R:=⟨trivial,h⟩
theorem iN {α:Type}{n:Nat}{lt:Nat->Nat->Bool}{i j:Nat}{k:Bool->KasT α}{R:α->Prop}(hi:i<n)(hj:j<n)(h:∀ b,lt i j=b->qj n lt (k b) R):qj n lt (.ask i j k) R:=by
 have:=h _ rfl;exact⟨⟨hi,hj,this.1⟩,this.2⟩
section
variable {n:Nat}{lt:Nat->Nat->Bool}{p:Array Nat}
def Pm (n:Nat)(p:Array Nat):Prop:=p.Perm (List.toArray (List.range n))
theorem Pm.sz (h:Pm n p):p.size=n:=by have:=h.size_eq;simpa using this
theorem Pm.below (h:Pm n p)(hn:0<n)(i:Nat):p.getD i 0<n:=by
 by_cases hi:i<p.size
 ·have e:p.getD i 0=p[i]:=by simp[Array.getD,hi]
  rw[e]
  have hm:p[i]∈p.toList:=by simp
  have:=(Array.perm_iff_toList_perm.mp h).mem_iff.mp hm;simpa using this
 ·have e:p.getD i 0=0:=by simp[Array.getD,hi]
  rw[e];exact hn
theorem Pm.ne (h:Pm n p){i j:Nat}(hi:i<n)(hj:j<n)(hij:i≠j):p.getD i 0≠p.getD j 0:=by
 have hs:=h.sz;have nd:p.toList.Nodup:=(Array.perm_iff_toList_perm.mp h).nodup_iff.mpr (by simpa using List.nodup_range)
 have e1:p.getD i 0=p.toList[i]'(by simp;omega):=by simp[Array.getD,show i<p.size by omega]
 have e2:p.getD j 0=p.toList[j]'(by simp;omega):=by simp[Array.getD,show j<p.size by omega]
 rw[e1,e2];intro e;exact hij ((List.getElem_inj nd).mp e)
def Up (lt:Nat->Nat->Bool)(p:Array Nat)(k:Nat):Prop:=∀ i j,i<j->j<k->lt (p.getD i 0) (p.getD j 0)=true
def Dn (lt:Nat->Nat->Bool)(p:Array Nat)(k:Nat):Prop:=∀ i j,i<j->j<k->lt (p.getD j 0) (p.getD i 0)=true
theorem oz (L:uI n lt)(P:Pm n p){i j:Nat}(hi:i<n)(hj:j<n)(hij:i≠j)(h:lt (p.getD i 0) (p.getD j 0)=false):lt (p.getD j 0) (p.getD i 0)=true:=by
 rcases L.tot _ _ (P.below (by omega) i) (P.below (by omega) j) (P.ne hi hj hij) with z | z
 ·rw[h]at z;cases z
 ·exact z
theorem xB (L:uI n lt){a:Nat}(h1:1<=a)(hs:Up lt p a)(h:lt (p.getD (a-1) 0) (p.getD a 0)=true):Up lt p (a+1):=by
 intro i j hij hj
 by_cases hja:j<a
 ·exact hs i j hij hja
 ·have e:j=a:=by omega
  subst e
  by_cases hi:i=j-1
  ·rw[hi];exact h
  ·exact L.tr _ _ _ (hs i (j-1) (by omega) (by omega)) h
theorem rT (L:uI n lt){a:Nat}(h1:1<=a)(hs:Dn lt p a)(h:lt (p.getD a 0) (p.getD (a-1) 0)=true):Dn lt p (a+1):=by
 intro i j hij hj
 by_cases hja:j<a
 ·exact hs i j hij hja
 ·have e:j=a:=by omega
  subst e
  by_cases hi:i=j-1
  ·rw[hi];exact h
  ·exact L.tr _ _ _ h (hs i (j-1) (by omega) (by omega))
theorem oX (L:uI n lt)(P:Pm n p):∀ (f a:Nat),1<=a->a+f<=n->Up lt p a->qj n lt (kas_asc p f a) fun m=>a<=m/\m<=a+f/\Up lt p m/\(m<a+f->lt (p.getD m 0) (p.getD (m-1) 0)=true)
 | 0,a,_,_,hs=>cD ⟨BB _,BB _,hs,fun h=>absurd h (by omega)⟩
 | f+1,a,h1,h2,hs=>by
  refine iN (P.below (by omega) _) (P.below (by omega) _) fun b hb=>?_
  cases b with
  | true=>exact cD ⟨BB _,by omega,hs,fun _=>hb⟩
  | false =>
   have hlt:=oz L P (show a<n by omega) (show a-1<n by omega) (by omega) hb;refine dD (oX L P f (a+1) (by omega) (by omega) (xB L h1 hs hlt)) fun m ⟨m1,m2,m3,m4⟩=>⟨by omega,by omega,m3,fun h=>m4 (by omega)⟩
theorem qa (L:uI n lt)(P:Pm n p):∀ (f a:Nat),1<=a->a+f<=n->Dn lt p a->qj n lt (kas_desc f p a 0) fun r=>r.1=p/\r.2.2=0/\a<=r.2.1/\r.2.1<=a+f/\Dn lt p r.2.1
 | 0,a,_,_,hs=>cD ⟨rfl,rfl,BB _,BB _,hs⟩
 | f+1,a,h1,h2,hs=>by
  refine iN (P.below (by omega) _) (P.below (by omega) _) fun b hb=>?_
  cases b with
  | true =>
   rw[Bz rfl,By (by omega)];exact dD (qa L P f (a+1) (by omega) (by omega) (rT L h1 hs hb)) fun r ⟨r1,r2,r3,r4,r5⟩=>⟨r1,r2,by omega,by omega,r5⟩
  | false =>
   rw[By BD];have hlt:=oz L P (show a<n by omega) (show a-1<n by omega) (by omega) hb;refine iN (P.below (by omega) _) (P.below (by omega) _) fun d hd=>?_;rw[hlt]at hd;subst hd;rw[Bz rfl];exact cD ⟨rfl,rfl,BB _,Nat.le_add_right _ _,hs⟩
theorem sG {a:Nat}(ha:a<=p.size)(k:Nat):(kas_rev p 0 a).getD k 0=if k<a then p.getD (a-1-k) 0 else p.getD k 0:=by
 have h:=getElem?_mirror_all (xs:=p) (i:=0) (j:=a) ha k
 have e:∀ (q:Array Nat)(i:Nat),q.getD i 0=(q[i]?).getD 0:=fun q i=>by
  simp[Array.getD];split<;>simp_all
 show (mirror p 0 a ((a-0)/2)).getD k 0=_
 rw[e,h]
 by_cases hk:k<a
 ·rw[Bz ⟨BY _,hk⟩,Bz hk,e]
  congr 2
  omega
 ·rw[By (by omega),By hk,e]
theorem Pm.rev (h:Pm n p)(i j:Nat):Pm n (kas_rev p i j):=(mirror_perm _ _ _ _).trans h
theorem uu (L:uI n lt)(P:Pm n p){a:Nat}(h1:1<=a)(h2:a<=n)(hd:Dn lt p a):qj n lt (kas_tail3 a n p) fun r=>Pm n r.2/\Up lt r.2 r.1/\1<=r.1/\r.1<=n:=by
 have P':=P.rev 0 a
 have hs:Up lt (kas_rev p 0 a) a:=fun i j hij hj=>by
  rw[sG (by rw[P.sz];exact h2),sG (by rw[P.sz];exact h2),Bz (by omega),Bz hj];exact hd _ _ (by omega) (by omega)
 refine f8 (dD (oX L P' (n-a) a h1 (by omega) hs) fun m ⟨m1,m2,m3,_⟩=>cD ⟨P',m3,by omega,by omega⟩)
theorem ur (L:uI n lt)(P:Pm n p)(hn:2<=n):qj n lt (kas_count n p) fun r=>Pm n r.2/\Up lt r.2 r.1/\1<=r.1/\r.1<=n:=by
 refine f8 (dD (oX L P (n-1) 1 (BB _) (by omega) fun i j hij hj=>by omega) fun m ⟨m1,m2,m3,m4⟩=>?_)
 by_cases hm:m=n
 ·rw[Bz (by simp[hm])]
  exact cD ⟨P,m3,m1,by omega⟩
 ·rw[By (by simp[hm])]
  by_cases h1:m>1
  ·rw[Bz h1]
   refine iN (P.below (by omega) _) (P.below (by omega) _) fun b hb=>?_;rw[m3 0 (m-1) (by omega) (by omega)]at hb;subst hb;rw[Bz rfl];exact cD ⟨P,m3,m1,by omega⟩
  ·rw[By h1]
   have e:m=1:=by omega
   subst e;have hlt:=m4 (by omega);have hd:Dn lt p (1+1):=rT L (BB _) (fun i j hij hj=>by omega) hlt;refine f8 (dD (qa L P (n-(1+1)) (1+1) (by omega) (by omega) hd) fun r ⟨r1,r2,r3,r4,r5⟩=>?_);rw[r2,By (by omega),r1];exact uu L P (by omega) (by omega) r5
theorem jy (L:uI n lt)(P:Pm n p){k:Nat}(hk:k<n)(hs:Up lt p k):∀ (f l r:Nat),l<=r->r<=k->r-l<=f->(∀ i,i<l->lt (p.getD i 0) (p.getD k 0)=true)->(∀ i,r<=i->i<k->lt (p.getD k 0) (p.getD i 0)=true) ->
  qj n lt (kas_place p k f l r) fun m=>m<=k/\(∀ i,i<m->lt (p.getD i 0) (p.getD k 0)=true)/\∀ i,m<=i->i<k->lt (p.getD k 0) (p.getD i 0)=true
 | 0,l,r,h1,h2,h3,hl,hr=>cD ⟨by omega,hl,fun i hi hk=>hr i (by omega) hk⟩
 | f+1,l,r,h1,h2,h3,hl,hr=>by
  show qj n lt (if l>=r then .ret l else _) _
  by_cases h:l>=r
  ·rw[Bz h]
   exact cD ⟨by omega,hl,fun i hi hk=>hr i (by omega) hk⟩
  ·rw[By h]
   refine iN (P.below (by omega) _) (P.below (by omega) _) fun b hb=>?_
   cases b with
   | true =>
    rw[Bz rfl];refine jy L P hk hs f l ((l+r)/2) (by omega) (by omega) (by omega) hl fun i hi hik=>?_
    by_cases he:i=(l+r)/2
    ·rw[he];exact hb
    ·exact L.tr _ _ _ hb (hs _ _ (by omega) hik)
   | false =>
    rw[By BD];have hlt:=oz L P hk (show (l+r)/2<n by omega) (by omega) hb;refine jy L P hk hs f ((l+r)/2+1) r (by omega) h2 (by omega) (fun i hi=>?_) hr
    by_cases he:i=(l+r)/2
    ·rw[he];exact hlt
    ·exact L.tr _ _ _ (hs _ _ (by omega) (by omega)) hlt
theorem wE {k l:Nat}(hk:k<p.size)(hl:l<=k)(i:Nat):(bubble p k (k-l)).getD i 0=if i=l then p.getD k 0 else if l<i/\i<=k then p.getD (i-1) 0 else p.getD i 0:=by
 have h:=getElem?_bubble (xs:=p) hk (k-l) (by omega) i
 have e:∀ (q:Array Nat)(i:Nat),q.getD i 0=(q[i]?).getD 0:=fun q i=>by
  simp[Array.getD];split<;>simp_all
 rw[e,h,show k-(k-l)=l by omega]
 by_cases h1:i=l
 ·rw[Bz h1,Bz h1,e]
 ·rw[By h1,By h1]
  by_cases h2:l<i/\i<=k
  ·rw[Bz h2,Bz h2,e]
  ·rw[By h2,By h2,e]
theorem sH (L:uI n lt):∀ (f:Nat)(p:Array Nat)(k:Nat),Pm n p->k+f=n->Up lt p k->qj n lt (kas_bin f p k) fun q=>Pm n q/\Up lt q n
 | 0,p,k,P,h,hs=>cD ⟨P,by rw[show n=k by omega];exact hs⟩
 | f+1,p,k,P,h,hs=>by
  have hk:k<n:=by omega
  refine f8 (dD (jy L P hk hs k 0 k (BY _) (BB _) (by omega) (fun i hi=>by omega) (fun i hi hik=>by omega)) fun l ⟨l1,l2,l3⟩=>?_);have g:=fun i=>wE (p:=p) (k:=k) (l:=l) (by rw[P.sz];exact hk) l1 i;refine sH L f _ (k+1) ((bubble_perm _ _ _).trans P) (by omega) fun i j hij hj=>?_;rw[g,g]
  by_cases hi1:i=l
  ·rw[Bz hi1,By (by omega),Bz ⟨by omega,by omega⟩]
   exact l3 _ (by omega) (by omega)
  ·rw[By hi1]
   by_cases hi2:l<i/\i<=k
   ·rw[Bz hi2,By (by omega),Bz ⟨by omega,by omega⟩]
    exact hs _ _ (by omega) (by omega)
   ·rw[By hi2]
    by_cases hj1:j=l
    ·rw[Bz hj1]
     exact l2 _ (by omega)
    ·rw[By hj1]
     by_cases hj2:l<j/\j<=k
     ·rw[Bz hj2]
      exact hs _ _ (by omega) (by omega)
     ·rw[By hj2]
      exact hs _ _ hij (by omega)
theorem v0 (L:uI n lt)(hn:2<=n):qj n lt (kas_sort n) fun q=>Pm n q/\Up lt q n:=by
 refine f8 (dD (ur L (p:=List.toArray (List.range n)) (Array.Perm.refl _) hn) fun r ⟨r1,r2,r3,r4⟩=>?_)
 by_cases h:r.1<n
 ·rw[Bz h]
  exact sH L _ _ _ r1 (by omega) (by rw[Nat.max_eq_left r3];exact r2)
 ·rw[By h]
  exact cD ⟨r1,by rw[show n=r.1 by omega];exact r2⟩
end
theorem va {α:Type}{n:Nat}{lt:Nat->Nat->Bool}{cmp:Nat->Nat->(Bool->Shared->Prop)->Shared->Prop}{Q:α->Shared->Prop}{I:Shared->Prop}
  (hc:∀ i j,i<n->j<n->∀ (C:Bool->Shared->Prop) s,I s->(∀ s',I s'->C (lt i j) s')->cmp i j C s):∀ (t:KasT α)(s:Shared),ze n lt t->I s->(∀ s',I s'->Q (ask lt t) s')->t.kasWp cmp Q s
 | .ret a,s,_,hI,hq=>hq s hI
 | .ask i j k,s,⟨h1,h2,h3⟩,hI,hq=>hc i j h1 h2 _ s hI fun s' hs'=>va hc (k (lt i j)) s' h3 hs' hq
def ltP (p q:Int×Int):Bool:=decide (p.1<q.1\/(p.1=q.1/\p.2<q.2))
theorem ltP_irr (p:Int×Int):ltP p p=false:=by unfold ltP;simp
theorem ltP_tr {p q r:Int×Int}(h1:ltP p q=true)(h2:ltP q r=true):ltP p r=true:=by
 unfold ltP at *;have h1:=Cd h1;have h2:=Cd h2;exact BI (by omega)
theorem w5 {p q:Int×Int}(h:p≠q):ltP p q=true\/ltP q p=true:=by
 unfold ltP
 by_cases h1:p.1<q.1
 ·exact .inl (BI (.inl h1))
 ·by_cases h2:q.1<p.1
  ·exact .inr (BI (.inl h2))
  ·have e:p.1=q.1:=by omega
   have n:p.2≠q.2:=fun z=>h (Prod.ext e z)
   by_cases h3:p.2<q.2
   ·exact .inl (BI (.inr ⟨e,h3⟩))
   ·exact .inr (BI (.inr ⟨e.symm,by omega⟩))
def yy (ps:List (Int×Int))(i j:Nat):Bool:=ltP (ps.getD i (0,0)) (ps.getD j (0,0))
theorem yx {ps:List (Int×Int)}(nd:ps.Nodup):uI ps.length (yy ps) where
 irr:=fun i=>ltP_irr _
 tot:=fun i j hi hj hij=>w5 fun e=>hij (by
  have e1:ps.getD i (0,0)=ps[i]:=by simp[hi]
  have e2:ps.getD j (0,0)=ps[j]:=by simp[hj]
  rw[e1,e2]at e
  exact (List.getElem_inj nd).mp e)
 tr:=fun i j k=>ltP_tr
def PairAt (h:Heap)(v:Value)(p:Int×Int):Prop:=∃ (b:Addr)(o:Obj)(n:Nat)(t u:Tok),v=.ref b/\h.get? b=some o/\o.cls=.type "tuple"/\o.data=.seq #[.int p.1 t,.int p.2 u] n
section
variable {prog:Program}{w:World}{A:Around}{E:Value->Shared->Prop}{s:Shared}
theorem w8 {x y:Value}{p q:Int×Int}{Q:Bool->Shared->Prop}(hx:PairAt s.heap x p)(hy:PairAt s.heap y q)(h:Q (ltP p q) s):wpAny (model prog w) A (keyLt' (tuples' true) x y) Q E s:=by
 obtain⟨b,o,n,t,u,rfl,ho,hc,hd⟩:=hx;obtain⟨b',o',n',t',u',rfl,ho',hc',hd'⟩:=hy;refine kat_lt ho hd ho' hd' ?_
 show KatLex prog w A true (decide (2<2)) Q [(.int p.1 t,.int q.1 t'),(.int p.2 u,.int q.2 u')] 0 s
 refine kat_cons (wpAny_eqBool_int ?_)
 by_cases h1:p.1=q.1
 ·rw[show (p.1 == q.1)=true by simpa using h1]
  refine kat_yes (kat_cons (wpAny_eqBool_int ?_))
  by_cases h2:p.2=q.2
  ·rw[show (p.2 == q.2)=true by simpa using h2]
   refine kat_yes (kat_nil ?_)
   have e:ltP p q=decide (2<2):=by rw[show p=q from Prod.ext h1 h2,ltP_irr];rfl
   rw[<-e];exact h
  ·rw[show (p.2 == q.2)=false by simpa using h2]
   refine kat_no ?_
   show wpAny (model prog w) A (oneLt' false (.int p.2 u) (.int q.2 u')) Q _ s
   refine kat_one _ _ (wpAny_lt_int ?_)
   show Q (decide (p.2<q.2)) s
   have e:ltP p q=decide (p.2<q.2):=by unfold ltP;simp[h1]
   rw[<-e];exact h
 ·rw[show (p.1 == q.1)=false by simpa using h1]
  refine kat_no ?_
  show wpAny (model prog w) A (oneLt' true (.int p.1 t) (.int q.1 t')) Q _ s
  refine oneLt_int ?_
  have e:ltP p q=decide (p.1<q.1):=by unfold ltP;simp[h1]
  rw[<-e];exact h
theorem sU {h:Heap}:∀ {vs:List Value}{ps:List (Int×Int)},Paired (PairAt h) vs ps->∃ fs:List Value,KatTups h vs fs/\fs.length=vs.length/\∀ v∈fs,∃ i t,v=Value.int i t
 | [],[],.nil=>⟨[],KatTups.nil,rfl,fun v h=>by cases h⟩
 | v::vs,p::ps,.cons hv r=>by
  obtain⟨fs,k,hl,hi⟩:=sU r;obtain⟨b,o,n,t,u,rfl,ho,hc,hd⟩:=hv;refine⟨.int p.1 t::fs,KatTups.cons ho hc hd rfl k,by simp[hl],fun v hv=>?_⟩;rcases BH.mp hv with z | z
  ·exact⟨_,_,z⟩
  ·exact hi v z
theorem qI {vs:List Value}{ps:List (Int×Int)}{Q:SortKind->Shared->Prop}(hp:Paired (PairAt s.heap) vs ps)(h2:0<vs.length)(h:Q (tuples' true) s):wpAny (model prog w) A (keyKind' vs.toArray) Q E s:=by
 obtain⟨fs,k,hl,hi⟩:=sU hp;refine kat_kind (T:=.type "int") k (by omega) (fun v hv=>?_) (by decide) h;obtain⟨i,t,rfl⟩:=hi v hv;exact .now
theorem fX {α β:Type}{F:α->β->Prop}{d:α}{e:β}:∀ {l:List α}{m:List β},Paired F l m->∀ i,i<l.length->F (l.getD i d) (m.getD i e)
 | _::_,_::_,.cons h _,0,_=>h
 | _::l,_::m,.cons _ r,i+1,hi=>fX r i (by simpa using hi)
def qr (vs:List Value)(ps:List (Int×Int))(out:List Value):Prop:=∃ ix:List Nat,ix.Perm (List.range vs.length)/\out=ix.map (fun i=>vs.getD i Value.none)/\(ix.map fun i=>ps.getD i (0,0)).Pairwise (fun a b=>ltP a b=true)
theorem ut {vs:List Value}{ps:List (Int×Int)}{Q:SortSt->Shared->Prop}(hp:Paired (PairAt s.heap) vs ps)(nd:ps.Nodup)(h2:2<=vs.length)(h64:vs.length<64)
  (h:∀ st':SortSt,failedOf st'=none->(∃ out:List Value,(arrOf st').map (·.2)=out.toArray/\qr vs ps out)->Q st' s) :
  wpAny (model prog w) A ((sortRuns').run (SortSt.mk' (tuples' true) (vs.toArray.zip vs.toArray) #[] 7 none)) (fun r s'=>Q r.2 s') E s:=by
 have hl:vs.length=ps.length:=BM hp;have L:=yx nd;rw[<-hl]at L;obtain⟨ok,P,hs⟩:=v0 L h2;refine kat_run (G:=fun p s'=>p=ask (yy ps) (kas_sort vs.length)/\s'=s) rfl h2 h64 (fun p st' s' hsz har hf hg=>?_) ?_
 ·obtain⟨e1,e2⟩:=hg
  subst e2;rw[<-e1]at P hs;refine h st' hf ⟨_,kat_snds rfl har,p.toList,?_,rfl,?_⟩
  ·have:=Array.perm_iff_toList_perm.mp P
   simpa using this
  ·rw[List.pairwise_map,List.pairwise_iff_getElem]
   intro i j hi hj hij
   have hj':j<p.size:=by simpa using hj
   have hi':i<p.size:=by simpa using hi
   have:=hs i j hij (by rw[<-hsz];exact hj')
   have e3:p.getD i 0=p.toList[i]:=by simp[Array.getD,hi']
   have e4:p.getD j 0=p.toList[j]:=by simp[Array.getD,hj']
   rw[e3,e4]at this;exact this
 ·refine va (I:=fun s'=>s'=s) (lt:=yy ps) (n:=vs.length) (fun i j hi hj C s' hs' hC=>?_) _ s ok rfl fun s' hs'=>⟨rfl,hs'⟩
  subst hs'
  show wpAny (model prog w) A (keyLt' (tuples' true) (vs.getD i Value.none) (vs.getD j Value.none)) C _ s'
  exact w8 (fX hp i hi) (fX hp j hj) (hC _ rfl)
end
section
variable {prog:Program}{w:World}{A:Around}{E:Value->Shared->Prop}{s:Shared}
theorem sort_pairs {a:Addr}{vs:List Value}{ps:List (Int×Int)}{n:Nat}{P:Fin->Shared->Prop}(ho:s.heap.get? a=some (seqObj "list" vs.toArray n))(hp:Paired (PairAt s.heap) vs ps)(nd:ps.Nodup)(h64:vs.length<64)
  (h:∀ out:List Value,qr vs ps out->P (.done (.ret .none)) { s with heap:=sortedHeap s.heap a vs out.toArray }):wpAny (model prog w) A (Builtin.«list.sort» ⟨[.ref a],[]⟩) P E s:=by
 have ha:a<s.heap.objs.size:=BG ho;have hl:vs.length=ps.length:=BM hp;obtain⟨e1,ho1⟩:∃ e1,(s.heap.update a (Obj.mapSeq fun _=>#[])).get? a=some (seqObj "list" #[] e1):=⟨_,get?_update_seq ho (fun _=>#[])⟩
 have ho6:(((s.heap.update a (Obj.mapSeq fun _=>#[])).push (seqObj "tuple" vs.toArray 0)).push (seqObj "list" #[] 0)).get? a=some (seqObj "list" #[] e1):=by
  rw[Heap.get?_push_ne _ _ _ (by rw[size_push',Heap.size_update];exact BJ (CN ha)),Heap.get?_push_ne _ _ _ (by rw[Heap.size_update];exact BJ ha)];exact ho1
 have sz:vs.toArray.size<=sizeLine:=by rw[BK,Cv];omega
 rw[list_sort_plain];refine Bw (listItems_at ho rfl (Bw (listUpdate_at ho rfl ?_ sz (BY _))));refine Bw (seqEpoch_at ho1 rfl (Bw (wpAny_newTuple ?_ (by show vs.length<=_;rw[Cv];omega))));refine Bw (wpAny_newList (Cf ?_) (BY _))
 show wpAny (model prog w) A _ P E { s with heap:=((s.heap.update a (Obj.mapSeq fun _=>#[])).push (seqObj "tuple" vs.toArray 0)).push (seqObj "list" #[] 0) }
 dsimp only
 by_cases h2:vs.toArray.size<2
 ·rw[Bz h2,Bz h2]
  refine Bw (BA ?_);rw[StateT.run_pure];refine Bw (BA ?_);dsimp only
  have e:((vs.toArray.zip vs.toArray).map (·.2))=vs.toArray:=by
   apply Array.ext';simp[List.map_snd_zip]
  refine Bw (seqEpoch_at ho6 rfl (Bw (listUpdate_at ho6 rfl ?_ (BY _) ?_)))
  ·simp only[bne_self_eq_false,Bool.false_eq_true,if_false]
   refine BA ?_
   show P _ { s with heap:=(((s.heap.update a _).push _).push _).update a (Obj.mapSeq fun _=>(vs.toArray.zip vs.toArray).map (·.2)) }
   rw[e];refine h vs ⟨List.range vs.length,List.Perm.refl _,?_,?_⟩
   ·apply List.ext_getElem?
    intro i;rw[List.getElem?_map]
    by_cases hi:i<vs.length
    ·rw[List.getElem?_range hi];simp[hi]
    ·rw[List.getElem?_eq_none (by omega),List.getElem?_eq_none (by simp;omega)];rfl
   ·have hv:vs.length<2:=by simpa using h2
    rw[List.pairwise_map,List.pairwise_iff_getElem];intro i j hi hj hij;rw[List.length_range]at hi hj;omega
  ·show ((vs.toArray.zip vs.toArray).map (·.2)).size<=_
   rw[e];omega
 ·rw[By h2,By h2]
  have h2':2<=vs.length:=by rw[BK]at h2;omega
  have hp':Paired (PairAt (((s.heap.update a (Obj.mapSeq fun _=>#[])).push (seqObj "tuple" vs.toArray 0)).push (seqObj "list" #[] 0))) vs ps:=L2.Paired.mapP hp fun v q ⟨b,o,m,t,u,ev,hb,hc,hd⟩=>by
   refine⟨b,o,m,t,u,ev,?_,hc,hd⟩
   have nb:b≠a:=fun z=>by
    rw[z,ho]at hb;cases hb;exact absurd hc (by show ¬ (Value.type "list" = .type "tuple");decide)
   have hlt:=BG hb;rw[Heap.get?_push_ne _ _ _ (by rw[size_push',Heap.size_update];exact BJ (CN hlt)),Heap.get?_push_ne _ _ _ (by rw[Heap.size_update];exact BJ hlt),Heap.get?_update_ne _ _ _ _ nb];exact hb
  refine Bw (qI (s:={ s with heap:=((s.heap.update a (Obj.mapSeq fun _=>#[])).push (seqObj "tuple" vs.toArray 0)).push (seqObj "list" #[] 0) }) hp' (by omega) ?_);refine Bw (ut (Q:=fun st' s'=>failedOf st'=none/\(∃ out:List Value,(arrOf st').map (·.2)=out.toArray/\qr vs ps out)/\s'={ s with heap:=((s.heap.update a (Obj.mapSeq fun _=>#[])).push (seqObj "tuple" vs.toArray 0)).push (seqObj "list" #[] 0) }) hp' nd h2' h64 (fun st' hf ho=>⟨hf,ho,rfl⟩) |> fun q=>BS q (fun r s' hr=>?_) fun _ _ x=>x);obtain⟨⟨⟩,st'⟩:=r;obtain⟨hf,⟨out,hout,so⟩,rfl⟩:=hr;dsimp only at hf hout ⊢
  have hol:out.length=vs.length:=by
   obtain⟨ix,hx,rfl,_⟩:=so;rw[Bx,hx.length_eq,List.length_range]
  rw[hout];refine Bw (seqEpoch_at ho6 rfl (Bw (listUpdate_at ho6 rfl ?_ (BY _) (by show out.toArray.size<=_;rw[BK,hol,Cv];omega))));rw[hf];simp only[bne_self_eq_false,Bool.false_eq_true,if_false];exact BA (h out so)
end
def RawAt (h:Heap)(d:Addr)(es:Array DictEntry)(ep:Nat):Prop:=∃ o,h.get? d=some o/\o.ExactDict/\o.data=.dict es ep
section
variable {prog:Program}{w:World}{A:Around}{E:Value->Shared->Prop}{s:Shared}{d it:Addr}{es:Array DictEntry}{ep i:Nat}
theorem RawAt.typeIs (h:RawAt s.heap d es ep):s.TypeIs (.ref d) "dict":=let ⟨o,ho,hc,_⟩:=h;⟨o,ho,hc.1⟩
theorem RawAt.lt {h:Heap}(x:RawAt h d es ep):d<h.objs.size:=let ⟨_,ho,_⟩:=x;BG ho
theorem RawAt.at {h h':Heap}(x:RawAt h d es ep)(e:∀ o,h.get? d=some o->h'.get? d=some o):RawAt h' d es ep:=let ⟨o,ho,r⟩:=x;⟨o,e _ ho,r⟩
theorem vU {Q:Value->Shared->Prop}(lo:(d == sysModules)=false)(hm:RawAt s.heap d es ep)
  (hQ:Q (.ref s.heap.objs.size) { s with heap:=s.heap.push { cls:=.type "dict_keyiterator",data:=.fields #[.ref d,.int 0 0,.int es.size 0,.int ep 0] } }):wpAny (model prog w) A (pyIter (.ref d)) Q E s:=by
 have hT:=hm.typeIs;obtain⟨o,ho,hc,hdat⟩:=hm;refine wpAny_pyIter_slot hT F.slot_dict_iter (C2 F.slot_dict_iter hT F.entry_dict_iter ?go (F.args_dict_iter_1 _))
 case go =>
  unfold Builtin.«dict.__iter__»;refine Bw ?_;unfold Builtin.Dict.dictSlotNone;refine Bw (wpAny_notOrdered_dict hT (?_:wpAny (model prog w) A.in1 (pure (Value.ref d)) _ _ s));refine BA ?_
  show wpAny _ _ (Builtin.Dict.showsAll d >>= _) _ _ s;unfold Builtin.Dict.showsAll;rw[By (by rw[lo];simp)]
  refine Bw (BA (Bw (wpAny_dictEntries ho hdat (Bw (wpAny_dictEpoch ho hdat ?_)))));refine Bw (Ca (BA ⟨_,rfl,"dict_keyiterator",_,⟨_,Heap.get?_push_size _ rfl,rfl⟩,Cy.lookup,?_⟩));simpa [rawInt] using hQ
theorem vT {Q:Option Value->Shared->Prop}{e:DictEntry}(hit:s.heap.IsKeyIter it d i es.size ep)(hm:RawAt s.heap d es ep)(hx:es[i]? = some e)
  (hQ:∀ h',h'.IsKeyIter it d (i+1) es.size ep->Heap.SameBut it s.heap h'->Q (some e.key) { s with heap:=h' }):wpAny (model prog w) A (pyNext (.ref it)) Q E s:=by
 obtain⟨o,ho,hc,hd⟩:=id hit;obtain⟨od,hod,hcd,hdd⟩:=id hm
 have hlt:i<es.size:=by
  by_cases h:i<es.size
  ·exact h
  ·rw[Array.getElem?_eq_none (by omega)]at hx;cases hx
 have he:es[i]=e:=by rw[Array.getElem?_eq_getElem hlt]at hx;exact BF hx
 unfold pyNext;refine Bw (wpAny_attempt (wpAny_callSpecial?_slot (name:=Str.ofString "__next__") hit.typeIs Cy (C2 Cy hit.typeIs F.entry_dict_keyiterator_next ?go (F.args_dict_keyiterator_next_1 _))))
 case go =>
  refine Bw (BA (Bw (Bw ?_)))
  first | refine Bw (Cr hit.typeIs (BA (Bw (wpAny_fieldsOf ho hd ?_)))) | refine Bw (CI hit.typeIs (BA (Bw (wpAny_fieldsOf ho hd ?_))))
  simp only[show Builtin.Dict_items.ownsTuple "dict_keyiterator" = false by decide,Bool.false_eq_true,if_false]
  show wpAny _ _ (if (Value.ref d == Value.none)=true then _ else _) _ _ s;rw[By (show ¬ ((Value.ref d == Value.none)=true) from BD)]
  refine Bw (BA (Bw (wpAny_dictEntries hod hdd ?_)));rw[By (by simp)];refine Bw (BA (Bw (wpAny_dictEpoch hod hdd ?_)));rw[By (by simp)];refine BA ?_;simp only[show ¬ ((i:Int)<0) from by omega,if_false,Int.toNat_natCast,Array.getElem?_eq_getElem hlt];refine Bw ?_
  first | refine Bw (Cr hit.typeIs (BA (Bw (wpAny_isOneOf_keyiter hit.typeIs ?_)))) | refine Bw (CI hit.typeIs (BA (Bw (wpAny_isOneOf_keyiter hit.typeIs ?_)))) | (first | refine Bw (Cr hit.typeIs (BA ?_)) | refine Bw (CI hit.typeIs (BA ?_));refine Bw (wpAny_isOneOf_keyiter hit.typeIs ?_))
  show wpAny _ _ (setField (.ref it) 1 (rawInt ((i:Int)+1)) >>= _) _ _ s;refine Bw (De ho hd (by simp) ?_)
  have hit':(s.heap.update it (Obj.mapFields (·.setIfInBounds 1 (rawInt ((i:Int)+1))))).IsKeyIter it d (i+1) es.size ep:=⟨_,Heap.get?_update_self _ ho (Obj.isFreed_of_fields (C7 hd _)),(Obj.cls_mapFields ..).trans hc,by rw[C7 hd];simp[rawInt]⟩;refine Bw (Cf (Bw (wpAny_isOneOf_keyiter (s:={ s with heap:=s.heap.update it (Obj.mapFields (·.setIfInBounds 1 (rawInt ((i:Int)+1)))) }) hit'.typeIs ?_)))
  show wpAny _ _ (pure es[i].key) _ _ _;rw[he];exact BA (BA ⟨_,rfl,BA (hQ _ hit' (Heap.SameBut.update ..))⟩)
theorem xw {Q:Option Value->Shared->Prop}(hh:A.handled=none)(hit:s.heap.IsKeyIter it d i es.size ep)(hm:RawAt s.heap d es ep)(hx:es.size<=i)
  (hQ:∀ h',Heap.ExtBut it s.heap h'->Q none { s with heap:=h' }):wpAny (model prog w) A (pyNext (.ref it)) Q E s:=by
 obtain⟨o,ho,hc,hd⟩:=id hit;obtain⟨od,hod,hcd,hdd⟩:=id hm;unfold pyNext;refine Bw (wpAny_attempt (wpAny_callSpecial?_slot (name:=Str.ofString "__next__") hit.typeIs Cy (C2 Cy hit.typeIs F.entry_dict_keyiterator_next ?go (F.args_dict_keyiterator_next_1 _))))
 case go =>
  refine Bw (BA (Bw (Bw ?_)))
  first | refine Bw (Cr hit.typeIs (BA (Bw (wpAny_fieldsOf ho hd ?_)))) | refine Bw (CI hit.typeIs (BA (Bw (wpAny_fieldsOf ho hd ?_))))
  simp only[show Builtin.Dict_items.ownsTuple "dict_keyiterator" = false by decide,Bool.false_eq_true,if_false]
  show wpAny _ _ (if (Value.ref d == Value.none)=true then _ else _) _ _ s;rw[By (show ¬ ((Value.ref d == Value.none)=true) from BD)]
  refine Bw (BA (Bw (wpAny_dictEntries hod hdd ?_)));rw[By (by simp)];refine Bw (BA (Bw (wpAny_dictEpoch hod hdd ?_)));rw[By (by simp)];refine BA ?_;simp only[show ¬ ((i:Int)<0) from by omega,if_false,Int.toNat_natCast,Array.getElem?_eq_none hx];refine Bw ?_
  first | refine Bw (Cr hit.typeIs (BA ?_)) | refine Bw (CI hit.typeIs (BA ?_))
  show wpAny _ _ (setField (.ref it) 0 .none >>= _) _ _ s;refine Bw (De ho hd (by simp) ?_)
  show wpAny _ _ (newExc (.type "StopIteration") [] >>= _) _ _ _;refine Bw ?_;simp only[newExc,newTuple]
  refine Bw (Ca ?_ (by size_fits));refine Bw (m:=firstArgMember _ _) (wpAny_of_eq (a:=Value.none) (by first | rfl | (simp only[firstArgMember];rfl)) ?_);refine Ca ?_ (by size_fits);simp only[raiseNew];refine Bw (wpAny_handled ?_);rw[show A.in1.handled=none from hh];refine Bw (BA (wpAny_throw ?_));refine Bw (wpAny_isInstance (T:="StopIteration") (b:=true) ⟨_,Heap.get?_push_size _ rfl,rfl⟩ isSubtype_stop ?_);exact BA (hQ _ (((Heap.SameBut.update ..).extBut.push _).push _))
end
theorem uq {prog:Program}{w:World}{A:Around}(hh:A.handled=none)(I d:Addr)(hne:d≠I)(es:Array DictEntry)(ep:Nat) :
  Walks prog w A I [I,d] [I] es.size (fun i v=>∃ e,es[i]? = some e/\v=e.key) (fun i h=>h.IsKeyIter I d i es.size ep/\RawAt h d es ep) where
 sub:=fun b hb=>by simp at hb;simp[hb]
 frame:=fun _ _ _ st hk=>⟨st.1.at fun o e=>hk I (by simp) o e,st.2.at fun o e=>hk d (by simp) o e⟩
 item:=fun i s Q E hi st hQ=>vT st.1 st.2 (Array.getElem?_eq_getElem hi) fun h' hit' hs'=>hQ _ h' s.toks ⟨_,Array.getElem?_eq_getElem hi,rfl⟩ ⟨hit',st.2.at fun o e=>hs'.extBut d o hne e⟩ fun b o hb e=>hs'.extBut b o (fun h=>hb (by simp[h])) e
 done:=fun s Q E st hQ=>xw hh st.1 st.2 (BB _) fun h' he'=>hQ h' s.toks fun b o hb e=>he' b o (fun h=>hb (by simp[h])) e
 self:=fun _ _ _ _ st hQ=>wpAny_pyIter_keyiter st.1 hQ
theorem raw_src {prog:Program}{w:World}{d:Addr}{es:Array DictEntry}{ep:Nat}(lo:(d == sysModules)=false):KdlSrc prog w "dict" d d es.size (fun i v=>∃ e,es[i]? = some e/\v=e.key) (fun h=>RawAt h d es ep) where
 type:=fun _ hm=>hm.typeIs
 there:=fun _ hm=>⟨hm.lt,hm.lt⟩
 keep:=fun _ _ hm hk=>hm.at fun o e=>hk d (.inl rfl) o e
 notList:=by decide
 notTuple:=by decide
 hint:=fun _ _ _ _ hm hq=>kdl_hint_dict hm.typeIs hq
 iter:=fun _ _ hh hm=>⟨_,_,(fun _ _ hq=>vU lo hm hq),uq hh _ d (BJ hm.lt) es ep,⟨⟨_,Heap.get?_push_size _ rfl,rfl,rfl⟩,hm.at fun o e=>Heap.get?_push_of_some _ e⟩⟩
end Qs
namespace Wz
open PySem PySem.Spec PyProof.Rows L2
theorem fY {α β γ:Type}{F:β->γ->Prop}{f:α->β}{g:α->γ}:∀ (l:List α),(∀ x∈l,F (f x) (g x))->Paired F (l.map f) (l.map g)
 | [],_=>.nil
 | x::l,h=>.cons (h x BE) (fY l fun y hy=>h y (BC _ hy))
theorem hG {α:Type}(d:α)(l:List α):(List.range l.length).map (fun i=>l.getD i d)=l:=by
 apply List.ext_getElem?
 intro i;rw[List.getElem?_map]
 by_cases hi:i<l.length
 ·rw[List.getElem?_range hi];simp[hi]
 ·rw[List.getElem?_eq_none (by simp;omega),List.getElem?_eq_none (by omega)];rfl
theorem n8 {X:Cx}(hc:X.calm=true):fq X (.builtin "sorted") (fun xs H Q=>∃ (p:Addr)(ml:List (Int×Int)),xs=[.ref p]/\H p=some (.dT (nh ml))/\ml.Nodup/\ml.length<64 /\
  ∀ (l:Addr)(qs:List (Int×Int))(H':Hp),H l=none->aH H H'->jP H' l qs->qs.Perm ml->qs.Pairwise (fun a b=>Qs.ltP a b=true)->Q (.ref l) H'):=by
 intro pins s σ H xs us Q I r h;obtain⟨p,ml,rfl,hH,nd,h64,q⟩:=h;obtain⟨u,rfl,rx⟩:=dM r;cases rx;obtain⟨hz,lo,ks,rel,o,es,ep,ho,hex,hd,hes,hnd⟩:=(show aM X.prog X.w H s.heap p (.dT (nh ml)) from I.hok p _ hH);have raw:Qs.RawAt s.heap p es ep:=⟨o,ho,hex,hd⟩
 have l1:ks.length=ml.length:=by
  have:=BM rel;unfold nh at this;rw[Bx]at this;exact this.symm
 have l2:es.size=ml.length:=by
  have:=CV List.length hes;rw[Bx,B1]at this;omega
 have tup:∀ i,i<ml.length->H ((ks.map fun x=>x.2.1).getD i 0)=some (.tup [.int (ml.getD i (0,0)).1,.int (ml.getD i (0,0)).2]):=fun i hi=>by
  have hk:ks[i]? = some (ks[i]'(by omega)):=by simp[show i<ks.length by omega]
  have hm:(nh ml)[i]? = some ([Sum.inl (ml[i]).1,Sum.inl (ml[i]).2],V.bl true):=by unfold nh;rw[List.getElem?_map];simp[hi]
  obtain⟨b,hb,e1,e2,e3⟩:=bM rel hm;rw[hk]at hb;cases hb
  have e4:(ks.map fun x=>x.2.1).getD i 0=(ks[i]'(by omega)).2.1:=by simp[show i<ks.length by omega]
  have e5:ml.getD i (0,0)=ml[i]:=by simp[hi]
  rw[e4,e5,e2];rfl
 refine PySem.Calls.call_function_entry kind_sorted plain_sorted entry_sorted (args_sorted1 _) ?_;unfold Builtin.«sorted»;refine Bw (m:=checkCount "sorted" 1 1 _) (BA (Bw (PySem.W.kdu_collect (A:=X.A.in1) (Qs.raw_src lo) (I.ok.hd hc) raw (by rw[l2,Cv];omega) fun h' tk acc kp hacc=>?_)));have I1:ao X pins σ H { s with heap:=h',toks:=tk }:=I.kept kp
 have al:acc.toList.length=ml.length:=by rw[B1,hacc.1,l2]
 have ea:acc.toList=(ks.map fun x=>x.2.1).map Value.ref:=by
  apply List.ext_getElem?
  intro i
  by_cases hi:i<ml.length
  ·have hv:acc.toList[i]? = some (acc.toList[i]'(by omega)):=by simp[show i<acc.size by rw[hacc.1,l2];exact hi]
   obtain⟨e,he,hk⟩:=hacc.2 i _ (by rw[<-Array.getElem?_toList];exact hv);rw[hv,hk,List.getElem?_map,List.getElem?_map]
   have:es.toList[i]? = some e:=by rw[Array.getElem?_toList];exact he
   rw[hes,List.getElem?_map]at this
   cases ek:ks[i]? with
   | none=>rw[ek]at this;cases this
   | some x =>
    rw[ek]at this;have e2:=BF this;rw[<-e2];rfl
  ·rw[List.getElem?_eq_none (by omega),List.getElem?_eq_none (by simp;omega)]
 have pa:Paired (Qs.PairAt h') acc.toList ml:=by
  rw[ea,<-hG (0,0) ml,<-hG 0 (ks.map fun x=>x.2.1),Bx,l1,B0];refine fY _ fun i hi=>?_
  have hi:i<ml.length:=by simpa using hi
  obtain⟨_,its,rv,ob,hob,hcl,n,hdt⟩:=(show aM X.prog X.w H h' _ (.tup _) from I1.hok _ _ (tup i hi))
  cases rv with
  | cons r1 r2 =>
   cases r2 with
   | cons r3 r4 =>
    cases r4;obtain⟨t,rfl⟩:=r1;obtain⟨t',rfl⟩:=r3;exact⟨_,ob,n,t,t',rfl,hob,hcl,hdt⟩
 refine Bw (wpAny_newList ?_ (by rw[al,Cv];omega));have hoL:(h'.push (seqObj "list" acc.toList.toArray 0)).get? h'.objs.size=some (seqObj "list" acc.toList.toArray 0):=Heap.get?_push_size _ rfl;have hJ:Paired (Qs.PairAt (h'.push (seqObj "list" acc.toList.toArray 0))) acc.toList ml:=Paired.mapP pa fun v x ⟨b,ob,n,t,t',e,hb,hc',hd'⟩=>⟨b,ob,n,t,t',e,Heap.get?_push_of_some _ hb,hc',hd'⟩;refine Bw (Cf (C2 slot_list_sort ⟨_,hoL,rfl⟩ entry_list_sort (Qs.sort_pairs hoL hJ nd (by rw[al];exact h64) fun out so=>⟨_,rfl,?_⟩) (args_list_sort _)));refine BA ⟨_,rfl,?_⟩;obtain⟨ix,hx,hout,hso⟩:=so;rw[al]at hx
 have hin:∀ i∈ix,i<ml.length:=fun i hi=>by have:=hx.mem_iff.mp hi;simpa using this
 have eo:out=(ix.map fun i=>(ks.map fun x=>x.2.1).getD i 0).map Value.ref:=by
  rw[hout,B0];refine Cc fun i hi=>?_;have:=hin i hi;rw[ea]
  show ((ks.map fun x=>x.2.1).map Value.ref).getD i Value.none=Value.ref ((ks.map fun x=>x.2.1).getD i 0)
  simp[show i<ks.length by omega]
 obtain⟨e,he⟩:=sortedHeap_at (vs:=acc.toList) (out:=out.toArray) hoL
 have hl2:out.length=ml.length:=by rw[eo,Bx,Bx,hx.length_eq,List.length_range]
 have vr:∀ l:List Addr,aL (l.map V.ref) (l.map Value.ref):=fun l=>by
  induction l with
  | nil=>exact .nil
  | cons a l ih=>exact .cons rfl ih
 have fr:=I1.hok.fresh (BB h'.objs.size);refine⟨.ref h'.objs.size,_,I1.laid (t':=tk) (a:=h'.objs.size) (o:=.lst ((ix.map fun i=>(ks.map fun x=>x.2.1).getD i 0).map V.ref)) (fun b ob eb=>?_) (BB _) ⟨?_,out,e,?_,by simpa using he⟩,rfl,?_⟩
 ·rw[sortedHeap_old (BJ (BG eb)) (by rw[size_push'];exact CN (BG eb))]
  exact Heap.get?_push_of_some _ eb
 ·rw[Bx,Bx,hx.length_eq,List.length_range,Cv];omega
 ·rw[eo];exact vr _
 ·refine q h'.objs.size (ix.map fun i=>ml.getD i (0,0)) _ fr (am fr) ⟨_,ae,?_⟩ ?_ hso
  ·refine fY ix fun i hi=>(am fr) _ _ (tup i (hin i hi))
  ·have:=hx.map fun i=>ml.getD i (0,0)
   rwa [hG]at this
end Wz
namespace L2
open PySem PySem.Spec PyProof.Rows
theorem ao.thaw {X:Cx}{pins:List (Addr×Obj)}{σ:St}{H:Hp}{s:Shared}{d:Addr}{o:Obj}{u:HO}(I:ao X pins σ H s)(hd:H d=some (.frz o u))(h0:∀ o' u',X.H₀ d≠some (.frz o' u')):ao X pins σ (upd H d u) s:=by
 have up:∀ b,upd H d u b=none->H b=none:=fun b e=>by
  by_cases hb:b=d
  ·rw[hb,ae]at e;cases e
  ·rw[ac hb]at e;exact e
 have dn:∀ b,H b=none->upd H d u b=none:=fun b e=>by rw[ac (fun z=>by rw[z,hd]at e;cases e)];exact e
 have ne:∀ b v,H b=some v->(∀ o' u',v≠.frz o' u')->b≠d:=fun b v e n z=>by rw[z,hd]at e;exact n _ _ (BF e).symm
 refine⟨I.ok,I.os,I.bare,⟨I.base.keep,I.base.slot,fun b ob e n hx=>dn _ (I.base.free b ob e n hx),I.base.there,fun b xs e=>?_,fun b ob v e=>?_,fun b ps e=>?_⟩,I.loc,I.cell,dn _ I.free,fun x c e=>dn _ (I.freeC x c e),fun p hp=>?_,fun b ob e=>?_,I.len⟩
 ·have e1:=I.base.tups b xs e
  rw[ac (ne b _ e1 (fun _ _ z=>by cases z))];exact e1
 ·have nb:b≠d:=fun z=>h0 ob v (by rw[<-z];exact e)
  rw[ac nb];exact I.base.frzs b ob v e
 ·obtain⟨more,e1⟩:=I.base.tbls b ps e
  exact⟨more,by rw[ac (ne b _ e1 (fun _ _ z=>by cases z))];exact e1⟩
 ·obtain⟨a1,a2,a3⟩:=I.pin p hp
  exact⟨a1,dn _ a2,a3⟩
 ·have tr:∀ v,aM X.prog X.w H s.heap b v->aM X.prog X.w (upd H d u) s.heap b v:=fun v x=>x.stay (fun c w' hc q=>q) (fun c q=>(by rw[ac (ne c _ q (fun _ _ z=>by cases z))];exact q)) (fun c y q=>(by rw[ac (ne c _ q (fun _ _ z=>by cases z))];exact q))
  by_cases hb:b=d
  ·rw[hb,ae]at e
   cases e;obtain⟨_,x⟩:=(show aM X.prog X.w H s.heap d (.frz o u) from I.hok d _ hd);rw[hb];rw[hb]at tr;exact tr u x
  ·rw[ac hb]at e
   exact tr ob (I.hok b ob e)
def z9 (H0:Hp)(nx:St->Hp->Prop):St->Hp->Prop:=fun σ H=>∃ d o u,H d=some (.frz o u)/\(∀ o' u',H0 d≠some (.frz o' u'))/\nx σ (upd H d u)
theorem xu {X:Cx}{st:Stmt}{t:TS}(h:PS X st t):PS X st (fun D σ H=>t { D with nx:=z9 X.H₀ D.nx } σ H):=by
 intro pins s σ H D I ht;refine aS (h pins s σ H _ I ht) fun f s' hq=>?_
 cases f with
 | next=>obtain⟨σ',H',I',d,o,u,hd,h0,q⟩:=hq;exact⟨σ',_,I'.thaw hd h0,q⟩
 | brk=>exact hq
 | cont=>exact hq
 | ret v=>exact hq
end L2
namespace Wz
open PySem L2
structure tf (L:List Int)(st:bw):Prop where
 kn:(st.circ.map (·.1)).Nodup
 kl:∀ x∈st.circ,x.1∈L/\x.2.Nodup/\∀ b∈x.2,b∈L
theorem At {L:List Int}:tf L ⟨[],[],[],[]⟩:=⟨Dd,fun x h=>by cases h⟩
theorem wD {L ks:List Int}{b:Int}(h:ks.Nodup/\∀ x∈ks,x∈L)(hb:b∈L):(gC ks b).Nodup/\∀ x∈gC ks b,x∈L:=by
 unfold gC;split
 ·exact h
 ·rename_i n
  refine⟨kj h.1 n,fun x hx=>?_⟩;rcases B7.mp hx with z | z
  ·exact h.2 x z
  ·rw[BW.mp z];exact hb
theorem nN {L:List Int}{a b:Int}(ha:a∈L)(hb:b∈L):∀ {ci:List (Int×List Int)},(ci.map (·.1)).Nodup->(∀ x∈ci,x.1∈L/\x.2.Nodup/\∀ y∈x.2,y∈L) ->
  ((bg ci a b).map (·.1)).Nodup/\(∀ x∈bg ci a b,x.1∈L/\x.2.Nodup/\∀ y∈x.2,y∈L)/\∀ k,k∈(bg ci a b).map (·.1)->k∈ci.map (·.1)\/k=a
 | [],_,_=>by
  refine⟨by simp[bg],fun x hx=>?_,fun k hk=>?_⟩
  ·simp[bg]at hx
   subst hx;exact⟨ha,by simp,fun y hy=>by simp at hy;rw[hy];exact hb⟩
  ·simp[bg]at hk
   exact .inr hk
 | x::r,hn,hl=>by
  rw[BO,B8]at hn;unfold bg
  by_cases h:x.1=a
  ·rw[Bz h]
   refine⟨by rw[BO,B8];exact hn,fun y hy=>?_,fun k hk=>.inl (by simpa using hk)⟩;rcases BH.mp hy with z | z
   ·subst z
    obtain⟨h1,h2,h3⟩:=hl x BE;exact⟨h1,wD ⟨h2,h3⟩ hb⟩
   ·exact hl y (BC _ z)
  ·rw[By h]
   obtain⟨i1,i2,i3⟩:=nN ha hb (ci:=r) hn.2 (fun y hy=>hl y (BC _ hy));refine⟨?_,fun y hy=>?_,fun k hk=>?_⟩
   ·rw[BO,B8]
    refine⟨fun z=>?_,i1⟩;rcases i3 _ z with z | z
    ·exact hn.1 z
    ·exact h z
   ·rcases BH.mp hy with z | z
    ·subst z;exact hl _ BE
    ·exact i2 y z
   ·rw[BO]at hk
    rcases BH.mp hk with z | z
    ·exact .inl (by rw[z];simp)
    ·rcases i3 k z with z | z
     ·exact .inl (BC _ z)
     ·exact .inr z
theorem uL {L:List Int}{st:bw}{d:aF}(h:tf L st)(hn:∀ g∈names d,g∈L):tf L (aO st d):=by
 unfold aO;split
 ·cases d with
  | come g=>exact⟨h.kn,h.kl⟩
  | go g=>exact⟨h.kn,h.kl⟩
  | exch a b =>
   have ha:=hn a (by simp[names]);have hb:=hn b (by simp[names]);obtain⟨j1,j2,_⟩:=nN ha hb h.kn h.kl;obtain⟨k1,k2,_⟩:=nN hb ha j1 j2;exact⟨k1,k2⟩
 ·exact h
theorem nY {L:List Int}{a:Int}:∀ {ci:List (Int×List Int)},(∀ x∈ci,x.1∈L/\x.2.Nodup/\∀ y∈x.2,y∈L)->(eV ci a).Nodup/\(∀ y∈eV ci a,y∈L)/\∀ y,y∈eV ci a->a∈ci.map (·.1)
 | [],_=>⟨Dd,(fun y h=>by cases h),fun y h=>by cases h⟩
 | x::r,hl=>by
  unfold eV
  by_cases h:x.1=a
  ·rw[Bz h]
   obtain⟨_,h2,h3⟩:=hl x BE;exact⟨h2,h3,fun y _=>by rw[<-h];simp⟩
  ·rw[By h]
   obtain⟨i1,i2,i3⟩:=nY (ci:=r) (a:=a) fun y hy=>hl y (BC _ hy);exact⟨i1,i2,fun y hy=>BC _ (i3 y hy)⟩
theorem tf.cl {L:List Int}{st:bw}(h:tf L st)(a:Int):(eV st.circ a).length<=L.length:=by obtain⟨h1,h2,_⟩:=nY (a:=a) h.kl;exact eK h1 h2
theorem tf.kk {L:List Int}{st:bw}(h:tf L st):st.circ.length<=L.length:=by
 have:=eK h.kn (m:=L) fun x hx=>by obtain⟨y,hy,e⟩:=BZ.mp hx;rw[<-e];exact (h.kl y hy).1
 rwa [Bx]at this
def bZ (ci:List (Int×List Int))(a:Int):List (Int×Int):=((bi (eV ci a)).filter fun b=>decide (a<b)).map fun b=>(a,b)
def cC (ci:List (Int×List Int)):List (Int×Int):=(bi (ci.map (·.1))).flatMap (bZ ci)
structure nJ (ml:List (Int×Int)):Prop where
 nd:ml.Nodup
 lo:∀ p∈ml,p.1<p.2
theorem Bj:nJ []:=⟨Dd,fun p h=>by cases h⟩
theorem w9 {st:bw}{ml:List (Int×Int)}(h:nJ ml)(d:aF):nJ (fB st ml d):=by
 unfold fB;split
 ·rename_i hj
  cases d with
  | come g=>exact h
  | go g=>exact h
  | exch a b =>
   have hab:a≠b:=fun e=>by
    subst e
    cases e:look st.worn a with
    | none=>simp[aN,e]at hj
    | some m=>simp[aN,e]at hj
   show nJ (kE ml (de a b))
   unfold kE;split
   ·exact h
   ·rename_i n
    refine⟨?_,fun p hp=>?_⟩
    ·rw[List.nodup_append]
     exact⟨h.nd,by simp,fun x hx y hy e=>n (by rw[BW.mp hy]at e;rw[<-e];exact hx)⟩
    ·rcases B7.mp hp with z | z
     ·exact h.lo p z
     ·rw[BW.mp z]
      unfold de;split
      ·assumption
      ·show a<b
       omega
 ·exact h
theorem iD {L:List Int}{st:bw}(h:tf L st):(cC st.circ).Pairwise fun a b=>Qs.ltP a b=true:=by
 have ss:∀ l:List Int,l.Nodup->(bi l).Pairwise (· < ·):=fun l nd=>by
  have h1:=rq l;have h2:(bi l).Nodup:=(rA l).nodup_iff.mpr nd
  exact (h1.and h2).imp fun {a b} ⟨x,y⟩=>by have:a≠b:=y;omega
 unfold cC;rw[List.pairwise_flatMap];refine⟨fun a ha=>?_,(ss _ h.kn).imp fun {a b} hab x hx y hy=>?_⟩
 ·unfold bZ
  rw[List.pairwise_map];refine ((ss _ (nY h.kl).1).filter _).imp fun {x y} hxy=>?_;unfold Qs.ltP;exact BI (.inr ⟨rfl,hxy⟩)
 ·unfold bZ at hx hy
  obtain⟨x',_,rfl⟩:=BZ.mp hx;obtain⟨y',_,rfl⟩:=BZ.mp hy;unfold Qs.ltP;exact BI (.inl hab)
theorem nj {L:List Int}{st:bw}{ml:List (Int×Int)}(h:tf L st)(al:jF st ml)(ok:nJ ml)(p:Int×Int):p∈cC st.circ↔p∈ml:=by
 obtain⟨a,b⟩:=p
 have hm:b∈eV st.circ a↔de a b∈ml:=by
  have:=al a b;unfold fE kW at this;constructor
  ·intro z;rw[BI z]at this;exact Cd this.symm
  ·intro z;rw[BI z]at this;exact Cd this
 unfold cC;rw[List.mem_flatMap];constructor
 ·rintro⟨a',ha',hb⟩
  unfold bZ at hb;obtain⟨b',hb',e⟩:=BZ.mp hb;cases e;obtain⟨h1,h2⟩:=List.mem_filter.mp hb';have h2:=Cd h2;have:=hm.mp (jm.mp h1);unfold de at this;rw[By (by omega)]at this;exact this
 ·intro hp
  have hlt:=ok.lo _ hp;have hb:b∈eV st.circ a:=hm.mpr (by unfold de;rw[By (by show ¬ b<a;have:a<b:=hlt;omega)];exact hp);refine⟨a,jm.mpr ((nY h.kl).2.2 b hb),?_⟩;unfold bZ;exact BZ.mpr ⟨b,List.mem_filter.mpr ⟨jm.mpr hb,BI hlt⟩,rfl⟩
theorem vw {L:List Int}{st:bw}{ml qs:List (Int×Int)}(h:tf L st)(al:jF st ml)(ok:nJ ml)(hp:qs.Perm ml)(hs:qs.Pairwise fun a b=>Qs.ltP a b=true):cC st.circ=qs:=by
 have p1:=iD h
 have irr:∀ a b:Int×Int,Qs.ltP a b=true->a≠b:=fun a b z e=>by rw[e,Qs.ltP_irr]at z;cases z
 have nd1:(cC st.circ).Nodup:=p1.imp fun {a b} z=>irr a b z;have nd2:qs.Nodup:=hp.nodup_iff.mpr ok.nd
 have pm:(cC st.circ).Perm qs:=(List.perm_ext_iff_of_nodup nd1 nd2).mpr fun x=>by rw[nj h al ok,hp.mem_iff]
 exact pm.eq_of_pairwise (fun a b _ _ z1 z2=>by have:=Qs.ltP_tr z1 z2;rw[Qs.ltP_irr]at this;cases this) p1 hs
inductive fc (C:Addr) (vs:List V) (H:Hp) (Q:VK) (E_:XK):Prop
 | mk (p:Addr) (A:HA) (st:bw) (g:Int) (h_0:vs=[.ref p,.int g]) (h_1:au C H p A st) (h_2:(eV st.circ g).length<64) (h_3:∀ (l:Addr)(H':Hp),H l=none->aH H H'->H' l=some (.lst ((bi (eV st.circ g)).map V.int))->Q (.ref l) H'):fc C vs H Q E_
inductive iT (C:Addr) (vs:List V) (H:Hp) (Q:VK) (E_:XK):Prop
 | mk (p:Addr) (A:HA) (st:bw) (L:List Int) (h_0:vs=[.ref p]) (h_1:au C H p A st) (h_2:tf L st) (h_3:L.length<64) (h_4:(cC st.circ).length<=1000) (h_5:∀ (l:Addr)(H':Hp),H l=none->aH H H'->jP H' l (cC st.circ)->Q (.ref l) H'):iT C vs H Q E_
end Wz
namespace L2
open PySem PySem.Spec PyProof.Rows
inductive zR (neg:Bool) (x:V) (y:V) (H:Hp) (Q:VK):Prop
 | mk (a b:Bool) (h_0:x=.bl a) (h_1:y=.bl b) (h_2:Q (.bl (if neg then !decide (a=b) else decide (a=b))) H):zR neg x y H Q
theorem uj {X:Cx}:ja X (compareOp .IsNot) (zR true):=by
 intro pins s σ H x y v u Q I rx ry h;obtain⟨a,b,rfl,rfl,q⟩:=h;cases rx;cases ry;refine wpAny_isNot_plain rfl ⟨.bl _,H,I,?_,q⟩;cases a<;>cases b<;>rfl
theorem vK {X:Cx}{tg:Expr}(K:PySem.W.Frag){l:Expr}{tl:TE}(hl:PE X l tl)(hK:X.K=K:=by rfl):PI X tg l (xN K tl):=by subst hK;exact dQ hl
theorem we {wi1:TI}{g1:TG}{tt1:TT}{te:TE}{a:Addr}{D:eB}{σ:St}{H:Hp}(h:wi1 σ H fun J1 H2=>jO J1 g1 (wy tt1 te a) { nx:=D.nx,rt:=fun _ _=>False } σ H2):y1 rD wi1 g1 tt1 te a D σ H:=by
 unfold y1 rD;dsimp only;rw[Bz rfl];exact h
end L2
namespace Wz
open PySem L2
inductive iW (c:HX) (vs:List V) (H:Hp) (Q:VK) (E_:XK):Prop
 | mk (p w m ls:Addr) (A:HA) (st:bw) (ml:List (Int×Int)) (L:List Int) (h_0:vs=[.ref p,.ref w,.ref m,.ref ls]) (h_1:au c.C H p A st) (h_2:w∉A.fp) (h_3:H w=some (.dK (dk st.worn))) (h_4:H m=some (.dT (nh ml))) (h_5:bI H ls st.deeds) (h_6:eE st) (h_7:jF st ml) (h_8:tf L st) (h_9:nJ ml) (h_10:L.length<64) (h_11:ml.length<64) (h_12:st.worn.length<64) (h_13:(∀ g∈aA st.worn,bp g)) (h_14:∀ H',aH H H'->Q (.bl true) H'):iW c vs H Q E_
def l0:aF->Bool
 | .exch _ _=>true
 | _=>false
inductive iP (K:PySem.W.Frag) (vs:List V) (H:Hp) (Q:VK) (E_:XK):Prop
 | mk (a:Addr) (ns:List Int) (h_0:vs=[.ref a]) (h_1:bd K H a (ns.map V.int)) (h_2:∀ (l:Addr)(H':Hp)(ds:List aF),H l=none->aH H H'->bI H' l ds->(∀ d∈ds,∀ g∈names d,g∈a6 40 (eW ns 1))->ds.length<=88->(ds.filter l0).length<=48->Q (.ref l) H'):iP K vs H Q E_
theorem qM (st:bw)(ml:List (Int×Int))(d:aF):(fB st ml d).length<=ml.length+(if l0 d then 1 else 0):=by
 unfold fB;split
 ·cases d with
  | come g=>exact BB _
  | go g=>exact BB _
  | exch a b=>show (kE ml _).length<=_;unfold kE;split<;>simp[l0]
 ·omega
end Wz
namespace L2
open PySem PySem.Spec PyProof.Rows
theorem zr (xs:List V):gE xs (some 1) none=xs.drop 1:=by
 unfold gE;rw[show HT.sIx xs.length 0 (some 1)=min 1 xs.length from HT.sIx_nat _ _ 1,HT.sIx_none]
 by_cases h:xs=[]
 ·subst h;rfl
 ·have:0<xs.length:=List.length_pos_iff.mpr h
  rw[show min 1 xs.length=1 by omega,List.take_of_length_le (by rw[List.length_drop];omega)]
theorem tu {X:Cx}:fq X (.builtin "isinstance") (fun xs H Q=>∃ x C t b,xs=[x,.ref C]/\iq X.K H x t/\PySem.W.kitOne X.K t (.ref C)=some b/\Q (.bl b) H):=by
 intro pins s σ H xs us Q I r h;obtain⟨x,C,t,b,rfl,ty,e,q⟩:=h
 cases r with
 | cons rx r2 =>
  cases r2 with
  | cons rt r3 =>
   cases r3;cases rt;exact tQ I rx ty e fun tk=>⟨.bl b,H,I.tok tk,rfl,q⟩
end L2
namespace Wz
open PySem L2
theorem wG (xs:List V):gE xs none (some (-1))=xs.dropLast:=by
 unfold gE;rw[HT.sIx_none,List.drop_zero,Nat.sub_zero,List.dropLast_eq_take]
 congr 1
 unfold HT.sIx;dsimp only;rw[Bz (by decide)];omega
end Wz
namespace L2
open PySem
theorem bC.m {j k:Nat}{A:Around}(r:bC k A)(h:j<=k:=by decide):bC j A:=r.mono h
theorem fG {X:Cx}{e:Expr}{t:TE}(h:PE X e t)(hs:starEach [e] X.env=(false,eval e X.env)::starEach [] X.env:=by rfl):PA X [e] (gT t ke):=aj h az hs
theorem hJ {X:Cx}{e e2:Expr}{t t2:TE}(h:PE X e t)(h2:PE X e2 t2)(hs:starEach [e,e2] X.env=(false,eval e X.env)::starEach [e2] X.env:=by rfl)(hs2:starEach [e2] X.env=(false,eval e2 X.env)::starEach [] X.env:=by rfl):PA X [e,e2] (gT t (gT t2 ke)):=aj h (aj h2 az hs2) hs
theorem Ag {X:Cx}{e e2 e3:Expr}{t t2 t3:TE}(h:PE X e t)(h2:PE X e2 t2)(h3:PE X e3 t3)(hs:starEach [e,e2,e3] X.env=(false,eval e X.env)::starEach [e2,e3] X.env:=by rfl)(hs2:starEach [e2,e3] X.env=(false,eval e2 X.env)::starEach [e3] X.env:=by rfl)(hs3:starEach [e3] X.env=(false,eval e3 X.env)::starEach [] X.env:=by rfl):PA X [e,e2,e3] (gT t (gT t2 (gT t3 ke))):=aj h (aj h2 (aj h3 az hs3) hs2) hs
theorem br {X:Cx}{pos:Pos}(i:Nat){x:Str}{e:Expr}{te:TE}{pos':Pos}(hN:X.N.Nodup)(he:PE X e te)(hi:X.N[i]? = some x:=by rfl)(hx:xJ X.env.scope x:=by first | exact Or.inl rfl | exact Or.inr rfl)(hs:swapsWith e (some (.Name x pos')) pos.line X.env=pure false:=by rfl)(hf:X.fn x=true\/X.env.scope.names.lookup x=some .local:=by first | exact .inl rfl | exact .inr rfl | assumption) :
  PS X (.Assign [.Name x pos'] e pos) (zW te (mV i)):=bU hN hi hx he hs hf
theorem rg {X:Cx}{pos:Pos}(i:Nat){x:Str}(hN:X.N.Nodup)(hi:X.N[i]? = some x:=by rfl)(hx:xJ X.env.scope x:=by first | exact Or.inl rfl | exact Or.inr rfl)(hf:X.fn x=true\/X.env.scope.names.lookup x=some .local:=by first | exact .inl rfl | exact .inr rfl | assumption):PG X (.Name x pos) (mV i):=iH hN hi hx hf
theorem yh {so sc:Scope}{N N':List Str}{src:List (Option Nat)}(a:sc.kind=.function:=by rfl)(b:∀ y∈sc.names,y.2≠.cell:=by decide +kernel)(c:∀ y∈sc.names,y.2=.local->sc.names.lookup y.1=some .local:=by decide +kernel)(d:∀ y∈sc.names,y.2=.free->so.names.lookup y.1=some .cell\/so.names.lookup y.1=some .free:=by decide +kernel)(e:N'.Nodup:=by decide +kernel)(f:src.length=N'.length:=by rfl)
  (g:∀ p∈N'.zip src,(match p.2 with | none=>true | some j=>decide (N[j]? = some p.1/\sc.names.lookup p.1=some .free))=true:=by decide +kernel):mF so sc N N' src:=⟨a,b,c,d,e,f,g⟩
theorem fF {N P:List Str}{sc:Scope}(a:sc.kind=.function:=by rfl)(b:sc.isCoroutine=false:=by rfl)(c:sc.isGenerator=false:=by rfl)(d:N.Nodup:=by decide +kernel)(e:N.take P.length=P:=by rfl)(f:∀ x∈P,sc.names.lookup x=some .local\/sc.names.lookup x=some .cell:=by decide +kernel)(g:∀ y∈sc.names,y.2≠.free:=by decide +kernel):av N P sc:=⟨a,b,c,d,e,f,g⟩
end L2
namespace Wz
open PySem L2
def bf (K:PySem.W.Frag)(x:Str)(st:Stmt):Prop:=∃ (f:Addr)(fd:FuncData),PySem.W.nsIn K mainGlobals x=some (some (.ref f))/\dj K x x st f fd
theorem fact_mk {K:PySem.W.Frag}{x:Str}{st:Stmt}{f:Addr}{oc:Value}{od an:Option Addr}{osl:Array (Option Value)}{kV doc pm cdv ct:Value}(a:PySem.W.nsIn K mainGlobals x=some (some (.ref f)))(l:K.lookup f=some ⟨oc,od,.func (PySem.W.fnOf x x (db st) (cx st) (ak st) .none kV doc pm an cdv ct),osl⟩)
  (c:PySem.W.codeIn K cdv x=true) (k:PySem.W.keepIn K (.ref f)=true):bf K x st:=⟨f,_,a,u3 l c k⟩
def bH (K:PySem.W.Frag)(C:Addr)(m q:Str)(st:Stmt):Prop:=∃ (f:Addr)(fd:FuncData),PySem.W.findIn K (.ref C) m=some (some (.ref f))/\PySem.W.isFn K (.ref f)=true/\dj K m q st f fd
theorem mfact_mk {K:PySem.W.Frag}{C:Addr}{m q:Str}{st:Stmt}{f:Addr}{oc:Value}{od an:Option Addr}{osl:Array (Option Value)}{kV doc pm cdv ct:Value}(a:PySem.W.findIn K (.ref C) m=some (some (.ref f)))(i:PySem.W.isFn K (.ref f)=true)(l:K.lookup f=some ⟨oc,od,.func (PySem.W.fnOf m q (db st) (cx st) (ak st) .none kV doc pm an cdv ct),osl⟩)
  (c:PySem.W.codeIn K cdv q=true) (k:PySem.W.keepIn K (.ref f)=true):bH K C m q st:=⟨f,_,a,i,u3 l c k⟩
section
variable {P:Program}{w:World}{K:PySem.W.Frag}{h base:Heap}{mg:Str->Option Value}{x m q:Str}{st:Stmt}{k:Nat}{ps:List Str}{sp:Sp}{C:Addr}{CX:ql}
theorem zD {n:Nat}{P:List Value->Prop}(h:∀ (a:Value)(vs:List Value),vs.length=n->P (a::vs)):∀ us:List Value,us.length=n+1->P us
 | a::vs,e=>h a vs (Nat.succ.inj e)
theorem zC {P:List Value->Prop}(h:P []):∀ us:List Value,us.length=0->P us
 | [],_=>h
theorem pJ (X:K.In h)(G:h.Ns mainGlobals mg)(F:bf K x st)(ok:∀ f fd,dj K x x st f fd->aV P w K mg base cf k f fd ps sp)
  (hb:∀ (kV doc pm:Value)(an:Option Addr)(cdv ct:Value)(us:List Value),us.length=ps.length->bindArgs (PySem.W.fnOf x x (db st) (cx st) (ak st) .none kV doc pm an cdv ct) ⟨us,[]⟩=pure (ps.zip us):=by intro _ _ _ _ _ _;(repeat refine zD fun _=>?_);exact zC rfl):aE P w K mg base x k ps sp:=by
 obtain⟨f,fd,a,g⟩:=F;exact⟨f,fd,ok f fd g,Cg X G a,g.kp,g.binds hb⟩
theorem A8 (X:K.In h)(G:h.Ns mainGlobals mg)(F:bf K x st)(ok:∀ f fd,dj K x x st f fd->aV P w K mg base (gn P w) k f fd ps sp)
  (hb:∀ (kV doc pm:Value)(an:Option Addr)(cdv ct:Value)(us:List Value),us.length=ps.length->bindArgs (PySem.W.fnOf x x (db st) (cx st) (ak st) .none kV doc pm an cdv ct) ⟨us,[]⟩=pure (ps.zip us):=by intro _ _ _ _ _ _;(repeat refine zD fun _=>?_);exact zC rfl):eU P w K mg base x k ps sp:=by
 obtain⟨f,fd,a,g⟩:=F;exact⟨f,fd,ok f fd g,Cg X G a,g.kp,g.binds hb⟩
theorem sh (F:bH K C m q st)(ok:∀ f fd,dj K m q st f fd->aV P w K mg base CX k f fd ps sp)
  (hb:∀ (kV doc pm:Value)(an:Option Addr)(cdv ct:Value)(us:List Value),us.length=ps.length->bindArgs (PySem.W.fnOf m q (db st) (cx st) (ak st) .none kV doc pm an cdv ct) ⟨us,[]⟩=pure (ps.zip us):=by intro _ _ _ _ _ _;(repeat refine zD fun _=>?_);exact zC rfl):ax P w K mg base CX C m k ps sp:=by
 obtain⟨f,fd,a,i,g⟩:=F;exact⟨f,fd,ok f fd g,⟨a,i,g.kp⟩,g.binds hb⟩
end
end Wz
namespace L2
open PySem PySem.Spec PyProof.Rows
theorem nc {i:Int}(h:i.natAbs<10 ^ 100):i.natAbs.log2<1920:=by
 by_cases h0:i.natAbs=0
 ·rw[h0];decide
 ·rw[Nat.log2_lt h0]
  exact Nat.lt_trans h (by decide +kernel)
theorem uK {X:Cx}:fq X (.type "str") (fun xs H Q=>(∃ s,xs=[.str s]/\Q (.str s) H)\/∃ i:Int,xs=[.int i]/\i.natAbs<10 ^ 100/\Q (.str (Str.ofString (toString i))) H):=by
 intro pins s σ H xs us Q I r h;rcases h with ⟨z,rfl,q⟩ | ⟨i,rfl,hi,q⟩
 ·obtain⟨u,rfl,rx⟩:=dM r
  obtain⟨t,rfl⟩:=rx;exact P.str_of_str ⟨.str z,H,I,⟨t,rfl⟩,q⟩
 ·obtain⟨u,rfl,rx⟩:=dM r
  obtain⟨t,rfl⟩:=rx;exact P.str_of_int (nc hi) ⟨.str _,H,I.tok _,⟨_,rfl⟩,q⟩
theorem nA:∀ {ts:List Str}{its:List Value},aL (ts.map V.str) its->∃ l:List (Str×Tok),its=strValues l/\l.map (·.1)=ts
 | [],its,r=>by
  have:=r.length;refine⟨[],?_,rfl⟩;exact List.eq_nil_of_length_eq_zero this.symm
 | t::ts,its,r=>by
  cases r with
  | cons rx rt =>
   obtain⟨l,e1,e2⟩:=nA rt;obtain⟨k,rfl⟩:=rx;exact⟨(t,k)::l,by rw[e1];rfl,by rw[BO,e2]⟩
def xT (K:PySem.W.Frag):V->List V->Hp->VK->Prop:=fun x vs H Q=>∃ sep l ts,x=.str sep/\vs=[.ref l]/\bd K H l (ts.map V.str)/\JoinOk sep ts=true/\Q (.str (Txt.join sep ts)) H
theorem xc {X:Cx}(K:PySem.W.Frag)(hK:X.K=K:=by rfl):An X "str.join" (xT K):=by
 subst hK;intro pins s σ H x xs v us Q I rx rv h;obtain⟨sep,l,ts,rfl,rfl,hq,ok,q⟩:=h;obtain⟨t,rfl⟩:=rx;obtain⟨u,rfl,ru⟩:=dM rv;cases ru;obtain⟨its,rl,pl,hz⟩:=I.list hq;obtain⟨ls,rfl,e⟩:=nA rl;exact SC.join pl.isList e ok fun t' k=>⟨.str _,H,I.tok _,⟨_,rfl⟩,q⟩
theorem sx {X:Cx}(K:PySem.W.Frag){o e:Expr}{to te:TE}{apos cpos:Pos}(ho:PE X o to)(he:PE X e te)(hK:X.K=K:=by rfl)(hbase:attributeBase o "join" X.env (eval o X.env)=eval o X.env:=by rfl)
  (hfew:((backTo cpos (starEach [e] X.env)).all (fun x=>!x.1)&&(backToKw cpos (keywordEach [] X.env)).all (fun x=>x.1.isSome)&&decide ([e].length+([]:List Keyword).length+(if ([]:List Keyword).isEmpty then 0 else 1)<30))=true:=by rfl)
  (hline:(apos.endLine == cpos.line)=true:=by rfl) (hs:starEach [e] X.env=(false,eval e X.env)::starEach [] X.env:=by rfl) (hplain:(backTo cpos (starEach [] X.env)).any (·.1)=false:=by rfl) :
  PE X (.Call (.Attribute o "join" apos) [e] [] cpos) (AN K "str" (xT K) to (gT te ke)):=by
 subst hK;exact iE PySem.F.plainAttrs_str PySem.F.slot_str_join PySem.F.type_str_join (xc X.K) ho (aj he az hs) hbase hfew hline hs hplain
theorem xr {X:Cx}{tg:Expr}(K:PySem.W.Frag){l:Expr}{tl:TE}(hl:PE X l tl)(hK:X.K=K:=by rfl):PI X tg l (zA K tl):=by subst hK;exact vL hl
theorem Au {so sc:Scope}{N N':List Str}{src:List (Option Nat)}(a:sc.kind=.function:=by rfl)(b:∀ y∈sc.names,y.2≠.cell:=by decide +kernel)(c:∀ y∈sc.names,y.2=.local->sc.names.lookup y.1=some .local:=by decide +kernel)(d:∀ y∈sc.names,y.2≠.free:=by decide +kernel)(e:N'.Nodup:=by decide +kernel)(f:src.length=N'.length:=by rfl)
  (g:∀ p∈N'.zip src,(match p.2 with | none=>true | some j=>decide (N[j]? = some p.1/\sc.names.lookup p.1=some .free))=true:=by decide +kernel):mF so sc N N' src:=⟨a,b,c,fun y hy z=>absurd z (d y hy),e,f,g⟩
end L2
namespace Wz
open PySem L2
def c6 (g:Int):Str:=Str.ofString (toString g)
def b6 (d:aF):List Str:=bh d::(names d).map c6
def aU (d:aF):Str:=Txt.join (Str.ofString " ") (b6 d)
def gU (ds:List aF):Str:=Txt.join (Str.ofString "") (ds.map fun d=>aU d++Str.ofString "\n")
theorem xg {g:Int}(h:bp g):(c6 g).length<=1921:=PyProof.Rows.int_text_len_1921 (nc h)
theorem wm (d:aF):(bh d).length<=8:=by
 have h1:(("come" : Str)).length<=8:=by decide +kernel
 have h2:(("go" : Str)).length<=8:=by decide +kernel
 have h3:(("exchange" : Str)).length<=8:=by decide +kernel
 cases d
 ·exact h1
 ·exact h2
 ·exact h3
theorem jE {d:aF}(h:∀ g∈names d,bp g):(∀ y∈b6 d,y.length<=1921)/\(b6 d).length<=3:=by
 refine⟨fun y hy=>?_,?_⟩
 ·rcases BH.mp hy with z | z
  ·rw[z];have:=wm d;omega
  ·obtain⟨g,hg,rfl⟩:=BZ.mp z
   exact xg (h g hg)
 ·unfold b6
  rw[BU,Bx];cases d<;>simp[names]
theorem r0 {sep:Str}{ts:List Str}{B:Nat}(h:∀ y∈ts,y.length<=B)(hl:ts.length*B+ts.length*sep.length<=16777216):JoinOk sep ts=true:=by
 unfold JoinOk;rw[StrLaws.joinFits h hl];rfl
theorem u8 {sep:Str}:∀ {ts:List Str}{B:Nat},(∀ y∈ts,y.length<=B)->(Txt.join sep ts).length<=ts.length*(B+sep.length)
 | [],B,_=>by
  show (Builtin.Str.glued sep []).length<=_
  rw[StrLaws.glued_eq_join]
  have:(sep.join []).length=0:=by first | rfl | simp
  omega
 | t::ts,B,h=>by
  show (Builtin.Str.glued sep (t::ts)).length<=_
  rw[StrLaws.glued_eq_join,PyProof.Rows.len_join_cons]
  have sm:∀ (l:List Str),(∀ y∈l,y.length<=B)->(l.map fun x=>x.length).sum<=l.length*B:=fun l=>by
   induction l with
   | nil=>intro _;simp
   | cons a r ih =>
    intro hh;have i:=ih fun y hy=>hh y (BC _ hy);have j:=hh a BE;rw[BO,List.sum_cons,BU,Nat.add_mul];omega
  have s:=sm (t::ts) h;rw[Nat.mul_add];have:ts.length*sep.length<=(t::ts).length*sep.length:=Nat.mul_le_mul_right _ (by simp);omega
theorem vd {d:aF}(h:∀ g∈names d,bp g):(aU d).length<=6000:=by
 obtain⟨w1,w2⟩:=jE h;have:=u8 (sep:=Str.ofString " ") w1
 have e:(Str.ofString " ").length=1:=by decide +kernel
 rw[e]at this;have e2:(b6 d).length*(1921+1)<=3*(1921+1):=Nat.mul_le_mul_right _ w2;unfold aU;omega
theorem m9 {d:aF}(h:∀ g∈names d,bp g):(aU d++Str.ofString "\n").length<=6001:=by
 rw[Str.length_append]
 have e:(Str.ofString "\n").length=1:=by decide +kernel
 have:=vd h;omega
inductive gA (c:HX) (vs:List V) (H:Hp) (Q:VK) (E_:XK):Prop
 | mk (p:Addr) (A:HA) (st:bw) (h_0:vs=[.ref p]) (h_1:au c.C H p A st) (h_2:st.deeds.length<=400) (h_3:(∀ d∈st.deeds,∀ g∈names d,bp g)) (h_4:∀ H',aH H H'->Q (.str (gU st.deeds)) H'):gA c vs H Q E_
theorem tG {d:aF}{i:Nat}{x:V}(h:(be d)[i]? = some x):∃ wd,(b6 d)[i]? = some wd/\((∃ s,x=.str s/\wd=s)\/∃ g,x=.int g/\g∈names d/\wd=c6 g):=by
 unfold be at h;unfold b6
 cases i with
 | zero=>exact⟨bh d,rfl,.inl ⟨bh d,(BF h).symm,rfl⟩⟩
 | succ i =>
  have h:((names d).map V.int)[i]? = some x:=h;rw[List.getElem?_map]at h
  cases e:(names d)[i]? with
  | none=>rw[e]at h;cases h
  | some g =>
   rw[e]at h;refine⟨c6 g,?_,.inr ⟨g,(BF h).symm,B9 e,rfl⟩⟩
   show ((names d).map c6)[i]? = _
   rw[List.getElem?_map,e];rfl
theorem tE (d:aF):(be d).length=(b6 d).length:=by unfold be b6;rw[BU,BU,Bx,Bx]
theorem wo {d:aF}(h:∀ g∈names d,bp g):JoinOk (Str.ofString " ") (b6 d)=true:=by
 obtain⟨w1,w2⟩:=jE h
 have e:(Str.ofString " ").length=1:=by decide +kernel
 refine r0 w1 ?_;rw[e];have:(b6 d).length*1921<=3*1921:=Nat.mul_le_mul_right _ w2;omega
theorem xE {ds:List aF}(hl:ds.length<=400)(h:∀ d∈ds,∀ g∈names d,bp g):JoinOk (Str.ofString "") (ds.map fun d=>aU d++Str.ofString "\n")=true:=by
 have e:(Str.ofString "").length=0:=by decide +kernel
 refine r0 (B:=6001) (fun y hy=>?_) ?_
 ·obtain⟨d,hd,rfl⟩:=BZ.mp hy
  exact m9 (h d hd)
 ·rw[e,Bx]
  have:ds.length*6001<=400*6001:=Nat.mul_le_mul_right _ hl;omega
end Wz
namespace PySem
open Sem (wp)
section
variable {M:Model}{A:Around}{E:Value->Shared->Prop}{s:Shared}{env:Env}
def zf (M:Model)(A:Around)(E:Value->Shared->Prop)(use:Option (Value->Sem Unit))(Q:Value->Shared->Prop)(acc:Value)(C:Addr)(fr:Option Addr)(r:Result)(s':Shared):Prop :=
 match r,use with
 | .ok _,none=>∃ m,s'.heap.Ns C m/\∀ h',Heap.SameBut C s'.heap h'->Q acc { s' with heap:=h' }
 | .ok _,some u=>wpAny M A (u acc) (fun _ s''=>∃ m,s''.heap.Ns C m/\∀ h',Heap.SameBut C s''.heap h'->Q .none { s'' with heap:=h' }) E s'
 | .error x,_=>∃ m,s'.heap.Ns C m/\∀ h',Heap.SameBut C s'.heap h'->∀ cenv:Env,cenv.frame=fr->wpAny M A (passOn "comprehension.variables-let-go" x cenv:Sem Value) (fun _ _=>False) E { s' with heap:=h' }
end
end PySem
namespace Wz
open PySem L2
def Mu (H:Hp)(b:Addr):Prop:=(∃ k,H b=some (.dK k))\/(∃ k,H b=some (.dT k))\/∃ l,H b=some (.lst l)
theorem Mu.ins {H:Hp}{b C dx:Addr}{fs:List (Str×V)}(h:Mu H b)(e:H b=some (.ins C dx fs)):False:=by
 rcases h with ⟨k,h⟩ | ⟨k,h⟩ | ⟨k,h⟩<;>rw[e]at h<;>cases h
theorem Mu.tup {H:Hp}{b:Addr}{xs:List V}(h:Mu H b)(e:H b=some (.tup xs)):False:=by
 rcases h with ⟨k,h⟩ | ⟨k,h⟩ | ⟨k,h⟩<;>rw[e]at h<;>cases h
theorem Mu.some {H:Hp}{b:Addr}(h:Mu H b):∃ o,H b=some o:=by
 rcases h with ⟨k,h⟩ | ⟨k,h⟩ | ⟨k,h⟩<;>exact⟨_,h⟩
theorem au.mu {C:Addr}{H:Hp}{p:Addr}{A:HA}{st:bw}(x:au C H p A st):∀ b∈A.fp,Mu H b:=by
 intro b hb;simp only[HA.fp,BH]at hb;rcases hb with rfl | rfl | rfl | rfl | hb
 ·exact .inl ⟨_,x.w⟩
 ·exact .inl ⟨_,x.h⟩
 ·exact .inl ⟨_,x.c⟩
 ·obtain⟨as,h,_⟩:=x.d
  exact .inr (.inr ⟨_,h⟩)
 ·obtain⟨i,hi,rfl⟩:=List.getElem_of_mem hb
  obtain⟨y,_,q⟩:=bM x.cs (List.getElem?_eq_getElem hi);exact .inl ⟨_,q⟩
end Wz
namespace L2
open PySem PySem.Spec PyProof.Rows
open AutoSeq1 (wpAny_loadPart')
theorem wO (a v:Value):checkTypeCall "enumerate" ⟨[a],[("start",v)]⟩=pure ():=by kernel_rfl
theorem yl (a v:Value):checkBuiltinCall "enumerate.__new__" ⟨[.type "enumerate",a],[("start",v)]⟩=pure ():=by kernel_rfl
theorem wN (o a v:Value):argsOk "object.__init__" ⟨[o,a],[("start",v)]⟩:=by unfold argsOk;kernel_rfl
theorem uX (l:Addr)(items:Array Value)(n:Nat)(dct:Option Addr)(sl:Array (Option Value))(t:Tok) :
  Meets (Builtin.«enumerate.__new__» ⟨[.type "enumerate",.ref l],[("start",.int 1 t)]⟩) (fun _ R s=>s.heap.get? l=some { cls:=.type "list",dict:=dct,data:=.seq items n,slots:=sl } /\
   R (.ok (.ret (.ref (s.heap.push { cls:=.type "list_iterator",data:=.fields #[.ref l,.int 0 0] }).objs.size)))
    { s with heap:=(s.heap.push { cls:=.type "list_iterator",data:=.fields #[.ref l,.int 0 0] }).push { cls:=.type "enumerate",data:=.fields #[.none,.bool false,.ref s.heap.objs.size,rawInt 1,.none,.none] } }) :=
 .of_wp fun prog w A R s h=>by
  obtain⟨hp,g,d,tk,os⟩:=s;obtain⟨hl,h⟩:=h;have hsub:=sub_enumerate;have hL:Heap.IsList (Shared.heap ⟨hp,g,d,tk,os⟩) l items:=⟨_,hl,rfl,n,rfl⟩
  wp_walk using wpAny_loadPart' hl
  refine wpAny_stack_any fun st=>BA ?_;split
  ·rename_i c _ _ _ _ _
   cases (c == Value.type "enumerate")
   ·wp_walk using wpAny_loadPart' hl,Da hL
    exact⟨_,rfl,h⟩
   ·wp_walk using wpAny_loadPart' hl,Da hL
    exact⟨_,rfl,h⟩
  ·wp_walk using wpAny_loadPart' hl,Da hL
   exact⟨_,rfl,h⟩
section
variable {prog:Program}{w:World}{A:Around}{E:Value->Shared->Prop}{s:Shared}
theorem qz {self a v:Value}:Meets (Builtin.«object.__init__» ⟨[self,a],[("start",v)]⟩) (fun _ R s=>s.TypeIs self "enumerate"/\R (.ok (.ret .none)) s):=by
 refine Meets.of_wp fun prog w A R s hs=>?_;obtain⟨hT,hq⟩:=hs;have hl:=(F.called_enumerate).init.lookup;have hm:=(F.called_enumerate).made
 repeat (any_goals (first | assumption | wp_step))
 exact⟨_,rfl,hq⟩
theorem wM {l:Addr}{items:Array Value}{t:Tok}{Q:Value->Shared->Prop}(hL:s.heap.IsList l items)
  (h:∀ h',IsEnum h' (s.heap.objs.size+1) s.heap.objs.size 1 .none->h'.IsListIter s.heap.objs.size l 0->(∀ b o,s.heap.get? b=some o->h'.get? b=some o)->Q (.ref (s.heap.objs.size+1)) { s with heap:=h' }) :
  wpAny (model prog w) A (call (.type "enumerate") [.ref l] [("start",.int 1 t)]) Q E s:=by
 obtain⟨⟨c,dct,dt,sl⟩,hl,hc,n,hd⟩:=hL
 replace hc:c=.type "list":=hc
 replace hd:dt=.seq items n:=hd
 subst hc hd;have ft:=F.called_enumerate;obtain⟨c,tl,hmro⟩:=ft.mro;have hmade:=ft.made;have hsub:=ft.sub;refine Df (codeAny_of_tree ?_)
 show wpAny _ _ (callAny (.type "enumerate") _) _ _ _
 refine BA ⟨Code.quiet_builtin _ (by decide +kernel),codeAny_builtin F.entry_type_call ?_⟩;rw[Around.under_plain (weight_type_call_type _ _ _) (units_type_call_type _ _ _)];have h1:=ft.notType;have h2:=ft.canCreate;have hct:=wO (.ref l) (.int 1 t)
 repeat (any_goals (first | assumption | wp_step))
 have hz:(s.heap.push { cls:=.type "list_iterator",data:=.fields #[.ref l,.int 0 0] }).objs.size=s.heap.objs.size+1:=CZ ..;refine CG (CY ft.plain F.entry_enumerate_new (wpAny_of_eq (yl _ _) (uX l items n dct sl t prog w A.in1 (wants (fun obj s₁=>s₁.TypeIs obj "enumerate"/\Q obj s₁) E) s ⟨hl,?_⟩))) fun r s₁ hr=>?_
 ·show _/\_
  have he:IsEnum ((s.heap.push { cls:=.type "list_iterator",data:=.fields #[.ref l,.int 0 0] }).push
    { cls:=.type "enumerate",data:=.fields #[.none,.bool false,.ref s.heap.objs.size,rawInt 1,.none,.none] }) (s.heap.objs.size+1) s.heap.objs.size 1 .none:=by
   have:=Heap.get?_push_size (s.heap.push { cls:=.type "list_iterator",data:=.fields #[.ref l,.int 0 0] })
    (o:={ cls:=.type "enumerate",data:=.fields #[.none,.bool false,.ref s.heap.objs.size,rawInt 1,.none,.none] }) rfl
   rw[hz]at this;exact this
  rw[hz];exact⟨⟨_,he,rfl⟩,h _ he ⟨_,Heap.get?_push_of_some _ (Heap.get?_push_size _ rfl),rfl,rfl⟩ fun b o x=>Heap.get?_push_of_some _ (Heap.get?_push_of_some _ x)⟩
 ·cases r with
  | error e=>exact hr
  | ok fl =>
   cases fl with
   | ret obj =>
    obtain⟨hT,hQ⟩:=hr;have hli:=ft.init.lookup;have hbi:=ft.init.bind obj
    repeat (any_goals (first | assumption | wp_step))
    refine CG (CY ft.init.plain F.entry_object_init (ft.init.check _ _ _ _ _ _ _ _ hT (wN _ _ _) (qz prog w A.in1 (wants (fun r s₂=>r=.none/\Q obj s₂) E) s₁ ⟨hT,rfl,hQ⟩))) fun r₂ s₂ hr₂=>?_
    cases r₂ with
    | error e=>exact hr₂
    | ok fl₂ =>
     cases fl₂ with
     | ret r =>
      obtain⟨rfl,hq⟩:=hr₂
      repeat (any_goals (first | assumption | wp_step))
     | _=>exact hr₂.elim
   | _=>exact hr.elim
end
theorem uQ {prog:Program}{w:World}{A:Around}{it:Addr}{fp:List Addr}{n:Nat}{P:Nat->Value->Prop}{St:Nat->Heap->Prop}(D:Draws prog w A it fp n P St):Draws prog w A it fp (n+1) (fun j v=>P (j-1) v) (fun j h=>1<=j/\St (j-1) h) where
 live:=fun i h st=>D.live _ h st.2
 frame:=fun i h h' st k=>⟨st.1,D.frame _ h h' st.2 k⟩
 item:=fun i s Q E hi st hQ=>D.item (i-1) s Q E (by have:=st.1;omega) st.2 fun x h' tk hp hs hb=>hQ x h' tk hp ⟨by omega,by have:=st.1;rw[show i+1-1=i-1+1 by omega];exact hs⟩ hb
 done:=fun s Q E st hE=>D.done s Q E st.2 hE
theorem tK {prog:Program}{w:World}{A:Around}(hh:A.handled=none)(it l:Addr)(items:Array Value){i:Nat}(hx:items[i]? = none):Draws prog w A it [it,l] (i+1) (fun _ _=>False) (fun j h=>j=i+1/\h.IsListIter it l i/\h.IsList l items) where
 live:=fun j h st=>let ⟨o,ho,_⟩:=st.2.1;⟨o,ho⟩
 frame:=fun j h h' st k=>⟨st.1,st.2.1.at fun o x=>k it (by simp) o x,st.2.2.at fun o x=>k l (by simp) o x⟩
 item:=fun j s Q E hj st hQ=>by have:=st.1;omega
 done:=fun s Q E st hE=>wpAny_nextOf_list_end hh st.2.1 st.2.2 hx hE
def zm (K:PySem.W.Frag)(l:Addr):It :=
 ⟨fun i H=>∃ xs x,bd K H l xs/\xs[i]? = some x,fun i H y H'=>∃ T x,H T=none/\y=.ref T/\H'=upd H T (.tup [.int ((i:Int)+1),x])/\∀ xs,bd K H l xs->xs[i]? = some x,fun i H=>∃ xs,bd K H l xs/\xs.length<=i⟩
theorem rF {P:Program}{w:World}{K:PySem.W.Frag}{elts:List Expr} {kk}{pos:Pos}(e it l:Addr)(hne:e≠it):nL P w K (.Tuple elts kk pos) (zm K l) [e,it] e (fun i h=>(∃ old,IsEnum h e it ((i+1:Nat):Int) old)/\h.IsListIter it l i) where
 mem:=by simp
 obj:=fun i h st b hb=>by
  obtain⟨⟨old,he⟩,⟨o,eo,c,d⟩⟩:=st
  have hb:b=e\/b=it:=by simpa using hb
  rcases hb with rfl | rfl
  ·exact⟨_,he,fun v z=>by cases z⟩
  ·exact⟨o,eo,fun v z=>by rw[d]at z;cases z⟩
 keep:=fun i h h' st k=>⟨st.1.elim fun old he=>⟨old,k e (by simp) _ he⟩,st.2.at fun o x=>k it (by simp) o x⟩
 item:=by
  intro X hP hw hK hc i pins s σ H E I hf st hg;subst hP hw hK;obtain⟨xs,x,hq,hx⟩:=hg;obtain⟨its,rv,p,hz⟩:=I.list hq;obtain⟨u,hu,ru⟩:=rv.get hx;obtain⟨⟨old,he⟩,hit⟩:=st;have fe:=hf e (by simp);have fi:=hf it (by simp);have lte:e<s.heap.objs.size:=BG he
  have lti:it<s.heap.objs.size:=by obtain⟨_,q,_⟩:=id hit;exact BG q
  obtain⟨ol,hol,hcl,_⟩:=id p.isList
  have nl:l≠it:=fun z=>by
   obtain⟨oi,hoi,hci,_⟩:=id hit;rw[<-z,hol]at hoi;cases hoi;rw[hcl]at hci;exact absurd (Value.type.inj hci) (by decide)
  have nle:e≠l:=fun z=>by
   have q:s.heap.get? e=some _:=he;rw[z,hol]at q;cases q;exact absurd (Value.type.inj hcl) (by decide)
  refine wpAny_pyNext_enum_itemD (uQ (Draws.list (A:=X.A.in1) (I.ok.hd hc) it l nl its.toArray)) he ⟨by omega,hit,p.isList⟩ (by have:=(List.getElem?_eq_some_iff.mp hu).1;simp;omega) hne (by simp[hne,nle]) fun u' h' tk hu' ho hst' hT hsz hk=>⟨.ref s.heap.objs.size,rfl,?_⟩
  have eu:u'=u:=by
   have:its.toArray[i+1-1]? = some u':=hu';rw[show i+1-1=i by omega]at this
   have h2:its.toArray[i]? = some u:=by simpa using hu
   rw[this]at h2;exact BF h2
  subst eu;have hit':h'.IsListIter it l (i+1):=hst'.2.1;refine wpAny_letOwnedTupleGo_enum (s:={ s with heap:=h',toks:=tk+1 }) ho fun h2 he2 sb2=>?_;have hfr:H s.heap.objs.size=none:=I.hok.fresh (BB _)
  have IL:ao X pins σ (upd H s.heap.objs.size (.tup [.int ((i:Int)+1),x])) { s with heap:=s.heap.push { cls:=.type "tuple",data:=.seq #[.int ((i+1:Nat):Int) tk,u'] },toks:=s.toks } :=
   I.laid (fun b o q=>Heap.get?_push_of_some _ q) (BB _) ⟨by show 2<=sizeLine;decide,[.int ((i+1:Nat):Int) tk,u'],.cons ⟨_,rfl⟩ (.cons ru .nil),⟨_,Heap.get?_push_size _ rfl,rfl,_,rfl⟩⟩
  have fp':∀ b,b<s.heap.objs.size->dR X pins H b->dR X pins (upd H s.heap.objs.size (.tup [.int ((i:Int)+1),x])) b:=fun b hb ⟨f0,f1,f2,f3,f4,f5⟩=>⟨by rw[ac (BJ hb)];exact f0,f1,f2,f3,f4,f5⟩
  have I2:ao X pins σ (upd H s.heap.objs.size (.tup [.int ((i:Int)+1),x])) { s with heap:=h2,toks:=tk+1 }:=IL.turned2 (t':=tk+1) (h':=h2) (fun b o n1 n2 q=>by
   refine (sb2.2 b n1).trans ?_
   show h'.get? b=some o
   by_cases hb:b=s.heap.objs.size
   ·subst hb
    have q:(s.heap.push { cls:=.type "tuple",data:=.seq #[.int ((i+1:Nat):Int) tk,u'] }).get? s.heap.objs.size=some o:=q;rw[Heap.get?_push_size _ rfl]at q;cases q;exact hT
   ·have q:(s.heap.push { cls:=.type "tuple",data:=.seq #[.int ((i+1:Nat):Int) tk,u'] }).get? b=some o:=q
    refine hk b o n1 n2 ?_;rw[Heap.get?_push_ne _ _ _ hb]at q
    exact q) (fp' e lte fe) (fp' it lti fi)
  refine⟨.ref s.heap.objs.size,_,I2,rfl,⟨s.heap.objs.size,x,hfr,rfl,rfl,fun ys hy=>by rw[I.list_inj hy hq];exact hx⟩,⟨⟨_,by simpa using he2⟩,hit'.at fun o q=>(sb2.2 it (BL hne)).trans q⟩,fun b hb=>?_⟩
  have hb':b=e\/b=it:=by simpa using hb
  rcases hb' with rfl | rfl
  ·exact (fp' _ lte fe).1
  ·exact (fp' _ lti fi).1
 done:=by
  intro X hP hw hK hc i pins s σ H E I hf st hg;subst hP hw hK;obtain⟨xs,hq,hx⟩:=hg;obtain⟨its,rv,p,hz⟩:=I.list hq;obtain⟨⟨old,he⟩,hit⟩:=st;obtain⟨f0,f1,f2,f3,f4,f5⟩:=hf it (by simp);have hl:=rv.length;exact wpAny_pyNext_enum_endD (tK (A:=X.A.in1) (I.ok.hd hc) it l its.toArray (i:=i) (by simp;omega)) he ⟨rfl,hit,p.isList⟩ fun h' eb=>⟨rfl,I.turned (t':=s.toks) (fun b o hb q=>eb b o hb q) f0 f1 f3 f4 f5⟩
 self:=fun _ _ _ _ _ st h=>st.1.elim fun old he=>wpAny_pyIter_enum he h
theorem j4 {M:Model}{A:Around}{E:Value->Shared->Prop}{s:Shared}{env:Env}{pos:Pos}{T:String}{Q:Value->Shared->Prop}{e:Expr}{rest:List Expr}{kws:List Keyword}(hall:(backToKw pos (keywordEach kws env)).all (·.1.isSome)=true)
  (h:wpAny M A (spliced (backTo pos (starEach (e::rest) env))) (fun vs s₁=>wpAny M A (evalAll ((backToKw pos (keywordEach kws env)).map (·.2)))
   (fun ks s₂=>wpAny M A (call (.type T) vs (((backToKw pos (keywordEach kws env)).filterMap (·.1)).zip ks)) Q E s₂) E s₁) E s)
  (hplain:((backTo pos (starEach (e::rest) env)).any (·.1)||(backToKw pos (keywordEach kws env)).any (·.1.isNone))=false:=by rfl) (he:starEach (e::rest) env=(false,eval e env)::starEach rest env:=by rfl) :
  wpAny M A (callWith pos (.type T) [] (backTo pos (starEach (e::rest) env)) (backToKw pos (keywordEach kws env))) Q E s:=by
 unfold callWith;refine Bw (Cf (BS (evalArgs_kw2 (Q:=fun a s₁=>wpAny M A (call (.type T) a.pos a.kw) Q E s₁) hall h he) (fun a s₁ h₁=>Bw (Cq ?_)) fun _ _ x=>x));simp only[hplain];refine Bw (BA ?_);exact Bw (BS h₁ (fun r s₂ hr=>Bw (Cf (wpAny_point (BA hr)))) fun _ _ x=>x)
def yo (K:PySem.W.Frag)(t:TA):TI:=fun σ H R=>t σ H fun vs H1=>∃ l,vs=[.ref l]/\(∃ xs,bd K H1 l xs)/\R (zm K l) H1
theorem vJ {X:Cx}{elts:List Expr} {kk}{tpos:Pos}{a:Expr}{ta:TA}{p pos cp kp:Pos}{cj:Nat}(hg:Gl X "enumerate")(hm:X.mg "enumerate" = none)(ha:PA X [a] ta)
  (he:starEach [a] X.env=(false,eval a X.env)::starEach [] X.env:=by rfl)
  (hpl:((backTo pos (starEach [a] X.env)).any (·.1)||(backToKw pos (keywordEach [⟨some "start",.Constant (.int 1) cj cp,kp⟩] X.env)).any (·.1.isNone))=false:=by rfl) :
  PI X (.Tuple elts kk tpos) (.Call (.Name "enumerate" p) [a] [⟨some "start",.Constant (.int 1) cj cp,kp⟩] pos) (yo X.K ta):=by
 intro pins s σ H R I h;refine CD (kR I hg hm boot_enumerate ?_ (by decide) (by decide));refine j4 (by rfl) (aS (ha pos pins s σ H _ I h) fun us s1 ⟨vs,H1,I1,r1,l,e1,⟨xs,hq⟩,q⟩=>?_) hpl he;subst e1;obtain⟨u,rfl,rx⟩:=dM r1;cases rx;refine aS ((xt ai yM:PK X [⟨some "start",.Constant (.int 1) cj cp,kp⟩] _) pos pins s1 σ H1 (fun vs H2=>vs=[.int 1]/\H2=H1) I1 ⟨rfl,rfl⟩) fun ws s2 ⟨zs,H2,I2,rz,ez,eh⟩=>?_;subst ez eh;obtain⟨u2,rfl,rx2⟩:=dM rz;obtain⟨t,rfl⟩:=rx2;obtain⟨its,rv,pl,hz⟩:=I2.list hq;refine wM pl.isList fun h' hE hI hk=>?_;have I3:ao X pins σ H2 { s2 with heap:=h',toks:=s2.toks }:=I2.kept hk;refine wpAny_pyIter_enum (s:={ s2 with heap:=h' }) hE ?_;refine⟨s2.heap.objs.size+1,[s2.heap.objs.size+1,s2.heap.objs.size],_,_,H2,rfl,I3,rF _ _ l (Nat.succ_ne_self _),⟨⟨_,hE⟩,hI⟩,fun b hb=>?_,q⟩
 have hb:b=s2.heap.objs.size+1\/b=s2.heap.objs.size:=by simpa using hb
 rcases hb with rfl | rfl
 ·exact I2.fpOk (Nat.le_succ _) (I2.hok.fresh (Nat.le_succ _))
 ·exact I2.fpOk (BB _) (I2.hok.fresh (BB _))
theorem tL {K:PySem.W.Frag}{a:Addr}{xs:List V}{g:TG}{tb:TS}{D:eB}{σ:St}{H:Hp}(Pv:Nat->St->Hp->Prop)(h0:Pv 0 σ H)(hl:∀ i σ H,i<=xs.length->Pv i σ H->bd K H a xs)
  (hs:∀ i x σ H T,xs[i]? = some x->Pv i σ H->H T=none->g (.ref T) σ (upd H T (.tup [.int ((i:Int)+1),x])) fun σ2 H2=>tb { D with nx:=Pv (i+1),ct:=Pv (i+1),bk:=D.nx } σ2 H2) (hd:∀ σ H,Pv xs.length σ H->D.nx σ H) :
  ∃ W:Nat->Nat->St->Hp->Prop,(∃ m,W 0 m σ H)/\∀ i m σ H,W i m σ H ->
   ((zm K a).stop i H/\D.nx σ H)\/((zm K a).go i H/\∃ N:St->Hp->Prop,(∀ σ' H',N σ' H'->∃ m',m'<m/\W (i+1) m' σ' H')/\∀ x H',(zm K a).yld i H x H'->g x σ H' fun σ2 H2=>tb { D with nx:=N,ct:=N,bk:=D.nx } σ2 H2):=by
 refine⟨fun i m σ H=>m=xs.length-i/\i<=xs.length/\Pv i σ H,⟨xs.length,by simp,BY _,h0⟩,?_⟩;rintro i m σ H ⟨rfl,hi,p⟩;have q:=hl i σ H hi p
 by_cases hlt:i<xs.length
 ·refine .inr ⟨⟨xs,xs[i],q,by simp[hlt]⟩,Pv (i+1),fun σ' H' p'=>⟨xs.length-(i+1),by omega,rfl,hlt,p'⟩,fun y H' z=>?_⟩
  obtain⟨T,x,hT,e1,e2,hx⟩:=z;subst e1 e2;exact hs i x σ _ T (hx xs q) p hT
 ·have e:i=xs.length:=by omega
  exact .inl ⟨⟨xs,q,by omega⟩,hd σ H (e▸p)⟩
end L2
set_option maxRecDepth 1000000
set_option maxHeartbeats 8000000
namespace Wz
open PySem L2
theorem rp {P:St->Hp->Prop}{G:Prop}(C:St->Hp->Prop)(main:(∀ σ HH,C σ HH->P σ HH)->G)(key:∀ σ HH,C σ HH->P σ HH):G:=main key
end Wz
set_option maxRecDepth 1000000
set_option maxHeartbeats 8000000
namespace Tm
open PySem PyProof.Rows
def el (xs:Array Keyed)(i:Nat):Keyed:=xs.getD i (.none,.none)
structure Bu (P:Program)(w:World)(A:Around)(s:Shared)(κ:SortKind)(a0:Array Keyed)(lt:Keyed->Keyed->Bool):Prop where
 cmp:∀ {x y:Keyed}{E:Value->Shared->Prop}{Q:Bool->Prop},x∈a0->y∈a0->Q (lt x y)->wpAny (model P w) A (keyLt' κ x.1 y.1) (fun b s'=>s'=s/\Q b) E s
 irr:∀ x,lt x x=false
 tr:∀ x y z,lt x y=true->lt y z=true->lt x z=true
 tot:∀ x y,x∈a0->y∈a0->x≠y->lt x y=true\/lt y x=true
 nd:a0.toList.Nodup
structure Bd (κ:SortKind)(a0:Array Keyed)(st:SortSt):Prop where
 pm:(arrOf st).Perm a0
 fl:failedOf st=none
 kd:kindOf st=κ
section
variable {P:Program}{w:World}{A:Around}{E:Value->Shared->Prop}{s:Shared}{κ:SortKind}{a0:Array Keyed}{lt:Keyed->Keyed->Bool}{st:SortSt}
def Up (lt:Keyed->Keyed->Bool)(xs:Array Keyed)(lo hi:Nat):Prop:=∀ i j,lo<=i->i<j->j<hi->lt (el xs i) (el xs j)=true
def Dn (lt:Keyed->Keyed->Bool)(xs:Array Keyed)(lo hi:Nat):Prop:=∀ i j,lo<=i->i<j->j<hi->lt (el xs j) (el xs i)=true
def Bt (xs ys:Array Keyed)(lo hi:Nat):Prop:=∀ i,i<lo\/hi<=i->el ys i=el xs i
def Bg (st st':SortSt):Prop:=pendingOf st'=pendingOf st/\gallopOf st'=gallopOf st
end
def Af:Bool->Keyed->Array Keyed->Nat->Nat->Nat->StateT SortSt Sem (Option Nat):=sortPriv% PySem.Builtin.gallop
def Bf (lt:Keyed->Keyed->Bool)(left:Bool)(key:Keyed)(xs:Array Keyed)(b i:Nat):Bool:=if left=true then lt (el xs (b+i)) key else !lt key (el xs (b+i))
def Fn (R:Keyed->Keyed->Prop)(T r:List Keyed):Prop:=r.Perm T/\r.Pairwise R
structure J (R:Keyed->Keyed->Prop)(T out ra rb:List Keyed):Prop where
 pm:(out++(ra++rb)).Perm T
 so:out.Pairwise R
 oa:∀ x,x∈out->∀ y,y∈ra->R x y
 ob:∀ x,x∈out->∀ y,y∈rb->R x y
 sa:ra.Pairwise R
 sb:rb.Pairwise R
 la:∀ x,x∈rb->∀ z,ra.getLast? = some z->R x z
def zF:Array Keyed->Array Keyed->StateT SortSt Sem (Array Keyed):=sortPriv% PySem.Builtin.mergeLo
def wx:Nat->StateT SortSt Sem Unit:=sortPriv% PySem.Builtin.setMinGallop
structure Bv (a0:Array Keyed)(lt:Keyed->Keyed->Bool)(a b:Array Keyed):Prop where
 ma:∀ i,i<a.size->el a i∈a0
 mb:∀ i,i<b.size->el b i∈a0
 ne:∀ i j,i<a.size->j<b.size->el a i≠el b j
 ua:Up lt a 0 a.size
 ub:Up lt b 0 b.size
 za:0<a.size
 zb:0<b.size
 h0:lt (el b 0) (el a 0)=true
 hl:lt (el b (b.size-1)) (el a (a.size-1))=true
def aH (st st':SortSt):Prop:=arrOf st'=arrOf st/\failedOf st'=failedOf st/\kindOf st'=kindOf st/\pendingOf st'=pendingOf st
def Jl (lt:Keyed->Keyed->Bool)(a b:Array Keyed)(out:Array Keyed)(ia ib:Nat):Prop:=J (fun x y=>lt x y=true) (a.toList++b.toList) out.toList (a.toList.drop ia) (b.toList.drop ib)
def Sl (lt:Keyed->Keyed->Bool)(a b:Array Keyed)(n:Nat)(r:Option (Array Keyed))(out:Array Keyed)(ia ib:Nat):Prop :=
 (∃ q,r=some q/\Fn (fun x y=>lt x y=true) (a.toList++b.toList) q.toList)\/(r=none/\Jl lt a b out ia ib/\ia+1<a.size/\ib<b.size/\n<=out.size)
def zE:Array Keyed->Array Keyed->StateT SortSt Sem (Array Keyed):=sortPriv% PySem.Builtin.mergeHi
def Jh (lt:Keyed->Keyed->Bool)(a b:Array Keyed)(out:Array Keyed)(na nb:Nat):Prop:=J (fun x y=>lt y x=true) (a.toList++b.toList) out.toList (b.toList.take nb).reverse (a.toList.take na).reverse
def Sh (lt:Keyed->Keyed->Bool)(a b:Array Keyed)(n:Nat)(r:Option (Array Keyed))(out:Array Keyed)(na nb:Nat):Prop :=
 (∃ q,r=some q/\Fn (fun x y=>lt x y=true) (a.toList++b.toList) q.toList)\/(r=none/\Jh lt a b out na nb/\0<na/\na<a.size/\1<nb/\nb<=b.size/\n<=out.size)
def Bh (q:Nat)(m arr:Array Keyed):Array Keyed:=m.toList.zipIdx.foldl (fun a (p,j)=>a.setIfInBounds (q+j) p) arr
def Ch (lt:Keyed->Keyed->Bool)(xs:Array Keyed):Nat->List (Nat×Nat×Nat)->Nat->Prop
 | f,[],u=>f=u
 | f,t::r,u=>t.1=f/\1<=t.2.1/\Up lt xs f (f+t.2.1)/\Ch lt xs (f+t.2.1) r u
end Tm
namespace Qs
open PySem PySem.W PyProof.Rows
open Classical in
noncomputable def dec (h:Heap) (v:Value):Int×Int:=if z:∃ p,PairAt h v p then choose z else (0,0)
end Qs
namespace Wz
open PySem PySem.Spec
theorem uA:typeLookup (.type "str") "__int__" = pure none:=by rw[typeLookup_type,builtinLookup_eq_fast];kernel_rfl
theorem uz:typeLookup (.type "str") "__index__" = pure none:=by rw[typeLookup_type,builtinLookup_eq_fast];kernel_rfl
theorem qg:typeLookup (.type "str") "__trunc__" = pure none:=by rw[typeLookup_type,builtinLookup_eq_fast];kernel_rfl
theorem mU {f:Array Nat×Bool->Nat->Option (Array Nat×Bool)}(hf:∀ p d,d<10->f p (d+48)=some (p.1.push d,true)):∀ (l:List Nat)(p:Array Nat×Bool),(∀ d∈l,d<10)->(l.map (·+48)).foldlM f p=some (p.1++l.toArray,if l=[] then p.2 else true)
 | [],p,_=>by simp
 | d::l,p,h=>by
  rw[BO,List.foldlM_cons,hf p d (h d BE)]
  show (l.map (·+48)).foldlM f (p.1.push d,true)=_
  rw[mU hf l _ fun x hx=>h x (BC _ hx)];simp
theorem jd {d:Nat}(h:d<10):d=0\/d=1\/d=2\/d=3\/d=4\/d=5\/d=6\/d=7\/d=8\/d=9:=by omega
theorem py {p:Nat->Bool}(hp:∀ d,d<10->p (d+48)=false){q:List Nat}(h:∀ c∈q,∃ d,d<10/\c=d+48):q.dropWhile p=q:=by
 cases q with
 | nil=>rfl
 | cons c q =>
  obtain⟨d,hd,rfl⟩:=h c BE;rw[List.dropWhile_cons_of_neg];rw[hp d hd];exact BD
theorem yz {q:List Nat}{y:Option (Array Nat)}{l:List Nat}{f:Array Nat×Bool->Nat->Option (Array Nat×Bool)}{g:Array Nat×Bool->Option (Array Nat)}(h:y=(q.foldlM f (#[],false)).bind g)(hq:q=l.map (·+48))(hl:l≠[])(hd:∀ d∈l,d<10)
  (hf:∀ p d,d<10->f p (d+48)=some (p.1.push d,true)) (hg:∀ ds,g (ds,true)=some ds):y=some l.toArray:=by
 rw[h,hq,mU hf l _ hd,By hl]
 show g (#[]++l.toArray,true)=_
 rw[hg];simp
theorem meets_int_new_str (x:Str)(t:Tok)(d:Nat)(l:List Nat)(hx:x.cps.toList=(d::l).map (·+48))(h0:d=0->l=[])(hd:∀ e∈d::l,e<10)(hl:(d::l).length<=640):Meets (Builtin.«int.__new__» ⟨[.type "int",.str x t],[]⟩) (Made.int ((d::l).foldl (fun a e=>a*10+e) 0:Nat)).spec :=
 Meets.of_wp fun prog w A R s hs=>by
  obtain⟨hp,g,dr,tk,os⟩:=s;have f1:=F.conv_sub_int;have f2:=F.madeHere_int;have f3:=uA;have f4:=uz;have f5:=qg;have hT:(⟨hp,g,dr,tk,os⟩:Shared).TypeIs (.str x t) "str":=rfl
  have g1:(x.cps.all fun x=>decide (x<128))=true:=by
   rw[<-Array.all_toList,hx,CB];intro c hc;obtain⟨e,he,rfl⟩:=BZ.mp hc;have:=hd e he;exact BI (by omega)
  have g2:x.cps.toList.takeWhile (fun x=>x != 0)=x.cps.toList:=by
   have tw:∀ q:List Nat,(∀ c∈q,c≠0)->q.takeWhile (fun x=>x != 0)=q:=fun q=>by
    induction q with
    | nil=>intro _;rfl
    | cons c q ih=>intro h;rw[List.takeWhile_cons_of_pos (by simpa using h c BE),ih fun c hc=>h c (BC _ hc)]
   refine tw _ fun c hc=>?_;rw[hx]at hc;obtain⟨e,he,rfl⟩:=BZ.mp hc;omega
  have g3:x.cps.toList.length<=640:=by rw[hx,Bx];exact hl
  repeat (any_goals (first | assumption | wp_step))
  rw[g1];simp only[if_true,g2,g3];refine Bw (BA ?_)
  have hq:∀ c∈(d::l).map (·+48),∃ e,e<10/\c=e+48:=fun c hc=>by
   obtain⟨e,he,rfl⟩:=BZ.mp hc;exact⟨e,hd e he,rfl⟩
  have hq2:∀ c∈((d::l).map (·+48)).reverse,∃ e,e<10/\c=e+48:=fun c hc=>hq c (List.mem_reverse.mp hc)
  have sz:l.length<=639:=by have:l.length+1<=640:=hl;omega
  rw[hx];rcases jd (hd d BE) with rfl | z
  ·have e0:=h0 rfl
   subst e0
   conv=>arg 3;arg 2;whnf
   show wpAny _ _ (if _ then _ else _) _ _ _
   rw[Bz (by simp)]
   repeat (any_goals (first | assumption | wp_step))
   exact⟨_,rfl,hs⟩
  ·rcases z with rfl | rfl | rfl | rfl | rfl | rfl | rfl | rfl | rfl
   all_goals
    conv=>arg 3;arg 2;whnf
    rw[py (by decide) hq,py (by decide) hq2,List.reverse_reverse]
    conv =>
     arg 3;arg 2;arg 2
     tactic=>exact yz rfl rfl (List.cons_ne_nil _ _) hd (by rintro⟨ds,b⟩ d h;rcases jd h with rfl | rfl | rfl | rfl | rfl | rfl | rfl | rfl | rfl | rfl<;>rfl) fun _=>rfl
    dsimp only;rw[By (by simp),By (by simp;omega),By (by simp)]
    show wpAny _ _ (if _ then _ else _) _ _ _
    rw[Bz (by simp)]
    repeat (any_goals (first | assumption | wp_step))
    refine⟨_,rfl,?_⟩;rw[By BD,List.foldl_toArray];exact hs
structure Num (x:Str)(ds:List Nat):Prop where
 eq:x.cps.toList=ds.map (·+48)
 ne:ds≠[]
 nz:ds.head? = some 0->ds=[0]
 dg:∀ e∈ds,e<10
 ln:ds.length<=12
def numV (ds:List Nat):Nat:=ds.foldl (fun a e=>a*10+e) 0
end Wz
namespace L2
open PySem PySem.Spec PyProof.Rows
theorem tq {X:Cx}:fq X (.type "int") (fun xs H Q=>∃ x ds,xs=[.str x]/\Wz.Num x ds/\Q (.int (Wz.numV ds)) H):=by
 intro pins s σ H xs us Q I r h;obtain⟨x,ds,rfl,N,q⟩:=h;obtain⟨u,rfl,rx⟩:=dM r;obtain⟨t,rfl⟩:=rx
 cases ds with
 | nil=>exact absurd rfl N.ne
 | cons d l =>
  have ln:l.length+1<=12:=N.ln
  exact call_int_1 (Wz.meets_int_new_str x t d l N.eq (fun z=>by
   have:=N.nz (by rw[z];rfl)
   exact (List.cons.inj this).2) N.dg (by show l.length+1<=640;omega)) ⟨rfl,.int _,H,I.tok _,⟨_,rfl⟩,q⟩
def xG (x:Str):Prop:=x.cps.all (· < 128)=true
def y9 (x:Str):It :=
 ⟨fun i _=>i<x.cps.toList.length,fun i H v H'=>H'=H/\∃ c,x.cps.toList[i]? = some c/\v=.str ⟨#[c]⟩,fun i _=>x.cps.toList.length<=i⟩
theorem wj {P:Program}{w:World}{K:PySem.W.Frag}{tg:Expr}(x:Str)(t:Tok)(it:Addr):nL P w K tg (y9 x) [it] it (fun i h=>h.IsStrIter it "str_ascii_iterator" x t i) where
 mem:=by simp
 obj:=fun i h st b hb=>by
  have e:b=it:=by simpa using hb
  subst e;obtain⟨o,e,c,d⟩:=st;exact⟨o,e,fun v z=>by rw[d]at z;cases z⟩
 keep:=fun i h h' ⟨o,e,r⟩ k=>⟨o,k it (by simp) o e,r⟩
 item:=by
  intro X hP hw hK hc i pins s σ H E I hf st hg;subst hP hw hK;have hg:i<x.cps.toList.length:=hg;obtain⟨f0,f1,f2,f3,f4,f5⟩:=hf it (by simp)
  have hx:x.cps[i]? = some x.cps.toList[i]:=by simp
  refine wpAny_pyNext_ascii_item st hx fun h' st' sb=>?_;have I1:ao X pins σ H { s with heap:=h',toks:=s.toks+1 }:=I.turned (t':=s.toks+1) (fun b o hb e=>(sb.2 b hb).trans e) f0 f1 f3 f4 f5;obtain⟨o,e,c,d⟩:=id st';exact⟨_,rfl,pC (s:={ s with heap:=h',toks:=s.toks+1 }) e c d (by decide) ⟨.str ⟨#[x.cps.toList[i]]⟩,H,I1,⟨_,rfl⟩,⟨rfl,_,List.getElem?_eq_getElem hg,rfl⟩,st',fun b hb=>(hf b hb).1⟩⟩
 done:=by
  intro X hP hw hK hc i pins s σ H E I hf st hg;subst hP hw hK;have hg:x.cps.toList.length<=i:=hg;obtain⟨f0,f1,f2,f3,f4,f5⟩:=hf it (by simp);refine wpAny_pyNext_ascii_end (I.ok.hd hc) st (by rw[Array.getElem?_eq_none];simpa using hg) fun h' eb=>⟨rfl,I.turned (t':=s.toks) (fun b o hb e=>eb b o hb e) f0 f1 f3 f4 f5⟩
 self:=fun _ _ _ _ _ st h=>wpAny_pyIter_striter_ascii st h
def Az (t:TE):TI:=fun σ H R=>t σ H fun v H1=>∃ x,v=.str x/\xG x/\R (y9 x) H1
theorem yL {X:Cx}{tg l:Expr}{tl:TE}(hl:PE X l tl):PI X tg l (Az tl):=by
 intro pins s σ H R I h;refine aS (hl pins s σ H _ I h) fun v s1 ⟨y,H1,I1,r1,x,e,ha,q⟩=>?_;subst e;obtain⟨t,rfl⟩:=r1;refine wpAny_pyIter_ascii ha ?_;refine⟨s1.heap.objs.size,[s1.heap.objs.size],_,_,H1,rfl,I1.kept (t':=s1.toks) fun b o e=>Heap.get?_push_of_some _ e,wj x t _,⟨_,Heap.get?_push_size _ rfl,rfl,rfl⟩,fun b hb=>?_,q⟩
 have e:b=s1.heap.objs.size:=by simpa using hb
 subst e;exact I1.fpOk (BB _) (I1.hok.fresh (BB _))
theorem wQ {x:Str}{g:TG}{tb:TS}{D:eB}{σ:St}{H:Hp}(Pv:Nat->St->Hp->Prop)(h0:Pv 0 σ H)
  (hs:∀ i c σ H,x.cps.toList[i]? = some c->Pv i σ H->g (.str ⟨#[c]⟩) σ H fun σ2 H2=>tb { D with nx:=Pv (i+1),ct:=Pv (i+1),bk:=D.nx } σ2 H2) (hd:∀ σ H,Pv x.cps.toList.length σ H->D.nx σ H) :
  ∃ W:Nat->Nat->St->Hp->Prop,(∃ m,W 0 m σ H)/\∀ i m σ H,W i m σ H ->
   ((y9 x).stop i H/\D.nx σ H)\/((y9 x).go i H/\∃ N:St->Hp->Prop,(∀ σ' H',N σ' H'->∃ m',m'<m/\W (i+1) m' σ' H')/\∀ v H',(y9 x).yld i H v H'->g v σ H' fun σ2 H2=>tb { D with nx:=N,ct:=N,bk:=D.nx } σ2 H2):=by
 generalize hl:x.cps.toList.length=n at hd;refine⟨fun i m σ H=>m=n-i/\i<=n/\Pv i σ H,⟨n,by simp,BY _,h0⟩,?_⟩;rintro i m σ H ⟨rfl,hi,p⟩
 by_cases hlt:i<n
 ·refine .inr ⟨show i<x.cps.toList.length by omega,Pv (i+1),fun σ' H' p'=>⟨n-(i+1),by omega,rfl,hlt,p'⟩,fun v H' y=>?_⟩
  obtain⟨e,c,hc,e2⟩:=y;subst e e2;exact hs i c σ _ hc p
 ·have e:i=n:=by omega
  subst e;exact .inl ⟨show x.cps.toList.length<=i by omega,hd σ H p⟩
theorem i7:∀ l:List (Str×Tok),aL ((l.map (·.1)).map V.str) (strValues l)
 | []=>.nil
 | p::l=>.cons ⟨p.2,rfl⟩ (i7 l)
def vR:V->List V->Hp->VK->Prop:=fun x xs H Q=>∃ z y,x=.str z/\xs=[.str y]/\(y.length == 0)=false/\z.length<=1000000/\∀ l,H l=none->Q (.ref l) (upd H l (.lst ((Txt.split z y).map V.str)))
theorem vi {X:Cx}:An X "str.split" vR:=by
 intro pins s σ H x xs v us Q I rx rv h;obtain⟨z,y,rfl,rfl,hy,hz,q⟩:=h;obtain⟨t,rfl⟩:=rx;obtain⟨u,rfl,ru⟩:=dM rv;obtain⟨t2,rfl⟩:=ru;have sl:sizeLine=16777216:=Cv
 have fin:∀ (l:List (Str×Tok))(k:Nat),l.length<=sizeLine->l.map (·.1)=Txt.split z y->EP X pins σ Q (.ref s.heap.objs.size) { s with toks:=k,heap:=s.heap.push { cls:=.type "list",data:=.seq (strValues l).toArray } }:=fun l k hl e=>by
  have IL:=I.laid (t':=k) (a:=s.heap.objs.size) (o:=.lst ((Txt.split z y).map V.str)) (h':=s.heap.push { cls:=.type "list",data:=.seq (strValues l).toArray }) (fun b o e=>Heap.get?_push_of_some _ e) (BB _)
   (show aM X.prog X.w _ _ _ (.lst _) from ⟨by rw[<-e,Bx,Bx];exact hl,strValues l,_,by rw[<-e];exact i7 l,Heap.get?_push_size _ rfl⟩)
  exact⟨.ref s.heap.objs.size,_,IL,rfl,q _ (I.hok.fresh (BB _))⟩
 have nl:∀ k ps,(numbered k ps).length=ps.length:=fun k ps=>by rw[<-Bx (f:=(·.1)),numbered_texts]
 have pl:(Builtin.Str.partsBetween z (Builtin.Str.occurrences z y 0 z.length (z.length+1)) y.length).length<=sizeLine:=by
  rw[length_partsBetween];have:=StrLaws.occ_length_le z y 0 z.length (z.length+1);omega
 cases h1:(decide (z.length<y.length)||decide (Builtin.Str.strKind z<Builtin.Str.strKind y)) with
 | true=>exact call_meets F.slot_str_split (typeIs_str _ _ _) F.entry_str_split (F.args_str_split_2 _ _) (meets_str_split_cannot_occur z y t t2 h1) (fin [(z,t)] s.toks (by show 1<=sizeLine;decide) (Bz h1).symm)
 | false =>
  cases hf:(Builtin.Str.occurrences z y 0 z.length (z.length+1)).isEmpty with
  | true=>exact call_meets F.slot_str_split (typeIs_str _ _ _) F.entry_str_split (F.args_str_split_2 _ _) (meets_str_split_not_found z y t t2 h1 hy hf) (fin [(z,t)] s.toks (by show 1<=sizeLine;decide) ((By (ne_true_of_eq_false h1)).trans (Bz hf)).symm)
  | false =>
   refine call_meets F.slot_str_split (typeIs_str _ _ _) F.entry_str_split (F.args_str_split_2 _ _) (meets_str_split_sep z y t t2 h1 hy hf (by omega) pl) ?_;rw[strsFrom_eq];exact fin (numbered s.toks _) _ (by rw[nl];exact pl) ((numbered_texts _ _).trans ((By (ne_true_of_eq_false h1)).trans (By (ne_true_of_eq_false hf))).symm)
theorem p7 {X:Cx}{o e:Expr}{to te:TE}{apos cpos:Pos}(ho:PE X o to)(he:PE X e te)(hbase:attributeBase o "split" X.env (eval o X.env)=eval o X.env:=by rfl)
  (hfew:((backTo cpos (starEach [e] X.env)).all (fun x=>!x.1)&&(backToKw cpos (keywordEach [] X.env)).all (fun x=>x.1.isSome)&&decide ([e].length+([]:List Keyword).length+(if ([]:List Keyword).isEmpty then 0 else 1)<30))=true:=by rfl)
  (hline:(apos.endLine == cpos.line)=true:=by rfl) (hs:starEach [e] X.env=(false,eval e X.env)::starEach [] X.env:=by rfl) (hplain:(backTo cpos (starEach [] X.env)).any (·.1)=false:=by rfl) :
  PE X (.Call (.Attribute o "split" apos) [e] [] cpos) (AN X.K "str" vR to (gT te ke)) :=
 iE PySem.F.plainAttrs_str PySem.F.slot_str_split PySem.F.type_str_split vi ho (aj he az hs) hbase hfew hline hs hplain
end L2
namespace Wz
open PySem L2
def jY (c:Nat):List Nat->List (List Nat)
 | []=>[[]]
 | a::l=>if a=c then []::jY c l else match jY c l with | []=>[[a]] | p::ps=>(a::p)::ps
def hU (c:Nat):List Nat->List Nat
 | []=>[]
 | a::l=>(if a=c then [0] else [])++(hU c l).map (·+1)
theorem nk (c a:Nat)(l:List Nat):hU c (a::l)=(if a=c then [0] else [])++(hU c l).map (·+1):=rfl
theorem dE (c a:Nat)(l:List Nat):jY c (a::l)=if a=c then []::jY c l else match jY c l with | []=>[[a]] | p::ps=>(a::p)::ps:=rfl
theorem lF (c:Nat):∀ (l:List Nat)(k m:Nat),m=l.length+1->(List.range' k m).filter (fun i=>decide (l[i-k]? = some c))=(hU c l).map (·+k)
 | [],k,m,h=>by
  subst h;simp[hU]
 | a::l,k,m,h=>by
  subst h;have ih:=lF c l (k+1) (l.length+1) rfl;rw[show (a::l).length+1=(l.length+1)+1 from rfl,List.range'_succ,List.filter_cons]
  have e1:(a::l)[k-k]? = some a:=by simp
  have e2:(List.range' (k+1) (l.length+1)).filter (fun i=>decide ((a::l)[i-k]? = some c))=(List.range' (k+1) (l.length+1)).filter (fun i=>decide (l[i-(k+1)]? = some c)):=List.filter_congr fun i hi=>by
   have:=(List.mem_range'_1.mp hi).1;rw[show i-k=(i-(k+1))+1 by omega];rfl
  rw[e1,e2,ih,nk]
  by_cases z:a=c
  ·rw[Bz (by rw[z];exact BI rfl),Bz z]
   simp[Function.comp_def,Nat.add_assoc,Nat.add_comm 1 k]
  ·rw[By (by simpa using z),By z]
   simp[Function.comp_def,Nat.add_assoc,Nat.add_comm 1 k]
theorem lf (x:Str)(c:Nat):∀ (m k:Nat)(arr:Array Nat)(free:Nat),k+m=x.length+1->free<=k->arr.size<=k ->
  (forIn (List.range' k m) (arr,free) (StrLaws.occBody x ⟨#[c]⟩ x.length (x.length+1))).run.fst.toList=arr.toList++(List.range' k m).filter (fun i=>decide (x.cps.toList[i]? = some c))
 | 0,k,arr,free,_,_,_=>by simp
 | m+1,k,arr,free,h,hf,ha=>by
  rw[List.range'_succ,List.forIn_cons,List.filter_cons];have so:=StrLaws.subAt_one x c k;unfold StrLaws.occBody
  by_cases z:x.cps.toList[k]? = some c
  ·have s2:=so.mpr z
   rw[Bz ⟨⟨⟨by show arr.size<x.length+1;omega,hf⟩,s2.1⟩,s2.2⟩,Bz (BI z)];have ih:=lf x c m (k+1) (arr.push k) (k+(⟨#[c]⟩:Str).length) (by omega) (BB _) (by rw[Array.size_push];omega);refine Eq.trans ih ?_;simp
  ·rw[By (fun q=>z (so.mp ⟨q.1.2,q.2⟩)),By (by rw[BQ z];exact BD)]
   exact lf x c m (k+1) arr free (by omega) (by omega) (by omega)
theorem xi (x:Str)(c:Nat):Builtin.Str.occurrences x ⟨#[c]⟩ 0 x.length (x.length+1)=hU c x.cps.toList:=by
 rw[StrLaws.occ_eq,lf x c _ 0 #[] 0 (by omega) (BB _) (BB _)];have:=lF c x.cps.toList 0 (x.length+1-0) (by show x.length+1=_;rw[B1];rfl);simpa using this
def gF (l:List Nat)(p:Nat×Nat):List Nat:=(l.drop p.1).take (p.2-p.1)
def mR (l:List Nat)(cs:List Nat):List (List Nat):=((0::cs.map (·+1)).zip (cs++[l.length])).map (gF l)
theorem v6 (a:Nat)(l:List Nat)(p:Nat×Nat):gF (a::l) (p.1+1,p.2+1)=gF l p:=by
 unfold gF;rw[List.drop_succ_cons,Nat.add_sub_add_right]
theorem lU (a:Nat)(l:List Nat):∀ (us vs:List Nat),((us.map (·+1)).zip (vs.map (·+1))).map (gF (a::l))=(us.zip vs).map (gF l)
 | [],_=>by simp
 | _::_,[]=>by simp
 | u::us,v::vs=>by
  rw[BO,BO,CF,BO,CF,BO,lU a l us vs];rw[show gF (a::l) (u+1,v+1)=gF l (u,v) from v6 a l (u,v)]
theorem kG (c:Nat):∀ l:List Nat,mR l (hU c l)=jY c l
 | []=>rfl
 | a::l=>by
  have ih:=kG c l;unfold mR;rw[nk]
  by_cases z:a=c
  ·rw[Bz z]
   have e1:((0:Nat)::(([0]++(hU c l).map (·+1)).map (·+1)))=0::((0::(hU c l).map (·+1)).map (·+1)):=by simp
   have e2:([0]++(hU c l).map (·+1))++[(a::l).length]=0::((hU c l++[l.length]).map (·+1)):=by simp
   rw[e1,e2,CF,BO,lU,show (((0::(hU c l).map (·+1)).zip (hU c l++[l.length])).map (gF l))=jY c l from ih,dE,Bz z];rfl
  ·rw[By z,dE,By z,<-ih]
   unfold mR
   cases hp:hU c l with
   | nil=>simp[gF]
   | cons q qs =>
    have e1:((0:Nat)::(([]++(q::qs).map (·+1)).map (·+1)))=0::(((q::qs).map (·+1)).map (·+1)):=by simp
    have e2:([]++(q::qs).map (·+1))++[(a::l).length]=(q+1)::((qs++[l.length]).map (·+1)):=by simp
    rw[e1,e2,CF,BO,lU]
    show _=(a::gF l (0,q))::_
    rw[show gF (a::l) (0,q+1)=a::gF l (0,q) by simp[gF]];rfl
theorem vx (x:Str)(cs:List Nat):(Builtin.Str.partsBetween x cs 1).map (·.cps.toList)=mR x.cps.toList cs:=by
 unfold Builtin.Str.partsBetween mR;rw[B0,B1];refine Cc fun p _=>?_;obtain⟨i,j⟩:=p
 show (Builtin.Str.strSub x i j).cps.toList=_
 unfold Builtin.Str.strSub gF;simp
theorem ux (x:Str){c:Nat}(hc:c<256):(Txt.split x ⟨#[c]⟩).map (·.cps.toList)=jY c x.cps.toList:=by
 have e0:∀ y:Str,(decide (x.length<y.length)||decide (Builtin.Str.strKind x<Builtin.Str.strKind y))=true->y=⟨#[c]⟩->x.cps.toList=[]:=fun y h e=>by
  subst e
  have k1:Builtin.Str.strKind ⟨#[c]⟩=1:=by unfold Builtin.Str.strKind;rw[Bz (by simpa using hc)]
  have k2:1<=Builtin.Str.strKind x:=by
   unfold Builtin.Str.strKind;split
   ·decide
   ·split<;>decide
  rw[k1]at h
  have:x.length<1:=by
   rw[Bool.or_eq_true]at h;rcases h with z | z
   ·exact Cd z
   ·have:=Cd z;omega
  have:x.cps.size=0:=by have t:x.cps.size<1:=this;omega
  simpa using this
 unfold Txt.split
 by_cases h1:(decide (x.length<(⟨#[c]⟩:Str).length)||decide (Builtin.Str.strKind x<Builtin.Str.strKind ⟨#[c]⟩))=true
 ·rw[Bz h1]
  have:=e0 _ h1 rfl
  show [x.cps.toList]=_
  rw[this];rfl
 ·rw[By h1,xi]
  by_cases h2:(hU c x.cps.toList).isEmpty=true
  ·rw[Bz h2,<-kG,List.isEmpty_iff.mp h2]
   simp only[mR,gF,List.map_nil,List.nil_append,CF,List.zip_nil_left,BO,List.drop_zero,Nat.sub_zero];rw[List.take_of_length_le (BB _)]
  ·rw[By h2]
   exact (vx x _).trans (kG c _)
theorem sN {c:Nat}:∀ {p:List Nat},c∉p->jY c p=[p]
 | [],_=>rfl
 | a::p,h=>by
  rw[dE,By (fun z=>h (by rw[z];exact BE)),sN fun z=>h (BC _ z)]
theorem o9 {c:Nat}:∀ {p:List Nat}(r:List Nat),c∉p->jY c (p++c::r)=p::jY c r
 | [],r,_=>by show jY c (c::r)=_;rw[dE,Bz rfl]
 | a::p,r,h=>by
  show jY c (a::(p++c::r))=_
  rw[dE,By (fun z=>h (by rw[z];exact BE)),o9 r fun z=>h (BC _ z)]
end Wz
namespace L2
open PySem PySem.Spec PyProof.Rows
def yn (p:Params)(q:(Str×Int)×Tok×Tok):DictEntry:=⟨PyData.keyHash p q.1.1,.str q.1.1 q.2.1,.int q.1.2 q.2.2⟩
def gObj (p:Params)(xs:List (Str×Int))(ts:List (Tok×Tok))(n:Nat):Obj:={ cls:=.type "dict",data:=.dict ((xs.zip ts).map (yn p)).toArray n }
structure GD (K:PySem.W.Frag)(p:Params)(a:Addr)(xs:List (Str×Int)):Prop where
 nd:(xs.map (·.1)).Nodup
 ns:(a == sysModules)=false
 at':∃ ts n,ts.length=xs.length/\K.lookup a=some (gObj p xs ts n)
def qB (xs:List (Str×Int))(z:Str):V:=match xs.lookup z with | some i=>.int i | none=>.non
def zg (q:(Str×Int)×Tok×Tok):bv×Value:=(.inr q.1.1,.int q.1.2 q.2.2)
theorem pB (P:Program)(w:World):∀ l:List ((Str×Int)×Tok×Tok),Pairs (aQ P w) (l.map (yn w.params)) (l.map zg)
 | []=>.nil
 | q::l=>.cons (dO P w q.1.1 q.2.1) rfl (pB P w l)
theorem rY:∀ (xs:List (Str×Int))(ts:List (Tok×Tok)),ts.length=xs.length->((xs.zip ts).map zg).map (·.1)=(xs.map (·.1)).map Sum.inr
 | [],_,_=>rfl
 | x::xs,[],h=>by cases h
 | x::xs,t::ts,h=>by
  rw[CF,BO,BO,rY xs ts (by simpa using h)];rfl
theorem u4:∀ (xs:List (Str×Int))(ts:List (Tok×Tok))(z:Str),ts.length=xs.length->aG (qB xs z) ((valueAt ((xs.zip ts).map zg) (Sum.inr z)).getD .none)
 | [],_,_,_=>rfl
 | x::xs,[],_,h=>by cases h
 | x::xs,t::ts,z,h=>by
  have ih:=u4 xs ts z (by simpa using h);unfold qB valueAt at *;rw[CF,BO,Cb,List.find?_cons]
  show aG (match (match z == x.1 with | true=>some x.2 | false=>xs.lookup z) with | some i=>V.int i | none=>V.non) _
  by_cases e:z=x.1
  ·have e1:(z == x.1)=true:=by rw[e];simp
   have e2:decide ((zg (x,t)).1=Sum.inr z)=true:=BI (by rw[e];rfl);rw[e1,e2];exact⟨t.2,rfl⟩
  ·have e1:(z == x.1)=false:=by simpa using e
   have e2:decide ((zg (x,t)).1=Sum.inr z)=false:=BQ (fun q=>e (Sum.inr.inj q).symm);rw[e1,e2];exact ih
theorem rX {K:PySem.W.Frag}{P:Program}{w:World}{a:Addr}{xs:List (Str×Int)}{h:Heap}(g:GD K w.params a xs)(k:K.In h):∃ ts:List (Tok×Tok),ts.length=xs.length/\h.DictOf (aQ P w) a ((xs.zip ts).map zg):=by
 obtain⟨ts,n,hl,e⟩:=g.at';refine⟨ts,hl,_,_,_,k _ _ e,⟨rfl,rfl,rfl⟩,rfl,fun en hen=>?_,?_,?_⟩
 ·have hen:en∈(xs.zip ts).map (yn w.params):=by simpa using hen
  obtain⟨q,_,rfl⟩:=BZ.mp hen;exact⟨.inr q.1.1,dO P w q.1.1 q.2.1,rfl⟩
 ·have:=pB P w (xs.zip ts)
  simpa using this
 ·rw[rY xs ts hl]
  exact List.Pairwise.map _ (fun x y ne e=>ne (Sum.inr.inj e)) g.nd
def z4 (xs:List (Str×Int))(ty:TE):TE:=fun σ H Q=>ty σ H fun y H1=>∃ z,y=.str z/\Q (qB xs z) H1
theorem xn {X:Cx}{x:Str}{a:Addr}{xs:List (Str×Int)}{e:Expr}{p apos cpos:Pos}{ty:TE}(g:GD X.K X.w.params a xs)(hg:Gl X x)(hm:X.mg x=some (.ref a))(he:PE X e ty)(m:M1 X (.Name x p) "get" apos e cpos)
  (hd:(x == ("__debug__" : Str))=false:=by decide):PE X (.Call (.Attribute (.Name x p) "get" apos) [e] [] cpos) (z4 xs ty):=by
 intro pins s σ H Q I h;refine wpAny_Call_method m.base m.few m.line PySem.F.plainAttrs_dict CU PySem.F.type_dict_get (cU I hg hm ?_ hd);have kin:∀ {s1:Shared}{H1:Hp},ao X pins σ H1 s1->X.K.In s1.heap:=fun I1 a o e=>I1.bk a o (I1.mod.kin a o e);obtain⟨ts,hl,dd⟩:=rX (P:=X.prog) g (kin I);refine⟨dd.typeIs,fun b q=>?_,?_⟩
 ·cases q
  obtain⟨ob,_,_,h1,h2,_⟩:=dd;exact⟨ob,h1,h2.2.1⟩
 rw[m.trees];refine CS rfl (Cw (Cn (aS (he pins s σ H _ I h) fun iv s2 ⟨y,H2,I2,ry,z,e1,q2⟩=>CM ?_)));subst e1;obtain⟨t,rfl⟩:=ry;obtain⟨ts2,hl2,dd2⟩:=rX (P:=X.prog) g (kin I2);exact call_meetsIn CU dd2.typeIs PySem.F.entry_dict_get (PySem.F.args_dict_get_2 _ _) (meets_dict_get (aQ X.prog X.w) a (dO X.prog X.w z t) g.ns) ⟨_,dd2.mapOf,_,H2,I2.tok _,u4 xs ts2 z hl2,q2⟩
end L2
namespace Wz
open PySem L2
theorem vo (ds:List Nat)(e:Nat):numV (ds++[e])=numV ds*10+e:=by unfold numV;rw[List.foldl_append];rfl
theorem Aw (n:Nat):∃ ds:List Nat,(Nat.toDigits 10 n).map Char.toNat=ds.map (·+48)/\ds≠[]/\(ds.head? = some 0->n=0)/\(∀ e∈ds,e<10)/\numV ds=n/\(n=0->ds=[0])/\∀ k,1<=k->n<10 ^ k->ds.length<=k:=by
 induction n using Nat.strongRecOn with
 | _ n ih =>
  have dc:∀ d,d<10->(Nat.digitChar d).toNat=d+48:=fun d h=>by
   rcases jd h with rfl | rfl | rfl | rfl | rfl | rfl | rfl | rfl | rfl | rfl<;>rfl
  by_cases h:n<10
  ·rw[Nat.toDigits_of_lt_base h]
   refine⟨[n],by show [(Nat.digitChar n).toNat]=[n+48];rw[dc n h],by simp,fun z=>by simpa using z,fun e he=>by rw[BW.mp he];exact h,by show 0*10+n=n;omega,fun z=>by rw[z],fun k hk _=>by simpa using hk⟩
  ·rw[Nat.toDigits_of_base_le (by decide) (by omega)]
   obtain⟨ds,h1,h2,h3,h4,h5,_,h6⟩:=ih (n/10) (by omega);refine⟨ds++[n%10],?_,by simp,fun z=>?_,fun e he=>?_,?_,fun z=>by omega,fun k hk hn=>?_⟩
   ·rw[BX,h1,BX]
    show _++[(Nat.digitChar (n%10)).toNat]=_++[n%10+48]
    rw[dc _ (by omega)]
   ·cases ds with
    | nil=>exact absurd rfl h2
    | cons d ds=>have:=h3 z;omega
   ·rcases B7.mp he with y | y
    ·exact h4 e y
    ·rw[BW.mp y];omega
   ·rw[vo,h5];omega
   ·rw[BR,CT]
    cases k with
    | zero=>omega
    | succ k =>
     by_cases k0:k=0
     ·subst k0;omega
     ·have:=h6 k (by omega) (by rw[Nat.pow_succ]at hn;omega)
      omega
theorem xh {g:Int}(h0:0<=g)(h:g<10 ^ 12):∃ ds,Num (c6 g) ds/\(numV ds:Int)=g:=by
 obtain⟨n,rfl⟩:=Int.eq_ofNat_of_zero_le h0;obtain⟨ds,h1,h2,h3,h4,h5,h7,h6⟩:=Aw n;refine⟨ds,⟨?_,h2,fun z=>?_,h4,h6 12 (by decide) (by omega)⟩,by rw[h5]⟩
 ·unfold c6
  rw[show toString (n:Int)=String.ofList (Nat.toDigits 10 n) from rfl,Str.ofString_eq_toList]
  show ((String.ofList (Nat.toDigits 10 n)).toList.map Char.toNat)=_
  rw[String.toList_ofList,h1]
 ·have hn:=h3 z
  exact h7 hn
theorem vp {z:Str}{ds es:List Nat}(a:Num z ds)(b:Num z es):ds=es:=by
 have:=a.eq.symm.trans b.eq;exact (List.map_inj_right (fun x y e=>by omega)).mp this
end Wz
namespace L2
open PySem PySem.Spec PyProof.Rows
theorem p6 {X:Cx}{x:Str}{v:V}{pos:Pos}(hg:Gl X x)(hm:∃ u,X.mg x=some u/\aG v u)(hd:(x == ("__debug__" : Str))=false:=by decide):PE X (.Name x pos) (tC v):=by
 obtain⟨u,hm,r⟩:=hm;exact sw hg hm r hd
end L2
namespace Wz
open PySem L2
def sizesD:List (Str×Int):=[("come",2),("go",2),("exchange",3)]
structure HB (K:PySem.W.Frag)(mg:Str->Option Value)(w:World)(dz:Addr):Prop where
 md:∃ u,mg "MOST_DIGITS" = some u/\aG (.int 12) u
 dg:∃ u,mg "DIGITS" = some u/\aG (.str "0123456789") u
 ms:mg "DEED_SIZES" = some (.ref dz)
 gd:GD K w.params dz sizesD
inductive xA (vs:List V) (H:Hp) (Q:VK) (E:XK):Prop
 | mk (z:Str) (h_0:vs=[.str z]) (h_1:xG z) (h_2:z.length<=100000) (h_3:∀ ds H',Num z ds->aH H H'->Q (.int (numV ds)) H') (h_4:(∀ ds,¬ Num z ds)->∀ H',aH H H'->Q .non H'):xA vs H Q E
theorem uy {te:TE}{Qf:Hp->Prop}{x:Str}{q:Addr}{f:Nat->Bool}{rest:L2.St}{H:Hp}(hq:H q=none)(hlen:x.cps.toList.length<=1000)
  (ht:∀ (c:Nat)(HK:Hp)(Q':VK),aH H HK->(∀ H5,aH HK H5->Q' (.bl (f c)) H5)->te (some (.str ⟨#[c]⟩)::rest) HK Q') (k:∀ (HK:Hp),aH H HK->HK q=some (.lst ((x.cps.toList.map f).map V.bl))->Qf HK) :
  jO (y9 x) (mV 0) (wy rD te q) { nx:=fun _ H'=>Qf H',rt:=fun _ _=>False } (none::rest) (upd H q (.lst [])):=by
 refine wQ (fun i σ HK=>∃ v:Option V,σ=v::rest/\aH H HK/\HK q=some (.lst (((x.cps.toList.take i).map f).map V.bl))) ⟨none,rfl,am hq,ae⟩ ?_ ?_
 ·rintro i c σ HK hi ⟨v,rfl,t1,hq2⟩
  have hil:i<x.cps.toList.length:=(List.getElem?_eq_some_iff.mp hi).1;refine fo (ht c HK _ t1 fun H5 s5=>⟨_,s5 _ _ hq2,by rw[Bx,Bx,CA];exact aZ (by omega),_,rfl,bW (t1.trans s5) hq,?_⟩);rw[ae,Ce,hi,Co,BX,BX];rfl
 ·rintro σ HK ⟨v,rfl,t1,hq2⟩
  rw[Ct]at hq2;exact k HK t1 hq2
def kQ (c:Nat):Bool:=decide (48<=c/\c<58)
theorem yj (c:Nat):(!(Builtin.Str.occurrences (Str.ofString "0123456789") ⟨#[c]⟩ 0 (Str.ofString "0123456789").length 1).isEmpty)=kQ c:=by
 rw[StrLaws.found_one]
 have e:(Str.ofString "0123456789").cps.toList=[48,49,50,51,52,53,54,55,56,57]:=by decide +kernel
 rw[e];unfold kQ;rw[decide_eq_decide];simp only[BH,Cu,or_false];omega
theorem iA (z:Str):(∃ ds,Num z ds)↔1<=z.length/\z.length<=12/\(∀ c∈z.cps.toList,kQ c=true)/\¬ (z.cps.toList.head? = some 48/\z.cps.toList≠[48]):=by
 have hz:z.length=z.cps.toList.length:=by rw[B1];rfl
 rw[hz];constructor
 ·rintro⟨ds,N⟩
  have h1:=N.ne;have h2:=N.ln;have h3:=N.nz;rw[N.eq,Bx];refine⟨?_,h2,fun c hc=>?_,fun ⟨a,b⟩=>?_⟩
  ·cases ds with
   | nil=>exact absurd rfl h1
   | cons _ _=>simp
  ·obtain⟨e,he,rfl⟩:=BZ.mp hc
   have:=N.dg e he;exact BI ⟨by omega,by omega⟩
  ·cases ds with
   | nil=>exact absurd rfl h1
   | cons d ds =>
    have d0:d=0:=by simpa using a
    have:=h3 (by rw[d0];rfl);rw[this]at b;exact b rfl
 ·rintro⟨h1,h2,h3,h4⟩
  have hd:∀ c∈z.cps.toList,48<=c/\c<58:=fun c hc=>Cd (h3 c hc);refine⟨z.cps.toList.map (· - 48),⟨?_,?_,fun q=>?_,fun e he=>?_,by rw[Bx];exact h2⟩⟩
  ·rw[B0]
   refine Eq.symm ((Cc (g:=id) fun c hc=>?_).trans (List.map_id _));have:=hd c hc
   show c-48+48=c
   omega
  ·intro q
   have:=CV List.length q;rw[Bx]at this;have this:z.cps.toList.length=0:=this;omega
  ·rw[List.head?_map]at q
   cases hc:z.cps.toList.head? with
   | none=>rw[hc]at q;cases q
   | some c =>
    rw[hc]at q;have q:c-48=0:=BF q;have cm:c∈z.cps.toList:=List.mem_of_mem_head? hc;have:=hd c cm
    have c48:c=48:=by omega
    have l48:z.cps.toList=[48]:=Classical.byContradiction fun n=>h4 ⟨by rw[hc,c48],n⟩;rw[l48];rfl
  ·obtain⟨c,hc,rfl⟩:=BZ.mp he
   have:=hd c hc;omega
theorem v2 {z y:Str}:decide (V.str z=V.str y)=decide (z.cps.toList=y.cps.toList):=by
 rw[decide_eq_decide];constructor
 ·intro e;rw[V.str.inj e]
 ·intro e
  obtain⟨⟨l⟩⟩:=z;obtain⟨⟨m⟩⟩:=y;have e:l=m:=e;rw[e]
open Classical in
noncomputable def numW (z:Str):V:=if h:∃ ds,Num z ds then .int (numV h.choose) else .non
theorem lb {z:Str}{ds:List Nat}(h:Num z ds):numW z=.int (numV ds):=by
 have e:∃ ds,Num z ds:=⟨ds,h⟩;unfold numW;rw[dif_pos e,vp e.choose_spec h]
theorem pT {z:Str}(h:∀ ds,¬ Num z ds):numW z=.non:=by
 unfold numW;rw[dif_neg fun ⟨ds,e⟩=>h ds e]
theorem jq (z:Str):fA (numW z)=true:=by
 unfold numW;split<;>rfl
theorem ki {c:Nat}:∀ {l p:List Nat},p∈jY c l->(∀ a∈p,a∈l)/\p.length<=l.length
 | [],p,h=>by
  rw[show jY c []=[[]] from rfl,BW]at h;subst h;exact⟨fun a ha=>(by cases ha),BB _⟩
 | b::l,p,h=>by
  rw[dE]at h
  by_cases z:b=c
  ·rw[Bz z]at h
   rcases BH.mp h with e | e
   ·subst e;exact⟨fun a ha=>(by cases ha),BY _⟩
   ·have:=ki e
    exact⟨fun a ha=>BC _ (this.1 a ha),Nat.le_succ_of_le this.2⟩
  ·rw[By z]at h
   cases hs:jY c l with
   | nil =>
    rw[hs]at h;have e:=BW.mp h;subst e;exact⟨fun a ha=>by rw[BW.mp ha];exact BE,by simp⟩
   | cons q qs =>
    rw[hs]at h;rcases BH.mp h with e | e
    ·subst e
     have:=ki (c:=c) (l:=l) (p:=q) (by rw[hs];exact BE)
     exact⟨fun a ha=>by
      rcases BH.mp ha with y | y
      ·rw[y];exact BE
      ·exact BC _ (this.1 a y),Nat.succ_le_succ this.2⟩
    ·have:=ki (c:=c) (l:=l) (p:=p) (by rw[hs];exact BC _ e)
     exact⟨fun a ha=>BC _ (this.1 a ha),Nat.le_succ_of_le this.2⟩
theorem r6 (c:Nat):∀ l:List Nat,(jY c l).length<=l.length+1/\jY c l≠[]
 | []=>⟨BB _,by simp[jY]⟩
 | b::l=>by
  have ih:=r6 c l;rw[dE]
  by_cases z:b=c
  ·rw[Bz z];exact⟨by rw[BU,BU];omega,by simp⟩
  ·rw[By z]
   cases hs:jY c l with
   | nil=>exact absurd hs ih.2
   | cons q qs=>rw[hs]at ih;exact⟨by have:=ih.1;rw[BU]at *;rw[BU];omega,by simp⟩
def ig (c:Nat)(z:Str):List Str:=Txt.split z ⟨#[c]⟩
theorem lS {c:Nat}(hc:c<256)(z:Str):(ig c z).map (·.cps.toList)=jY c z.cps.toList:=ux z hc
theorem nF {c:Nat}(hc:c<256){z:Str}{ws:List Str}(h:ws.map (·.cps.toList)=jY c z.cps.toList):ig c z=ws:=by
 have:=(lS hc z).trans h.symm
 exact (List.map_inj_right (fun x y e=>by
  obtain⟨⟨l⟩⟩:=x;obtain⟨⟨m⟩⟩:=y;have e:l=m:=e
  rw[e])).mp this
theorem uG {c:Nat}(hc:c<256){z:Str}(a:xG z):(ig c z).length<=z.length+1/\∀ w∈ig c z,xG w/\w.length<=z.length:=by
 have hz:z.length=z.cps.toList.length:=by rw[B1];rfl
 have e:=lS hc z;refine⟨?_,fun w hw=>?_⟩
 ·rw[<-Bx (f:=(·.cps.toList)),e,hz]
  exact (r6 c _).1
 ·have hm:w.cps.toList∈jY c z.cps.toList:=by rw[<-e];exact C3 (f:=(·.cps.toList)) hw
  have:=ki hm;refine⟨?_,by rw[hz];show w.cps.size<=_;rw[<-B1];exact this.2⟩;unfold xG at a ⊢;rw[<-Array.all_toList,CB]at a ⊢;exact fun x hx=>a x (this.1 x hx)
theorem tX {K:PySem.W.Frag}{te:TE}{Qf:Hp->Prop}{lr q:Addr}{α:Type}(g:α->V){rs:List α}{f:α->V}{rest:L2.St}{H:Hp}(hq:H q=none)(h1:H lr=some (.lst (rs.map g)))(hlen:rs.length<=1000)
  (ht:∀ (r:α)(HK:Hp)(Q':VK),r∈rs->aH H HK->(∀ H5,aH HK H5->Q' (f r) H5)->te (some (g r)::rest) HK Q') (k:∀ (HK:Hp),aH H HK->HK q=some (.lst (rs.map f))->Qf HK) :
  jO (y6 K lr) (mV 0) (wy rD te q) { nx:=fun _ H'=>Qf H',rt:=fun _ _=>False } (none::rest) (upd H q (.lst [])):=by
 refine cZ (K:=K) (a:=lr) (xs:=rs.map g) (fun i σ HK=>∃ v:Option V,σ=v::rest/\aH H HK/\HK q=some (.lst ((rs.take i).map f))) ⟨none,rfl,am hq,ae⟩ (fun i σ HK _ ⟨_,_,s2,_⟩=>bd.of (s2 _ _ h1)) ?_ ?_
 ·rintro i y σ HK hi ⟨v,rfl,t1,hq2⟩
  obtain⟨r,hr0,rfl⟩:=bP hi;have hil:i<rs.length:=(List.getElem?_eq_some_iff.mp hr0).1;refine fo (ht r HK _ (B9 hr0) t1 fun H5 s5=>⟨_,s5 _ _ hq2,by rw[Bx,CA];exact aZ (by omega),_,rfl,bW (t1.trans s5) hq,?_⟩);rw[ae,Ce,hr0,Co,BX];rfl
 ·rintro σ HK ⟨v,rfl,t1,hq2⟩
  rw[Bx,Ct]at hq2;exact k HK t1 hq2
inductive xz (vs:List V) (H:Hp) (Q:VK) (E:XK):Prop
 | mk (z w0:Str) (ws:List Str) (h_0:vs=[.str z]) (h_1:xG z) (h_2:z.length<=900) (h_3:ig 32 z=w0::ws) (h_4:(∀ w∈ws,∃ ds,Num w ds)->∀ (t:Addr)(H':Hp),H t=none->aH H H'->H' t=some (.tup (.str w0::ws.map numW))->Q (.ref t) H') (h_5:(∃ w∈ws,∀ ds,¬ Num w ds)->∀ H',aH H H'->Q .non H'):xz vs H Q E
def cv (x:Str):List Nat:=x.cps.toList
theorem rO (x:Str):x.length=(cv x).length:=by unfold cv;rw[B1];rfl
theorem wF (x y:Str):cv (x++y)=cv x++cv y:=by
 show (x.cps++y.cps).toList=_
 rw[Array.toList_append];rfl
theorem mX (g:Array Nat):∀ (ps:List Str)(a:Array Nat),(ps.foldl (fun acc p=>acc++g++p.cps) a).toList=a.toList++(ps.map fun p=>g.toList++cv p).flatten
 | [],a=>by simp
 | p::ps,a=>by
  rw[List.foldl_cons,mX g ps];simp[cv]
theorem rZ (sep p:Str)(ps:List Str):cv (Txt.join sep (p::ps))=cv p++(ps.map fun q=>cv sep++cv q).flatten:=by
 unfold Txt.join Builtin.Str.glued
 show ((ps.foldl (fun acc p=>acc++sep.cps++p.cps) p.cps)).toList=_
 rw[mX];rfl
def uH (g:Int):Prop:=0<=g/\g<10 ^ 12
theorem k8 {g:Int}(h:uH g):∃ ds,Num (c6 g) ds/\(numV ds:Int)=g:=xh h.1 h.2
theorem yC {g:Int}(h:uH g):numW (c6 g)=.int g:=by
 obtain⟨ds,N,e⟩:=k8 h;rw[lb N,e]
theorem du {g:Int}(h:uH g):(∀ c∈cv (c6 g),48<=c/\c<58)/\(cv (c6 g)).length<=12:=by
 obtain⟨ds,N,e⟩:=k8 h;unfold cv;rw[N.eq];refine⟨fun c hc=>?_,by rw[Bx];exact N.ln⟩;obtain⟨d,hd,rfl⟩:=BZ.mp hc;have:=N.dg d hd;exact⟨by omega,by omega⟩
theorem nE (d:aF):(∀ c∈cv (bh d),97<=c/\c<123)/\(cv (bh d)).length<=8:=by
 have e1:cv (Str.ofString "come")=[99,111,109,101]:=by decide +kernel
 have e2:cv (Str.ofString "go")=[103,111]:=by decide +kernel
 have e3:cv (Str.ofString "exchange")=[101,120,99,104,97,110,103,101]:=by decide +kernel
 cases d with
 | come g=>show (∀ c∈cv (Str.ofString "come"),_)/\(cv (Str.ofString "come")).length<=8;rw[e1];decide
 | go g=>show (∀ c∈cv (Str.ofString "go"),_)/\(cv (Str.ofString "go")).length<=8;rw[e2];decide
 | exch a b=>show (∀ c∈cv (Str.ofString "exchange"),_)/\(cv (Str.ofString "exchange")).length<=8;rw[e3];decide
theorem r9 (d:aF):cv (aU d)=cv (bh d)++((names d).map fun g=>32::cv (c6 g)).flatten:=by
 unfold aU b6;rw[rZ,B0]
 have e:cv (Str.ofString " ")=[32]:=by decide +kernel
 have e2:(fun q=>cv (Str.ofString " ")++cv q) ∘ c6=fun g=>32::cv (c6 g):=funext fun g=>by
  show cv (Str.ofString " ")++_=_
  rw[e];rfl
 rw[e2]
theorem nu {p:List Nat}:∀ {qs:List (List Nat)}{p:List Nat},32∉p->(∀ q∈qs,32∉q)->jY 32 (p++(qs.map fun q=>32::q).flatten)=p::qs
 | [],p,hp,_=>by rw[List.map_nil,List.flatten_nil,List.append_nil,sN hp]
 | q::qs,p,hp,hq=>by
  rw[BO,List.flatten_cons,List.cons_append,o9 _ hp];rw[nu (p:=q) (hq q BE) fun r hr=>hq r (BC _ hr)]
theorem qN {d:aF}(h:∀ g∈names d,uH g):ig 32 (aU d)=bh d::(names d).map c6:=by
 refine nF (by decide) ?_
 show _=jY 32 (cv (aU d))
 rw[r9,show ((names d).map fun g=>32::cv (c6 g))=((names d).map fun g=>cv (c6 g)).map fun q=>32::q by rw[B0];rfl,nu (p:=[])]
 ·rw[BO,B0];rfl
 ·intro z;have:=(nE d).1 32 z;omega
 ·intro q hq z
  obtain⟨g,hg,rfl⟩:=BZ.mp hq;have:=(du (h g hg)).1 32 z;omega
theorem jj {d:aF}(h:∀ g∈names d,uH g):(∀ c∈cv (aU d),32<=c/\c<128)/\(cv (aU d)).length<=40:=by
 rw[r9];have w:=nE d;refine⟨fun c hc=>?_,?_⟩
 ·rcases B7.mp hc with z | z
  ·have:=w.1 c z;omega
  ·obtain⟨l,hl,hc⟩:=List.mem_flatten.mp z
   obtain⟨g,hg,rfl⟩:=BZ.mp hl;rcases BH.mp hc with y | y
   ·omega
   ·have:=(du (h g hg)).1 c y;omega
 ·cases d with
  | come g =>
   have:=(du (h g BE)).2;rw[BR]
   have e:((names (.come g)).map fun g=>32::cv (c6 g)).flatten=32::cv (c6 g):=by simp[names]
   rw[e,BU];omega
  | go g =>
   have:=(du (h g BE)).2;rw[BR]
   have e:((names (.go g)).map fun g=>32::cv (c6 g)).flatten=32::cv (c6 g):=by simp[names]
   rw[e,BU];omega
  | exch a b =>
   have h1:=(du (h a BE)).2;have h2:=(du (h b (BC _ BE))).2;rw[BR]
   have e:((names (.exch a b)).map fun g=>32::cv (c6 g)).flatten=32::cv (c6 a)++32::cv (c6 b):=by simp[names]
   rw[e,BR,BU,BU];omega
theorem sS (ds:List aF):cv (gU ds)=(ds.map fun d=>cv (aU d)++[10]).flatten:=by
 have e:cv (Str.ofString "\n")=[10]:=by decide +kernel
 have e0:cv (Str.ofString "")=[]:=by decide +kernel
 have el:∀ d,cv (aU d++Str.ofString "\n")=cv (aU d)++[10]:=fun d=>by rw[wF,e]
 unfold gU
 cases ds with
 | nil=>rfl
 | cons d ds =>
  rw[BO,rZ,el,BO,List.flatten_cons,B0]
  congr 2
  refine Cc fun x _=>?_
  show cv (Str.ofString "")++cv (aU x++Str.ofString "\n")=_
  rw[e0,el];rfl
theorem rE {ds:List aF}(h:∀ d∈ds,∀ g∈names d,uH g):ig 10 (gU ds)=ds.map aU++[Str.ofString ""]:=by
 refine nF (by decide) ?_
 show _=jY 10 (cv (gU ds))
 rw[sS]
 induction ds with
 | nil=>decide +kernel
 | cons d ds ih =>
  have n10:10∉cv (aU d):=fun z=>by have:=(jj (h d BE)).1 10 z;omega
  have e9:((d::ds).map fun d=>cv (aU d)++[10]).flatten=cv (aU d)++10::(ds.map fun d=>cv (aU d)++[10]).flatten:=by simp
  rw[e9];rw[o9 _ n10,<-ih fun x hx=>h x (BC _ hx)];rfl
theorem yf {x:Str}(h:∀ c∈cv x,c<128):xG x:=by
 unfold xG;rw[<-Array.all_toList,CB];exact fun c hc=>BI (h c hc)
theorem wg {ds:List aF}(h:∀ d∈ds,∀ g∈names d,uH g):(gU ds).length<=41*ds.length:=by
 rw[rO,sS]
 induction ds with
 | nil=>exact BB _
 | cons d ds ih =>
  have l1:=(jj (h d BE)).2;have:=ih fun x hx=>h x (BC _ hx);rw[BO,List.flatten_cons,BR,BR,CT,BU];omega
inductive o7 (c:HX) (vs:List V) (H:Hp) (Q:VK) (E_:XK):Prop
 | mk (ds:List aF) (L:List Int) (h_0:vs=[.str (gU ds)]) (h_1:gq ds) (h_2:ds.length<=88) (h_3:L.length<=100) (h_4:(∀ d∈ds,∀ g∈names d,g∈L/\bp g)) (h_5:(∀ d∈ds,∀ g∈names d,uH g)) (h_6:∀ (x:Addr)(B:HA)(H':Hp),H x=none->Ev c H H' x B (hW ds)->Q (.ref x) H'):o7 c vs H Q E_
structure zi (K:PySem.W.Frag)(mg:Str->Option Value)(w:World)(c:HX)(dz:Addr):Prop extends HB K mg w dz where
 ha:PySem.W.findIn K (.ref c.C) "__class__" = some (some (.builtin "object.__class__"))
 hn:PySem.W.specialIn K (.builtin "object.__class__") "__get__" = some (some (.builtin "getset_descriptor.__get__"))
 ht:PySem.W.takesIn K (.builtin "object.__class__")=some true
 hm:PySem.W.mroIn K c.C (.type "object")=some true
 kk:PySem.W.kitOne K (.ref c.C) (.ref c.C)=some true
theorem wU (k c:Int):uH (pD k c):=by
 unfold uH pD;have h:=CH (k*(1+c5 c*1234567891%2147483646)+c5 c/2147483646) (show (2147483647:Int)≠0 by decide);have h2:=Cs (k*(1+c5 c*1234567891%2147483646)+c5 c/2147483646) (show (0:Int)<2147483647 by decide);dsimp only;generalize (k*(1+c5 c*1234567891%2147483646)+c5 c/2147483646)%2147483647=y at h h2;split<;>omega
theorem ni {m c g:Int}(h:g∈a6 m c):uH g:=by
 unfold a6 at h;obtain⟨k,_,rfl⟩:=BZ.mp h;exact wU _ _
def pd (c:HX)(H0 H:Hp)(st:bw)(S:List Addr)(B:HA)(v:V):Prop:=v=.non\/∃ y B2,v=.ref y/\au c.C H y B2 st/\(∀ b∈B2.fp,b∉S)/\(∀ b∈B2.fp,b∉B.fp)/\∀ b∈B2.fp,H0 b=none
theorem pd.same {c:HX}{H0 H H':Hp}{st:bw}{S:List Addr}{B:HA}{v:V}(h:pd c H0 H st S B v)(s:aH H H'):pd c H0 H' st S B v:=by
 rcases h with h | ⟨y,B2,e,h,r⟩
 ·exact .inl h
 ·exact .inr ⟨y,B2,e,h.mono s,r⟩
theorem pd.first {c:HX}{H0 H H':Hp}{x:Addr}{st st':bw}{S:List Addr}{B B':HA}{v:V}(h:pd c H0 H st S B v)(S1:au c.C H x B st')(k:Kp B.fp H H')(f:∀ b∈B'.fp,b∈B.fp\/H b=none):pd c H0 H' st S B' v:=by
 rcases h with h | ⟨y,B2,e,h,d1,d2,d3⟩
 ·exact .inl h
 ·refine .inr ⟨y,B2,e,h.kept k (fun z=>(S1.mu y z).ins h.ob) d2 (fun b xs q z=>(S1.mu b z).tup q),d1,fun b hb z=>?_,d3⟩
  rcases f b z with q | q
  ·exact d2 b hb q
  ·obtain⟨o,e⟩:=(h.mu b hb).some
   rw[q]at e;cases e
theorem pd.write {c:HX}{H0 H H':Hp}{st:bw}{S G:List Addr}{B:HA}{v:V}(h:pd c H0 H st S B v)(k:Kp G H H')(gS:∀ b∈G,b∈S)(mu:∀ b∈G,Mu H b):pd c H0 H' st S B v:=by
 rcases h with h | ⟨y,B2,e,h,d1,r⟩
 ·exact .inl h
 ·exact .inr ⟨y,B2,e,h.kept k (fun z=>(mu y z).ins h.ob) (fun b hb z=>d1 b hb (gS b z)) (fun b xs q z=>(mu b z).tup q),d1,r⟩
theorem Ev.movedB {c:HX}{H0 H H':Hp}{x:Addr}{B B':HA}{st st':bw}(e:Ev c H0 H x B st)(S:au c.C H' x B' st')(k:Kp B.fp H H')(f:∀ b∈B'.fp,b∈B.fp\/H b=none)(g:eE st') :
  Ev c H0 H' x B' st'/\∀ y o,H y=some o->y∉B.fp->H' y=some o/\y∉B'.fp:=by
 refine⟨⟨fun b o q=>k b o (e.same b o q) (fun z=>by rw[e.nfp b z]at q;cases q),S,g,fun b hb=>?_⟩,fun y o q n=>⟨k y o q n,fun z=>?_⟩⟩
 ·rcases f b hb with z | z
  ·exact e.nfp b z
  ·exact e.same.free z
 ·rcases f y z with w | w
  ·exact n w
  ·rw[w]at q;cases q
theorem j0.kept {H0 H H':Hp}{B:HA}{w m ls:Addr}{st:bw}{ml:List (Int×Int)}{G:List Addr}(M:j0 H0 H B w m ls st ml)(k:Kp G H H')(hw:w∉G)(hm:m∉G)(hs:ls∉G)(ht:∀ b xs,H b=some (.tup xs)->b∉G):j0 H0 H' B w m ls st ml:=by
 obtain⟨as,h,hp⟩:=M.hs;refine⟨k _ _ M.hw hw,k _ _ M.hm hm,⟨as,k _ _ h hs,Paired.mapP hp fun b y q=>?_⟩,M.al,M.wB,M.mB,M.sB,M.w0,M.m0,M.s0⟩;obtain⟨xs,ex⟩:=bz y;rw[ex]at q ⊢;exact k _ _ q (ht _ _ q)
theorem pd.second {c:HX}{H0 H H':Hp}{x y w m ls lq:Addr}{st st0 st':bw}{B B2:HA}{ml:List (Int×Int)}(E:Ev c H0 H x B st')(M:j0 H0 H B w m ls st0 ml)(S2:au c.C H y B2 st)(d1:∀ b∈B2.fp,b∉[w,m,ls,lq])(d2:∀ b∈B2.fp,b∉B.fp)(d3:∀ b∈B2.fp,H0 b=none)(hlq:∃ o,H lq=some o)(mv:fP c.C H y B2 st' H') :
  Ev c H0 H' x B st'/\j0 H0 H' B w m ls st0 ml/\pd c H0 H' st' [w,m,ls,lq] B (.ref y)/\∀ b o,H b=some o->b∉B2.fp->H' b=some o:=by
 obtain⟨B',S,k,f,t⟩:=mv;have ht:∀ b xs,H b=some (.tup xs)->b∉B2.fp:=fun b xs q z=>(S2.mu b z).tup q;have nn:∀ b,b∈[w,m,ls,lq]->b∉B2.fp:=fun b hb z=>d1 b z hb;refine⟨⟨fun b o q=>k b o (E.same b o q) (fun z=>by rw[d3 b z]at q;cases q),E.hall.kept k (fun z=>(S2.mu x z).ins E.hall.ob) (fun b hb z=>d2 b z hb) ht,E.good,E.nfp⟩,M.kept k (nn w (by simp)) (nn m (by simp)) (nn ls (by simp)) ht,.inr ⟨y,B',rfl,S,fun b hb z=>?_,fun b hb z=>?_,fun b hb=>?_⟩,k⟩
 ·rcases f b hb with q | q
  ·exact d1 b q z
  ·have ts:∀ b∈[w,m,ls,lq],∃ o,H b=some o:=fun b hb=>by
    simp only[BH,Cu,or_false]at hb;rcases hb with rfl | rfl | rfl | rfl
    ·exact⟨_,M.hw⟩
    ·exact⟨_,M.hm⟩
    ·obtain⟨as,h,_⟩:=M.hs;exact⟨_,h⟩
    ·exact hlq
   obtain⟨o,e⟩:=ts b z;rw[q]at e;cases e
 ·rcases f b hb with q | q
  ·exact d2 b q z
  ·obtain⟨o,e⟩:=(E.hall.mu b z).some
   rw[q]at e;cases e
 ·rcases f b hb with q | q
  ·exact d3 b q
  ·exact E.same.free q
theorem pd.new {c:HX}{H0 H H':Hp}{x y w m ls lq:Addr}{st st0:bw}{B B2:HA}{ml:List (Int×Int)}(E:Ev c H0 H x B st)(M:j0 H0 H B w m ls st0 ml)(hlq:∃ o,H lq=some o)(E2:Ev c H H' y B2 st):pd c H0 H' st [w,m,ls,lq] B (.ref y):=by
 refine .inr ⟨y,B2,rfl,E2.hall,fun b hb z=>?_,fun b hb z=>?_,fun b hb=>E.same.free (E2.nfp b hb)⟩
 ·have n:=E2.nfp b hb
  simp only[BH,Cu,or_false]at z;rcases z with rfl | rfl | rfl | rfl
  ·rw[M.hw]at n;cases n
  ·rw[M.hm]at n;cases n
  ·obtain⟨as,h,_⟩:=M.hs;rw[h]at n;cases n
  ·obtain⟨o,h⟩:=hlq;rw[h]at n;cases n
 ·obtain⟨o,e⟩:=(E.hall.mu b z).some
  rw[E2.nfp b hb]at e;cases e
theorem tI {es:List aF}{d:aF}(h:gq es)(j:aN (hW es) d=.done):gq (es++[d]):=by
 intro i e he
 by_cases hi:i<es.length
 ·rw[List.getElem?_append_left hi]at he
  rw[List.take_append_of_le_length (by omega)];exact h i e he
 ·have:i=es.length:=by
   have:=(List.getElem?_eq_some_iff.mp he).1;rw[BR,CT]at this;omega
  subst this;rw[List.getElem?_append_right (BB _),Nat.sub_self]at he;cases he;rw[List.take_left];exact j
end Wz
namespace Wk49
open PySem L2 Wz
def fH (i:Nat):Stmt:=PySem.Challenge.pw_lastwaltz_k49_whole_book.main.body.getD i (.Pass ⟨0,0,0,0⟩)
structure Txt (mg:Str->Option Value):Prop where
 len:mg "len" = none
 range:mg "range" = none
 isinstance:mg "isinstance" = none
 tuple:mg "tuple" = none
 list:mg "list" = none
 int:mg "int" = none
 bool:mg "bool" = none
 all:mg "all" = none
 any:mg "any" = none
 sorted:mg "sorted" = none
 reversed:mg "reversed" = none
 bset:mg "set" = none
 bmin:mg "min" = none
 bmax:mg "max" = none
 dict:mg "dict" = none
 zip:mg "zip" = none
 enumerate:mg "enumerate" = none
 sum:mg "sum" = none
 str:mg "str" = none
section
variable {P:Program}{w:World}{K:PySem.W.Frag}{mg:Str->Option Value}{base:Heap}{c:HX}{co cq ck f P0:Addr}{fd:FuncData}
abbrev c7:Stmt:=bx (fH 7) 0
abbrev kX:List Str:=["self","guest"]
theorem kb:av kX ["self","guest"] (ak c7):=fF
abbrev fg:Stmt:=bx (fH 10) 0
abbrev pL:List Str:=["self"]
theorem oZ:av pL ["self"] (ak fg):=fF
abbrev ff:Stmt:=bx (fH 10) 1
abbrev pK:List Str:=["self","guest"]
theorem oY:av pK ["self","guest"] (ak ff):=fF
abbrev hZ:Stmt:=bx (fH 10) 2
abbrev tY:List Str:=["self","guest"]
theorem rk:av tY ["self","guest"] (ak hZ):=fF
abbrev cQ:Stmt:=bx (fH 10) 3
abbrev j8:List Str:=["self","one","other","mask","other_mask"]
theorem cO:av j8 ["self","one","other"] (ak cQ):=fF
abbrev d7:Stmt:=bx (fH 10) 4
abbrev oB:List Str:=["self","guest","mask"]
theorem mr:av oB ["self","guest","mask"] (ak d7):=fF
abbrev cP:Stmt:=bx (fH 10) 5
abbrev j7:List Str:=["self","one","other","circle"]
theorem eP:av j7 ["self","one","other"] (ak cP):=fF
abbrev dG:Stmt:=bx (fH 10) 6
abbrev l7:List Str:=["self","guest"]
theorem lH:av l7 ["self","guest"] (ak dG):=fF
abbrev dF:Stmt:=bx (fH 10) 7
abbrev l6:List Str:=["self"]
theorem lG:av l6 ["self"] (ak dF):=fF
abbrev d9:Stmt:=bx (fH 10) 8
abbrev oE:List Str:=["self","guest"]
theorem my:av oE ["self","guest"] (ak d9):=fF
abbrev dI:Stmt:=bx (fH 10) 9
abbrev l9:List Str:=["self","mask"]
theorem lJ:av l9 ["self","mask"] (ak dI):=fF
abbrev f9:Stmt:=bx (fH 10) 10
abbrev qR:List Str:=["self","one","other"]
theorem qb:av qR ["self","one","other"] (ak f9):=fF
abbrev cR:Stmt:=bx (fH 10) 11
abbrev j9:List Str:=["self","guest"]
theorem jz:av j9 ["self","guest"] (ak cR):=fF
abbrev cX:Stmt:=bx (fH 10) 12
abbrev iz:List Str:=["self"]
theorem mw:av iz ["self"] (ak cX):=fF
abbrev d8:Stmt:=bx (fH 10) 13
abbrev oC:List Str:=["self"]
theorem mx:av oC ["self"] (ak d8):=fF
abbrev dH:Stmt:=bx (fH 10) 14
abbrev l8:List Str:=["self"]
theorem lI:av l8 ["self"] (ak dH):=fF
abbrev cI:Stmt:=fH 14
abbrev gP:List Str:=["word"]
theorem lM:av gP ["word"] (ak cI):=fF
abbrev h9:Stmt:=fH 16
abbrev tZ:List Str:=["hall","deed"]
theorem rm:av tZ ["hall","deed"] (ak h9):=fF
abbrev dh:Stmt:=fH 19
abbrev jU:List Str:=["line","words","numbers"]
theorem fb:av jU ["line"] (ak dh):=fF
abbrev dL:Stmt:=fH 20
abbrev jo:List Str:=["hall","lines"]
theorem lN:av jo ["hall"] (ak dL):=fF
abbrev jD:Stmt:=fH 21
abbrev vk:List Str:=["text","hall","lines","place","line","deed"]
theorem dv:av vk ["text"] (ak jD):=fF
abbrev dJ:Stmt:=fH 23
abbrev me:List Str:=["_law_script","_law_k"]
theorem lK:av me ["_law_script","_law_k"] (ak dJ):=fF
abbrev gi:Stmt:=fH 24
abbrev qT:List Str:=["_law_cell"]
theorem qc:av qT ["_law_cell"] (ak gi):=fF
abbrev fk:Stmt:=fH 25
abbrev pO:List Str:=["_law_cell","_law_many","_law_base","_law_left","_law_row","_law_count","_law_k","_law_now"]
theorem aY:av pO ["_law_cell","_law_many","_law_base"] (ak fk):=fF
abbrev cH:Stmt:=fH 26
abbrev jn:List Str:=["_law_script","_law_start","_law_most","_law_base","_law_row","_law_cell","_law_drawn"]
theorem bJ:av jn ["_law_script","_law_start","_law_most","_law_base"] (ak cH):=fF
abbrev fm:Stmt:=fH 27
abbrev pP:List Str:=["_law_k","_law_cell","_law_left","_law_turn","_law_number"]
theorem df:av pP ["_law_k","_law_cell"] (ak fm):=fF
abbrev ie:Stmt:=fH 28
abbrev uc:List Str:=["_law_one","_law_other"]
theorem rn:av uc ["_law_one","_law_other"] (ak ie):=fF
abbrev ic:Stmt:=fH 29
abbrev t9:List Str:=["_law_worn","_law_met","_law_deed_here","_law_guest_here"]
theorem lL:av t9 ["_law_worn","_law_met","_law_deed_here"] (ak ic):=fF
abbrev fh:Stmt:=fH 30
abbrev pM:List Str:=["_law_worn","_law_met","_law_deed_here","_law_kept"]
theorem iO:av pM ["_law_worn","_law_met","_law_deed_here"] (ak fh):=fF
abbrev gf:Stmt:=fH 31
abbrev qS:List Str:=["_law_drawn","_law_many","_law_cell","_law_one"]
theorem jX:av qS ["_law_drawn","_law_many","_law_cell"] (ak gf):=fF
abbrev fj:Stmt:=fH 32
abbrev pN:List Str:=["_law_cell"]
theorem o0:av pN ["_law_cell"] (ak fj):=fF
abbrev cG:Stmt:=fH 33
abbrev fW:List Str:=["_law_script","_law_cell","_law_many","_law_first","_law_deeds_here"]
theorem cF:av fW ["_law_script"] (ak cG):=fF
abbrev jC:Stmt:=fH 34
abbrev vj:List Str:=["_law_hall","_law_deed_here"]
theorem uv:av vj ["_law_hall","_law_deed_here"] (ak jC):=fF
abbrev gj:Stmt:=fH 35
abbrev qU:List Str:=["_law_hall","_law_deed_here","_law_word","_law_who","_law_back","e"]
theorem a5:av qU ["_law_hall","_law_deed_here"] (ak gj):=fF
abbrev ei:Stmt:=fH 36
abbrev oF:List Str:=["_law_hall","_law_worn","_law_met","_law_story","_law_guest_here"]
theorem gR:av oF ["_law_hall","_law_worn","_law_met","_law_story"] (ak ei):=fF
abbrev rC:Stmt:=fH 37
abbrev zG:List Str:=["_law_script","_law_deeds_here","_law_cut","_law_worn","_law_met","_law_story","_law_hall","_law_other","_law_place","_law_deed_here","_law_due_here","_law_text"]
theorem cE:av zG ["_law_script"] (ak rC):=fF
variable (T:Txt mg)(U:HT K mg c)(VM:HM K c)(UO:zi K mg w c co)
include T U VM UO
theorem ka (F:dj K "__init__" "NoGuest.__init__" c7 f fd) : aV P w K mg base cf 1 f fd ["self","guest"] (xy c.cN "guest"):=by
 refine F.ok kb (fun vs H Q E h=>?_) (fun cdv A outer s H vs Q E hr h=>?_)
 ·obtain⟨ea,g,rfl,_⟩:=h
  rfl
 ·obtain⟨ea,g,rfl,hg,hx,k⟩:=h
  refine⟨_,af (a9 (vA (fI:=c.fN) rfl U.mW U.wS U.wR U.wI (aj (pv 0) (aj (iF (bQ (eZ (pv 1)) (bQ ay (lD)))) az)))) (
   ag (vN (pv 0) (pv 1) rfl)),?_⟩
  refine⟨_,rfl,_,rfl,g,rfl,hg,fun y hy=>⟨y,rfl,hy,_,rfl,by decide,fun z=>⟨ea,c.cN,_,rfl,hx,U.eN,?_⟩⟩⟩;exact⟨_,rfl,_,rfl,ea,c.cN,rfl,hx,U.gN,k⟩
theorem oH (F:dj K "__init__" "Hall.__init__" fg f fd) : aV P w K mg base cf 1 f fd ["self"] (sM c.C):=by
 refine F.ok oZ (fun vs H Q E h=>?_) (fun cdv A outer s H vs Q E hr h=>?_)
 ·obtain⟨p,dx,rfl,_⟩:=h
  rfl
 ·obtain⟨p,dx,rfl,hp,k⟩:=h
  refine⟨_,af (oV (pv 0) dC rfl) (
   af (oV (pv 0) dC rfl) (
   af (oV (pv 0) dC rfl) (
   ag (oV (pv 0) (oR az) rfl)))),?_⟩
  intro w hw;have n1:p≠w:=ah hp hw;refine⟨_,rfl,p,c.C,dx,[],rfl,(by rw[ac n1];exact hp),U.cl,U.nW,(by show 0<1000;decide),?_⟩;intro h hh;have n2:p≠h:=ah ae hh;refine⟨_,rfl,p,c.C,dx,_,rfl,(by rw[ac n2,ae]),U.cl,U.nH,(by show 1<1000;decide),?_⟩;intro cc hc;have n3:p≠cc:=ah ae hc;refine⟨_,rfl,p,c.C,dx,_,rfl,(by rw[ac n3,ae]),U.cl,U.nC,(by show 2<1000;decide),?_⟩;refine⟨by show 0<=sizeLine;exact BY _,fun d hd=>?_⟩;have n4:p≠d:=ah ae hd;refine⟨_,rfl,p,c.C,dx,_,rfl,(by rw[ac n4,ae]),U.cl,U.nD,(by show 3<1000;decide),?_⟩;rw[ac (BL n2)]at hh;have wh:w≠h:=ah ae hh;rw[ac (BL n3)]at hc;have hcw:h≠cc:=ah ae hc;rw[ac (BL hcw),ac (BL n3)]at hc;have hwc:w≠cc:=ah ae hc;rw[ac (BL n4)]at hd;have hdc:cc≠d:=ah ae hd;rw[ac (BL hdc),ac (BL n4)]at hd;have hdh:h≠d:=ah ae hd;rw[ac (BL hdh),ac (BL n4)]at hd;have hdw:w≠d:=ah ae hd;rw[ac (BL hdw)]at hd;rw[ac (BL hwc)]at hc;rw[ac (BL wh)]at hh;refine k ⟨dx,w,h,cc,d,[]⟩ _ ⟨ae,?_,?_,?_,?_,.nil,[],?_,.nil⟩ (fun b o e hb=>?_) fun b hb=>?_
  ·simp[HA.fp,wh,hwc,hdw,hcw,hdh,hdc]
  ·rw[ac (BL n1),ac hdw,ac (BL n1),ac hwc,ac (BL n1),ac wh,ac (BL n1),ae]
   rfl
  ·rw[ac (BL n2),ac hdh,ac (BL n2),ac hcw,ac (BL n2),ae]
   rfl
  ·rw[ac (BL n3),ac hdc,ac (BL n3),ae]
   rfl
  ·rw[ac (BL n4),ae]
   rfl
  ·rw[ac hb,ac (ah e hd),ac hb,ac (ah e hc),ac hb,ac (ah e hh),ac hb,ac (ah e hw)]
   exact e
  ·simp[HA.fp]at hb
   rcases hb with rfl | rfl | rfl | rfl
   ·exact hw
   ·exact hh
   ·exact hc
   ·exact hd
theorem oG (F:dj K "come" "Hall.come" ff f fd)(bF:ax P w K mg base cf c.C "dress" 1 ["self","guest","mask"] (iQ c.C)) : aV P w K mg base (gn P w) 2 f fd ["self","guest"] (lQ c):=by
 refine F.okX oY (fun vs H Q E h=>?_) (fun cdv A outer s H vs Q E hr h=>?_)
 ·obtain⟨p,B,st,g,rfl,_⟩:=h
  rfl
 ·obtain⟨p,B,st,g,rfl,S,ft,hg,k⟩:=h
  have hu:=c9 hr
  refine⟨_,af (aP (d6 (lA hu (pv 1) (bB (pv 0) rfl))) (ag (iK U.eA eG rfl hr.hd rfl U.mA (iF (bQ (eZ (pv 1)) (bQ ay (lD)))))) aw) (
   af (a9 (ca bF (pv 0) U.cl hr dB (aj (pv 1) (aj (pv 1) az)))) (
   ag (a9 (iE Cp Cj Ck cK (bB (pv 0) rfl) (aj (bG (aj (ay) (aj (pv 1) (az)))) az))))),?_⟩
  have g1:bS H B.w (.int g) ((look st.worn g).map V.int):=by rw[<-bY];exact bS.k (k:=Sum.inl g) S.w
  refine⟨_,rfl,_,rfl,p,c.C,B.dx,_,_,rfl,S.ob,U.cl,U.nW,qE _,B.w,_,rfl,g1,_,rfl,?_⟩
  cases e:look st.worn g with
  | some m =>
   refine bj ⟨_,rfl,g,rfl,hg,fun y hy=>⟨y,rfl,hy,_,rfl,by decide,fun z=>?_⟩⟩;exact dw (o:=.already) k (by simp[aN,e]) (by simp) _ (fun _ _ z=>z)
  | none =>
   refine aD ⟨_,rfl,p,B.dx,_,rfl,S.ob,lV _ (by decide +kernel),_,rfl,_,rfl,p,B,st,g,g,rfl,S,by have:=ft.w;omega,by have:=ft.h;omega,?_⟩;have S1:=oh (oj S (put st.worn g g)) (put st.hold g g);have k1:Kp B.fp H (upd (upd H B.w (.dK (dk (put st.worn g g)))) B.h (.dK (dk (put st.hold g g)))):=(dy se).on (dy sd);have t1:Tr H (upd (upd H B.w (.dK (dk (put st.worn g g)))) B.h (.dK (dk (put st.hold g g)))):=(Tr.refl.upd _ _).upd _ _;generalize upd (upd H B.w (.dK (dk (put st.worn g g)))) B.h (.dK (dk (put st.hold g g)))=H1 at S1 k1 t1;obtain⟨as,hd,hp⟩:=id S1.d;have hl:as.length=st.deeds.length:=BM hp;refine⟨_,rfl,p,c.C,B.dx,_,_,rfl,S1.ob,U.cl,U.nD,u6 _,.inl ⟨rfl,_,bd.of hd⟩,_,rfl,by show 2<=sizeLine;decide,fun t ht=>?_⟩;have td:B.d≠t:=ah hd ht;refine⟨B.d,_,_,rfl,rfl,by rw[ac td];exact hd,by rw[Bx];exact aZ (by have:=ft.d;omega),?_⟩;refine je k (by simp[aN,e]) _ ⟨B,jg S1 hd hp (.come g) ht,(k1.on (qJ ht)).on (dy vh),fun b hb=>.inl hb,(t1.upd _ _).upd _ _⟩
theorem qY (F:dj K "go" "Hall.go" hZ f fd)(aW:ax P w K mg base (gn P w) c.C "wears" 3 ["self","guest"] (gz c)) : aV P w K mg base (gn P w) 4 f fd ["self","guest"] (v1 c):=by
 refine F.okX rk (fun vs H Q E h=>?_) (fun cdv A outer s H vs Q E hr h=>?_)
 ·obtain⟨p,B,st,g,rfl,_⟩:=h
  rfl
 ·obtain⟨p,B,st,g,rfl,S,ft,hg,hm,k⟩:=h
  refine⟨_,af (aP (ar iC (ca aW (pv 0) U.cl hr cV (aj (pv 1) az)) (pv 1) (aB _)) (ag (iK U.eM eG rfl hr.hd rfl U.mM (iF (bQ (eZ (pv 1)) (bQ ay (bQ (eZ (ca aW (pv 0) U.cl hr cV (aj (pv 1) az))) (lD))))))) aw) (
   af (a9 (lC (bB (pv 0) rfl) (pv 1) ⟨rfl,rfl,rfl,rfl⟩)) (
   af (a9 (lC (bB (pv 0) rfl) (pv 1) ⟨rfl,rfl,rfl,rfl⟩)) (
   ag (a9 (iE Cp Cj Ck cK (bB (pv 0) rfl) (aj (bG (aj (ay) (aj (pv 1) (az)))) az)))))),?_⟩
  have no:=gO B (m:="wears") (by decide +kernel) (by decide +kernel) (by decide +kernel) (by decide +kernel);refine⟨_,rfl,p,B.dx,_,rfl,S.ob,no,_,rfl,p,B,st,g,rfl,S,hg,?_⟩
  cases e:look st.worn g with
  | none=>exact dw (o:=.noguest g) k (by simp[aN,e]) (by simp)
  | some m =>
   obtain⟨hs,hh⟩:=hm m e;refine⟨_,rfl,rfl,_,rfl,?_⟩
   by_cases em:m=g
   ·subst em
    rw[BI rfl];refine aD ?_
    have hv:b5 (dk st.worn) (Sum.inl m:bv)=some (V.int m):=by rw[bY,e];rfl
    obtain⟨m2,e2⟩:=Ci.mp (hh rfl)
    have hv2:b5 (dk st.hold) (Sum.inl m:bv)=some (V.int m2):=by rw[bY,e2];rfl
    refine⟨_,rfl,p,c.C,B.dx,_,_,rfl,S.ob,U.cl,U.nW,qE _,B.w,rfl,.inl ⟨_,.inl S.w⟩,_,rfl,_,Sum.inl m,_,S.w,rfl,hv,?_⟩;rw[kL];have S0:=oj S (bD st.worn m);refine⟨_,rfl,p,c.C,B.dx,_,_,rfl,S0.ob,U.cl,U.nH,wW _,B.h,rfl,.inl ⟨_,.inl S0.h⟩,_,rfl,_,Sum.inl m,_,S0.h,rfl,hv2,?_⟩;rw[kL];have S1:=oh S0 (bD st.hold m);have k1:Kp B.fp H (upd (upd H B.w (.dK (dk (bD st.worn m)))) B.h (.dK (dk (bD st.hold m)))):=(dy se).on (dy sd);have t1:Tr H (upd (upd H B.w (.dK (dk (bD st.worn m)))) B.h (.dK (dk (bD st.hold m)))):=(Tr.refl.upd _ _).upd _ _;generalize upd (upd H B.w (.dK (dk (bD st.worn m)))) B.h (.dK (dk (bD st.hold m)))=H1 at S1 k1 t1;obtain⟨as,hd,hp⟩:=id S1.d;have hl:as.length=st.deeds.length:=BM hp;refine⟨_,rfl,p,c.C,B.dx,_,_,rfl,S1.ob,U.cl,U.nD,u6 _,.inl ⟨rfl,_,bd.of hd⟩,_,rfl,by show 2<=sizeLine;decide,fun t ht=>?_⟩;have td:B.d≠t:=ah hd ht;refine⟨B.d,_,_,rfl,rfl,by rw[ac td];exact hd,by rw[Bx];exact aZ (by have:=ft.d;omega),?_⟩;refine je k (by simp[aN,e]) _ ⟨B,jg S1 hd hp (.go m) ht,(k1.on (qJ ht)).on (dy vh),fun b hb=>.inl hb,(t1.upd _ _).upd _ _⟩
   ·rw[BQ (fun z=>em (V.int.inj z))]
    refine bj ⟨_,rfl,g,rfl,hg,fun y hy=>⟨y,rfl,hy,_,rfl,by decide,?_⟩⟩;refine⟨_,rfl,p,B.dx,_,rfl,S.ob,no,_,rfl,p,B,st,g,rfl,S,hg,?_⟩;rw[e];refine⟨m,rfl,hs,fun y hy=>⟨y,rfl,hy,fun z=>?_⟩⟩;exact dw (o:=.masked) k (by simp[aN,e,em]) (by simp) _ (fun _ _ z=>z)
theorem js (F:dj K "exchange" "Hall.exchange" cQ f fd)(aW:ax P w K mg base (gn P w) c.C "wears" 3 ["self","guest"] (gz c))(gX:ax P w K mg base cf c.C "met" 1 ["self","one","other"] (sL c.C))(bF:ax P w K mg base cf c.C "dress" 1 ["self","guest","mask"] (iQ c.C))(bX:ax P w K mg base cf c.C "acquaint" 1 ["self","one","other"] (sI c.C)) : aV P w K mg base (gn P w) 4 f fd ["self","one","other"] (lR c):=by
 refine F.okX cO (fun vs H Q E h=>?_) (fun cdv A outer s H vs Q E hr h=>?_)
 ·obtain⟨p,B,st,a,b,rfl,_⟩:=h
  rfl
 ·obtain⟨p,B,st,a,b,rfl,S,ft,ha,hb,k⟩:=h
  have hr1:bC 1 _:=hr.mono (by decide)
  refine⟨_,af (bU (i:=3) cO.nd rfl (Or.inl rfl) (ca aW (pv 0) U.cl hr cV (aj (pv 1) az))) (
   af (bU (i:=4) cO.nd rfl (Or.inl rfl) (ca aW (pv 0) U.cl hr cV (aj (pv 2) az))) (
   af (aP (ar bR (pv 1) (pv 2) (aB _)) (ag (iK U.eS eG rfl hr.hd rfl U.mS (iF (bQ (eZ (pv 1)) (bQ ay (lD)))))) aw) (
   af (aP (jx (ca gX (pv 0) U.cl hr1 dB (aj (pv 1) (aj (pv 2) az)))) (ag (iK U.eT eG rfl hr.hd rfl U.mT (iF (bQ (eZ (pv 1)) (bQ ay (bQ (eZ (pv 2)) (bQ ay (lD)))))))) aw) (
   af (a9 (ca bF (pv 0) U.cl hr1 dB (aj (pv 1) (aj (pv 4) az)))) (
   af (a9 (ca bF (pv 0) U.cl hr1 dB (aj (pv 2) (aj (pv 3) az)))) (
   af (a9 (ca bX (pv 0) U.cl hr1 dB (aj (pv 1) (aj (pv 2) az)))) (
   af (a9 (ca bX (pv 0) U.cl hr1 dB (aj (pv 2) (aj (pv 1) az)))) (
   ag (a9 (iE Cp Cj Ck cK (bB (pv 0) rfl) (aj (bG (aj (ay) (aj (pv 1) (aj (pv 2) (az))))) az))))))))))),?_⟩
  have no:∀ (B:HA)(m:Str),m∈(["wears","met","dress","acquaint"]:List Str)->(aX B).lookup m=none:=fun B m hm=>by
   simp only[BH,Cu,or_false]at hm;rcases hm with rfl | rfl | rfl | rfl<;>exact lV B (by decide +kernel)
  have n1:∀ B:HA,(aX B).lookup ("wears" : Str)=none:=fun B=>no B _ (by simp);have n2:∀ B:HA,(aX B).lookup ("met" : Str)=none:=fun B=>no B _ (by simp);have n3:∀ B:HA,(aX B).lookup ("dress" : Str)=none:=fun B=>no B _ (by simp);have n4:∀ B:HA,(aX B).lookup ("acquaint" : Str)=none:=fun B=>no B _ (by simp);refine⟨_,rfl,p,B.dx,_,rfl,S.ob,n1 B,_,rfl,p,B,st,a,rfl,S,ha,?_⟩
  cases ea:look st.worn a with
  | none=>exact dw (o:=.noguest a) k (by simp[aN,ea]) (by simp)
  | some ma =>
   refine⟨_,rfl,p,B.dx,_,rfl,S.ob,n1 B,_,rfl,p,B,st,b,rfl,S,hb,?_⟩
   cases eb:look st.worn b with
   | none=>exact dw (o:=.noguest b) k (by simp[aN,ea,eb]) (by simp)
   | some mb =>
    refine⟨_,rfl,_,rfl,rfl,_,rfl,?_⟩
    by_cases eab:a=b
    ·rw[BI (by rw[eab])]
     refine bj ⟨_,rfl,a,rfl,ha,fun y hy=>⟨y,rfl,hy,_,rfl,by decide,fun z=>?_⟩⟩;exact dw (o:=.same) k (by simp[aN,ea,eb,eab]) (by simp) _ (fun _ _ z=>z)
    ·rw[BQ (fun z=>eab (V.int.inj z))]
     refine aD ⟨_,rfl,p,B.dx,_,rfl,S.ob,n2 B,_,rfl,_,rfl,p,B,st,a,b,rfl,S,fun H1 s1=>⟨_,rfl,?_⟩⟩
     cases em:fE st.circ a b with
     | true =>
      refine bj ⟨_,rfl,a,rfl,ha,fun y hy=>⟨y,rfl,hy,_,rfl,by decide,_,rfl,b,rfl,hb,fun y hy=>⟨y,rfl,hy,_,rfl,by decide,fun z=>?_⟩⟩⟩;exact dw (o:=.met) k (by simp[aN,ea,eb,eab,em]) (by simp) _ s1
     | false =>
      refine aD ?_;have S1:=S.mono s1;have kd:=je k (by simp[aN,ea,eb,eab,em])
      have wa:wr st.worn a=ma:=by unfold wr;rw[ea];rfl
      have wb:wr st.worn b=mb:=by unfold wr;rw[eb];rfl
      have l1:=oy st.worn a mb;have l2:=oy st.hold mb a;have f1:=ft.w;have f2:=ft.h;refine⟨_,rfl,p,B.dx,_,rfl,S1.ob,n3 B,_,rfl,_,rfl,p,B,st,a,mb,rfl,S1,by omega,by omega,?_⟩;have S2:=oh (oj S1 (put st.worn a mb)) (put st.hold mb a);have k2:Kp B.fp H (upd (upd H1 B.w (.dK (dk (put st.worn a mb)))) B.h (.dK (dk (put st.hold mb a)))):=((Kp.of_same s1).on (dy se)).on (dy sd);have t2:Tr H (upd (upd H1 B.w (.dK (dk (put st.worn a mb)))) B.h (.dK (dk (put st.hold mb a)))):=((Tr.of_same s1).upd _ _).upd _ _;generalize upd (upd H1 B.w (.dK (dk (put st.worn a mb)))) B.h (.dK (dk (put st.hold mb a)))=H2 at S2 k2 t2;refine⟨_,rfl,p,B.dx,_,rfl,S2.ob,n3 B,_,rfl,_,rfl,p,B,_,b,ma,rfl,S2,by show (put st.worn a mb).length<2000;omega,by show (put st.hold mb a).length<2000;omega,?_⟩;have S3:=oh (oj S2 (put (put st.worn a mb) b ma)) (put (put st.hold mb a) ma b);have k3:Kp B.fp H (upd (upd H2 B.w (.dK (dk (put (put st.worn a mb) b ma)))) B.h (.dK (dk (put (put st.hold mb a) ma b)))):=(k2.on (dy se)).on (dy sd);dsimp only at S3 ⊢;have t3:Tr H (upd (upd H2 B.w (.dK (dk (put (put st.worn a mb) b ma)))) B.h (.dK (dk (put (put st.hold mb a) ma b)))):=(t2.upd _ _).upd _ _;generalize upd (upd H2 B.w (.dK (dk (put (put st.worn a mb) b ma)))) B.h (.dK (dk (put (put st.hold mb a) ma b)))=H3 at S3 k3 t3;refine⟨_,rfl,p,B.dx,_,rfl,S3.ob,n4 B,_,rfl,_,rfl,p,B,_,a,b,rfl,S3,by have:=ft.c;show st.circ.length<2000;omega,fun x hx=>by have:=ft.k x hx;omega,fun H4 ⟨B4,S4,k4,p4,t4⟩=>?_⟩;dsimp only at S4;refine⟨_,rfl,p,B4.dx,_,rfl,S4.ob,n4 B4,_,rfl,_,rfl,p,B4,_,b,a,rfl,S4,by have:=ft.c;have:=iy st.circ a b;show (bg st.circ a b).length<2000;omega,fun x hx=>by have:=kD (n:=999) (fun x hx=>by have:=ft.k x hx;omega) (by decide) x hx;omega,fun H5 ⟨B5,S5,k5,p5,t5⟩=>?_⟩
      dsimp only at S5;have k4':Kp B.fp H H4:=k3.on k4
      have f4:∀ x∈B4.fp,x∈B.fp\/H x=none:=fun x hx=>by
       rcases p4 x hx with z | z
       ·exact .inl z
       ·by_cases hq:x∈B.fp
        ·exact .inl hq
        ·refine .inr ?_
         cases e:H x with
         | none=>rfl
         | some o=>rw[k3 x o e hq]at z;cases z
      have k5':Kp B.fp H H5:=k4'.trans k5 f4
      have f5:∀ x∈B5.fp,x∈B.fp\/H x=none:=fun x hx=>by
       rcases p5 x hx with z | z
       ·exact f4 x z
       ·by_cases hq:x∈B.fp
        ·exact .inl hq
        ·refine .inr ?_
         cases e:H x with
         | none=>rfl
         | some o=>rw[k4' x o e hq]at z;cases z
      obtain⟨as,hd,hp⟩:=id S5.d;have hl:as.length=st.deeds.length:=BM hp;refine⟨_,rfl,p,c.C,B5.dx,_,_,rfl,S5.ob,U.cl,U.nD,u6 _,.inl ⟨rfl,_,bd.of hd⟩,_,rfl,_,rfl,by show 3<=sizeLine;decide,fun t ht=>?_⟩;have td:B5.d≠t:=ah hd ht;refine⟨B5.d,_,_,rfl,rfl,by rw[ac td];exact hd,by rw[Bx];exact aZ (by have:=ft.d;omega),?_⟩;have S6:=jg S5 hd hp (.exch a b) ht;refine kd _ ⟨B5,?_,?_,f5,(((t3.trans t4).trans t5).upd _ _).upd _ _⟩
      ·show au c.C _ p B5 { worn:=put (put st.worn a (wr st.worn b)) b (wr st.worn a),hold:=put (put st.hold (wr st.worn b) a) (wr st.worn a) b,circ:=bg (bg st.circ a b) b a,deeds:=st.deeds++[.exch a b] }
       rw[wa,wb];exact S6
      ·intro x o e hx
       have h5:=k5' x o e hx
       have hx5:x≠B5.d:=fun z=>by
        rcases f5 B5.d vh with q | q
        ·exact hx (by rw[z];exact q)
        ·rw[z,q]at e;cases e
       show upd (upd H5 t _) B5.d _ x=some o
       rw[ac hx5,ac (ah h5 ht)];exact h5
theorem mf (F:dj K "dress" "Hall.dress" d7 f fd) : aV P w K mg base cf 1 f fd ["self","guest","mask"] (iQ c.C):=by
 refine F.ok mr (fun vs H Q E h=>?_) (fun cdv A outer s H vs Q E hr h=>?_)
 ·obtain⟨p,B,st,g,m,rfl,_⟩:=h
  rfl
 ·obtain⟨p,B,st,g,m,rfl,S,hw,hh,k⟩:=h
  have hu:=c9 hr
  have nwh:B.w≠B.h:=by have:=S.nd;simp[HA.fp]at this;exact this.1.1
  have npw:p≠B.w:=b9 S.ob S.w (by intro z;cases z)
  refine⟨_,af (e6 hu (bB (pv 0) rfl) (pv 1) (pv 2) rfl) (
   ag (e6 hu (bB (pv 0) rfl) (pv 2) (pv 1) rfl)),?_⟩
  refine⟨_,rfl,_,rfl,p,c.C,B.dx,_,_,rfl,S.ob,U.cl,U.nW,qE _,_,rfl,B.w,_,rfl,ii.k (k:=Sum.inl g) S.w (by rw[qL];exact BP hw (by decide)),?_⟩;rw[iL];refine⟨_,rfl,_,rfl,p,c.C,B.dx,_,_,rfl,(by rw[ac npw];exact S.ob),U.cl,U.nH,wW _,_,rfl,B.h,_,rfl,ii.k (k:=Sum.inl m) (by rw[ac (BL nwh)];exact S.h) (by rw[qL];exact BP hh (by decide)),?_⟩;rw[iL];exact k
theorem jr (F:dj K "acquaint" "Hall.acquaint" cP f fd) : aV P w K mg base cf 1 f fd ["self","one","other"] (sI c.C):=by
 refine F.ok eP (fun vs H Q E h=>?_) (fun cdv A outer s H vs Q E hr h=>?_)
 ·obtain⟨p,B,st,a,b,rfl,_⟩:=h
  rfl
 ·obtain⟨p,B,st,a,b,rfl,S,hl1,hl2,k⟩:=h
  have hu:=c9 hr
  refine⟨_,af (bU (i:=3) eP.nd rfl (Or.inl rfl) (vE (bB (pv 0) rfl) (pv 1) dC ⟨rfl,rfl,rfl,rfl⟩)) (
   ag (e6 hu (pv 3) (pv 2) fC rfl)),?_⟩
  refine⟨_,rfl,p,c.C,B.dx,_,_,rfl,S.ob,U.cl,U.nC,wV _,B.c,rfl,.inl ⟨_,.inl S.c⟩,_,rfl,fun l hl=>?_⟩;have s1:aH H (upd H l (.dK [])):=am hl;have S1:=S.mono s1;have ap:=S.apart;have lenc:B.cs.length=st.circ.length:=BM S.cs
  have lc:(bV B.cs st.circ).length<sizeLine:=by rw[m8 lenc];exact BP hl1 (by decide)
  have np:=S.pne;simp only[HA.fp,BH,not_or]at np;refine⟨_,Sum.inl a,S1.c,rfl,lc,fun v hv=>?_,fun hv=>?_⟩
  ·rcases eF a S1.cs with ⟨h1,h2,h3⟩ | ⟨ad,h1,h2,h3,h4⟩
   ·rw[h1]at hv;cases hv
   ·rw[h2]at hv
    cases hv
    have lk:(m7 (eV st.circ a)).length<sizeLine:=by
     have e:∀ ci:List (Int×List Int),(∀ x∈ci,x.2.length<2000)->(eV ci a).length<2000:=by
      intro ci
      induction ci with
      | nil=>intro _;show 0<2000;decide
      | cons x r ih =>
       intro h;unfold eV;split
       ·exact h x BE
       ·exact ih fun y hy=>h y (BC _ hy)
     unfold m7;rw[Bx];exact BP (e _ hl2) (by decide)
    refine⟨_,rfl,_,rfl,ad,_,rfl,ii.k (k:=Sum.inl b) h3 lk,?_⟩;rw[xv]
    have adfp:ad∈B.fp:=by simp[HA.fp,h1]
    have nn:∀ x,x∉B.cs->x≠ad:=fun x hx z=>hx (by rw[z];exact h1);obtain⟨q1,q2⟩:=h4 b (upd (upd H l (.dK [])) ad (.dK (m7 (gC (eV st.circ a) b)))) ap.cs (fun x _ hx o e=>by rw[ac hx];exact e) ae;refine k _ ⟨B,⟨by rw[ac (nn _ np.2.2.2.2)];exact S1.ob,S.nd,by rw[ac (nn _ ap.w)];exact S1.w,by rw[ac (nn _ ap.h)];exact S1.h,by rw[ac (nn _ ap.c),S1.c,q2],q1,?_⟩,(qJ hl).on (dy adfp),fun x hx=>.inl hx,(Tr.refl.upd _ _).upd _ _⟩;obtain⟨as,hd,hp⟩:=S1.d;refine⟨as,by rw[ac (nn _ ap.d)];exact hd,Paired.mapP hp fun t x e=>?_⟩;obtain⟨xs,ex⟩:=bz x;rw[ac (fun z=>S1.tup (xs:=xs) (by rw[<-ex];exact e) (by rw[z];exact adfp))];exact e
  ·rcases eF a S1.cs with ⟨h1,h2,h3⟩ | ⟨ad,h1,h2,h3,h4⟩
   ·have lB:l∉B.fp:=fun z=>by obtain⟨o,e⟩:=S.tracked z;rw[hl]at e;cases e
    have lB':=lB;simp only[HA.fp,BH,not_or]at lB';obtain⟨l1,l2,l3,l4,l5⟩:=lB';refine⟨_,rfl,_,rfl,l,_,rfl,ii.k (k:=Sum.inl b) (by rw[ac l3];exact ae) (by show 0<sizeLine;decide),?_⟩;rw[show dN [] (Sum.inl b:bv) (V.bl true)=m7 [b] from rfl,vQ _ hv]
    have e1:∀ x o,H x=some o->x≠B.c->x≠l->(upd (upd (upd H l (.dK [])) B.c (.dK (bV B.cs st.circ++[(Sum.inl a,V.ref l)]))) l (.dK (m7 [b]))) x=some o:=fun x o e hx hy=>by
     rw[ac hy,ac hx,ac hy];exact e
    have nl:∀ x o,H x=some o->x≠l:=fun x o e=>ah e hl;refine k _ ⟨⟨B.dx,B.w,B.h,B.c,B.d,B.cs++[l]⟩,⟨?_,?_,e1 _ _ S.w ap.wc (nl _ _ S.w),e1 _ _ S.h ap.hc (nl _ _ S.h),?_,?_,?_⟩,?_,fun x hx=>?_,((Tr.refl.upd _ _).upd _ _).upd _ _⟩
    ·exact e1 _ _ S.ob np.2.2.1 (nl _ _ S.ob)
    ·refine rK.fp ⟨ap.wh,ap.wc,ap.wd,ap.hc,ap.hd,ap.cd,?_,?_,?_,?_,?_⟩
     ·simp[ap.w,BL l1]
     ·simp[ap.h,BL l2]
     ·simp[ap.c,BL l3]
     ·simp[ap.d,BL l4]
     ·exact kj ap.cs l5
    ·show (upd (upd (upd H l (.dK [])) B.c (.dK (bV B.cs st.circ++[(Sum.inl a,V.ref l)]))) l (.dK (m7 [b]))) B.c=some (.dK (bV (B.cs++[l]) (bg st.circ a b)))
     rw[ac (BL l3),ae,h3 b,kF a [b] l lenc]
    ·show Al _ (B.cs++[l]) (bg st.circ a b)
     rw[h3 b];exact bu (ir S.cs fun x hx o e=>e1 x o e (fun z=>ap.c (by rw[<-z];exact hx)) (nl x o e)) (.cons ae .nil)
    ·obtain⟨as,hd,hp⟩:=S.d
     refine⟨as,e1 _ _ hd (BL ap.cd) (nl _ _ hd),Paired.mapP hp fun t x e=>?_⟩;obtain⟨xs,ex⟩:=bz x;exact e1 t _ e (fun z=>S.tup (xs:=xs) (by rw[<-ex];exact e) (by rw[z];exact xP)) (nl t _ e)
    ·intro x o e hx
     exact e1 x o e (fun z=>hx (by rw[z];exact xP)) (nl x o e)
    ·simp only[HA.fp,BH,B7]at hx ⊢
     rcases hx with hx | hx | hx | hx | hx | hx | hx
     ·exact .inl (.inl hx)
     ·exact .inl (.inr (.inl hx))
     ·exact .inl (.inr (.inr (.inl hx)))
     ·exact .inl (.inr (.inr (.inr (.inl hx))))
     ·exact .inl (.inr (.inr (.inr (.inr hx))))
     ·exact .inr (by rw[hx];exact hl)
     ·cases hx
   ·rw[h2]at hv;cases hv
theorem li (F:dj K "inside" "Hall.inside" dG f fd) : aV P w K mg base cf 1 f fd ["self","guest"] (iU c.C):=by
 refine F.ok lH (fun vs H Q E h=>?_) (fun cdv A outer s H vs Q E hr h=>?_)
 ·obtain⟨p,B,st,g,rfl,_⟩:=h
  rfl
 ·obtain⟨p,B,st,g,rfl,S,k⟩:=h
  have hu:=c9 hr;refine⟨_,ag (aq (vB (lA hu (pv 1) (bB (pv 0) rfl)))),?_⟩
  have g1:bS H B.w (.int g) ((look st.worn g).map V.int):=by rw[<-bY];exact bS.k (k:=Sum.inl g) S.w
  refine⟨_,rfl,_,rfl,p,c.C,B.dx,_,_,rfl,S.ob,U.cl,U.nW,qE _,B.w,_,rfl,g1,?_⟩;rw[Option.isSome_map];exact k
theorem lg (F:dj K "guests" "Hall.guests" dF f fd) : aV P w K mg base cf 1 f fd ["self"] (iS c.C):=by
 refine F.ok lG (fun vs H Q E h=>?_) (fun cdv A outer s H vs Q E hr h=>?_)
 ·obtain⟨p,B,st,rfl,_⟩:=h
  rfl
 ·obtain⟨p,B,st,rfl,S,hl,k⟩:=h
  refine⟨_,ag (aq (bq (da rfl) (by rfl) T.sorted CJ (aj (bB (pv 0) rfl) az))),?_⟩;refine⟨_,rfl,p,c.C,B.dx,_,_,rfl,S.ob,U.cl,U.nW,qE _,B.w,_,aA st.worn,rfl,S.w,?_,by unfold aA;rw[Bx];exact hl,k⟩;unfold dk aA;rw[B0,B0];rfl
theorem mj (F:dj K "wears" "Hall.wears" d9 f fd)(NG:ip P w K mg base c) : aV P w K mg base (gn P w) 3 f fd ["self","guest"] (gz c):=by
 refine F.okX my (fun vs H Q E h=>?_) (fun cdv A outer s H vs Q E hr h=>?_)
 ·obtain⟨p,B,st,g,rfl,_⟩:=h
  rfl
 ·obtain⟨p,B,st,g,rfl,S,hg,k⟩:=h
  have hu:=c9 hr
  refine⟨_,af (aP (d6 (ju hu (pv 1) (bB (pv 0) rfl))) (ag (p0 NG U hr eG rfl hr.hd rfl (pv 1))) aw) (
   ag (aq (eY hu (bB (pv 0) rfl) (pv 1) (fun _ _=>rfl)))),?_⟩
  have g1:bS H B.w (.int g) ((look st.worn g).map V.int):=by rw[<-bY];exact bS.k (k:=Sum.inl g) S.w
  refine⟨_,rfl,_,rfl,p,c.C,B.dx,_,_,rfl,S.ob,U.cl,U.nW,qE _,B.w,_,rfl,g1,_,rfl,?_⟩
  cases e:look st.worn g with
  | none =>
   rw[e]at k;exact bj ⟨_,rfl,g,rfl,hg,fun dx hdx=>k dx _ (am hdx) ae⟩
  | some m =>
   rw[e]at k;refine aD ⟨_,rfl,p,c.C,B.dx,_,_,rfl,S.ob,U.cl,U.nW,qE _,_,rfl,B.w,_,rfl,(by rw[e]at g1;exact g1),k⟩
theorem lu (F:dj K "wearer" "Hall.wearer" dI f fd)(NG:ip P w K mg base c) : aV P w K mg base (gn P w) 3 f fd ["self","mask"] (iY c):=by
 refine F.okX lJ (fun vs H Q E h=>?_) (fun cdv A outer s H vs Q E hr h=>?_)
 ·obtain⟨p,B,st,g,rfl,_⟩:=h
  rfl
 ·obtain⟨p,B,st,g,rfl,S,hg,k⟩:=h
  have hu:=c9 hr
  refine⟨_,af (aP (d6 (ju hu (pv 1) (bB (pv 0) rfl))) (ag (p0 NG U hr eG rfl hr.hd rfl (pv 1))) aw) (
   ag (aq (eY hu (bB (pv 0) rfl) (pv 1) (fun _ _=>rfl)))),?_⟩
  have g1:bS H B.h (.int g) ((look st.hold g).map V.int):=by rw[<-bY];exact bS.k (k:=Sum.inl g) S.h
  refine⟨_,rfl,_,rfl,p,c.C,B.dx,_,_,rfl,S.ob,U.cl,U.nH,wW _,B.h,_,rfl,g1,_,rfl,?_⟩
  cases e:look st.hold g with
  | none =>
   rw[e]at k;exact bj ⟨_,rfl,g,rfl,hg,fun dx hdx=>k dx _ (am hdx) ae⟩
  | some m =>
   rw[e]at k;refine aD ⟨_,rfl,p,c.C,B.dx,_,_,rfl,S.ob,U.cl,U.nH,wW _,_,rfl,B.h,_,rfl,(by rw[e]at g1;exact g1),k⟩
theorem pU (F:dj K "met" "Hall.met" f9 f fd) : aV P w K mg base cf 1 f fd ["self","one","other"] (sL c.C):=by
 refine F.ok qb (fun vs H Q E h=>?_) (fun cdv A outer s H vs Q E hr h=>?_)
 ·obtain⟨p,B,st,a,b,rfl,_⟩:=h
  rfl
 ·obtain⟨p,B,st,a,b,rfl,S,k⟩:=h
  have hu:=c9 hr;refine⟨_,ag (aq (vB (lA hu (pv 2) (p3 hu (bB (pv 0) rfl) (pv 1) dC ⟨rfl,rfl,rfl,rfl⟩)))),?_⟩;refine⟨_,rfl,_,rfl,p,c.C,B.dx,_,_,rfl,S.ob,U.cl,U.nC,wV _,B.c,rfl,.inl ⟨_,.inl S.c⟩,_,rfl,fun l hl=>?_⟩;have s1:aH H (upd H l (.dK [])):=am hl;have S1:=S.mono s1;refine⟨_,bS.k (k:=Sum.inl a) S1.c,?_⟩;rcases eF a S1.cs with ⟨h1,h2,h3⟩ | ⟨ad,h1,h2,h3,h4⟩
  ·rw[h1]
   refine⟨l,_,rfl,bS.k (k:=Sum.inl b) ae,?_⟩;have:=k _ s1;unfold fE at this;rw[h2]at this;exact this
  ·rw[h2]
   refine⟨ad,_,rfl,bS.k (k:=Sum.inl b) h3,?_⟩;rw[xF];exact k _ s1
theorem jt (F:dj K "partners" "Hall.partners" cR f fd) : aV P w K mg base cf 1 f fd ["self","guest"] (fc c.C):=by
 refine F.ok jz (fun vs H Q E h=>?_) (fun cdv A outer s H vs Q E hr h=>?_)
 ·obtain⟨p,B,st,g,rfl,_⟩:=h
  rfl
 ·obtain⟨p,B,st,a,rfl,S,h64,k⟩:=h
  have hu:=c9 hr;refine⟨_,ag (aq (bq (da rfl) (by rfl) T.sorted CJ (aj (p3 hu (bB (pv 0) rfl) (pv 1) dC ⟨rfl,rfl,rfl,rfl⟩) az))),?_⟩;refine⟨_,rfl,p,c.C,B.dx,_,_,rfl,S.ob,U.cl,U.nC,wV _,B.c,rfl,.inl ⟨_,.inl S.c⟩,_,rfl,fun l hl=>?_⟩;have s1:aH H (upd H l (.dK [])):=am hl;have S1:=S.mono s1;refine⟨_,bS.k (k:=Sum.inl a) S1.c,?_⟩;rcases eF a S1.cs with ⟨h1,h2,h3⟩ | ⟨ad,h1,h2,h3,h4⟩
  ·rw[h1]
   refine⟨l,[],[],rfl,ae,rfl,by decide,fun l2 hl2=>?_⟩;refine k l2 _ (s1.free hl2) (s1.trans (am hl2)) ?_;rw[h2,ae]
  ·rw[h2]
   refine⟨ad,_,eV st.circ a,rfl,h3,by unfold m7;rw[B0];rfl,h64,fun l2 hl2=>?_⟩;exact k l2 _ (s1.free hl2) (s1.trans (am hl2)) ae
theorem mh (F:dj K "pairs" "Hall.pairs" cX f fd)(c3:ax P w K mg base cf c.C "partners" 1 ["self","guest"] (fc c.C)) : aV P w K mg base cf 2 f fd ["self"] (iT c.C):=by
 refine F.ok mw (fun vs H Q E h=>?_) (fun cdv A outer s H vs Q E hr h=>?_)
 ·obtain⟨p,B,st,L,rfl,_⟩:=h
  rfl
 ·obtain⟨p,B,st,L,rfl,S,ci,hL,hP,k⟩:=h
  have hu:=c9 hr
  have two:(2:Nat)<=sizeLine:=by decide
  have nQ:(aX B).lookup ("partners" : Str)=none:=lV B (by decide +kernel);have kk:=ci.kk;refine⟨_,ag (aq (vC (so:=ak cX) (N:=iz) (N':=["one","other","self"]) (src:=[none,none,some 0]) rfl rfl yh rfl (dQ (bq (da rfl) (by rfl) T.sorted CJ (fG (bB (pv 0) rfl)))) (fun cl C s2 H2 ex=>⟨rg 0 (show (["one","other","self"]:List Str).Nodup by decide +kernel),e7,vK K (ca c3 (pv 2) U.cl hr.m dB (fG (pv 0))),rg 1 (show (["one","other","self"]:List Str).Nodup by decide +kernel),sD (ar pZ (pv 0) (pv 1) (aB _)),bG (hJ (pv 0) (pv 1))⟩))),?_⟩
  have ck:(bV B.cs st.circ).map (·.1)=(st.circ.map (·.1)).map Sum.inl:=by
   have:=S.cs;generalize B.cs=cs at this;generalize st.circ=xs at this
   induction this with
   | nil=>rfl
   | cons _ _ ih=>simp only[bV,BO];rw[ih]
  refine⟨_,rfl,p,c.C,B.dx,_,_,rfl,S.ob,U.cl,U.nC,wV _,B.c,_,st.circ.map (·.1),rfl,S.c,ck,by rw[Bx];omega,fun lo hlo=>?_⟩;have s1:=am (o:=.lst ((bi (st.circ.map (·.1))).map V.int)) hlo;have ho1:upd H lo (.lst ((bi (st.circ.map (·.1))).map V.int)) lo=some (.lst ((bi (st.circ.map (·.1))).map V.int)):=ae;generalize upd H lo (.lst ((bi (st.circ.map (·.1))).map V.int))=H1 at s1 ho1 ⊢;refine⟨lo,rfl,⟨_,bd.of ho1⟩,fun l hl=>?_⟩;generalize hks:bi (st.circ.map (·.1))=ks at ho1 ⊢
  have kl:ks.length<=L.length:=by rw[<-hks,tU,Bx];exact kk
  have pl:∀ i,((ks.take i).flatMap (bZ st.circ)).length<=1000:=fun i=>by
   have e:cC st.circ=(ks.take i++ks.drop i).flatMap (bZ st.circ):=by rw[List.take_append_drop];unfold cC;rw[hks]
   rw[e,List.flatMap_append,BR]at hP;omega
  refine cZ (K:=K) (a:=lo) (xs:=ks.map V.int) (fun i σ H2=>∃ u v:Option V,σ=[u,v,some (.ref p)]/\aH H1 H2/\jP H2 l ((ks.take i).flatMap (bZ st.circ)))
   ⟨none,none,rfl,am hl,⟨[],ae,.nil⟩⟩ (fun i σ H2 _ ⟨_,_,_,s2,_⟩=>bd.of (s2 _ _ ho1)) ?_ ?_
  ·rintro i y σ H2 hi ⟨u,v,rfl,s2,row⟩
   obtain⟨a,ha,rfl⟩:=bP hi;have S2:=(S.mono s1).mono s2
   have ec:(ks.take (i+1)).flatMap (bZ st.circ)=(ks.take i).flatMap (bZ st.circ)++bZ st.circ a:=by rw[Ce,ha,Co,List.flatMap_append,List.flatMap_singleton]
   have pl2:=pl (i+1);rw[ec,BR]at pl2;refine we ⟨_,rfl,p,B.dx,_,rfl,S2.ob,nQ,_,rfl,p,B,st,a,rfl,S2,C6 (ci.cl a) hL,fun lm H3 hlm s3 hm3=>⟨lm,rfl,⟨_,bd.of hm3⟩,?_⟩⟩;have row3:=row.mono s3;generalize hms:bi (eV st.circ a)=ms at hm3
   have mE:bZ st.circ a=(ms.filter fun b=>decide (a<b)).map fun b=>(a,b):=by unfold bZ;rw[hms]
   refine cZ (K:=K) (a:=lm) (xs:=ms.map V.int) (fun j σ H4=>∃ v:Option V,σ=[some (.int a),v,some (.ref p)]/\(∀ b o,H3 b=some o->b≠l->H4 b=some o)/\jP H4 l ((ks.take i).flatMap (bZ st.circ)++((ms.take j).filter fun b=>decide (a<b)).map fun b=>(a,b)))
    ⟨_,rfl,fun b o e _=>e,by simpa using row3⟩ (fun j σ H4 _ ⟨_,_,s4,_⟩=>bd.of (s4 _ _ hm3 ?_)) ?_ ?_
   ·obtain⟨as,hl3,_⟩:=row
    exact fun z=>by rw[<-z]at hl3;rw[hlm]at hl3;cases hl3
   ·rintro j y σ H4 hj ⟨v,rfl,s4,row4⟩
    obtain⟨b,hb,rfl⟩:=bP hj
    have et:(ms.take (j+1))=ms.take j++[b]:=by rw[Ce,hb,Co]
    have le:((ms.take j).filter fun b=>decide (a<b)).length<=(bZ st.circ a).length:=by
     rw[mE,Bx];exact (List.Sublist.filter _ (List.take_sublist j ms)).length_le
    refine wf ⟨_,rfl,_,rfl,_,_,rfl,rfl,_,rfl,?_⟩
    by_cases hab:a<b
    ·rw[BI hab]
     obtain⟨as,hl4,hp4⟩:=row4;have lq:=BM hp4;refine bj ⟨_,rfl,_,rfl,two,fun t ht=>⟨_,by rw[ac (ah hl4 ht)];exact hl4,?_,?_⟩⟩
     ·rw[Bx,lq,BR,Bx]
      exact aZ (by omega)
     ·have tl:t≠l:=BL (ah hl4 ht)
      refine⟨_,rfl,fun x o e n=>by rw[ac n,ac (ah (s4 x o e n) ht)];exact s4 x o e n,as++[t],by rw[ae,BX];rfl,?_⟩;rw[et,C8,BX,<-List.append_assoc];refine bu (Paired.mapP hp4 fun x q e=>?_) ?_
      ·rw[ac (b9 e hl4 (by intro z;cases z)),ac (ah e ht)];exact e
      ·rw[List.filter_cons_of_pos (by simpa using hab)]
       exact .cons (by rw[ac tl,ae]) .nil
    ·rw[BQ hab]
     refine aD ⟨_,rfl,s4,?_⟩;rw[et,C8,List.filter_cons_of_neg (by simpa using hab)];simpa using row4
   ·rintro σ H4 ⟨v,rfl,s4,row4⟩
    rw[Bx,Ct]at row4;refine⟨_,_,rfl,fun x o e=>s4 x o ((s2.trans s3) x o e) (ah e hl),?_⟩;rw[ec,mE];exact row4
  ·rintro σ H2 ⟨u,v,rfl,s2,row⟩
   rw[Bx,Ct]at row;refine k l H2 (s1.free hl) (s1.trans s2) ?_;unfold cC;rw[hks];exact row
theorem mi (F:dj K "story" "Hall.story" d8 f fd) : aV P w K mg base cf 1 f fd ["self"] (iX c.C):=by
 refine F.ok mx (fun vs H Q E h=>?_) (fun cdv A outer s H vs Q E hr h=>?_)
 ·obtain⟨p,B,st,rfl,_⟩:=h
  rfl
 ·obtain⟨p,B,st,rfl,S,k⟩:=h
  refine⟨_,ag (aq (gy n6 (by rfl) T.list PyProof.Rows.boot_list (aj (bB (pv 0) rfl) az))),?_⟩;obtain⟨as,hd,hp⟩:=S.d;refine⟨_,rfl,p,c.C,B.dx,_,_,rfl,S.ob,U.cl,U.nD,u6 _,B.d,_,rfl,.inl (bd.of hd),fun l hl=>?_⟩;exact k l _ hl (am hl) ⟨as,ae,Paired.mapP hp fun b y e=>(am hl) _ _ e⟩
theorem lj (F:dj K "moment" "Hall.moment" dH f fd) : aV P w K mg base cf 1 f fd ["self"] (iV c.C):=by
 refine F.ok lI (fun vs H Q E h=>?_) (fun cdv A outer s H vs Q E hr h=>?_)
 ·obtain⟨p,B,st,rfl,_⟩:=h
  rfl
 ·obtain⟨p,B,st,rfl,S,k⟩:=h
  refine⟨_,ag (aq (bq bO (by rfl) T.len C0 (aj (bB (pv 0) rfl) az))),?_⟩;obtain⟨as,hd,hp⟩:=S.d;refine⟨_,rfl,p,c.C,B.dx,_,_,rfl,S.ob,U.cl,U.nD,u6 _,B.d,_,rfl,.inl (bd.of hd),?_⟩;rw[Bx,BM hp];exact k
theorem lx (F:dj K "read_number" "read_number" cI f fd) : aV P w K mg base cf 1 f fd ["word"] xA:=by
 refine F.ok lM (fun vs H Q E h=>?_) (fun cdv A outer s H vs Q E hr h=>?_)
 ·obtain⟨z,rfl,_⟩:=h
  rfl
 ·obtain⟨z,rfl,asc,len,k1,k2⟩:=h
  have hu:=c9 hr
  refine⟨_,af (aP (PW.pt (jV (jw (vP xQ xQ (ai) (bq nZ (by rfl) T.len C0 (fG (pv 0))) (p6 (by rfl) UO.md))) (f7 (jw (jx (bq (tp rfl) (by rfl) T.all PyProof.Rows.boot_all (fG (km (so:=ak cI) (N:=gP) (N':=["sign"]) (src:=[none]) rfl rfl yh rfl (yL (pv 0)) (fun cl C s2 H2 ex=>⟨rg 0 (show (["sign"]:List Str).Nodup by decide +kernel),e7,oQ ui (pv 0) (p6 (by rfl) UO.dg) rfl⟩))))))))) (ag (aq (cL))) (aw)) (
   af (aP (PW.pt (hV (ar bR (aT yp (pv 0) (ai) (fun _ _=>rfl)) (ay) (aB _)) (e8 (ar iC (pv 0) (ay) (aB _))))) (ag (aq (cL))) (aw)) (
   ag (aq (gy tq (by rfl) T.int PyProof.Rows.boot_int (fG (pv 0)))))),?_⟩
  have sl:sizeLine=16777216:=Cv
  have zl:z.length<=sizeLine:=by omega
  have hz:z.length=z.cps.toList.length:=by rw[B1];rfl
  have zz:(Str.ofString "0").cps.toList=[48]:=by decide +kernel
  refine⟨_,rfl,z,rfl,zl,_,_,rfl,rfl,_,rfl,?_⟩
  by_cases h1:1<=z.length
  ·rw[BI (show (1:Int)<=(z.length:Int) by omega)]
   refine bj ⟨_,_,rfl,rfl,_,rfl,?_⟩
   by_cases h2:z.length<=12
   ·rw[BI (show (z.length:Int)<=12 by omega)]
    refine aD ⟨_,rfl,z,rfl,asc,fun q hq=>?_⟩;refine uy (f:=kQ) hq (by omega) (fun c HK Q' sK kk=>?_) (fun H1 s1 hq1=>?_)
    ·refine⟨_,rfl,_,_,rfl,rfl,?_⟩
     rw[yj];exact kk HK (aH.refl _)
    refine⟨q,_,rfl,bd.of hq1,_,rfl,?_⟩
    by_cases h3:∀ c∈z.cps.toList,kQ c=true
    ·rw[show (z.cps.toList.map kQ).all id=true from CB.mpr fun b hb=>by obtain⟨c,hc,rfl⟩:=BZ.mp hb;exact h3 c hc]
     obtain⟨c,l,hcl⟩:∃ c l,z.cps.toList=c::l:=by
      cases e:z.cps.toList with
      | nil=>rw[hz,e]at h1;exact absurd h1 (by decide)
      | cons c l=>exact⟨c,l,rfl⟩
     refine aD ⟨_,rfl,z,_,c,rfl,rfl,zl,by rw[hcl];exact gr (j:=0) rfl,rfl,_,rfl,?_⟩;rw[v2,zz]
     show if decide ([c]=[48])=true then _ else _
     have fin:¬ (z.cps.toList.head? = some 48/\z.cps.toList≠[48])->∃ ds,Num z ds:=fun h4=>(iA z).mpr ⟨h1,h2,h3,h4⟩
     by_cases h4:c=48
     ·rw[BI (by rw[h4])]
      refine bj ⟨_,rfl,rfl,_,rfl,?_⟩;rw[v2,zz]
      by_cases h5:z.cps.toList=[48]
      ·rw[BI h5]
       obtain⟨ds,N⟩:=fin fun q=>q.2 h5;exact aD ⟨_,rfl,z,ds,rfl,N,k1 ds H1 N s1⟩
      ·rw[BQ h5]
       exact bj (k2 (fun ds N=>((iA z).mp ⟨ds,N⟩).2.2.2 ⟨by rw[hcl,h4];rfl,h5⟩) H1 s1)
     ·rw[BQ (fun q=>h4 (List.cons.inj q).1)]
      obtain⟨ds,N⟩:=fin fun q=>h4 (by have:=q.1;rw[hcl]at this;exact BF this);exact aD (aD ⟨_,rfl,z,ds,rfl,N,k1 ds H1 N s1⟩)
    ·rw[show (z.cps.toList.map kQ).all id=false from Bool.eq_false_iff.mpr fun q=>h3 fun c hc=>CB.mp q _ (C3 hc)]
     exact bj (k2 (fun ds N=>h3 ((iA z).mp ⟨ds,N⟩).2.2.1) H1 s1)
   ·rw[BQ (show ¬ (z.length:Int)<=12 by omega)]
    exact bj (k2 (fun ds N=>h2 ((iA z).mp ⟨ds,N⟩).2.1) H (aH.refl _))
  ·rw[BQ (show ¬ (1:Int)<=(z.length:Int) by omega)]
   exact aD ⟨_,rfl,bj (k2 (fun ds N=>h1 ((iA z).mp ⟨ds,N⟩).1) H (aH.refl _))⟩
theorem qZ (F:dj K "do_deed" "do_deed" h9 f fd)(b7:ax P w K mg base (gn P w) c.C "come" 2 ["self","guest"] (lQ c))(dq:ax P w K mg base (gn P w) c.C "go" 4 ["self","guest"] (v1 c))(bo:ax P w K mg base (gn P w) c.C "exchange" 4 ["self","one","other"] (lR c)) : aV P w K mg base (gn P w) 5 f fd ["hall","deed"] (rB c):=by
 refine F.okX rm (fun vs H Q E h=>?_) (fun cdv A outer s H vs Q E hr h=>?_)
 ·obtain⟨p,t,B,st,d,rfl,_⟩:=h
  rfl
 ·obtain⟨p,t,B,st,d,rfl,ht0,S,ft,hg,sm,k⟩:=h
  have ht:H t=some (.tup (be d)):=by rw[<-cw];exact ht0
  have T0:cr K H t (be d):=cr.of ht;refine⟨_,ag (aP (ar bR (aT aK (pv 1) (ai) (fun _ _=>rfl)) (ay) (aB _)) (ag (a9 (ca b7 (pv 0) U.cl hr.m cV (fG (aT aK (pv 1) (ai) (fun _ _=>rfl)))))) (ag (aP (ar bR (aT aK (pv 1) (ai) (fun _ _=>rfl)) (ay) (aB _)) (ag (a9 (ca dq (pv 0) U.cl hr.m cV (fG (aT aK (pv 1) (ai) (fun _ _=>rfl)))))) (ag (a9 (ca bo (pv 0) U.cl hr.m cV (hJ (aT aK (pv 1) (ai) (fun _ _=>rfl)) (aT aK (pv 1) (ai) (fun _ _=>rfl))))))))),?_⟩;have n1:=gO B (m:="come") (by decide +kernel) (by decide +kernel) (by decide +kernel) (by decide +kernel);have n2:=gO B (m:="go") (by decide +kernel) (by decide +kernel) (by decide +kernel) (by decide +kernel);have n3:=gO B (m:="exchange") (by decide +kernel) (by decide +kernel) (by decide +kernel) (by decide +kernel)
  cases d with
  | come g =>
   refine⟨_,rfl,t,_,_,_,rfl,rfl,T0,rfl,rfl,_,rfl,?_⟩;rw[show decide (V.str (bh (.come g))=V.str "come")=true from cc];exact bj ⟨_,rfl,p,B.dx,_,rfl,S.ob,n1,_,rfl,t,_,_,_,rfl,rfl,T0,rfl,p,B,st,g,rfl,S,ft,sm g (by simp[names]),k⟩
  | go g =>
   refine⟨_,rfl,t,_,_,_,rfl,rfl,T0,rfl,rfl,_,rfl,?_⟩;rw[show decide (V.str (bh (.go g))=V.str "come")=false from gc];refine aD ⟨_,rfl,t,_,_,_,rfl,rfl,T0,rfl,rfl,_,rfl,?_⟩;rw[show decide (V.str (bh (.go g))=V.str "go")=true from gg];exact bj ⟨_,rfl,p,B.dx,_,rfl,S.ob,n2,_,rfl,t,_,_,_,rfl,rfl,T0,rfl,p,B,st,g,rfl,S,ft,sm g (by simp[names]),(fun m hm=>⟨hg.sm g m hm,fun e=>by rw[e]at hm;rw[(hg.wh g g).mp hm];rfl⟩),k⟩
  | exch a b =>
   refine⟨_,rfl,t,_,_,_,rfl,rfl,T0,rfl,rfl,_,rfl,?_⟩;rw[show decide (V.str (bh (.exch a b))=V.str "come")=false from ec];refine aD ⟨_,rfl,t,_,_,_,rfl,rfl,T0,rfl,rfl,_,rfl,?_⟩;rw[show decide (V.str (bh (.exch a b))=V.str "go")=false from eg];exact aD ⟨_,rfl,p,B.dx,_,rfl,S.ob,n3,_,rfl,t,_,_,_,rfl,rfl,T0,rfl,_,rfl,t,_,_,_,rfl,rfl,T0,rfl,p,B,st,a,b,rfl,S,ft,sm a (by simp[names]),sm b (by simp[names]),k⟩
theorem oP (F:dj K "read_line" "read_line" dh f fd)(Cread_number:aE P w K mg base "read_number" 1 ["word"] xA) : aV P w K mg base cf 2 f fd ["line"] xz:=by
 refine F.ok fb (fun vs H Q E h=>?_) (fun cdv A outer s H vs Q E hr h=>?_)
 ·obtain⟨z,w0,ws,rfl,_⟩:=h
  rfl
 ·obtain⟨z,w0,ws,rfl,asc,len,hw,k1,k2⟩:=h
  have hu:=c9 hr
  refine⟨_,af (br 1 fb.nd (p7 (pv 0) (ay))) (
   af (oU (ix:=2) (so:=ak dh) (N:=jU) (N':=["word"]) (src:=[none]) rfl rfl yh rfl (dQ (iG o4 (pv 1) (iJ (ai)) oS)) (fun cl C s2 H2 ex=>⟨rg 0 (show (["word"]:List Str).Nodup by decide +kernel),e7,bb Cread_number hr.m rfl (fG (pv 0))⟩) fb.nd rfl rfl) (
   af (aP (ar uh (cL) (pv 2) rfl) (ag (aq (cL))) (aw)) (
   ag (aq (aJ xl (bG (fG (aT oo (pv 1) (ai) (fun _ _=>rfl)))) (gy lX (by rfl) T.tuple PyProof.Rows.boot_tuple (fG (pv 2)))))))),?_⟩
  have sl:sizeLine=16777216:=Cv
  have sp:(Str.ofString " ")=⟨#[32]⟩:=by decide +kernel
  obtain⟨wl,wok⟩:=uG (c:=32) (by decide) asc;rw[hw]at wl wok;have wl:ws.length+1<=z.length+1:=wl;refine⟨_,rfl,rfl,z,_,rfl,rfl,by rw[sp];rfl,by omega,fun lw hlw=>?_⟩;rw[show (Txt.split z (Str.ofString " "))=w0::ws by rw[sp];exact hw];have s1:=am (o:=.lst ((w0::ws).map V.str)) hlw;have h1:upd H lw (.lst ((w0::ws).map V.str)) lw=some (.lst ((w0::ws).map V.str)):=ae;generalize upd H lw (.lst ((w0::ws).map V.str))=H1 at s1 h1 ⊢;refine⟨_,rfl,_,rfl,vn ⟨lw,_,rfl,bd.of h1,fun l3 hl3=>?_⟩⟩;rw[zr,show ((w0::ws).map V.str).drop 1=ws.map V.str from rfl];have s2:=am (o:=.lst (ws.map V.str)) hl3;have h3:upd H1 l3 (.lst (ws.map V.str)) l3=some (.lst (ws.map V.str)):=ae;have h2:=s2 _ _ h1;have s02:=s1.trans s2;generalize upd H1 l3 (.lst (ws.map V.str))=H2 at s2 h3 h2 s02 ⊢;refine⟨l3,rfl,⟨_,bd.of h3⟩,fun ln hln=>?_⟩;refine tX (K:=K) V.str (rs:=ws) (f:=numW) hln h3 (by omega) (fun r HK Q' hr0 sK kk=>?_) (fun H3 s3 h4=>?_)
  ·obtain⟨ra,rl⟩:=wok r (BC _ hr0)
   refine⟨_,rfl,r,rfl,ra,by omega,fun ds H' N s'=>?_,fun n H' s'=>?_⟩
   ·have:=kk H' s'
    rw[lb N]at this;exact this
   ·have:=kk H' s'
    rw[pT n]at this;exact this
  have s03:=s02.trans s3;have h2:=s3 _ _ h2
  have fl:(ws.map numW).all gM=true:=CB.mpr fun v hv=>by
   obtain⟨w,_,rfl⟩:=BZ.mp hv;exact g9 (jq w)
  refine⟨_,rfl,ln,_,rfl,.inl (bd.of h4),rfl,fl,_,rfl,?_⟩
  have ein:zB V.non (ws.map numW)=true↔∃ w∈ws,∀ ds,¬ Num w ds:=by
   unfold zB;rw[List.any_eq_true];constructor
   ·rintro⟨v,hv,e⟩
    obtain⟨w,hw0,rfl⟩:=BZ.mp hv;have e:=(n9 (jq w) rfl).mp e;refine⟨w,hw0,fun ds N=>?_⟩;rw[lb N]at e;cases e
   ·rintro⟨w,hw0,n⟩
    refine⟨_,C3 hw0,(n9 (jq w) rfl).mpr (pT n)⟩
  cases hb:zB V.non (ws.map numW) with
  | true =>
   rw[show (if false=true then !true else true)=true from rfl];exact bj (k2 (ein.mp hb) H3 s03)
  | false =>
   have al:∀ w∈ws,∃ ds,Num w ds:=fun w hw0=>Classical.byContradiction fun n=>by
    rw[ein.mpr ⟨w,hw0,fun ds N=>n ⟨ds,N⟩⟩]at hb;cases hb
   rw[show (if false=true then !false else false)=false from rfl];refine aD ⟨_,rfl,lw,_,_,_,rfl,rfl,bd.of h2,gr (j:=0) rfl,(show 1<=sizeLine by decide),fun t1 ht1=>?_⟩;have s4:=am (o:=.tup [V.str w0]) ht1;have h5:upd H3 t1 (.tup [V.str w0]) t1=some (.tup [V.str w0]):=ae;have h6:=s4 _ _ h4;have s04:=s03.trans s4;have ht0:=s03.free ht1;generalize upd H3 t1 (.tup [V.str w0])=H4 at s4 h5 h6 s04 ⊢;refine⟨_,rfl,ln,_,rfl,.inl ⟨bd.of h6,fun t2 ht2=>?_⟩⟩;have s5:=am (o:=.tup (ws.map numW)) ht2;have h7:upd H4 t2 (.tup (ws.map numW)) t2=some (.tup (ws.map numW)):=ae;have h8:=s5 _ _ h5;have s05:=s04.trans s5;generalize upd H4 t2 (.tup (ws.map numW))=H5 at s5 h7 h8 s05 ⊢;refine⟨t1,t2,_,_,rfl,rfl,cr.of h8,cr.of h7,by simp,by rw[Bx];show 1+ws.length<=_;omega,fun e=>?_,fun _ t3 ht3=>?_⟩
   ·refine k1 al t1 H5 ht0 s05 ?_
    rw[e];exact h8
   ·exact k1 al t3 _ (s05.free ht3) (s05.trans (am ht3)) ae
theorem rc (F:dj K "written" "written" dL f fd)(bN:ax P w K mg base cf c.C "story" 1 ["self"] (iX c.C)) : aV P w K mg base cf 2 f fd ["hall"] (gA c):=by
 refine F.ok lN (fun vs H Q E h=>?_) (fun cdv A outer s H vs Q E hr h=>?_)
 ·obtain⟨p,B,st,rfl,_⟩:=h
  rfl
 ·obtain⟨p,B,st,rfl,S,h400,sm,k⟩:=h
  have nS:(aX B).lookup ("story" : Str)=none:=lV B (by decide +kernel)
  refine⟨_,af (oU (ix:=1) (so:=ak dL) (N:=jo) (N':=["deed"]) (src:=[none]) rfl rfl yh rfl (dQ (lE bN (pv 0) U.cl hr.m dB)) (fun cl C s2 H2 ex=>⟨rg 0 (show (["deed"]:List Str).Nodup by decide +kernel),e7,sx K (ay) (km (so:=_) (N:=["deed"]) (N':=["part"]) (src:=[none]) rfl rfl Au rfl (xr K (pv 0)) (fun cl C s2 H2 ex=>⟨rg 0 (show (["part"]:List Str).Nodup by decide +kernel),e7,gy uK (by rfl) T.str PyProof.Rows.boot_str (fG (pv 0))⟩))⟩) lN.nd rfl rfl) (
   ag (aq (sx K (ay) (km (so:=ak dL) (N:=jo) (N':=["line"]) (src:=[none]) rfl rfl yh rfl (dQ (pv 1)) (fun cl C s2 H2 ex=>⟨rg 0 (show (["line"]:List Str).Nodup by decide +kernel),e7,aJ re (pv 0) (ay)⟩))))),?_⟩
  refine⟨_,rfl,p,B.dx,_,rfl,S.ob,nS,p,B,_,rfl,S,fun l3 H3 hl3 s3 d3=>?_⟩;obtain⟨as,h3,pa⟩:=d3;have hpl:=BM pa;refine⟨l3,rfl,⟨_,bd.of h3⟩,fun q hq=>?_⟩
  refine cZ (K:=K) (a:=l3) (xs:=as.map V.ref) (fun i σ HK=>∃ v:Option V,σ=[v]/\aH H3 HK/\HK q=some (.lst (((st.deeds.take i).map aU).map V.str)))
   ⟨none,rfl,am hq,ae⟩ (fun i σ HK _ ⟨_,_,s2,_⟩=>bd.of (s2 _ _ h3)) ?_ ?_
  ·rintro i y σ HK hi ⟨v,rfl,t1,hq2⟩
   obtain⟨a,ha,rfl⟩:=bP hi;have hil:i<as.length:=(List.getElem?_eq_some_iff.mp ha).1;obtain⟨d,hd0,hA⟩:=bM pa ha;have smd:=sm d (B9 hd0)
   have hT:HK a=some (.tup (be d)):=by rw[<-cw];exact t1 _ _ hA
   refine fo ⟨rfl,_,rfl,a,rfl,⟨_,cr.of hT⟩,fun q2 hq2'=>?_⟩
   refine rW (K:=K) (a:=a) (xs:=be d) (fun j σ HJ=>∃ v:Option V,σ=[v]/\aH HK HJ/\HJ q2=some (.lst (((b6 d).take j).map V.str)))
    ⟨none,rfl,am hq2',ae⟩ (fun j σ HJ _ ⟨_,_,s2,_⟩=>cr.of (s2 _ _ hT)) ?_ ?_
   ·rintro j y σ HJ hj ⟨v,rfl,u1,hu⟩
    obtain⟨wd,hwd,hx⟩:=tG hj;have jl:=(jE smd).2
    have fin:∃ ys,HJ q2=some (.lst ys)/\ys.length<sizeLine/\∃ v:Option V,([some y]:St)=[v]/\aH HK (upd HJ q2 (.lst (ys++[V.str wd])))/\upd HJ q2 (.lst (ys++[V.str wd])) q2=some (.lst (((b6 d).take (j+1)).map V.str)):=by
     refine⟨_,hu,by rw[Bx,CA];exact aZ (by omega),_,rfl,bW u1 hq2',?_⟩;rw[ae,Ce,hwd,Co,BX];rfl
    rcases hx with ⟨z,rfl,rfl⟩ | ⟨g,rfl,hg,rfl⟩
    ·exact fo ⟨_,rfl,.inl ⟨_,rfl,fin⟩⟩
    ·exact fo ⟨_,rfl,.inr ⟨g,rfl,smd g hg,fin⟩⟩
   ·rintro σ HJ ⟨v,rfl,u1,hu⟩
    rw[tE,Ct]at hu;refine⟨_,q2,b6 d,rfl,rfl,bd.of hu,wo smd,?_⟩;refine⟨_,u1 _ _ hq2,by rw[Bx,Bx,CA];exact aZ (by omega),_,rfl,bW (t1.trans u1) hq,?_⟩;rw[ae,Ce,hd0,Co,BX,BX];rfl
  ·rintro σ H4 ⟨v,rfl,t1,hq4⟩
   rw[Bx,hpl,Ct]at hq4;refine⟨rfl,_,rfl,q,rfl,⟨_,bd.of hq4⟩,fun q5 hq5=>?_⟩
   refine cZ (K:=K) (a:=q) (xs:=(st.deeds.map aU).map V.str) (fun i σ HK=>∃ v:Option V,σ=[v]/\aH H4 HK/\HK q5=some (.lst (((st.deeds.take i).map fun d=>aU d++Str.ofString "\n").map V.str)))
    ⟨none,rfl,am hq5,ae⟩ (fun i σ HK _ ⟨_,_,s2,_⟩=>bd.of (s2 _ _ hq4)) ?_ ?_
   ·rintro i y σ HK hi ⟨v,rfl,u1,hu⟩
    rw[B0]at hi;obtain⟨d,hd0,rfl⟩:=bP hi;have hil:=(List.getElem?_eq_some_iff.mp hd0).1;have smd:=sm d (B9 hd0);have ll:=m9 smd;rw[Str.length_append]at ll;refine fo ⟨_,rfl,_,_,rfl,rfl,B6 ll (by decide),_,hu,by rw[Bx,Bx,CA];exact aZ (by omega),?_⟩;refine⟨_,rfl,bW u1 hq5,?_⟩;rw[ae,Ce,hd0,Co,BX,BX];rfl
   ·rintro σ HK ⟨v,rfl,u1,hu⟩
    rw[Bx,Bx,Ct]at hu;exact⟨_,q5,_,rfl,rfl,bd.of hu,xE h400 sm,k HK ((s3.trans t1).trans u1)⟩
theorem ug (F:dj K "opened" "opened" jD f fd)(MH:Aa P w K mg base c)(Cread_line:aE P w K mg base "read_line" 2 ["line"] xz)(Cdo_deed:eU P w K mg base "do_deed" 5 ["hall","deed"] (rB c)) : aV P w K mg base cf 8 f fd ["text"] (o7 c):=by
 refine F.ok dv (fun vs H Q E h=>?_) (fun cdv A outer s H vs Q E hr h=>?_)
 ·obtain⟨ds,L,rfl,_⟩:=h
  rfl
 ·obtain⟨ds,L,rfl,hdn,hdl,hL,hnm,hgs,k⟩:=h
  have hu:=c9 hr
  refine⟨_,af (br 1 dv.nd (xR MH U hr.m rfl)) (
   af (br 2 dv.nd (p7 (pv 0) (ay))) (
   af (f6 CK rfl (vJ (by rfl) T.enumerate (fG (iG o4 (pv 2) oS (iJ (vH rJ (ai)))))) (vI rfl (iI (rg 3 dv.nd) (iI (rg 4 dv.nd) sy))) (af (br 5 dv.nd (bb Cread_line hr.m rfl (fG (pv 4)))) (
   af (aP (PW.pt (jV (d6 (vz (pv 5))) (f7 (ar iC (xn UO.gd (by rfl) UO.ms (aT aK (pv 5) (ai) (fun _ _=>rfl)) ⟨rfl,rfl,rfl,rfl⟩) (bq bO (by rfl) T.len C0 (fG (pv 5))) (aB _))))) (ag (p8)) (aw)) (
   ag (a9 (yN Cdo_deed hr.m rfl vy (hJ (pv 1) (pv 5)))))))) (
   af (aP (ar iC (aT oo (pv 2) (vH rJ (ai)) (fun _ _=>rfl)) (ay) (aB _)) (ag (p8)) (aw)) (
   ag (aq (pv 1)))))),?_⟩
  intro x dx nx ndx nex;refine⟨x,dx,rfl,ae,fun B H1 S1 kp fr=>⟨rfl,?_⟩⟩
  have s0:aH H (upd (upd H dx (.own x)) x (.ins c.C dx [])):=fun b o e=>by rw[ac (ah e nx),ac (ah e ndx)];exact e
  have E1:Ev c H H1 x B ⟨[],[],[],[]⟩:=⟨fun b o e=>kp b o (s0 b o e) (ah e nx),S1,kO,fun b hb=>s0.free (fr b hb)⟩;have tl:=wg hgs;have sl:sizeLine=16777216:=Cv
  have nl:(Str.ofString "\n")=⟨#[10]⟩:=by decide +kernel
  have tw:Txt.split (gU ds) (Str.ofString "\n")=ds.map aU++[Str.ofString ""]:=by rw[nl];exact rE hgs
  refine⟨_,rfl,rfl,_,_,rfl,rfl,by rw[nl];rfl,by omega,fun ll hll=>?_⟩;rw[tw,BX];have sA:=am (o:=.lst ((ds.map aU).map V.str++[Str.ofString ""].map V.str)) hll;have E2:=E1.on sA;have hl2:upd H1 ll (.lst ((ds.map aU).map V.str++[Str.ofString ""].map V.str)) ll=some (.lst ((ds.map aU).map V.str++[V.str (Str.ofString "")])):=ae;have llB:=E1.track hll;generalize upd H1 ll (.lst ((ds.map aU).map V.str++[Str.ofString ""].map V.str))=H2 at E2 hl2;clear sA;refine⟨_,rfl,vn ⟨_,rfl,_,rfl,ll,_,rfl,bd.of hl2,fun lp hlp=>?_⟩⟩;rw[wG,List.dropLast_concat];have sB:=am (o:=.lst ((ds.map aU).map V.str)) hlp;have E3:=E2.on sB;have hl3:=sB _ _ hl2;have hp3:upd H2 lp (.lst ((ds.map aU).map V.str)) lp=some (.lst ((ds.map aU).map V.str)):=ae;have lpB:=E2.track hlp;generalize upd H2 lp (.lst ((ds.map aU).map V.str))=H3 at E3 hl3 hp3;clear sB;refine⟨lp,rfl,⟨_,bd.of hp3⟩,?_⟩
  refine tL (K:=K) (a:=lp) (xs:=(ds.map aU).map V.str) (fun i σ HH=>∃ (B:HA)(v3 v4 v5:Option V),σ=[some (.str (gU ds)),some (.ref x),some (.ref ll),v3,v4,v5]/\Ev c H HH x B (hW (ds.take i))/\Of L (hW (ds.take i))/\Sz i (hW (ds.take i))/\HH ll=some (.lst ((ds.map aU).map V.str++[V.str (Str.ofString "")]))/\ll∉B.fp/\HH lp=some (.lst ((ds.map aU).map V.str))/\lp∉B.fp)
   ⟨B,none,none,none,rfl,E3,of_empty,Ba,hl3,llB,hp3,lpB⟩ (fun i σ HH _ ⟨_,_,_,_,_,_,_,_,_,_,h,_⟩=>bd.of h) ?_ ?_
  ·rintro i y σ HH T hi ⟨B,v3,v4,v5,rfl,E,o,z,hll,llB,hlp,lpB⟩ hTn
   obtain⟨q,hq,rfl⟩:=bP hi;obtain⟨d,hd,rfl⟩:=bP hq;have hil:=(List.getElem?_eq_some_iff.mp hd).1;have sT:=am (o:=.tup [.int ((i:Int)+1),.str (aU d)]) hTn;have hTT:upd HH T (.tup [.int ((i:Int)+1),.str (aU d)]) T=some (.tup [.int ((i:Int)+1),.str (aU d)]):=ae;have E:=E.on sT;have hll:=sT _ _ hll;have hlp:=sT _ _ hlp;generalize upd HH T (.tup [.int ((i:Int)+1),.str (aU d)])=HH at hTT E hll hlp ⊢;clear sT hTn;refine⟨T,_,rfl,cr.of hTT,rfl,_,_,rfl,_,_,rfl,rfl,?_⟩;have dm:=B9 hd;have gs:=hgs d dm;have nm:=hnm d dm;have ls:=jj gs;have lw:=qN gs;refine⟨_,rfl,aU d,bh d,_,rfl,yf fun c hc=>(ls.1 c hc).2,by rw[rO];omega,lw,fun _ t HX ht sX hX=>?_,fun bad=>?_⟩
   ·have e1:((names d).map c6).map numW=(names d).map V.int:=by
     rw[B0];exact Cc fun g hg=>yC (gs g hg)
    rw[e1]at hX
    have hD:HX t=some (a7 d):=by rw[cw];exact hX
    have E:=E.on sX;have hll:=sX _ _ hll;have hlp:=sX _ _ hlp;have at0:ww (V.str (bh d)::(names d).map V.int) 0=some (V.str (bh d)):=gr (j:=0) rfl;refine⟨_,rfl,_,rfl,aD ⟨_,rfl,t,_,_,_,rfl,rfl,cr.of hX,at0,_,rfl,_,rfl,t,_,rfl,.inr (cr.of hX),?_⟩⟩
    have gv:qB sizesD (bh d)=.int ((V.str (bh d)::(names d).map V.int).length:Nat):=by
     cases d with
     | come g=>show qB sizesD (Str.ofString "come")=V.int 2;decide +kernel
     | go g=>show qB sizesD (Str.ofString "go")=V.int 2;decide +kernel
     | exch a b=>show qB sizesD (Str.ofString "exchange")=V.int 3;decide +kernel
    rw[gv];refine⟨rfl,_,rfl,?_⟩;rw[BI rfl];have hj:=hdn i d hd;have ft:=rV E.good o hL z (by omega);refine aD ⟨_,rfl,_,rfl,x,t,B,_,d,rfl,hD,E.hall,ft,E.good,fun g hg=>(nm g hg).2,?_⟩;unfold lW;rw[Bz hj];intro H4 mv
    have en:aO (hW (ds.take i)) d=hW (ds.take (i+1)):=by unfold aO;rw[Bz hj,Ce,hd,Co,nv]
    have g2:=mY E.good (d:=d) (fun g hg=>(nm g hg).2);have o2:=sr E.good o (fun g hg=>(nm g hg).1);have z2:=sO z d
    have mv2:fP c.C HX x B (aO (hW (ds.take i)) d) H4:=by unfold aO;rw[Bz hj];exact mv
    obtain⟨B',E2,keep,_⟩:=E.moved mv2 g2;rw[en]at E2 o2 z2;exact⟨B',_,_,_,rfl,E2,o2,z2,(keep _ _ hll llB).1,(keep _ _ hll llB).2,(keep _ _ hlp lpB).1,(keep _ _ hlp lpB).2⟩
   ·obtain⟨w0,hw0,n0⟩:=bad
    obtain⟨g,hg,rfl⟩:=BZ.mp hw0;obtain⟨e,N,_⟩:=k8 (gs g hg);exact absurd N (n0 e)
  ·rintro σ HH ⟨B,v3,v4,v5,rfl,E,o,z,hll,llB,hlp,lpB⟩
   rw[Bx,Bx,Ct]at E;refine⟨_,rfl,_,rfl,ll,_,_,_,rfl,rfl,bd.of hll,uJ _ _,rfl,_,rfl,?_⟩;rw[BI rfl];exact aD ⟨_,rfl,k x B HH nx E⟩
theorem lv (F:dj K "_law_cell_at" "_law_cell_at" dJ f fd) : aV P w K mg base cf 1 f fd ["_law_script","_law_k"] (lP K):=by
 refine F.ok lK (fun vs H Q E h=>?_) (fun cdv A outer s H vs Q E hr h=>?_)
 ·obtain⟨a,ns,k,rfl,_⟩:=h
  rfl
 ·obtain⟨a,ns,i,rfl,hS,hi,k⟩:=h
  refine⟨_,af (aP (ar pZ (pv 1) (bq bO (by rfl) T.len C0 (aj (pv 0) az)) (aB _)) (ag (aq (aT oo (pv 0) (pv 1) (fun _ _=>rfl)))) aw) (ag (aq ai)),?_⟩;refine⟨_,rfl,_,rfl,a,_,rfl,.inl hS,_,_,rfl,rfl,_,rfl,?_⟩;unfold eW at k;rw[Bx]
  by_cases hc:i<(ns.length:Int)
  ·rw[Bz hc]at k
   rw[BI hc];refine bj ⟨_,rfl,_,rfl,a,_,_,_,rfl,rfl,hS,?_,k⟩;have e:i=((i.toNat:Nat):Int):=(Int.toNat_of_nonneg hi).symm
   have hl:i.toNat<ns.length:=by omega
   rw[e];refine gr ?_;rw[List.getElem?_map,List.getD_eq_getElem?_getD,Int.toNat_natCast,List.getElem?_eq_getElem hl];rfl
  ·rw[By hc]at k
   rw[BQ hc];exact aD k
theorem pW (F:dj K "_law_size" "_law_size" gi f fd) : aV P w K mg base cf 1 f fd ["_law_cell"] jB:=by
 refine F.ok qc (fun vs H Q E h=>?_) (fun cdv A outer s H vs Q E hr h=>?_)
 ·obtain⟨c,rfl,_⟩:=h
  rfl
 ·obtain⟨c,rfl,k⟩:=h
  refine⟨_,af (aP (ar pZ (pv 0) ai (aB _)) (ag (aq (vH rJ (pv 0)))) aw) (ag (aq (pv 0))),?_⟩;refine⟨_,rfl,_,_,rfl,rfl,_,rfl,?_⟩;unfold c5 at k
  by_cases hc:c<0
  ·rw[Bz hc]at k
   rw[BI hc];exact bj ⟨_,rfl,_,rfl,k⟩
  ·rw[By hc]at k
   rw[BQ hc];exact aD ⟨_,rfl,k⟩
theorem oN (F:dj K "_law_draws" "_law_draws" fk f fd)(bE:aE P w K mg base "_law_size" 1 ["_law_cell"] jB) : aV P w K mg base cf 2 f fd ["_law_cell","_law_many","_law_base"] kx:=by
 refine F.ok aY (fun vs H Q E h=>?_) (fun cdv A outer s H vs Q E hr h=>?_)
 ·obtain⟨c,m,b,rfl,_⟩:=h
  rfl
 ·obtain⟨c,m,b,rfl,⟨m0,m1⟩,⟨b0,b1⟩,k⟩:=h
  refine⟨_,af (bU (i:=3) aY.nd rfl (Or.inl rfl) (bb bE hr rfl (aj (pv 0) az)))
   (af (bU (i:=4) aY.nd rfl (Or.inl rfl) (oR az))
   (af (aP (ar zK (pv 3) (aJ vt ai ai) (aB _))
    (af (bU (i:=3) aY.nd rfl (Or.inl rfl) (aJ yF (pv 3) (aJ vt ai ai)))
    (af (bU (i:=5) aY.nd rfl (Or.inl rfl) (aJ bA (pv 3) (aJ d5 (pv 1) ai)))
    (af (bU (i:=3) aY.nd rfl (Or.inl rfl) (aJ dP (pv 3) (aJ d5 (pv 1) ai)))
    (af (f6 CK rfl (jv rfl T.range (aj (pv 5) az)) (iH (i:=6) aY.nd rfl (Or.inl rfl))
     (af (a9 (iE Cp Cj Ck cK (pv 4) (aj (aJ bA (pv 3) (pv 2)) az)))
     (ag (bU (i:=3) aY.nd rfl (Or.inl rfl) (aJ dP (pv 3) (pv 2))))))
    (ag (aq (pv 4)))))))
    aw)
   (af (bU (i:=7) aY.nd rfl (Or.inl rfl) (aJ d5 (aJ bA (pv 3) ai) ai))
   (af (f6 CK rfl (jv rfl T.range (aj (aJ bA (pv 3) (aJ d5 (pv 1) ai)) az)) (iH (i:=6) aY.nd rfl (Or.inl rfl))
     (af (bU (i:=7) aY.nd rfl (Or.inl rfl) (aJ bA (aJ ly (pv 7) ai) ai))
     (ag (a9 (iE Cp Cj Ck cK (pv 4) (aj (aJ bA (aJ dP (aJ bA (aJ ly (pv 7) ai) ai) ai) (pv 2)) az))))))
   (ag (aq (pv 4))))))),?_⟩
  refine⟨_,rfl,_,rfl,by show 0<=sizeLine;exact BY _,fun l hl=>?_⟩
  have big:(10:Int) ^ (18:Int).toNat=1000000000000000000:=by decide
  have room:∀ ds:List Int,(ds.length:Int)<=1000->(ds.map V.int).length<sizeLine:=fun ds h=>by rw[Bx];exact aZ (by omega)
  have app:∀ (ds:List Int)(z:Int),upd (upd H l (.lst (ds.map V.int))) l (.lst (ds.map V.int++[V.int z]))=upd H l (.lst ((ds++[z]).map V.int)):=fun ds z=>by rw[sV,BX];rfl
  have inb:∀ (ds:List Int)(z:Int),(∀ d∈ds,0<=d/\d<b)->∀ d∈ds++[z%b],0<=d/\d<b:=fun ds z h d hd=>by
   rcases B7.mp hd with hd | hd
   ·exact h d hd
   ·rw[BW.mp hd];exact⟨CH _ (by omega),Cs _ b0⟩
  refine⟨_,rfl,_,_,rfl,rfl,⟨by decide,by decide,by decide⟩,_,_,rfl,rfl,_,rfl,?_⟩;refine qH (fun _=>?_) (fun _=>?_)
  ·refine⟨_,rfl,_,_,rfl,rfl,⟨by decide,by decide,by decide⟩,_,_,rfl,rfl,?_⟩
   refine⟨_,rfl,_,rfl,_,_,rfl,rfl,_,_,rfl,rfl,by show (0:Int)<m+1;omega,?_⟩;refine⟨_,rfl,_,rfl,_,_,rfl,rfl,_,_,rfl,rfl,⟨by show (0:Int)<m+1;omega,by show m+1<1073741824;omega⟩,?_⟩;have cb:=Cs (c5 c-(10:Int) ^ (18:Int).toNat) (show 0<m+1 by omega);have cn:=CH (c5 c-(10:Int) ^ (18:Int).toNat) (show m+1≠0 by omega)
   refine⟨_,rfl,_,rfl,by omega,by omega,jf (n:=((c5 c-(10:Int) ^ (18:Int).toNat)%(m+1)).toNat) (fun i σ H2=>∃ (z:Int)(v:Option V)(ds:List Int),σ=[some (.int c),some (.int m),some (.int b),some (.int z),some (.ref l),some (.int ((c5 c-(10:Int) ^ (18:Int).toNat)%(m+1))),v,none]/\H2=upd H l (.lst (ds.map V.int))/\ds.length=i/\∀ d∈ds,0<=d/\d<b)
    ⟨_,none,[],rfl,rfl,rfl,fun _ z=>nomatch z⟩ ?_ ?_⟩
   ·rintro i σ H2 hi ⟨z,v,ds,rfl,rfl,hlen,hds⟩
    refine⟨_,rfl,.inl ⟨rfl,_,bd.of ae⟩,_,rfl,_,rfl,_,_,rfl,rfl,b0,l,_,_,rfl,rfl,ae,room ds (by omega),?_⟩;refine⟨_,rfl,_,rfl,_,_,rfl,rfl,⟨b0,b1⟩,?_⟩;exact⟨_,_,ds++[z%b],rfl,app ds _,by rw[BR,hlen];rfl,inb ds z hds⟩
   ·rintro σ H2 ⟨z,v,ds,rfl,rfl,hlen,hds⟩
    exact⟨_,rfl,k l ds hl hds (by omega)⟩
  ·refine⟨_,rfl,_,_,rfl,rfl,by show (0:Int)<2147483629;decide,_,_,rfl,rfl,?_⟩
   have cb:=Cs (c5 c) (show 0<m+1 by omega);have cn:=CH (c5 c) (show m+1≠0 by omega);refine⟨_,rfl,_,rfl,_,_,rfl,rfl,_,_,rfl,rfl,by show (0:Int)<m+1;omega,?_⟩
   refine⟨_,rfl,by omega,by omega,jf (n:=(c5 c%(m+1)).toNat) (fun i σ H2=>∃ (z:Int)(v:Option V)(ds:List Int),σ=[some (.int c),some (.int m),some (.int b),some (.int (c5 c)),some (.ref l),none,v,some (.int z)]/\H2=upd H l (.lst (ds.map V.int))/\ds.length=i/\∀ d∈ds,0<=d/\d<b)
    ⟨_,none,[],rfl,rfl,rfl,fun _ z=>nomatch z⟩ ?_ ?_⟩
   ·rintro i σ H2 hi ⟨z,v,ds,rfl,rfl,hlen,hds⟩
    refine⟨_,rfl,_,_,rfl,rfl,.inr ⟨by decide,by decide⟩,_,_,rfl,rfl,by show (0:Int)<2147483647;decide,?_⟩;refine⟨_,rfl,.inl ⟨rfl,_,bd.of ae⟩,_,rfl,_,_,rfl,rfl,.inr ⟨by decide,by decide⟩,_,_,rfl,rfl,by show (0:Int)<998244353;decide,_,_,rfl,rfl,⟨by decide,by decide⟩,_,rfl,_,_,rfl,rfl,b0,l,_,_,rfl,rfl,ae,room ds (by omega),?_⟩;exact⟨_,_,ds++[_],rfl,app ds _,by rw[BR,hlen];rfl,inb ds _ hds⟩
   ·rintro σ H2 ⟨z,v,ds,rfl,rfl,hlen,hds⟩
    exact⟨_,rfl,k l ds hl hds (by omega)⟩
theorem iB (F:dj K "_law_draws_from" "_law_draws_from" cH f fd)(fM:aE P w K mg base "_law_draws" 2 ["_law_cell","_law_many","_law_base"] kx) : aV P w K mg base cf 3 f fd ["_law_script","_law_start","_law_most","_law_base"] (o6 K):=by
 refine F.ok bJ (fun vs H Q E h=>?_) (fun cdv A outer s H vs Q E hr h=>?_)
 ·obtain⟨a,ns,st,m,b,rfl,_⟩:=h
  rfl
 ·obtain⟨a,ns,st,m,b,rfl,hS,⟨s0,s1⟩,⟨m0,m1⟩,⟨b0,b1⟩,k⟩:=h
  refine⟨_,af (bU (i:=4) bJ.nd rfl (Or.inl rfl) (oR az))
   (af (f6 CK rfl (dQ (iG o4 (pv 0) (iJ (pv 1)) (iJ ai))) (iH (i:=5) bJ.nd rfl (Or.inl rfl))
    (ag (f6 CK rfl (dQ (bb fM hr rfl (aj (pv 5) (aj ai (aj (pv 3) az))))) (iH (i:=6) bJ.nd rfl (Or.inl rfl))
     (ag (aP (ar pZ (bq bO (by rfl) T.len C0 (aj (pv 4) az)) (pv 2) (aB _))
      (ag (a9 (iE Cp Cj Ck cK (pv 4) (aj (pv 6) az)))) aw)))))
   (ag (aq (pv 4)))),?_⟩
  refine⟨by show 0<=sizeLine;exact BY _,fun l hl=>?_⟩;have hS':bd K (upd H l (.lst [])) a (ns.map V.int):=(am hl).seq hS;refine⟨_,rfl,_,rfl,_,rfl,_,rfl,a,_,rfl,hS',fun q hq=>?_⟩
  have hlq:l≠q:=fun e=>by rw[<-e,ae]at hq;cases hq
  have hHq:H q=none:=by rw[ac (BL hlq)]at hq;exact hq
  obtain⟨zs,hzs⟩:∃ zs:List Int,gE (ns.map V.int) (some st) (some 63)=zs.map V.int:=⟨(ns.drop (HT.sIx ns.length 0 (some st))).take (HT.sIx ns.length ns.length (some 63)-HT.sIx ns.length 0 (some st)),by unfold gE;rw[Bx,List.map_take,List.map_drop]⟩;rw[hzs]
  refine⟨q,rfl,⟨_,bd.of ae⟩,cZ (K:=K) (a:=q) (xs:=zs.map V.int) (fun i σ H2=>∃ (v u:Option V)(ds:List Int),σ=[some (.ref a),some (.int st),some (.int m),some (.int b),some (.ref l),v,u]/\aH H H2/\H2 q=some (.lst (zs.map V.int))/\H2 l=some (.lst (ds.map V.int))/\(∀ d∈ds,0<=d/\d<b)/\(ds.length:Int)<=m)
   ⟨none,none,[],rfl,bW (am hl) hHq,ae,by rw[ac hlq,ae];rfl,(fun _ z=>nomatch z),by simpa using m0⟩ (fun i σ H2 _ ⟨_,_,_,_,_,h,_⟩=>bd.of h) ?_ ?_⟩
  ·rintro i y σ H2 hi ⟨v,u,ds,rfl,s2,hq2,hl2,hds,hlen⟩
   obtain⟨z,_,rfl⟩:=bP hi;refine⟨_,rfl,_,rfl,z,24,b,rfl,⟨by decide,by decide⟩,⟨b0,b1⟩,fun r es hr2 hes hel=>?_⟩;have hrq:q≠r:=ah hq2 hr2;have hrl:l≠r:=ah hl2 hr2
   refine⟨r,rfl,⟨_,bd.of ae⟩,cZ (K:=K) (a:=r) (xs:=es.map V.int) (fun i σ H3=>∃ (u:Option V)(ds:List Int),σ=[some (.ref a),some (.int st),some (.int m),some (.int b),some (.ref l),some (.int z),u]/\aH H H3/\H3 q=some (.lst (zs.map V.int))/\H3 r=some (.lst (es.map V.int))/\H3 l=some (.lst (ds.map V.int))/\(∀ d∈ds,0<=d/\d<b)/\(ds.length:Int)<=m)
    ⟨u,ds,rfl,bW s2 (s2.free hr2),by rw[ac hrq];exact hq2,ae,by rw[ac hrl];exact hl2,hds,hlen⟩ (fun i σ H2 _ ⟨_,_,_,_,_,h,_⟩=>bd.of h) ?_ ?_⟩
   ·rintro i y σ H3 hi ⟨u,ds,rfl,s3,hq3,hr3,hl3,hds,hlen⟩
    obtain⟨d,hd,rfl⟩:=bP hi;refine⟨_,rfl,l,_,rfl,.inl (bd.of hl3),_,rfl,_,_,rfl,rfl,_,rfl,?_⟩;rw[Bx];refine qH (fun hc=>?_) (fun _=>?_)
    ·have hc:=Cd hc
     refine⟨_,rfl,.inl ⟨rfl,_,bd.of hl3⟩,_,rfl,l,_,_,rfl,rfl,hl3,by rw[Bx];exact aZ (by omega),?_⟩;refine⟨_,ds++[d],rfl,bW s3 hl,by rw[ac (BL hlq)];exact hq3,by rw[ac (BL hrl)];exact hr3,by rw[ae,BX];rfl,fun x hx=>?_,by rw[BR];show ((ds.length+1:Nat):Int)<=m;omega⟩;rcases B7.mp hx with hx | hx
     ·exact hds x hx
     ·rw[BW.mp hx];exact hes d (B9 hd)
    ·exact⟨_,ds,rfl,s3,hq3,hr3,hl3,hds,hlen⟩
   ·rintro σ H3 ⟨u,ds,rfl,s3,hq3,hr3,hl3,hds,hlen⟩
    exact⟨_,_,ds,rfl,s3,hq3,hl3,hds,hlen⟩
  ·rintro σ H2 ⟨v,u,ds,rfl,s2,hq2,hl2,hds,hlen⟩
   exact⟨_,rfl,k l H2 ds hl s2 hl2 hds hlen⟩
theorem oO (F:dj K "_law_guest" "_law_guest" fm f fd)(bE:aE P w K mg base "_law_size" 1 ["_law_cell"] jB) : aV P w K mg base cf 2 f fd ["_law_k","_law_cell"] iR:=by
 refine F.ok df (fun vs H Q E h=>?_) (fun cdv A outer s H vs Q E hr h=>?_)
 ·obtain⟨k,c,rfl,_⟩:=h
  rfl
 ·obtain⟨i,c,rfl,⟨i0,i1⟩,k⟩:=h
  refine⟨_,af (bU (i:=2) df.nd rfl (Or.inl rfl) (bb bE hr rfl (aj (pv 1) az)))
   (af (bU (i:=3) df.nd rfl (Or.inl rfl) (aJ d5 ai (aJ bA (aJ ly (pv 2) ai) ai)))
   (af (bU (i:=4) df.nd rfl (Or.inl rfl) (aJ bA (aJ d5 (aJ ly (pv 0) (pv 3)) (aJ vq (pv 2) ai)) ai))
   (af (aP (ar bR (aJ bA (pv 2) ai) ai (aB _)) (ag (aq (aJ d5 (pv 4) ai))) aw)
   (ag (aq (pv 4)))))),?_⟩
  refine⟨_,rfl,_,rfl,?_⟩;refine⟨_,rfl,_,_,rfl,rfl,.inr ⟨by decide,by decide⟩,_,_,rfl,rfl,by show (0:Int)<2147483646;decide,_,_,rfl,rfl,?_⟩;refine⟨_,rfl,_,rfl,_,_,rfl,rfl,.inl ⟨by show (-(2 ^ 64):Int)<i;omega,by show i<(2 ^ 64:Int);omega⟩,_,rfl,_,_,rfl,rfl,⟨by decide,by decide⟩,_,_,rfl,rfl,_,_,rfl,rfl,by show (0:Int)<2147483647;decide,?_⟩;refine⟨_,rfl,_,_,rfl,rfl,by show (0:Int)<5;decide,rfl,_,rfl,?_⟩;unfold pD at k;dsimp only at k
  by_cases hc:c5 c%5=4
  ·rw[Bz hc]at k
   rw[BI (show V.int (c5 c%5)=V.int 4 by rw[hc])];exact bj ⟨_,rfl,_,_,rfl,rfl,k⟩
  ·rw[By hc]at k
   rw[BQ (show ¬ V.int (c5 c%5)=V.int 4 from fun z=>hc (by injection z))];exact aD ⟨_,rfl,k⟩
theorem q8 (F:dj K "_law_key" "_law_key" ie f fd) : aV P w K mg base cf 1 f fd ["_law_one","_law_other"] qe:=by
 refine F.ok rn (fun vs H Q E h=>?_) (fun cdv A outer s H vs Q E hr h=>?_)
 ·obtain⟨a,b,rfl,_⟩:=h
  rfl
 ·obtain⟨a,b,rfl,k⟩:=h
  refine⟨_,af (aP (ar pZ (pv 1) (pv 0) (aB _)) (ag (aq (bG (hJ (pv 1) (pv 0))))) (aw)) (
   ag (aq (bG (hJ (pv 0) (pv 1))))),?_⟩
  refine⟨_,rfl,_,rfl,_,_,rfl,rfl,_,rfl,?_⟩;unfold de at k
  by_cases hc:b<a
  ·rw[Bz hc]at k
   rw[BI hc];exact bj ⟨_,rfl,_,rfl,by show 2<=sizeLine;decide,k⟩
  ·rw[By hc]at k
   rw[BQ hc];exact aD ⟨_,rfl,_,rfl,by show 2<=sizeLine;decide,k⟩
theorem q0 (F:dj K "_law_due" "_law_due" ic f fd)(di:aE P w K mg base "_law_key" 1 ["_law_one","_law_other"] qe) : aV P w K mg base cf 2 f fd ["_law_worn","_law_met","_law_deed_here"] sJ:=by
 refine F.ok lL (fun vs H Q E h=>?_) (fun cdv A outer s H vs Q E hr h=>?_)
 ·obtain⟨w,m,t,wl,ml,d,rfl,_⟩:=h
  rfl
 ·obtain⟨w,m,t,wl,ml,d,rfl,hw,hm,ht0,k⟩:=h
  have hu:=c9 hr
  have ht:H t=some (.tup (be d)):=by rw[<-cw];exact ht0
  have gw:∀ (H2:Hp)(x:Int),aH H H2->bS H2 w (.int x) ((look wl x).map V.int):=fun H2 x s2=>by rw[<-bY];exact bS.k (k:=Sum.inl x) (s2 _ _ hw)
  have two:(2:Nat)<=sizeLine:=by decide
  refine⟨_,af (f6 CK rfl (vL (iG yQ (pv 2) (iJ (ai)) oS)) (rg 3 lL.nd) (ag (aP (PW.pt (hV (ar iC (aT aK (pv 2) (ai) (fun _ _=>rfl)) (ay) (aB _)) (e8 (d6 (ju hu (pv 3) (pv 0)))))) (ag (aq (bG (hJ (ay) (pv 3))))) (aw)))) (
   af (aP (PW.pt (hV (ar bR (aT aK (pv 2) (ai) (fun _ _=>rfl)) (ay) (aB _)) (e8 (d6 (lA hu (aT aK (pv 2) (ai) (fun _ _=>rfl)) (pv 0)))))) (ag (aq (bG (hJ (ay) (cL))))) (aw)) (
   af (aP (PW.pt (hV (ar bR (aT aK (pv 2) (ai) (fun _ _=>rfl)) (ay) (aB _)) (e8 (ar iC (eY hu (pv 0) (aT aK (pv 2) (ai) (fun _ _=>rfl)) (fun _ _=>rfl)) (aT aK (pv 2) (ai) (fun _ _=>rfl)) (aB _))))) (ag (aq (bG (hJ (ay) (cL))))) (aw)) (
   af (aP (PW.pt (hV (ar bR (aT aK (pv 2) (ai) (fun _ _=>rfl)) (ay) (aB _)) (e8 (ar bR (aT aK (pv 2) (ai) (fun _ _=>rfl)) (aT aK (pv 2) (ai) (fun _ _=>rfl)) (aB _))))) (ag (aq (bG (hJ (ay) (cL))))) (aw)) (
   af (aP (PW.pt (hV (ar bR (aT aK (pv 2) (ai) (fun _ _=>rfl)) (ay) (aB _)) (e8 (d6 (lA hu (bb di hr.m rfl (hJ (aT aK (pv 2) (ai) (fun _ _=>rfl)) (aT aK (pv 2) (ai) (fun _ _=>rfl)))) (pv 1)))))) (ag (aq (bG (hJ (ay) (cL))))) (aw)) (
   ag (aq (bG (hJ (ay) (cL))))))))),?_⟩
  refine⟨_,rfl,_,rfl,t,_,rfl,cr.of ht,wH d,fun q hq=>?_⟩;have s1:aH H (upd H q (.tup (gE (be d) (some 1) none))):=am hq
  have hq1:upd H q (.tup (gE (be d) (some 1) none)) q=some (.tup ((names d).map V.int)):=by rw[ae,uM]
  generalize upd H q (.tup (gE (be d) (some 1) none))=H1 at s1 hq1
  refine⟨q,rfl,⟨_,cr.of hq1⟩,rW (K:=K) (a:=q) (xs:=(names d).map V.int) (fun i σ H2=>∃ v:Option V,σ=[some (.ref w),some (.ref m),some (.ref t),v]/\H2=H1/\(bh d≠"come"->∀ y∈(names d).take i,(look wl y).isSome=true))
   ⟨none,rfl,rfl,fun _ y hy=>by simp at hy⟩ (fun i σ H2 _ ⟨_,_,e,_⟩=>by rw[e];exact cr.of hq1) ?_ ?_⟩
  ·rintro i y σ H2 hi ⟨v,rfl,rfl,hp⟩
   obtain⟨x,hx,rfl⟩:=bP hi;refine⟨_,rfl,t,_,_,_,rfl,rfl,cr.of (s1 _ _ ht),gr (j:=0) rfl,rfl,_,rfl,?_⟩
   have nxt:(bh d≠"come"->(look wl x).isSome=true)->(bh d≠"come"->∀ y∈(names d).take (i+1),(look wl y).isSome=true):=fun h hc y hy=>by
    rw[uB hx]at hy;rcases B7.mp hy with z | z
    ·exact hp hc y z
    ·rw[BW.mp z];exact h hc
   by_cases hc:bh d="come"
   ·rw[BI (by rw[hc])]
    exact aD (aD ⟨_,rfl,rfl,nxt fun z=>absurd hc z⟩)
   ·rw[BQ (fun z=>hc (V.str.inj z))]
    refine bj ⟨_,rfl,_,rfl,w,_,rfl,gw _ x s1,_,rfl,?_⟩
    cases e:look wl x with
    | none =>
     refine bj ⟨_,rfl,two,fun r hr2=>?_⟩;refine k r _ (s1.free hr2) (s1.trans (am hr2)) ?_;rw[ae,u9 hc (hp hc) hx e];rfl
    | some z=>exact aD ⟨_,rfl,rfl,nxt fun _=>by rw[e];rfl⟩
  ·rintro σ H2 ⟨v,rfl,rfl,hp⟩
   have fin:∀ (o:tj)(H3:Hp)(r:Addr),bn wl (kW ml) d=o->aH H H3->H3 r=none->Q (.ref r) (upd H3 r (.tup (mq o))):=fun o H3 r e s3 h3=>k r _ (s3.free h3) (s3.trans (am h3)) (by rw[ae,e]);rw[Bx,Ct]at hp;have T0:cr K H2 t (be d):=cr.of (s1 _ _ ht)
   cases d with
   | come g =>
    refine⟨_,rfl,t,_,_,_,rfl,rfl,T0,rfl,rfl,_,rfl,?_⟩;rw[show decide (V.str (bh (.come g))=V.str "come")=true from cc];refine bj ⟨_,rfl,t,_,_,_,rfl,rfl,T0,rfl,_,rfl,w,_,rfl,gw _ g s1,_,rfl,?_⟩
    cases e:look wl g with
    | some z=>exact bj ⟨two,fun r h3=>fin .already _ r (by simp[bn,e]) s1 h3⟩
    | none =>
     refine aD ⟨_,rfl,t,_,_,_,rfl,rfl,T0,rfl,rfl,_,rfl,?_⟩;rw[show decide (V.str (bh (.come g))=V.str "go")=false from cg];refine aD (aD ⟨_,rfl,t,_,_,_,rfl,rfl,T0,rfl,rfl,_,rfl,?_⟩);rw[show decide (V.str (bh (.come g))=V.str "exchange")=false from ce];refine aD (aD ⟨_,rfl,t,_,_,_,rfl,rfl,T0,rfl,rfl,_,rfl,?_⟩);rw[show decide (V.str (bh (.come g))=V.str "exchange")=false from ce];exact aD (aD ⟨two,fun r h3=>fin .done _ r (by simp[bn,e]) s1 h3⟩)
   | go g =>
    have hg:=hp (by show ("go" : Str)≠"come";decide +kernel) g (by simp[names]);obtain⟨z,e⟩:=Ci.mp hg;refine⟨_,rfl,t,_,_,_,rfl,rfl,T0,rfl,rfl,_,rfl,?_⟩;rw[show decide (V.str (bh (.go g))=V.str "come")=false from gc];refine aD (aD ⟨_,rfl,t,_,_,_,rfl,rfl,T0,rfl,rfl,_,rfl,?_⟩);rw[show decide (V.str (bh (.go g))=V.str "go")=true from gg];refine bj ⟨_,rfl,_,rfl,t,_,_,_,rfl,rfl,T0,rfl,w,_,rfl,(by have:=gw H2 g s1;rw[e]at this;exact this),_,rfl,t,_,_,_,rfl,rfl,T0,rfl,rfl,_,rfl,?_⟩
    by_cases hz:z=g
    ·rw[BI (by rw[hz])]
     refine aD ⟨_,rfl,t,_,_,_,rfl,rfl,T0,rfl,rfl,_,rfl,?_⟩;rw[show decide (V.str (bh (.go g))=V.str "exchange")=false from ge];refine aD (aD ⟨_,rfl,t,_,_,_,rfl,rfl,T0,rfl,rfl,_,rfl,?_⟩);rw[show decide (V.str (bh (.go g))=V.str "exchange")=false from ge];exact aD (aD ⟨two,fun r h3=>fin .done _ r (by simp[bn,e,hz]) s1 h3⟩)
    ·rw[BQ (fun q=>hz (V.int.inj q))]
     exact bj ⟨two,fun r h3=>fin .masked _ r (by simp[bn,e,hz]) s1 h3⟩
   | exch a b =>
    have ha:=hp (by show ("exchange" : Str)≠"come";decide +kernel) a (by simp[names]);have hb:=hp (by show ("exchange" : Str)≠"come";decide +kernel) b (by simp[names]);obtain⟨za,ea⟩:=Ci.mp ha;obtain⟨zb,eb⟩:=Ci.mp hb;refine⟨_,rfl,t,_,_,_,rfl,rfl,T0,rfl,rfl,_,rfl,?_⟩;rw[show decide (V.str (bh (.exch a b))=V.str "come")=false from ec];refine aD (aD ⟨_,rfl,t,_,_,_,rfl,rfl,T0,rfl,rfl,_,rfl,?_⟩);rw[show decide (V.str (bh (.exch a b))=V.str "go")=false from eg];refine aD (aD ⟨_,rfl,t,_,_,_,rfl,rfl,T0,rfl,rfl,_,rfl,?_⟩);rw[show decide (V.str (bh (.exch a b))=V.str "exchange")=true from ee];refine bj ⟨_,rfl,t,_,_,_,rfl,rfl,T0,rfl,_,rfl,t,_,_,_,rfl,rfl,T0,rfl,rfl,_,rfl,?_⟩
    by_cases hab:a=b
    ·rw[BI (by rw[hab])]
     exact bj ⟨two,fun r h3=>fin .same _ r (by simp[bn,ea,eb,hab]) s1 h3⟩
    ·rw[BQ (fun q=>hab (V.int.inj q))]
     refine aD ⟨_,rfl,t,_,_,_,rfl,rfl,T0,rfl,rfl,_,rfl,?_⟩;rw[show decide (V.str (bh (.exch a b))=V.str "exchange")=true from ee];refine bj ⟨_,rfl,t,_,_,_,rfl,rfl,T0,rfl,_,rfl,t,_,_,_,rfl,rfl,T0,rfl,a,b,rfl,fun kt hk=>?_⟩;have s2:=s1.trans (am (o:=.tup [.int (de a b).1,.int (de a b).2]) hk);refine⟨_,rfl,m,_,rfl,bS.t (k:=[Sum.inl (de a b).1,Sum.inl (de a b).2]) (s2 _ _ hm) ae,_,rfl,?_⟩;rw[xb]
     by_cases hmt:de a b∈ml
     ·rw[BI hmt]
      exact bj ⟨two,fun r h3=>fin .met _ r (by simp[bn,ea,eb,hab,kW,hmt]) s2 h3⟩
     ·rw[BQ hmt]
      exact aD ⟨two,fun r h3=>fin .done _ r (by simp[bn,ea,eb,hab,kW,hmt]) s2 h3⟩
theorem oJ (F:dj K "_law_after" "_law_after" fh f fd)(di:aE P w K mg base "_law_key" 1 ["_law_one","_law_other"] qe) : aV P w K mg base cf 2 f fd ["_law_worn","_law_met","_law_deed_here"] kq:=by
 refine F.ok iO (fun vs H Q E h=>?_) (fun cdv A outer s H vs Q E hr h=>?_)
 ·obtain⟨w,m,t,wl,ml,d,rfl,_⟩:=h
  rfl
 ·obtain⟨w,m,t,wl,ml,d,rfl,hw,hm,ht0,l1,l2,hj,k⟩:=h
  have hu:=c9 hr
  have ht:H t=some (.tup (be d)):=by rw[<-cw];exact ht0
  have T0:cr K H t (be d):=cr.of ht;have nwt:t≠w:=b9 ht hw (by intro z;cases z);have nwm:m≠w:=b9 hm hw (by intro z;cases z);have ntm:t≠m:=b9 ht hm (by intro z;cases z)
  have sz:∀ v:List (Int×Int),v.length<=2000->(dk v).length<sizeLine:=fun v h=>by rw[qL];exact C6 h (by decide)
  refine⟨_,ag (aP (ar bR (aT aK (pv 2) (ai) (fun _ _=>rfl)) (ay) (aB _)) (ag (e6 hu (pv 0) (aT aK (pv 2) (ai) (fun _ _=>rfl)) (aT aK (pv 2) (ai) (fun _ _=>rfl)) rfl)) (ag (aP (ar bR (aT aK (pv 2) (ai) (fun _ _=>rfl)) (ay) (aB _)) (ag (a9 (lC (pv 0) (aT aK (pv 2) (ai) (fun _ _=>rfl)) ⟨rfl,rfl,rfl,rfl⟩))) (af (br 3 iO.nd (eY hu (pv 0) (aT aK (pv 2) (ai) (fun _ _=>rfl)) (fun _ _=>rfl))) (
   af (e6 hu (pv 0) (aT aK (pv 2) (ai) (fun _ _=>rfl)) (eY hu (pv 0) (aT aK (pv 2) (ai) (fun _ _=>rfl)) (fun _ _=>rfl)) rfl) (
   af (e6 hu (pv 0) (aT aK (pv 2) (ai) (fun _ _=>rfl)) (pv 3) rfl) (
   ag (e6 hu (pv 1) (bb di hr.m rfl (hJ (aT aK (pv 2) (ai) (fun _ _=>rfl)) (aT aK (pv 2) (ai) (fun _ _=>rfl)))) (fC) rfl)))))))),?_⟩
  cases d with
  | come g =>
   refine⟨_,rfl,t,_,_,_,rfl,rfl,T0,rfl,rfl,_,rfl,?_⟩;rw[show decide (V.str (bh (.come g))=V.str "come")=true from cc];refine bj ⟨_,rfl,t,_,_,_,rfl,rfl,T0,rfl,_,rfl,_,rfl,t,_,_,_,rfl,rfl,T0,rfl,w,_,rfl,ii.k (k:=Sum.inl g) hw (sz _ (by omega)),?_⟩;rw[iL]
   exact k _ ae (by rw[ac nwm];exact hm) fun b o e h1 _=>by rw[ac h1];exact e
  | go g =>
   refine⟨_,rfl,t,_,_,_,rfl,rfl,T0,rfl,rfl,_,rfl,?_⟩;rw[show decide (V.str (bh (.go g))=V.str "come")=false from gc];refine aD ⟨_,rfl,t,_,_,_,rfl,rfl,T0,rfl,rfl,_,rfl,?_⟩;rw[show decide (V.str (bh (.go g))=V.str "go")=true from gg]
   obtain⟨z,e⟩:∃ z,look wl g=some z:=by
    cases e:look wl g with
    | none=>simp[bn,e]at hj
    | some z=>exact⟨z,rfl⟩
   refine bj ⟨_,rfl,w,rfl,.inl ⟨_,.inl hw⟩,_,rfl,t,_,_,_,rfl,rfl,T0,rfl,_,Sum.inl g,_,hw,rfl,by rw[bY,e];rfl,?_⟩;rw[kL]
   exact k _ ae (by rw[ac nwm];exact hm) fun b o e h1 _=>by rw[ac h1];exact e
  | exch a b =>
   refine⟨_,rfl,t,_,_,_,rfl,rfl,T0,rfl,rfl,_,rfl,?_⟩;rw[show decide (V.str (bh (.exch a b))=V.str "come")=false from ec];refine aD ⟨_,rfl,t,_,_,_,rfl,rfl,T0,rfl,rfl,_,rfl,?_⟩;rw[show decide (V.str (bh (.exch a b))=V.str "go")=false from eg]
   obtain⟨za,ea⟩:∃ z,look wl a=some z:=by
    cases e:look wl a with
    | none=>simp[bn,e]at hj
    | some z=>exact⟨z,rfl⟩
   obtain⟨zb,eb⟩:∃ z,look wl b=some z:=by
    cases e:look wl b with
    | none=>simp[bn,ea,e]at hj
    | some z=>exact⟨z,rfl⟩
   have ga:bS H w (.int a) (some (V.int za)):=by have:=bS.k (k:=Sum.inl a) hw;rw[bY,ea]at this;exact this
   have gb:bS H w (.int b) (some (V.int zb)):=by have:=bS.k (k:=Sum.inl b) hw;rw[bY,eb]at this;exact this
   refine aD ⟨_,rfl,_,rfl,t,_,_,_,rfl,rfl,T0,rfl,w,_,rfl,ga,?_⟩;refine⟨_,rfl,_,rfl,t,_,_,_,rfl,rfl,T0,rfl,w,_,rfl,gb,_,rfl,_,rfl,t,_,_,_,rfl,rfl,T0,rfl,w,_,rfl,ii.k (k:=Sum.inl a) hw (sz _ (by omega)),?_⟩;rw[iL];have lp:=oy wl a zb;have T1:cr K (upd H w (.dK (dk (put wl a zb)))) t (be (.exch a b)):=cr.of (by rw[ac nwt];exact ht);refine⟨_,rfl,_,rfl,_,rfl,t,_,_,_,rfl,rfl,T1,rfl,w,_,rfl,ii.k (k:=Sum.inl b) ae (sz _ (by omega)),?_⟩;rw[iL,sV];have T2:cr K (upd H w (.dK (dk (put (put wl a zb) b za)))) t (be (.exch a b)):=cr.of (by rw[ac nwt];exact ht);refine⟨_,rfl,_,rfl,t,_,_,_,rfl,rfl,T2,rfl,_,rfl,t,_,_,_,rfl,rfl,T2,rfl,a,b,rfl,fun kt hk=>?_⟩;have hkm:m≠kt:=ah (by rw[ac nwm];exact hm) hk;have hkw:w≠kt:=ah ae hk;refine⟨m,_,rfl,ii.t (k:=[Sum.inl (de a b).1,Sum.inl (de a b).2]) (by rw[ac hkm,ac nwm];exact hm) ae (by unfold nh;rw[Bx];exact C6 l2 (by decide)),?_⟩;rw[xa]
   have wa:wr wl a=za:=by unfold wr;rw[ea];rfl
   have wb:wr wl b=zb:=by unfold wr;rw[eb];rfl
   refine k _ ?_ ae fun x o e h1 h2=>?_
   ·rw[ac (BL nwm),ac hkw,ae]
    show some (HO.dK (dk (put (put wl a zb) b za)))=some (HO.dK (dk (put (put wl a (wr wl b)) b (wr wl a))))
    rw[wa,wb]
   ·have e':upd H w (.dK (dk (put (put wl a zb) b za))) x=some o:=by rw[ac h1];exact e
    rw[ac h2,ac (ah e' hk)];exact e'
theorem pV (F:dj K "_law_deed" "_law_deed" gf f fd)(bK:aE P w K mg base "_law_guest" 2 ["_law_k","_law_cell"] iR) : aV P w K mg base cf 3 f fd ["_law_drawn","_law_many","_law_cell"] ku:=by
 refine F.ok jX (fun vs H Q E h=>?_) (fun cdv A outer s H vs Q E hr h=>?_)
 ·obtain⟨dr,m,n,rfl,_⟩:=h
  rfl
 ·obtain⟨dr,m,n,rfl,⟨d0,d1⟩,⟨m0,m1⟩,k⟩:=h
  refine⟨_,af (br 3 jX.nd (bb bK hr.m rfl (hJ (aJ bA (aJ dP (pv 0) (ai)) (pv 1)) (pv 2)))) (
   af (aP (ar bR (aJ bA (pv 0) (ai)) (ai) (aB _)) (ag (aq (bG (hJ (ay) (pv 3))))) (aw)) (
   af (aP (ar bR (aJ bA (pv 0) (ai)) (ai) (aB _)) (ag (aq (bG (hJ (ay) (pv 3))))) (aw)) (
   ag (aq (bG (Ag (ay) (pv 3) (bb bK hr.m rfl (hJ (aJ bA (aJ dP (pv 0) (aJ ly (ai) (pv 1))) (pv 1)) (pv 2))))))))),?_⟩
  have em:∀ z:Int,0<=z%m/\z%m<m:=fun z=>⟨CH _ (by omega),Cs _ (by omega)⟩;have a0:=em (dr/8);refine⟨_,rfl,_,_,rfl,rfl,⟨by decide,by decide⟩,_,rfl,_,_,rfl,rfl,by show (0:Int)<m;omega,_,rfl,_,_,rfl,⟨a0.1,by omega⟩,?_⟩;have g0:pD (dr/8%m) n∈a6 40 n:=qD ⟨a0.1,by omega⟩;refine⟨_,rfl,_,_,rfl,rfl,by show (0:Int)<8;decide,rfl,_,rfl,?_⟩;refine qH (fun _=>⟨_,rfl,by show 2<=sizeLine;decide,fun t ht=>k t (.come (pD (dr/8%m) n)) ht fun g hg=>by simp[names]at hg;rw[hg];exact g0⟩) (fun _=>?_);refine⟨_,rfl,_,_,rfl,rfl,by show (0:Int)<8;decide,rfl,_,rfl,?_⟩;refine qH (fun _=>⟨_,rfl,by show 2<=sizeLine;decide,fun t ht=>k t (.go (pD (dr/8%m) n)) ht fun g hg=>by simp[names]at hg;rw[hg];exact g0⟩) (fun _=>?_);have a1:=em (dr/(8*m));have g1:pD (dr/(8*m)%m) n∈a6 40 n:=qD ⟨a1.1,by omega⟩;refine⟨_,rfl,_,rfl,_,rfl,_,_,rfl,rfl,.inl ⟨by decide,by decide⟩,_,_,rfl,rfl,⟨by show (0:Int)<8*m;omega,by show 8*m<1073741824;omega⟩,_,rfl,_,_,rfl,rfl,by show (0:Int)<m;omega,_,rfl,_,_,rfl,⟨a1.1,by omega⟩,by show 3<=sizeLine;decide,fun t ht=>?_⟩
  exact k t (.exch (pD (dr/8%m) n) (pD (dr/(8*m)%m) n)) ht fun g hg=>by
   simp[names]at hg;rcases hg with rfl | rfl
   ·exact g0
   ·exact g1
theorem oK (F:dj K "_law_crowd" "_law_crowd" fj f fd) : aV P w K mg base cf 1 f fd ["_law_cell"] kr:=by
 refine F.ok o0 (fun vs H Q E h=>?_) (fun cdv A outer s H vs Q E hr h=>?_)
 ·obtain⟨n,rfl,_⟩:=h
  rfl
 ·obtain⟨n,rfl,k⟩:=h
  refine⟨_,af (aP (ar bR (aJ bA (aJ dP (pv 0) (ai)) (ai)) (ai) (aB _)) (ag (aq (aJ d5 (ai) (aJ bA (aJ dP (pv 0) (ai)) (ai))))) (aw)) (
   ag (aq (aJ d5 (ai) (aJ bA (pv 0) (ai))))),?_⟩
  refine⟨_,rfl,_,_,rfl,rfl,⟨by decide,by decide⟩,_,_,rfl,rfl,by show (0:Int)<8;decide,rfl,_,rfl,?_⟩;refine qH (fun _=>?_) (fun _=>?_)
  ·refine⟨_,rfl,_,_,rfl,rfl,⟨by decide,by decide⟩,_,_,rfl,rfl,by show (0:Int)<28;decide,_,_,rfl,rfl,k _ ?_⟩
   have:=Cs (n/1408) (show (0:Int)<28 by decide);have:=CH (n/1408) (show (28:Int)≠0 by decide);omega
  ·refine⟨_,rfl,_,_,rfl,rfl,by show (0:Int)<11;decide,_,_,rfl,rfl,k _ ?_⟩
   have:=Cs n (show (0:Int)<11 by decide);have:=CH n (show (11:Int)≠0 by decide);omega
theorem oM (F:dj K "_law_deeds" "_law_deeds" cG f fd)(bc:aE P w K mg base "_law_cell_at" 1 ["_law_script","_law_k"] (lP K))(fK:aE P w K mg base "_law_crowd" 1 ["_law_cell"] kr)(bK:aE P w K mg base "_law_guest" 2 ["_law_k","_law_cell"] iR)(gW:aE P w K mg base "_law_deed" 3 ["_law_drawn","_law_many","_law_cell"] ku)(cJ:aE P w K mg base "_law_draws_from" 3 ["_law_script","_law_start","_law_most","_law_base"] (o6 K)) : aV P w K mg base cf 4 f fd ["_law_script"] (iP K):=by
 refine F.ok cF (fun vs H Q E h=>?_) (fun cdv A outer s H vs Q E hr h=>?_)
 ·obtain⟨a,ns,rfl,_⟩:=h
  rfl
 ·obtain⟨a,ns,rfl,hS,k⟩:=h
  refine⟨_,af (br 1 cF.nd (bb bc hr.m rfl (hJ (pv 0) (ai)))) (
   af (br 2 cF.nd (bb fK hr.m rfl (fG (bb bc hr.m rfl (hJ (pv 0) (ai)))))) (
   af (br 3 cF.nd (aJ bA (aJ dP (bb bc hr.m rfl (hJ (pv 0) (ai))) (ai)) (ai))) (
   af (oU (ix:=4) (so:=ak cG) (N:=fW) (N':=["_law_k","_law_first","_law_cell"]) (src:=[none,some 3,some 1]) rfl rfl yh rfl (jv (by rfl) T.range (fG (pv 2))) (fun cl C s2 H2 ex=>⟨rg 0 (show (["_law_k","_law_first","_law_cell"]:List Str).Nodup by decide +kernel),sD (PW.pt (jV (ar zL (pv 1) (ai) (aB _)) (f7 (ar bR (aJ bA (pv 0) (ai)) (ai) (aB _))))),bG (hJ (ay) (bb bK hr.m rfl (hJ (pv 0) (pv 2))))⟩) cF.nd rfl rfl) (
   ag (aq (aJ yE (pv 4) (km (so:=ak cG) (N:=fW) (N':=["_law_drawn","_law_many","_law_cell"]) (src:=[none,some 2,some 1]) rfl rfl yh rfl (dQ (bb cJ hr.m rfl (aj (pv 0) (aj (ai) (aj (ai) (aj (ai) az)))))) (fun cl C s2 H2 ex=>⟨rg 0 (show (["_law_drawn","_law_many","_law_cell"]:List Str).Nodup by decide +kernel),e7,bb gW hr.m rfl (Ag (pv 0) (pv 1) (pv 2))⟩)))))))),?_⟩
  refine⟨_,rfl,a,ns,1,rfl,hS,by decide,?_⟩;generalize hcn:eW ns 1=cn at k ⊢;refine⟨_,rfl,a,ns,0,rfl,hS,by decide,_,rfl,fun m ⟨m0,m1⟩=>?_⟩;refine⟨_,rfl,a,ns,0,rfl,hS,by decide,_,_,rfl,rfl,⟨by decide,by decide⟩,_,_,rfl,rfl,by show (0:Int)<16;decide,?_⟩;refine⟨_,rfl,m,rfl,by omega,by omega,fun l hl=>?_⟩
  refine jf (n:=m.toNat) (fun i σ H2=>∃ (v:Option V)(ds:List aF),σ=[v,some (.int (eW ns 0/11%16)),some (.int cn)]/\aH H H2/\bI H2 l ds/\(∀ d∈ds,∀ g∈names d,g∈a6 40 cn)/\ds.length<=i/\ds.filter l0=[])
   ⟨none,[],rfl,am hl,⟨[],ae,.nil⟩,(fun d hd=>nomatch hd),BB _,rfl⟩ ?_ ?_
  ·rintro i σ H2 hi ⟨v,ds,rfl,s2,⟨as,hl2,hp2⟩,hn,hlen,hex⟩
   have hal:=BM hp2
   have app:∀ t,H2 t=none->∃ (v:Option V)(ds:List aF),([some (.int (0+(i:Int))),some (.int (eW ns 0/11%16)),some (.int cn)]:St)=[v,some (.int (eW ns 0/11%16)),some (.int cn)]/\aH H (upd (upd H2 t (a7 (.come (pD (0+(i:Int)) cn)))) l (.lst (as.map V.ref++[.ref t])))/\bI (upd (upd H2 t (a7 (.come (pD (0+(i:Int)) cn)))) l (.lst (as.map V.ref++[.ref t]))) l ds/\(∀ d∈ds,∀ g∈names d,g∈a6 40 cn)/\ds.length<=i+1/\ds.filter l0=[]:=fun t ht=>by
    refine⟨_,ds++[.come (pD (0+(i:Int)) cn)],rfl,bW (s2.trans (am ht)) hl,kI hl2 hp2 ht _,fun d hd g hg=>?_,by rw[BR];show ds.length+1<=i+1;omega,by rw[C8,hex];rfl⟩;rcases B7.mp hd with z | z
    ·exact hn d z g hg
    ·rw[BW.mp z]at hg
     simp[names]at hg;rw[hg];exact qD ⟨by omega,by omega⟩
   refine wf ⟨_,rfl,_,_,rfl,rfl,_,rfl,qH (fun _=>bj ?_) (fun _=>⟨_,rfl,_,_,rfl,rfl,by show (0:Int)<2;decide,rfl,_,rfl,qH (fun _=>?_) (fun _=>?_)⟩)⟩
   ·refine⟨_,rfl,_,rfl,_,_,rfl,⟨by omega,by omega⟩,by show 2<=sizeLine;decide,fun t ht=>⟨_,by rw[ac (ah hl2 ht)];exact hl2,by rw[Bx];exact aZ (by omega),?_⟩⟩
    exact app t ht
   ·refine⟨_,rfl,_,rfl,_,_,rfl,⟨by omega,by omega⟩,by show 2<=sizeLine;decide,fun t ht=>⟨_,by rw[ac (ah hl2 ht)];exact hl2,by rw[Bx];exact aZ (by omega),?_⟩⟩
    exact app t ht
   ·exact⟨_,ds,rfl,s2,⟨as,hl2,hp2⟩,hn,by omega,hex⟩
  ·rintro σ H2 ⟨v,ds,rfl,s2,d2,hn,hlen,hex⟩
   refine⟨_,rfl,_,rfl,a,ns,2,48,12800,rfl,s2.seq hS,⟨by decide,by decide⟩,⟨by decide,by decide⟩,⟨by decide,by decide⟩,fun q H3 es hq s3 hq3 hes hel=>?_⟩;refine⟨q,rfl,⟨_,bd.of hq3⟩,fun l2 hl2=>?_⟩;have d3:=bL (bL d2 s3) (am (o:=.lst []) hl2);have nq:q≠l2:=ah hq3 hl2
   refine cZ (K:=K) (a:=q) (xs:=es.map V.int) (fun i σ H4=>∃ (v:Option V)(fs:List aF),σ=[v,some (.int m),some (.int cn)]/\aH H3 H4/\bI H4 l2 fs/\(∀ d∈fs,∀ g∈names d,g∈a6 40 cn)/\fs.length=i)
    ⟨none,[],rfl,am hl2,⟨[],ae,.nil⟩,(fun d hd=>nomatch hd),rfl⟩ (fun i σ H4 _ ⟨_,_,_,s4,_⟩=>bd.of (s4 _ _ hq3)) ?_ ?_
   ·rintro i y σ H4 hi ⟨v,fs,rfl,s4,⟨as,hl4,hp4⟩,hn4,hlen4⟩
    obtain⟨dr,hdr,rfl⟩:=bP hi;have hil:i<es.length:=(List.getElem?_eq_some_iff.mp hdr).1;have hb:=hes dr (B9 hdr);have hal:=BM hp4;refine fo ⟨_,rfl,_,rfl,_,rfl,dr,m,cn,rfl,⟨hb.1,by omega⟩,⟨m0,m1⟩,fun t d ht hnd=>⟨_,by rw[ac (ah hl4 ht)];exact hl4,by rw[Bx];exact aZ (by omega),?_⟩⟩;refine⟨_,fs++[d],rfl,bW (s4.trans (am ht)) hl2,kI hl4 hp4 ht d,fun d' hd' g hg=>?_,by rw[BR];show fs.length+1=i+1;omega⟩;rcases B7.mp hd' with z | z
    ·exact hn4 d' z g hg
    ·rw[BW.mp z]at hg;exact hnd g hg
   ·rintro σ H4 ⟨v,fs,rfl,s4,⟨as4,hl4,hp4⟩,hn4,hlen4⟩
    rw[Bx]at hlen4;obtain⟨as2,hl2',hp2⟩:=bL (bL d2 s3) s4;have l1:=BM hp2;have l3:=BM hp4;refine⟨l,l2,_,_,rfl,rfl,hl2',hl4,by rw[Bx,Bx];exact Nat.le_of_lt (aZ (by omega)),fun p hp=>?_⟩;have s24:=(s2.trans s3).trans s4;refine k p _ (ds++fs) (s24.free hp) (s24.trans (am hp)) ⟨as2++as4,by rw[ae,BX],?_⟩ (fun d hd g hg=>?_) (by rw[BR];omega) (by rw[C8,hex,List.nil_append];exact B6 (List.length_filter_le _ _) (by omega))
    ·exact bu (Paired.mapP hp2 fun b y e=>(am hp) _ _ e) (Paired.mapP hp4 fun b y e=>(am hp) _ _ e)
    ·rcases B7.mp hd with z | z
     ·exact hn d z g hg
     ·exact hn4 d z g hg
theorem uf (F:dj K "_law_do" "_law_do" jC f fd)(b7:ax P w K mg base (gn P w) c.C "come" 2 ["self","guest"] (lQ c))(dq:ax P w K mg base (gn P w) c.C "go" 4 ["self","guest"] (v1 c))(bo:ax P w K mg base (gn P w) c.C "exchange" 4 ["self","one","other"] (lR c)) : aV P w K mg base (gn P w) 5 f fd ["_law_hall","_law_deed_here"] (rB c):=by
 refine F.okX uv (fun vs H Q E h=>?_) (fun cdv A outer s H vs Q E hr h=>?_)
 ·obtain⟨p,t,B,st,d,rfl,_⟩:=h
  rfl
 ·obtain⟨p,t,B,st,d,rfl,ht0,S,ft,hg,sm,k⟩:=h
  have ht:H t=some (.tup (be d)):=by rw[<-cw];exact ht0
  have T0:cr K H t (be d):=cr.of ht
  refine⟨_,af (aP (ar bR (aT aK (pv 1) (ai) (fun _ _=>rfl)) (ay) (aB _)) (ag (aq (ca b7 (pv 0) U.cl hr.m cV (fG (aT aK (pv 1) (ai) (fun _ _=>rfl)))))) (aw)) (
   af (aP (ar bR (aT aK (pv 1) (ai) (fun _ _=>rfl)) (ay) (aB _)) (ag (aq (ca dq (pv 0) U.cl hr.m cV (fG (aT aK (pv 1) (ai) (fun _ _=>rfl)))))) (aw)) (
   ag (aq (ca bo (pv 0) U.cl hr.m cV (hJ (aT aK (pv 1) (ai) (fun _ _=>rfl)) (aT aK (pv 1) (ai) (fun _ _=>rfl))))))),?_⟩
  have n1:=gO B (m:="come") (by decide +kernel) (by decide +kernel) (by decide +kernel) (by decide +kernel);have n2:=gO B (m:="go") (by decide +kernel) (by decide +kernel) (by decide +kernel) (by decide +kernel);have n3:=gO B (m:="exchange") (by decide +kernel) (by decide +kernel) (by decide +kernel) (by decide +kernel)
  cases d with
  | come g =>
   refine⟨_,rfl,t,_,_,_,rfl,rfl,T0,rfl,rfl,_,rfl,?_⟩;rw[show decide (V.str (bh (.come g))=V.str "come")=true from cc];exact bj ⟨_,rfl,p,B.dx,_,rfl,S.ob,n1,_,rfl,t,_,_,_,rfl,rfl,T0,rfl,p,B,st,g,rfl,S,ft,sm g (by simp[names]),k⟩
  | go g =>
   refine⟨_,rfl,t,_,_,_,rfl,rfl,T0,rfl,rfl,_,rfl,?_⟩;rw[show decide (V.str (bh (.go g))=V.str "come")=false from gc];refine aD ⟨_,rfl,t,_,_,_,rfl,rfl,T0,rfl,rfl,_,rfl,?_⟩;rw[show decide (V.str (bh (.go g))=V.str "go")=true from gg];exact bj ⟨_,rfl,p,B.dx,_,rfl,S.ob,n2,_,rfl,t,_,_,_,rfl,rfl,T0,rfl,p,B,st,g,rfl,S,ft,sm g (by simp[names]),(fun m hm=>⟨hg.sm g m hm,fun e=>by rw[e]at hm;rw[(hg.wh g g).mp hm];rfl⟩),k⟩
  | exch a b =>
   refine⟨_,rfl,t,_,_,_,rfl,rfl,T0,rfl,rfl,_,rfl,?_⟩;rw[show decide (V.str (bh (.exch a b))=V.str "come")=false from ec];refine aD ⟨_,rfl,t,_,_,_,rfl,rfl,T0,rfl,rfl,_,rfl,?_⟩;rw[show decide (V.str (bh (.exch a b))=V.str "go")=false from eg];exact aD ⟨_,rfl,p,B.dx,_,rfl,S.ob,n3,_,rfl,t,_,_,_,rfl,rfl,T0,rfl,_,rfl,t,_,_,_,rfl,rfl,T0,rfl,p,B,st,a,b,rfl,S,ft,sm a (by simp[names]),sm b (by simp[names]),k⟩
theorem pX (F:dj K "_law_told" "_law_told" gj f fd)(ky:eU P w K mg base "_law_do" 5 ["_law_hall","_law_deed_here"] (rB c)) : aV P w K mg base cf 6 f fd ["_law_hall","_law_deed_here"] (o8 c):=by
 refine F.ok a5 (fun vs H Q E h=>?_) (fun cdv A outer s H vs Q E hr h=>?_)
 ·obtain⟨p,t,B,st,d,rfl,_⟩:=h
  rfl
 ·obtain⟨p,t,B,st,d,rfl,ht0,S,ft,hg,sm,k⟩:=h
  have two:(2:Nat)<=sizeLine:=by decide
  refine⟨_,af (br 2 a5.nd (ay)) (
   af (br 3 a5.nd (cL)) (
   af (br 4 a5.nd (cL)) (
   af (AE (i:=4) ky hr.m rfl (hJ (pv 0) (pv 1)) rfl rfl a5.nd rfl (Or.inl rfl) (ko rfl U.mA (fun ea oe=>ag (br 2 a5.nd (ay))) (ko rfl U.mM (fun ea oe=>ag (br 2 a5.nd (ay))) (ko rfl U.mS (fun ea oe=>ag (br 2 a5.nd (ay))) (ko rfl U.mT (fun ea oe=>ag (br 2 a5.nd (ay))) (zO (i:=5) rfl U.mN a5.nd rfl rfl (fun ea oe CC od us hc ho hd=>af (br 2 a5.nd (ay)) (
   ag (br 3 a5.nd (xm K (ea:=ea) (oe:=oe) BE hc ho hd (pv 5) rfl)))) yK)))))) (
   af (aP (d6 (su (pv 4))) (ag (aq (bG (hJ (ay) (cL))))) (aw)) (
   ag (aq (bG (hJ (pv 2) (pv 3))))))))),?_⟩
  have fin:∀ (o:tj)(H2:Hp)(σ:St),aN st d=o->o≠.done->aH H H2->∀ r,H2 r=none->Q (.ref r) (upd H2 r (.tup (mq o))):=fun o H2 σ e ho s2 r hr2=>by
   refine k r _ (s2.free hr2) (by rw[ae,e]) ?_;unfold aO;rw[By (by rw[e];exact ho)];exact qQ S (s2.trans (am hr2))
  refine⟨_,rfl,_,rfl,p,t,B,st,d,rfl,ht0,S,ft,hg,sm,?_⟩;unfold lW
  by_cases hd:aN st d=.done
  ·rw[Bz hd]
   intro H' mv;refine⟨_,rfl,_,rfl,aD ⟨_,rfl,_,rfl,two,fun r hr2=>?_⟩⟩;obtain⟨A',S',kp,f,tr⟩:=id mv;have fr:H r=none:=tr.free hr2;refine k r _ fr (by rw[ae,hd];rfl) ?_;unfold aO;rw[Bz hd];exact mv.on (am hr2)
  ·rw[By hd]
   cases ej:aN st d with
   | done=>exact absurd ej hd
   | already =>
    intro H' s2;exact⟨_,VM.aa,bj ⟨_,rfl,_,rfl,aD ⟨_,rfl,_,rfl,two,fin .already H' [] ej (by simp) s2⟩⟩⟩
   | masked =>
    intro H' s2;exact⟨_,VM.ma,aD ⟨_,VM.mm,bj ⟨_,rfl,_,rfl,aD ⟨_,rfl,_,rfl,two,fin .masked H' [] ej (by simp) s2⟩⟩⟩⟩
   | same =>
    intro H' s2;exact⟨_,VM.sa,aD ⟨_,VM.sm,aD ⟨_,VM.ss,bj ⟨_,rfl,_,rfl,aD ⟨_,rfl,_,rfl,two,fin .same H' [] ej (by simp) s2⟩⟩⟩⟩⟩
   | met =>
    intro H' s2;exact⟨_,VM.ta,aD ⟨_,VM.tm,aD ⟨_,VM.ts,aD ⟨_,VM.tt,bj ⟨_,rfl,_,rfl,aD ⟨_,rfl,_,rfl,two,fin .met H' [] ej (by simp) s2⟩⟩⟩⟩⟩⟩
   | noguest g =>
    intro dx H' s2 hx;refine⟨_,VM.na,aD ⟨_,VM.nm,aD ⟨_,VM.ns,aD ⟨_,VM.nt,aD ⟨_,VM.nn,bj ⟨_,rfl,fun ea=>?_⟩⟩⟩⟩⟩⟩;refine⟨_,rfl,rfl,U.gN,dx,_,_,rfl,hx,rfl,?_⟩;exact⟨_,rfl,_,rfl,aD ⟨_,rfl,_,rfl,two,fin (.noguest g) H' [] ej (by simp) s2⟩⟩
theorem mn (F:dj K "_law_stands" "_law_stands" ei f fd)(dS:ax P w K mg base cf c.C "guests" 1 ["self"] (iS c.C))(bN:ax P w K mg base cf c.C "story" 1 ["self"] (iX c.C))(dW:ax P w K mg base cf c.C "moment" 1 ["self"] (iV c.C))(eR:ax P w K mg base cf c.C "pairs" 2 ["self"] (iT c.C))(dU:ax P w K mg base cf c.C "inside" 1 ["self","guest"] (iU c.C))(aW:ax P w K mg base (gn P w) c.C "wears" 3 ["self","guest"] (gz c))(dX:ax P w K mg base (gn P w) c.C "wearer" 3 ["self","mask"] (iY c)) : aV P w K mg base cf 4 f fd ["_law_hall","_law_worn","_law_met","_law_story"] (iW c):=by
 refine F.ok gR (fun vs H Q E h=>?_) (fun cdv A outer s H vs Q E hr h=>?_)
 ·obtain⟨p,w,m,ls,B,st,ml,L,rfl,_⟩:=h
  rfl
 ·obtain⟨p,w,m,ls,B,st,ml,L,rfl,S,wB,hw,hm,hs,G,al,ci,mo,hL,hml,hwl,sm,k⟩:=h
  have hu:=c9 hr
  refine⟨_,af (aP (PW.pt (jV (ar (lz 1 (xM hr (by decide))) (lE dS (pv 0) U.cl hr.m dB) (bq (da rfl) (by rfl) T.sorted CJ (fG (pv 1))) (aB _)) (f7 (ar (lz 1 (xM hr (by decide))) (lE bN (pv 0) U.cl hr.m dB) (pv 3) (aB _))))) (ag (aq (fC))) (aw)) (
   af (aP (PW.pt (jV (ar iC (lE dW (pv 0) U.cl hr.m dB) (bq bO (by rfl) T.len C0 (fG (pv 3))) (aB _)) (f7 (ar (lz 1 (xM hr (by decide))) (lE eR (pv 0) U.cl hr.m dB) (bq (n8 rfl) (by rfl) T.sorted CJ (fG (pv 2))) (aB _))))) (ag (aq (fC))) (aw)) (
   af (xu (f6 CK rfl (xp (pv 1)) (rg 4 gR.nd) (af (aP (ar uj (ca dU (pv 0) U.cl hr.m dB (fG (pv 4))) (fC) (aB _)) (ag (aq (fC))) (aw)) (
   ag (aP (PW.pt (jV (ar iC (ca aW (pv 0) U.cl hr.m vy (fG (pv 4))) (eY hu (pv 1) (pv 4) (fun _ _=>rfl)) (aB _)) (f7 (ar iC (ca dX (pv 0) U.cl hr.m vy (fG (eY hu (pv 1) (pv 4) (fun _ _=>rfl)))) (pv 4) (aB _))))) (ag (aq (fC))) (aw)))))) (
   ag (aq (fC))))),?_⟩
  have nos:∀ (B:HA)(m:Str),¬ m="worn"->¬ m="holders"->¬ m="circles"->¬ m="deeds"->(aX B).lookup m=none:=fun B m h1 h2 h3 h4=>gO B h1 h2 h3 h4;have nG:∀ B:HA,(aX B).lookup ("guests" : Str)=none:=fun B=>lV B (by decide +kernel);have nM:∀ B:HA,(aX B).lookup ("moment" : Str)=none:=fun B=>lV B (by decide +kernel);have nI:∀ B:HA,(aX B).lookup ("inside" : Str)=none:=fun B=>lV B (by decide +kernel);have nS:∀ B:HA,(aX B).lookup ("story" : Str)=none:=fun B=>lV B (by decide +kernel);have nW:∀ B:HA,(aX B).lookup ("wears" : Str)=none:=fun B=>lV B (by decide +kernel);have nR:∀ B:HA,(aX B).lookup ("wearer" : Str)=none:=fun B=>lV B (by decide +kernel);have nT:∀ B:HA,(aX B).lookup ("met" : Str)=none:=fun B=>lV B (by decide +kernel);have nP:∀ B:HA,(aX B).lookup ("pairs" : Str)=none:=fun B=>lV B (by decide +kernel);have nQ:∀ B:HA,(aX B).lookup ("partners" : Str)=none:=fun B=>lV B (by decide +kernel)
  have two:(2:Nat)<=sizeLine:=by decide
  have nil0:(0:Nat)<=sizeLine:=BY _
  have dkk:∀ wl:List (Int×Int),(dk wl).map (·.1)=(aA wl).map Sum.inl:=fun wl=>by unfold dk aA;rw[B0,B0];rfl
  have szl:(aA st.worn).length<64:=by unfold aA;rw[Bx];omega
  refine⟨_,rfl,p,B.dx,_,rfl,S.ob,nG B,p,B,_,rfl,S,hwl,fun l1 hl1=>?_⟩;have s1:=am (o:=.lst ((bi (aA st.worn)).map V.int)) hl1;have h1:upd H l1 (.lst ((bi (aA st.worn)).map V.int)) l1=some (.lst ((bi (aA st.worn)).map V.int)):=ae;generalize upd H l1 (.lst ((bi (aA st.worn)).map V.int))=H1 at s1 h1 ⊢;refine⟨_,rfl,w,_,aA st.worn,rfl,s1 _ _ hw,dkk _,szl,fun l2 hl2=>?_⟩;have s2:=am (o:=.lst ((bi (aA st.worn)).map V.int)) hl2;refine⟨l1,l2,_,_,rfl,rfl,sF (bd.of (s2 _ _ h1)),sF (bd.of ae),fun b hb=>⟨_,rfl,?_⟩⟩;rw[show (if true=true then !b else b)=false by rw[hb.mpr rfl];rfl];have S02:=s1.trans s2;generalize upd H1 l2 (.lst ((bi (aA st.worn)).map V.int))=H2 at S02 ⊢;have hS2:=S.mono S02;refine aD ⟨_,rfl,p,B.dx,_,rfl,hS2.ob,nS B,p,B,_,rfl,hS2,fun l3 H3 hl3 s3 d3=>⟨_,rfl,l3,ls,_,_,rfl,rfl,p9 d3,p9 (bL hs (S02.trans s3)),fun b hb=>⟨_,rfl,?_⟩⟩⟩;rw[show (if true=true then !b else b)=false by rw[hb.mpr rfl];rfl];have S03:=S02.trans s3;have hS3:=S.mono S03;obtain⟨as,hls3,hp3⟩:=bL hs S03;refine aD ⟨_,rfl,p,B.dx,_,rfl,hS3.ob,nM B,p,B,_,rfl,hS3,_,rfl,ls,_,rfl,.inl (bd.of hls3),rfl,_,rfl,?_⟩;rw[Bx,BM hp3,BI rfl]
  have pl:(cC st.circ).length<=1000:=by
   have nd1:(cC st.circ).Nodup:=(iD ci).imp fun {a b} z e=>by rw[e,Qs.ltP_irr]at z;cases z
   have:=((List.perm_ext_iff_of_nodup nd1 mo.nd).mpr fun x=>nj ci al mo x).length_eq;omega
  refine aD ⟨_,rfl,p,B.dx,_,rfl,hS3.ob,nP B,p,B,st,L,rfl,hS3,ci,hL,pl,fun l4 H4 hl4 s4 r4=>⟨_,rfl,m,ml,rfl,(S03.trans s4) _ _ hm,mo.nd,hml,fun l5 qs H5 hl5 s5 r5 pm so=>⟨l4,l5,_,_,rfl,rfl,vX (r4.mono s5),vX r5,fun b hb=>⟨_,rfl,?_⟩⟩⟩⟩;rw[show (if true=true then !b else b)=false by rw[hb.mpr (by rw[vw ci al mo pm so])];rfl];have S05:=(S03.trans s4).trans s5;refine aD ⟨_,rfl,w,_,rfl,S05 _ _ hw,fun o=>?_⟩
  have kp:∀ x u,H5 x=some u->x≠w->(upd H5 w (.frz o (.dK (dk st.worn)))) x=some u:=fun x u e n=>by rw[ac n];exact e
  have hw6:(upd H5 w (.frz o (.dK (dk st.worn)))) w=some (.frz o (.dK (dk st.worn))):=ae;have S6:au c.C (upd H5 w (.frz o (.dK (dk st.worn)))) p B st:=(S.mono S05).kept (fp:=[w]) (fun b u e n=>kp b u e (fun z=>n (by rw[z];exact BE))) (fun z=>by have ob:=(S.mono S05).ob;rw[BW.mp z,S05 _ _ hw]at ob;cases ob) (fun b hb z=>wB (by rw[<-BW.mp z];exact hb)) (fun b xs e z=>by rw[BW.mp z,S05 _ _ hw]at e;cases e);generalize upd H5 w (.frz o (.dK (dk st.worn)))=H6 at kp hw6 S6 ⊢
  refine uY (d:=w) (o:=o) (kvs:=dk st.worn) (fun i σ HH=>HH=H6/\∃ v:Option V,σ=[some (.ref p),some (.ref w),some (.ref m),some (.ref ls),v])
   ⟨rfl,none,rfl⟩ (fun i σ HH _ ⟨e,_⟩=>by rw[e];exact hw6) ?_ ?_
  ·rintro i y σ HH hi ⟨rfl,v,rfl⟩
   obtain⟨q,hq,rfl⟩:=bP hi;have hmem:=B9 hq;have lk:look st.worn q.1=some q.2:=jT G.wn hmem;have lh:=(G.wh q.1 q.2).mp lk;have sg:bp q.1:=sm _ (C3 (f:=(·.1)) hmem);have sq:bp q.2:=sm _ (G.ow _ _ lk);have dg:bS HH w (.int q.1) (some (.int q.2)):=.inl ⟨dk st.worn,Sum.inl q.1,.inr ⟨o,hw6⟩,rfl,by rw[bY,lk];rfl⟩;refine⟨_,rfl,p,B.dx,_,rfl,S6.ob,nI B,_,rfl,p,B,st,q.1,rfl,S6,_,_,rfl,rfl,_,rfl,?_⟩;rw[lk];refine aD ⟨_,rfl,p,B.dx,_,rfl,S6.ob,nW B,_,rfl,p,B,st,q.1,rfl,S6,sg,?_⟩;rw[lk];refine⟨_,rfl,_,rfl,w,_,rfl,dg,rfl,_,rfl,?_⟩;rw[BI rfl];refine aD ⟨_,rfl,p,B.dx,_,rfl,S6.ob,nR B,_,rfl,_,rfl,w,_,rfl,dg,p,B,st,q.2,rfl,S6,sq,?_⟩;rw[lh];refine⟨_,rfl,rfl,_,rfl,?_⟩;rw[show (!decide (V.int q.1=kV (Sum.inl q.1,V.int q.2).1))=false by show (!decide (V.int q.1=V.int q.1))=false;simp];exact aD ⟨rfl,_,rfl⟩
  ·rintro σ HH ⟨rfl,v,rfl⟩
   refine⟨w,o,_,hw6,fun o' u' z=>?_,k _ fun x u e=>?_⟩
   ·have z:H w=some (.frz o' u'):=z
    rw[hw]at z;cases z
   ·by_cases hx:x=w
    ·rw[hx,ae]
     rw[hx,hw]at e;exact e
    ·rw[ac hx]
     exact kp x u (S05 _ _ e) hx
theorem yD (F:dj K "law" "law" rC f fd)(MH:Aa P w K mg base c)(fL:aE P w K mg base "_law_deeds" 4 ["_law_script"] (iP K))(bE:aE P w K mg base "_law_size" 1 ["_law_cell"] jB)(bc:aE P w K mg base "_law_cell_at" 1 ["_law_script","_law_k"] (lP K))(Cwritten:aE P w K mg base "written" 2 ["hall"] (gA c))(Copened:aE P w K mg base "opened" 8 ["text"] (o7 c))(jb:aE P w K mg base "_law_due" 2 ["_law_worn","_law_met","_law_deed_here"] sJ)(eQ:aE P w K mg base "_law_told" 6 ["_law_hall","_law_deed_here"] (o8 c))(fJ:aE P w K mg base "_law_after" 2 ["_law_worn","_law_met","_law_deed_here"] kq)(cu:aE P w K mg base "_law_stands" 4 ["_law_hall","_law_worn","_law_met","_law_story"] (iW c)) : aV P w K mg base cf 9 f fd ["_law_script"] (qf K):=by
 refine F.ok cE (fun vs H Q E h=>?_) (fun cdv A outer s H vs Q E hr h=>?_)
 ·obtain⟨a,ns,rfl,_⟩:=h
  rfl
 ·obtain⟨a,ns,rfl,hS,hlen,k⟩:=h
  have hu:=c9 hr
  refine⟨_,af (br 1 cE.nd (bb fL hr.m rfl (fG (pv 0)))) (
   af (br 2 cE.nd (aJ bA (bb bE hr.m rfl (fG (bb bc hr.m rfl (hJ (pv 0) (ai))))) (aJ d5 (bq bO (by rfl) T.len C0 (fG (pv 1))) (ai)))) (
   af (br 3 cE.nd dC) (
   af (br 4 cE.nd vD) (
   af (br 5 cE.nd (oR az)) (
   af (br 6 cE.nd (xR MH U hr.m rfl)) (
   af (br 7 cE.nd (cL)) (
   af (f6 CK rfl (xq (by rfl) T.enumerate (fG (pv 1))) (vI rfl (iI (rg 8 cE.nd) (iI (rg 9 cE.nd) sy))) (af (aP (ar bR (pv 8) (pv 2) (aB _)) (af (br 7 cE.nd (bb Copened hr.m rfl (fG (bb Cwritten hr.m rfl (fG (pv 6)))))) (
   ag (aP (PW.pt (jV (jw (jx (bq tu (by rfl) T.isinstance PyProof.Rows.boot_isinstance (aj (pv 7) (aj (sw (v:=.ref c.C) (by rfl) U.mC rfl) az))))) (f7 (jw (jx (bb cu hr.m rfl (aj (pv 7) (aj (pv 3) (aj (pv 4) (aj (pv 5) az)))))))))) (ag (aq (fC))) (aw)))) (aw)) (
   af (br 10 cE.nd (bb jb hr.m rfl (Ag (pv 3) (pv 4) (pv 9)))) (
   af (aP (ar (lz 1 (xM hr (by decide))) (bb eQ hr.m rfl (hJ (pv 6) (pv 9))) (pv 10) (aB _)) (ag (aq (fC))) (aw)) (
   af (aP (PW.pt (hV (d6 (su (pv 7))) (e8 (ar (lz 1 (xM hr (by decide))) (bb eQ hr.m rfl (hJ (pv 7) (pv 9))) (pv 10) (aB _))))) (ag (aq (fC))) (aw)) (
   ag (aP (ar bR (aT aK (pv 10) (ai) (fun _ _=>rfl)) (ay) (aB _)) (af (a9 (bb fJ hr.m rfl (Ag (pv 3) (pv 4) (pv 9)))) (
   ag (a9 (iE Cp Cj Ck cK (pv 5) (fG (pv 9)))))) (aw)))))))) (
   af (br 11 cE.nd (bb Cwritten hr.m rfl (fG (pv 6)))) (
   af (aP (d6 (vz (pv 7))) (ag (br 7 cE.nd (bb Copened hr.m rfl (fG (pv 11))))) (aw)) (
   af (aP (PW.pt (jV (jw (jx (bb cu hr.m rfl (aj (pv 6) (aj (pv 3) (aj (pv 4) (aj (pv 5) az))))))) (f7 (jw (jx (bb cu hr.m rfl (aj (pv 7) (aj (pv 3) (aj (pv 4) (aj (pv 5) az)))))))))) (ag (aq (fC))) (aw)) (
   ag (aq ((yG (oQ bR (bb Cwritten hr.m rfl (fG (pv 7))) (pv 11) (aB _)) (yI (oQ bR (bb Cwritten hr.m rfl (fG (bb Copened hr.m rfl (fG (pv 11))))) (pv 11) (aB _))))))))))))))))),?_⟩
  have nos:∀ (B:HA)(m:Str),¬ m="worn"->¬ m="holders"->¬ m="circles"->¬ m="deeds"->(aX B).lookup m=none:=fun B m h1 h2 h3 h4=>gO B h1 h2 h3 h4;have nG:∀ B:HA,(aX B).lookup ("guests" : Str)=none:=fun B=>lV B (by decide +kernel);have nM:∀ B:HA,(aX B).lookup ("moment" : Str)=none:=fun B=>lV B (by decide +kernel);have nI:∀ B:HA,(aX B).lookup ("inside" : Str)=none:=fun B=>lV B (by decide +kernel);have nS:∀ B:HA,(aX B).lookup ("story" : Str)=none:=fun B=>lV B (by decide +kernel);have nW:∀ B:HA,(aX B).lookup ("wears" : Str)=none:=fun B=>lV B (by decide +kernel);have nR:∀ B:HA,(aX B).lookup ("wearer" : Str)=none:=fun B=>lV B (by decide +kernel);have nT:∀ B:HA,(aX B).lookup ("met" : Str)=none:=fun B=>lV B (by decide +kernel);have nP:∀ B:HA,(aX B).lookup ("pairs" : Str)=none:=fun B=>lV B (by decide +kernel);have nQ:∀ B:HA,(aX B).lookup ("partners" : Str)=none:=fun B=>lV B (by decide +kernel)
  have two:(2:Nat)<=sizeLine:=by decide
  have nil0:(0:Nat)<=sizeLine:=BY _
  have dkk:∀ wl:List (Int×Int),(dk wl).map (·.1)=(aA wl).map Sum.inl:=fun wl=>by unfold dk aA;rw[B0,B0];rfl
  refine⟨_,rfl,a,ns,rfl,hS,fun lq H6 ds hlq s6 dlq hds hdl hxl=>?_⟩;have hS6:=s6.seq hS;obtain⟨qs,hq6,hqp6⟩:=id dlq;have hql:=BM hqp6;refine⟨_,rfl,a,ns,2,rfl,hS6,by decide,_,rfl,_,rfl,lq,_,rfl,.inl (bd.of hq6),_,_,rfl,rfl,_,_,rfl,rfl,by omega,?_⟩;generalize c5 (eW ns 2)%(((qs.map V.ref).length:Int)+1)=cut;generalize hcn:eW ns 1=cn at hds;have L40:(a6 40 cn).length=40:=tT 40 cn;intro w hw;have sA:=am (o:=.dK []) hw;have hw0:H w=none:=s6.free hw;have hw7:upd H6 w (.dK []) w=some (.dK (dk [])):=ae;have s7:=s6.trans sA;have hq7:=sA _ _ hq6;have hqp7:Paired (fun a x=>upd H6 w (.dK []) a=some (a7 x)) qs ds:=Paired.mapP hqp6 fun b y e=>sA _ _ e;generalize upd H6 w (.dK [])=H7 at hw7 s7 hq7 hqp7 ⊢;intro m hm;have sB:=am (o:=.dT []) hm;have hm0:H m=none:=s7.free hm;have hm8:upd H7 m (.dT []) m=some (.dT (nh [])):=ae;have hw8:=sB _ _ hw7;have s8:=s7.trans sB;have hq8:=sB _ _ hq7;have hqp8:Paired (fun a x=>upd H7 m (.dT []) a=some (a7 x)) qs ds:=Paired.mapP hqp7 fun b y e=>sB _ _ e;generalize upd H7 m (.dT [])=H8 at hm8 hw8 s8 hq8 hqp8 ⊢;refine⟨nil0,fun ls hls=>?_⟩;have sC:=am (o:=.lst []) hls;have hs0:H ls=none:=s8.free hls;have hs9:upd H8 ls (.lst []) ls=some (.lst []):=ae;have hw9:=sC _ _ hw8;have hm9:=sC _ _ hm8;have s9:=s8.trans sC;have hq9:=sC _ _ hq8
  have lqls:lq≠ls:=fun z=>by rw[z,hls]at hq8;cases hq8
  have hqp9:Paired (fun a x=>upd H8 ls (.lst []) a=some (a7 x)) qs ds:=Paired.mapP hqp8 fun b y e=>sC _ _ e;generalize upd H8 ls (.lst [])=H9 at hs9 hw9 hm9 s9 hq9 hqp9 ⊢;clear sA sB sC hw hm hls hq6 hq7 hq8 hqp6 hqp7 hqp8 hw7 hw8 hm8 s7 s8 dlq;intro x dx nx ndx nex;refine⟨x,dx,rfl,ae,fun B H1 S1 kp fr=>⟨rfl,?_⟩⟩
  have s0:aH H9 (upd (upd H9 dx (.own x)) x (.ins c.C dx [])):=fun b o e=>by rw[ac (ah e nx),ac (ah e ndx)];exact e
  have k9:∀ b o,H9 b=some o->H1 b=some o:=fun b o e=>kp b o (s0 b o e) (ah e nx)
  have nB:∀ b o,H9 b=some o->b∉B.fp:=fun b o e z=>by have:=fr b z;rw[s0 b o e]at this;cases this
  have E1:Ev c H H1 x B ⟨[],[],[],[]⟩:=⟨fun b o e=>k9 b o (s9 b o e),S1,kO,fun b hb=>s9.free (s0.free (fr b hb))⟩;have M1:j0 H H1 B w m ls ⟨[],[],[],[]⟩ []:=⟨k9 _ _ hw9,k9 _ _ hm9,⟨[],k9 _ _ hs9,.nil⟩,pj,nB _ _ hw9,nB _ _ hm9,nB _ _ hs9,hw0,hm0,hs0⟩;have hq1:=k9 _ _ hq9;have lqB:=nB _ _ hq9;have hqp1:Paired (fun a x=>H1 a=some (a7 x)) qs ds:=Paired.mapP hqp9 fun b y e=>k9 _ _ e;have lq0:H lq=none:=hlq;have hlm:∀ j,((ds.take j).filter l0).length<=48:=fun j=>B6 ((List.take_sublist j ds).filter l0).length_le hxl;clear k9 nB s0 kp fr hq9 hqp9 hw9 hm9 hs9 s9 nx ndx nex
  refine⟨_,rfl,lq,rfl,⟨_,bd.of hq1⟩,uZ (K:=K) (a:=lq) (xs:=qs.map V.ref) (fun i σ HH=>∃ (B:HA)(st:bw)(ml:List (Int×Int))(vO:V)(v8 v9 v10 v11:Option V),σ=[some (.ref a),some (.ref lq),some (.int cut),some (.ref w),some (.ref m),some (.ref ls),some (.ref x),some vO,v8,v9,v10,v11]/\Ev c H HH x B st/\j0 H HH B w m ls st ml/\Of (a6 40 cn) st/\Sz i st/\tf (a6 40 cn) st/\nJ ml/\ml.length<=((ds.take i).filter l0).length /\
    HH lq=some (.lst (qs.map V.ref))/\lq∉B.fp/\Paired (fun a x=>HH a=some (a7 x)) qs ds/\(∀ d∈st.deeds,∀ g∈names d,g∈a6 40 cn)/\st=hW st.deeds/\gq st.deeds/\pd c H HH st [w,m,ls,lq] B vO)
   ⟨B,_,[],.non,none,none,none,none,rfl,E1,M1,of_empty,Ba,At,Bj,BY _,hq1,lqB,hqp1,(fun d hd=>by cases hd),rfl,(fun i d hd=>by simp at hd),.inl rfl⟩ (fun i σ HH _ ⟨_,_,_,_,_,_,_,_,_,_,_,_,_,_,_,_,h,_⟩=>bd.of h) ?_ ?_⟩
  ·rintro i y σ HH T hi ⟨B,st,ml,vO,v8,v9,v10,v11,rfl,E,M,o,z,ci,mo,lml,hq,lqB,hqp,nmS,hst,dn,ot⟩ hTn
   obtain⟨t,ht,rfl⟩:=bP hi;have hil:i<qs.length:=(List.getElem?_eq_some_iff.mp ht).1;have sT:=am (o:=.tup [.int (i:Int),.ref t]) hTn;have hTT:upd HH T (.tup [.int (i:Int),.ref t]) T=some (.tup [.int (i:Int),.ref t]):=ae;have E:=E.on sT;have M:=M.on sT;have hq:=sT _ _ hq;have ot:=ot.same sT;have hqp:Paired (fun a x=>upd HH T (.tup [.int (i:Int),.ref t]) a=some (a7 x)) qs ds:=Paired.mapP hqp fun b y e=>sT _ _ e;generalize upd HH T (.tup [.int (i:Int),.ref t])=HH at hTT E M hq hqp ot ⊢;clear sT hTn;obtain⟨d,hd,hT⟩:=bM hqp ht;have nmD:=hds d (B9 hd);have smD:∀ g∈names d,bp g:=fun g hg=>b8 (nmD g hg);have smS:∀ d∈st.deeds,∀ g∈names d,bp g:=fun d hd g hg=>b8 (nmS d hd g hg);have zd:=z.d;have lno:=qX E.good o;have lm48:=hlm i;refine⟨T,_,rfl,cr.of hTT,rfl,_,_,rfl,_,_,rfl,rfl,?_⟩;refine⟨_,rfl,_,rfl,rfl,_,rfl,?_⟩
   apply rp (fun σ HX=>∃ vO:V,σ=[some (.ref a),some (.ref lq),some (.int cut),some (.ref w),some (.ref m),some (.ref ls),some (.ref x),some vO,some (.int (i:Int)),some (.ref t),v10,v11]/\aH HH HX/\pd c H HX st [w,m,ls,lq] B vO)
   ·intro rest
    cases hb:decide (V.int (i:Int)=V.int cut) with
    | true =>
     refine bj ⟨_,rfl,x,B,st,rfl,E.hall,by omega,smS,fun H5 s5=>?_⟩;refine⟨st.deeds,a6 40 cn,rfl,dn,by omega,by omega,fun d hd g hg=>⟨nmS d hd g hg,smS d hd g hg⟩,fun d hd g hg=>ni (nmS d hd g hg),fun y B2 H7 hy E7=>?_⟩;rw[<-hst]at E7;have M7:=(M.on s5).on E7.same;refine⟨_,rfl,V.ref y,c.C,_,true,rfl,iq.ins E7.hall.ob U.cl UO.ha UO.hn UO.ht UO.hm,UO.kk,_,rfl,aD ?_⟩;have ot7:=pd.new (lq:=lq) (E.on s5) (M.on s5) ⟨_,s5 _ _ hq⟩ E7
     have wB2:w∉B2.fp:=fun z=>by have n:=E7.nfp w z;rw[(M.on s5).hw]at n;cases n
     refine⟨_,rfl,_,rfl,_,rfl,_,rfl,y,w,m,ls,B2,st,ml,a6 40 cn,rfl,E7.hall,wB2,M7.hw,M7.hm,M7.hs,E7.good,M7.al,ci,mo,by omega,by omega,by omega,fun g hg=>b8 (o.1 g hg),fun H8 s8=>⟨_,rfl,aD ?_⟩⟩;exact rest _ _ ⟨.ref y,rfl,(s5.trans E7.same).trans s8,ot7.same s8⟩
    | false=>exact aD (rest _ _ ⟨vO,rfl,aH.refl _,ot⟩)
   rintro σ HX ⟨vO,rfl,sX,ot⟩;have E:=E.on sX;have M:=M.on sX;have hq:=sX _ _ hq;have hT:=sX _ _ hT;have hqp:Paired (fun a x=>HX a=some (a7 x)) qs ds:=Paired.mapP hqp fun b y e=>sX _ _ e;clear sX hTT;refine⟨_,rfl,_,rfl,_,rfl,w,m,t,st.worn,ml,d,rfl,M.hw,M.hm,hT,fun r H1 hr1 s1 hrt=>?_⟩;have E1:=E.on s1;have M1:=M.on s1;have ot1:=ot.same s1;rw[pE M.al]at hrt;have ft:=rV E1.good o (by omega) z (by omega);refine⟨_,rfl,_,rfl,x,t,B,st,d,rfl,s1 _ _ hT,E1.hall,ft,E1.good,smD,fun r2 H2 hr2 hrt2 mv=>?_⟩;obtain⟨B',S2,kk2,f2,tr2⟩:=mv;obtain⟨E2,kp2⟩:=E1.movedB S2 kk2 f2 (mY E1.good smD);have M2:=M1.moved E1.hall kp2;have ot2:=ot1.first E1.hall kk2 f2;have hr3:=(kp2 r _ hrt (E1.hall.tup hrt)).1
   have hT1:H1 t=some (.tup (be d)):=by rw[<-cw];exact s1 _ _ hT
   have hT2:H2 t=some (a7 d):=by rw[cw];exact (kp2 t _ hT1 (E1.hall.tup hT1)).1
   obtain⟨hq2,lqB2⟩:=kp2 lq _ (s1 _ _ hq) lqB
   have hqp2:Paired (fun a x=>H2 a=some (a7 x)) qs ds:=Paired.mapP hqp fun b y e=>by
    obtain⟨xs,ex⟩:=bz y;rw[ex]at e ⊢;exact (kp2 b _ (s1 _ _ e) (E1.hall.tup (s1 _ _ e))).1
   refine⟨_,rfl,r2,r,_,_,rfl,rfl,oW hrt2,oW hr3,fun b hb=>⟨_,rfl,?_⟩⟩;rw[show (if true=true then !b else b)=false by rw[hb.mpr rfl];rfl];refine aD ?_
   apply rp (fun σ HX=>σ=[some (.ref a),some (.ref lq),some (.int cut),some (.ref w),some (.ref m),some (.ref ls),some (.ref x),some vO,some (.int (i:Int)),some (.ref t),some (.ref r),v11]/\Ev c H HX x B' (aO st d)/\j0 H HX B' w m ls st ml/\pd c H HX (aO st d) [w,m,ls,lq] B' vO/\HX r=some (.tup (mq (aN st d)))/\HX lq=some (.lst (qs.map V.ref))/\HX t=some (a7 d)/\Paired (fun a x=>HX a=some (a7 x)) qs ds)
   ·intro rest
    rcases ot2 with e | ⟨y,Bo,e,So,d1,d2,d3⟩
    ·subst e
     exact⟨_,rfl,_,rfl,aD (aD (rest _ _ ⟨rfl,E2,M2,.inl rfl,hr3,hq2,hT2,hqp2⟩))⟩
    ·subst e
     refine⟨_,rfl,_,rfl,bj ⟨_,rfl,_,rfl,y,t,Bo,st,d,rfl,hT2,So,ft,E1.good,smD,fun r4 H3 hr4 hrt4 mv4=>?_⟩⟩;obtain⟨E3,M3,ot3,kp3⟩:=pd.second E2 M2 So d1 d2 d3 ⟨_,hq2⟩ mv4;have hr5:=kp3 r _ hr3 (So.tup hr3)
     have hT2':H2 t=some (.tup (be d)):=by rw[<-cw];exact hT2
     have hT3:H3 t=some (a7 d):=by rw[cw];exact kp3 t _ hT2' (So.tup hT2')
     have hqp3:Paired (fun a x=>H3 a=some (a7 x)) qs ds:=Paired.mapP hqp2 fun b y e=>by
      obtain⟨xs,ex⟩:=bz y;rw[ex]at e ⊢;exact kp3 b _ e (So.tup e)
     refine⟨_,rfl,r4,r,_,_,rfl,rfl,oW hrt4,oW hr5,fun b hb=>⟨_,rfl,?_⟩⟩;rw[show (if true=true then !b else b)=false by rw[hb.mpr rfl];rfl];exact aD (rest _ _ ⟨rfl,E3,M3,ot3,hr5,kp3 _ _ hq2 (fun z=>d1 _ z (by simp)),hT3,hqp3⟩)
   clear ot2 hr3 hq2 hT2 hqp2 M2 E2 kp2 f2 kk2 S2;rintro σ H2 ⟨rfl,E2,M2,ot2,hr3,hq2,hT2,hqp2⟩;refine⟨_,rfl,r,_,_,_,rfl,rfl,cr.of hr3,gr (j:=0) (AD _),rfl,_,rfl,?_⟩;rw[uk];have o2:=sr E1.good o nmD;have z2:=sO z d;have ci2:=uL ci nmD;have mo2:nJ (fB st ml d):=w9 mo d
   have lm2:(fB st ml d).length<=((ds.take (i+1)).filter l0).length:=by
    have h1:=qM st ml d;rw[Ce,hd,Co,C8,BR];cases e:l0 d<;>simp[e]at h1 ⊢<;>omega
   by_cases hj:aN st d=.done
   case' pos =>
    have en:aO st d=after st d:=by unfold aO;rw[Bz hj]
    have ed:(aO st d).deeds=st.deeds++[d]:=by rw[en,ph]
    have nmS2:∀ e∈(aO st d).deeds,∀ g∈names e,g∈a6 40 cn:=fun e he=>by
     rw[ed]at he;rcases B7.mp he with z | z
     ·exact nmS e z
     ·rw[BW.mp z];exact nmD
    have hst2:aO st d=hW (aO st d).deeds:=by rw[ed,nv,<-hst,en]
    have dn2:gq (aO st d).deeds:=by rw[ed];exact tI dn (by rw[<-hst];exact hj)
    rw[BI hj];obtain⟨as,hl,hp⟩:=id M2.hs;have hal:=BM hp;refine bj ⟨_,rfl,_,rfl,_,rfl,w,m,t,st.worn,ml,d,rfl,M2.hw,M2.hm,hT2,by omega,by omega,(pE M2.al d).trans hj,fun H3 h1 h2 k3=>?_⟩;obtain⟨M4,hl1⟩:=M2.done hj h1 h2 k3 hl hp hT2;refine⟨_,rfl,.inl ⟨rfl,_,bd.of hl1⟩,_,rfl,ls,_,_,rfl,rfl,hl1,by rw[Bx];exact aZ (by have:=z.d;omega),?_⟩
    have kp4:Kp [w,m,ls] H2 (upd H3 ls (.lst (as.map V.ref++[.ref t]))):=fun b o e n=>by
     simp only[BH,Cu,or_false,not_or]at n;rw[ac n.2.2];exact k3 b o e n.1 n.2.1
    have mu3:∀ b∈[w,m,ls],Mu H2 b:=fun b hb=>by
     simp only[BH,Cu,or_false]at hb;rcases hb with rfl | rfl | rfl
     ·exact .inl ⟨_,M2.hw⟩
     ·exact .inr (.inl ⟨_,M2.hm⟩)
     ·exact .inr (.inr ⟨_,hl⟩)
    have tup3:∀ b xs,H2 b=some (.tup xs)->b∉[w,m,ls]:=fun b xs e n=>(mu3 b n).tup e
    have E4:Ev c H (upd H3 ls (.lst (as.map V.ref++[.ref t]))) x B' (aO st d):=E2.write (ws:=[w,m,ls]) kp4
     (fun y hy=>by simp only[BH,Cu,or_false]at hy;rcases hy with rfl | rfl | rfl;exact M2.wB;exact M2.mB;exact M2.sB)
     (fun n=>(mu3 x n).ins E2.hall.ob)
     (fun y hy=>by simp only[BH,Cu,or_false]at hy;rcases hy with rfl | rfl | rfl;exact M2.w0;exact M2.m0;exact M2.s0) tup3
    have ot4:=ot2.write kp4 (fun b hb=>by simp only[BH,Cu,or_false]at hb ⊢;rcases hb with z | z | z;exact .inl z;exact .inr (.inl z);exact .inr (.inr (.inl z))) mu3;have hq4:=kp4 lq _ hq2 (by simp[b9 hq2 M2.hw (by intro z;cases z),b9 hq2 M2.hm (by intro z;cases z),lqls])
    have hqp4:Paired (fun a x=>(upd H3 ls (.lst (as.map V.ref++[.ref t]))) a=some (a7 x)) qs ds:=Paired.mapP hqp2 fun b y e=>by
     obtain⟨xs,ex⟩:=bz y;rw[ex]at e ⊢;exact kp4 b _ e (tup3 b xs e)
    generalize upd H3 ls (.lst (as.map V.ref++[.ref t]))=H4 at M4 E4 hq4 hqp4 ot4 ⊢
   case' neg =>
    have en:aO st d=st:=by unfold aO;rw[By hj]
    have nmS2:∀ e∈(aO st d).deeds,∀ g∈names e,g∈a6 40 cn:=by rw[en];exact nmS
    have hst2:aO st d=hW (aO st d).deeds:=by rw[en];exact hst
    have dn2:gq (aO st d).deeds:=by rw[en];exact dn
    rw[BQ hj];refine aD ?_;have M4:=M2.not hj;have E4:=E2;have hq4:=hq2;have hqp4:=hqp2;have ot4:=ot2;obtain⟨H4,e4⟩:∃ H4,H4=H2:=⟨_,rfl⟩;rw[<-e4]at M4 E4 hq4 hqp4 ot4;rw[<-e4]
   all_goals
    exact⟨B',_,_,vO,_,_,_,_,rfl,E4,M4,o2,z2,ci2,mo2,lm2,hq4,lqB2,hqp4,nmS2,hst2,dn2,ot4⟩
  ·rintro σ HH ⟨B,st,ml,vO,v8,v9,v10,v11,rfl,E,M,o,z,ci,mo,lml,hq,lqB,hqp,nmS,hst,dn,ot⟩
   have smS:∀ d∈st.deeds,∀ g∈names d,bp g:=fun d hd g hg=>b8 (nmS d hd g hg);have l40:=qX E.good o;have lm48:=hlm (qs.map V.ref).length;have zd:=z.d;rw[Bx]at zd;have ns2:∀ d∈st.deeds,∀ g∈names d,g∈a6 40 cn/\bp g:=fun d hd g hg=>⟨nmS d hd g hg,smS d hd g hg⟩;have ns3:∀ d∈st.deeds,∀ g∈names d,uH g:=fun d hd g hg=>ni (nmS d hd g hg);refine⟨_,rfl,x,B,st,rfl,E.hall,by omega,smS,fun H5 s5=>?_⟩;have M5:=M.on s5;have E5:=E.on s5;have ot:=ot.same s5
   apply rp (fun σ HX=>∃ (y:Addr)(B2:HA),σ=[some (.ref a),some (.ref lq),some (.int cut),some (.ref w),some (.ref m),some (.ref ls),some (.ref x),some (.ref y),v8,v9,v10,some (.str (gU st.deeds))]/\aH H5 HX/\au c.C HX y B2 st/\w∉B2.fp)
   ·intro rest
    rcases ot with e | ⟨y,Bo,e,So,d1,d2,d3⟩
    ·subst e
     refine⟨_,rfl,_,rfl,bj ⟨_,rfl,st.deeds,a6 40 cn,rfl,dn,by omega,by omega,ns2,ns3,fun y B2 H7 hy E7=>?_⟩⟩;rw[<-hst]at E7;exact rest _ _ ⟨y,B2,rfl,E7.same,E7.hall,fun z=>by have n:=E7.nfp w z;rw[M5.hw]at n;cases n⟩
    ·subst e
     exact⟨_,rfl,_,rfl,aD (rest _ _ ⟨y,Bo,rfl,aH.refl _,So,fun z=>d1 _ z (by simp)⟩)⟩
   clear ot;rintro σ HX ⟨y,B2,rfl,sX,S2,wB2⟩;have E6:=E5.on sX;have M6:=M5.on sX;refine⟨_,rfl,_,rfl,_,rfl,_,rfl,x,w,m,ls,B,st,ml,a6 40 cn,rfl,E6.hall,M6.wB,M6.hw,M6.hm,M6.hs,E6.good,M6.al,ci,mo,by omega,by omega,by omega,fun g hg=>b8 (o.1 g hg),fun H8 s8=>⟨_,rfl,aD ?_⟩⟩;have M8:=M6.on s8;refine⟨_,rfl,_,rfl,_,rfl,_,rfl,y,w,m,ls,B2,st,ml,a6 40 cn,rfl,S2.mono s8,wB2,M8.hw,M8.hm,M8.hs,E6.good,M8.al,ci,mo,by omega,by omega,by omega,fun g hg=>b8 (o.1 g hg),fun H9 s9=>⟨_,rfl,aD ?_⟩⟩;refine⟨_,rfl,y,B2,st,rfl,(S2.mono s8).mono s9,by omega,smS,fun H10 s10=>?_⟩;refine⟨_,rfl,rfl,_,rfl,?_⟩;rw[BI rfl];refine bj ⟨_,rfl,st.deeds,a6 40 cn,rfl,dn,by omega,by omega,ns2,ns3,fun y3 B3 H11 hy3 E11=>?_⟩;rw[<-hst]at E11;refine⟨y3,B3,st,rfl,E11.hall,by omega,smS,fun H12 s12=>⟨_,rfl,rfl,?_⟩⟩;rw[BI rfl];exact k _
end
theorem all_mk2 {l:PySem.W.OpenLaw}{w:World}{K:PySem.W.Frag}{h:Heap}{mg:Str->Option Value}{fa:Addr}{C cW cA cM cS cT cN fN co t1 t2 t3 t4 t5 t6 t7 t8 n1:Addr}(X:K.In h)(G:h.Ns mainGlobals mg)(hfa:mg "law" = some (.ref fa))(aC:PySem.W.nsIn K mainGlobals "Hall" = some (some (.ref C)))(n_cW:PySem.W.nsIn K mainGlobals "WaltzError" = some (some (.ref cW)))(n_cA:PySem.W.nsIn K mainGlobals "AlreadyIn" = some (some (.ref cA)))(n_cM:PySem.W.nsIn K mainGlobals "Masked" = some (some (.ref cM)))(n_cS:PySem.W.nsIn K mainGlobals "Same" = some (some (.ref cS)))(n_cT:PySem.W.nsIn K mainGlobals "Met" = some (some (.ref cT)))(n_cN:PySem.W.nsIn K mainGlobals "NoGuest" = some (some (.ref cN)))(b_cN:PySem.W.findIn K (.ref cN) "__init__" = some (some (.ref fN)))(pg:PySem.W.plainGet K C Str.empty=true)(hd:PySem.W.hasDictIn K C=true)(po:PySem.W.plainOver K C=true)(sa:PySem.W.findIn K (.ref C) "__setattr__" = some (some (.builtin "object.__setattr__")))(sj:PySem.W.findIn K (.ref C) "worn" = some none)(kZ:PySem.W.findIn K (.ref C) "holders" = some none)(kY:PySem.W.findIn K (.ref C) "circles" = some none)(pQ:PySem.W.findIn K (.ref C) "deeds" = some none)(e_cA:dZ K cA)(e_cM:dZ K cM)(e_cS:dZ K cS)(e_cT:dZ K cT)(e_cN:gZ K cN fN=true)(g1:PySem.W.findIn K (.ref cN) "__getattribute__" = some (some (.builtin "BaseException.__getattribute__")))(g2:PySem.W.findIn K (.ref cN) "__getattr__" = some none)(g3:PySem.W.findIn K (.ref cN) "__setattr__" = some (some (.builtin "object.__setattr__")))(g4:PySem.W.findIn K (.ref cN) "guest" = some none)(g5:PySem.W.hasDictIn K cN=true)(g6:PySem.W.mroIn K cN (.type "BaseException")=some true)(g7:PySem.W.mroIn K cN (.type "object")=some true)(g8:((PySem.W.clsIn K cN).any fun cd=>eL cd.mro)=true)(tN:PySem.W.typeIn K (.ref fN)=some (.type "function"))(wS:PySem.W.specialIn K (.ref cW) "__getattribute__" = some (some (.builtin "type.__getattribute__")))(wR:PySem.W.readsIn K cW (.type "type")=true)(wI:PySem.W.findCls K (.ref cW) (.type "type") "__init__" = some (.val (.builtin "ValueError.__init__")))(x_aa:PySem.W.exmOne K (.ref cA) (.ref cA)=some true)(x_ma:PySem.W.exmOne K (.ref cM) (.ref cA)=some false)(x_mm:PySem.W.exmOne K (.ref cM) (.ref cM)=some true)(x_sa:PySem.W.exmOne K (.ref cS) (.ref cA)=some false)(x_sm:PySem.W.exmOne K (.ref cS) (.ref cM)=some false)(x_ss:PySem.W.exmOne K (.ref cS) (.ref cS)=some true)(x_ta:PySem.W.exmOne K (.ref cT) (.ref cA)=some false)(x_tm:PySem.W.exmOne K (.ref cT) (.ref cM)=some false)(x_ts:PySem.W.exmOne K (.ref cT) (.ref cS)=some false)(x_tt:PySem.W.exmOne K (.ref cT) (.ref cT)=some true)(x_na:PySem.W.exmOne K (.ref cN) (.ref cA)=some false)(x_nm:PySem.W.exmOne K (.ref cN) (.ref cM)=some false)(x_ns:PySem.W.exmOne K (.ref cN) (.ref cS)=some false)(x_nt:PySem.W.exmOne K (.ref cN) (.ref cT)=some false)(x_nn:PySem.W.exmOne K (.ref cN) (.ref cN)=some true)(mk:PySem.W.makesIn K C=true)(kc:PySem.W.keepIn K (.ref C)=true)(n_md:PySem.W.nsIn K mainGlobals "MOST_DIGITS" = some (some (.int 12 t1)))(n_dg:PySem.W.nsIn K mainGlobals "DIGITS" = some (some (.str "0123456789" t2)))(n_dz:PySem.W.nsIn K mainGlobals "DEED_SIZES" = some (some (.ref co)))(dzo:K.lookup co=some (L2.gObj w.params Wz.sizesD [(t3,t4),(t5,t6),(t7,t8)] n1))(dzs:(co == sysModules)=false)(i_ha:PySem.W.findIn K (.ref C) "__class__" = some (some (.builtin "object.__class__")))(i_hn:PySem.W.specialIn K (.builtin "object.__class__") "__get__" = some (some (.builtin "getset_descriptor.__get__")))(i_ht:PySem.W.takesIn K (.builtin "object.__class__")=some true)(i_hm:PySem.W.mroIn K C (.type "object")=some true)(i_kk:PySem.W.kitOne K (.ref C) (.ref C)=some true)(jH:bH K C "__init__" "Hall.__init__" fg)(gK:bf K "_law_cell_at" dJ)(jJ:bf K "_law_crowd" fj)(kB:bf K "_law_size" gi)(jM:bf K "_law_guest" fm)(kA:bf K "_law_deed" gf)(jL:bf K "_law_draws" fk)(eD:bf K "_law_draws_from" cH)(jK:bf K "_law_deeds" cG)(il:bH K C "story" "Hall.story" d8)(mK:bf K "written" dL)(gL:bf K "read_number" cI)(jN:bf K "read_line" dh)(ij:bH K C "dress" "Hall.dress" d7)(jG:bH K C "come" "Hall.come" ff)(fO:bH K cN "__init__" "NoGuest.__init__" c7)(im:bH K C "wears" "Hall.wears" d9)(mG:bH K C "go" "Hall.go" hZ)(kz:bH K C "met" "Hall.met" f9)(fu:bH K C "acquaint" "Hall.acquaint" cP)(fw:bH K C "exchange" "Hall.exchange" cQ)(mH:bf K "do_deed" h9)(pf:bf K "opened" jD)(mJ:bf K "_law_key" ie)(mI:bf K "_law_due" ic)(pe:bf K "_law_do" jC)(kC:bf K "_law_told" gj)(jI:bf K "_law_after" fh)(gG:bH K C "guests" "Hall.guests" dF)(gI:bH K C "moment" "Hall.moment" dH)(fz:bH K C "partners" "Hall.partners" cR)(ik:bH K C "pairs" "Hall.pairs" cX)(gH:bH K C "inside" "Hall.inside" dG)(gJ:bH K C "wearer" "Hall.wearer" dI)(io:bf K "_law_stands" ei)(xH:bf K "law" rC)(x2:PySem.W.nsIn K mainGlobals "len" = some none)(sY:PySem.W.nsIn K mainGlobals "range" = some none)(i9:PySem.W.nsIn K mainGlobals "isinstance" = some none)(sZ:PySem.W.nsIn K mainGlobals "tuple" = some none)(wv:PySem.W.nsIn K mainGlobals "list" = some none)(x0:PySem.W.nsIn K mainGlobals "int" = some none)(wt:PySem.W.nsIn K mainGlobals "bool" = some none)(xY:PySem.W.nsIn K mainGlobals "all" = some none)(xZ:PySem.W.nsIn K mainGlobals "any" = some none)(qi:PySem.W.nsIn K mainGlobals "sorted" = some none)(lT:PySem.W.nsIn K mainGlobals "reversed" = some none)(x5:PySem.W.nsIn K mainGlobals "set" = some none)(x4:PySem.W.nsIn K mainGlobals "min" = some none)(x3:PySem.W.nsIn K mainGlobals "max" = some none)(wu:PySem.W.nsIn K mainGlobals "dict" = some none)(x9:PySem.W.nsIn K mainGlobals "zip" = some none)(jZ:PySem.W.nsIn K mainGlobals "enumerate" = some none)(x8:PySem.W.nsIn K mainGlobals "sum" = some none)(x6:PySem.W.nsIn K mainGlobals "str" = some none) :
  ∃ fd:FuncData,(∀ (s:Shared)(v:Value),BindsTo s fd ⟨[v],[]⟩ [("_law_script",v)])/\∀ base:Heap,K.In base->base.Ns mainGlobals mg->aV l.prog w K mg base cf 9 fa fd ["_law_script"] (qf K):=by
 obtain⟨c,rfl,rfl,rfl,rfl,rfl,rfl,rfl,rfl⟩:∃ c:HX,c.C=C/\c.cW=cW/\c.cA=cA/\c.cM=cM/\c.cS=cS/\c.cT=cT/\c.cN=cN/\c.fN=fN:=⟨⟨C,cW,cA,cM,cS,cT,cN,fN⟩,rfl,rfl,rfl,rfl,rfl,rfl,rfl,rfl⟩;have T:Txt mg:=⟨BV X G x2,BV X G sY,BV X G i9,BV X G sZ,BV X G wv,BV X G x0,BV X G wt,BV X G xY,BV X G xZ,BV X G qi,BV X G lT,BV X G x5,BV X G x4,BV X G x3,BV X G wu,BV X G x9,BV X G jZ,BV X G x8,BV X G x6⟩;have U:HT K mg c:=⟨⟨pg,hd,po,sa⟩,sj,kZ,kY,pQ,Cg X G aC,e_cA,e_cM,e_cS,e_cT,Cg X G n_cA,Cg X G n_cM,Cg X G n_cS,Cg X G n_cT,Cg X G n_cN,Cg X G n_cW,e_cN,⟨g1,g2,g3,g4,g5,g6,g7,g8⟩,tN,wS,wR,wI⟩;have VM:HM K c:=⟨x_aa,x_ma,x_mm,x_sa,x_sm,x_ss,x_ta,x_tm,x_ts,x_tt,x_na,x_nm,x_ns,x_nt,x_nn⟩;have UO:zi K mg w c co:=⟨⟨⟨_,Cg X G n_md,⟨_,rfl⟩⟩,⟨_,Cg X G n_dg,⟨_,rfl⟩⟩,Cg X G n_dz,⟨by decide +kernel,dzs,[(t3,t4),(t5,t6),(t7,t8)],n1,rfl,dzo⟩⟩,i_ha,i_hn,i_ht,i_hm,i_kk⟩;obtain⟨f_Hall_init,og,a_Hall_init,i_Hall_init,G_Hall_init⟩:=jH;obtain⟨f_NoGuest_init,j5,a_NoGuest_init,i_NoGuest_init,G_NoGuest_init⟩:=fO;obtain⟨f_law,ym,a_law,G_law⟩:=xH;have e:=hfa.symm.trans (Cg X G a_law);cases e;have eN:=BF (BF (a_NoGuest_init.symm.trans b_cN))
 have eN2:f_NoGuest_init=c.fN:=by injection eN
 refine⟨ym,?_,fun base _ _=>?_⟩
 ·obtain⟨_,_,_,_,_,_,_,_,_,rfl,_,_⟩:=G_law.ex
  exact fun s v=>.of_eq rfl
 ·have MH:Aa l.prog w K mg base c:=⟨f_Hall_init,og,⟨mk,a_Hall_init,i_Hall_init,kc⟩,oH T U VM UO G_Hall_init ,(G_Hall_init.binds (ps:=["self"]) (by intro _ _ _ _ _ _;(repeat refine zD fun _=>?_);exact zC rfl))⟩
  have bc:aE l.prog w K mg base "_law_cell_at" 1 ["_law_script","_law_k"] (lP K):=pJ X G gK fun _ _ h=>lv T U VM UO h;have fK:aE l.prog w K mg base "_law_crowd" 1 ["_law_cell"] kr:=pJ X G jJ fun _ _ h=>oK T U VM UO h;have bE:aE l.prog w K mg base "_law_size" 1 ["_law_cell"] jB:=pJ X G kB fun _ _ h=>pW T U VM UO h;have bK:aE l.prog w K mg base "_law_guest" 2 ["_law_k","_law_cell"] iR:=pJ X G jM fun _ _ h=>oO T U VM UO h bE;have gW:aE l.prog w K mg base "_law_deed" 3 ["_law_drawn","_law_many","_law_cell"] ku:=pJ X G kA fun _ _ h=>pV T U VM UO h bK;have fM:aE l.prog w K mg base "_law_draws" 2 ["_law_cell","_law_many","_law_base"] kx:=pJ X G jL fun _ _ h=>oN T U VM UO h bE;have cJ:aE l.prog w K mg base "_law_draws_from" 3 ["_law_script","_law_start","_law_most","_law_base"] (o6 K):=pJ X G eD fun _ _ h=>iB T U VM UO h fM;have fL:aE l.prog w K mg base "_law_deeds" 4 ["_law_script"] (iP K):=pJ X G jK fun _ _ h=>oM T U VM UO h bc fK bK gW cJ;have bN:ax l.prog w K mg base cf c.C "story" 1 ["self"] (iX c.C):=sh il fun _ _ h=>mi T U VM UO h;have Cwritten:aE l.prog w K mg base "written" 2 ["hall"] (gA c):=pJ X G mK fun _ _ h=>rc T U VM UO h bN;have Cread_number:aE l.prog w K mg base "read_number" 1 ["word"] xA:=pJ X G gL fun _ _ h=>lx T U VM UO h;have Cread_line:aE l.prog w K mg base "read_line" 2 ["line"] xz:=pJ X G jN fun _ _ h=>oP T U VM UO h Cread_number;have bF:ax l.prog w K mg base cf c.C "dress" 1 ["self","guest","mask"] (iQ c.C):=sh ij fun _ _ h=>mf T U VM UO h;have b7:ax l.prog w K mg base (gn l.prog w) c.C "come" 2 ["self","guest"] (lQ c):=sh jG fun _ _ h=>oG T U VM UO h bF
  have NG:ip l.prog w K mg base c:=⟨j5,eN2▸ka T U VM UO G_NoGuest_init ,(G_NoGuest_init.binds (ps:=["self","guest"]) (by intro _ _ _ _ _ _;(repeat refine zD fun _=>?_);exact zC rfl))⟩;have aW:ax l.prog w K mg base (gn l.prog w) c.C "wears" 3 ["self","guest"] (gz c):=sh im fun _ _ h=>mj T U VM UO h NG;have dq:ax l.prog w K mg base (gn l.prog w) c.C "go" 4 ["self","guest"] (v1 c):=sh mG fun _ _ h=>qY T U VM UO h aW;have gX:ax l.prog w K mg base cf c.C "met" 1 ["self","one","other"] (sL c.C):=sh kz fun _ _ h=>pU T U VM UO h;have bX:ax l.prog w K mg base cf c.C "acquaint" 1 ["self","one","other"] (sI c.C):=sh fu fun _ _ h=>jr T U VM UO h;have bo:ax l.prog w K mg base (gn l.prog w) c.C "exchange" 4 ["self","one","other"] (lR c):=sh fw fun _ _ h=>js T U VM UO h aW gX bF bX;have Cdo_deed:eU l.prog w K mg base "do_deed" 5 ["hall","deed"] (rB c):=A8 X G mH fun _ _ h=>qZ T U VM UO h b7 dq bo;have Copened:aE l.prog w K mg base "opened" 8 ["text"] (o7 c):=pJ X G pf fun _ _ h=>ug T U VM UO h MH Cread_line Cdo_deed;have di:aE l.prog w K mg base "_law_key" 1 ["_law_one","_law_other"] qe:=pJ X G mJ fun _ _ h=>q8 T U VM UO h;have jb:aE l.prog w K mg base "_law_due" 2 ["_law_worn","_law_met","_law_deed_here"] sJ:=pJ X G mI fun _ _ h=>q0 T U VM UO h di;have ky:eU l.prog w K mg base "_law_do" 5 ["_law_hall","_law_deed_here"] (rB c):=A8 X G pe fun _ _ h=>uf T U VM UO h b7 dq bo;have eQ:aE l.prog w K mg base "_law_told" 6 ["_law_hall","_law_deed_here"] (o8 c):=pJ X G kC fun _ _ h=>pX T U VM UO h ky
  have fJ:aE l.prog w K mg base "_law_after" 2 ["_law_worn","_law_met","_law_deed_here"] kq:=pJ X G jI fun _ _ h=>oJ T U VM UO h di;have dS:ax l.prog w K mg base cf c.C "guests" 1 ["self"] (iS c.C):=sh gG fun _ _ h=>lg T U VM UO h;have dW:ax l.prog w K mg base cf c.C "moment" 1 ["self"] (iV c.C):=sh gI fun _ _ h=>lj T U VM UO h;have c3:ax l.prog w K mg base cf c.C "partners" 1 ["self","guest"] (fc c.C):=sh fz fun _ _ h=>jt T U VM UO h;have eR:ax l.prog w K mg base cf c.C "pairs" 2 ["self"] (iT c.C):=sh ik fun _ _ h=>mh T U VM UO h c3;have dU:ax l.prog w K mg base cf c.C "inside" 1 ["self","guest"] (iU c.C):=sh gH fun _ _ h=>li T U VM UO h;have dX:ax l.prog w K mg base (gn l.prog w) c.C "wearer" 3 ["self","mask"] (iY c):=sh gJ fun _ _ h=>lu T U VM UO h NG;have cu:aE l.prog w K mg base "_law_stands" 4 ["_law_hall","_law_worn","_law_met","_law_story"] (iW c):=pJ X G io fun _ _ h=>mn T U VM UO h dS bN dW eR dU aW dX;exact yD T U VM UO G_law MH fL bE bc Cwritten Copened jb eQ fJ cu
theorem walk {l:PySem.W.OpenLaw}{q:Program}{loose:List Str}{XP:(Str->Option Value)->Heap->Prop}{YP:World->Heap->Prop}{d:DefRec}{K:Params->PySem.W.Frag}(hn:l.most=some 63)(hdf:d.params.defaults=[])
  (hY:∀ (w:World)(h:Heap),YP w h->(K w.params).In h)
  (F:∀ (w:World)(mg:Str->Option Value)(fa:Addr)(h:Heap),(K w.params).In h->h.Ns mainGlobals mg->mg d.name=some (.ref fa) ->
   ∃ fd:FuncData,(∀ (s:Shared)(u:Value),BindsTo s fd ⟨[u],[]⟩ [("_law_script",u)])/\∀ base:Heap,(K w.params).In base->base.Ns mainGlobals mg->aV l.prog w (K w.params) mg base cf 9 fa fd ["_law_script"] (qf (K w.params))) :
  PySem.W.WalkO q loose XP YP l.row.toRowW d [] (fun f vs=>PySem.call f vs) :=
 L2.walk_of (n:=63) (k:=9) (x:="_law_script") (CX:=fun _=>cf) (sp:=fun w=>qf (K w.params)) hn (by decide) hdf ⟨rfl,by decide,by decide⟩ hY F (fun _ _ a ns hl _ hS=>⟨a,ns,rfl,hS,hl,fun _=>rfl⟩) fun _ _ _ _ _ z=>z
end Wk49
namespace PySem.W.Fast
def tw7919909627681356175:=0
def tw553935772672433014:=0
def tw12964109581403604672:=0
def tw13260385677416573275:=0
def tw11652249729263048181:=0
def tw3045341205871572237:=0
def tw14399607321929224042:=0
def tw15637841843597661817:=0
def tw5379155826141732782:=0
def tw18254730917356393330:=0
def tw7166000240568230105:=0
def tw9003057694366784296:=0
def tw16677150442444053891:=0
def tw13228358247164420255:=0
def tw14709347028185410450:=0
def tw18350306920399300484:=0
def tw9073425366937847398:=0
def tw11564588036728808063:=0
def tw17546907647179482488:=0
def tw12889060117127854438:=0
def tw17353102580523174422:=0
def tw15898304804633426329:=0
def tw4303508544716408974:=0
def tw12210532547057718714:=0
def tw15173259788218701406:=0
def tw17571059059911663698:=0
def tw970845745231203832:=0
def tw8263148416979438422:=0
def tw15786525334627437116:=0
def tw11680501651916779811:=0
def tw3313099654040489462:=0
def tw6106159567637613638:=0
def tw12913602779770309001:=0
def tw7517171507529710931:=0
def tw17272942401173904104:=0
def tw5957817932806674315:=0
def tw16953883136832018785:=0
def tw5909724162363447895:=0
def tw1899008676892154244:=0
def tw4447318275047413892:=0
def tw3080395911179824441:=0
def tw17865084189818590080:=0
def tw11588131111365446511:=0
def tw7168252943722433437:=0
def tw4775586859287910135:=0
def tw15893714741474431096:=0
def tw6608510302940073335:=0
def tw16255897200450956264:=0
def tw1961035378141575971:=0
def tw13859353902591327220:=0
def tw7462708970141976343:=0
def tw10391461238141945906:=0
def tw2941429095045398659:=0
def tw6025253890690319385:=0
def tw7860529262274869596:=0
def tw6758431794330777171:=0
def tw16757763569450526379:=0
def tw13873477512926662985:=0
def tw15450387404936447230:=0
def tw1474537104937568637:=0
def tw8400035795199693463:=0
def tw11255191585346352272:=0
def tw12909997239309765260:=0
def tw17461588247701061146:=0
def tw11182468434718313137:=0
def tw16031182683397127490:=0
def tw15752712249500406498:=0
def tw14683726727682790466:=0
def tw11308855321891306870:=0
def tw3748449336055334411:=0
def tw9636907486618924656:=0
def tw7688403208160437508:=0
def tw16265355812374904906:=0
def tw17604168374785556164:=0
def tw15445732772396398418:=0
def tw2730704225296338025:=0
def tw8701502231031639122:=0
def tw1094590814825924972:=0
def tw6706757286932392136:=0
def tw14693134300675674306:=0
def tw9581302194020022966:=0
def tw3910393770132540574:=0
def tw15562006749814970139:=0
def tw3861290129814488296:=0
def tw12707493179157888091:=0
def tw5593423786406846776:=0
def tw11487742658797421513:=0
def tw8643743621727766300:=0
def tw10379860299610445752:=0
def tw2859456260178523388:=0
def tw84106561086300965:=0
def tw15469081813302186793:=0
def tw7518523654423278554:=0
def tw3520717018614544522:=0
def tw12083394316252463540:=0
def tw10158117028839087295:=0
def tw11888418199046879713:=0
def tw11828617767963366694:=0
def tw7865896498077985994:=0
def tw14726258893280372236:=0
def tw2293917634339003206:=0
def tw15847529111935728075:=0
def tw3382301398585591563:=0
def tw17054454376968363918:=0
def tw7956683140336801675:=0
def tw1259542919793484887:=0
def tw2881190947082199114:=0
def tw15539512579981175362:=0
def tw1697235186349642867:=0
def tw2629608560202371605:=0
def tw14703718780532549914:=0
def tw12586262554251320048:=0
def tw16269224835148486330:=0
def tw8623805891946700114:=0
def tw3911137458673483174:=0
def tw16896797775820807726:=0
def tw5729547850866631915:=0
def tw5749770400133729565:=0
def tw17713722684959813177:=0
def tw8131236220644571252:=0
def tw7015512083706139176:=0
def tw152751674468041707:=0
def tw6379138011732612455:=0
def tw6185004158646977891:=0
def tw14842421841769989958:=0
def tw5209024276209547191:=0
def tw4070209245546396603:=0
def tw8795775781139163876:=0
def tw17109036679574003815:=0
def tw13941745487722247802:=0
def tw8612834851653704653:=0
def tw3478436280958782014:=0
def tw13179004485208939021:=0
def tw1852943639094483514:=0
def tw620125618417996501:=0
def tw5319407559259622247:=0
def tw6863056133639056806:=0
def tw16968838864747831723:=0
def tw6218946593955991211:=0
def tw17359138261657036888:=0
def tw3581471231399864864:=0
def tw7566920856811235858:=0
def tw2013339309763780179:=0
def tw4289103772867765669:=0
def tw10067966831990515363:=0
def tw1926169375423694125:=0
def tw13128945927456475512:=0
def tw10359696355604146256:=0
def tw8117836167725277966:=0
def tw3353392214509248405:=0
def tw13275095532287854130:=0
def tw13781975714918938955:=0
def tw7603986534461553160:=0
def tw16307820385066186626:=0
def tw10872624837664583140:=0
def tw5992757147009278699:=0
def tw18272076398837406850:=0
def tw1318326858057731664:=0
def tw9037940272507750402:=0
def tw18066563566319248162:=0
def tw2319320024844350596:=0
def tw10784295469840147583:=0
def tw5404768733643413963:=0
def tw17834724003748268301:=0
def tw4081247623167764727:=0
def tw11314857560530925267:=0
def tw14247878356940039534:=0
def tw2804462573710290111:=0
def tw13724808529804391448:=0
def tw15310542568424313401:=0
def tw12414790655713191824:=0
def tw10603519021849195587:=0
def tw3082682900055443291:=0
def tw11649837266779369176:=0
def tw16783233635737340151:=0
def tw7681736727955197621:=0
def tw9313654886131538794:=0
def tw16844664021305328640:=0
def tw17327800037107559241:=0
def tw14999655338084285613:=0
def tw993157103627863069:=0
def tw7370662404372864747:=0
def tw1560819500926495874:=0
def tw2928117356888146827:=0
def tw15682190969949486785:=0
def tw9297356451722735845:=0
def tw7580206099934588745:=0
def tw1326967239764574980:=0
def tw2268486312890511782:=0
def tw3364777792876046722:=0
def tw17903721953069028242:=0
def tw14779356154433838125:=0
def tw10301251592007362466:=0
def tw11646840078265147413:=0
def tw9275716435794212787:=0
def tw10216004136018342593:=0
def tw11346862071042394849:=0
def tw16553660185362272406:=0
def tw17853343925103484370:=0
def tw17020499104895385950:=0
def tw6047624938475360004:=0
def tw15781018152925595334:=0
def tw12568059866861092206:=0
def tw13019296822657550678:=0
def tw8010047889336633467:=0
def tw16977650628121997796:=0
def tw7093609254841213024:=0
def tw993805013640746882:=0
def tw13431549595785684799:=0
def tw2035147524784751855:=0
def tw17475679514237531848:=0
def tw15092934345099234651:=0
def tw10642389949479892461:=0
def tw10946128369211115284:=0
def tw4732931378672063220:=0
def tw12042738038518287514:=0
def tw2761288295249987397:=0
def tw12009351342990683990:=0
def tw17367394282041042750:=0
def tw7426538191764372785:=0
def tw2973408136983447817:=0
def tw3644563260146489725:=0
def tw201232833869755964:=0
def tw17562612170640245948:=0
def tw13206603703439658249:=0
def tw203349907142873988:=0
def tw14639234560485202915:=0
def tw9595343705315430714:=0
def tw3323904231449827049:=0
def tw3173469271828640275:=0
def tw10792234746284375626:=0
def tw8523022402413485460:=0
def tw8040968449542471950:=0
end PySem.W.Fast
open PySem PySem.W PyProof.Rows
set_option maxRecDepth 100000 in
set_option maxHeartbeats 0 in
theorem PySem.Challenge.cw_lastwaltz_k49_whole_book_holds : PySem.Challenge.rw_lastwaltz_k49_whole_book.Holds := by
 w_on;o_law;k_head;(case hw=>w_witness2)
 k_fill
 refine Wk49.walk (l:=PySem.Challenge.rw_lastwaltz_k49_whole_book) rfl rfl (fun w h Y=>PySem.W.kIn_of Y) ?F
 case F =>
  intro w mg fa h KX G hmg;refine' Wk49.all_mk2 KX G hmg ?aC ?n_cW ?n_cA ?n_cM ?n_cS ?n_cT ?n_cN ?b_cN ?pg ?hd ?po ?sa ?sj ?kZ ?kY ?pQ ?e_cA ?e_cM ?e_cS ?e_cT ?e_cN ?g1 ?g2 ?g3 ?g4 ?g5 ?g6 ?g7 ?g8 ?tN ?wS ?wR ?wI ?x_aa ?x_ma ?x_mm ?x_sa ?x_sm ?x_ss ?x_ta ?x_tm ?x_ts ?x_tt ?x_na ?x_nm ?x_ns ?x_nt ?x_nn ?mk ?kc ?n_md ?n_dg ?n_dz ?dzo ?dzs ?i_ha ?i_hn ?i_ht ?i_hm ?i_kk ?jH ?gK ?jJ ?kB ?jM ?kA ?jL ?eD ?jK ?il ?mK ?gL ?jN ?ij ?jG ?fO ?im ?mG ?kz ?fu ?fw ?mH ?pf ?mJ ?mI ?pe ?kC ?jI ?gG ?gI ?fz ?ik ?gH ?gJ ?io ?xH ?x2 ?sY ?i9 ?sZ ?wv ?x0 ?wt ?xY ?xZ ?qi ?lT ?x5 ?x4 ?x3 ?wu ?x9 ?jZ ?x8 ?x6
  (case aC=>k_is)
  (case n_cW=>k_is)
  (case n_cA=>k_is)
  (case n_cM=>k_is)
  (case n_cS=>k_is)
  (case n_cT=>k_is)
  (case n_cN=>k_is)
  (case b_cN=>k_is)
  (case e_cA=>kernel_rfl)
  (case e_cM=>kernel_rfl)
  (case e_cS=>kernel_rfl)
  (case e_cT=>kernel_rfl)
  (case e_cN=>kernel_rfl)
  (case g8=>kernel_rfl)
  (case x_aa=>kernel_rfl)
  (case x_ma=>kernel_rfl)
  (case x_mm=>kernel_rfl)
  (case x_sa=>kernel_rfl)
  (case x_sm=>kernel_rfl)
  (case x_ss=>kernel_rfl)
  (case x_ta=>kernel_rfl)
  (case x_tm=>kernel_rfl)
  (case x_ts=>kernel_rfl)
  (case x_tt=>kernel_rfl)
  (case x_na=>kernel_rfl)
  (case x_nm=>kernel_rfl)
  (case x_ns=>kernel_rfl)
  (case x_nt=>kernel_rfl)
  (case x_nn=>kernel_rfl)
  (case n_md=>k_is)
  (case n_dg=>k_is)
  (case n_dz=>k_is)
  (case dzo=>exact rfl)
  (case dzs=>kernel_rfl)
  (case i_kk=>kernel_rfl)
  all_goals first | (refine' Wz.fact_mk ?a ?l ?c ?k;(case a=>k_is);(case l=>k_is);(case c=>k_is);(case k=>k_is)) | (refine' Wz.mfact_mk ?a ?i ?l ?c ?k;(case a=>k_is);(case i=>k_is);(case l=>k_is);(case c=>k_is);(case k=>k_is)) | k_is
